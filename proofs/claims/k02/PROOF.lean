import PyProof.Rows.All
import Wide.All
import OpenK.AllK
import Wide.FinOn
import HandS.ForMost
import HandS.Defaults
import HandS.MakeKwOnly
import HandS.Flow
import HandS.WideBits
import HandS.SortInts
import HandS.SetFor
import HandS.Comp
import PyProof.ReprRoads
import HandS.Head0
import HandS.Head1
import HandS.Head2
import HandS.HeadEnd
import HandS.HeadHook1
import HandS.HeadHook2
import HandS.Wide
import HandS.IsInst
import HandS.SortKw
import KE.DataMinMax
import PySem.Challenge.RW_midwalk_k02_more_passes
set_option Elab.async false
set_option linter.all false
set_option maxRecDepth 100000
set_option maxHeartbeats 4000000
/-! Mw1: values as trees over the abstract heap; the store by slots; what a slot may hold -/
namespace Mw
open PySem L2

inductive D where
  | non | bl (b : Bool) | int (i : Int) | str (x : Str) | lst (xs : List D) | tup (xs : List D) | dic (kvs : List (Key × D)) | ref (a : Addr) | scr (ns : List Int)

mutual
inductive Rep (H : Hp) : V → D → Prop
  | non : Rep H .non .non
  | bl (b : Bool) : Rep H (.bl b) (.bl b)
  | int (i : Int) : Rep H (.int i) (.int i)
  | str (x : Str) : Rep H (.str x) (.str x)
  | lst {a : Addr} {xs : List V} {ds : List D} : H a = some (.lst xs) → RepL H xs ds → Rep H (.ref a) (.lst ds)
  | tup {a : Addr} {xs : List V} {ds : List D} : H a = some (.tup xs) → RepL H xs ds → Rep H (.ref a) (.tup ds)
  | dic {a : Addr} {xs : List (Key × V)} {ds : List (Key × D)} : H a = some (.dK xs) → RepK H xs ds → Rep H (.ref a) (.dic ds)
  | ref (a : Addr) : Rep H (.ref a) (.ref a)
  | scr {a : Addr} {o : Obj} {ns : List Int} : H a = some (.frz o (.lst (ns.map V.int))) → Rep H (.ref a) (.scr ns)
inductive RepL (H : Hp) : List V → List D → Prop
  | nil : RepL H [] []
  | cons {v : V} {vs : List V} {d : D} {ds : List D} : Rep H v d → RepL H vs ds → RepL H (v :: vs) (d :: ds)
inductive RepK (H : Hp) : List (Key × V) → List (Key × D) → Prop
  | nil : RepK H [] []
  | cons {k : Key} {v : V} {vs : List (Key × V)} {d : D} {ds : List (Key × D)} : Rep H v d → RepK H vs ds → RepK H ((k, v) :: vs) ((k, d) :: ds)
end
section
variable {H H' : Hp}
mutual
theorem Rep.mono (e : Same H H') : ∀ {d : D} {v : V}, Rep H v d → Rep H' v d
  | .non, _, h => by cases h; exact .non
  | .bl _, _, h => by cases h; exact .bl _
  | .int _, _, h => by cases h; exact .int _
  | .str _, _, h => by cases h; exact .str _
  | .ref _, _, h => by cases h; exact .ref _
  | .scr _, _, h => by
    cases h with
    | scr h1 => exact .scr (e _ _ h1)
  | .lst ds, _, h => by
    cases h with
    | lst h1 h2 => exact .lst (e _ _ h1) (RepL.mono e h2)
  | .tup ds, _, h => by
    cases h with
    | tup h1 h2 => exact .tup (e _ _ h1) (RepL.mono e h2)
  | .dic ds, _, h => by
    cases h with
    | dic h1 h2 => exact .dic (e _ _ h1) (RepK.mono e h2)
theorem RepL.mono (e : Same H H') : ∀ {ds : List D} {vs : List V}, RepL H vs ds → RepL H' vs ds
  | [], _, h => by cases h; exact .nil
  | _ :: _, _, h => by
    cases h with
    | cons h1 h2 => exact .cons (Rep.mono e h1) (RepL.mono e h2)
theorem RepK.mono (e : Same H H') : ∀ {ds : List (Key × D)} {vs : List (Key × V)}, RepK H vs ds → RepK H' vs ds
  | [], _, h => by cases h; exact .nil
  | (_, _) :: _, _, h => by
    cases h with
    | cons h1 h2 => exact .cons (Rep.mono e h1) (RepK.mono e h2)
end
theorem rep_int {v : V} {i : Int} (h : Rep H v (.int i)) : v = .int i := by cases h; rfl
theorem rep_bl {v : V} {i : Bool} (h : Rep H v (.bl i)) : v = .bl i := by cases h; rfl
theorem rep_str {v : V} {i : Str} (h : Rep H v (.str i)) : v = .str i := by cases h; rfl
theorem rep_non {v : V} (h : Rep H v .non) : v = .non := by cases h; rfl
theorem rep_ref {v : V} {a : Addr} (h : Rep H v (.ref a)) : v = .ref a := by cases h; rfl
theorem rep_lst {v : V} {ds : List D} (h : Rep H v (.lst ds)) : ∃ a xs, v = .ref a ∧ H a = some (.lst xs) ∧ RepL H xs ds := by
  cases h with
  | lst h1 h2 => exact ⟨_, _, rfl, h1, h2⟩
theorem rep_tup {v : V} {ds : List D} (h : Rep H v (.tup ds)) : ∃ a xs, v = .ref a ∧ H a = some (.tup xs) ∧ RepL H xs ds := by
  cases h with
  | tup h1 h2 => exact ⟨_, _, rfl, h1, h2⟩
theorem rep_dic {v : V} {ds : List (Key × D)} (h : Rep H v (.dic ds)) : ∃ a xs, v = .ref a ∧ H a = some (.dK xs) ∧ RepK H xs ds := by
  cases h with
  | dic h1 h2 => exact ⟨_, _, rfl, h1, h2⟩
theorem RepL.length : ∀ {xs : List V} {ds : List D}, RepL H xs ds → xs.length = ds.length
  | _, _, .nil => rfl
  | _, _, .cons _ h => congrArg Nat.succ (RepL.length h)
theorem RepL.get : ∀ {xs : List V} {ds : List D} {i : Nat} {v : V}, RepL H xs ds → xs[i]? = some v → ∃ d, ds[i]? = some d ∧ Rep H v d
  | _, _, _, _, .nil, e => by simp at e
  | _, _, 0, _, .cons h _, e => by
    have e' : _ = _ := Option.some.inj e
    subst e'
    exact ⟨_, rfl, h⟩
  | _, _, i + 1, _, .cons _ h, e => RepL.get (i := i) h e
theorem RepL.get' {xs : List V} {ds : List D} {i : Nat} {d : D} (h : RepL H xs ds) (e : ds[i]? = some d) : ∃ v, xs[i]? = some v ∧ Rep H v d := by
  have hl := h.length
  have hi := (List.getElem?_eq_some_iff.mp e).1
  have hx : xs[i]? = some (xs[i]'(by omega)) := List.getElem?_eq_getElem (by omega)
  obtain ⟨d', e', r⟩ := h.get hx
  rw [e] at e'
  cases e'
  exact ⟨_, hx, r⟩
theorem RepL.of : ∀ {xs : List V} {ds : List D}, xs.length = ds.length → (∀ (i : Nat) v d, xs[i]? = some v → ds[i]? = some d → Rep H v d) → RepL H xs ds
  | [], [], _, _ => .nil
  | [], _ :: _, h, _ => by cases h
  | _ :: _, [], h, _ => by cases h
  | x :: xs, d :: ds, h, q => .cons (q 0 _ _ rfl rfl) (RepL.of (Nat.succ.inj h) fun i v d' e1 e2 => q (i + 1) v d' e1 e2)
theorem RepL.append : ∀ {xs ys : List V} {ds es : List D}, RepL H xs ds → RepL H ys es → RepL H (xs ++ ys) (ds ++ es)
  | _, _, _, _, .nil, k => k
  | _, _, _, _, .cons h t, k => .cons h (RepL.append t k)
theorem RepL.snoc {xs : List V} {v : V} {ds : List D} {d : D} (h : RepL H xs ds) (k : Rep H v d) : RepL H (xs ++ [v]) (ds ++ [d]) := h.append (.cons k .nil)
theorem RepL.drop : ∀ {xs : List V} {ds : List D} (n : Nat), RepL H xs ds → RepL H (xs.drop n) (ds.drop n)
  | _, _, 0, h => h
  | _, _, _ + 1, .nil => .nil
  | _, _, n + 1, .cons _ h => RepL.drop n h
theorem RepL.take : ∀ {xs : List V} {ds : List D} (n : Nat), RepL H xs ds → RepL H (xs.take n) (ds.take n)
  | _, _, 0, _ => .nil
  | _, _, _ + 1, .nil => .nil
  | _, _, n + 1, .cons h t => .cons h (RepL.take n t)
theorem RepL.set {v : V} {d : D} (k : Rep H v d) : ∀ {xs : List V} {ds : List D} (n : Nat), RepL H xs ds → RepL H (xs.set n v) (ds.set n d)
  | _, _, _, .nil => .nil
  | _, _, 0, .cons _ t => .cons k t
  | _, _, n + 1, .cons h t => .cons h (RepL.set k n t)
theorem RepL.eraseIdx : ∀ {xs : List V} {ds : List D} (n : Nat), RepL H xs ds → RepL H (xs.eraseIdx n) (ds.eraseIdx n)
  | _, _, _, .nil => .nil
  | _, _, 0, .cons _ t => t
  | _, _, n + 1, .cons h t => .cons h (RepL.eraseIdx n t)
theorem RepL.reps {xs : List V} {ds : List D} (h : RepL H xs ds) : ∀ n : Nat, RepL H (List.replicate n xs).flatten (List.replicate n ds).flatten
  | 0 => .nil
  | n + 1 => by
    rw [List.replicate_succ, List.replicate_succ, List.flatten_cons, List.flatten_cons]
    exact h.append (RepL.reps h n)
theorem RepL.reverse {xs : List V} {ds : List D} (h : RepL H xs ds) : RepL H xs.reverse ds.reverse := by
  induction ds generalizing xs with
  | nil => cases h; exact .nil
  | cons d r ih =>
    cases h with
    | cons h1 h2 =>
      rw [List.reverse_cons, List.reverse_cons]
      exact (ih h2).snoc h1
/-- a list of scalars -/
theorem RepL.ints : ∀ {xs : List V} {ns : List Int}, RepL H xs (ns.map D.int) → xs = ns.map V.int
  | _, [], h => by cases h; rfl
  | _, n :: ns, h => by
    cases h with
    | cons h1 h2 => rw [rep_int h1, RepL.ints h2]; rfl
theorem RepL.of_ints : ∀ {ns : List Int}, RepL H (ns.map V.int) (ns.map D.int)
  | [] => .nil
  | n :: ns => .cons (.int n) RepL.of_ints
end

/-! ### what is one's own -/
/-- frozen data; a list of one's own with frozen items; a list, a tuple of one's own with such things in it -/
inductive L where
  | fz (d : D) | own (ds : List D) | olst (ls : List L) | otup (ls : List L)
mutual
inductive RepO (F H : Hp) : V → L → List Addr → Prop
  | fz {v : V} {d : D} : Rep F v d → RepO F H v (.fz d) []
  | own {a : Addr} {xs : List V} {ds : List D} : H a = some (.lst xs) → RepL F xs ds → RepO F H (.ref a) (.own ds) [a]
  | olst {a : Addr} {xs : List V} {ls : List L} {as : List Addr} : H a = some (.lst xs) → RepOs F H xs ls as → RepO F H (.ref a) (.olst ls) (a :: as)
  | otup {a : Addr} {xs : List V} {ls : List L} {as : List Addr} : H a = some (.tup xs) → RepOs F H xs ls as → RepO F H (.ref a) (.otup ls) (a :: as)
inductive RepOs (F H : Hp) : List V → List L → List Addr → Prop
  | nil : RepOs F H [] [] []
  | cons {v : V} {vs : List V} {l : L} {ls : List L} {as bs : List Addr} : RepO F H v l as → RepOs F H vs ls bs → RepOs F H (v :: vs) (l :: ls) (as ++ bs)
end
mutual
def L.toD : L → D
  | .fz d => d
  | .own ds => .lst ds
  | .olst ls => .lst (L.toDs ls)
  | .otup ls => .tup (L.toDs ls)
def L.toDs : List L → List D
  | [] => []
  | l :: ls => l.toD :: L.toDs ls
end
section
variable {F F' H H' : Hp}
mutual
theorem RepO.mono (f : Same F F') : ∀ {l : L} {v : V} {as : List Addr}, RepO F H v l as → (∀ b o, b ∈ as → H b = some o → H' b = some o) → RepO F' H' v l as
  | .fz d, _, _, h, _ => by
    cases h with
    | fz h1 => exact .fz (h1.mono f)
  | .own ds, _, _, h, k => by
    cases h with
    | own h1 h2 => exact .own (k _ _ (List.mem_singleton.mpr rfl) h1) (h2.mono f)
  | .olst ls, _, _, h, k => by
    cases h with
    | olst h1 h2 => exact .olst (k _ _ List.mem_cons_self h1) (RepOs.mono f h2 fun b o hb => k b o (List.mem_cons_of_mem _ hb))
  | .otup ls, _, _, h, k => by
    cases h with
    | otup h1 h2 => exact .otup (k _ _ List.mem_cons_self h1) (RepOs.mono f h2 fun b o hb => k b o (List.mem_cons_of_mem _ hb))
theorem RepOs.mono (f : Same F F') : ∀ {ls : List L} {vs : List V} {as : List Addr}, RepOs F H vs ls as → (∀ b o, b ∈ as → H b = some o → H' b = some o) → RepOs F' H' vs ls as
  | [], _, _, h, _ => by cases h; exact .nil
  | l :: ls, _, _, h, k => by
    cases h with
    | cons h1 h2 => exact .cons (RepO.mono f h1 fun b o hb => k b o (List.mem_append_left _ hb)) (RepOs.mono f h2 fun b o hb => k b o (List.mem_append_right _ hb))
end
mutual
theorem RepO.now (s : Same F H) : ∀ {l : L} {v : V} {as : List Addr}, RepO F H v l as → Rep H v l.toD
  | .fz d, _, _, h => by
    cases h with
    | fz h1 =>
      unfold L.toD
      exact h1.mono s
  | .own ds, _, _, h => by
    cases h with
    | own h1 h2 =>
      unfold L.toD
      exact .lst h1 (h2.mono s)
  | .olst ls, _, _, h => by
    cases h with
    | olst h1 h2 =>
      unfold L.toD
      exact .lst h1 (RepOs.now s h2)
  | .otup ls, _, _, h => by
    cases h with
    | otup h1 h2 =>
      unfold L.toD
      exact .tup h1 (RepOs.now s h2)
theorem RepOs.now (s : Same F H) : ∀ {ls : List L} {vs : List V} {as : List Addr}, RepOs F H vs ls as → RepL H vs (L.toDs ls)
  | [], _, _, h => by
    cases h
    unfold L.toDs
    exact .nil
  | l :: ls, _, _, h => by
    cases h with
    | cons h1 h2 =>
      unfold L.toDs
      exact .cons (RepO.now s h1) (RepOs.now s h2)
end
-- every own address stands in the heap
mutual
theorem RepO.there : ∀ {l : L} {v : V} {as : List Addr}, RepO F H v l as → ∀ a ∈ as, ∃ o, H a = some o
  | .fz d, _, _, h, a, ha => by
    cases h
    cases ha
  | .own ds, _, _, h, a, ha => by
    cases h with
    | own h1 h2 => exact ⟨_, by rw [List.mem_singleton.mp ha]; exact h1⟩
  | .olst ls, _, _, h, a, ha => by
    cases h with
    | olst h1 h2 =>
      rcases List.mem_cons.mp ha with rfl | ha
      · exact ⟨_, h1⟩
      · exact RepOs.there h2 a ha
  | .otup ls, _, _, h, a, ha => by
    cases h with
    | otup h1 h2 =>
      rcases List.mem_cons.mp ha with rfl | ha
      · exact ⟨_, h1⟩
      · exact RepOs.there h2 a ha
theorem RepOs.there : ∀ {ls : List L} {vs : List V} {as : List Addr}, RepOs F H vs ls as → ∀ a ∈ as, ∃ o, H a = some o
  | [], _, _, h, a, ha => by
    cases h
    cases ha
  | l :: ls, _, _, h, a, ha => by
    cases h with
    | cons h1 h2 =>
      rcases List.mem_append.mp ha with ha | ha
      · exact RepO.there h1 a ha
      · exact RepOs.there h2 a ha
end
theorem RepOs.len {F H : Hp} : ∀ {vs : List V} {ls : List L} {as : List Addr}, RepOs F H vs ls as → vs.length = ls.length
  | _, _, _, .nil => rfl
  | _, _, _, .cons _ h => congrArg Nat.succ (RepOs.len h)
-- in two heaps of which one holds what the other does, the addresses are the same
mutual
theorem RepO.uniq {F F2 H H2 : Hp} : ∀ {l : L} {v : V} {as bs : List Addr}, RepO F H v l as → RepO F2 H2 v l bs → (∀ a ∈ as, H2 a = H a) → as = bs
  | .fz d, _, _, _, h, k, _ => by
    cases h
    cases k
    rfl
  | .own ds, _, _, _, h, k, _ => by
    cases h
    cases k
    rfl
  | .olst ls, _, _, _, h, k, e => by
    cases h with
    | olst h1 h2 =>
      cases k with
      | olst k1 k2 =>
        rw [e _ List.mem_cons_self, h1] at k1
        cases k1
        rw [RepOs.uniq h2 k2 fun a ha => e a (List.mem_cons_of_mem _ ha)]
  | .otup ls, _, _, _, h, k, e => by
    cases h with
    | otup h1 h2 =>
      cases k with
      | otup k1 k2 =>
        rw [e _ List.mem_cons_self, h1] at k1
        cases k1
        rw [RepOs.uniq h2 k2 fun a ha => e a (List.mem_cons_of_mem _ ha)]
theorem RepOs.uniq {F F2 H H2 : Hp} : ∀ {ls : List L} {vs : List V} {as bs : List Addr}, RepOs F H vs ls as → RepOs F2 H2 vs ls bs → (∀ a ∈ as, H2 a = H a) → as = bs
  | [], _, _, _, h, k, _ => by
    cases h
    cases k
    rfl
  | l :: ls, _, _, _, h, k, e => by
    cases h with
    | cons h1 h2 =>
      cases k with
      | cons k1 k2 => rw [RepO.uniq h1 k1 fun a ha => e a (List.mem_append_left _ ha), RepOs.uniq h2 k2 fun a ha => e a (List.mem_append_right _ ha)]
end
/-- the frozen part with some addresses more, as they stand in the heap -/
def frz (F H : Hp) (as : List Addr) : Hp := fun b => if b ∈ as then H b else F b
theorem frz_in {as : List Addr} {b : Addr} (h : b ∈ as) : frz F H as b = H b := if_pos h
theorem frz_out {as : List Addr} {b : Addr} (h : b ∉ as) : frz F H as b = F b := if_neg h
theorem same_frzL {as : List Addr} (fr : ∀ a ∈ as, F a = none) : Same F (frz F H as) := fun b o e => by
  by_cases hb : b ∈ as
  · rw [fr b hb] at e
    cases e
  · rw [frz_out hb]
    exact e
theorem same_frzR {as : List Addr} (s : Same F H) : Same (frz F H as) H := fun b o e => by
  by_cases hb : b ∈ as
  · rw [frz_in hb] at e
    exact e
  · rw [frz_out hb] at e
    exact s _ _ e
mutual
theorem RepO.frzD {as : List Addr} (f : Same F F') : ∀ {l : L} {v : V} {as : List Addr}, RepO F H v l as → (∀ b o, b ∈ as → H b = some o → F' b = some o) → Rep F' v l.toD
  | .fz d, _, _, h, _ => by
    cases h with
    | fz h1 =>
      unfold L.toD
      exact h1.mono f
  | .own ds, _, _, h, k => by
    cases h with
    | own h1 h2 =>
      unfold L.toD
      exact .lst (k _ _ (List.mem_singleton.mpr rfl) h1) (h2.mono f)
  | .olst ls, _, _, h, k => by
    cases h with
    | olst h1 h2 =>
      unfold L.toD
      exact .lst (k _ _ List.mem_cons_self h1) (RepOs.frzD (as := as) f h2 fun b o hb => k b o (List.mem_cons_of_mem _ hb))
  | .otup ls, _, _, h, k => by
    cases h with
    | otup h1 h2 =>
      unfold L.toD
      exact .tup (k _ _ List.mem_cons_self h1) (RepOs.frzD (as := as) f h2 fun b o hb => k b o (List.mem_cons_of_mem _ hb))
theorem RepOs.frzD {as : List Addr} (f : Same F F') : ∀ {ls : List L} {vs : List V} {as : List Addr}, RepOs F H vs ls as → (∀ b o, b ∈ as → H b = some o → F' b = some o) → RepL F' vs (L.toDs ls)
  | [], _, _, h, _ => by
    cases h
    unfold L.toDs
    exact .nil
  | l :: ls, _, _, h, k => by
    cases h with
    | cons h1 h2 =>
      unfold L.toDs
      exact .cons (RepO.frzD (as := as) f h1 fun b o hb => k b o (List.mem_append_left _ hb)) (RepOs.frzD (as := as) f h2 fun b o hb => k b o (List.mem_append_right _ hb))
end
end

/-! ### slots -/
/-- what a slot holds: nothing known; a value that never changes again; something of one's own; the caller's own list, handed in -/
inductive SV where
  | un | d (d : D) | lo (l : L) | par (ds : List D)
abbrev SV.own (ds : List D) : SV := .lo (.own ds)
def SlotOk (F H : Hp) : SV → Option V → List Addr → Prop
  | .un, _, _ => True
  | .d d, o, _ => ∃ v, o = some v ∧ Rep F v d
  | .lo l, o, as => ∃ v, o = some v ∧ RepO F H v l as
  | .par ds, o, as => ∃ v, o = some v ∧ RepO F H v (.own ds) as
structure Bs where
  F0 : Hp
  H0 : Hp
  ps : List (Nat × Addr)
abbrev Ow := Nat → List Addr
/-- the state: F the part that never changes again; ow the addresses that a slot owns -/
structure Ab (B : Bs) (ρ : List SV) (ow : Ow) (σ : St) (H F : Hp) : Prop where
  sub : Same F H
  keep : ∀ b o, B.H0 b = some o → (∀ p ∈ B.ps, p.2 ≠ b) → H b = some o
  f : Same B.F0 F
  new : ∀ a o, F a = some o → B.F0 a = none → B.H0 a = none
  len : σ.length = ρ.length
  sl : ∀ (i : Nat) s o, ρ[i]? = some s → σ[i]? = some o → SlotOk F H s o (ow i)
  own : ∀ (i : Nat) a, a ∈ ow i → F a = none ∧ (∃ o, H a = some o) ∧ (B.H0 a = none ∨ ∃ p ∈ B.ps, p.2 = a)
  par : ∀ p ∈ B.ps, σ[p.1]? = some (some (.ref p.2)) ∧ p.2 ∈ ow p.1 ∧ ∃ ds, ρ[p.1]? = some (.par ds)
  parI : ∀ (i : Nat) ds, ρ[i]? = some (.par ds) → ∃ a, (i, a) ∈ B.ps
  nd : ∀ i : Nat, (ow i).Nodup
  dist : ∀ (i j : Nat) a, a ∈ ow i → a ∈ ow j → i = j
  em : ∀ i : Nat, (∀ l, ρ[i]? ≠ some (.lo l)) → (∀ ds, ρ[i]? ≠ some (.par ds)) → ow i = []
section
variable {B : Bs} {ρ ρ' : List SV} {ow : Ow} {σ σ' : St} {H H' F F' : Hp}
theorem Ab.at_ (A : Ab B ρ ow σ H F) {i : Nat} {s : SV} (h : ρ[i]? = some s) : ∃ o, σ[i]? = some o ∧ SlotOk F H s o (ow i) := by
  have hi := (List.getElem?_eq_some_iff.mp h).1
  have e : σ[i]? = some (σ[i]'(by rw [A.len]; exact hi)) := List.getElem?_eq_getElem _
  exact ⟨_, e, A.sl i s _ h e⟩
theorem Ab.d (A : Ab B ρ ow σ H F) {i : Nat} {d : D} (h : ρ[i]? = some (.d d)) : ∃ v, σ[i]? = some (some v) ∧ Rep F v d := by
  obtain ⟨o, e, v, rfl, r⟩ := A.at_ h
  exact ⟨v, e, r⟩
theorem Ab.lo (A : Ab B ρ ow σ H F) {i : Nat} {l : L} (h : ρ[i]? = some (.lo l)) : ∃ v, σ[i]? = some (some v) ∧ RepO F H v l (ow i) := by
  obtain ⟨o, e, v, rfl, r⟩ := A.at_ h
  exact ⟨v, e, r⟩
/-- a slot that holds a list of one's own -/
def IsOwn (ρ : List SV) (i : Nat) (ds : List D) : Prop := ρ[i]? = some (.lo (.own ds)) ∨ ρ[i]? = some (.par ds)
theorem Ab.mine (A : Ab B ρ ow σ H F) {i : Nat} {ds : List D} (h : IsOwn ρ i ds) : ∃ a xs, σ[i]? = some (some (.ref a)) ∧ ow i = [a] ∧ F a = none ∧ H a = some (.lst xs) ∧ RepL F xs ds := by
  have core : ∃ v, σ[i]? = some (some v) ∧ RepO F H v (.own ds) (ow i) := by
    rcases h with h | h
    · exact A.lo h
    · obtain ⟨o, e, v, rfl, r⟩ := A.at_ h
      exact ⟨v, e, r⟩
  obtain ⟨v, e, r⟩ := core
  generalize hw : ow i = as at r
  cases r with
  | own h1 h2 => exact ⟨_, _, e, rfl, (A.own i _ (by rw [hw]; exact List.mem_singleton.mpr rfl)).1, h1, h2⟩
/-- the heap grows, the frozen part grows by new objects -/
theorem Ab.grow (A : Ab B ρ ow σ H F) (h : Same H H') (f : Same F F') (s : Same F' H') (n : ∀ a o, F' a = some o → F a = none → H a = none) : Ab B ρ ow σ H' F' where
  sub := s
  keep := fun b o e k => h _ _ (A.keep b o e k)
  f := A.f.trans f
  new := fun a o e e0 => by
    cases q : F a with
    | some u => exact A.new a u q e0
    | none =>
      have hn := n a o e q
      cases r : B.H0 a with
      | none => rfl
      | some u =>
        by_cases k : ∀ p ∈ B.ps, p.2 ≠ a
        · rw [A.keep a u r k] at hn
          cases hn
        · exfalso
          apply k
          intro p hp e1
          obtain ⟨e2, e3, _⟩ := A.par p hp
          obtain ⟨_, ⟨x, e5⟩, _⟩ := A.own _ _ e3
          rw [e1, hn] at e5
          cases e5
  len := A.len
  sl := fun i s' o e1 e2 => by
    have q := A.sl i s' o e1 e2
    cases s' with
    | un => trivial
    | d d =>
      obtain ⟨v, rfl, r⟩ := q
      exact ⟨v, rfl, r.mono f⟩
    | lo l =>
      obtain ⟨v, rfl, r⟩ := q
      exact ⟨v, rfl, r.mono f fun b o _ e => h _ _ e⟩
    | par ds =>
      obtain ⟨v, rfl, r⟩ := q
      exact ⟨v, rfl, r.mono f fun b o _ e => h _ _ e⟩
  own := fun i a ha => by
    obtain ⟨z1, ⟨x, z2⟩, z3⟩ := A.own i a ha
    refine ⟨?_, ⟨x, h _ _ z2⟩, z3⟩
    cases r : F' a with
    | none => rfl
    | some u =>
      rw [n a u r z1] at z2
      cases z2
  par := A.par
  parI := A.parI
  nd := A.nd
  dist := A.dist
  em := A.em
/-- only the heap grows -/
theorem Ab.heap (A : Ab B ρ ow σ H F) (h : Same H H') : Ab B ρ ow σ H' F := A.grow h (Same.refl _) (A.sub.trans h) fun a o e q => by
  rw [e] at q
  cases q
/-- a new object of the heap is laid into the frozen part -/
theorem same_upd {p : Addr} {o : HO} (h : H p = none) : Same H (upd H p o) := fun b x e => by
  rw [upd_ne (ne_of_none e h)]
  exact e
theorem same_frz {p : Addr} {o : HO} (s : Same F H) : Same (upd F p o) (upd H p o) := fun b x e => by
  by_cases hb : b = p
  · subst hb
    rw [upd_same] at e ⊢
    exact e
  · rw [upd_ne hb] at e ⊢
    exact s _ _ e
/-- a new object that is frozen at once -/
theorem Ab.laid (A : Ab B ρ ow σ H F) {p : Addr} {o : HO} (hp : H p = none) : Ab B ρ ow σ (upd H p o) (upd F p o) := by
  have fp : F p = none := A.sub.free hp
  refine A.grow (same_upd hp) (same_upd fp) (same_frz A.sub) fun a x e q => ?_
  by_cases ha : a = p
  · subst ha
    exact hp
  · rw [upd_ne ha, q] at e
    cases e
/-- a new address is nobody's -/
theorem Ab.nobody (A : Ab B ρ ow σ H F) {p : Addr} (hp : H p = none) : F p = none ∧ B.H0 p = none ∧ ∀ i : Nat, p ∉ ow i := by
  refine ⟨A.sub.free hp, ?_, fun i hi => ?_⟩
  · cases r : B.H0 p with
    | none => rfl
    | some u =>
      by_cases k : ∀ q ∈ B.ps, q.2 ≠ p
      · rw [A.keep p u r k] at hp
        cases hp
      · exfalso
        apply k
        intro q hq e1
        obtain ⟨_, e3, _⟩ := A.par q hq
        obtain ⟨_, ⟨x, e5⟩, _⟩ := A.own _ _ e3
        rw [e1, hp] at e5
        cases e5
  · obtain ⟨_, ⟨x, e5⟩, _⟩ := A.own i p hi
    rw [hp] at e5
    cases e5
/-- the owners after forgetting slots -/
def owW (ρ' : List SV) (ow : Ow) : Ow := fun i => match ρ'[i]? with
  | some .un => []
  | _ => ow i
theorem owW_mem {i : Nat} {a : Addr} (h : a ∈ owW ρ' ow i) : a ∈ ow i := by
  unfold owW at h
  split at h
  · cases h
  · exact h
/-- forgetting slots -/
theorem Ab.weak (A : Ab B ρ ow σ H F) (hl : ρ'.length = ρ.length) (w : ∀ (i : Nat) s, ρ'[i]? = some s → s = .un ∨ ρ[i]? = some s) (wp : ∀ (i : Nat) ds, ρ[i]? = some (.par ds) → ρ'[i]? = some (.par ds)) : Ab B ρ' (owW ρ' ow) σ H F where
  sub := A.sub
  keep := A.keep
  f := A.f
  new := A.new
  len := A.len.trans hl.symm
  sl := fun i s o e1 e2 => by
    rcases w i s e1 with rfl | q
    · trivial
    · have z := A.sl i s o q e2
      have ez : s ≠ .un → owW ρ' ow i = ow i := fun n => by
        unfold owW
        rw [e1]
        cases s with
        | un => exact absurd rfl n
        | d _ => rfl
        | lo _ => rfl
        | par _ => rfl
      cases s with
      | un => trivial
      | d _ => exact z
      | lo _ =>
        rw [ez (by intro q; cases q)]
        exact z
      | par _ =>
        rw [ez (by intro q; cases q)]
        exact z
  own := fun i a ha => A.own i a (owW_mem ha)
  par := fun p hp => by
    obtain ⟨e, z, ds, q⟩ := A.par p hp
    have e2 := wp _ _ q
    refine ⟨e, ?_, ds, e2⟩
    unfold owW
    rw [e2]
    exact z
  parI := fun i ds e => by
    rcases w i _ e with z | q
    · cases z
    · exact A.parI i ds q
  nd := fun i => by
    unfold owW
    split
    · exact List.nodup_nil
    · exact A.nd i
  dist := fun i j a h1 h2 => A.dist i j a (owW_mem h1) (owW_mem h2)
  em := fun i n1 n2 => by
    cases e : ρ'[i]? with
    | none =>
      have z : owW ρ' ow i = ow i := by
        unfold owW
        rw [e]
      rw [z]
      refine A.em i (fun l q => ?_) fun ds q => ?_
      · have := (List.getElem?_eq_some_iff.mp q).1
        have := List.getElem?_eq_none_iff.mp e
        omega
      · have := (List.getElem?_eq_some_iff.mp q).1
        have := List.getElem?_eq_none_iff.mp e
        omega
    | some s =>
      rcases w i s e with rfl | q
      · unfold owW
        rw [e]
      · have z : owW ρ' ow i = [] ∨ owW ρ' ow i = ow i := by
          unfold owW
          split
          · exact .inl rfl
          · exact .inr rfl
        rcases z with z | z
        · exact z
        · rw [z]
          exact A.em i (fun l q2 => n1 l (by rw [e, ← q]; exact q2)) fun ds q2 => n2 ds (by rw [e, ← q]; exact q2)
theorem set_at {α : Type} {l : List α} {i j : Nat} {x y : α} (e : (l.set i x)[j]? = some y) : (i = j ∧ y = x) ∨ (i ≠ j ∧ l[j]? = some y) := by
  by_cases h : i = j
  · subst h
    have hi := (List.getElem?_eq_some_iff.mp e).1
    rw [List.length_set] at hi
    rw [List.getElem?_set_self hi] at e
    exact .inl ⟨rfl, (Option.some.inj e).symm⟩
  · rw [List.getElem?_set_ne h] at e
    exact .inr ⟨h, e⟩
def owS (ow : Ow) (i : Nat) (as : List Addr) : Ow := fun j => if j = i then as else ow j
theorem owS_same {i : Nat} {as : List Addr} : owS ow i as i = as := if_pos rfl
theorem owS_ne {i j : Nat} {as : List Addr} (h : j ≠ i) : owS ow i as j = ow j := if_neg h
/-- a slot gets a new value -/
theorem Ab.setAny (A : Ab B ρ ow σ H F) {i : Nat} {v : V} {s : SV} {as : List Addr} (np : ∀ ds, ρ[i]? ≠ some (.par ds)) (nps : ∀ ds, s ≠ .par ds) (ok : SlotOk F H s (some v) as) (nd : as.Nodup)
    (fr : ∀ a ∈ as, F a = none ∧ B.H0 a = none ∧ (∃ o, H a = some o) ∧ ∀ j : Nat, j ≠ i → a ∉ ow j) (he : (∀ l, s ≠ .lo l) → as = []) (hx : as ≠ [] → i < ρ.length) : Ab B (ρ.set i s) (owS ow i as) (σ.set i (some v)) H F where
  sub := A.sub
  keep := A.keep
  f := A.f
  new := A.new
  len := by rw [List.length_set, List.length_set, A.len]
  sl := fun j t o e1 e2 => by
    rcases set_at e1 with ⟨rfl, rfl⟩ | ⟨n, q⟩
    · rcases set_at e2 with ⟨_, rfl⟩ | ⟨m, _⟩
      · rw [owS_same]
        exact ok
      · exact absurd rfl m
    · rcases set_at e2 with ⟨m, _⟩ | ⟨_, q2⟩
      · exact absurd m n
      · rw [owS_ne (Ne.symm n)]
        exact A.sl j t o q q2
  own := fun j a ha => by
    by_cases h : j = i
    · subst h
      rw [owS_same] at ha
      obtain ⟨z1, z2, z3, _⟩ := fr a ha
      exact ⟨z1, z3, .inl z2⟩
    · rw [owS_ne h] at ha
      exact A.own j a ha
  par := fun p hp => by
    obtain ⟨e, z, ds, q⟩ := A.par p hp
    have n : i ≠ p.1 := fun z => np ds (by rw [z]; exact q)
    exact ⟨by rw [List.getElem?_set_ne n]; exact e, by rw [owS_ne (Ne.symm n)]; exact z, ds, by rw [List.getElem?_set_ne n]; exact q⟩
  parI := fun j ds e => by
    rcases set_at e with ⟨rfl, z⟩ | ⟨_, q⟩
    · exact absurd z.symm (nps ds)
    · exact A.parI j ds q
  nd := fun j => by
    by_cases h : j = i
    · subst h
      rw [owS_same]
      exact nd
    · rw [owS_ne h]
      exact A.nd j
  dist := fun j k a h1 h2 => by
    by_cases hj : j = i
    · subst hj
      rw [owS_same] at h1
      by_cases hk : k = j
      · exact hk.symm
      · rw [owS_ne hk] at h2
        exact absurd h2 ((fr a h1).2.2.2 k hk)
    · rw [owS_ne hj] at h1
      by_cases hk : k = i
      · subst hk
        rw [owS_same] at h2
        exact absurd h1 ((fr a h2).2.2.2 j hj)
      · rw [owS_ne hk] at h2
        exact A.dist j k a h1 h2
  em := fun j n1 n2 => by
    by_cases hj : j = i
    · subst hj
      rw [owS_same]
      by_cases hl : j < ρ.length
      · exact he fun l q => n1 l (by rw [List.getElem?_set_self hl, q])
      · cases as with
        | nil => rfl
        | cons a as' => exact absurd (hx (fun z => by cases z)) hl
    · rw [owS_ne hj]
      exact A.em j (fun l q => n1 l (by rw [List.getElem?_set_ne (Ne.symm hj)]; exact q)) fun ds q => n2 ds (by rw [List.getElem?_set_ne (Ne.symm hj)]; exact q)
theorem Ab.setD (A : Ab B ρ ow σ H F) {i : Nat} {v : V} {d : D} (np : ∀ ds, ρ[i]? ≠ some (.par ds)) (r : Rep F v d) : Ab B (ρ.set i (.d d)) (owS ow i []) (σ.set i (some v)) H F :=
  A.setAny np (fun _ z => by cases z) ⟨v, rfl, r⟩ List.nodup_nil (fun _ z => by cases z) (fun _ => rfl) fun z => absurd rfl z
/-- a list of one's own changes -/
theorem Ab.mut (A : Ab B ρ ow σ H F) {i : Nat} {ds ds' : List D} {a : Addr} {xs' : List V} {s : SV} (h : (ρ[i]? = some (.lo (.own ds)) ∧ s = .lo (.own ds')) ∨ (ρ[i]? = some (.par ds) ∧ s = .par ds')) (ha : σ[i]? = some (some (.ref a))) (r : RepL F xs' ds') :
    Ab B (ρ.set i s) ow σ (upd H a (.lst xs')) F := by
  have hm : IsOwn ρ i ds := h.elim (fun z => .inl z.1) fun z => .inr z.1
  obtain ⟨a', xs, e1, ew, fa, hxs, _⟩ := A.mine hm
  rw [ha] at e1
  cases e1
  have hai : a ∈ ow i := by rw [ew]; exact List.mem_singleton.mpr rfl
  have other : ∀ (j : Nat) b, j ≠ i → b ∈ ow j → b ≠ a := fun j b hj hb z => hj (A.dist j i a (by rw [← z]; exact hb) hai)
  refine ⟨fun b o e => ?_, fun b o e k => ?_, A.f, A.new, by rw [List.length_set, A.len], fun j t o e1 e2 => ?_, fun j b hb => ?_, fun p hp => ?_, fun j es e => ?_, A.nd, A.dist, fun j n1 n2 => ?_⟩
  · have hb : b ≠ a := fun z => by
      rw [z, fa] at e
      cases e
    rw [upd_ne hb]
    exact A.sub _ _ e
  · have hb : b ≠ a := fun z => by
      subst z
      rcases (A.own i _ hai).2.2 with q | ⟨p, hp, q⟩
      · rw [q] at e
        cases e
      · exact k p hp q
    rw [upd_ne hb]
    exact A.keep b o e k
  · rcases set_at e1 with ⟨rfl, rfl⟩ | ⟨n, q⟩
    · rw [ha] at e2
      cases e2
      rcases h with ⟨_, rfl⟩ | ⟨_, rfl⟩
      · exact ⟨_, rfl, by rw [ew]; exact .own upd_same r⟩
      · exact ⟨_, rfl, by rw [ew]; exact .own upd_same r⟩
    · have z := A.sl j t o q e2
      have nj : j ≠ i := Ne.symm n
      cases t with
      | un => trivial
      | d _ => exact z
      | lo l =>
        obtain ⟨v, rfl, z⟩ := z
        exact ⟨v, rfl, z.mono (Same.refl _) fun b o hb e => by rw [upd_ne (other j b nj hb)]; exact e⟩
      | par es =>
        obtain ⟨v, rfl, z⟩ := z
        exact ⟨v, rfl, z.mono (Same.refl _) fun b o hb e => by rw [upd_ne (other j b nj hb)]; exact e⟩
  · obtain ⟨z1, ⟨x, z2⟩, z3⟩ := A.own j b hb
    refine ⟨z1, ?_, z3⟩
    by_cases hba : b = a
    · exact ⟨_, by rw [hba]; exact upd_same⟩
    · exact ⟨x, by rw [upd_ne hba]; exact z2⟩
  · obtain ⟨e, z, es, q⟩ := A.par p hp
    refine ⟨e, z, ?_⟩
    by_cases hi : i = p.1
    · rcases h with ⟨z1, rfl⟩ | ⟨z1, rfl⟩
      · rw [hi, q] at z1
        cases z1
      · exact ⟨ds', by rw [← hi, List.getElem?_set_self (List.getElem?_eq_some_iff.mp z1).1]⟩
    · exact ⟨es, by rw [List.getElem?_set_ne hi]; exact q⟩
  · rcases set_at e with ⟨rfl, z⟩ | ⟨_, q⟩
    · rcases h with ⟨_, rfl⟩ | ⟨z1, rfl⟩
      · cases z
      · exact A.parI i ds z1
    · exact A.parI j es q
  · have hil : i < ρ.length := by
      rcases h with ⟨z, _⟩ | ⟨z, _⟩
      · exact (List.getElem?_eq_some_iff.mp z).1
      · exact (List.getElem?_eq_some_iff.mp z).1
    by_cases hj : i = j
    · subst hj
      rw [List.getElem?_set_self hil] at n1 n2
      rcases h with ⟨_, rfl⟩ | ⟨_, rfl⟩
      · exact absurd rfl (n1 _)
      · exact absurd rfl (n2 _)
    · rw [List.getElem?_set_ne hj] at n1 n2
      exact A.em j n1 n2
/-- what is one's own is frozen -/
theorem Ab.freeze (A : Ab B ρ ow σ H F) {as : List Addr} (fr : ∀ a ∈ as, F a = none ∧ B.H0 a = none ∧ ∀ i : Nat, a ∉ ow i) : Ab B ρ ow σ H (frz F H as) where
  sub := same_frzR A.sub
  keep := A.keep
  f := A.f.trans (same_frzL fun a ha => (fr a ha).1)
  new := fun a o e e0 => by
    by_cases ha : a ∈ as
    · exact (fr a ha).2.1
    · rw [frz_out ha] at e
      exact A.new a o e e0
  len := A.len
  sl := fun i s o e1 e2 => by
    have q := A.sl i s o e1 e2
    have f := same_frzL (F := F) (H := H) fun a ha => (fr a ha).1
    cases s with
    | un => trivial
    | d d =>
      obtain ⟨v, rfl, r⟩ := q
      exact ⟨v, rfl, r.mono f⟩
    | lo l =>
      obtain ⟨v, rfl, r⟩ := q
      exact ⟨v, rfl, r.mono f fun _ _ _ e => e⟩
    | par ds =>
      obtain ⟨v, rfl, r⟩ := q
      exact ⟨v, rfl, r.mono f fun _ _ _ e => e⟩
  own := fun i a ha => by
    obtain ⟨z1, z2, z3⟩ := A.own i a ha
    refine ⟨?_, z2, z3⟩
    rw [frz_out fun h => (fr a h).2.2 i ha]
    exact z1
  par := A.par
  parI := A.parI
  nd := A.nd
  dist := A.dist
  em := A.em
end
end Mw

set_option Elab.async false
set_option linter.all false
set_option maxRecDepth 100000
set_option maxHeartbeats 4000000
/-! Mw2: what an expression comes to, by slots -/
namespace Mw
open PySem L2

/-- what an expression comes to: frozen data; something new of one's own; the list that a slot owns; a list as it stands now, its items frozen; data as it stands now -/
inductive Rs where
  | d (d : D) | lo (l : L) | at_ (i : Nat) (ds : List D) | li (ds : List D) | now (d : D)
abbrev Rs.int (i : Int) : Rs := .d (.int i)
abbrev Rs.bl (b : Bool) : Rs := .d (.bl b)
abbrev Rs.own (ds : List D) : Rs := .lo (.own ds)
/-- Hs: the heap at the start: what is new was not there -/
def RsOk (ρ : List SV) (σ : St) (Hs H F : Hp) : Rs → V → Prop
  | .d d, v => Rep F v d
  | .lo l, v => ∃ as, RepO F H v l as ∧ as.Nodup ∧ ∀ a ∈ as, F a = none ∧ Hs a = none
  | .at_ i ds, v => σ[i]? = some (some v) ∧ IsOwn ρ i ds
  | .li ds, v => ∃ a xs, v = .ref a ∧ H a = some (.lst xs) ∧ RepL F xs ds
  | .now d, v => Rep H v d
/-- a pure step -/
structure Gro (F H F' H' : Hp) : Prop where
  h : Same H H'
  f : Same F F'
  s : Same F' H'
  n : ∀ a o, F' a = some o → F a = none → H a = none
theorem Gro.refl {F H : Hp} (s : Same F H) : Gro F H F H := ⟨Same.refl _, Same.refl _, s, fun a o e q => by
  rw [e] at q
  cases q⟩
theorem Gro.trans {F H F1 H1 F2 H2 : Hp} (a : Gro F H F1 H1) (b : Gro F1 H1 F2 H2) : Gro F H F2 H2 := ⟨a.h.trans b.h, a.f.trans b.f, b.s, fun x o e q => by
  cases r : F1 x with
  | some u => exact a.n x u r q
  | none => exact a.h.free (b.n x o e r)⟩
theorem Gro.new {F H : Hp} {p : Addr} {o : HO} (s : Same F H) (hp : H p = none) : Gro F H (upd F p o) (upd H p o) := ⟨same_upd hp, same_upd (s.free hp), same_frz s, fun a x e q => by
  by_cases ha : a = p
  · rw [ha]
    exact hp
  · rw [upd_ne ha, q] at e
    cases e⟩
theorem Gro.heap {F H : Hp} {p : Addr} {o : HO} (s : Same F H) (hp : H p = none) : Gro F H F (upd H p o) := ⟨same_upd hp, Same.refl _, s.trans (same_upd hp), fun a x e q => by
  rw [e] at q
  cases q⟩
section
variable {B : Bs} {ρ ρ' : List SV} {ow : Ow} {σ : St} {H H' F F' Hs : Hp}
theorem Ab.gro (A : Ab B ρ ow σ H F) (g : Gro F H F' H') : Ab B ρ ow σ H' F' := A.grow g.h g.f g.s g.n
end
def Rs.isNew : Rs → Bool
  | .d _ => true
  | .lo _ => true
  | _ => false
/-- a value is kept through a step: a pure one, or it is frozen, or new -/
def Pk (pu : Bool) (r : Rs) : Prop := pu = true ∨ r.isNew = true
/-- a step from the state (ρ, H, F) to (ρ', H', F') -/
structure Ps (B : Bs) (ρ ρ' : List SV) (ow : Ow) (σ : St) (H F : Hp) (pu : Bool) (H' F' : Hp) : Prop where
  ab : Ab B ρ' ow σ H' F'
  f : Same F F'
  fr : ∀ b o, H b = some o → (∀ i : Nat, b ∉ ow i) → H' b = some o
  n : ∀ a o, F' a = some o → F a = none → H a = none
  dom : ∀ a, H' a = none → H a = none
  pu : pu = true → ρ' = ρ ∧ Same H H'
theorem Ps.pure {B : Bs} {ρ : List SV} {ow : Ow} {σ : St} {H F H' F' : Hp} {pu : Bool} (A : Ab B ρ ow σ H F) (g : Gro F H F' H') : Ps B ρ ρ ow σ H F pu H' F' := ⟨A.gro g, g.f, fun b o e _ => g.h _ _ e, g.n, fun a e => g.h.free e, fun _ => ⟨rfl, g.h⟩⟩
theorem Ps.refl {B : Bs} {ρ : List SV} {ow : Ow} {σ : St} {H F : Hp} {pu : Bool} (A : Ab B ρ ow σ H F) : Ps B ρ ρ ow σ H F pu H F := Ps.pure A (.refl A.sub)
theorem Ps.trans {B : Bs} {ρ ρ1 ρ2 : List SV} {ow : Ow} {σ : St} {H F H1 F1 H2 F2 : Hp} {p1 p2 : Bool} (a : Ps B ρ ρ1 ow σ H F p1 H1 F1) (b : Ps B ρ1 ρ2 ow σ H1 F1 p2 H2 F2) : Ps B ρ ρ2 ow σ H F (p1 && p2) H2 F2 :=
  ⟨b.ab, a.f.trans b.f, fun c o e n => b.fr c o (a.fr c o e n) n, fun c o e q => by
    cases r : F1 c with
    | some u => exact a.n c u r q
    | none => exact a.dom c (b.n c o e r), fun c e => a.dom c (b.dom c e), fun h => by
    obtain ⟨h1, h2⟩ := Bool.and_eq_true_iff.mp h
    obtain ⟨e1, g1⟩ := a.pu h1
    obtain ⟨e2, g2⟩ := b.pu h2
    exact ⟨e2.trans e1, g1.trans g2⟩⟩
theorem Ps.as {B : Bs} {ρ ρ1 : List SV} {ow : Ow} {σ : St} {H F H1 F1 : Hp} {p q : Bool} (a : Ps B ρ ρ1 ow σ H F p H1 F1) (h : q = true → p = true) : Ps B ρ ρ1 ow σ H F q H1 F1 := ⟨a.ab, a.f, a.fr, a.n, a.dom, fun z => a.pu (h z)⟩
theorem RsOk.keep {B : Bs} {ρ0 ρ ρ' : List SV} {ow : Ow} {σ : St} {Hs Fs H H' F F' : Hp} {p1 pu : Bool} (P0 : Ps B ρ0 ρ ow σ Hs Fs p1 H F) (A0 : Ab B ρ0 ow σ Hs Fs) (p : Ps B ρ ρ' ow σ H F pu H' F') {r : Rs} {v : V} (k : Pk pu r) (h : RsOk ρ σ Hs H F r v) : RsOk ρ' σ Hs H' F' r v := by
  cases r with
  | d d => exact Rep.mono p.f h
  | lo l =>
    obtain ⟨as, h1, h2, h3⟩ := h
    refine ⟨as, h1.mono p.f fun b o hb e => p.fr b o e fun i hi => ?_, h2, fun a ha => ?_⟩
    · obtain ⟨_, ⟨u, e2⟩, _⟩ := A0.own i b hi
      rw [(h3 b hb).2] at e2
      cases e2
    · obtain ⟨z1, z2⟩ := h3 a ha
      refine ⟨?_, z2⟩
      cases q : F' a with
      | none => rfl
      | some u =>
        obtain ⟨o, e⟩ := h1.there a ha
        rw [p.n a u q z1] at e
        cases e
  | at_ i ds =>
    rcases k with k | k
    · obtain ⟨rfl, _⟩ := p.pu k
      exact h
    · cases k
  | li ds =>
    rcases k with k | k
    · obtain ⟨a, xs, e, h1, h2⟩ := h
      exact ⟨a, xs, e, (p.pu k).2 _ _ h1, h2.mono p.f⟩
    · cases k
  | now d =>
    rcases k with k | k
    · exact Rep.mono (p.pu k).2 h
    · cases k
/-- from a later start to an earlier one -/
theorem RsOk.start {ρ : List SV} {σ : St} {Hs H1 H F : Hp} (dom : ∀ a, H1 a = none → Hs a = none) : ∀ {r : Rs} {v : V}, RsOk ρ σ H1 H F r v → RsOk ρ σ Hs H F r v
  | .d d, v, h => h
  | .lo l, v, ⟨as, h1, h2, h3⟩ => ⟨as, h1, h2, fun a ha => ⟨(h3 a ha).1, dom a (h3 a ha).2⟩⟩
  | .at_ i ds, v, h => h
  | .li ds, v, h => h
  | .now d, v, h => h

/-! ### the readings themselves -/
def semE (X : Cx) (e : Expr) : TE := fun σ H Q => ∃ t, PE X e t ∧ t σ H Q
theorem pe_sem {X : Cx} {e : Expr} : PE X e (semE X e) := ⟨fun pins s σ H Q I ⟨t, h, q⟩ => h.run pins s σ H Q I q⟩
def semT (X : Cx) (e : Expr) : TT := fun σ H Q => ∃ t, PT X e t ∧ t σ H Q
theorem pt_sem {X : Cx} {e : Expr} : PT X e (semT X e) := ⟨fun pins s σ H Q I ⟨t, h, q⟩ => h.run pins s σ H Q I q⟩
def semA (X : Cx) (es : List Expr) : TA := fun σ H Q => ∃ t, PA X es t ∧ t σ H Q
theorem pa_sem {X : Cx} {es : List Expr} : PA X es (semA X es) := ⟨fun pos pins s σ H Q I ⟨t, h, q⟩ => h.run pos pins s σ H Q I q⟩
def semSs (X : Cx) (st : List Stmt) : TS := fun D σ H => ∃ t, PSs X st t ∧ t D σ H
theorem pss_sem {X : Cx} {st : List Stmt} : PSs X st (semSs X st) := ⟨fun pins s σ H D I ⟨t, h, q⟩ => h.run pins s σ H D I q⟩
def semG (X : Cx) (tg : Expr) : TG := fun v σ H Q => ∃ t, PG X tg t ∧ t v σ H Q
theorem pg_sem {X : Cx} {tg : Expr} : PG X tg (semG X tg) := ⟨fun pins s σ H v u Q I r ⟨t, h, q⟩ => h.run pins s σ H v u Q I r q⟩

def Ev (X : Cx) (pu : Bool) (e : Expr) (ρ ρ' : List SV) (r : Rs) : Prop := ∀ B ow σ H F, Ab B ρ ow σ H F → ∀ Q : VK, (∀ v H' F', Ps B ρ ρ' ow σ H F pu H' F' → RsOk ρ' σ H H' F' r v → Q v H') → semE X e σ H Q
def EvT (X : Cx) (pu : Bool) (e : Expr) (ρ ρ' : List SV) (b : Bool) : Prop := ∀ B ow σ H F, Ab B ρ ow σ H F → ∀ Q : Bool → Hp → Prop, (∀ H' F', Ps B ρ ρ' ow σ H F pu H' F' → Q b H') → semT X e σ H Q
inductive RsAll (ρ : List SV) (σ : St) (Hs H F : Hp) : List Rs → List V → Prop
  | nil : RsAll ρ σ Hs H F [] []
  | cons {r : Rs} {rs : List Rs} {v : V} {vs : List V} : RsOk ρ σ Hs H F r v → RsAll ρ σ Hs H F rs vs → RsAll ρ σ Hs H F (r :: rs) (v :: vs)
theorem RsAll.one {ρ : List SV} {σ : St} {Hs H F : Hp} {r : Rs} {vs : List V} (h : RsAll ρ σ Hs H F [r] vs) : ∃ v, vs = [v] ∧ RsOk ρ σ Hs H F r v := by
  cases h with
  | cons h1 h2 =>
    cases h2
    exact ⟨_, rfl, h1⟩
theorem RsAll.two {ρ : List SV} {σ : St} {Hs H F : Hp} {r s : Rs} {vs : List V} (h : RsAll ρ σ Hs H F [r, s] vs) : ∃ v w, vs = [v, w] ∧ RsOk ρ σ Hs H F r v ∧ RsOk ρ σ Hs H F s w := by
  cases h with
  | cons h1 h2 =>
    obtain ⟨w, rfl, h3⟩ := h2.one
    exact ⟨_, _, rfl, h1, h3⟩
theorem RsAll.start {ρ : List SV} {σ : St} {Hs H1 H F : Hp} (dom : ∀ a, H1 a = none → Hs a = none) : ∀ {rs : List Rs} {vs : List V}, RsAll ρ σ H1 H F rs vs → RsAll ρ σ Hs H F rs vs
  | _, _, .nil => .nil
  | _, _, .cons h t => .cons (h.start dom) (RsAll.start dom t)
def EvA (X : Cx) (pu : Bool) (es : List Expr) (ρ ρ' : List SV) (rs : List Rs) : Prop := ∀ B ow σ H F, Ab B ρ ow σ H F → ∀ Q : List V → Hp → Prop, (∀ vs H' F', Ps B ρ ρ' ow σ H F pu H' F' → RsAll ρ' σ H H' F' rs vs → Q vs H') → semA X es σ H Q

section
variable {X : Cx} {pu p1 p2 : Bool} {e a b : Expr} {es : List Expr} {ρ ρ' ρ1 ρ2 : List SV} {r x y z : Rs} {pos : Pos}

/-! ### leaves -/
theorem ev_int {i : Int} {j : Nat} : Ev X true (.Constant (.int i) j pos) ρ ρ (.d (.int i)) := fun B ow σ H F A Q q => ⟨_, pe_int, q _ H F (.refl A) (.int i)⟩
theorem ev_bl {i : Bool} {j : Nat} : Ev X true (.Constant (.bool i) j pos) ρ ρ (.d (.bl i)) := fun B ow σ H F A Q q => ⟨_, pe_bl, q _ H F (.refl A) (.bl i)⟩
theorem ev_non {j : Nat} : Ev X true (.Constant .none j pos) ρ ρ (.d .non) := fun B ow σ H F A Q q => ⟨_, pe_non, q _ H F (.refl A) .non⟩
theorem ev_str {i : Str} {j : Nat} : Ev X true (.Constant (.str i) j pos) ρ ρ (.d (.str i)) := fun B ow σ H F A Q q => ⟨_, pe_str, q _ H F (.refl A) (.str i)⟩
/-- the i-th name -/
structure Nm (X : Cx) (i : Nat) (x : Str) : Prop where
  n : X.N[i]? = some x
  v : Vis X.env.scope x
  d : (x == ("__debug__" : Str)) = false
  c : (x == ("__classdict__" : Str)) = false
theorem ev_d {i : Nat} {x : Str} {d : D} (N : Nm X i x) (h : ρ[i]? = some (.d d)) : Ev X true (.Name x pos) ρ ρ (.d d) := fun B ow σ H F A Q q => by
  obtain ⟨v, e, rp⟩ := A.d h
  exact ⟨_, pe_var N.n N.v N.d N.c, v, e, q v H F (.refl A) rp⟩
theorem ev_at {i : Nat} {x : Str} {ds : List D} (N : Nm X i x) (h : IsOwn ρ i ds) : Ev X true (.Name x pos) ρ ρ (.at_ i ds) := fun B ow σ H F A Q q => by
  obtain ⟨a, xs, e, _⟩ := A.mine h
  exact ⟨_, pe_var N.n N.v N.d N.c, .ref a, e, q _ H F (.refl A) ⟨e, h⟩⟩
theorem ev_lo {i : Nat} {x : Str} {l : L} (N : Nm X i x) (h : ρ[i]? = some (.lo l)) : Ev X true (.Name x pos) ρ ρ (.now l.toD) := fun B ow σ H F A Q q => by
  obtain ⟨v, e, rp⟩ := A.lo h
  exact ⟨_, pe_var N.n N.v N.d N.c, v, e, q v H F (.refl A) (rp.now A.sub)⟩
/-- a name of the module: a constant, a def -/
theorem ev_glob {x : Str} {v : V} {u : Value} {d : D} (hg : Gl X x) (hm : X.mg x = some u) (rl : RelV v u) (rp : ∀ F : Hp, Rep F v d) (hd : (x == ("__debug__" : Str)) = false) : Ev X true (.Name x pos) ρ ρ (.d d) :=
  fun B ow σ H F A Q q => ⟨_, pe_glob hg hm rl hd, q v H F (.refl A) (rp F)⟩

/-! ### one thing for another -/
/-- r may be taken as r' -/
def Cv (r r' : Rs) : Prop := ∀ B ρ ow σ Hs H F v, Ab B ρ ow σ H F → RsOk ρ σ Hs H F r v → RsOk ρ σ Hs H F r' v
theorem Cv.refl : Cv r r := fun _ _ _ _ _ _ _ _ _ h => h
theorem cv_d {ds : List D} : Cv (.d (.lst ds)) (.li ds) := fun B ρ ow σ Hs H F v A h => by
  obtain ⟨a, xs, e, h1, h2⟩ := rep_lst h
  exact ⟨a, xs, e, A.sub _ _ h1, h2⟩
theorem cv_own {ds : List D} : Cv (.lo (.own ds)) (.li ds) := fun B ρ ow σ Hs H F v A ⟨as, h, _⟩ => by
  cases h with
  | own h1 h2 => exact ⟨_, _, rfl, h1, h2⟩
theorem cv_at {i : Nat} {ds : List D} : Cv (.at_ i ds) (.li ds) := fun B ρ ow σ Hs H F v A ⟨e, h⟩ => by
  obtain ⟨a, xs, e1, _, _, h1, h2⟩ := A.mine h
  rw [e] at e1
  cases e1
  exact ⟨_, _, rfl, h1, h2⟩
theorem cv_nowD {d : D} : Cv (.d d) (.now d) := fun B ρ ow σ Hs H F v A h => Rep.mono A.sub h
theorem cv_nowL {l : L} : Cv (.lo l) (.now l.toD) := fun B ρ ow σ Hs H F v A ⟨as, h, _⟩ => h.now A.sub
theorem cv_nowO {ds : List D} : Cv (.lo (.own ds)) (.now (.lst ds)) := fun B ρ ow σ Hs H F v A ⟨as, h, _⟩ => by
  have q := h.now A.sub
  unfold L.toD at q
  exact q
theorem cv_nowI {ds : List D} : Cv (.li ds) (.now (.lst ds)) := fun B ρ ow σ Hs H F v A ⟨a, xs, e, h1, h2⟩ => by
  subst e
  exact .lst h1 (h2.mono A.sub)
theorem cv_nowA {i : Nat} {ds : List D} : Cv (.at_ i ds) (.now (.lst ds)) := fun B ρ ow σ Hs H F v A h => cv_nowI B ρ ow σ Hs H F v A (cv_at B ρ ow σ Hs H F v A h)
theorem Ev.cv (h : Ev X pu e ρ ρ' r) (c : Cv r x) : Ev X pu e ρ ρ' x := fun B ow σ H F A Q q => h B ow σ H F A Q fun v H' F' p k => q v H' F' p (c B ρ' ow σ H H' F' v p.ab k)
/-- something new of one's own is frozen -/
theorem frz_ps {B : Bs} {ow : Ow} {σ : St} {Hs Fs H F : Hp} {l : L} {v : V} (A0 : Ab B ρ ow σ Hs Fs) (P : Ps B ρ ρ' ow σ Hs Fs pu H F) (h : RsOk ρ' σ Hs H F (.lo l) v) : ∃ F', Ps B ρ ρ' ow σ Hs Fs pu H F' ∧ Same F F' ∧ Rep F' v l.toD := by
  obtain ⟨as, h1, h2, h3⟩ := h
  have fr : ∀ a ∈ as, F a = none ∧ B.H0 a = none ∧ ∀ i : Nat, a ∉ ow i := fun a ha => ⟨(h3 a ha).1, (A0.nobody (h3 a ha).2).2⟩
  refine ⟨frz F H as, ⟨P.ab.freeze fr, P.f.trans (same_frzL fun a ha => (h3 a ha).1), P.fr, fun a o e q => ?_, P.dom, P.pu⟩, same_frzL fun a ha => (h3 a ha).1, h1.frzD (as := as) (same_frzL fun a ha => (h3 a ha).1) fun b o hb e => ?_⟩
  · by_cases ha : a ∈ as
    · exact (h3 a ha).2
    · rw [frz_out ha] at e
      exact P.n a o e q
  · rw [frz_in hb]
    exact e
theorem Ev.frz {l : L} (h : Ev X pu e ρ ρ' (.lo l)) : Ev X pu e ρ ρ' (.d l.toD) := fun B ow σ H F A Q q => h B ow σ H F A Q fun v H' F' p k => by
  obtain ⟨F2, P2, _, r2⟩ := frz_ps A p k
  exact q v H' F2 P2 r2
theorem Ev.frzO {ds : List D} (h : Ev X pu e ρ ρ' (.lo (.own ds))) : Ev X pu e ρ ρ' (.d (.lst ds)) := by
  have q := h.frz
  unfold L.toD at q
  exact q
theorem Ev.imp (h : Ev X pu e ρ ρ' r) : Ev X false e ρ ρ' r := fun B ow σ H F A Q q => h B ow σ H F A Q fun v H' F' p k => q v H' F' (p.as fun z => by cases z) k

/-! ### operators -/
def Sem2 (X : Cx) (r : R2) (x y z : Rs) : Prop := ∀ B ρ ow σ Hs H F v w, Ab B ρ ow σ H F → RsOk ρ σ Hs H F x v → RsOk ρ σ Hs H F y w → ∀ Q : VK, (∀ u H' F', Gro F H F' H' → RsOk ρ σ H H' F' z u → Q u H') → r v w H Q
theorem bin_core {r2 : R2} {f : Expr} (hp : PE X f (tOp r2 (semE X a) (semE X b))) (ha : Ev X p1 a ρ ρ1 x) (hb : Ev X p2 b ρ1 ρ2 y) (pk : Pk p2 x) (sm : Sem2 X r2 x y z) : Ev X (p1 && p2) f ρ ρ2 z := fun B ow σ H F A Q q => by
  refine ⟨_, hp, ?_⟩
  refine ha B ow σ H F A _ fun v H1 F1 P1 k1 => hb B ow σ H1 F1 P1.ab _ fun w H2 F2 P2 k2 => ?_
  refine sm B ρ2 ow σ H H2 F2 v w P2.ab (k1.keep P1 A P2 pk) (k2.start P1.dom) _ fun u H3 F3 g3 k3 => ?_
  refine q u H3 F3 ((P1.trans (P2.trans (Ps.pure (pu := true) P2.ab g3))).as fun h => ?_) (k3.start (P1.trans P2).dom)
  rw [Bool.and_true]
  exact h
theorem ev_bin {op : Operator} {r2 : R2} (ho : OpR X (binaryOp op) r2) (ha : Ev X p1 a ρ ρ1 x) (hb : Ev X p2 b ρ1 ρ2 y) (pk : Pk p2 x) (sm : Sem2 X r2 x y z) : Ev X (p1 && p2) (.BinOp a op b pos) ρ ρ2 z :=
  bin_core (pe_op ho pe_sem pe_sem) ha hb pk sm
theorem ev_cmp {op : CmpOp} {r2 : R2} (ho : OpR X (compareOp op) r2) (ha : Ev X p1 a ρ ρ1 x) (hb : Ev X p2 b ρ1 ρ2 y) (pk : Pk p2 x) (sm : Sem2 X r2 x y z) (hm : behindInMarks op b = false) : Ev X (p1 && p2) (.Compare a [op] [b] pos) ρ ρ2 z :=
  bin_core (pe_cmpR ho pe_sem pe_sem hm) ha hb pk sm
theorem ev_ix {r2 : R2} (ho : IxR X r2) (ha : Ev X p1 a ρ ρ1 x) (hb : Ev X p2 b ρ1 ρ2 y) (pk : Pk p2 x) (sm : Sem2 X r2 x y z) (hs : PlainIx b) : Ev X (p1 && p2) (.Subscript a b pos) ρ ρ2 z :=
  bin_core (pe_ix ho pe_sem pe_sem hs) ha hb pk sm
/-- ints -/
theorem sm_int0 {g : Int → Int → V} {G : D} {i j : Int} (h : ∀ F : Hp, Rep F (g i j) G) : Sem2 X (rI0 g) (.d (.int i)) (.d (.int j)) (.d G) := fun B ρ ow σ Hs H F v w A h1 h2 Q q => by
  rw [rep_int h1, rep_int h2]
  exact ⟨i, j, rfl, rfl, q _ H F (.refl A.sub) (h F)⟩
theorem sm_int {C : Int → Int → Prop} {g : Int → Int → V} {G : D} {i j : Int} (hc : C i j) (h : ∀ F : Hp, Rep F (g i j) G) : Sem2 X (rI C g) (.d (.int i)) (.d (.int j)) (.d G) := fun B ρ ow σ Hs H F v w A h1 h2 Q q => by
  rw [rep_int h1, rep_int h2]
  exact ⟨i, j, rfl, rfl, hc, q _ H F (.refl A.sub) (h F)⟩
theorem ev_add {i j : Int} (ha : Ev X p1 a ρ ρ1 (.d (.int i))) (hb : Ev X p2 b ρ1 ρ2 (.d (.int j))) : Ev X (p1 && p2) (.BinOp a .Add b pos) ρ ρ2 (.d (.int (i + j))) := ev_bin op_add ha hb (.inr rfl) (sm_int0 fun _ => .int _)
theorem ev_sub {i j : Int} (ha : Ev X p1 a ρ ρ1 (.d (.int i))) (hb : Ev X p2 b ρ1 ρ2 (.d (.int j))) : Ev X (p1 && p2) (.BinOp a .Sub b pos) ρ ρ2 (.d (.int (i - j))) := ev_bin op_sub ha hb (.inr rfl) (sm_int0 fun _ => .int _)
theorem ev_mul {i j : Int} (ha : Ev X p1 a ρ ρ1 (.d (.int i))) (hb : Ev X p2 b ρ1 ρ2 (.d (.int j))) (h : CMul i j) : Ev X (p1 && p2) (.BinOp a .Mult b pos) ρ ρ2 (.d (.int (i * j))) := ev_bin op_mul ha hb (.inr rfl) (sm_int h fun _ => .int _)
theorem ev_mod {i j : Int} (ha : Ev X p1 a ρ ρ1 (.d (.int i))) (hb : Ev X p2 b ρ1 ρ2 (.d (.int j))) (h : 0 < j) : Ev X (p1 && p2) (.BinOp a .Mod b pos) ρ ρ2 (.d (.int (i % j))) := ev_bin op_mod ha hb (.inr rfl) (sm_int h fun _ => .int _)
theorem ev_fdiv {i j : Int} (ha : Ev X p1 a ρ ρ1 (.d (.int i))) (hb : Ev X p2 b ρ1 ρ2 (.d (.int j))) (h : 0 < j ∧ j < 1073741824) : Ev X (p1 && p2) (.BinOp a .FloorDiv b pos) ρ ρ2 (.d (.int (i / j))) := ev_bin op_fdiv ha hb (.inr rfl) (sm_int h fun _ => .int _)
theorem ev_pow {i j : Int} (ha : Ev X p1 a ρ ρ1 (.d (.int i))) (hb : Ev X p2 b ρ1 ρ2 (.d (.int j))) (h : 0 ≤ j ∧ j ≤ 1000000 ∧ i.natAbs < 2 ^ 64) : Ev X (p1 && p2) (.BinOp a .Pow b pos) ρ ρ2 (.d (.int (i ^ j.toNat))) := ev_bin op_pow ha hb (.inr rfl) (sm_int h fun _ => .int _)
theorem ev_shl {i j : Int} (ha : Ev X p1 a ρ ρ1 (.d (.int i))) (hb : Ev X p2 b ρ1 ρ2 (.d (.int j))) (h : 0 ≤ j ∧ j ≤ 1000000 ∧ i.natAbs < 2 ^ 64) : Ev X (p1 && p2) (.BinOp a .LShift b pos) ρ ρ2 (.d (.int (i * 2 ^ j.toNat))) := ev_bin op_shl ha hb (.inr rfl) (sm_int h fun _ => .int _)
theorem ev_lt {i j : Int} (ha : Ev X p1 a ρ ρ1 (.d (.int i))) (hb : Ev X p2 b ρ1 ρ2 (.d (.int j))) : Ev X (p1 && p2) (.Compare a [.Lt] [b] pos) ρ ρ2 (.d (.bl (decide (i < j)))) := ev_cmp op_lt ha hb (.inr rfl) (sm_int0 fun _ => .bl _) (nomark _)
theorem ev_le {i j : Int} (ha : Ev X p1 a ρ ρ1 (.d (.int i))) (hb : Ev X p2 b ρ1 ρ2 (.d (.int j))) : Ev X (p1 && p2) (.Compare a [.LtE] [b] pos) ρ ρ2 (.d (.bl (decide (i ≤ j)))) := ev_cmp op_le ha hb (.inr rfl) (sm_int0 fun _ => .bl _) (nomark _)
theorem ev_gt {i j : Int} (ha : Ev X p1 a ρ ρ1 (.d (.int i))) (hb : Ev X p2 b ρ1 ρ2 (.d (.int j))) : Ev X (p1 && p2) (.Compare a [.Gt] [b] pos) ρ ρ2 (.d (.bl (decide (j < i)))) := ev_cmp op_gt ha hb (.inr rfl) (sm_int0 fun _ => .bl _) (nomark _)
theorem ev_ge {i j : Int} (ha : Ev X p1 a ρ ρ1 (.d (.int i))) (hb : Ev X p2 b ρ1 ρ2 (.d (.int j))) : Ev X (p1 && p2) (.Compare a [.GtE] [b] pos) ρ ρ2 (.d (.bl (decide (j ≤ i)))) := ev_cmp op_ge ha hb (.inr rfl) (sm_int0 fun _ => .bl _) (nomark _)
/-- scalars: == and != -/
def D.sc : D → Option V
  | .non => some .non
  | .bl b => some (.bl b)
  | .int i => some (.int i)
  | .str x => some (.str x)
  | _ => none
theorem rep_sc {H : Hp} {v : V} {d : D} {u : V} (h : Rep H v d) (e : d.sc = some u) : v = u := by
  cases h <;> first | (cases e; rfl) | cases e
theorem sm_eq {d1 d2 : D} {u1 u2 : V} (e1 : d1.sc = some u1) (e2 : d2.sc = some u2) (h : scal u1 u2 = true) : Sem2 X rEq (.d d1) (.d d2) (.d (.bl (decide (u1 = u2)))) := fun B ρ ow σ Hs H F v w A h1 h2 Q q => by
  rw [rep_sc h1 e1, rep_sc h2 e2]
  exact ⟨h, q _ H F (.refl A.sub) (.bl _)⟩
theorem sm_ne {d1 d2 : D} {u1 u2 : V} (e1 : d1.sc = some u1) (e2 : d2.sc = some u2) (h : scal u1 u2 = true) : Sem2 X rNe (.d d1) (.d d2) (.d (.bl (!decide (u1 = u2)))) := fun B ρ ow σ Hs H F v w A h1 h2 Q q => by
  rw [rep_sc h1 e1, rep_sc h2 e2]
  exact ⟨h, q _ H F (.refl A.sub) (.bl _)⟩
theorem Ev.bl (h : Ev X pu e ρ ρ' (.d (.bl p1))) (q : p1 = p2) : Ev X pu e ρ ρ' (.d (.bl p2)) := q ▸ h
theorem ev_eqI {i j : Int} (ha : Ev X p1 a ρ ρ1 (.d (.int i))) (hb : Ev X p2 b ρ1 ρ2 (.d (.int j))) : Ev X (p1 && p2) (.Compare a [.Eq] [b] pos) ρ ρ2 (.d (.bl (decide (i = j)))) :=
  (ev_cmp op_eq ha hb (.inr rfl) (sm_eq rfl rfl rfl) (nomark _)).bl (by rw [dec_int]; rfl)
theorem ev_neI {i j : Int} (ha : Ev X p1 a ρ ρ1 (.d (.int i))) (hb : Ev X p2 b ρ1 ρ2 (.d (.int j))) : Ev X (p1 && p2) (.Compare a [.NotEq] [b] pos) ρ ρ2 (.d (.bl (!decide (i = j)))) :=
  (ev_cmp op_ne ha hb (.inr rfl) (sm_ne rfl rfl rfl) (nomark _)).bl (by rw [dec_int]; rfl)
end
end Mw

set_option Elab.async false
set_option linter.all false
set_option maxRecDepth 100000
set_option maxHeartbeats 4000000
/-! Mw3: lists, tests, built-ins -/
namespace Mw
open PySem L2
section
variable {X : Cx} {pu p1 p2 p3 : Bool} {e a b c : Expr} {es rest : List Expr} {ρ ρ' ρ1 ρ2 ρ3 : List SV} {r x y z : Rs} {rs : List Rs} {pos : Pos}

theorem nodup1 {α : Type} (a : α) : [a].Nodup := List.nodup_cons.mpr ⟨(fun h => by cases h), List.nodup_nil⟩

/-! ### argument lists -/
theorem ea_nil : EvA X true [] ρ ρ [] := fun B ow σ H F A Q q => ⟨_, pa_nil, q _ H F (.refl A) .nil⟩
theorem ea_cons (h1 : Ev X p1 e ρ ρ1 r) (h2 : EvA X p2 es ρ1 ρ2 rs) (pk : Pk p2 r) (hs : starEach (e :: es) X.env = (false, eval e X.env) :: starEach es X.env) : EvA X (p1 && p2) (e :: es) ρ ρ2 (r :: rs) := fun B ow σ H F A Q q =>
  ⟨_, pa_cons pe_sem pa_sem hs, h1 B ow σ H F A _ fun v H1 F1 P1 k1 => h2 B ow σ H1 F1 P1.ab _ fun vs H2 F2 P2 k2 => q _ H2 F2 (P1.trans P2) (.cons (k1.keep P1 A P2 pk) (k2.start P1.dom))⟩
theorem ea_one (h1 : Ev X p1 e ρ ρ1 r) (hs : starEach [e] X.env = [(false, eval e X.env)]) : EvA X p1 [e] ρ ρ1 [r] := by
  have q := ea_cons h1 ea_nil (.inl rfl) hs
  rw [Bool.and_true] at q
  exact q

/-! ### displays -/
def allD : List Rs → Option (List D)
  | [] => some []
  | .d d :: rs => (allD rs).map (d :: ·)
  | _ :: _ => none
theorem allD_ok {σ : St} {Hs H F : Hp} : ∀ {rs : List Rs} {ds : List D} {vs : List V}, allD rs = some ds → RsAll ρ σ Hs H F rs vs → RepL F vs ds
  | [], ds, vs, e, h => by
    cases h
    cases e
    exact .nil
  | r :: rs, ds, vs, e, h => by
    cases h with
    | cons h1 h2 =>
      cases r with
      | d d =>
        unfold allD at e
        cases q : allD rs with
        | none =>
          rw [q] at e
          cases e
        | some es =>
          rw [q] at e
          cases e
          exact .cons h1 (allD_ok q h2)
      | _ => cases e
def allNow : List Rs → List D
  | [] => []
  | .d d :: rs => d :: allNow rs
  | .lo l :: rs => l.toD :: allNow rs
  | .at_ _ ds :: rs => .lst ds :: allNow rs
  | .li ds :: rs => .lst ds :: allNow rs
  | .now d :: rs => d :: allNow rs
theorem now_ok {B : Bs} {ow : Ow} {σ : St} {Hs H F : Hp} (A : Ab B ρ ow σ H F) : ∀ {rs : List Rs} {vs : List V}, RsAll ρ σ Hs H F rs vs → RepL H vs (allNow rs)
  | [], vs, h => by
    cases h
    exact .nil
  | r :: rs, vs, h => by
    cases h with
    | cons h1 h2 =>
      have ih := now_ok A h2
      cases r with
      | d d => exact .cons (cv_nowD B ρ ow σ Hs H F _ A h1) ih
      | lo l => exact .cons (cv_nowL B ρ ow σ Hs H F _ A h1) ih
      | at_ i ds => exact .cons (cv_nowA B ρ ow σ Hs H F _ A h1) ih
      | li ds => exact .cons (cv_nowI B ρ ow σ Hs H F _ A h1) ih
      | now d => exact .cons h1 ih
def loL : Rs → L
  | .lo l => l
  | .d d => .fz d
  | _ => .fz .non
def isLo : Rs → Bool
  | .lo _ => true
  | .d _ => true
  | _ => false
theorem RsAll.len {σ : St} {Hs H F : Hp} : ∀ {rs : List Rs} {vs : List V}, RsAll ρ σ Hs H F rs vs → vs.length = rs.length
  | _, _, .nil => rfl
  | _, _, .cons _ h => congrArg Nat.succ (RsAll.len h)
/-- a new list, owned by nobody yet -/
theorem lo_new {σ : St} {Hs H F : Hp} {l : Addr} {ws : List V} {ds : List D} (s : Same F H) (hl : H l = none) (dom : ∀ a, H a = none → Hs a = none) (h : RepL F ws ds) : RsOk ρ σ Hs (upd H l (.lst ws)) F (.lo (.own ds)) (.ref l) :=
  ⟨[l], .own upd_same h, nodup1 l, fun a ha => by
    rw [List.mem_singleton.mp ha]
    exact ⟨s.free hl, dom l hl⟩⟩
/-- [a, b, ..] of frozen things: a new list of one's own -/
theorem ev_lst {ds : List D} (h : EvA X pu es ρ ρ' rs) (hd : allD rs = some ds) (hl : rs.length ≤ 1000) : Ev X pu (.List es pos) ρ ρ' (.lo (.own ds)) := fun B ow σ H F A Q q => by
  refine ⟨_, pe_lst pa_sem, h B ow σ H F A _ fun vs H1 F1 P1 k1 => ⟨?_, fun p hp => ?_⟩⟩
  · rw [k1.len]
    exact Nat.le_trans hl (by decide)
  have g : Gro F1 H1 F1 (upd H1 p (.lst vs)) := .heap P1.ab.sub hp
  exact q _ _ F1 ((P1.trans (Ps.pure (pu := true) P1.ab g)).as fun z => by rw [Bool.and_true]; exact z) (lo_new P1.ab.sub hp P1.dom (allD_ok hd k1))
/-- the same as it stands now -/
theorem ev_lstN (h : EvA X pu es ρ ρ' rs) (hl : rs.length ≤ 1000) : Ev X pu (.List es pos) ρ ρ' (.now (.lst (allNow rs))) := fun B ow σ H F A Q q => by
  refine ⟨_, pe_lst pa_sem, h B ow σ H F A _ fun vs H1 F1 P1 k1 => ⟨?_, fun p hp => ?_⟩⟩
  · rw [k1.len]
    exact Nat.le_trans hl (by decide)
  have g : Gro F1 H1 F1 (upd H1 p (.lst vs)) := .heap P1.ab.sub hp
  exact q _ _ F1 ((P1.trans (Ps.pure (pu := true) P1.ab g)).as fun z => by rw [Bool.and_true]; exact z) (.lst upd_same ((now_ok P1.ab k1).mono (same_upd hp)))
/-- several things of one's own, apart from one another -/
def EvOs (X : Cx) (pu : Bool) (es : List Expr) (ρ ρ' : List SV) (ls : List L) : Prop := ∀ B ow σ H F, Ab B ρ ow σ H F → ∀ Q : List V → Hp → Prop,
  (∀ vs H' F' as, Ps B ρ ρ' ow σ H F pu H' F' → RepOs F' H' vs ls as → as.Nodup → (∀ a ∈ as, F' a = none ∧ H a = none) → Q vs H') → semA X es σ H Q
theorem eo_nil : EvOs X true [] ρ ρ [] := fun B ow σ H F A Q q => ⟨_, pa_nil, q _ H F [] (.refl A) .nil List.nodup_nil fun _ z => by cases z⟩
theorem eo_cons {l : L} {ls : List L} (h1 : Ev X p1 e ρ ρ1 (.lo l)) (h2 : EvOs X p2 es ρ1 ρ2 ls) (hs : starEach (e :: es) X.env = (false, eval e X.env) :: starEach es X.env) : EvOs X (p1 && p2) (e :: es) ρ ρ2 (l :: ls) := fun B ow σ H F A Q q => by
  refine ⟨_, pa_cons pe_sem pa_sem hs, h1 B ow σ H F A _ fun v H1 F1 P1 k1 => h2 B ow σ H1 F1 P1.ab _ fun vs H2 F2 bs P2 z1 z2 z3 => ?_⟩
  obtain ⟨as, y1, y2, y3⟩ := k1.keep P1 A P2 (.inr rfl)
  obtain ⟨as1, x1, x2, x3⟩ := k1
  refine q _ H2 F2 (as ++ bs) (P1.trans P2) (.cons y1 z1) (List.nodup_append.mpr ⟨y2, z2, fun a ha b hb e => ?_⟩) fun a ha => ?_
  · subst e
    -- it stood ahead of the second
    obtain ⟨u, hu⟩ := y1.there a ha
    have n1 := (z3 a hb).2
    have : a ∈ as1 := by
      have q1 := RepO.uniq x1 y1 fun b hb => by
        obtain ⟨o, ho⟩ := x1.there b hb
        rw [ho]
        exact P2.fr b o ho (A.nobody (x3 b hb).2).2.2
      rw [q1]
      exact ha
    obtain ⟨w, hw⟩ := x1.there a this
    rw [hw] at n1
    cases n1
  · rcases List.mem_append.mp ha with ha | ha
    · exact y3 a ha
    · exact ⟨(z3 a ha).1, P1.dom a (z3 a ha).2⟩
theorem eo_consD {d : D} {ls : List L} (h1 : Ev X p1 e ρ ρ1 (.d d)) (h2 : EvOs X p2 es ρ1 ρ2 ls) (hs : starEach (e :: es) X.env = (false, eval e X.env) :: starEach es X.env) : EvOs X (p1 && p2) (e :: es) ρ ρ2 (.fz d :: ls) := fun B ow σ H F A Q q => by
  refine ⟨_, pa_cons pe_sem pa_sem hs, h1 B ow σ H F A _ fun v H1 F1 P1 k1 => h2 B ow σ H1 F1 P1.ab _ fun vs H2 F2 bs P2 z1 z2 z3 => ?_⟩
  exact q _ H2 F2 ([] ++ bs) (P1.trans P2) (.cons (.fz (Rep.mono P2.f k1)) z1) z2 fun a ha => ⟨(z3 a ha).1, P1.dom a (z3 a ha).2⟩
theorem ev_lstO {ls : List L} (h : EvOs X pu es ρ ρ' ls) (hl : ls.length ≤ 1000) : Ev X pu (.List es pos) ρ ρ' (.lo (.olst ls)) := fun B ow σ H F A Q q => by
  refine ⟨_, pe_lst pa_sem, h B ow σ H F A _ fun vs H1 F1 as P1 z1 z2 z3 => ⟨?_, fun p hp => ?_⟩⟩
  · rw [z1.len]
    exact Nat.le_trans hl (by decide)
  have g : Gro F1 H1 F1 (upd H1 p (.lst vs)) := .heap P1.ab.sub hp
  refine q _ _ F1 ((P1.trans (Ps.pure (pu := true) P1.ab g)).as fun z => by rw [Bool.and_true]; exact z) ⟨p :: as, .olst upd_same (z1.mono (Same.refl _) fun b o _ e => g.h _ _ e), List.nodup_cons.mpr ⟨fun hm => ?_, z2⟩, fun a ha => ?_⟩
  · obtain ⟨u, hu⟩ := z1.there p hm
    rw [hp] at hu
    cases hu
  · rcases List.mem_cons.mp ha with rfl | ha
    · exact ⟨P1.ab.sub.free hp, P1.dom _ hp⟩
    · exact z3 a ha
theorem ev_tupO {ls : List L} {k : Nat} (h : EvOs X pu es ρ ρ' ls) (hl : ls.length ≤ 1000) : Ev X pu (.Tuple es k pos) ρ ρ' (.lo (.otup ls)) := fun B ow σ H F A Q q => by
  refine ⟨_, pe_tup pa_sem, h B ow σ H F A _ fun vs H1 F1 as P1 z1 z2 z3 => ⟨?_, fun p hp => ?_⟩⟩
  · rw [z1.len]
    exact Nat.le_trans hl (by decide)
  have g : Gro F1 H1 F1 (upd H1 p (.tup vs)) := .heap P1.ab.sub hp
  refine q _ _ F1 ((P1.trans (Ps.pure (pu := true) P1.ab g)).as fun z => by rw [Bool.and_true]; exact z) ⟨p :: as, .otup upd_same (z1.mono (Same.refl _) fun b o _ e => g.h _ _ e), List.nodup_cons.mpr ⟨fun hm => ?_, z2⟩, fun a ha => ?_⟩
  · obtain ⟨u, hu⟩ := z1.there p hm
    rw [hp] at hu
    cases hu
  · rcases List.mem_cons.mp ha with rfl | ha
    · exact ⟨P1.ab.sub.free hp, P1.dom _ hp⟩
    · exact z3 a ha
/-- (a, b, ..) of frozen things -/
theorem ev_tup {ds : List D} {k : Nat} (h : EvA X pu es ρ ρ' rs) (hd : allD rs = some ds) (hl : rs.length ≤ 1000) : Ev X pu (.Tuple es k pos) ρ ρ' (.d (.tup ds)) := fun B ow σ H F A Q q => by
  refine ⟨_, pe_tup pa_sem, h B ow σ H F A _ fun vs H1 F1 P1 k1 => ⟨?_, fun p hp => ?_⟩⟩
  · rw [k1.len]
    exact Nat.le_trans hl (by decide)
  have g : Gro F1 H1 (upd F1 p (.tup vs)) (upd H1 p (.tup vs)) := .new P1.ab.sub hp
  exact q _ _ _ ((P1.trans (Ps.pure (pu := true) P1.ab g)).as fun z => by rw [Bool.and_true]; exact z) (.tup upd_same ((allD_ok hd k1).mono g.f))
theorem ev_tupN {k : Nat} (h : EvA X pu es ρ ρ' rs) (hl : rs.length ≤ 1000) : Ev X pu (.Tuple es k pos) ρ ρ' (.now (.tup (allNow rs))) := fun B ow σ H F A Q q => by
  refine ⟨_, pe_tup pa_sem, h B ow σ H F A _ fun vs H1 F1 P1 k1 => ⟨?_, fun p hp => ?_⟩⟩
  · rw [k1.len]
    exact Nat.le_trans hl (by decide)
  have g : Gro F1 H1 F1 (upd H1 p (.tup vs)) := .heap P1.ab.sub hp
  exact q _ _ F1 ((P1.trans (Ps.pure (pu := true) P1.ab g)).as fun z => by rw [Bool.and_true]; exact z) (.tup upd_same ((now_ok P1.ab k1).mono (same_upd hp)))

/-! ### lists read -/
theorem sm_cat {xs ys : List D} (cx : Cv x (.li xs)) (cy : Cv y (.li ys)) (hl : xs.length + ys.length ≤ 16000000) : Sem2 X rCat x y (.lo (.own (xs ++ ys))) := fun B ρ ow σ Hs H F v w A h1 h2 Q q => by
  obtain ⟨l, vs, rfl, z1, z2⟩ := cx B ρ ow σ Hs H F v A h1
  obtain ⟨m, ws, rfl, y1, y2⟩ := cy B ρ ow σ Hs H F w A h2
  refine ⟨l, m, vs, ws, rfl, rfl, z1, y1, by rw [z2.length, y2.length]; exact Nat.le_trans hl (by decide), fun p hp => ?_⟩
  exact q _ _ F (.heap A.sub hp) (lo_new A.sub hp (fun _ e => e) (z2.append y2))
theorem ev_cat {xs ys : List D} (ha : Ev X p1 a ρ ρ1 x) (hb : Ev X p2 b ρ1 ρ2 y) (pk : Pk p2 x) (cx : Cv x (.li xs)) (cy : Cv y (.li ys)) (hl : xs.length + ys.length ≤ 16000000) : Ev X (p1 && p2) (.BinOp a .Add b pos) ρ ρ2 (.lo (.own (xs ++ ys))) :=
  ev_bin op_cat ha hb pk (sm_cat cx cy hl)
theorem sm_rep {xs : List D} {k : Int} (cx : Cv x (.li xs)) (h0 : -(2 ^ 63) ≤ k) (h1 : k < 2 ^ 63) (hl : xs.length * k.toNat ≤ 16000000) : Sem2 X rRep x (.d (.int k)) (.lo (.own (List.replicate k.toNat xs).flatten)) := fun B ρ ow σ Hs H F v w A q1 q2 Q q => by
  obtain ⟨l, vs, rfl, z1, z2⟩ := cx B ρ ow σ Hs H F v A q1
  rw [rep_int q2]
  refine ⟨l, k, vs, rfl, rfl, z1, h0, h1, by rw [z2.length]; exact Nat.le_trans hl (by decide), fun p hp => ?_⟩
  exact q _ _ F (.heap A.sub hp) (lo_new A.sub hp (fun _ e => e) (z2.reps _))
theorem ev_rep {xs : List D} {k : Int} (ha : Ev X p1 a ρ ρ1 x) (hb : Ev X p2 b ρ1 ρ2 (.d (.int k))) (pk : Pk p2 x) (cx : Cv x (.li xs)) (h0 : -(2 ^ 63) ≤ k) (h1 : k < 2 ^ 63) (hl : xs.length * k.toNat ≤ 16000000) :
    Ev X (p1 && p2) (.BinOp a .Mult b pos) ρ ρ2 (.lo (.own (List.replicate k.toNat xs).flatten)) := ev_bin op_rep ha hb pk (sm_rep cx h0 h1 hl)
/-- xs[i] -/
theorem ixN_lt {n : Nat} {i : Int} {k : Nat} (h : ixN n i = some k) : k < n := (ixN_seq h).2.1
theorem sm_ixL {ds : List D} {i : Int} {k : Nat} {d : D} (cx : Cv x (.li ds)) (hk : ixN ds.length i = some k) (hd : ds[k]? = some d) : Sem2 X (rIxL X.K) x (.d (.int i)) (.d d) := fun B ρ ow σ Hs H F v w A q1 q2 Q q => by
  obtain ⟨l, vs, rfl, z1, z2⟩ := cx B ρ ow σ Hs H F v A q1
  rw [rep_int q2]
  obtain ⟨u, e, r⟩ := z2.get' hd
  refine ⟨l, vs, i, u, rfl, rfl, SqL.of z1, ?_, q _ H F (.refl A.sub) r⟩
  unfold atI
  rw [z2.length, hk]
  exact e
theorem ev_ixL {ds : List D} {i : Int} {k : Nat} {d : D} (ha : Ev X p1 a ρ ρ1 x) (hb : Ev X p2 b ρ1 ρ2 (.d (.int i))) (pk : Pk p2 x) (cx : Cv x (.li ds)) (hk : ixN ds.length i = some k) (hd : ds[k]? = some d) (hs : PlainIx b) :
    Ev X (p1 && p2) (.Subscript a b pos) ρ ρ2 (.d d) := ev_ix ix_list ha hb pk (sm_ixL cx hk hd) hs
theorem sm_ixT {ds : List D} {i : Int} {k : Nat} {d : D} (hk : ixN ds.length i = some k) (hd : ds[k]? = some d) : Sem2 X (rIxT X.K) (.d (.tup ds)) (.d (.int i)) (.d d) := fun B ρ ow σ Hs H F v w A q1 q2 Q q => by
  obtain ⟨l, vs, rfl, z1, z2⟩ := rep_tup q1
  rw [rep_int q2]
  obtain ⟨u, e, r⟩ := z2.get' hd
  refine ⟨l, vs, i, u, rfl, rfl, SqT.of (A.sub _ _ z1), ?_, q _ H F (.refl A.sub) r⟩
  unfold atI
  rw [z2.length, hk]
  exact e
theorem ev_ixT {ds : List D} {i : Int} {k : Nat} {d : D} (ha : Ev X p1 a ρ ρ1 (.d (.tup ds))) (hb : Ev X p2 b ρ1 ρ2 (.d (.int i))) (hk : ixN ds.length i = some k) (hd : ds[k]? = some d) (hs : PlainIx b) :
    Ev X (p1 && p2) (.Subscript a b pos) ρ ρ2 (.d d) := ev_ix ix_tup ha hb (.inr rfl) (sm_ixT hk hd) hs
/-- x in xs: scalars -/
def D.flat : D → Bool
  | .non => true
  | .bl _ => true
  | .int _ => true
  | .str _ => true
  | _ => false
/-- == of scalars -/
def D.eqF : D → D → Bool
  | .non, .non => true
  | .bl a, .bl b => a == b
  | .bl a, .int b => (if a then 1 else 0) == b
  | .int a, .bl b => a == (if b then 1 else 0)
  | .int a, .int b => a == b
  | .str a, .str b => a == b
  | _, _ => false
theorem flat_rep {H : Hp} {v : V} {d : D} (h : Rep H v d) (f : d.flat = true) : flatV v = true := by
  cases h <;> first | rfl | cases f
theorem eqF_rep {H : Hp} {v w : V} {d f : D} (h : Rep H v d) (k : Rep H w f) (fd : d.flat = true) (ff : f.flat = true) : eqV v w = d.eqF f := by
  cases h <;> first | (cases fd; done) | (cases k <;> first | (cases ff; done) | rfl)
theorem inV_rep {H : Hp} {w : V} {f : D} (k : Rep H w f) (ff : f.flat = true) : ∀ {ds : List D} {vs : List V}, RepL H vs ds → ds.all D.flat = true → inV w vs = ds.any (fun d => d.eqF f) ∧ vs.all flatV = true
  | [], _, h, _ => by
    cases h
    exact ⟨rfl, rfl⟩
  | d :: ds, _, h, fl => by
    cases h with
    | cons h1 h2 =>
      rw [List.all_cons, Bool.and_eq_true] at fl
      obtain ⟨q1, q2⟩ := inV_rep k ff h2 fl.2
      unfold inV at q1 ⊢
      rw [List.any_cons, List.any_cons, q1, eqF_rep h1 k fl.1 ff, List.all_cons, q2, flat_rep h1 fl.1]
      exact ⟨rfl, rfl⟩
theorem sm_in {neg : Bool} {f : D} {ds : List D} (ff : f.flat = true) (fl : ds.all D.flat = true) (cy : Cv y (.li ds)) : Sem2 X (rIn X.K neg) (.d f) y (.d (.bl (if neg = true then !(ds.any fun d => d.eqF f) else ds.any fun d => d.eqF f))) := fun B ρ ow σ Hs H F v w A q1 q2 Q q => by
  obtain ⟨l, vs, rfl, z1, z2⟩ := cy B ρ ow σ Hs H F w A q2
  obtain ⟨i1, i2⟩ := inV_rep q1 ff z2 fl
  refine ⟨l, vs, rfl, .inl (SqL.of z1), flat_rep q1 ff, i2, ?_⟩
  rw [i1]
  exact q _ H F (.refl A.sub) (.bl _)
theorem any_int {ns : List Int} {i : Int} : (ns.map D.int).any (fun d => d.eqF (.int i)) = ns.contains i := by
  induction ns with
  | nil => rfl
  | cons n ns ih =>
    rw [List.map_cons, List.any_cons, ih, List.contains_cons]
    show ((n == i) || _) = ((i == n) || _)
    rw [show (n == i) = (i == n) by rw [Bool.eq_iff_iff]; simp only [beq_iff_eq]; exact ⟨Eq.symm, Eq.symm⟩]
theorem flat_ints {ns : List Int} : (ns.map D.int).all D.flat = true := by
  rw [List.all_map]
  exact List.all_eq_true.mpr fun _ _ => rfl
/-- i in a list of ints -/
theorem ev_in {i : Int} {ns : List Int} (ha : Ev X p1 a ρ ρ1 (.d (.int i))) (hb : Ev X p2 b ρ1 ρ2 y) (cy : Cv y (.li (ns.map D.int))) (hm : behindInMarks .In b = false) : Ev X (p1 && p2) (.Compare a [.In] [b] pos) ρ ρ2 (.d (.bl (ns.contains i))) :=
  (ev_cmp op_in_seq ha hb (.inr rfl) (sm_in rfl flat_ints cy) hm).bl any_int
theorem ev_notIn {i : Int} {ns : List Int} (ha : Ev X p1 a ρ ρ1 (.d (.int i))) (hb : Ev X p2 b ρ1 ρ2 y) (cy : Cv y (.li (ns.map D.int))) (hm : behindInMarks .NotIn b = false) : Ev X (p1 && p2) (.Compare a [.NotIn] [b] pos) ρ ρ2 (.d (.bl (!ns.contains i))) :=
  (ev_cmp op_notIn_seq ha hb (.inr rfl) (sm_in rfl flat_ints cy) hm).bl (by rw [any_int]; rfl)

/-! ### tests -/
theorem et_val {k : Bool} (h : Ev X pu e ρ ρ' (.d (.bl k))) (he : ∀ whole, isTrue e X.env whole = (do let v ← whole; standAt e.pos; holding [v] (truthy v))) : EvT X pu e ρ ρ' k := fun B ow σ H F A Q q =>
  ⟨_, pt_val pe_sem he, h B ow σ H F A _ fun v H1 F1 P1 k1 => ⟨k, rep_bl k1, q H1 F1 P1⟩⟩
theorem et_not {k : Bool} (h : EvT X pu e ρ ρ' k) : EvT X pu (.UnaryOp .Not e pos) ρ ρ' (!k) := fun B ow σ H F A Q q =>
  ⟨_, pt_not pt_sem, h B ow σ H F A _ fun H1 F1 P1 => q H1 F1 P1⟩
def semW (X : Cx) (e : Expr) : TT := fun σ H Q => ∃ t, PW X e t ∧ t σ H Q
theorem pw_sem : PW X e (semW X e) := ⟨fun wh pins s σ H Q I ⟨t, h, q⟩ => h.run wh pins s σ H Q I q⟩
def EvW (X : Cx) (pu : Bool) (e : Expr) (ρ ρ' : List SV) (b : Bool) : Prop := ∀ B ow σ H F, Ab B ρ ow σ H F → ∀ Q : Bool → Hp → Prop, (∀ H' F', Ps B ρ ρ' ow σ H F pu H' F' → Q b H') → semW X e σ H Q
theorem et_w {k : Bool} (h : EvW X pu e ρ ρ' k) : EvT X pu e ρ ρ' k := fun B ow σ H F A Q q => ⟨_, PW.pt pw_sem, h B ow σ H F A Q q⟩
theorem ew_and1 {k : Bool} (h : EvT X pu a ρ ρ' k) : EvW X pu (.BoolOp .And [a] pos) ρ ρ' k := fun B ow σ H F A Q q => ⟨_, pw_and1 pt_sem, h B ow σ H F A Q q⟩
theorem ew_or1 {k : Bool} (h : EvT X pu a ρ ρ' k) : EvW X pu (.BoolOp .Or [a] pos) ρ ρ' k := fun B ow σ H F A Q q => ⟨_, pw_or1 pt_sem, h B ow σ H F A Q q⟩
theorem ew_and {k m : Bool} (h1 : EvT X p1 a ρ ρ k) (h2 : k = true → EvW X p2 (.BoolOp .And (b :: rest) pos) ρ ρ m) : EvW X (p1 && p2) (.BoolOp .And (a :: b :: rest) pos) ρ ρ (k && m) := fun B ow σ H F A Q q => by
  refine ⟨_, pw_and pt_sem pw_sem, h1 B ow σ H F A _ fun H1 F1 P1 => ?_⟩
  cases k with
  | true => exact h2 rfl B ow σ H1 F1 P1.ab _ fun H2 F2 P2 => q H2 F2 (P1.trans P2)
  | false => exact q H1 F1 (P1.as fun z => (Bool.and_eq_true_iff.mp z).1)
theorem ew_or {k m : Bool} (h1 : EvT X p1 a ρ ρ k) (h2 : k = false → EvW X p2 (.BoolOp .Or (b :: rest) pos) ρ ρ m) : EvW X (p1 && p2) (.BoolOp .Or (a :: b :: rest) pos) ρ ρ (k || m) := fun B ow σ H F A Q q => by
  refine ⟨_, pw_or pt_sem pw_sem, h1 B ow σ H F A _ fun H1 F1 P1 => ?_⟩
  cases k with
  | true => exact q H1 F1 (P1.as fun z => (Bool.and_eq_true_iff.mp z).1)
  | false => exact h2 rfl B ow σ H1 F1 P1.ab _ fun H2 F2 P2 => q H2 F2 (P1.trans P2)
/-- the second part draws -/
theorem ew_andX {k m : Bool} (h1 : EvT X p1 a ρ ρ1 k) (h2 : k = true → EvW X p2 (.BoolOp .And (b :: rest) pos) ρ1 ρ2 m) : EvW X false (.BoolOp .And (a :: b :: rest) pos) ρ (if k = true then ρ2 else ρ1) (k && m) := fun B ow σ H F A Q q => by
  refine ⟨_, pw_and pt_sem pw_sem, h1 B ow σ H F A _ fun H1 F1 P1 => ?_⟩
  cases k with
  | true => exact h2 rfl B ow σ H1 F1 P1.ab _ fun H2 F2 P2 => q H2 F2 ((P1.trans P2).as fun z => by cases z)
  | false => exact q H1 F1 (P1.as fun z => by cases z)
/-- as values -/
theorem ev_one {op : BoolOp} (h : Ev X pu a ρ ρ' r) : Ev X pu (.BoolOp op [a] pos) ρ ρ' r := fun B ow σ H F A Q q => ⟨_, pe_one pe_sem, h B ow σ H F A Q q⟩
theorem ev_and {k m : Bool} (h1 : Ev X p1 a ρ ρ (.d (.bl k))) (h2 : k = true → Ev X p2 (.BoolOp .And (b :: rest) pos) ρ ρ (.d (.bl m))) : Ev X (p1 && p2) (.BoolOp .And (a :: b :: rest) pos) ρ ρ (.d (.bl (k && m))) := fun B ow σ H F A Q q => by
  refine ⟨_, L2.pe_and pe_sem pe_sem, h1 B ow σ H F A _ fun v H1 F1 P1 k1 => ⟨k, rep_bl k1, ?_⟩⟩
  cases k with
  | true => exact h2 rfl B ow σ H1 F1 P1.ab _ fun v H2 F2 P2 => q v H2 F2 (P1.trans P2)
  | false => exact q _ H1 F1 (P1.as fun z => (Bool.and_eq_true_iff.mp z).1) (.bl _)
theorem ev_or {k m : Bool} (h1 : Ev X p1 a ρ ρ (.d (.bl k))) (h2 : k = false → Ev X p2 (.BoolOp .Or (b :: rest) pos) ρ ρ (.d (.bl m))) : Ev X (p1 && p2) (.BoolOp .Or (a :: b :: rest) pos) ρ ρ (.d (.bl (k || m))) := fun B ow σ H F A Q q => by
  refine ⟨_, L2.pe_or pe_sem pe_sem, h1 B ow σ H F A _ fun v H1 F1 P1 k1 => ⟨k, rep_bl k1, ?_⟩⟩
  cases k with
  | true => exact q _ H1 F1 (P1.as fun z => (Bool.and_eq_true_iff.mp z).1) (.bl _)
  | false => exact h2 rfl B ow σ H1 F1 P1.ab _ fun v H2 F2 P2 => q v H2 F2 (P1.trans P2)
theorem ev_andX {k m : Bool} (h1 : Ev X p1 a ρ ρ1 (.d (.bl k))) (h2 : k = true → Ev X p2 (.BoolOp .And (b :: rest) pos) ρ1 ρ2 (.d (.bl m))) : Ev X false (.BoolOp .And (a :: b :: rest) pos) ρ (if k = true then ρ2 else ρ1) (.d (.bl (k && m))) := fun B ow σ H F A Q q => by
  refine ⟨_, L2.pe_and pe_sem pe_sem, h1 B ow σ H F A _ fun v H1 F1 P1 k1 => ⟨k, rep_bl k1, ?_⟩⟩
  cases k with
  | true => exact h2 rfl B ow σ H1 F1 P1.ab _ fun v H2 F2 P2 => q v H2 F2 ((P1.trans P2).as fun z => by cases z)
  | false => exact q _ H1 F1 (P1.as fun z => by cases z) (.bl _)
theorem ev_not {k : Bool} (h : Ev X pu a ρ ρ' (.d (.bl k))) : Ev X pu (.UnaryOp .Not a pos) ρ ρ' (.d (.bl (!k))) := fun B ow σ H F A Q q =>
  ⟨_, L2.pe_not pe_sem, h B ow σ H F A _ fun v H1 F1 P1 k1 => ⟨k, rep_bl k1, q _ H1 F1 P1 (.bl _)⟩⟩
theorem ev_neg {i : Int} (h : Ev X pu a ρ ρ' (.d (.int i))) : Ev X pu (.UnaryOp .USub a pos) ρ ρ' (.d (.int (-i))) := fun B ow σ H F A Q q =>
  ⟨_, pe_un un_neg pe_sem, h B ow σ H F A _ fun v H1 F1 P1 k1 => ⟨i, rep_int k1, q _ H1 F1 P1 (.int _)⟩⟩
theorem and3l {a b c : Bool} (h : (a && (b && c)) = true) : (a && b) = true := by
  cases a <;> cases b <;> cases c <;> first | rfl | cases h
theorem and3r {a b c : Bool} (h : (a && (b && c)) = true) : (a && c) = true := by
  cases a <;> cases b <;> cases c <;> first | rfl | cases h
theorem ev_ife {k : Bool} (hc : EvT X p1 c ρ ρ1 k) (ha : k = true → Ev X p2 a ρ1 ρ2 r) (hb : k = false → Ev X p3 b ρ1 ρ2 r) : Ev X (p1 && (p2 && p3)) (.IfExp c a b pos) ρ ρ2 r := fun B ow σ H F A Q q => by
  refine ⟨_, pe_ifExp pt_sem pe_sem pe_sem, hc B ow σ H F A _ fun H1 F1 P1 => ?_⟩
  cases k with
  | true => exact ha rfl B ow σ H1 F1 P1.ab _ fun v H2 F2 P2 k2 => q v H2 F2 ((P1.trans P2).as and3l) (k2.start P1.dom)
  | false => exact hb rfl B ow σ H1 F1 P1.ab _ fun v H2 F2 P2 k2 => q v H2 F2 ((P1.trans P2).as and3r) (k2.start P1.dom)
theorem ev_ifI {k : Bool} {i j : Int} (hc : EvT X p1 c ρ ρ1 k) (ha : k = true → Ev X p2 a ρ1 ρ2 (.d (.int i))) (hb : k = false → Ev X p3 b ρ1 ρ2 (.d (.int j))) : Ev X (p1 && (p2 && p3)) (.IfExp c a b pos) ρ ρ2 (.d (.int (if k = true then i else j))) :=
  ev_ife hc (fun h => by rw [if_pos h]; exact ha h) (fun h => by rw [if_neg (by rw [h]; decide)]; exact hb h)

/-! ### built-ins by their names -/
def SemC (X : Cx) (r : List V → Hp → VK → Prop) (rs : List Rs) (z : Rs) : Prop := ∀ B ρ ow σ Hs H F vs, Ab B ρ ow σ H F → RsAll ρ σ Hs H F rs vs → ∀ Q : VK, (∀ u H' F', Gro F H F' H' → RsOk ρ σ H H' F' z u → Q u H') → r vs H Q
/-- a name that the module leaves as it is -/
structure Bi (X : Cx) (x : Str) (u : Value) : Prop where
  g : Gl X x
  m : X.mg x = none
  b : bootBuiltins x = some u
  n : x ≠ ("__name__" : Str)
  d : (x == ("__debug__" : Str)) = false
theorem ev_callB {x : Str} {id : String} {r2 : List V → Hp → VK → Prop} {p : Pos} (N : Bi X x (.builtin id)) (hc : CallR X (.builtin id) r2) (ha : EvA X pu (e :: es) ρ ρ' rs) (sm : SemC X r2 rs z)
    (he : starEach (e :: es) X.env = (false, eval e X.env) :: starEach es X.env) (hpl : (backTo pos (starEach es X.env)).any (·.1) = false) : Ev X pu (.Call (.Name x p) (e :: es) [] pos) ρ ρ' z := fun B ow σ H F A Q q => by
  refine ⟨_, pe_callB hc N.g N.m N.b pa_sem N.n N.d he hpl, ha B ow σ H F A _ fun vs H1 F1 P1 k1 => sm B ρ' ow σ H H1 F1 vs P1.ab k1 _ fun u H2 F2 g2 k2 => ?_⟩
  exact q u H2 F2 ((P1.trans (Ps.pure (pu := true) P1.ab g2)).as fun z => by rw [Bool.and_true]; exact z) (k2.start P1.dom)
theorem ev_callT {x : Str} {id : String} {r2 : List V → Hp → VK → Prop} {p : Pos} (N : Bi X x (.type id)) (hc : CallR X (.type id) r2) (ha : EvA X pu (e :: es) ρ ρ' rs) (sm : SemC X r2 rs z)
    (he : starEach (e :: es) X.env = (false, eval e X.env) :: starEach es X.env) (hpl : (backTo pos (starEach es X.env)).any (·.1) = false) : Ev X pu (.Call (.Name x p) (e :: es) [] pos) ρ ρ' z := fun B ow σ H F A Q q => by
  refine ⟨_, pe_callTy hc N.g N.m N.b pa_sem N.n N.d he hpl, ha B ow σ H F A _ fun vs H1 F1 P1 k1 => sm B ρ' ow σ H H1 F1 vs P1.ab k1 _ fun u H2 F2 g2 k2 => ?_⟩
  exact q u H2 F2 ((P1.trans (Ps.pure (pu := true) P1.ab g2)).as fun z => by rw [Bool.and_true]; exact z) (k2.start P1.dom)
/-- int(i), int(b) -/
theorem ev_intI {i : Int} {p : Pos} (N : Bi X "int" (.type "int")) (ha : Ev X pu e ρ ρ' (.d (.int i))) (he : starEach [e] X.env = [(false, eval e X.env)]) : Ev X pu (.Call (.Name "int" p) [e] [] pos) ρ ρ' (.d (.int i)) :=
  ev_callT N call_int1 (ea_one ha he) (fun B ρ ow σ Hs H F vs A h Q q => by
    obtain ⟨v, rfl, k⟩ := h.one
    rw [rep_int k]
    exact .inl ⟨i, rfl, q _ H F (.refl A.sub) (.int i)⟩) he rfl
def b2n (b : Bool) : Int := if b = true then 1 else 0
theorem ev_intB {b : Bool} {p : Pos} (N : Bi X "int" (.type "int")) (ha : Ev X pu e ρ ρ' (.d (.bl b))) (he : starEach [e] X.env = [(false, eval e X.env)]) : Ev X pu (.Call (.Name "int" p) [e] [] pos) ρ ρ' (.d (.int (b2n b))) :=
  ev_callT N call_int1 (ea_one ha he) (fun B ρ ow σ Hs H F vs A h Q q => by
    obtain ⟨v, rfl, k⟩ := h.one
    rw [rep_bl k]
    exact .inr ⟨b, rfl, q _ H F (.refl A.sub) (.int _)⟩) he rfl
/-- len(xs) -/
theorem ev_len {ds : List D} {p : Pos} (N : Bi X "len" (.builtin "len")) (ha : Ev X pu e ρ ρ' x) (cx : Cv x (.li ds)) (he : starEach [e] X.env = [(false, eval e X.env)]) : Ev X pu (.Call (.Name "len" p) [e] [] pos) ρ ρ' (.d (.int (ds.length : Int))) :=
  ev_callB N call_len_seq (ea_one ha he) (fun B ρ ow σ Hs H F vs A h Q q => by
    obtain ⟨v, rfl, k⟩ := h.one
    obtain ⟨l, ws, rfl, z1, z2⟩ := cx B ρ ow σ Hs H F v A k
    refine ⟨l, ws, rfl, .inl (SqL.of z1), ?_⟩
    rw [z2.length]
    exact q _ H F (.refl A.sub) (.int _)) he rfl
/-- list(xs), list(t) -/
theorem ev_list {ds : List D} {p : Pos} (N : Bi X "list" (.type "list")) (ha : Ev X pu e ρ ρ' x) (cx : Cv x (.li ds)) (he : starEach [e] X.env = [(false, eval e X.env)]) : Ev X pu (.Call (.Name "list" p) [e] [] pos) ρ ρ' (.lo (.own ds)) :=
  ev_callT N call_list_of (ea_one ha he) (fun B ρ ow σ Hs H F vs A h Q q => by
    obtain ⟨v, rfl, k⟩ := h.one
    obtain ⟨l, ws, rfl, z1, z2⟩ := cx B ρ ow σ Hs H F v A k
    exact ⟨l, ws, rfl, .inl (SqL.of z1), fun m hm => q _ _ F (.heap A.sub hm) (lo_new A.sub hm (fun _ e => e) z2)⟩) he rfl
/-- xs[lo:hi] -/
def cutD (xs : List D) (lo hi : Option Int) : List D := (xs.drop (HT.sIx xs.length 0 lo)).take (HT.sIx xs.length xs.length hi - HT.sIx xs.length 0 lo)
theorem cut_rep {H : Hp} {vs : List V} {ds : List D} {lo hi : Option Int} (h : RepL H vs ds) : RepL H (cutV vs lo hi) (cutD ds lo hi) := by
  unfold cutV cutD
  rw [h.length]
  exact (h.drop _).take _
def EvO (X : Cx) (pu : Bool) (e : Option Expr) (ρ ρ' : List SV) (o : Option Int) : Prop := ∀ B ow σ H F, Ab B ρ ow σ H F → ∀ Q : Option Int → Hp → Prop, (∀ H' F', Ps B ρ ρ' ow σ H F pu H' F' → Q o H') → ∃ t, PO X e t ∧ t σ H Q
def semO (X : Cx) (e : Option Expr) : TO := fun σ H Q => ∃ t, PO X e t ∧ t σ H Q
theorem po_sem {e : Option Expr} : PO X e (semO X e) := ⟨fun pins s σ H Q I ⟨t, h, q⟩ => h.run pins s σ H Q I q⟩
theorem eo_none : EvO X true none ρ ρ none := fun B ow σ H F A Q q => ⟨_, po_none, q H F (.refl A)⟩
theorem eo_some {i : Int} (h : Ev X pu e ρ ρ' (.d (.int i))) : EvO X pu (some e) ρ ρ' (some i) := fun B ow σ H F A Q q => ⟨_, po_some pe_sem, h B ow σ H F A _ fun v H1 F1 P1 k1 => ⟨i, rep_int k1, q H1 F1 P1⟩⟩
theorem ev_slice {ds : List D} {lo hi : Option Expr} {l h : Option Int} {q2 : Pos} (ha : Ev X p1 a ρ ρ x) (cx : Cv x (.li ds)) (hl : EvO X p2 lo ρ ρ l) (hh : EvO X p3 hi ρ ρ h) (e2 : p2 = true) (e3 : p3 = true) :
    Ev X p1 (.Subscript a (.Slice lo hi none q2) pos) ρ ρ (.lo (.own (cutD ds l h))) := fun B ow σ H F A Q q => by
  subst e2 e3
  refine ⟨_, pe_slice sl_list pe_sem po_sem po_sem, ha B ow σ H F A _ fun v H1 F1 P1 k1 => hl B ow σ H1 F1 P1.ab _ fun H2 F2 P2 => hh B ow σ H2 F2 P2.ab _ fun H3 F3 P3 => ?_⟩
  have k3 := (k1.keep P1 A P2 (.inl rfl)).keep (P1.trans P2) A P3 (.inl rfl)
  obtain ⟨m, ws, rfl, z1, z2⟩ := cx B ρ ow σ H H3 F3 v P3.ab k3
  refine ⟨m, ws, rfl, SqL.of z1, fun p hp => ?_⟩
  exact q _ _ F3 ((P1.trans (P2.trans (P3.trans (Ps.pure (pu := true) P3.ab (.heap P3.ab.sub hp))))).as fun z => by rw [z]; rfl) (lo_new P3.ab.sub hp (P1.trans (P2.trans P3)).dom (cut_rep z2))
end
end Mw

set_option Elab.async false
set_option linter.all false
set_option maxRecDepth 100000
set_option maxHeartbeats 4000000
/-! Mw4: statements, targets, loops -/
namespace Mw
open PySem L2
/-- what is wanted behind statements -/
structure AE where
  nx : List SV → Prop
  rt : Rs → List SV → Prop
  bk : List SV → Prop := fun _ => False
  ct : List SV → Prop := fun _ => False
structure EndsOk (B : Bs) (F : Hp) (E : AE) (D : Ends) : Prop where
  nx : ∀ ρ ow σ H F', Ab B ρ ow σ H F' → Same F F' → E.nx ρ → D.nx σ H
  bk : ∀ ρ ow σ H F', Ab B ρ ow σ H F' → Same F F' → E.bk ρ → D.bk σ H
  ct : ∀ ρ ow σ H F', Ab B ρ ow σ H F' → Same F F' → E.ct ρ → D.ct σ H
  rt : ∀ ρ ow σ H F' r v, Ab B ρ ow σ H F' → Same F F' → RsOk ρ σ B.H0 H F' r v → E.rt r ρ → D.rt v H
theorem EndsOk.mono {B : Bs} {F F' : Hp} {E : AE} {D : Ends} (h : EndsOk B F E D) (f : Same F F') : EndsOk B F' E D :=
  ⟨fun ρ ow σ H G A g => h.nx ρ ow σ H G A (f.trans g), fun ρ ow σ H G A g => h.bk ρ ow σ H G A (f.trans g), fun ρ ow σ H G A g => h.ct ρ ow σ H G A (f.trans g), fun ρ ow σ H G r v A g => h.rt ρ ow σ H G r v A (f.trans g)⟩
def SX (X : Cx) (st : List Stmt) (ρ : List SV) (E : AE) : Prop := ∀ B ow σ H F, Ab B ρ ow σ H F → ∀ D, EndsOk B F E D → semSs X st D σ H
section
variable {X : Cx} {pu p1 p2 : Bool} {e a b tg it : Expr} {es : List Expr} {rest st s1 s2 : List Stmt} {ρ ρ' ρ1 ρ2 : List SV} {r x y z : Rs} {rs : List Rs} {pos : Pos} {E : AE}

/-- r put into the i-th slot, as a slot's content -/
def Rs.sv : Rs → SV
  | .d x => .d x
  | .lo x => .lo x
  | _ => .un
def SV.isPar : SV → Bool
  | .par _ => true
  | _ => false
theorem np_of {i : Nat} {s : SV} (h : ρ[i]? = some s) (n : s.isPar = false) : (∀ ds, ρ[i]? ≠ some (.par ds)) ∧ i < ρ.length := ⟨(fun ds z => by
    rw [h] at z
    cases z
    cases n), (List.getElem?_eq_some_iff.mp h).1⟩
theorem Ab.put {B : Bs} {ow : Ow} {σ : St} {Hs Fs H F : Hp} {i : Nat} {v : V} {s : SV} (A0 : Ab B ρ' ow σ Hs Fs) (A : Ab B ρ ow σ H F) (hs : ρ[i]? = some s) (np : s.isPar = false) (k : RsOk ρ σ Hs H F r v) : ∃ ow', Ab B (ρ.set i r.sv) ow' (σ.set i (some v)) H F := by
  obtain ⟨np1, hi⟩ := np_of hs np
  have un : ∃ ow', Ab B (ρ.set i .un) ow' (σ.set i (some v)) H F := ⟨_, A.setAny (s := .un) (as := []) np1 (fun _ z => by cases z) trivial List.nodup_nil (fun _ z => by cases z) (fun _ => rfl) fun z => absurd rfl z⟩
  cases r with
  | d d => exact ⟨_, A.setD np1 k⟩
  | lo l =>
    obtain ⟨as, h1, h2, h3⟩ := k
    exact ⟨_, A.setAny np1 (fun _ z => by cases z) ⟨v, rfl, h1⟩ h2 (fun a ha => ⟨(h3 a ha).1, (A0.nobody (h3 a ha).2).2.1, h1.there a ha, fun j _ => (A0.nobody (h3 a ha).2).2.2 j⟩) (fun z => absurd rfl (z l)) fun _ => hi⟩
  | at_ i ds => exact un
  | li ds => exact un
  | now d => exact un
theorem sx_nil (h : E.nx ρ) : SX X [] ρ E := fun B ow σ H F A D k => ⟨_, pss_nil, k.nx ρ ow σ H F A (Same.refl _) h⟩
/-- x = e -/
structure Nl (X : Cx) (i : Nat) (x : Str) : Prop where
  nd : X.N.Nodup
  n : X.N[i]? = some x
  l : Loc X.env.scope x
  f : X.fn x = true ∨ X.env.scope.names.lookup x = some .local
theorem sx_set {i : Nat} {x : Str} {pp : Pos} (N : Nl X i x) {s : SV} (h : Ev X pu e ρ ρ1 r) (h0 : ρ1[i]? = some s) (np : s.isPar = false) (k : SX X rest (ρ1.set i r.sv) E) (hs : swapsWith e (some (.Name x pp)) pos.line X.env = pure false) :
    SX X (.Assign [.Name x pp] e pos :: rest) ρ E := fun B ow σ H F A D q => by
  refine ⟨_, pss_cons (ps_set N.nd N.n N.l pe_sem hs N.f) pss_sem, ?_⟩
  refine h B ow σ H F A _ fun v H1 F1 P1 k1 => ?_
  obtain ⟨ow', A'⟩ := A.put P1.ab h0 np k1
  exact k B ow' _ H1 F1 A' D (q.mono P1.f)
/-- an expression alone -/
theorem sx_expr (h : Ev X pu e ρ ρ1 r) (k : SX X rest ρ1 E) (hs : swapsWith e none pos.line X.env = pure false) : SX X (.Expr e pos :: rest) ρ E := fun B ow σ H F A D q =>
  ⟨_, pss_cons (ps_expr pe_sem hs) pss_sem, h B ow σ H F A _ fun v H1 F1 P1 k1 => k B ow σ H1 F1 P1.ab D (q.mono P1.f)⟩
theorem sx_doc {x : Str} {j : Nat} {pp : Pos} (k : SX X rest ρ E) : SX X (.Expr (.Constant (.str x) j pp) pos :: rest) ρ E := fun B ow σ H F A D q =>
  ⟨_, pss_cons ps_doc pss_sem, k B ow σ H F A D q⟩
theorem sx_pass (k : SX X rest ρ E) : SX X (.Pass pos :: rest) ρ E := fun B ow σ H F A D q => ⟨_, pss_cons ps_pass pss_sem, k B ow σ H F A D q⟩
/-- return -/
theorem sx_ret (h : Ev X pu e ρ ρ1 r) (k : E.rt r ρ1) : SX X (.Return (some e) pos :: rest) ρ E := fun B ow σ H F A D q =>
  ⟨_, pss_cons (ps_ret pe_sem) pss_sem, h B ow σ H F A _ fun v H1 F1 P1 k1 => q.rt ρ1 ow σ H1 F1 r v P1.ab P1.f (k1.start fun a e => (A.nobody e).2.1) k⟩
theorem sx_retN (k : E.rt (.d .non) ρ) : SX X (.Return none pos :: rest) ρ E := fun B ow σ H F A D q =>
  ⟨_, pss_cons ps_retN pss_sem, q.rt ρ ow σ H F (.d .non) .non A (Same.refl _) .non k⟩
theorem sx_break (k : E.bk ρ) : SX X (.Break pos :: rest) ρ E := fun B ow σ H F A D q => ⟨_, pss_cons ps_break pss_sem, q.bk ρ ow σ H F A (Same.refl _) k⟩
theorem sx_cont (k : E.ct ρ) : SX X (.Continue pos :: rest) ρ E := fun B ow σ H F A D q => ⟨_, pss_cons ps_continue pss_sem, q.ct ρ ow σ H F A (Same.refl _) k⟩
/-- the ends, something else behind -/
def AE.then (E : AE) (f : List SV → Prop) : AE := { E with nx := f }
theorem EndsOk.seq {B : Bs} {F : Hp} {D : Ends} (q : EndsOk B F E D) : EndsOk B F (E.then fun ρ' => SX X rest ρ' E) { D with nx := semSs X rest D } :=
  ⟨fun ρ ow σ H F' A f k => k B ow σ H F' A D (q.mono f), q.bk, q.ct, q.rt⟩
/-- if -/
theorem sx_if {k : Bool} (h : EvT X pu e ρ ρ1 k) (ht : k = true → SX X s1 ρ1 (E.then fun ρ' => SX X rest ρ' E)) (hf : k = false → SX X s2 ρ1 (E.then fun ρ' => SX X rest ρ' E)) : SX X (.If e s1 s2 pos :: rest) ρ E := fun B ow σ H F A D q => by
  refine ⟨_, pss_cons (ps_if pt_sem pss_sem pss_sem) pss_sem, h B ow σ H F A _ fun H1 F1 P1 => ?_⟩
  have q1 := (q.mono P1.f).seq (X := X) (rest := rest)
  cases k with
  | true => exact ht rfl B ow σ H1 F1 P1.ab _ q1
  | false => exact hf rfl B ow σ H1 F1 P1.ab _ q1
/-- a weaker word of the state -/
def Wk (ρ ρ' : List SV) : Prop := ρ'.length = ρ.length ∧ (∀ (i : Nat) s, ρ'[i]? = some s → s = .un ∨ ρ[i]? = some s) ∧ ∀ (i : Nat) ds, ρ[i]? = some (.par ds) → ρ'[i]? = some (.par ds)
theorem Wk.refl : Wk ρ ρ := ⟨rfl, fun _ _ h => .inr h, fun _ _ h => h⟩
def wkB : List SV → List SV → Prop
  | [], [] => True
  | s :: ρ, t :: ρ' => (t = s ∨ (t = .un ∧ ∀ ds, s ≠ .par ds)) ∧ wkB ρ ρ'
  | _, _ => False
theorem wk_of : ∀ {ρ ρ' : List SV}, wkB ρ ρ' → Wk ρ ρ'
  | [], [], _ => .refl
  | [], _ :: _, h => h.elim
  | _ :: _, [], h => h.elim
  | s :: ρ, t :: ρ', ⟨h1, h2⟩ => by
    obtain ⟨l, w, p⟩ := wk_of h2
    refine ⟨congrArg Nat.succ l, fun i u e => ?_, fun i ds e => ?_⟩
    · cases i with
      | zero =>
        have e' : t = u := Option.some.inj e
        subst e'
        rcases h1 with rfl | ⟨rfl, _⟩
        · exact .inr rfl
        · exact .inl rfl
      | succ i => exact w i u e
    · cases i with
      | zero =>
        have e' : s = .par ds := Option.some.inj e
        subst e'
        rcases h1 with rfl | ⟨_, n⟩
        · rfl
        · exact absurd rfl (n ds)
      | succ i => exact p i ds e
theorem wk_nil : wkB [] [] := trivial
theorem wk_same {s : SV} (h : wkB ρ ρ') : wkB (s :: ρ) (s :: ρ') := ⟨.inl rfl, h⟩
theorem wk_d {d : D} (h : wkB ρ ρ') : wkB (.d d :: ρ) (.un :: ρ') := ⟨.inr ⟨rfl, fun _ z => by cases z⟩, h⟩
theorem wk_lo {l : L} (h : wkB ρ ρ') : wkB (.lo l :: ρ) (.un :: ρ') := ⟨.inr ⟨rfl, fun _ z => by cases z⟩, h⟩
theorem sx_wk (w : Wk ρ ρ') (h : SX X st ρ' E) : SX X st ρ E := fun B ow σ H F A D q => h B _ σ H F (A.weak w.1 w.2.1 w.2.2) D q

/-! ### targets -/
def TgA (X : Cx) (tg : Expr) (ρ : List SV) (d : D) (ρ' : List SV) : Prop := ∀ B ow σ H F v, Ab B ρ ow σ H F → Rep F v d → ∀ Q : St → Hp → Prop, (∀ ow' σ', Ab B ρ' ow' σ' H F → Q σ' H) → semG X tg v σ H Q
theorem tg_name {i : Nat} {x : Str} {d : D} {s : SV} (N : Nl X i x) (h0 : ρ[i]? = some s) (np : s.isPar = false) : TgA X (.Name x pos) ρ d (ρ.set i (.d d)) := fun B ow σ H F v A r Q q =>
  ⟨_, pg_name N.nd N.n N.l N.f, q _ _ (A.setD (np_of h0 np).1 r)⟩
def semGs (X : Cx) (ts : List Expr) : TGs := fun vs σ H Q => ∃ t, PGs X ts t ∧ t vs σ H Q
theorem pgs_sem {ts : List Expr} : PGs X ts (semGs X ts) := ⟨fun pins s σ H vs us Q I r ⟨t, h, q⟩ => h.run pins s σ H vs us Q I r q⟩
def TgAs (X : Cx) (ts : List Expr) (ρ : List SV) (ds : List D) (ρ' : List SV) : Prop := ∀ B ow σ H F vs, Ab B ρ ow σ H F → RepL F vs ds → ∀ Q : St → Hp → Prop, (∀ ow' σ', Ab B ρ' ow' σ' H F → Q σ' H) → semGs X ts vs σ H Q
theorem tgs_nil : TgAs X [] ρ [] ρ := fun B ow σ H F vs A r Q q => by
  cases r
  exact ⟨_, pgs_nil, rfl, q _ _ A⟩
theorem tgs_cons {d : D} {ds : List D} (h1 : TgA X e ρ d ρ1) (h2 : TgAs X es ρ1 ds ρ2) (hs : (assignEach (e :: es) X.env).map (·.2) = assign e X.env :: (assignEach es X.env).map (·.2)) : TgAs X (e :: es) ρ (d :: ds) ρ2 := fun B ow σ H F vs A r Q q => by
  cases r with
  | cons r1 r2 => exact ⟨_, pgs_cons pg_sem pgs_sem hs, _, _, rfl, h1 B ow σ H F _ A r1 _ fun ow' σ' A' => h2 B ow' σ' H F _ A' r2 _ q⟩
theorem tg_tup {ds : List D} {k : Nat} (hc : X.calm = true) (h : TgAs X es ρ ds ρ') (hn : (assignEach es X.env).length = ds.length) (hst : (assignEach es X.env).findIdx? (·.1) = none) : TgA X (.Tuple es k pos) ρ (.tup ds) ρ' := fun B ow σ H F v A r Q q => by
  obtain ⟨a, xs, rfl, h1, h2⟩ := rep_tup r
  exact ⟨_, pg_tup hc pgs_sem hn hst, a, xs, rfl, SqT.of (A.sub _ _ h1), h2.length, h B ow σ H F xs A h2 Q q⟩
/-- target = e, e frozen -/
theorem sx_asg {d : D} (h : Ev X pu e ρ ρ1 (.d d)) (t : TgA X tg ρ1 d ρ2) (k : SX X rest ρ2 E) (hs : swapsWithSole [tg] e pos.line X.env = pure false) (hw : swappedStores [tg] e X.env = pure none)
    (h1 : (assignEach [tg] X.env).map (·.2) = [assign tg X.env]) : SX X (.Assign [tg] e pos :: rest) ρ E := fun B ow σ H F A D q => by
  refine ⟨_, pss_cons (ps_asg pe_sem pg_sem hs hw h1) pss_sem, ?_⟩
  exact h B ow σ H F A _ fun v H1 F1 P1 k1 => t B ow σ H1 F1 v P1.ab k1 _ fun ow' σ' A' => k B ow' σ' H1 F1 A' D (q.mono P1.f)
/-- x op= e, ints -/
theorem sx_aug {i : Nat} {x : Str} {op : Operator} {f : Int → Int → Int} {m n : Int} {pp : Pos} (N : Nl X i x) (hx : ρ[i]? = some (.d (.int m))) (ho : PIp X op (ipI f)) (h : Ev X pu e ρ ρ1 (.d (.int n))) {s : SV} (h0 : ρ1[i]? = some s) (np : s.isPar = false)
    (k : SX X rest (ρ1.set i (.d (.int (f m n)))) E) : SX X (.AugAssign (.Name x pp) op e pos :: rest) ρ E := fun B ow σ H F A D q => by
  obtain ⟨v, e1, r1⟩ := A.d hx
  refine ⟨_, pss_cons (ps_aug N.nd N.n N.l pe_sem ho N.f) pss_sem, v, e1, ?_⟩
  refine h B ow σ H F A _ fun w H1 F1 P1 k1 => ⟨m, n, rep_int r1, rep_int k1, ?_⟩
  exact k B _ _ H1 F1 (P1.ab.setD (np_of h0 np).1 (.int _)) D (q.mono P1.f)
theorem ip_mulC (C : Int → Int → Prop) (hC : ∀ i j, C i j → CMul i j) : PIp X .Mult (fun x y H Q => ∃ i j, x = .int i ∧ y = .int j ∧ C i j ∧ Q (.int (i * j)) H) := by
  intro pins s σ H x y v u Q I r1 r2 h
  obtain ⟨i, j, e1, e2, hc, q⟩ := h
  exact iop_mul pins s σ H x y v u Q I r1 r2 ⟨i, j, e1, e2, hC i j hc, q⟩
theorem sx_augM {i : Nat} {x : Str} {m n : Int} {pp : Pos} (N : Nl X i x) (hx : ρ[i]? = some (.d (.int m))) (h : Ev X pu e ρ ρ1 (.d (.int n))) (hc : CMul m n) {s : SV} (h0 : ρ1[i]? = some s) (np : s.isPar = false)
    (k : SX X rest (ρ1.set i (.d (.int (m * n)))) E) : SX X (.AugAssign (.Name x pp) .Mult e pos :: rest) ρ E := fun B ow σ H F A D q => by
  obtain ⟨v, e1, r1⟩ := A.d hx
  refine ⟨_, pss_cons (ps_aug N.nd N.n N.l pe_sem (ip_mulC (fun i j => CMul i j) fun _ _ h => h) N.f) pss_sem, v, e1, ?_⟩
  refine h B ow σ H F A _ fun w H1 F1 P1 k1 => ⟨m, n, rep_int r1, rep_int k1, hc, ?_⟩
  exact k B _ _ H1 F1 (P1.ab.setD (np_of h0 np).1 (.int _)) D (q.mono P1.f)

/-! ### what is walked -/
/-- the turns give these items (a new tuple may be made for each) -/
def ItOk (J : It) (F : Hp) (items : List D) : Prop := ∀ (F1 H : Hp), Same F F1 → Same F1 H → ∀ i : Nat, (items.length ≤ i → J.stop i H) ∧ ∀ d, items[i]? = some d → J.go i H ∧ ∀ x H', J.yld i H x H' → ∃ F', Gro F1 H F' H' ∧ Rep F' x d
def semI (X : Cx) (tg it : Expr) : TI := fun σ H R => ∃ t, PI X tg it t ∧ t σ H R
theorem pi_sem : PI X tg it (semI X tg it) := ⟨fun pins s σ H R I ⟨t, h, q⟩ => h.run pins s σ H R I q⟩
def EvI (X : Cx) (pu : Bool) (tg it : Expr) (ρ ρ' : List SV) (items : List D) : Prop := ∀ B ow σ H F, Ab B ρ ow σ H F → ∀ R : It → Hp → Prop, (∀ J H' F', Ps B ρ ρ' ow σ H F pu H' F' → ItOk J F' items → R J H') → semI X tg it σ H R
theorem rd_inj {H : Hp} {K : PySem.W.Frag} {a : Addr} {xs ys : List V} (h : H a = some (.lst xs)) (k : SqL K H a ys) (hk : K.lookup a = none) : ys = xs := by
  rcases k with (k | ⟨o, k⟩) | ⟨o, _, _, k, _⟩
  · rw [h] at k
    cases k
    rfl
  · rw [h] at k
    cases k
  · rw [hk] at k
    cases k
/-- a list that is frozen -/
theorem ei_list {ds : List D} (h : Ev X pu it ρ ρ' (.d (.lst ds))) : EvI X pu tg it ρ ρ' ds := fun B ow σ H F A R q => by
  refine ⟨_, pi_list pe_sem, h B ow σ H F A _ fun v H1 F1 P1 k1 => ?_⟩
  obtain ⟨a, xs, rfl, z1, z2⟩ := rep_lst k1
  refine ⟨a, rfl, ⟨xs, SqL.of (P1.ab.sub _ _ z1)⟩, q _ H1 F1 P1 fun F2 H2 f s i => ⟨fun hi => ⟨xs, SqL.of (s _ _ (f _ _ z1)), by rw [z2.length]; exact hi⟩, fun d hd => ?_⟩⟩
  obtain ⟨u, e, r⟩ := z2.get' hd
  refine ⟨⟨xs, u, SqL.of (s _ _ (f _ _ z1)), e⟩, fun x H' hy => ?_⟩
  obtain ⟨rfl, hy⟩ := hy
  have e2 := hy xs (SqL.of (s _ _ (f _ _ z1)))
  rw [e] at e2
  cases e2
  exact ⟨F2, .refl s, r.mono f⟩
theorem ei_range1 {n : Int} {p : Pos} (g : Gl X "range") (m : X.mg "range" = none) (h : Ev X pu e ρ ρ' (.d (.int n))) (hn : -(2 ^ 62) ≤ n ∧ n < 2 ^ 62) (hs : starEach [e] X.env = [(false, eval e X.env)]) :
    EvI X pu tg (.Call (.Name "range" p) [e] [] pos) ρ ρ' ((List.range n.toNat).map fun k : Nat => .int (k : Int)) := fun B ow σ H F A R q => by
  refine ⟨_, pi_range1 g m (pa_cons pe_sem pa_nil hs) hs, h B ow σ H F A _ fun v H1 F1 P1 k1 => ⟨n, by rw [rep_int k1], hn.1, hn.2, ?_⟩⟩
  refine q _ H1 F1 P1 fun F2 H2 f s i => ⟨fun hi => by rw [List.length_map, List.length_range] at hi; exact hi, fun d hd => ?_⟩
  rw [List.getElem?_map] at hd
  have hi : i < n.toNat := by
    cases r : (List.range n.toNat)[i]? with
    | none =>
      rw [r] at hd
      cases hd
    | some u =>
      have := (List.getElem?_eq_some_iff.mp r).1
      rw [List.length_range] at this
      exact this
  rw [List.getElem?_range hi] at hd
  cases hd
  refine ⟨hi, fun x H' hy => ?_⟩
  obtain ⟨rfl, rfl⟩ := hy
  rw [Int.zero_add]
  exact ⟨F2, .refl s, .int _⟩
theorem ei_range2 {m n : Int} {p : Pos} {p1 p2 : Bool} (g : Gl X "range") (mg : X.mg "range" = none) (h : Ev X p1 a ρ ρ1 (.d (.int m))) (h2 : Ev X p2 b ρ1 ρ2 (.d (.int n))) (hm : -(2 ^ 62) ≤ m ∧ m < 2 ^ 62 ∧ -(2 ^ 62) ≤ n ∧ n < 2 ^ 62)
    (hs : starEach [a, b] X.env = [(false, eval a X.env), (false, eval b X.env)]) (hs2 : starEach [b] X.env = [(false, eval b X.env)]) :
    EvI X (p1 && p2) tg (.Call (.Name "range" p) [a, b] [] pos) ρ ρ2 ((List.range (n - m).toNat).map fun k : Nat => .int (m + (k : Int))) := fun B ow σ H F A R q => by
  refine ⟨_, pi_range2 g mg (pa_cons pe_sem (pa_cons pe_sem pa_nil hs2) (by rw [hs, hs2])) hs hs2, h B ow σ H F A _ fun v H1 F1 P1 k1 => h2 B ow σ H1 F1 P1.ab _ fun w H2 F2 P2 k2 => ⟨m, n, by rw [rep_int k1, rep_int k2], hm, ?_⟩⟩
  refine q _ H2 F2 (P1.trans P2) fun F3 H3 f s i => ⟨fun hi => by rw [List.length_map, List.length_range] at hi; exact hi, fun d hd => ?_⟩
  rw [List.getElem?_map] at hd
  have hi : i < (n - m).toNat := by
    cases r : (List.range (n - m).toNat)[i]? with
    | none =>
      rw [r] at hd
      cases hd
    | some u =>
      have := (List.getElem?_eq_some_iff.mp r).1
      rw [List.length_range] at this
      exact this
  rw [List.getElem?_range hi] at hd
  cases hd
  refine ⟨hi, fun x H' hy => ?_⟩
  obtain ⟨rfl, rfl⟩ := hy
  exact ⟨F3, .refl s, .int _⟩
/-- enumerate of a frozen list: tuples -/
theorem ei_enum {ds : List D} {p tp : Pos} {elts : List Expr} {kk : Nat} (g : Gl X "enumerate") (m : X.mg "enumerate" = none) (h : Ev X pu e ρ ρ' (.d (.lst ds))) (hs : starEach [e] X.env = [(false, eval e X.env)]) :
    EvI X pu (.Tuple elts kk tp) (.Call (.Name "enumerate" p) [e] [] pos) ρ ρ' (ds.zipIdx.map fun q => .tup [.int (q.2 : Int), q.1]) := fun B ow σ H F A R q => by
  refine ⟨_, pi_enum g m (pa_cons pe_sem pa_nil hs) hs, h B ow σ H F A _ fun v H1 F1 P1 k1 => ?_⟩
  obtain ⟨a, xs, rfl, z1, z2⟩ := rep_lst k1
  refine ⟨a, xs, rfl, SqL.of (P1.ab.sub _ _ z1), q _ H1 F1 P1 fun F2 H2 f s i => ⟨fun hi => ⟨xs, SqL.of (s _ _ (f _ _ z1)), ?_⟩, fun d hd => ?_⟩⟩
  · rw [List.length_map, List.length_zipIdx] at hi
    rw [z2.length]
    exact hi
  · rw [List.getElem?_map, List.getElem?_zipIdx] at hd
    cases r : ds[i]? with
    | none =>
      rw [r] at hd
      cases hd
    | some d1 =>
      rw [r] at hd
      simp only [Option.map_some, Nat.zero_add, Option.some.injEq] at hd
      subst hd
      obtain ⟨u, e2, r2⟩ := z2.get' r
      refine ⟨⟨xs, u, SqL.of (s _ _ (f _ _ z1)), e2⟩, fun x H' hy => ?_⟩
      obtain ⟨T, x1, rfl, hT, rfl, hx⟩ := hy
      have e3 := hx xs (SqL.of (s _ _ (f _ _ z1)))
      rw [e2] at e3
      cases e3
      exact ⟨_, .new s hT, .tup upd_same (.cons (.int _) (.cons ((r2.mono f).mono (same_upd (s.free hT))) .nil))⟩

/-! ### loops -/
theorem sx_for {items : List D} (hp : PassesOwn (model X.prog X.w) X.A X.env X.xe) (hc : X.calm = true) (hi : EvI X pu tg it ρ ρ1 items) (f : Nat → List SV → Prop) (h0 : f 0 ρ1)
    (hs : ∀ i d ρ2, items[i]? = some d → f i ρ2 → ∃ ρ3, TgA X tg ρ2 d ρ3 ∧ SX X st ρ3 { nx := f (i + 1), ct := f (i + 1), bk := fun ρ' => SX X rest ρ' E, rt := E.rt })
    (hd : ∀ ρ2, f items.length ρ2 → SX X rest ρ2 E) (hfs : ∀ x, foldedSetIterable it X.env x = pure x) : SX X (.For tg it st [] pos :: rest) ρ E := fun B ow σ H F A D q => by
  refine ⟨_, pss_cons (ps_for hp hc pi_sem pg_sem pss_sem hfs) pss_sem, ?_⟩
  refine hi B ow σ H F A _ fun J H1 F1 P1 J1 => ?_
  have A1 := P1.ab
  have f1 := P1.f
  refine ⟨fun i m σ' H' => m = items.length - i ∧ i ≤ items.length ∧ ∃ ρ' ow' F', Ab B ρ' ow' σ' H' F' ∧ Same F1 F' ∧ f i ρ', ⟨_, rfl, Nat.zero_le _, ρ1, ow, F1, A1, Same.refl _, h0⟩, ?_⟩
  rintro i m σ' H' ⟨rfl, hle, ρ', ow', F', A', fs, w⟩
  obtain ⟨j1, j2⟩ := J1 F' H' fs A'.sub i
  by_cases hlt : i < items.length
  · refine .inr ?_
    have e : items[i]? = some (items[i]) := List.getElem?_eq_getElem hlt
    obtain ⟨g1, g2⟩ := j2 _ e
    obtain ⟨ρ3, t1, s1⟩ := hs i _ ρ' e w
    refine ⟨g1, fun σ2 H2 => ∃ ρ2 ow2 F2, Ab B ρ2 ow2 σ2 H2 F2 ∧ Same F1 F2 ∧ f (i + 1) ρ2, fun σ2 H2 ⟨ρ2, ow2, F2, A2, f2, w2⟩ => ⟨items.length - (i + 1), by omega, rfl, hlt, ρ2, ow2, F2, A2, f2, w2⟩, fun x H2 hy => ?_⟩
    obtain ⟨F2, g, rp⟩ := g2 x H2 hy
    have A2 := A'.gro g
    refine t1 B ow' σ' H2 F2 x A2 rp _ fun ow3 σ3 A3 => ?_
    have f2 : Same F1 F2 := fs.trans g.f
    refine s1 B ow3 σ3 H2 F2 A3 _ ⟨fun ρ4 ow4 σ4 H4 F4 A4 f4 w4 => ⟨ρ4, ow4, F4, A4, f2.trans f4, w4⟩, fun ρ4 ow4 σ4 H4 F4 A4 f4 w4 => ?_, fun ρ4 ow4 σ4 H4 F4 A4 f4 w4 => ⟨ρ4, ow4, F4, A4, f2.trans f4, w4⟩, fun ρ4 ow4 σ4 H4 F4 r v A4 f4 k4 w4 => q.rt ρ4 ow4 σ4 H4 F4 r v A4 ((f1.trans f2).trans f4) k4 w4⟩
    exact w4 B ow4 σ4 H4 F4 A4 D (q.mono ((f1.trans f2).trans f4))
  · have e : i = items.length := by omega
    refine .inl ⟨j1 (by omega), ?_⟩
    subst e
    exact hd ρ' w B ow' σ' H' F' A' D (q.mono (f1.trans fs))
/-- while: the words by an index a, a measure -/
theorem sx_while {α : Type} (hp : PassesOwn (model X.prog X.w) X.A X.env X.xe) (f : α → List SV → Prop) (μ : α → Nat) (a0 : α) (h0 : f a0 ρ)
    (hs : ∀ a ρ2, f a ρ2 → ∃ (k : Bool) (pu : Bool), EvT X pu e ρ2 ρ2 k ∧ (k = true → SX X st ρ2 { nx := fun ρ' => ∃ a', μ a' < μ a ∧ f a' ρ', ct := fun ρ' => ∃ a', μ a' < μ a ∧ f a' ρ', bk := fun ρ' => SX X rest ρ' E, rt := E.rt }) ∧ (k = false → SX X rest ρ2 E)) :
    SX X (.While e st [] pos :: rest) ρ E := fun B ow σ H F A D q => by
  refine ⟨_, pss_cons (ps_while hp pt_sem pss_sem) pss_sem, ?_⟩
  refine ⟨fun m σ' H' => ∃ a ρ' ow' F', m = μ a ∧ Ab B ρ' ow' σ' H' F' ∧ Same F F' ∧ f a ρ', ⟨_, a0, ρ, ow, F, rfl, A, Same.refl _, h0⟩, ?_⟩
  rintro m σ' H' ⟨a, ρ', ow', F', rfl, A', fs, w⟩
  obtain ⟨k, pu, ht, h1, h2⟩ := hs a ρ' w
  refine ht B ow' σ' H' F' A' _ fun H2 F2 P2 => ?_
  have f2 := fs.trans P2.f
  cases k with
  | true =>
    refine ⟨fun σ3 H3 => ∃ a' ρ3 ow3 F3, μ a' < μ a ∧ Ab B ρ3 ow3 σ3 H3 F3 ∧ Same F F3 ∧ f a' ρ3, fun σ3 H3 ⟨a', ρ3, ow3, F3, l, A3, f3, w3⟩ => ⟨_, l, a', ρ3, ow3, F3, rfl, A3, f3, w3⟩, ?_⟩
    refine h1 rfl B ow' σ' H2 F2 P2.ab _ ⟨fun ρ4 ow4 σ4 H4 F4 A4 f4 ⟨a', l, w4⟩ => ⟨a', ρ4, ow4, F4, l, A4, f2.trans f4, w4⟩, fun ρ4 ow4 σ4 H4 F4 A4 f4 w4 => ?_, fun ρ4 ow4 σ4 H4 F4 A4 f4 ⟨a', l, w4⟩ => ⟨a', ρ4, ow4, F4, l, A4, f2.trans f4, w4⟩, fun ρ4 ow4 σ4 H4 F4 r v A4 f4 k4 w4 => q.rt ρ4 ow4 σ4 H4 F4 r v A4 (f2.trans f4) k4 w4⟩
    exact w4 B ow4 σ4 H4 F4 A4 D (q.mono (f2.trans f4))
  | false => exact h2 rfl B ow' σ' H2 F2 P2.ab D (q.mono f2)
end
end Mw

set_option Elab.async false
set_option linter.all false
set_option maxRecDepth 100000
set_option maxHeartbeats 4000000
/-! Mw5: defs, their words, their calls; no repr is under way around them -/
namespace Mw
open PySem PySem.Spec PyProof.Rows L2

/-- a def that keeps a promise wherever no repr is under way -/
structure FnG (P : Program) (w : World) (K : PySem.W.Frag) (mg : Str → Option Value) (base : Heap) (CX : CXT) (k : Nat) (f : Addr) (fd : FuncData) (ps : List Str) (sp : Sp) : Prop where
  n : ∀ vs H Q E, sp vs H Q E → vs.length = ps.length
  go : ∀ A outer s H args us vs Q E, A.guards = some [] → Room k A → Env0 P w K mg base A outer s H → BindsTo s fd args (ps.zip us) → Vals vs us → sp vs H Q E →
    codeAny (model P w) A (.call (.ref f) args) (CR CX outer P w H s Q E) s
section
variable {P : Program} {w : World} {K : PySem.W.Frag} {mg : Str → Option Value} {base : Heap} {CX : CXT} {k : Nat}
theorem FnG.up {j : Nat} {f : Addr} {fd : FuncData} {ps : List Str} {sp : Sp} (F : FnG P w K mg base CX j f fd ps sp) (h : j ≤ k) : FnG P w K mg base CX k f fd ps sp :=
  ⟨F.n, fun A o s H a us vs Q E g r => F.go A o s H a us vs Q E g (r.mono h)⟩
/-- by its body -/
theorem fng_of {x qual : Str} {params : Arguments} {body : List Stmt} {scope : Scope} {dvs : List V} {kws : List (Str × V)} {f : Addr} {fd : FuncData} {N ps : List Str} {sp : Sp} (F : FunD K x qual params body scope dvs kws f fd) (S : FnScope N ps scope)
    (n : ∀ vs H Q E, sp vs H Q E → vs.length = ps.length)
    (hb : ∀ cdv A outer s H vs Q E, A.guards = some [] → Room k (A.deeper (envOfC qual scope s.heap.objs.size f cdv)) → sp vs H Q E →
      ∃ t, PSs (cxOf CX P w K mg base N qual scope f cdv A outer s H E) body t ∧ t { nx := fun _ H' => Q .non H', rt := Q } (L2.start N vs) H) : FnG P w K mg base CX (k + 1) f fd ps sp := by
  obtain ⟨oc, od, dV, kV, doc, pm, an, cdv, ct, osl, rfl, lk, hcd, -, -⟩ := F.ex
  constructor
  · exact n
  intro A outer s H args us vs Q E g hr e0 bd rl hsp
  have kx : K.In s.heap := e0.mod.kin.keeps fun b o e => (e0.bs b o e).1
  have nolim : s.heap.NoLimit := e0.mod.nolimit.keeps fun b o e => (e0.bs b o e).1
  have lv := n _ _ _ _ hsp
  refine codeAny_call_function hr.depth (kx _ _ lk) rfl S.co S.gen rfl (PySem.W.codeRec_of kx hcd) (bd _ _ _ _ ?_)
  refine wpAny_newFunctionEnv_cells S.kind ?_ ?_
  · rintro ⟨a, b⟩ hy
    have hm := (List.of_mem_zip hy).1
    rcases S.par a hm with q | q
    · left
      exact q
    · right
      refine ⟨q, ?_⟩
      apply PySem.W.cellsFrom_some
      left
      exact q
  intro env he s1 x1
  subst he
  constructor
  · exact nolim.keeps x1.toInCall.keep
  obtain ⟨t, ht, hq⟩ := hb cdv A outer s H vs Q E g (hr.deeper _) hsp
  have I := inv_start (CX := CX) (N := N) (cd := cdv) (f := f) (mg := mg) (E := E) S hr.hd e0 lv rl x1
  refine codeAny_func (wpAny_mono (ht.run [] s1 _ H _ I hq) ?_ fun e s' hs => hs)
  intro fl s' hs
  cases fl with
  | brk => exact (hs.choose_spec.choose_spec.2).elim
  | cont => exact (hs.choose_spec.choose_spec.2).elim
  | next =>
    obtain ⟨a1, a2, J, q⟩ := hs
    exact ⟨.non, a2, J.os, J.bare, J.base, J.hok, rfl, q⟩
  | ret u =>
    obtain ⟨v, a1, a2, J, rv, q⟩ := hs
    exact ⟨v, a2, J.os, J.bare, J.base, J.hok, rv, q⟩
end
/-- its call from a body -/
theorem run_g {X : Cx} {CX : CXT} {k n : Nat} {f : Addr} {fd : FuncData} {ps ks : List Str} {sp : Sp} {E : XK} {g : List Value → List Value → List Value} {gV : List V → List V → List V} {pins : List (Addr × Obj)} {σ : L2.St} {H : Hp} {s : Shared} {Q : VK} {us ws : List Value} {vs zs : List V}
    (F : FnG X.prog X.w X.K X.mg X.base CX k f fd ps sp) (hg : X.A.guards = some []) (hr : Room k X.A) (hb : KBn X.K fd ps n ks g gV) (hx : Passes CX X E) (I : Inv X pins σ H s) (r : Vals vs us) (rz : Vals zs ws) (l1 : us.length = n) (l2 : ws.length = ks.length)
    (h : sp (gV vs zs) H Q E) : wpAny (model X.prog X.w) X.A (call (.ref f) us (ks.zip ws)) (EP X pins σ Q) X.xe s := by
  have bd := hb.to s us ws I.kIn l1 l2
  have go := F.go X.A X.stack s H ⟨us, ks.zip ws⟩ (g us ws) (gV vs zs) Q E hg hr I.env0 bd (hb.rel r rz) h
  refine wpAny_call (codeAny_mono go ?_)
  rintro (e | fl) s' hq
  · exact hx pins σ H s e s' I hq
  cases fl with
  | ret u => exact I.after hq
  | next => exact hq.elim
  | brk => exact hq.elim
  | cont => exact hq.elim
/-- a def of the module by its name; called with n values and the keywords ks -/
structure Cl (P : Program) (w : World) (K : PySem.W.Frag) (mg : Str → Option Value) (base : Heap) (k : Nat) (x : Str) (n : Nat) (ks : List Str) (gV : List V → List V → List V) (sp : Sp) : Prop where
  ex : ∃ f fd ps g, FnG P w K mg base CX0 k f fd ps sp ∧ mg x = some (.ref f) ∧ PySem.W.keepIn K (.ref f) = true ∧ KBn K fd ps n ks g gV
/-- the reading of a call -/
def tGo (sp : Sp) (gV : List V → List V → List V) (n m : Nat) (t tk : TA) : TE := fun σ H Q => t σ H fun vs H1 => tk σ H1 fun zs H2 => vs.length = n ∧ zs.length = m ∧ sp (gV vs zs) H2 Q E0
section
variable {X : Cx} {k n : Nat} {x : Str} {ks : List Str} {gV : List V → List V → List V} {sp : Sp} {e : Expr} {es : List Expr} {kws : List Keyword} {p pos : Pos} {t tk : TA}
theorem pe_go (C : Cl X.prog X.w X.K X.mg X.base k x n [] gV sp) (hgd : X.A.guards = some []) (hr : Room k X.A) (hg : Gl X x) (ha : PA X (e :: es) t) (hdb : (x == ("__debug__" : Str)) = false) (he : starEach (e :: es) X.env = (false, eval e X.env) :: starEach es X.env)
    (hpl : (backTo pos (starEach es X.env)).any (·.1) = false) : PE X (.Call (.Name x p) (e :: es) [] pos) (tGo sp gV n 0 t tNil) := by
  obtain ⟨f, fd, ps, g, F, hm, hk, hb⟩ := C.ex
  refine ⟨fun pins s σ H Q I h => wpAny_Call_Name_kw (ld_glob I hg hm ?_ hdb)⟩
  refine PySem.W.callWith_K (h₀ := X.base) I.ok.mod.kin hk (thn (ha.run pos pins s σ H _ I h) ?_) he hpl
  rintro us s1 ⟨vs, H1, I1, r, l1, -, q⟩
  exact ⟨I1.kIn, run_g (ws := []) (zs := []) F hgd hr hb pass0 I1 r .nil (r.length.symm.trans l1) rfl q⟩
theorem pe_goKW (C : Cl X.prog X.w X.K X.mg X.base k x n ks gV sp) (hgd : X.A.guards = some []) (hr : Room k X.A) (hg : Gl X x) (ha : PA X (e :: es) t) (hkw : PK X kws tk) (hdb : (x == ("__debug__" : Str)) = false) (he : starEach (e :: es) X.env = (false, eval e X.env) :: starEach es X.env)
    (hall : (backToKw pos (keywordEach kws X.env)).all (·.1.isSome) = true) (hks : (backToKw pos (keywordEach kws X.env)).filterMap (·.1) = ks) (hpl : ((backTo pos (starEach (e :: es) X.env)).any (·.1) || (backToKw pos (keywordEach kws X.env)).any (·.1.isNone)) = false) :
    PE X (.Call (.Name x p) (e :: es) kws pos) (tGo sp gV n ks.length t tk) := by
  obtain ⟨f, fd, ps, g, F, hm, hk, hb⟩ := C.ex
  refine ⟨fun pins s σ H Q I h => wpAny_Call_Name_kw (ld_glob I hg hm ?_ hdb)⟩
  refine PySem.W.callWith_KW (h₀ := X.base) I.ok.mod.kin hk hall (thn (ha.run pos pins s σ H _ I h) ?_) hpl he
  rintro us s1 ⟨vs, H1, I1, r, q⟩
  refine thn (hkw.run pos pins s1 σ H1 _ I1 q) ?_
  rintro ws s2 ⟨zs, H2, I2, rz, l1, l2, q2⟩
  rw [hks]
  exact ⟨I2.kIn, run_g F hgd hr hb pass0 I2 r rz (r.length.symm.trans l1) (rz.length.symm.trans l2) q2⟩
theorem pe_goKW0 (C : Cl X.prog X.w X.K X.mg X.base k x 0 ks gV sp) (hgd : X.A.guards = some []) (hr : Room k X.A) (hg : Gl X x) (hkw : PK X kws tk) (hdb : (x == ("__debug__" : Str)) = false)
    (hall : (backToKw pos (keywordEach kws X.env)).all (·.1.isSome) = true) (hks : (backToKw pos (keywordEach kws X.env)).filterMap (·.1) = ks) (hpl : ((backTo pos (starEach [] X.env)).any (·.1) || (backToKw pos (keywordEach kws X.env)).any (·.1.isNone)) = false) :
    PE X (.Call (.Name x p) [] kws pos) (tGo sp gV 0 ks.length tNil tk) := by
  obtain ⟨f, fd, ps, g, F, hm, hk, hb⟩ := C.ex
  refine ⟨fun pins s σ H Q I h => wpAny_Call_Name_kw (ld_glob I hg hm ?_ hdb)⟩
  refine PySem.W.callWith_KW0 (h₀ := X.base) I.ok.mod.kin hk hall ?_ hpl
  refine thn (hkw.run pos pins s σ H _ I h) ?_
  rintro ws s2 ⟨zs, H2, I2, rz, l1, l2, q2⟩
  rw [hks]
  exact ⟨I2.kIn, run_g (us := []) (vs := []) F hgd hr hb pass0 I2 .nil rz rfl (rz.length.symm.trans l2) q2⟩
theorem pe_go0 (C : Cl X.prog X.w X.K X.mg X.base k x 0 [] gV sp) (hgd : X.A.guards = some []) (hr : Room k X.A) (hg : Gl X x) (hdb : (x == ("__debug__" : Str)) = false) : PE X (.Call (.Name x p) [] [] pos) (tGo sp gV 0 0 tNil tNil) := by
  obtain ⟨f, fd, ps, g, F, hm, hk, hb⟩ := C.ex
  refine ⟨fun pins s σ H Q I h => wpAny_Call_Name_kw (ld_glob I hg hm ?_ hdb)⟩
  obtain ⟨-, -, q⟩ := h
  exact PySem.W.callWith_K0 I.kIn hk (run_g (us := []) (vs := []) (ws := []) (zs := []) F hgd hr hb pass0 I .nil .nil rfl rfl q)
end

/-! ### the promise by slots -/
def RetOk (F' H H' : Hp) : Rs → V → Prop
  | .d x, v => Rep F' v x
  | .lo l, v => ∃ as, RepO F' H' v l as ∧ as.Nodup ∧ ∀ a ∈ as, F' a = none ∧ H a = none
  | _, _ => False
structure Post (F H : Hp) (ps : List (Nat × Addr)) (outs : List SV) (r : Rs) (v : V) (H' F' : Hp) : Prop where
  f : Same F F'
  s : Same F' H'
  n : ∀ a o, F' a = some o → F a = none → H a = none
  k : ∀ b o, H b = some o → (∀ p ∈ ps, p.2 ≠ b) → H' b = some o
  p : ∀ p ∈ ps, F' p.2 = none ∧ ∃ ds xs, outs[p.1]? = some (.par ds) ∧ H' p.2 = some (.lst xs) ∧ RepL F' xs ds
  r : RetOk F' H H' r v
def Prom (ins outs : List SV) (r : Rs) : Sp := fun vs H Q _ => ∃ F ps ow, Ab ⟨F, H, ps⟩ ins ow (vs.map some) H F ∧ ∀ v H' F', Post F H ps outs r v H' F' → Q v H'
/-- a family of promises -/
def spF {α : Type} (pre : α → Prop) (ins outs : α → List SV) (r : α → Rs) : Sp := fun vs H Q E => ∃ x, pre x ∧ Prom (ins x) (outs x) (r x) vs H Q E
/-- what a body returns is what was promised -/
def RetRel (ρ : List SV) : Rs → Rs → Prop
  | .at_ i ds, r => ρ[i]? = some (.lo (.own ds)) ∧ r = .lo (.own ds)
  | .d x, r => r = .d x
  | .lo l, r => r = .lo l
  | _, _ => False
def parsEq (outs ρ : List SV) : Prop := ∀ (i : Nat) ds, ρ[i]? = some (.par ds) → outs[i]? = some (.par ds)
def retE (outs : List SV) (r : Rs) : AE := { nx := fun ρ => r = .d .non ∧ parsEq outs ρ, rt := fun r' ρ => RetRel ρ r' r ∧ parsEq outs ρ }
theorem post_of {F0 H0 H F : Hp} {ps : List (Nat × Addr)} {ρ outs : List SV} {ow : Ow} {σ : L2.St} {r r' : Rs} {v : V} (A : Ab ⟨F0, H0, ps⟩ ρ ow σ H F) (po : parsEq outs ρ) (k : RsOk ρ σ H0 H F r' v) (rr : RetRel ρ r' r) : Post F0 H0 ps outs r v H F where
  f := A.f
  s := A.sub
  n := A.new
  k := A.keep
  p := fun p hp => by
    obtain ⟨e1, e2, ds, e3⟩ := A.par p hp
    obtain ⟨a, xs, e4, e5, z1, z2, z3⟩ := A.mine (.inr e3)
    rw [e1] at e4
    cases e4
    exact ⟨z1, ds, xs, po _ _ e3, z2, z3⟩
  r := by
    cases r' with
    | d d =>
      have e : r = .d d := rr
      subst e
      exact k
    | lo l =>
      have e : r = .lo l := rr
      subst e
      obtain ⟨as, h1, h2, h3⟩ := k
      exact ⟨as, h1, h2, h3⟩
    | at_ i ds =>
      obtain ⟨e1, rfl⟩ := rr
      obtain ⟨e2, _⟩ := k
      obtain ⟨u, e3, ro⟩ := A.lo e1
      rw [e2] at e3
      cases e3
      refine ⟨ow i, ro, A.nd i, fun a ha => ⟨(A.own i a ha).1, ?_⟩⟩
      rcases (A.own i a ha).2.2 with z | ⟨p, hp, z⟩
      · exact z
      · obtain ⟨q1, q2, es, q3⟩ := A.par p hp
        rw [z] at q2
        have e4 := A.dist i p.1 a ha q2
        subst e4
        rw [e1] at q3
        cases q3
    | li _ => exact rr.elim
    | now _ => exact rr.elim
/-- the state at the entry, with the other names -/
theorem Ab.entry {F H : Hp} {ps : List (Nat × Addr)} {ins : List SV} {ow : Ow} {vs : List V} {N : List Str} (A : Ab ⟨F, H, ps⟩ ins ow (vs.map some) H F) : Ab ⟨F, H, ps⟩ (ins ++ List.replicate (N.length - vs.length) .un) ow (L2.start N vs) H F := by
  have ln := A.len
  rw [List.length_map] at ln
  have left : ∀ {i : Nat} {s : SV}, (ins ++ List.replicate (N.length - vs.length) SV.un)[i]? = some s → (i < ins.length ∧ ins[i]? = some s) ∨ s = .un := fun {i s} e => by
    by_cases hi : i < ins.length
    · rw [List.getElem?_append_left hi] at e
      exact .inl ⟨hi, e⟩
    · rw [List.getElem?_append_right (Nat.le_of_not_lt hi), List.getElem?_replicate] at e
      split at e
      · exact .inr (Option.some.inj e).symm
      · cases e
  have sl : ∀ {i : Nat}, i < ins.length → (L2.start N vs)[i]? = (vs.map some)[i]? := fun {i} hi => by
    unfold L2.start
    rw [List.getElem?_append_left (by rw [List.length_map, ln]; exact hi)]
  refine ⟨A.sub, A.keep, A.f, A.new, ?_, fun i s o e1 e2 => ?_, A.own, fun p hp => ?_, fun i ds e => ?_, A.nd, A.dist, fun i n1 n2 => ?_⟩
  · unfold L2.start
    rw [List.length_append, List.length_append, List.length_map, List.length_replicate, List.length_replicate, ln]
  · rcases left e1 with ⟨hi, q⟩ | rfl
    · rw [sl hi] at e2
      exact A.sl i s o q e2
    · trivial
  · obtain ⟨e, z, ds, q⟩ := A.par p hp
    have hi := (List.getElem?_eq_some_iff.mp q).1
    exact ⟨by rw [sl hi]; exact e, z, ds, by rw [List.getElem?_append_left hi]; exact q⟩
  · rcases left e with ⟨hi, q⟩ | z
    · exact A.parI i ds q
    · cases z
  · refine A.em i (fun l q => ?_) fun ds q => ?_
    · exact n1 l (by rw [List.getElem?_append_left (List.getElem?_eq_some_iff.mp q).1]; exact q)
    · exact n2 ds (by rw [List.getElem?_append_left (List.getElem?_eq_some_iff.mp q).1]; exact q)
/-- THE RULE for a def -/
theorem fn_sx {P : Program} {w : World} {K : PySem.W.Frag} {mg : Str → Option Value} {base : Heap} {k : Nat} {x qual : Str} {params : Arguments} {body : List Stmt} {scope : Scope} {dvs : List V} {kws : List (Str × V)} {f : Addr} {fd : FuncData} {N ps : List Str}
    {α : Type} {pre : α → Prop} {ins outs : α → List SV} {r : α → Rs} (F : FunD K x qual params body scope dvs kws f fd) (S : FnScope N ps scope) (hl : ∀ a, (ins a).length = ps.length)
    (hb : ∀ cdv A outer s H E a, A.guards = some [] → Room k (A.deeper (envOfC qual scope s.heap.objs.size f cdv)) → pre a →
      SX (cxOf CX0 P w K mg base N qual scope f cdv A outer s H E) body (ins a ++ List.replicate (N.length - ps.length) .un) (retE (outs a) (r a))) : FnG P w K mg base CX0 (k + 1) f fd ps (spF pre ins outs r) := by
  have ll : ∀ vs H Q E, spF pre ins outs r vs H Q E → vs.length = ps.length := fun vs H Q E ⟨a, _, G, qs, ow, A, _⟩ => by
    have e := A.len
    rw [List.length_map, hl] at e
    exact e
  refine fng_of F S ll fun cdv A outer s H vs Q E g hr h => ?_
  obtain ⟨a, hp, G, qs, ow, Ab0, q⟩ := id h
  have e := ll _ _ _ _ h
  refine ⟨_, pss_sem, ?_⟩
  have A1 := Ab0.entry (N := N)
  rw [e] at A1
  refine hb cdv A outer s H E a g hr hp _ ow _ H G A1 _ ⟨fun ρ ow' σ H' F' A' _ ⟨e1, e2⟩ => ?_, fun _ _ _ _ _ _ _ z => z.elim, fun _ _ _ _ _ _ _ z => z.elim, fun ρ ow' σ H' F' r' v A' _ k' ⟨e1, e2⟩ => ?_⟩
  · exact q _ _ F' (post_of (r' := .d .non) A' e2 .non e1)
  · exact q _ _ F' (post_of A' e2 k' e1)
end Mw

set_option Elab.async false
set_option linter.all false
set_option maxRecDepth 100000
set_option maxHeartbeats 4000000
/-! Mw6: calls by slots, a list of one's own changed, comprehensions -/
namespace Mw
open PySem L2
section
variable {X : Cx} {pu p1 p2 p3 : Bool} {e a b c it tg : Expr} {es : List Expr} {kws : List Keyword} {rest st : List Stmt} {ρ ρ' ρ1 ρ2 ρ3 : List SV} {r x y z : Rs} {rs rs2 : List Rs} {pos : Pos} {E : AE}

/-! ### keywords -/
def semK (X : Cx) (kws : List Keyword) : TA := fun σ H Q => ∃ t, PK X kws t ∧ t σ H Q
theorem pk_sem : PK X kws (semK X kws) := ⟨fun pos pins s σ H Q I ⟨t, h, q⟩ => h.run pos pins s σ H Q I q⟩
def EvKt (tk : TA) (pu : Bool) (ρ ρ' : List SV) (rs : List Rs) : Prop := ∀ B ow σ H F, Ab B ρ ow σ H F → ∀ Q : List V → Hp → Prop, (∀ vs H' F', Ps B ρ ρ' ow σ H F pu H' F' → RsAll ρ' σ H H' F' rs vs → Q vs H') → tk σ H Q
abbrev EvK (X : Cx) (pu : Bool) (kws : List Keyword) (ρ ρ' : List SV) (rs : List Rs) : Prop := EvKt (semK X kws) pu ρ ρ' rs
theorem ekt_nil : EvKt tNil true ρ ρ [] := fun B ow σ H F A Q q => q _ H F (.refl A) .nil
theorem ek_nil : EvK X true [] ρ ρ [] := fun B ow σ H F A Q q => ⟨_, pk_nil, q _ H F (.refl A) .nil⟩
theorem ek_cons {nm : Option Str} {kp : Pos} (h1 : Ev X p1 e ρ ρ1 r) (h2 : EvK X p2 kws ρ1 ρ2 rs) (pk : Pk p2 r) : EvK X (p1 && p2) (⟨nm, e, kp⟩ :: kws) ρ ρ2 (r :: rs) := fun B ow σ H F A Q q =>
  ⟨_, pk_cons pe_sem pk_sem, h1 B ow σ H F A _ fun v H1 F1 P1 k1 => h2 B ow σ H1 F1 P1.ab _ fun vs H2 F2 P2 k2 => q _ H2 F2 (P1.trans P2) (.cons (k1.keep P1 A P2 pk) (k2.start P1.dom))⟩

/-! ### calls -/
theorem entry_d {F H : Hp} {vs : List V} {ds : List D} (s : Same F H) (h : RepL F vs ds) : Ab ⟨F, H, []⟩ (ds.map SV.d) (fun _ => []) (vs.map some) H F where
  sub := s
  keep := fun _ _ e _ => e
  f := Same.refl _
  new := fun a o e q => by
    have q' : F a = none := q
    rw [q'] at e
    cases e
  len := by rw [List.length_map, List.length_map, h.length]
  sl := fun i s o e1 e2 => by
    rw [List.getElem?_map] at e1 e2
    cases q : ds[i]? with
    | none =>
      rw [q] at e1
      cases e1
    | some d =>
      rw [q] at e1
      cases e1
      obtain ⟨v, z1, z2⟩ := h.get' q
      rw [z1] at e2
      cases e2
      exact ⟨v, rfl, z2⟩
  own := fun i a ha => by cases ha
  par := fun p hp => by cases hp
  parI := fun i es e => by
    rw [List.getElem?_map] at e
    cases q : ds[i]? with
    | none =>
      rw [q] at e
      cases e
    | some d =>
      rw [q] at e
      cases e
  nd := fun _ => List.nodup_nil
  dist := fun i j a h1 _ => by cases h1
  em := fun _ _ _ => rfl
theorem entry_p {F H : Hp} {a : Addr} {xs vs : List V} {es ds : List D} (s : Same F H) (fa : F a = none) (ha : H a = some (.lst xs)) (hx : RepL F xs es) (h : RepL F vs ds) :
    Ab ⟨F, H, [(0, a)]⟩ (.par es :: ds.map SV.d) (fun i => if i = 0 then [a] else []) ((V.ref a :: vs).map some) H F where
  sub := s
  keep := fun _ _ e _ => e
  f := Same.refl _
  new := fun a o e q => by
    have q' : F a = none := q
    rw [q'] at e
    cases e
  len := by rw [List.length_map, List.length_cons, List.length_cons, List.length_map, h.length]
  sl := fun i s o e1 e2 => by
    cases i with
    | zero =>
      cases e1
      cases e2
      exact ⟨_, rfl, .own ha hx⟩
    | succ i =>
      have e1' : (ds.map SV.d)[i]? = some s := e1
      have e2' : (vs.map some)[i]? = some o := e2
      rw [List.getElem?_map] at e1' e2'
      cases q : ds[i]? with
      | none =>
        rw [q] at e1'
        cases e1'
      | some d =>
        rw [q] at e1'
        cases e1'
        obtain ⟨v, z1, z2⟩ := h.get' q
        rw [z1] at e2'
        cases e2'
        exact ⟨v, rfl, z2⟩
  own := fun i b hb => by
    cases i with
    | zero =>
      have e : b = a := List.mem_singleton.mp hb
      subst e
      exact ⟨fa, ⟨_, ha⟩, .inr ⟨_, List.mem_singleton.mpr rfl, rfl⟩⟩
    | succ i => cases hb
  par := fun p hp => by
    have e := List.mem_singleton.mp hp
    subst e
    exact ⟨rfl, List.mem_singleton.mpr rfl, es, rfl⟩
  parI := fun i fs e => by
    cases i with
    | zero => exact ⟨a, List.mem_singleton.mpr rfl⟩
    | succ i =>
      have e1' : (ds.map SV.d)[i]? = some (.par fs) := e
      rw [List.getElem?_map] at e1'
      cases q : ds[i]? with
      | none =>
        rw [q] at e1'
        cases e1'
      | some d =>
        rw [q] at e1'
        cases e1'
  nd := fun i => by
    show (if i = 0 then [a] else []).Nodup
    split
    · exact nodup1 a
    · exact List.nodup_nil
  dist := fun i j b h1 h2 => by
    cases i with
    | succ i => cases h1
    | zero =>
      cases j with
      | succ j => cases h2
      | zero => rfl
  em := fun i n1 n2 => by
    cases i with
    | zero => exact absurd rfl (n2 es)
    | succ i => rfl
theorem ret_ok {σ : L2.St} {H H' F' : Hp} {v : V} (h : RetOk F' H H' r v) : RsOk ρ' σ H H' F' r v := by
  cases r with
  | d x => exact h
  | lo l => exact h
  | at_ _ _ => exact h.elim
  | li _ => exact h.elim
  | now _ => exact h.elim
/-- a call whose arguments are all frozen -/
theorem go_pure {ta tk : TA} {α : Type} {pre : α → Prop} {ins outs : α → List SV} {rr : α → Rs} {n m : Nat} {gV : List V → List V → List V} {ds ds2 ds3 : List D} (hpe : PE X c (tGo (spF pre ins outs rr) gV n m ta tk)) (ha : EvKt ta p1 ρ ρ1 rs) (hk : EvKt tk p2 ρ1 ρ2 rs2)
    (hd : allD rs = some ds) (hd2 : allD rs2 = some ds2) (l1 : rs.length = n) (l2 : rs2.length = m) (q : α) (hp : pre q) (hi : ins q = ds3.map SV.d) (hv : ∀ F vs zs, RepL F vs ds → RepL F zs ds2 → RepL F (gV vs zs) ds3) : Ev X (p1 && p2) c ρ ρ2 (rr q) := fun B ow σ H F A Q k => by
  refine ⟨_, hpe, ha B ow σ H F A _ fun vs H1 F1 P1 k1 => hk B ow σ H1 F1 P1.ab _ fun zs H2 F2 P2 k2 => ⟨k1.len.trans l1, k2.len.trans l2, q, hp, ?_⟩⟩
  have rv := hv F2 vs zs ((allD_ok hd k1).mono P2.f) (allD_ok hd2 k2)
  refine ⟨F2, [], _, by rw [hi]; exact entry_d P2.ab.sub rv, fun v H3 F3 PO => ?_⟩
  have g : Gro F2 H2 F3 H3 := ⟨fun b o e => PO.k b o e (fun p hp => by cases hp), PO.f, PO.s, PO.n⟩
  exact k v H3 F3 ((P1.trans (P2.trans (Ps.pure (pu := true) P2.ab g))).as fun z => by rw [Bool.and_true]; exact z) ((ret_ok PO.r).start (P1.trans P2).dom)
/-- what a slot of one's own becomes -/
def SV.new (ds : List D) : SV → SV
  | .par _ => .par ds
  | _ => .lo (.own ds)
def newAt (ρ : List SV) (i : Nat) (ds : List D) : List SV := ρ.set i ((ρ.getD i .un).new ds)
theorem newAt_ok {i : Nat} {ds ds' : List D} (h : IsOwn ρ i ds) : (ρ[i]? = some (.lo (.own ds)) ∧ (ρ.getD i .un).new ds' = .lo (.own ds')) ∨ (ρ[i]? = some (.par ds) ∧ (ρ.getD i .un).new ds' = .par ds') := by
  rcases h with h | h
  · exact .inl ⟨h, by rw [List.getD_eq_getElem?_getD, h]; rfl⟩
  · exact .inr ⟨h, by rw [List.getD_eq_getElem?_getD, h]; rfl⟩
theorem upd_back {H : Hp} {a : Addr} {o u : HO} (h : H a = some u) : upd (upd H a o) a u = H := by
  funext b
  by_cases hb : b = a
  · subst hb
    rw [upd_same, h]
  · rw [upd_ne hb, upd_ne hb]
/-- a call whose first argument is a list of one's own, which it may change -/
theorem go_par {tk : TA} {α : Type} {pre : α → Prop} {ins outs : α → List SV} {rr : α → Rs} {n m i : Nat} {gV : List V → List V → List V} {ds ds2 ds3 es' es2 : List D} (hpe : ∀ σ H Q B ow F, Ab B ρ ow σ H F → tGo (spF pre ins outs rr) gV n m (semA X es) tk σ H Q → semE X c σ H Q) (ha : EvA X true es ρ ρ (.at_ i es' :: rs))
    (hk : EvKt tk true ρ ρ rs2) (hd : allD rs = some ds) (hd2 : allD rs2 = some ds2) (l1 : rs.length + 1 = n) (l2 : rs2.length = m) (q : α) (hp : pre q) (hi : ins q = .par es' :: ds3.map SV.d) (ho : (outs q)[0]? = some (.par es2))
    (hv : ∀ F a vs zs, RepL F vs ds → RepL F zs ds2 → ∃ ws, gV (.ref a :: vs) zs = .ref a :: ws ∧ RepL F ws ds3) : Ev X false c ρ (newAt ρ i es2) (rr q) := fun B ow σ H F A Q k => by
  refine hpe σ H Q B ow F A (ha B ow σ H F A _ fun vs H1 F1 P1 k1 => hk B ow σ H1 F1 P1.ab _ fun zs H2 F2 P2 k2 => ⟨k1.len.trans l1, k2.len.trans l2, q, hp, ?_⟩)
  cases k1 with
  | cons ka kr =>
    obtain ⟨e1, own⟩ := ka
    obtain ⟨a, xs, e2, ew, fa, hx, rx⟩ := P2.ab.mine own
    rw [e1] at e2
    cases e2
    obtain ⟨ws, ew2, rw2⟩ := hv F2 a _ zs ((allD_ok hd kr).mono P2.f) (allD_ok hd2 k2)
    rw [ew2]
    refine ⟨F2, [(0, a)], _, by rw [hi]; exact entry_p P2.ab.sub fa hx rx rw2, fun v H3 F3 PO => ?_⟩
    obtain ⟨f3, ds4, xs4, z1, z2, z3⟩ := PO.p _ (List.mem_singleton.mpr rfl)
    have z1' : (outs q)[0]? = some (.par ds4) := z1
    rw [ho] at z1'
    cases z1'
    -- as if the list had not changed yet
    have g : Gro F2 H2 F3 (upd H3 a (.lst xs)) := ⟨fun b o e => by
        by_cases hb : b = a
        · rw [hb, hx] at e
          rw [hb, upd_same]
          exact e
        · rw [upd_ne hb]
          exact PO.k b o e fun p hp => by
            have := List.mem_singleton.mp hp
            subst this
            exact Ne.symm hb, PO.f, fun b o e => by
        by_cases hb : b = a
        · have f3' : F3 a = none := f3
          rw [hb, f3'] at e
          cases e
        · rw [upd_ne hb]
          exact PO.s b o e, PO.n⟩
    have A3 := P2.ab.gro g
    have A4 := A3.mut (newAt_ok (ds' := es2) own) e1 z3
    rw [upd_back (show H3 a = some (.lst xs4) from z2)] at A4
    refine k v H3 F3 ⟨A4, (P1.f.trans P2.f).trans PO.f, fun b o e n => ?_, fun b o e z => ?_, fun b e => ?_, fun z => by cases z⟩ ((ret_ok PO.r).start (P1.trans P2).dom)
    · refine PO.k b o ((P1.trans P2).fr b o e n) fun p hp e3 => ?_
      have := List.mem_singleton.mp hp
      subst this
      have e3' : a = b := e3
      subst e3'
      exact n i (by rw [ew]; exact List.mem_singleton.mpr rfl)
    · cases h2 : F2 b with
      | some u => exact (P1.trans P2).n b u h2 z
      | none => exact (P1.trans P2).dom b (PO.n b o e h2)
    · refine (P1.trans P2).dom b ?_
      by_cases hb : b = a
      · rw [hb, show H3 a = some (.lst xs4) from z2] at e
        cases e
      · exact g.h.free (by rw [upd_ne hb]; exact e)

/-! ### a list of one's own -/
theorem tyL {K : PySem.W.Frag} {H : Hp} {a : Addr} {xs : List V} (h : H a = some (.lst xs)) : tyV K "list" (.ref a) H := Or.inl ⟨rfl, _, SqL.of h⟩
/-- xs.append(e) -/
theorem ev_append {i : Nat} {ds : List D} {d : D} (hpe : PE X c (tBM X.K "list" rAppend (tVar i) (tCons (semE X e) tNil))) (h : IsOwn ρ i ds) (he : Ev X pu e ρ ρ1 (.d d)) (h1 : IsOwn ρ1 i ds) (hl : ds.length ≤ 1000000) :
    Ev X false c ρ (newAt ρ1 i (ds ++ [d])) (.d .non) := fun B ow σ H F A Q q => by
  refine ⟨_, hpe, ?_⟩
  obtain ⟨a, xs, e1, ew, fa, hx, rx⟩ := A.mine h
  refine ⟨_, e1, tyL hx, he B ow σ H F A _ fun v H1 F1 P1 k1 => ?_⟩
  obtain ⟨a', xs', e2, ew', fa', hx', rx'⟩ := P1.ab.mine h1
  rw [e1] at e2
  cases e2
  refine ⟨a, xs', v, rfl, rfl, hx', by rw [rx'.length]; exact Nat.lt_of_le_of_lt hl (by decide), ?_⟩
  refine q _ _ F1 ⟨P1.ab.mut (newAt_ok h1) e1 (rx'.snoc k1), P1.f, fun b o e n => ?_, P1.n, fun b e => P1.dom b ?_, fun z => by cases z⟩ .non
  · have hb : b ≠ a := fun z => n i (by rw [z, ew]; exact List.mem_singleton.mpr rfl)
    rw [upd_ne hb]
    exact P1.fr b o e n
  · by_cases hb : b = a
    · rw [hb, upd_same] at e
      cases e
    · rw [upd_ne hb] at e
      exact e
/-- xs[i] = e -/
theorem sx_setIx {i j : Nat} {nm : Str} {pp tp : Pos} {ds : List D} {d : D} {n : Int} (N : Nm X i nm) (he : Ev X pu e ρ ρ1 (.d d)) (h1 : IsOwn ρ1 i ds) (hi : Ev X true a ρ1 ρ1 (.d (.int n))) (hj : ixN ds.length n = some j)
    (k : SX X rest (newAt ρ1 i (ds.set j d)) E) (hs : swapsWithSole [.Subscript (.Name nm pp) a tp] e pos.line X.env = pure false) (hw : swappedStores [.Subscript (.Name nm pp) a tp] e X.env = pure none)
    (h2 : (assignEach [.Subscript (.Name nm pp) a tp] X.env).map (·.2) = [assign (.Subscript (.Name nm pp) a tp) X.env])
    (ha : ∀ v, assign (.Subscript (.Name nm pp) a tp) X.env v = (do
      let ov ← holding [v] (eval (.Name nm pp) X.env)
      let iv ← holding [v, ov] (eval a X.env)
      standAt tp
      holding [v, ov, iv] (setItem ov iv v)
      release [v, ov, iv] [])) : SX X (.Assign [.Subscript (.Name nm pp) a tp] e pos :: rest) ρ E := fun B ow σ H F A D q => by
  refine ⟨_, pss_cons (ps_asg pe_sem (pg_sub (pe_var N.n N.v N.d N.c) pe_sem set_list ha) hs hw h2) pss_sem, ?_⟩
  refine he B ow σ H F A _ fun v H1 F1 P1 k1 => ?_
  obtain ⟨l, xs, e1, ew, fa, hx, rx⟩ := P1.ab.mine h1
  refine ⟨_, e1, hi B ow σ H1 F1 P1.ab _ fun w H2 F2 P2 k2 => ?_⟩
  obtain ⟨l', xs', e2, ew', fa', hx', rx'⟩ := P2.ab.mine h1
  rw [e1] at e2
  cases e2
  refine ⟨l, xs', n, j, rfl, rep_int k2, hx', by rw [rx'.length]; exact hj, ?_⟩
  exact k B ow σ _ F2 (P2.ab.mut (newAt_ok h1) e1 (rx'.set (k1.mono P2.f) j)) D (q.mono (P1.f.trans P2.f))
/-- del xs[i] -/
theorem sx_del {i j : Nat} {nm : Str} {pp tp : Pos} {ds : List D} {n : Int} (N : Nm X i nm) (h : IsOwn ρ i ds) (hi : Ev X true a ρ ρ (.d (.int n))) (h0 : -(2 ^ 63) ≤ n) (h1 : n < 2 ^ 63) (hj : PySem.seqIndex? n ds.length = some j) (k : SX X rest (newAt ρ i (ds.eraseIdx j)) E) :
    SX X (.Delete [.Subscript (.Name nm pp) a tp] pos :: rest) ρ E := fun B ow σ H F A D q => by
  refine ⟨_, pss_cons (ps_delL (pe_var N.n N.v N.d N.c) pe_sem) pss_sem, ?_⟩
  obtain ⟨l, xs, e1, ew, fa, hx, rx⟩ := A.mine h
  refine ⟨_, e1, hi B ow σ H F A _ fun w H2 F2 P2 k2 => ?_⟩
  obtain ⟨l', xs', e2, ew', fa', hx', rx'⟩ := P2.ab.mine h
  rw [e1] at e2
  cases e2
  refine ⟨l, xs', n, j, rfl, rep_int k2, hx', h0, h1, by rw [rx'.length]; exact hj, ?_⟩
  exact k B ow σ _ F2 (P2.ab.mut (newAt_ok h) e1 (rx'.eraseIdx j)) D (q.mono P2.f)
/-- what a slot owns is frozen from here on -/
theorem sx_frz {i : Nat} {l : L} (h : ρ[i]? = some (.lo l)) (k : SX X st (ρ.set i (.d l.toD)) E) : SX X st ρ E := fun B ow σ H F A D q => by
  obtain ⟨v, e, ro⟩ := A.lo h
  have np : ∀ ds, ρ[i]? ≠ some (.par ds) := fun ds z => by
    rw [h] at z
    cases z
  -- the slot is forgotten, what it owned is frozen, then it is known again
  have A1 := A.setAny (i := i) (v := v) (s := .un) (as := []) np (fun _ z => by cases z) trivial List.nodup_nil (fun _ z => by cases z) (fun _ => rfl) fun z => absurd rfl z
  have es : σ.set i (some v) = σ := List.ext_getElem? fun j => by
    by_cases hj : i = j
    · subst hj
      rw [List.getElem?_set_self (List.getElem?_eq_some_iff.mp e).1, e]
    · rw [List.getElem?_set_ne hj]
  rw [es] at A1
  have fr : ∀ b ∈ ow i, F b = none ∧ B.H0 b = none ∧ ∀ j : Nat, b ∉ owS ow i [] j := fun b hb => by
    refine ⟨(A.own i b hb).1, ?_, fun j hj => ?_⟩
    · rcases (A.own i b hb).2.2 with z | ⟨p, hp, z⟩
      · exact z
      · obtain ⟨_, q2, es2, q3⟩ := A.par p hp
        rw [z] at q2
        have e4 := A.dist i p.1 b hb q2
        subst e4
        exact absurd q3 (np es2)
    · by_cases h2 : j = i
      · subst h2
        rw [owS_same] at hj
        cases hj
      · rw [owS_ne h2] at hj
        exact h2 (A.dist j i b hj hb)
  have A2 := A1.freeze (as := ow i) fr
  have rp : Rep (frz F H (ow i)) v l.toD := ro.frzD (as := ow i) (same_frzL fun b hb => (fr b hb).1) fun b o hb e => by
    rw [frz_in hb]
    exact e
  have A3 := A2.setD (i := i) (v := v) (fun ds z => by
    rw [List.getElem?_set_self (List.getElem?_eq_some_iff.mp h).1] at z
    cases z) rp
  rw [es, List.set_set] at A3
  exact k B _ σ H _ A3 D (q.mono (same_frzL fun b hb => (fr b hb).1))
end
end Mw

set_option Elab.async false
set_option linter.all false
set_option maxRecDepth 100000
set_option maxHeartbeats 4000000
/-! Mw7: list comprehensions -/
namespace Mw
open PySem L2
section
variable {X : Cx} {pu p1 p2 p3 : Bool} {e a b c it tg elt : Expr} {es ifs : List Expr} {rest st : List Stmt} {ρ ρ' ρ1 ρ2 ρ3 : List SV} {r x y z : Rs} {rs : List Rs} {pos : Pos} {E : AE} {scope : Scope} {vs : List Nat}

/-- a list aside: nobody's, not frozen -/
theorem Ab.side {B : Bs} {ow : Ow} {σ : L2.St} {H F : Hp} (A : Ab B ρ ow σ H F) {p : Addr} {ob : HO} (f : F p = none) (h0 : B.H0 p = none) (n : ∀ i : Nat, p ∉ ow i) : Ab B ρ ow σ (upd H p ob) F where
  sub := fun b u e => by
    have hb : b ≠ p := fun z => by
      rw [z, f] at e
      cases e
    rw [upd_ne hb]
    exact A.sub _ _ e
  keep := fun b u e k => by
    have hb : b ≠ p := fun z => by
      rw [z, h0] at e
      cases e
    rw [upd_ne hb]
    exact A.keep b u e k
  f := A.f
  new := A.new
  len := A.len
  sl := fun i s o e1 e2 => by
    have q := A.sl i s o e1 e2
    have k : ∀ b u, b ∈ ow i → H b = some u → upd H p ob b = some u := fun b u hb e => by
      have hp : b ≠ p := fun z => n i (z ▸ hb)
      rw [upd_ne hp]
      exact e
    cases s with
    | un => trivial
    | d d => exact q
    | lo l =>
      obtain ⟨v, rfl, r⟩ := q
      exact ⟨v, rfl, r.mono (Same.refl _) k⟩
    | par ds =>
      obtain ⟨v, rfl, r⟩ := q
      exact ⟨v, rfl, r.mono (Same.refl _) k⟩
  own := fun i b hb => by
    obtain ⟨z1, ⟨u, z2⟩, z3⟩ := A.own i b hb
    have hp : b ≠ p := fun z => n i (z ▸ hb)
    exact ⟨z1, ⟨u, by rw [upd_ne hp]; exact z2⟩, z3⟩
  par := A.par
  parI := A.parI
  nd := A.nd
  dist := A.dist
  em := A.em
/-! ### the block's own names -/
def wipeR (ρ : List SV) : List Nat → List SV
  | [] => ρ
  | v :: vs => (wipeR ρ vs).set v .un
theorem wipeR_len (ρ : List SV) : ∀ vs : List Nat, (wipeR ρ vs).length = ρ.length
  | [] => rfl
  | v :: vs => by
    unfold wipeR
    rw [List.length_set, wipeR_len ρ vs]
theorem wipeR_out {ρ : List SV} {j : Nat} : ∀ {vs : List Nat}, j ∉ vs → (wipeR ρ vs)[j]? = ρ[j]?
  | [], _ => rfl
  | v :: vs, h => by
    unfold wipeR
    rw [List.getElem?_set_ne (show v ≠ j from fun z => h (by rw [z]; exact List.mem_cons_self)), wipeR_out fun z => h (List.mem_cons_of_mem _ z)]
theorem wipeR_in {ρ : List SV} {j : Nat} : ∀ {vs : List Nat}, j ∈ vs → j < ρ.length → (wipeR ρ vs)[j]? = some .un
  | v :: vs, h, hl => by
    unfold wipeR
    by_cases e : v = j
    · subst e
      exact List.getElem?_set_self (by rw [wipeR_len]; exact hl)
    · rw [List.getElem?_set_ne e]
      exact wipeR_in ((List.mem_cons.mp h).resolve_left (Ne.symm e)) hl
theorem wipe_out {σ : L2.St} {j : Nat} : ∀ {vs : List Nat}, j ∉ vs → (wipe σ vs)[j]? = σ[j]?
  | [], _ => rfl
  | v :: vs, h => by
    unfold wipe
    rw [List.getElem?_set_ne (show v ≠ j from fun z => h (by rw [z]; exact List.mem_cons_self)), wipe_out fun z => h (List.mem_cons_of_mem _ z)]
theorem wipe_in {σ : L2.St} {j : Nat} : ∀ {vs : List Nat}, j ∈ vs → j < σ.length → (wipe σ vs)[j]? = some none
  | v :: vs, h, hl => by
    unfold wipe
    by_cases e : v = j
    · subst e
      exact List.getElem?_set_self (by rw [wipe_length]; exact hl)
    · rw [List.getElem?_set_ne e]
      exact wipe_in ((List.mem_cons.mp h).resolve_left (Ne.symm e)) hl
/-- two states that agree outside the block's names -/
theorem wipe_eq {σ σ2 : L2.St} (hl : σ2.length = σ.length) (h : ∀ j : Nat, j ∉ vs → σ2[j]? = σ[j]?) : wipe σ2 vs = wipe σ vs := List.ext_getElem? fun j => by
  by_cases hj : j ∈ vs
  · by_cases h2 : j < σ.length
    · rw [wipe_in hj h2, wipe_in hj (by omega)]
    · rw [List.getElem?_eq_none (by rw [wipe_length]; omega), List.getElem?_eq_none (by rw [wipe_length]; omega)]
  · rw [wipe_out hj, wipe_out hj, h j hj]
theorem wipe_agree {σ σ2 : L2.St} (h : wipe σ2 vs = wipe σ vs) {j : Nat} (hj : j ∉ vs) : σ2[j]? = σ[j]? := by
  rw [← wipe_out (σ := σ2) hj, h, wipe_out hj]
/-- nothing of one's own stands in the block's names -/
def Plain (ρ : List SV) (vs : List Nat) : Prop := ∀ j ∈ vs, (∀ l, ρ[j]? ≠ some (.lo l)) ∧ ∀ ds, ρ[j]? ≠ some (.par ds)
theorem Ab.wipe {B : Bs} {ow : Ow} {σ : L2.St} {H F : Hp} (A : Ab B ρ ow σ H F) (p : Plain ρ vs) : Ab B (wipeR ρ vs) ow (wipe σ vs) H F where
  sub := A.sub
  keep := A.keep
  f := A.f
  new := A.new
  len := by rw [wipe_length, wipeR_len, A.len]
  sl := fun i s o e1 e2 => by
    by_cases hi : i ∈ vs
    · have hl := (List.getElem?_eq_some_iff.mp e1).1
      rw [wipeR_len] at hl
      rw [wipeR_in hi hl] at e1
      cases e1
      trivial
    · rw [wipeR_out hi] at e1
      rw [wipe_out hi] at e2
      exact A.sl i s o e1 e2
  own := A.own
  par := fun q hq => by
    obtain ⟨e, z, ds, k⟩ := A.par q hq
    have hn : q.1 ∉ vs := fun hi => (p _ hi).2 ds k
    exact ⟨by rw [wipe_out hn]; exact e, z, ds, by rw [wipeR_out hn]; exact k⟩
  parI := fun i ds e => by
    by_cases hi : i ∈ vs
    · have hl := (List.getElem?_eq_some_iff.mp e).1
      rw [wipeR_len] at hl
      rw [wipeR_in hi hl] at e
      cases e
    · rw [wipeR_out hi] at e
      exact A.parI i ds e
  nd := A.nd
  dist := A.dist
  em := fun i n1 n2 => by
    by_cases hi : i ∈ vs
    · exact A.em i (p i hi).1 (p i hi).2
    · rw [wipeR_out hi] at n1 n2
      exact A.em i n1 n2
/-- behind the block's turn: ρt the block's state, ρ' the state outside -/
def Back (vs : List Nat) (ρ ρt ρ' : List SV) : Prop := ρ'.length = ρ.length ∧ (∀ j : Nat, j ∉ vs → ρ'[j]? = ρt[j]?) ∧ ∀ j : Nat, j ∈ vs → ρ'[j]? = ρ[j]?
theorem Ab.back {B : Bs} {ow : Ow} {σ σ2 : L2.St} {H F H2 F2 : Hp} {ρt : List SV} (A : Ab B ρ ow σ H F) (p : Plain ρ vs) (A2 : Ab B ρt ow σ2 H2 F2) (f : Same F F2) (hw : L2.wipe σ2 vs = L2.wipe (L2.wipe σ vs) vs) (k : Back vs ρ ρt ρ') : Ab B ρ' ow σ H2 F2 := by
  have ag : ∀ j : Nat, j ∉ vs → σ2[j]? = σ[j]? := fun j hj => (wipe_agree hw hj).trans (wipe_out hj)
  obtain ⟨k1, k2, k3⟩ := k
  refine ⟨A2.sub, A2.keep, A2.f, A2.new, A.len.trans k1.symm, fun i s o e1 e2 => ?_, A2.own, fun q hq => ?_, fun i ds e => ?_, A2.nd, A2.dist, fun i n1 n2 => ?_⟩
  · by_cases hi : i ∈ vs
    · rw [k3 i hi] at e1
      have z := A.sl i s o e1 e2
      cases s with
      | un => trivial
      | d d =>
        obtain ⟨v, rfl, r⟩ := z
        exact ⟨v, rfl, r.mono f⟩
      | lo l => exact absurd e1 ((p i hi).1 l)
      | par ds => exact absurd e1 ((p i hi).2 ds)
    · rw [k2 i hi] at e1
      exact A2.sl i s o e1 (by rw [ag i hi]; exact e2)
  · obtain ⟨e, z, ds, e3⟩ := A2.par q hq
    obtain ⟨e', z', ds', e3'⟩ := A.par q hq
    have hn : q.1 ∉ vs := fun hi => (p _ hi).2 ds' e3'
    exact ⟨by rw [← ag _ hn]; exact e, z, ds, by rw [k2 _ hn]; exact e3⟩
  · by_cases hi : i ∈ vs
    · rw [k3 i hi] at e
      exact absurd e ((p i hi).2 ds)
    · rw [k2 i hi] at e
      exact A2.parI i ds e
  · by_cases hi : i ∈ vs
    · exact A.em i (p i hi).1 (p i hi).2
    · rw [k2 i hi] at n1 n2
      exact A2.em i n1 n2

/-! ### readings within the block -/
abbrev bx (X : Cx) (scope : Scope) (s : Shared) (H : Hp) (C : Addr) (cl : List (Str × Addr)) (fp : List Addr) : Cx := X.blk s H scope (compEnvC scope cl C X.env) fp
def blkE (X : Cx) (scope : Scope) (e : Expr) : TE := fun σ H Q => ∀ s H0 C cl fp, semE (bx X scope s H0 C cl fp) e σ H Q
theorem pe_blk (s : Shared) (H : Hp) (C : Addr) (cl : List (Str × Addr)) (fp : List Addr) : PE (bx X scope s H C cl fp) e (blkE X scope e) := ⟨fun pins s' σ H' Q I h => pe_sem.run pins s' σ H' Q I (h s H C cl fp)⟩
def blkG (X : Cx) (scope : Scope) (e : Expr) : TG := fun v σ H Q => ∀ s H0 C cl fp, semG (bx X scope s H0 C cl fp) e v σ H Q
theorem pg_blk (s : Shared) (H : Hp) (C : Addr) (cl : List (Str × Addr)) (fp : List Addr) : PG (bx X scope s H C cl fp) e (blkG X scope e) := ⟨fun pins s' σ H' v u Q I r h => pg_sem.run pins s' σ H' v u Q I r (h s H C cl fp)⟩
def semTs (X : Cx) (es : List Expr) : TT := fun σ H Q => ∃ t, PTs X es t ∧ t σ H Q
theorem pts_sem : PTs X es (semTs X es) := ⟨fun pins s σ H Q I ⟨t, h, q⟩ => h.run pins s σ H Q I q⟩
def blkT (X : Cx) (scope : Scope) (es : List Expr) : TT := fun σ H Q => ∀ s H0 C cl fp, semTs (bx X scope s H0 C cl fp) es σ H Q
theorem pt_blk (s : Shared) (H : Hp) (C : Addr) (cl : List (Str × Addr)) (fp : List Addr) : PTs (bx X scope s H C cl fp) es (blkT X scope es) := ⟨fun pins s' σ H' Q I h => pts_sem.run pins s' σ H' Q I (h s H C cl fp)⟩
/-- an expression within the block -/
def BEv (X : Cx) (scope : Scope) (pu : Bool) (e : Expr) (ρ ρ' : List SV) (r : Rs) : Prop := ∀ s H C cl fp, Ev (bx X scope s H C cl fp) pu e ρ ρ' r
def BTs (X : Cx) (scope : Scope) (pu : Bool) (es : List Expr) (ρ ρ' : List SV) (k : Bool) : Prop := ∀ s H0 C cl fp B ow σ H F, Ab B ρ ow σ H F → ∀ Q : Bool → Hp → Prop, (∀ H' F', Ps B ρ ρ' ow σ H F pu H' F' → Q k H') → semTs (bx X scope s H0 C cl fp) es σ H Q
theorem bt_nil : BTs X scope true [] ρ ρ true := fun s H0 C cl fp B ow σ H F A Q q => ⟨_, pts_nil, q H F (.refl A)⟩
theorem bt_one {k : Bool} (h : ∀ s H C cl fp, EvT (bx X scope s H C cl fp) pu c ρ ρ' k) : BTs X scope pu [c] ρ ρ' k := fun s H0 C cl fp B ow σ H F A Q q => ⟨_, pts_one pt_sem, h s H0 C cl fp B ow σ H F A Q q⟩
/-- a target within the block: only the block's names are stored -/
structure BTg (X : Cx) (scope : Scope) (vs : List Nat) (tg : Expr) (ρ : List SV) (d : D) (ρ' : List SV) : Prop where
  out : ∀ j : Nat, j ∉ vs → ρ'[j]? = ρ[j]?
  go : ∀ s H0 C cl fp B ow σ H F v, Ab B ρ ow σ H F → Rep F v d → ∀ Q : L2.St → Hp → Prop, (∀ σ', Ab B ρ' ow σ' H F → L2.wipe σ' vs = L2.wipe σ vs → Q σ' H) → semG (bx X scope s H0 C cl fp) tg v σ H Q
theorem owS_nil {ow : Ow} {i : Nat} (h : ow i = []) : owS ow i [] = ow := funext fun j => by
  by_cases hj : j = i
  · rw [hj, owS_same, h]
  · rw [owS_ne hj]
theorem bg_name {i : Nat} {nm : Str} {d : D} (N : ∀ s H C cl fp, Nl (bx X scope s H C cl fp) i nm) (hi : i ∈ vs) (hu : ρ[i]? = some .un ∨ ∃ d', ρ[i]? = some (.d d')) : BTg X scope vs (.Name nm pos) ρ d (ρ.set i (.d d)) where
  out := fun j hj => List.getElem?_set_ne (show i ≠ j from fun z => hj (by rw [← z]; exact hi))
  go := fun s H0 C cl fp B ow σ H F v A r Q q => by
    have n1 : ∀ l, ρ[i]? ≠ some (.lo l) := fun l z => by
      rcases hu with h | ⟨_, h⟩ <;> (rw [h] at z; cases z)
    have n2 : ∀ ds, ρ[i]? ≠ some (.par ds) := fun l z => by
      rcases hu with h | ⟨_, h⟩ <;> (rw [h] at z; cases z)
    have A2 := A.setD (i := i) (v := v) n2 r
    rw [owS_nil (A.em i n1 n2)] at A2
    have N := N s H0 C cl fp
    refine ⟨_, pg_name N.nd N.n N.l N.f, q _ A2 (wipe_eq (List.length_set ..) fun j hj => List.getElem?_set_ne (show i ≠ j from fun z => hj (by rw [← z]; exact hi)))⟩
/-- two names -/
theorem bg_tup2 {i j k : Nat} {n1 n2 : Str} {pp1 pp2 : Pos} {d1 d2 : D} (hc : X.calm = true) (N1 : ∀ s H C cl fp, Nl (bx X scope s H C cl fp) i n1) (N2 : ∀ s H C cl fp, Nl (bx X scope s H C cl fp) j n2) (hi : i ∈ vs) (hj : j ∈ vs)
    (hu : ρ[i]? = some .un ∨ ∃ d', ρ[i]? = some (.d d')) (hv : (ρ.set i (.d d1))[j]? = some .un ∨ ∃ d', (ρ.set i (.d d1))[j]? = some (.d d'))
    (hs : ∀ s H C cl fp, (assignEach [.Name n1 pp1, .Name n2 pp2] (bx X scope s H C cl fp).env).map (·.2) = assign (.Name n1 pp1) (bx X scope s H C cl fp).env :: (assignEach [.Name n2 pp2] (bx X scope s H C cl fp).env).map (·.2))
    (hs2 : ∀ s H C cl fp, (assignEach [.Name n2 pp2] (bx X scope s H C cl fp).env).map (·.2) = assign (.Name n2 pp2) (bx X scope s H C cl fp).env :: (assignEach [] (bx X scope s H C cl fp).env).map (·.2))
    (hn : ∀ s H C cl fp, (assignEach [.Name n1 pp1, .Name n2 pp2] (bx X scope s H C cl fp).env).length = 2) (hst : ∀ s H C cl fp, (assignEach [.Name n1 pp1, .Name n2 pp2] (bx X scope s H C cl fp).env).findIdx? (·.1) = none) :
    BTg X scope vs (.Tuple [.Name n1 pp1, .Name n2 pp2] k pos) ρ (.tup [d1, d2]) ((ρ.set i (.d d1)).set j (.d d2)) := by
  have b1 : BTg X scope vs (.Name n1 pp1) ρ d1 (ρ.set i (.d d1)) := bg_name N1 hi hu
  have b2 : BTg X scope vs (.Name n2 pp2) (ρ.set i (.d d1)) d2 ((ρ.set i (.d d1)).set j (.d d2)) := bg_name N2 hj hv
  refine ⟨fun m hm => (b2.out m hm).trans (b1.out m hm), fun s H0 C cl fp B ow σ H F v A r Q q => ?_⟩
  obtain ⟨a, xs, rfl, h1, h2⟩ := rep_tup r
  refine ⟨_, pg_tup hc (pgs_cons pg_sem (pgs_cons pg_sem pgs_nil (hs2 s H0 C cl fp)) (hs s H0 C cl fp)) (hn s H0 C cl fp) (hst s H0 C cl fp), a, xs, rfl, SqT.of (A.sub _ _ h1), h2.length, ?_⟩
  cases h2 with
  | cons r1 h2 =>
    cases h2 with
    | cons r2 h2 =>
      cases h2
      refine ⟨_, _, rfl, b1.go s H0 C cl fp B ow σ H F _ A r1 _ fun σ1 A1 w1 => ⟨_, _, rfl, b2.go s H0 C cl fp B ow σ1 H F _ A1 r2 _ fun σ2 A2 w2 => ⟨rfl, q σ2 A2 (w2.trans w1)⟩⟩⟩

/-! ### the comprehension -/
/-- its reading, over a list ys that the turns give as enc y; f the states -/
theorem lc_go {α : Type} {ys : List α} {enc g : α → D} {p : α → Bool} (hi : EvI X p1 tg it ρ ρ1 (ys.map enc)) (hl : ys.length ≤ 1000000) (f : Nat → List SV) (f0 : f 0 = ρ1) (pl : ∀ i, i ≤ ys.length → Plain (f i) vs) (pur : p2 = true → ∀ i, i ≤ ys.length → f i = ρ1)
    (hs : ∀ (i : Nat) y, ys[i]? = some y → ∃ ρa ρb ρc q1 q2, BTg X scope vs tg (wipeR (f i) vs) (enc y) ρa ∧ BTs X scope q1 ifs ρa ρb (p y) ∧ (p y = true → BEv X scope q2 elt ρb ρc (.d (g y)) ∧ Back vs (f i) ρc (f (i + 1))) ∧ (p y = false → Back vs (f i) ρb (f (i + 1))) ∧ (p2 = true → q1 = true ∧ q2 = true)) :
    ∀ B ow σ H F, Ab B ρ ow σ H F → ∀ Q : VK, (∀ v H' F', Ps B ρ (f ys.length) ow σ H F (p1 && p2) H' F' → RsOk (f ys.length) σ H H' F' (.lo (.own ((ys.filter p).map g))) v → Q v H') →
      tLc (semI X tg it) (blkG X scope tg) (blkT X scope ifs) (blkE X scope elt) vs σ H Q := fun B ow σ H F A Q q => by
  refine hi B ow σ H F A _ fun J H1 F1 P1 J1 Dl hD => ?_
  have nb := P1.ab.nobody hD
  refine ⟨fun i m H' => m = ys.length - i ∧ i ≤ ys.length ∧ ∃ F', Ps B ρ1 (f i) ow σ H1 F1 p2 H' F' ∧ F' Dl = none ∧ ∃ acc, H' Dl = some (.lst acc) ∧ RepL F' acc (((ys.take i).filter p).map g), ⟨_, rfl, Nat.zero_le _, F1, ?_, nb.1, [], upd_same, .nil⟩, ?_⟩
  · rw [f0]
    exact Ps.pure P1.ab (.heap P1.ab.sub hD)
  rintro i m H' ⟨rfl, hle, F', P', fD, acc, hacc, racc⟩
  obtain ⟨j1, j2⟩ := J1 F' H' P'.f P'.ab.sub i
  have lacc : acc.length ≤ ys.length := by
    rw [racc.length, List.length_map]
    exact Nat.le_trans (List.length_filter_le ..) (by rw [List.length_take]; omega)
  by_cases hlt : i < ys.length
  · refine .inr ?_
    have e : ys[i]? = some (ys[i]) := List.getElem?_eq_getElem hlt
    have e2 : (ys.map enc)[i]? = some (enc ys[i]) := by rw [List.getElem?_map, e]; rfl
    obtain ⟨g1, g2⟩ := j2 _ e2
    obtain ⟨ρa, ρb, ρc, q1, q2, t1, t2, t3, t4, t5⟩ := hs i _ e
    have tk : ys.take (i + 1) = ys.take i ++ [ys[i]] := List.take_succ_eq_append_getElem hlt
    -- what a turn comes to
    have fin : ∀ {ρe : List SV} {σ2 : L2.St} {H3 F3 H4 F4 : Hp} {pe : Bool}, Gro F' H' F3 H3 → Ab B ρa ow σ2 H3 F3 → L2.wipe σ2 vs = L2.wipe (L2.wipe σ vs) vs → Ps B ρa ρe ow σ2 H3 F3 pe H4 F4 → (p2 = true → pe = true) → Back vs (f i) ρe (f (i + 1)) →
        Ps B ρ1 (f (i + 1)) ow σ H1 F1 p2 H4 F4 ∧ F4 Dl = none ∧ H4 Dl = some (.lst acc) ∧ Same F' F4 := fun {ρe σ2 H3 F3 H4 F4 pe} g3 A3 w3 P4 hpe bk => by
      have A4 := P'.ab.back (pl i hle) P4.ab (g3.f.trans P4.f) w3 bk
      have d3 : H3 Dl = some (.lst acc) := g3.h _ _ hacc
      refine ⟨⟨A4, P'.f.trans (g3.f.trans P4.f), fun b o e n => P4.fr b o (g3.h _ _ (P'.fr b o e n)) n, fun a o e n => ?_, fun a e => P'.dom a (g3.h.free (P4.dom a e)), fun h => ⟨?_, ((P'.pu h).2.trans g3.h).trans (P4.pu (hpe h)).2⟩⟩, ?_, P4.fr _ _ d3 nb.2.2, g3.f.trans P4.f⟩
      · cases z : F3 a with
        | none => exact P'.dom a (g3.h.free (P4.n a o e z))
        | some u =>
          cases z2 : F' a with
          | none => exact P'.dom a (g3.n a u z z2)
          | some w => exact P'.n a w z2 n
      · rw [pur h (i + 1) hlt]
      · cases z : F4 Dl with
        | none => rfl
        | some u =>
          exfalso
          cases z2 : F3 Dl with
          | none =>
            rw [P4.n Dl u z z2] at d3
            cases d3
          | some w =>
            rw [g3.n Dl w z2 fD] at hacc
            cases hacc
    refine ⟨g1, fun H4 => ∃ F4, Ps B ρ1 (f (i + 1)) ow σ H1 F1 p2 H4 F4 ∧ F4 Dl = none ∧ ∃ acc, H4 Dl = some (.lst acc) ∧ RepL F4 acc (((ys.take (i + 1)).filter p).map g), fun H4 h4 => ⟨ys.length - (i + 1), by omega, rfl, hlt, h4⟩, fun x H3 hy => ?_⟩
    obtain ⟨F3, g3, rp⟩ := g2 x H3 hy
    have A3 := (P'.ab.gro g3).wipe (pl i hle)
    intro s H0 C cl fp
    refine t1.go s H0 C cl fp B ow _ H3 F3 x A3 rp _ fun σ2 A4 w4 => ⟨?_, ?_⟩
    · rw [w4]
      exact wipe_eq (wipe_length ..) fun j hj => wipe_out hj
    intro s2 H02 C2 cl2 fp2
    refine t2 s2 H02 C2 cl2 fp2 B ow σ2 H3 F3 A4 _ fun H5 F5 P5 => ?_
    cases hp : p ys[i] with
    | false =>
      rw [if_neg Bool.false_ne_true]
      obtain ⟨z1, z2, z3, z4⟩ := fin g3 A4 w4 P5 (fun h => (t5 h).1) (t4 hp)
      refine ⟨F5, z1, z2, acc, z3, ?_⟩
      rw [tk, List.filter_append, List.filter_cons, if_neg (by rw [hp]; decide), List.filter_nil, List.append_nil]
      exact racc.mono z4
    | true =>
      rw [if_pos rfl]
      intro s3 H03 C3 cl3 fp3
      obtain ⟨t31, t32⟩ := t3 hp
      refine t31 s3 H03 C3 cl3 fp3 B ow σ2 H5 F5 P5.ab _ fun y H6 F6 P6 k6 => ?_
      obtain ⟨z1, z2, z3, z4⟩ := fin g3 A4 w4 (P5.trans P6) (fun h => by rw [(t5 h).1, (t5 h).2]; rfl) t32
      refine ⟨acc, z3, Nat.lt_of_le_of_lt (Nat.le_trans lacc hl) (by decide), F6, ⟨z1.ab.side z2 nb.2.1 nb.2.2, z1.f, fun b o e n => ?_, z1.n, fun a e => ?_, fun h => ⟨(z1.pu h).1, fun b o e => ?_⟩⟩, z2, _, upd_same, ?_⟩
      · have hb : b ≠ Dl := fun z => by
          rw [z, hD] at e
          cases e
        rw [upd_ne hb]
        exact z1.fr b o e n
      · by_cases hb : a = Dl
        · rw [hb]
          exact hD
        · rw [upd_ne hb] at e
          exact z1.dom a e
      · have hb : b ≠ Dl := fun z => by
          rw [z, hD] at e
          cases e
        rw [upd_ne hb]
        exact (z1.pu h).2 b o e
      · rw [tk, List.filter_append, List.filter_cons, if_pos hp, List.filter_nil, List.map_append]
        exact (racc.mono z4).snoc k6
  · have e : i = ys.length := by omega
    subst e
    refine .inl ⟨j1 (by rw [List.length_map]; omega), ?_⟩
    rw [List.take_length] at racc
    exact q _ H' F' (P1.trans P') ⟨[Dl], .own hacc racc, nodup1 Dl, fun a ha => by
      rw [List.mem_singleton.mp ha]
      exact ⟨fD, P1.dom _ hD⟩⟩
end
end Mw

set_option Elab.async false
set_option linter.all false
set_option maxRecDepth 100000
set_option maxHeartbeats 4000000
/-! Mw8: repr, == of data, sum, max, sorted, bit_length; comprehensions as one uses them -/
namespace Mw
open PySem L2
/-! ### data as the library has it -/
mutual
def D.py : D → PyData
  | .non => .none
  | .bl b => .bool b
  | .int i => .int i
  | .str x => .str x
  | .lst xs => .list (D.pys xs)
  | .tup xs => .tuple (D.pys xs)
  | .dic _ => .none
  | .ref _ => .none
  | .scr _ => .none
def D.pys : List D → List PyData
  | [] => []
  | d :: ds => d.py :: D.pys ds
end
-- scalars, lists, tuples of such; dints of less than 1920 bits
mutual
def D.ok : D → Bool
  | .non => true
  | .bl _ => true
  | .int i => decide (i.natAbs.log2 < 1920)
  | .str x => decide ((reprText x).length ≤ 10000) && PyData.strOk x
  | .lst xs => D.oks xs
  | .tup xs => D.oks xs
  | .dic _ => false
  | .ref _ => false
  | .scr _ => false
def D.oks : List D → Bool
  | [] => true
  | d :: ds => d.ok && D.oks ds
end
mutual
def D.wt : D → Nat
  | .non => 4
  | .bl _ => 5
  | .int _ => 1921
  | .str _ => 10000
  | .lst xs => 2 + D.wts xs
  | .tup xs => 3 + D.wts xs
  | .dic _ => 0
  | .ref _ => 0
  | .scr _ => 0
def D.wts : List D → Nat
  | [] => 0
  | d :: ds => d.wt + 2 + D.wts ds
end
mutual
def D.dp : D → Nat
  | .lst xs => D.dps xs + 1
  | .tup xs => D.dps xs + 1
  | _ => 0
def D.dps : List D → Nat
  | [] => 0
  | d :: ds => max d.dp (D.dps ds)
end
mutual
theorem ok_dp {K : PySem.W.Frag} {H : Hp} : ∀ {d : D} {v : V}, d.ok = true → Rep H v d → Dp K H v d.py
  | .non, _, _, h => by cases h; unfold D.py; exact .non
  | .bl _, _, _, h => by cases h; unfold D.py; exact .bl _
  | .int _, _, _, h => by cases h; unfold D.py; exact .int _
  | .str _, _, _, h => by cases h; unfold D.py; exact .str _
  | .lst ds, _, o, h => by
    unfold D.ok at o
    cases h with
    | lst h1 h2 =>
      unfold D.py
      exact .lst (SqL.of h1) (oks_dp o h2)
  | .tup ds, _, o, h => by
    unfold D.ok at o
    cases h with
    | tup h1 h2 =>
      unfold D.py
      exact .tup (SqT.of h1) (oks_dp o h2)
  | .dic _, _, o, _ => by unfold D.ok at o; cases o
  | .ref _, _, o, _ => by unfold D.ok at o; cases o
  | .scr _, _, o, _ => by unfold D.ok at o; cases o
theorem oks_dp {K : PySem.W.Frag} {H : Hp} : ∀ {ds : List D} {vs : List V}, D.oks ds = true → RepL H vs ds → DpAll K H vs (D.pys ds)
  | [], _, _, h => by cases h; unfold D.pys; exact .nil
  | d :: ds, _, o, h => by
    unfold D.oks at o
    rw [Bool.and_eq_true] at o
    cases h with
    | cons h1 h2 =>
      unfold D.pys
      exact .cons (ok_dp o.1 h1) (oks_dp o.2 h2)
end
mutual
theorem ok_show : ∀ {d : D}, d.ok = true → d.py.showable = true ∧ d.py.hasDict = false ∧ d.py.canLay0 = true ∧ d.py.depth = d.dp ∧ d.py.shown.length ≤ d.wt
  | .non, _ => by
    unfold D.py D.dp D.wt
    exact ⟨by simp [PyData.showable], by simp [PyData.hasDict], by simp [PyData.canLay0], by simp [PyData.depth], by simp only [PyData.shown]; decide⟩
  | .bl b, _ => by
    unfold D.py D.dp D.wt
    refine ⟨by simp [PyData.showable], by simp [PyData.hasDict], by simp [PyData.canLay0], by simp [PyData.depth], ?_⟩
    simp only [PyData.shown]
    cases b <;> decide
  | .int i, o => by
    unfold D.ok at o
    have h := of_decide_eq_true o
    unfold D.py D.dp D.wt
    refine ⟨by simp [PyData.showable, h], by simp [PyData.hasDict], by simp [PyData.canLay0], by simp [PyData.depth], ?_⟩
    simp only [PyData.shown]
    exact PyProof.Rows.int_text_len_1921 h
  | .str x, o => by
    unfold D.ok at o
    rw [Bool.and_eq_true] at o
    have h := of_decide_eq_true o.1
    unfold D.py D.dp D.wt
    refine ⟨by simp [PyData.showable], by simp [PyData.hasDict], by simp [PyData.canLay0, o.2], by simp [PyData.depth], ?_⟩
    simp only [PyData.shown]
    exact h
  | .lst ds, o => by
    unfold D.ok at o
    obtain ⟨h1, h2, h3, h4, h5⟩ := oks_show o
    unfold D.py D.dp D.wt
    refine ⟨by simp only [PyData.showable]; exact h1, by simp only [PyData.hasDict]; exact h2, by simp only [PyData.canLay0]; exact h3, by simp only [PyData.depth, h4], ?_⟩
    simp only [PyData.shown]
    rw [show (listText (PyData.shownAll (D.pys ds))).length = (textFrom 0 "[" (PyData.shownAll (D.pys ds))).length + 1 by
      unfold listText
      rw [strLen_append]
      rfl]
    have := from_len (PyData.shownAll (D.pys ds)) 0 "["
    rw [show ((("[" : String) : Str)).length = 1 by decide] at this
    omega
  | .tup ds, o => by
    unfold D.ok at o
    obtain ⟨h1, h2, h3, h4, h5⟩ := oks_show o
    unfold D.py D.dp D.wt
    refine ⟨by simp only [PyData.showable]; exact h1, by simp only [PyData.hasDict]; exact h2, by simp only [PyData.canLay0]; exact h3, by simp only [PyData.depth, h4], ?_⟩
    simp only [PyData.shown]
    unfold tupleText
    rw [strLen_append, strLen_append]
    have j : (Str.join ", " (PyData.shownAll (D.pys ds))).length ≤ piled (PyData.shownAll (D.pys ds)) := by
      by_cases e : PyData.shownAll (D.pys ds) = []
      · rw [e]
        decide
      · have := join_length_add _ e
        omega
    have e1 : ((("(" : String) : Str)).length = 1 := by decide
    have e2 : (((if (PyData.shownAll (D.pys ds)).length == 1 then ",)" else ")" : String) : Str)).length ≤ 2 := by
      split <;> decide
    omega
  | .dic _, o => by unfold D.ok at o; cases o
  | .ref _, o => by unfold D.ok at o; cases o
  | .scr _, o => by unfold D.ok at o; cases o
theorem oks_show : ∀ {ds : List D}, D.oks ds = true → PyData.showableAll (D.pys ds) = true ∧ PyData.hasDictAll (D.pys ds) = false ∧ PyData.canLayAll0 (D.pys ds) = true ∧ PyData.depthAll (D.pys ds) = D.dps ds ∧ piled (PyData.shownAll (D.pys ds)) ≤ D.wts ds
  | [], _ => by
    unfold D.pys D.dps D.wts
    exact ⟨by simp [PyData.showableAll], by simp [PyData.hasDictAll], by simp [PyData.canLayAll0], by simp [PyData.depthAll], by simp [PyData.shownAll, piled]⟩
  | d :: ds, o => by
    unfold D.oks at o
    rw [Bool.and_eq_true] at o
    obtain ⟨h1, h2, h3, h4, h5⟩ := ok_show o.1
    obtain ⟨k1, k2, k3, k4, k5⟩ := oks_show o.2
    unfold D.pys D.dps D.wts
    refine ⟨by simp only [PyData.showableAll, h1, k1, Bool.and_self], by simp only [PyData.hasDictAll, h2, k2, Bool.or_self], by simp only [PyData.canLayAll0, h3, k3, Bool.and_self], by simp only [PyData.depthAll, h4, k4], ?_⟩
    simp only [PyData.shownAll]
    rw [piled_cons]
    omega
theorem from_len : ∀ (ts : List Str) (k : Nat) (acc : Str), (textFrom k acc ts).length ≤ acc.length + piled ts
  | [], k, acc => by
    unfold textFrom
    omega
  | t :: r, k, acc => by
    unfold textFrom
    have h := from_len r (k + 1) (acc ++ (if k > 0 then ", " else "" : String) ++ t)
    rw [strLen_append, strLen_append] at h
    have e : (((if k > 0 then ", " else "" : String) : Str)).length ≤ 2 := by
      split <;> decide
    rw [piled_cons]
    omega
end
def D.show (d : D) : Str := d.py.shown
def D.eqv (d f : D) : Bool := PyData.eqv d.py f.py
/-! ### bounds for lists of dints and the like -/
theorem oks_all {ds : List D} : D.oks ds = ds.all D.ok := by
  induction ds with
  | nil => unfold D.oks; rfl
  | cons d ds ih =>
    unfold D.oks
    rw [ih, List.all_cons]
theorem wts_le {ds : List D} {n : Nat} (h : ∀ d ∈ ds, d.wt ≤ n) : D.wts ds ≤ ds.length * (n + 2) := by
  induction ds with
  | nil =>
    unfold D.wts
    omega
  | cons d ds ih =>
    have h1 := h d List.mem_cons_self
    have h2 := ih fun x hx => h x (List.mem_cons_of_mem _ hx)
    unfold D.wts
    rw [List.length_cons, Nat.succ_mul]
    omega
theorem dps_le {ds : List D} {n : Nat} (h : ∀ d ∈ ds, d.dp ≤ n) : D.dps ds ≤ n := by
  induction ds with
  | nil =>
    unfold D.dps
    omega
  | cons d ds ih =>
    have h1 := h d List.mem_cons_self
    have h2 := ih fun x hx => h x (List.mem_cons_of_mem _ hx)
    unfold D.dps
    omega
/-- a list of dints -/
abbrev dints (ns : List Int) : D := .lst (ns.map D.int)
theorem small_log {i : Int} (h : i.natAbs < 2 ^ 1900) : i.natAbs.log2 < 1920 := by
  by_cases e : i.natAbs = 0
  · rw [e]
    decide
  · have := (Nat.log2_lt e).mpr h
    omega
theorem ok_int {i : Int} (h : i.natAbs < 2 ^ 1900) : (D.int i).ok = true := by
  unfold D.ok
  exact decide_eq_true (small_log h)
theorem ok_ints {ns : List Int} (h : ∀ n ∈ ns, n.natAbs < 2 ^ 1900) : (dints ns).ok = true := by
  unfold D.ok
  rw [oks_all, List.all_map]
  exact List.all_eq_true.mpr fun n hn => ok_int (h n hn)
theorem wt_ints {ns : List Int} : (dints ns).wt ≤ 2 + ns.length * 1923 := by
  unfold D.wt
  have h := wts_le (ds := ns.map D.int) (n := 1921) fun d hd => by
    obtain ⟨i, _, rfl⟩ := List.mem_map.mp hd
    unfold D.wt
    omega
  rw [List.length_map] at h
  omega
theorem dp_ints {ns : List Int} : (dints ns).dp ≤ 1 := by
  unfold D.dp
  have h := dps_le (ds := ns.map D.int) (n := 0) fun d hd => by
    obtain ⟨i, _, rfl⟩ := List.mem_map.mp hd
    unfold D.dp
    omega
  omega
/-- == of lists of dints -/
theorem eqv_ints : ∀ {ns ms : List Int}, PyData.eqvAll (D.pys (ns.map D.int)) (D.pys (ms.map D.int)) = decide (ns = ms)
  | [], [] => by
    unfold List.map D.pys
    simp [PyData.eqvAll]
  | [], _ :: _ => by
    unfold List.map D.pys
    simp [PyData.eqvAll]
  | _ :: _, [] => by
    unfold List.map D.pys
    simp [PyData.eqvAll]
  | n :: ns, m :: ms => by
    rw [List.map_cons, List.map_cons]
    unfold D.pys
    unfold PyData.eqvAll
    rw [eqv_ints]
    unfold D.py
    unfold PyData.eqv
    by_cases h : n = m
    · subst h
      simp
    · simp [h]
theorem eqv_i {ns ms : List Int} : (dints ns).eqv (dints ms) = decide (ns = ms) := by
  unfold D.eqv D.py
  unfold PyData.eqv
  exact eqv_ints

section
variable {X : Cx} {pu p1 p2 p3 : Bool} {e a b c it tg elt : Expr} {es ifs : List Expr} {rest st : List Stmt} {ρ ρ' ρ1 ρ2 ρ3 : List SV} {r x y z : Rs} {rs : List Rs} {pos : Pos} {E : AE} {scope : Scope}

/-! ### repr, ==, != -/
def rRepr : List V → Hp → VK → Prop := fun xs H Q => ∃ v d, xs = [v] ∧ Rep H v d ∧ d.ok = true ∧ d.wt ≤ 16000000 ∧ d.dp ≤ 60 ∧ ∀ H', Same H H' → Q (.str d.show) H
theorem call_repr (hg : X.A.guards = some []) (hu : X.A.units + 64 < cLine) : CallR X (.builtin "repr") rRepr := by
  intro pins s σ H xs us Q I r h
  obtain ⟨v, d, rfl, rp, ok, wt, dp, q⟩ := h
  obtain ⟨u, rfl, r1⟩ := vals1 r
  obtain ⟨s1, s2, _, s4, s5⟩ := ok_show ok
  have sz : d.py.shown.length ≤ sizeLine := Nat.le_trans s5 (Nat.le_trans wt (by decide))
  have q := q H (Same.refl H)
  unfold D.show at q
  have nested : ∀ a, v = .ref a → wpAny (model X.prog X.w) X.A (call (.builtin "repr") [u]) (EP X pins σ Q) X.xe s := fun a e => by
    subst e
    cases r1
    obtain ⟨as, rd⟩ := Dp.reads I d.py (.ref a) (.ref a) (ok_dp ok rp) rfl
    refine repr_of_reads' rd s1 (PyData.noDict_hsm s2) hg (by rw [s4]; omega) (fun _ _ e => e) (fun h' w tk k => ?_) sz
    exact ⟨.str _, H, I.kept (t' := tk) k, ⟨w, rfl⟩, q⟩
  cases d with
  | non =>
    rw [rep_non rp] at r1
    cases r1
    unfold D.py at q
    exact P.repr_of_none ⟨.str _, H, I.tok _, ⟨_, rfl⟩, by simpa only [PyData.shown] using q⟩
  | bl b =>
    rw [rep_bl rp] at r1
    cases r1
    unfold D.py at q
    exact P.repr_of_bool ⟨.str _, H, I.tok _, ⟨_, rfl⟩, by simpa only [PyData.shown] using q⟩
  | int i =>
    rw [rep_int rp] at r1
    obtain ⟨t, rfl⟩ := r1
    unfold D.ok at ok
    unfold D.py at q
    exact P.repr_of_int (of_decide_eq_true ok) ⟨.str _, H, I.tok _, ⟨_, rfl⟩, by simpa only [PyData.shown] using q⟩
  | str x =>
    rw [rep_str rp] at r1
    obtain ⟨t, rfl⟩ := r1
    unfold D.py at q sz
    refine P.repr_of_str ⟨.str _, H, I.tok _, ⟨_, rfl⟩, by simpa only [PyData.shown] using q⟩ (by simpa only [PyData.shown] using sz)
  | lst ds =>
    obtain ⟨a, xs, rfl, _⟩ := rep_lst rp
    exact nested a rfl
  | tup ds =>
    obtain ⟨a, xs, rfl, _⟩ := rep_tup rp
    exact nested a rfl
  | dic _ => unfold D.ok at ok; cases ok
  | ref _ => unfold D.ok at ok; cases ok
  | scr _ => unfold D.ok at ok; cases ok
theorem ev_repr {d : D} {p : Pos} (N : Bi X "repr" (.builtin "repr")) (hg : X.A.guards = some []) (hu : X.A.units + 64 < cLine) (ha : Ev X pu e ρ ρ' x) (cx : Cv x (.now d)) (h : d.ok = true ∧ d.wt ≤ 16000000 ∧ d.dp ≤ 60) (he : starEach [e] X.env = [(false, eval e X.env)]) :
    Ev X pu (.Call (.Name "repr" p) [e] [] pos) ρ ρ' (.d (.str d.show)) :=
  ev_callB N (call_repr hg hu) (ea_one ha he) (fun B ρ ow σ Hs H F vs A k Q q => by
    obtain ⟨v, rfl, k1⟩ := k.one
    exact ⟨v, d, rfl, cx B ρ ow σ Hs H F v A k1, h.1, h.2.1, h.2.2, fun H' _ => q _ H F (.refl A.sub) (.str _)⟩) he rfl
/-- texts: == and != -/
theorem ev_eqS {i j : Str} (ha : Ev X p1 a ρ ρ1 (.d (.str i))) (hb : Ev X p2 b ρ1 ρ2 (.d (.str j))) : Ev X (p1 && p2) (.Compare a [.Eq] [b] pos) ρ ρ2 (.d (.bl (decide (i = j)))) :=
  (ev_cmp op_eq ha hb (.inr rfl) (sm_eq rfl rfl rfl) (nomark _)).bl (by rw [dec_str]; rfl)
theorem ev_neS {i j : Str} (ha : Ev X p1 a ρ ρ1 (.d (.str i))) (hb : Ev X p2 b ρ1 ρ2 (.d (.str j))) : Ev X (p1 && p2) (.Compare a [.NotEq] [b] pos) ρ ρ2 (.d (.bl (!decide (i = j)))) :=
  (ev_cmp op_ne ha hb (.inr rfl) (sm_ne rfl rfl rfl) (nomark _)).bl (by rw [dec_str]; rfl)
theorem sm_eqD {d f : D} (cx : Cv x (.now d)) (cy : Cv y (.now f)) (h1 : d.ok = true ∧ d.dp ≤ 60) (h2 : f.ok = true ∧ f.dp ≤ 60) : Sem2 X (rEqD X.K) x y (.d (.bl (d.eqv f))) := fun B ρ ow σ Hs H F v w A q1 q2 Q q => by
  have r1 := cx B ρ ow σ Hs H F v A q1
  have r2 := cy B ρ ow σ Hs H F w A q2
  obtain ⟨_, _, c1, e1, _⟩ := ok_show h1.1
  obtain ⟨_, _, c2, e2, _⟩ := ok_show h2.1
  refine ⟨d.py, f.py, ok_dp h1.1 r1, ok_dp h2.1 r2, ?_, ?_, q _ H F (.refl A.sub) (.bl _)⟩
  · unfold SeqAt.shaped
    rw [c1, e1]
    exact decide_eq_true (by omega)
  · unfold SeqAt.shaped
    rw [c2, e2]
    exact decide_eq_true (by omega)
theorem sm_neD {d f : D} (cx : Cv x (.now d)) (cy : Cv y (.now f)) (h1 : d.ok = true ∧ d.dp ≤ 60) (h2 : f.ok = true ∧ f.dp ≤ 60) : Sem2 X (rNeD X.K) x y (.d (.bl (!d.eqv f))) := fun B ρ ow σ Hs H F v w A q1 q2 Q q => by
  have r1 := cx B ρ ow σ Hs H F v A q1
  have r2 := cy B ρ ow σ Hs H F w A q2
  obtain ⟨_, _, c1, e1, _⟩ := ok_show h1.1
  obtain ⟨_, _, c2, e2, _⟩ := ok_show h2.1
  refine ⟨d.py, f.py, ok_dp h1.1 r1, ok_dp h2.1 r2, ?_, ?_, q _ H F (.refl A.sub) (.bl _)⟩
  · unfold SeqAt.shaped
    rw [c1, e1]
    exact decide_eq_true (by omega)
  · unfold SeqAt.shaped
    rw [c2, e2]
    exact decide_eq_true (by omega)
theorem ev_eqD {d f : D} (hu : X.A.units + 64 < cLine) (ha : Ev X p1 a ρ ρ1 x) (hb : Ev X p2 b ρ1 ρ2 y) (pk : Pk p2 x) (cx : Cv x (.now d)) (cy : Cv y (.now f)) (h1 : d.ok = true ∧ d.dp ≤ 60) (h2 : f.ok = true ∧ f.dp ≤ 60) :
    Ev X (p1 && p2) (.Compare a [.Eq] [b] pos) ρ ρ2 (.d (.bl (d.eqv f))) := ev_cmp (op_eqD hu) ha hb pk (sm_eqD cx cy h1 h2) (nomark _)
theorem ev_neD {d f : D} (hu : X.A.units + 64 < cLine) (ha : Ev X p1 a ρ ρ1 x) (hb : Ev X p2 b ρ1 ρ2 y) (pk : Pk p2 x) (cx : Cv x (.now d)) (cy : Cv y (.now f)) (h1 : d.ok = true ∧ d.dp ≤ 60) (h2 : f.ok = true ∧ f.dp ≤ 60) :
    Ev X (p1 && p2) (.Compare a [.NotEq] [b] pos) ρ ρ2 (.d (.bl (!d.eqv f))) := ev_cmp (op_neD hu) ha hb pk (sm_neD cx cy h1 h2) (nomark _)
/-- x is None, x is not None -/
def D.isNon : D → Bool
  | .non => true
  | _ => false
theorem isNon_rep {H : Hp} {v : V} {d : D} (h : Rep H v d) : decide (v = .non) = d.isNon := by
  cases h <;> first | rfl | exact decide_eq_false (by intro z; cases z)
theorem ev_isN {j : Nat} {pp : Pos} {d : D} (ha : Ev X pu a ρ ρ' (.d d)) : Ev X pu (.Compare a [.Is] [.Constant .none j pp] pos) ρ ρ' (.d (.bl d.isNon)) := fun B ow σ H F A Q q =>
  ⟨_, pe_cmp (pc_isN pe_sem) (nobehind _ (by decide) (by decide)), ha B ow σ H F A _ fun v H1 F1 P1 k1 => by
    rw [isNon_rep k1]
    exact q _ H1 F1 P1 (.bl _)⟩
theorem ev_notN {j : Nat} {pp : Pos} {d : D} (ha : Ev X pu a ρ ρ' (.d d)) : Ev X pu (.Compare a [.IsNot] [.Constant .none j pp] pos) ρ ρ' (.d (.bl (!d.isNon))) := fun B ow σ H F A Q q =>
  ⟨_, pe_cmp (pc_notN pe_sem) (nobehind _ (by decide) (by decide)), ha B ow σ H F A _ fun v H1 F1 P1 k1 => by
    rw [isNon_rep k1]
    exact q _ H1 F1 P1 (.bl _)⟩

/-! ### sum, max, sorted, bit_length -/
theorem ev_sum {ns : List Int} {p : Pos} (hc : X.calm = true) (N : Bi X "sum" (.builtin "sum")) (ha : Ev X pu e ρ ρ' x) (cx : Cv x (.li (ns.map D.int))) (he : starEach [e] X.env = [(false, eval e X.env)]) : Ev X pu (.Call (.Name "sum" p) [e] [] pos) ρ ρ' (.d (.int ns.sum)) :=
  ev_callB N (cr_sum hc) (ea_one ha he) (fun B ρ ow σ Hs H F vs A k Q q => by
    obtain ⟨v, rfl, k1⟩ := k.one
    obtain ⟨l, ws, rfl, z1, z2⟩ := cx B ρ ow σ Hs H F v A k1
    rw [RepL.ints z2] at z1
    exact ⟨l, ns, rfl, SqL.of z1, q _ H F (.refl A.sub) (.int _)⟩) he rfl
/-- the greatest, 0 of none -/
def maxI : List Int → Int
  | [] => 0
  | [x] => x
  | x :: y :: r => max x (maxI (y :: r))
theorem maxI_mem : ∀ {ns : List Int}, ns ≠ [] → maxI ns ∈ ns ∧ ∀ y ∈ ns, y ≤ maxI ns
  | [], h => absurd rfl h
  | [x], _ => ⟨List.mem_cons_self, fun y hy => by
    rw [List.mem_singleton.mp hy]
    exact Int.le_refl _⟩
  | x :: y :: r, _ => by
    obtain ⟨h1, h2⟩ := maxI_mem (ns := y :: r) (by intro z; cases z)
    refine ⟨?_, fun w hw => ?_⟩
    · show max x (maxI (y :: r)) ∈ x :: y :: r
      rw [Int.max_def]
      split
      · exact List.mem_cons_of_mem _ h1
      · exact List.mem_cons_self
    · show w ≤ max x (maxI (y :: r))
      rcases List.mem_cons.mp hw with rfl | hw
      · exact Int.le_max_left ..
      · exact Int.le_trans (h2 w hw) (Int.le_max_right ..)
theorem maxI_uniq {ns : List Int} (hn : ns ≠ []) {m : Int} (h1 : m ∈ ns) (h2 : ∀ y ∈ ns, y ≤ m) : m = maxI ns := by
  obtain ⟨k1, k2⟩ := maxI_mem hn
  exact Int.le_antisymm (k2 m h1) (h2 _ k1)
theorem ev_max {ns : List Int} {p : Pos} (hc : X.calm = true) (N : Bi X "max" (.builtin "max")) (ha : Ev X pu e ρ ρ' x) (cx : Cv x (.li (ns.map D.int))) (hn : ns ≠ []) (he : starEach [e] X.env = [(false, eval e X.env)]) : Ev X pu (.Call (.Name "max" p) [e] [] pos) ρ ρ' (.d (.int (maxI ns))) :=
  ev_callB N (cr_max hc) (ea_one ha he) (fun B ρ ow σ Hs H F vs A k Q q => by
    obtain ⟨v, rfl, k1⟩ := k.one
    obtain ⟨l, ws, rfl, z1, z2⟩ := cx B ρ ow σ Hs H F v A k1
    rw [RepL.ints z2] at z1
    refine ⟨l, ns, rfl, SqL.of z1, ?_, fun m h1 h2 => ?_⟩
    · cases ns with
      | nil => exact absurd rfl hn
      | cons _ _ => exact Nat.succ_pos _
    · rw [maxI_uniq hn h1 h2]
      exact q _ H F (.refl A.sub) (.int _)) he rfl
/-- ascending -/
def insI (x : Int) : List Int → List Int
  | [] => [x]
  | y :: r => if x ≤ y then x :: y :: r else y :: insI x r
def sortI : List Int → List Int
  | [] => []
  | x :: r => insI x (sortI r)
theorem insI_perm (x : Int) : ∀ l : List Int, (insI x l).Perm (x :: l)
  | [] => .refl _
  | y :: r => by
    unfold insI
    split
    · exact .refl _
    · exact ((insI_perm x r).cons y).trans (.swap ..)
theorem sortI_perm : ∀ l : List Int, (sortI l).Perm l
  | [] => .refl _
  | x :: r => (insI_perm x _).trans ((sortI_perm r).cons x)
theorem insI_sorted (x : Int) : ∀ {l : List Int}, l.Pairwise (· ≤ ·) → (insI x l).Pairwise (· ≤ ·)
  | [], _ => List.pairwise_singleton ..
  | y :: r, h => by
    unfold insI
    rw [List.pairwise_cons] at h
    split
    · rename_i hx
      refine List.pairwise_cons.mpr ⟨fun z hz => ?_, List.pairwise_cons.mpr h⟩
      rcases List.mem_cons.mp hz with rfl | hz
      · exact hx
      · exact Int.le_trans hx (h.1 z hz)
    · rename_i hx
      refine List.pairwise_cons.mpr ⟨fun z hz => ?_, insI_sorted x h.2⟩
      rcases List.mem_cons.mp ((insI_perm x r).subset hz) with rfl | hz
      · omega
      · exact h.1 z hz
theorem sortI_sorted : ∀ l : List Int, (sortI l).Pairwise (· ≤ ·)
  | [] => List.Pairwise.nil
  | x :: r => insI_sorted x (sortI_sorted r)
theorem sort_uniq {l k : List Int} (p : l.Perm k) (h1 : l.Pairwise (· ≤ ·)) (h2 : k.Pairwise (· ≤ ·)) : l = k :=
  p.eq_of_pairwise (fun a b _ _ h3 h4 => Int.le_antisymm h3 h4) h1 h2
theorem ev_sorted {ns : List Int} {p : Pos} (N : Bi X "sorted" (.builtin "sorted")) (ha : Ev X pu e ρ ρ' x) (cx : Cv x (.li (ns.map D.int))) (he : starEach [e] X.env = [(false, eval e X.env)]) : Ev X pu (.Call (.Name "sorted" p) [e] [] pos) ρ ρ' (.lo (.own ((sortI ns).map D.int))) :=
  ev_callB N cr_sortedI (ea_one ha he) (fun B ρ ow σ Hs H F vs A k Q q => by
    obtain ⟨v, rfl, k1⟩ := k.one
    obtain ⟨l, ws, rfl, z1, z2⟩ := cx B ρ ow σ Hs H F v A k1
    rw [RepL.ints z2] at z1
    refine ⟨l, ns, rfl, SqL.of z1, fun ns' m pm so hm => ?_⟩
    rw [sort_uniq (pm.trans (sortI_perm ns).symm) so (sortI_sorted ns)]
    exact q _ _ F (.heap A.sub hm) (lo_new A.sub hm (fun _ e => e) .of_ints)) he rfl

/-! ### comprehensions as one uses them -/
variable {own : List (Str × Nat)}
theorem ev_lcX {α : Type} {ys : List α} {enc g : α → D} {p : α → Bool} (hc : X.calm = true) (hN : X.N.Nodup) (ok : BlkOk X.N X.env.scope scope own) (hfs : ∀ x, foldedSetIterable it X.env x = pure x) (hi : EvI X p1 tg it ρ ρ1 (ys.map enc)) (hl : ys.length ≤ 1000000)
    (f : Nat → List SV) (f0 : f 0 = ρ1) (pl : ∀ i, i ≤ ys.length → Plain (f i) (own.map (·.2))) (pur : p2 = true → ∀ i, i ≤ ys.length → f i = ρ1)
    (hs : ∀ (i : Nat) y, ys[i]? = some y → ∃ ρa ρb ρc q1 q2, BTg X scope (own.map (·.2)) tg (wipeR (f i) (own.map (·.2))) (enc y) ρa ∧ BTs X scope q1 ifs ρa ρb (p y) ∧ (p y = true → BEv X scope q2 elt ρb ρc (.d (g y)) ∧ Back (own.map (·.2)) (f i) ρc (f (i + 1))) ∧ (p y = false → Back (own.map (·.2)) (f i) ρb (f (i + 1))) ∧ (p2 = true → q1 = true ∧ q2 = true)) :
    Ev X (p1 && p2) (.ListComp elt [⟨tg, it, ifs, 0⟩] scope pos) ρ (f ys.length) (.lo (.own ((ys.filter p).map g))) := fun B ow σ H F A Q q =>
  ⟨_, pe_lc hc hN pi_sem ok pg_blk pt_blk pe_blk hfs, lc_go hi hl f f0 pl pur hs B ow σ H F A Q q⟩
/-- without draws -/
theorem lc_pure {α : Type} {ys : List α} {enc g : α → D} {p : α → Bool} {vs : List Nat} (pl : Plain ρ1 vs)
    (hs : ∀ y ∈ ys, ∃ ρa, BTg X scope vs tg (wipeR ρ1 vs) (enc y) ρa ∧ BTs X scope true ifs ρa ρa (p y) ∧ (p y = true → BEv X scope true elt ρa ρa (.d (g y)))) :
    ∀ (i : Nat) y, ys[i]? = some y → ∃ ρa ρb ρc q1 q2, BTg X scope vs tg (wipeR ρ1 vs) (enc y) ρa ∧ BTs X scope q1 ifs ρa ρb (p y) ∧ (p y = true → BEv X scope q2 elt ρb ρc (.d (g y)) ∧ Back vs ρ1 ρc ρ1) ∧ (p y = false → Back vs ρ1 ρb ρ1) ∧ (true = true → q1 = true ∧ q2 = true) := fun i y e => by
  obtain ⟨ρa, t1, t2, t3⟩ := hs y (List.mem_of_getElem? e)
  have bk : Back vs ρ1 ρa ρ1 := ⟨rfl, fun j hj => by rw [t1.out j hj, wipeR_out hj], fun _ _ => rfl⟩
  exact ⟨ρa, ρa, ρa, true, true, t1, t2, fun h => ⟨t3 h, bk⟩, fun _ => bk, fun _ => ⟨rfl, rfl⟩⟩
theorem ev_lc {α : Type} {ys : List α} {enc g : α → D} {p : α → Bool} (hc : X.calm = true) (hN : X.N.Nodup) (ok : BlkOk X.N X.env.scope scope own) (hfs : ∀ x, foldedSetIterable it X.env x = pure x) (hi : EvI X p1 tg it ρ ρ1 (ys.map enc)) (hl : ys.length ≤ 1000000) (pl : Plain ρ1 (own.map (·.2)))
    (hs : ∀ y ∈ ys, ∃ ρa, BTg X scope (own.map (·.2)) tg (wipeR ρ1 (own.map (·.2))) (enc y) ρa ∧ BTs X scope true ifs ρa ρa (p y) ∧ (p y = true → BEv X scope true elt ρa ρa (.d (g y)))) :
    Ev X p1 (.ListComp elt [⟨tg, it, ifs, 0⟩] scope pos) ρ ρ1 (.lo (.own ((ys.filter p).map g))) := by
  have h := ev_lcX (p2 := true) (pos := pos) hc hN ok hfs hi hl (fun _ => ρ1) rfl (fun _ _ => pl) (fun _ _ _ => rfl) (lc_pure pl hs)
  rw [Bool.and_true] at h
  exact h
/-- x = [..], x a local name -/
theorem sx_setLcX {α : Type} {ys : List α} {enc g : α → D} {p : α → Bool} {i : Nat} {nm : Str} {pp spos : Pos} {s : SV} (hc : X.calm = true) (hN : X.N.Nodup) (hy : X.N[i]? = some nm) (hyl : X.env.scope.names.lookup nm = some .local)
    (hsw : swapsWith (.ListComp elt [⟨tg, it, ifs, 0⟩] scope pos) (some (.Name nm pp)) spos.line X.env = pure true) (ok : BlkOk X.N X.env.scope scope own) (hfs : ∀ x, foldedSetIterable it X.env x = pure x) (hi : EvI X p1 tg it ρ ρ1 (ys.map enc)) (hl : ys.length ≤ 1000000)
    (f : Nat → List SV) (f0 : f 0 = ρ1) (pl : ∀ i, i ≤ ys.length → Plain (f i) (own.map (·.2))) (pur : p2 = true → ∀ i, i ≤ ys.length → f i = ρ1)
    (hs : ∀ (i : Nat) y, ys[i]? = some y → ∃ ρa ρb ρc q1 q2, BTg X scope (own.map (·.2)) tg (wipeR (f i) (own.map (·.2))) (enc y) ρa ∧ BTs X scope q1 ifs ρa ρb (p y) ∧ (p y = true → BEv X scope q2 elt ρb ρc (.d (g y)) ∧ Back (own.map (·.2)) (f i) ρc (f (i + 1))) ∧ (p y = false → Back (own.map (·.2)) (f i) ρb (f (i + 1))) ∧ (p2 = true → q1 = true ∧ q2 = true))
    (h0 : (f ys.length)[i]? = some s) (np : s.isPar = false) (k : SX X rest ((f ys.length).set i (.lo (.own ((ys.filter p).map g)))) E) : SX X (.Assign [.Name nm pp] (.ListComp elt [⟨tg, it, ifs, 0⟩] scope pos) spos :: rest) ρ E := fun B ow σ H F A D q => by
  refine ⟨_, pss_cons (ps_setLc hc hN hy hyl hsw pi_sem ok pg_blk pt_blk pe_blk hfs) pss_sem, ?_⟩
  show tLc (semI X tg it) (blkG X scope tg) (blkT X scope ifs) (blkE X scope elt) (own.map (·.2)) σ H (fun x H1 => gName i x σ H1 (semSs X rest D))
  refine lc_go hi hl f f0 pl pur hs B ow σ H F A _ fun v H1 F1 P1 k1 => ?_
  obtain ⟨ow', A'⟩ := A.put P1.ab h0 np k1
  exact k B ow' _ H1 F1 A' D (q.mono P1.f)
theorem sx_setLc {α : Type} {ys : List α} {enc g : α → D} {p : α → Bool} {i : Nat} {nm : Str} {pp spos : Pos} {s : SV} (hc : X.calm = true) (hN : X.N.Nodup) (hy : X.N[i]? = some nm) (hyl : X.env.scope.names.lookup nm = some .local)
    (hsw : swapsWith (.ListComp elt [⟨tg, it, ifs, 0⟩] scope pos) (some (.Name nm pp)) spos.line X.env = pure true) (ok : BlkOk X.N X.env.scope scope own) (hfs : ∀ x, foldedSetIterable it X.env x = pure x) (hi : EvI X p1 tg it ρ ρ1 (ys.map enc)) (hl : ys.length ≤ 1000000) (pl : Plain ρ1 (own.map (·.2)))
    (hs : ∀ y ∈ ys, ∃ ρa, BTg X scope (own.map (·.2)) tg (wipeR ρ1 (own.map (·.2))) (enc y) ρa ∧ BTs X scope true ifs ρa ρa (p y) ∧ (p y = true → BEv X scope true elt ρa ρa (.d (g y))))
    (h0 : ρ1[i]? = some s) (np : s.isPar = false) (k : SX X rest (ρ1.set i (.lo (.own ((ys.filter p).map g)))) E) : SX X (.Assign [.Name nm pp] (.ListComp elt [⟨tg, it, ifs, 0⟩] scope pos) spos :: rest) ρ E :=
  sx_setLcX (p2 := true) hc hN hy hyl hsw ok hfs hi hl (fun _ => ρ1) rfl (fun _ _ => pl) (fun _ _ _ => rfl) (lc_pure pl hs) h0 np k
end
end Mw

set_option Elab.async false
set_option linter.all false
set_option maxRecDepth 100000
set_option maxHeartbeats 4000000
/-! Mw9: the end of a law: its def is called at the heap behind the top, where no repr is under way -/
namespace Mw
open PySem PySem.Spec PyProof.Rows L2
section
variable {P : Program} {w : World} {K : PySem.W.Frag} {mg mb : Str → Option Value} {k : Nat} {fa a : Addr} {fd : FuncData} {x : Str} {sp : Sp} {s1 : Shared} {vs : List Value} {ns : List Int}
/-- from one abstract heap that tracks the script at most -/
theorem call_core {H : Hp} (kx : K.In s1.heap) (gl : s1.heap.Ns mainGlobals mg) (bl : s1.heap.Ns builtinsNs mb) (bb : ∀ x : Str, x ≠ "__name__" → mb x = bootBuiltins x) (lim : s1.heap.NoLimit) (hg : s1.gens = #[])
    (ha : s1.heap.get? a = some { cls := .type "list", data := .seq vs.toArray }) (hr : Room k callerA) (F : ∀ base : Heap, K.In base → base.Ns mainGlobals mg → FnG P w K mg base CX0 k fa fd [x] sp) (bd : ∀ (s : Shared) (u : Value), BindsTo s fd ⟨[u], []⟩ [(x, u)])
    (hO : Only H) (hp : sp [.ref a] H (fun v _ => v = .bl true) fun _ _ _ => False) (ok : HOk P w H s1.heap) (only : ∀ b, H b ≠ none → b = a) (hK : H a ≠ none → K.lookup a = none) :
    codeAny (model P w) callerA (.call (.ref fa) ⟨[.ref a], []⟩) (fun r s' => r = .ok (.ret (.bool true)) ∧ OldK s1.heap s'.heap ∧ s'.os = s1.os ∧ AllBare s'.gens) s1 := by
  -- what is a dict is not the script
  have nodict : ∀ {b : Addr} {o : Obj} {es : Array DictEntry} {ep : Nat}, s1.heap.get? b = some o → o.data = .dict es ep → H b = none := by
    intro b o es ep e d
    cases q : H b with
    | none => rfl
    | some u =>
      have eb := only b (by rw [q]; intro z; cases z)
      rw [eb, ha] at e
      cases e
      cases d
  have ns_ : ∀ {b : Addr} {m : Str → Option Value}, s1.heap.Ns b m → (hidT s1.heap H).Ns b m := by
    rintro b m ⟨o, es, ep, e, d, r⟩
    exact ⟨o, es, ep, hidT_get e (nodict e d), d, r⟩
  have kin : K.In (hidT s1.heap H) := by
    intro b o e
    refine hidT_get (kx b o e) ?_
    cases q : H b with
    | none => rfl
    | some u =>
      have nn : H b ≠ none := by rw [q]; intro z; cases z
      have eb := only b nn
      subst eb
      rw [hK nn] at e
      cases e
  obtain ⟨mc, l1, l2⟩ := lim
  have M : Mod K mg (hidT s1.heap H) := { kin := kin, glob := ns_ gl, blt := ⟨mb, ns_ bl, bb⟩, nolimit := ⟨mc, ns_ l1, l2⟩ }
  have e0 : Env0 P w K mg (hidT s1.heap H) callerA [] s1 H :=
    { frames := rfl, mod := M, bs := fun b o e => of_hidT e, bsz := Nat.le_of_eq (hidT_size _ _), funs := trivial, frf := (fun b hb => by cases hb), hok := ok, bare := .of_eq hg }
  have run := (F _ kin (ns_ gl)).go callerA [] s1 H ⟨[.ref a], []⟩ [.ref a] [.ref a] _ _ rfl hr e0 (bd s1 (.ref a)) (.cons rfl .nil) hp
  refine codeAny_mono run ?_
  rintro (e | fl) s' h
  · exact h.elim
  cases fl with
  | next => exact h.elim
  | brk => exact h.elim
  | cont => exact h.elim
  | ret u =>
    obtain ⟨v, H', os, bare, un, ok', rv, q⟩ := h
    have ev : v = .bl true := q
    subst ev
    have eu : u = Value.bool true := rv
    subst eu
    refine ⟨rfl, OldK.of_keep ?_, os, bare⟩
    intro b o e
    cases q1 : H b with
    | none => exact un.keep b o e q1 (fun z => by cases z) (fun z => by cases z)
    | some u =>
      rcases hO b with z | ⟨ob, xs, z⟩
      · rw [q1] at z
        cases z
      · obtain ⟨y1, _⟩ := ok b _ z
        obtain ⟨y2, _⟩ := ok' b _ (un.frzs b ob _ z)
        rw [e] at y1
        cases y1
        exact y2
theorem law_callG (kx : K.In s1.heap) (gl : s1.heap.Ns mainGlobals mg) (bl : s1.heap.Ns builtinsNs mb) (bb : ∀ x : Str, x ≠ "__name__" → mb x = bootBuiltins x) (lim : s1.heap.NoLimit) (hg : s1.gens = #[])
    (ha : s1.heap.get? a = some { cls := .type "list", data := .seq vs.toArray }) (hi : IntsAre vs ns) (hl : ns.length ≤ sizeLine) (hr : Room k callerA) (F : ∀ base : Heap, K.In base → base.Ns mainGlobals mg → FnG P w K mg base CX0 k fa fd [x] sp) (bd : ∀ (s : Shared) (u : Value), BindsTo s fd ⟨[u], []⟩ [(x, u)])
    (hp : ∀ H : Hp, Only H → SqL K H a (ns.map V.int) → sp [.ref a] H (fun v _ => v = .bl true) fun _ _ _ => False) :
    codeAny (model P w) callerA (.call (.ref fa) ⟨[.ref a], []⟩) (fun r s' => r = .ok (.ret (.bool true)) ∧ OldK s1.heap s'.heap ∧ s'.os = s1.os ∧ AllBare s'.gens) s1 := by
  have lv := hi.length
  cases hk : K.lookup a with
  | some o =>
    have e := kx a o hk
    rw [ha] at e
    cases e
    have on : Only (fun _ => none) := fun _ => .inl rfl
    have sq : SqL K (fun _ => none) a (ns.map V.int) := .inr ⟨_, vs.toArray, _, hk, rfl, rfl, rfl, by rw [List.size_toArray, lv]; exact hl, by simpa using vals_ints hi⟩
    exact call_core kx gl bl bb lim hg ha hr F bd on (hp _ on sq) (fun b u z => by cases z) (fun b z => absurd rfl z) fun z => absurd rfl z
  | none =>
    generalize eo : ({ cls := .type "list", data := .seq vs.toArray } : Obj) = ob at ha
    let H : Hp := fun b => if b = a then some (.frz ob (.lst (ns.map V.int))) else none
    have Ha : H a = some (.frz ob (.lst (ns.map V.int))) := if_pos rfl
    have Hn : ∀ b, b ≠ a → H b = none := fun b z => if_neg z
    have on : Only H := by
      intro b
      by_cases z : b = a
      · exact .inr ⟨_, _, by rw [z]; exact Ha⟩
      · exact .inl (Hn b z)
    have only : ∀ b, H b ≠ none → b = a := by
      intro b z
      by_cases y : b = a
      · exact y
      · exact absurd (Hn b y) z
    refine call_core (H := H) kx gl bl bb lim hg (by rw [eo]; exact ha) hr F bd on (hp H on (.inl (.inr ⟨_, Ha⟩))) ?_ only fun _ => hk
    intro b u z
    have eb := only b (by rw [z]; intro y; cases y)
    subst eb
    rw [Ha] at z
    cases z
    refine ⟨ha, by rw [List.length_map]; exact hl, vs, 0, vals_ints hi, ?_⟩
    rw [eo]
    exact ha
end
/-- the goal that the head leaves -/
theorem walk_G {l : PySem.W.OpenLaw} {n k : Nat} {q : Program} {loose : List Str} {XP : (Str → Option Value) → Heap → Prop} {YP : World → Heap → Prop} {d : DefRec} {x : Str} (hn : l.most = some n) (hn2 : n ≤ sizeLine) (hdf : d.params.defaults = []) (hr : Room k callerA)
    (F : ∀ (w : World) (mg : Str → Option Value) (fa : Addr) (h : Heap), YP w h → h.Ns mainGlobals mg → mg d.name = some (.ref fa) → ∃ (K : PySem.W.Frag) (fd : FuncData) (sp : Sp), K.In h ∧ (∀ (s : Shared) (u : Value), BindsTo s fd ⟨[u], []⟩ [(x, u)]) ∧
      (∀ (H : Hp) (a : Addr) (ns : List Int), ns.length ≤ n → Only H → SqL K H a (ns.map V.int) → sp [.ref a] H (fun v _ => v = .bl true) fun _ _ _ => False) ∧ ∀ base : Heap, K.In base → base.Ns mainGlobals mg → FnG l.prog w K mg base CX0 k fa fd [x] sp) :
    PySem.W.WalkO q loose XP YP l.row.toRowW d [] (fun f vs => PySem.call f vs) := by
  apply Att.attach_call hn hdf
  intro w s0 s1 mg mb fa o pm cd doc a vs ns G Y ho hd hcd hmg hobj hints hlen hg
  obtain ⟨K, fd, sp, kx, bd, hp, hF⟩ := F w mg fa _ Y G.T.g hmg
  exact law_callG kx G.T.g G.T.b G.T.builtins G.T.nolimit hg hobj hints (Nat.le_trans hlen hn2) hr hF bd fun H hO hS => hp H a ns hlen hO hS
end Mw

set_option Elab.async false
set_option linter.all false
set_option maxRecDepth 100000
set_option maxHeartbeats 4000000
/-! Mw10: names of a body, wide ints -/
namespace Mw
open PySem PySem.Spec PyProof.Rows L2
section
variable {X : Cx} {pu p1 p2 p3 : Bool} {e a b c it tg elt : Expr} {es ifs : List Expr} {rest st : List Stmt} {ρ ρ' ρ1 ρ2 ρ3 : List SV} {r x y z : Rs} {rs : List Rs} {pos : Pos} {E : AE} {scope : Scope} {vs : List Nat}
structure Sc (X : Cx) (N : List Str) (sc : Scope) : Prop where
  n : X.N = N
  s : X.env.scope = sc
  f : ∀ x, X.fn x = true
theorem Sc.nl {N : List Str} {sc : Scope} (c : Sc X N sc) {i : Nat} {x : Str} (nd : N.Nodup) (h : N[i]? = some x) (l : Loc sc x) : Nl X i x :=
  ⟨by rw [c.n]; exact nd, by rw [c.n]; exact h, by rw [c.s]; exact l, .inl (c.f x)⟩
theorem Nl.nm {i : Nat} {x : Str} (h : Nl X i x) (d : (x == ("__debug__" : Str)) = false := by rfl) (c : (x == ("__classdict__" : Str)) = false := by rfl) : Nm X i x := ⟨h.n, h.l.elim .inl fun z => .inr (.inl z), d, c⟩
theorem Sc.gl {N : List Str} {sc : Scope} (c : Sc X N sc) {x : Str} (h : sc.names.lookup x = some .globalImplicit) : Gl X x := by
  show X.env.scope.names.lookup x = _
  rw [c.s]
  exact h
theorem Sc.bi {N : List Str} {sc : Scope} (c : Sc X N sc) {x : Str} {u : Value} (h : sc.names.lookup x = some .globalImplicit) (m : X.mg x = none) (b : bootBuiltins x = some u := by rfl) (n : x ≠ ("__name__" : Str) := by decide) (d : (x == ("__debug__" : Str)) = false := by rfl) : Bi X x u :=
  ⟨c.gl h, m, b, n, d⟩
/-- wide products, quotients, powers -/
theorem ev_mulW {i j : Int} (ha : Ev X p1 a ρ ρ1 (.d (.int i))) (hb : Ev X p2 b ρ1 ρ2 (.d (.int j))) (h : CMulW i j) : Ev X (p1 && p2) (.BinOp a .Mult b pos) ρ ρ2 (.d (.int (i * j))) := ev_bin op_mulW ha hb (.inr rfl) (sm_int h fun _ => .int _)
theorem ev_fdivW {i j : Int} (ha : Ev X p1 a ρ ρ1 (.d (.int i))) (hb : Ev X p2 b ρ1 ρ2 (.d (.int j))) (h : CDivW i j) : Ev X (p1 && p2) (.BinOp a .FloorDiv b pos) ρ ρ2 (.d (.int (i / j))) := ev_bin op_fdivW ha hb (.inr rfl) (sm_int h fun _ => .int _)
def CPowW (i j : Int) : Prop := 0 ≤ j ∧ (Builtin.Int.intBits i : Int) * j ≤ 2 ^ 27
theorem op_powW : OpR X (binaryOp .Pow) (rI CPowW fun i j => .int (i ^ j.toNat)) := opI fun _ _ _ _ _ _ _ hc q => pow_int hc.1 hc.2 q
theorem ev_powW {i j : Int} (ha : Ev X p1 a ρ ρ1 (.d (.int i))) (hb : Ev X p2 b ρ1 ρ2 (.d (.int j))) (h : CPowW i j) : Ev X (p1 && p2) (.BinOp a .Pow b pos) ρ ρ2 (.d (.int (i ^ j.toNat))) := ev_bin op_powW ha hb (.inr rfl) (sm_int h fun _ => .int _)
/-- parsEq, slot by slot -/
theorem pq_nil {outs : List SV} : parsEq outs [] := fun i ds e => by cases e
theorem pq_par {outs : List SV} {ds es : List D} (e : es = ds) (h : parsEq outs ρ) : parsEq (.par ds :: outs) (.par es :: ρ) := fun i fs q => by
  cases i with
  | zero =>
    rw [e] at q
    exact q
  | succ i => exact h i fs q
theorem pq_skip {o s : SV} {outs : List SV} (hs : s.isPar = false) (h : parsEq outs ρ) : parsEq (o :: outs) (s :: ρ) := fun i fs q => by
  cases i with
  | zero =>
    cases q
    cases hs
  | succ i => exact h i fs q
theorem pq_out {s : SV} (hs : s.isPar = false) (h : parsEq [] ρ) : parsEq [] (s :: ρ) := fun i fs q => by
  cases i with
  | zero =>
    cases q
    cases hs
  | succ i => exact h i fs q
theorem rr_d {d : D} {r : Rs} (h : r = .d d) : RetRel ρ (.d d) r := h
theorem rr_lo {l : L} {r : Rs} (h : r = .lo l) : RetRel ρ (.lo l) r := h
theorem rr_at {i : Nat} {ds : List D} {r : Rs} (h : ρ[i]? = some (.lo (.own ds))) (q : r = .lo (.own ds)) : RetRel ρ (.at_ i ds) r := ⟨h, q⟩
end
end Mw

set_option Elab.async false
set_option linter.all false
set_option maxRecDepth 100000
set_option maxHeartbeats 4000000
/-! Mw11: defs by name, their calls -/
namespace Mw
open PySem PySem.Spec PyProof.Rows L2
/-- the frame of a body that may call -/
structure En (X : Cx) (k : Nat) : Prop where
  gd : X.A.guards = some []
  rm : Room k X.A
  calm : X.calm = true
  po : PassesOwn (model X.prog X.w) X.A X.env X.xe
theorem En.un {X : Cx} {k : Nat} (h : En X k) : X.A.units + 64 < cLine := by
  have := h.rm.un
  omega
abbrev ClX (X : Cx) (k : Nat) (x : Str) (n : Nat) (ks : List Str) (gV : List V → List V → List V) (sp : Sp) : Prop := Cl X.prog X.w X.K X.mg X.base k x n ks gV sp
abbrev idV : List V → List V → List V := fun vs _ => vs
section
variable {P : Program} {w : World} {K : PySem.W.Frag} {mg : Str → Option Value} {base : Heap} {k : Nat} {x qual : Str} {params : Arguments} {body : List Stmt} {scope : Scope} {dvs : List V} {kws : List (Str × V)} {f : Addr} {fd : FuncData} {ps : List Str} {sp : Sp}
theorem Cl.up {j n : Nat} {ks : List Str} {gV : List V → List V → List V} (C : Cl P w K mg base j x n ks gV sp) (h : j ≤ k) : Cl P w K mg base k x n ks gV sp := by
  obtain ⟨f, fd, ps, g, F, r⟩ := C.ex
  exact ⟨f, fd, ps, g, F.up h, r⟩
/-- a def without defaults, all by position -/
theorem cl_of (F : FunD K x qual params body scope [] kws f fd) (ok : FnG P w K mg base CX0 k f fd ps sp) (hm : mg x = some (.ref f))
    (h : ∀ (kV doc pm : Value) (an : Option Addr) (cdv ct : Value) (us : List Value), us.length = ps.length → bindArgs (PySem.W.fnOf x qual params body scope .none kV doc pm an cdv ct) ⟨us, []⟩ = pure (ps.zip us)) : Cl P w K mg base k x ps.length [] idV sp :=
  ⟨f, fd, ps, fun us _ => us, ok, hm, F.kp, ⟨fun s us ws X l1 l2 => by
    obtain ⟨oc, od, dV, kV, doc, pm, an, cdv, ct, osl, rfl, lk, hcd, hD, hK⟩ := F.ex
    rcases hD with ⟨_, rfl⟩ | ⟨e, _⟩
    · exact .of_eq (h kV doc pm an cdv ct us l1)
    · exact absurd rfl e, fun r _ => r⟩⟩
/-- .. by keywords, nothing left to a default -/
theorem cl_kw (F : FunD K x qual params body scope [] kws f fd) (ok : FnG P w K mg base CX0 k f fd ps sp) (hm : mg x = some (.ref f)) (n : Nat) (ks : List Str) (g : {α : Type} → List α → List α → List α)
    (hrel : ∀ {vs zs : List V} {us ws : List Value}, Vals vs us → Vals zs ws → Vals (g vs zs) (g us ws))
    (h : ∀ (kV doc pm : Value) (an : Option Addr) (cdv ct : Value) (us ws : List Value), us.length = n → ws.length = ks.length → bindArgs (PySem.W.fnOf x qual params body scope .none kV doc pm an cdv ct) ⟨us, ks.zip ws⟩ = pure (ps.zip (g us ws))) : Cl P w K mg base k x n ks (fun vs zs => g vs zs) sp :=
  ⟨f, fd, ps, fun us ws => g us ws, ok, hm, F.kp, ⟨fun s us ws X l1 l2 => by
    obtain ⟨oc, od, dV, kV, doc, pm, an, cdv, ct, osl, rfl, lk, hcd, hD, hK⟩ := F.ex
    rcases hD with ⟨_, rfl⟩ | ⟨e, _⟩
    · exact .of_eq (h kV doc pm an cdv ct us ws l1 l2)
    · exact absurd rfl e, fun r1 r2 => hrel r1 r2⟩⟩
/-- .. the keyword-only ones of ms left to their defaults -/
theorem cl_kd (F : FunD K x qual params body scope [] kws f fd) (ok : FnG P w K mg base CX0 k f fd ps sp) (hm : mg x = some (.ref f)) (n : Nat) (ks : List Str) (ms : List (Str × V)) (g : {α : Type} → List α → List α → List α → List α) (hk : kws ≠ []) (hms : ∀ q ∈ ms, q ∈ kws)
    (hrel : ∀ {vs mz zs : List V} {us mv ws : List Value}, Vals vs us → Vals mz mv → Vals zs ws → Vals (g vs mz zs) (g us mv ws))
    (h : ∀ (D : Addr) (doc pm : Value) (an : Option Addr) (cdv ct : Value) (us mv ws : List Value), us.length = n → mv.length = ms.length → ws.length = ks.length →
      KwChain D ((ms.map (·.1)).zip mv) (bindArgs (PySem.W.fnOf x qual params body scope .none (.ref D) doc pm an cdv ct) ⟨us, ks.zip ws⟩) (ps.zip (g us mv ws))) : Cl P w K mg base k x n ks (fun vs zs => g vs (ms.map (·.2)) zs) sp := by
  obtain ⟨mv, hb⟩ := F.kbinds0 n ks ms g hk hms hrel h
  exact ⟨f, fd, ps, _, ok, hm, F.kp, hb⟩
end
section
variable {X : Cx} {pu p1 p2 p3 : Bool} {e a b c it tg elt : Expr} {es ifs : List Expr} {rest st : List Stmt} {ρ ρ' ρ1 ρ2 ρ3 : List SV} {r z : Rs} {rs rs2 : List Rs} {p pos : Pos} {E : AE} {k n : Nat} {x : Str} {kws : List Keyword} {α : Type} {pre : α → Prop} {ins outs : α → List SV} {rr : α → Rs} {ds ds2 ds3 es' es2 : List D}
/-- f(e, ..), all frozen -/
theorem ev_go (C : ClX X k x n [] idV (spF pre ins outs rr)) (en : En X k) (g : Gl X x) (q : α) (ha : EvA X p1 (e :: es) ρ ρ1 rs) (hd : allD rs = some ds) (l1 : rs.length = n) (hp : pre q) (hi : ins q = ds.map SV.d)
    (hdb : (x == ("__debug__" : Str)) = false) (he : starEach (e :: es) X.env = (false, eval e X.env) :: starEach es X.env) (hpl : (backTo pos (starEach es X.env)).any (·.1) = false) : Ev X p1 (.Call (.Name x p) (e :: es) [] pos) ρ ρ1 (rr q) := by
  have h := go_pure (pe_go C en.gd en.rm g (pa_sem (X := X) (es := e :: es)) hdb he hpl (p := p)) ha ekt_nil hd rfl l1 rfl q hp hi fun F vs zs r _ => r
  rw [Bool.and_true] at h
  exact h
/-- f(xs, e, ..), xs a list of one's own, the others frozen -/
theorem ev_goP {i : Nat} (C : ClX X k x n [] idV (spF pre ins outs rr)) (en : En X k) (g : Gl X x) (q : α) (ha : EvA X true (e :: es) ρ ρ (.at_ i es' :: rs)) (hd : allD rs = some ds) (l1 : rs.length + 1 = n) (hp : pre q) (hi : ins q = .par es' :: ds.map SV.d) (ho : (outs q)[0]? = some (.par es2))
    (hdb : (x == ("__debug__" : Str)) = false) (he : starEach (e :: es) X.env = (false, eval e X.env) :: starEach es X.env) (hpl : (backTo pos (starEach es X.env)).any (·.1) = false) : Ev X false (.Call (.Name x p) (e :: es) [] pos) ρ (newAt ρ i es2) (rr q) := by
  exact go_par (fun σ H Q _ _ _ _ t => ⟨_, pe_go C en.gd en.rm g (pa_sem (X := X) (es := e :: es)) hdb he hpl (p := p), t⟩) ha ekt_nil hd rfl l1 rfl q hp hi ho fun F a vs zs r _ => ⟨vs, rfl, r⟩
/-- a def as a value -/
structure ClF (P : Program) (w : World) (K : PySem.W.Frag) (mg : Str → Option Value) (base : Heap) (k : Nat) (f : Addr) (n : Nat) (sp : Sp) : Prop where
  ex : ∃ fd ps, FnG P w K mg base CX0 k f fd ps sp ∧ PySem.W.keepIn K (.ref f) = true ∧ KBn K fd ps n [] (fun us _ => us) idV
/-- g(xs, e, ..), g a local name that holds a def -/
theorem ev_goL {i j : Nat} {f : Addr} (C : ClF X.prog X.w X.K X.mg X.base k f n (spF pre ins outs rr)) (en : En X k) (N : Nm X j x) (hf : ρ[j]? = some (.d (.ref f))) (q : α) (ha : EvA X true (e :: es) ρ ρ (.at_ i es' :: rs)) (hd : allD rs = some ds) (l1 : rs.length + 1 = n) (hp : pre q) (hi : ins q = .par es' :: ds.map SV.d) (ho : (outs q)[0]? = some (.par es2))
    (he : starEach (e :: es) X.env = (false, eval e X.env) :: starEach es X.env) (hpl : (backTo pos (starEach es X.env)).any (·.1) = false) : Ev X false (.Call (.Name x p) (e :: es) [] pos) ρ (newAt ρ i es2) (rr q) := by
  obtain ⟨fd, ps, F, hk, hb⟩ := C.ex
  have hpe : PE X (.Call (.Name x p) (e :: es) [] pos) (fun σ H Q => σ[j]? = some (some (.ref f)) ∧ tGo (spF pre ins outs rr) idV n 0 (semA X (e :: es)) tNil σ H Q) := by
    refine ⟨fun pins s σ H Q I h => ?_⟩
    obtain ⟨hs, ht⟩ := h
    refine wpAny_Call_Name_kw (thn ((pe_var (pos := p) N.n N.v N.d N.c).run pins s σ H (fun v H1 => v = .ref f ∧ H1 = H) I ⟨.ref f, hs, rfl, rfl⟩) fun u s1 ⟨v, H1, I1, r1, q1⟩ => ?_)
    obtain ⟨rfl, rfl⟩ := q1
    cases r1
    refine PySem.W.callWith_K (h₀ := X.base) I.ok.mod.kin hk (thn ((pa_sem (X := X) (es := e :: es)).run pos pins s1 σ _ _ I1 ht) ?_) he hpl
    rintro us s2 ⟨vs, H2, I2, r, l1, -, q⟩
    exact ⟨I2.kIn, run_g (ws := []) (zs := []) F en.gd en.rm hb pass0 I2 r .nil (r.length.symm.trans l1) rfl q⟩
  exact go_par (fun σ H Q B ow F A t => ⟨_, hpe, by
    obtain ⟨v, e, r⟩ := A.d hf
    rw [e, rep_ref r], t⟩) ha ekt_nil hd rfl l1 rfl q hp hi ho fun F a vs zs r _ => ⟨vs, rfl, r⟩
/-- f(e, .., k = d, ..), all frozen -/
theorem ev_goK {ks : List Str} {gV : List V → List V → List V} (C : ClX X k x n ks gV (spF pre ins outs rr)) (en : En X k) (g : Gl X x) (q : α) (ha : EvA X p1 (e :: es) ρ ρ1 rs) (hk : EvK X p2 kws ρ1 ρ2 rs2) (hd : allD rs = some ds) (hd2 : allD rs2 = some ds2) (l1 : rs.length = n) (l2 : rs2.length = ks.length)
    (hp : pre q) (hi : ins q = ds3.map SV.d) (hv : ∀ F vs zs, RepL F vs ds → RepL F zs ds2 → RepL F (gV vs zs) ds3)
    (hdb : (x == ("__debug__" : Str)) = false) (he : starEach (e :: es) X.env = (false, eval e X.env) :: starEach es X.env)
    (hall : (backToKw pos (keywordEach kws X.env)).all (·.1.isSome) = true) (hks : (backToKw pos (keywordEach kws X.env)).filterMap (·.1) = ks) (hpl : ((backTo pos (starEach (e :: es) X.env)).any (·.1) || (backToKw pos (keywordEach kws X.env)).any (·.1.isNone)) = false) : Ev X (p1 && p2) (.Call (.Name x p) (e :: es) kws pos) ρ ρ2 (rr q) :=
  go_pure (pe_goKW C en.gd en.rm g (pa_sem (X := X) (es := e :: es)) pk_sem hdb he hall hks hpl (p := p)) ha hk hd hd2 l1 l2 q hp hi hv
/-- f(k = d, ..) -/
theorem ev_goK0 {ks : List Str} {gV : List V → List V → List V} (C : ClX X k x 0 ks gV (spF pre ins outs rr)) (en : En X k) (g : Gl X x) (q : α) (hk : EvK X p2 kws ρ ρ2 rs2) (hd2 : allD rs2 = some ds2) (l2 : rs2.length = ks.length)
    (hp : pre q) (hi : ins q = ds3.map SV.d) (hv : ∀ F zs, RepL F zs ds2 → RepL F (gV [] zs) ds3)
    (hdb : (x == ("__debug__" : Str)) = false)
    (hall : (backToKw pos (keywordEach kws X.env)).all (·.1.isSome) = true) (hks : (backToKw pos (keywordEach kws X.env)).filterMap (·.1) = ks) (hpl : ((backTo pos (starEach [] X.env)).any (·.1) || (backToKw pos (keywordEach kws X.env)).any (·.1.isNone)) = false) : Ev X p2 (.Call (.Name x p) [] kws pos) ρ ρ2 (rr q) :=
  go_pure (ds := []) (pe_goKW0 C en.gd en.rm g pk_sem hdb hall hks hpl (p := p)) ekt_nil hk rfl hd2 rfl l2 q hp hi fun F vs zs r1 r2 => by
    cases r1
    exact hv F zs r2
end
end Mw

set_option Elab.async false
set_option linter.all false
set_option maxRecDepth 100000
set_option maxHeartbeats 4000000
/-! Mw12: picks and the like -/
namespace Mw
open PySem PySem.Spec PyProof.Rows L2
theorem len_ite_le {α : Type} {c : Prop} [Decidable c] {a b : List α} : (if c then a else b).length ≤ a.length + b.length := by
  split <;> omega
theorem b2n_01 (b : Bool) : 0 ≤ b2n b ∧ b2n b ≤ 1 := by cases b <;> decide
section
variable {X : Cx} {pu p1 p2 p3 : Bool} {e a b c it tg elt : Expr} {es ifs : List Expr} {rest st : List Stmt} {ρ ρ' ρ1 ρ2 ρ3 : List SV} {r x y z : Rs} {rs rs2 : List Rs} {p pos : Pos} {E : AE} {k n : Nat} {ds : List D} {q : Pos}
theorem Ev.cast {r' : Rs} (h : Ev X pu e ρ ρ' r) (q : r = r') : Ev X pu e ρ ρ' r' := q ▸ h
/-- xs[i], i known by its bounds -/
theorem ev_pickD {j : Int} (ha : Ev X p1 a ρ ρ1 x) (hb : Ev X p2 b ρ1 ρ2 (.d (.int j))) (pk : Pk p2 x) (cx : Cv x (.li ds)) (hj : 0 ≤ j ∧ j < ds.length) (hs : PlainIx b) : Ev X (p1 && p2) (.Subscript a b pos) ρ ρ2 (.d (ds.getD j.toNat .non)) := by
  have h1 : j.toNat < ds.length := by omega
  refine ev_ixL ha hb pk cx (k := j.toNat) ?_ ?_ hs
  · unfold ixN
    rw [if_pos hj.1, if_pos hj.2]
  · rw [List.getD_eq_getElem?_getD, List.getElem?_eq_getElem h1]
    rfl
/-- [i, j][int(w)] -/
theorem ev_pick {w : Bool} {i j : Int} (ha : Ev X p1 a ρ ρ1 x) (hb : Ev X p2 b ρ1 ρ2 (.d (.int (b2n w)))) (pk : Pk p2 x) (cx : Cv x (.li [.int i, .int j])) (hs : PlainIx b) : Ev X (p1 && p2) (.Subscript a b pos) ρ ρ2 (.d (.int (if w = true then j else i))) := by
  cases w
  · exact ev_ixL ha hb pk cx (k := 0) rfl rfl hs
  · exact ev_ixL ha hb pk cx (k := 1) rfl rfl hs
/-- xs * int(w) -/
theorem ev_repB {w : Bool} (ha : Ev X p1 a ρ ρ1 x) (hb : Ev X p2 b ρ1 ρ2 (.d (.int (b2n w)))) (pk : Pk p2 x) (cx : Cv x (.li ds)) (hl : ds.length ≤ 16000000) : Ev X (p1 && p2) (.BinOp a .Mult b pos) ρ ρ2 (.lo (.own (if w = true then ds else []))) := by
  have h0 := b2n_01 w
  have h := ev_rep (pos := pos) ha hb pk cx (by omega) (by omega) (by
    have : (b2n w).toNat ≤ 1 := by omega
    exact Nat.le_trans (Nat.mul_le_mul_left _ this) (by omega))
  cases w
  · exact h
  · have e : (List.replicate (b2n true).toNat ds).flatten = ds := by
      show ds ++ [] = ds
      rw [List.append_nil]
    rw [e] at h
    exact h
theorem ev_andF {k : Bool} (h1 : Ev X p1 a ρ ρ1 (.d (.bl k))) (hk : k = false) : Ev X false (.BoolOp .And (a :: b :: es) pos) ρ ρ1 (.d (.bl false)) := by
  subst hk
  exact ev_andX (p2 := true) (m := false) (ρ2 := ρ1) h1 (fun z => by cases z)
theorem ev_andT {k m : Bool} (h1 : Ev X p1 a ρ ρ1 (.d (.bl k))) (hk : k = true) (h2 : Ev X p2 (.BoolOp .And (b :: es) pos) ρ1 ρ2 (.d (.bl m))) : Ev X false (.BoolOp .And (a :: b :: es) pos) ρ ρ2 (.d (.bl m)) := by
  subst hk
  exact (ev_andX h1 fun _ => h2).cast (by rw [Bool.true_and])
/-! ### loops by states -/
theorem wk_eq {s t : SV} (q : s = t) (h : wkB ρ ρ') : wkB (s :: ρ) (t :: ρ') := ⟨.inl q.symm, h⟩
theorem Ab.wk {B : Bs} {ow : Ow} {σ : L2.St} {H F : Hp} (A : Ab B ρ ow σ H F) (w : Wk ρ ρ') : ∃ ow', Ab B ρ' ow' σ H F := ⟨_, A.weak w.1 w.2.1 w.2.2⟩
theorem TgA.wk {d : D} (h : TgA X tg ρ' d ρ2) (w : Wk ρ ρ') : TgA X tg ρ d ρ2 := fun B ow σ H F v A r Q q => h B _ σ H F v (A.weak w.1 w.2.1 w.2.2) r Q q
theorem sx_forW {items : List D} (en : En X k) (hi : EvI X pu tg it ρ ρ1 items) (g : Nat → List SV) (h0 : Wk ρ1 (g 0))
    (hs : ∀ i d, items[i]? = some d → ∃ ρ3, TgA X tg (g i) d ρ3 ∧ SX X st ρ3 { nx := fun ρ' => Wk ρ' (g (i + 1)), ct := fun ρ' => Wk ρ' (g (i + 1)), bk := fun ρ' => SX X rest ρ' E, rt := E.rt })
    (hd : SX X rest (g items.length) E) (hfs : ∀ x, foldedSetIterable it X.env x = pure x) : SX X (.For tg it st [] pos :: rest) ρ E :=
  sx_for en.po en.calm hi (fun i ρ' => Wk ρ' (g i)) h0 (fun i d ρ2 e w => by
    obtain ⟨ρ3, t, s⟩ := hs i d e
    exact ⟨ρ3, t.wk w, s⟩) (fun ρ2 w => sx_wk w hd) hfs
theorem sx_forR {n : Int} (en : En X k) (gl : Gl X "range") (mg : X.mg "range" = none) (he : Ev X pu e ρ ρ1 (.d (.int n))) (hn : n < 2 ^ 40 ∧ -(2 ^ 40) < n) (g : Nat → List SV) (h0 : Wk ρ1 (g 0))
    (hs : ∀ i : Nat, (i : Int) < n → ∃ ρ3, TgA X tg (g i) (.int (i : Int)) ρ3 ∧ SX X st ρ3 { nx := fun ρ' => Wk ρ' (g (i + 1)), ct := fun ρ' => Wk ρ' (g (i + 1)), bk := fun ρ' => SX X rest ρ' E, rt := E.rt })
    (hd : SX X rest (g n.toNat) E) (hs1 : starEach [e] X.env = [(false, eval e X.env)]) (hfs : ∀ x, foldedSetIterable (.Call (.Name "range" p) [e] [] q) X.env x = pure x) : SX X (.For tg (.Call (.Name "range" p) [e] [] q) st [] pos :: rest) ρ E := by
  refine sx_forW en (ei_range1 gl mg he (by omega) hs1) g h0 (fun i d hd => ?_) ?_ hfs
  · rw [List.getElem?_map] at hd
    by_cases hi : i < n.toNat
    · rw [List.getElem?_range hi] at hd
      cases hd
      exact hs i (by omega)
    · rw [List.getElem?_eq_none (by rw [List.length_range]; omega)] at hd
      cases hd
  · rw [List.length_map, List.length_range]
    exact hd
theorem sx_whileW {α : Type} (en : En X k) (g : α → List SV) (μ : α → Nat) (a0 : α) (h0 : Wk ρ (g a0)) (I : α → Prop) (i0 : I a0)
    (hs : ∀ a, I a → ∃ (k : Bool) (pu : Bool), EvT X pu e (g a) (g a) k ∧ (k = true → SX X st (g a) { nx := fun ρ' => ∃ a', μ a' < μ a ∧ I a' ∧ Wk ρ' (g a'), ct := fun ρ' => ∃ a', μ a' < μ a ∧ I a' ∧ Wk ρ' (g a'), bk := fun ρ' => SX X rest ρ' E, rt := E.rt }) ∧ (k = false → SX X rest (g a) E)) :
    SX X (.While e st [] pos :: rest) ρ E :=
  fun B ow σ H F A D q => by
  refine ⟨_, pss_cons (ps_while en.po pt_sem pss_sem) pss_sem, ?_⟩
  obtain ⟨ow0, A0⟩ := A.wk h0
  refine ⟨fun m σ' H' => ∃ a ow' F', m = μ a ∧ Ab B (g a) ow' σ' H' F' ∧ Same F F' ∧ I a, ⟨_, a0, ow0, F, rfl, A0, Same.refl _, i0⟩, ?_⟩
  rintro m σ' H' ⟨a, ow', F', rfl, A', fs, w⟩
  obtain ⟨k, pu, ht, h1, h2⟩ := hs a w
  refine ht B ow' σ' H' F' A' _ fun H2 F2 P2 => ?_
  have f2 := fs.trans P2.f
  have again : ∀ ρ4 ow4 σ4 H4 F4, Ab B ρ4 ow4 σ4 H4 F4 → Same F2 F4 → (∃ a', μ a' < μ a ∧ I a' ∧ Wk ρ4 (g a')) → ∃ a' ow3 F3, μ a' < μ a ∧ Ab B (g a') ow3 σ4 H4 F3 ∧ Same F F3 ∧ I a' := fun ρ4 ow4 σ4 H4 F4 A4 f4 ⟨a', l, i4, w4⟩ => by
    obtain ⟨ow5, A5⟩ := A4.wk w4
    exact ⟨a', ow5, F4, l, A5, f2.trans f4, i4⟩
  cases k with
  | true =>
    refine ⟨fun σ3 H3 => ∃ a' ow3 F3, μ a' < μ a ∧ Ab B (g a') ow3 σ3 H3 F3 ∧ Same F F3 ∧ I a', fun σ3 H3 ⟨a', ow3, F3, l, A3, f3, w3⟩ => ⟨_, l, a', ow3, F3, rfl, A3, f3, w3⟩, ?_⟩
    refine h1 rfl B ow' σ' H2 F2 P2.ab _ ⟨again, fun ρ4 ow4 σ4 H4 F4 A4 f4 w4 => ?_, again, fun ρ4 ow4 σ4 H4 F4 r v A4 f4 k4 w4 => q.rt ρ4 ow4 σ4 H4 F4 r v A4 (f2.trans f4) k4 w4⟩
    exact w4 B ow4 σ4 H4 F4 A4 D (q.mono (f2.trans f4))
  | false => exact h2 rfl B ow' σ' H2 F2 P2.ab D (q.mono f2)
/-- a state seen otherwise -/
theorem sx_as (h : SX X st ρ' E) (e : ρ = ρ') : SX X st ρ E := e ▸ h
end
/-- so many times -/
def itr {α : Type} (f : α → α) : Nat → α → α
  | 0, x => x
  | n + 1, x => f (itr f n x)
theorem itr_ind {α : Type} {f : α → α} {C : Nat → α → Prop} {x : α} (h0 : C 0 x) (hs : ∀ n y, C n y → C (n + 1) (f y)) : ∀ n, C n (itr f n x)
  | 0 => h0
  | n + 1 => hs n _ (itr_ind h0 hs n)
end Mw
namespace Mw
open PySem PySem.Spec PyProof.Rows L2
theorem en_of {P : Program} {w : World} {K : PySem.W.Frag} {mg : Str → Option Value} {base : Heap} {N : List Str} {qual : Str} {scope : Scope} {f : Addr} {cd : Value} {A : Around} {outer : List Env} {s : Shared} {H : Hp} {E : XK} {k : Nat} (hg : A.guards = some []) (hr : Room k (A.deeper (envOfC qual scope s.heap.objs.size f cd))) :
    En (cxOf CX0 P w K mg base N qual scope f cd A outer s H E) k where
  gd := hg
  rm := hr
  calm := rfl
  po := PassesOwn.leaving
end Mw
namespace Mw
open PySem PySem.Spec PyProof.Rows L2
section
variable {X : Cx} {pu p1 p2 p3 : Bool} {e a b c it tg elt : Expr} {es ifs : List Expr} {rest st : List Stmt} {ρ ρ' ρ1 ρ2 ρ3 : List SV} {r x y z : Rs} {rs rs2 : List Rs} {p pos apos cpos : Pos} {E : AE} {k n : Nat} {ds : List D} {q : Pos}
/-- xs.append(e), a statement -/
theorem sx_append {i : Nat} {nm : Str} {d : D} (N : Nm X i nm) (h : IsOwn ρ i ds) (he : Ev X pu e ρ ρ1 (.d d)) (h1 : IsOwn ρ1 i ds) (hl : ds.length ≤ 1000000) (k : SX X rest (newAt ρ1 i (ds ++ [d])) E)
    (hbase : attributeBase (.Name nm p) "append" X.env (eval (.Name nm p) X.env) = eval (.Name nm p) X.env)
    (hfew : ((backTo cpos (starEach [e] X.env)).all (fun x => !x.1) && (backToKw cpos (keywordEach [] X.env)).all (fun x => x.1.isSome)
      && decide ([e].length + ([] : List Keyword).length + (if ([] : List Keyword).isEmpty then 0 else 1) < 30)) = true)
    (hline : (apos.endLine == cpos.line) = true) (hs : starEach [e] X.env = [(false, eval e X.env)]) (hplain : (backTo cpos (starEach [] X.env)).any (·.1) = false) (hw : swapsWith (.Call (.Attribute (.Name nm p) "append" apos) [e] [] cpos) none pos.line X.env = pure false) :
    SX X (.Expr (.Call (.Attribute (.Name nm p) "append" apos) [e] [] cpos) pos :: rest) ρ E :=
  sx_expr (ev_append (pe_bm PySem.F.plainAttrs_list PySem.F.slot_list_append PySem.F.type_list_append mt_append (pe_var N.n N.v N.d N.c) (pa_cons pe_sem pa_nil hs) hbase hfew hline hs hplain) h he h1 hl) k hw
end
end Mw
namespace Mw
open PySem PySem.Spec PyProof.Rows L2
section
variable {X : Cx} {pu p1 p2 p3 : Bool} {e a b c it tg elt : Expr} {es ifs : List Expr} {rest st : List Stmt} {ρ ρ' ρ1 ρ2 ρ3 : List SV} {r x y z : Rs} {rs rs2 : List Rs} {p pos apos cpos : Pos} {E : AE} {k n : Nat} {ds : List D} {q : Pos}
/-- the right operand draws, the left one is a list of one's own that stays -/
theorem bin_coreA {r2 : R2} {f : Expr} {i : Nat} (hp : PE X f (tOp r2 (semE X a) (semE X b))) (ha : Ev X p1 a ρ ρ1 (.at_ i ds)) (hb : Ev X p2 b ρ1 ρ2 y) (ho : IsOwn ρ2 i ds) (sm : Sem2 X r2 (.at_ i ds) y z) : Ev X (p1 && p2) f ρ ρ2 z := fun B ow σ H F A Q q => by
  refine ⟨_, hp, ?_⟩
  refine ha B ow σ H F A _ fun v H1 F1 P1 k1 => hb B ow σ H1 F1 P1.ab _ fun w H2 F2 P2 k2 => ?_
  have k3 : RsOk ρ2 σ H H2 F2 (.at_ i ds) v := ⟨k1.1, ho⟩
  refine sm B ρ2 ow σ H H2 F2 v w P2.ab k3 (k2.start P1.dom) _ fun u H3 F3 g3 k3 => ?_
  refine q u H3 F3 ((P1.trans (P2.trans (Ps.pure (pu := true) P2.ab g3))).as fun h => ?_) (k3.start (P1.trans P2).dom)
  rw [Bool.and_true]
  exact h
theorem ev_catA {i : Nat} {ys : List D} (ha : Ev X p1 a ρ ρ1 (.at_ i ds)) (hb : Ev X p2 b ρ1 ρ2 y) (ho : IsOwn ρ2 i ds) (cy : Cv y (.li ys)) (hl : ds.length + ys.length ≤ 16000000) : Ev X (p1 && p2) (.BinOp a .Add b pos) ρ ρ2 (.lo (.own (ds ++ ys))) :=
  bin_coreA (pe_op op_cat pe_sem pe_sem) ha hb ho (sm_cat cv_at cy hl)
end
end Mw
namespace Mw
open PySem PySem.Spec PyProof.Rows L2
theorem cut_take {xs : List D} {j : Int} (h : 0 ≤ j) : cutD xs none (some j) = xs.take j.toNat := by
  unfold cutD
  rw [show HT.sIx xs.length 0 none = 0 from rfl, show HT.sIx xs.length xs.length (some j) = min j.toNat xs.length from if_neg (by omega), List.drop_zero, Nat.sub_zero]
  by_cases h2 : j.toNat ≤ xs.length
  · rw [Nat.min_eq_left h2]
  · rw [Nat.min_eq_right (by omega), List.take_of_length_le (Nat.le_refl _), List.take_of_length_le (by omega)]
theorem cut_drop {xs : List D} {j : Int} (h : 0 ≤ j) : cutD xs (some j) none = xs.drop j.toNat := by
  unfold cutD
  rw [show HT.sIx xs.length xs.length none = xs.length from rfl, show HT.sIx xs.length 0 (some j) = min j.toNat xs.length from if_neg (by omega)]
  by_cases h2 : j.toNat ≤ xs.length
  · rw [Nat.min_eq_left h2, List.take_of_length_le (by rw [List.length_drop]; omega)]
  · rw [Nat.min_eq_right (by omega), Nat.sub_self, List.take_zero, List.drop_of_length_le (by omega)]
section
variable {X : Cx} {pu p1 p2 p3 : Bool} {e a b c it tg elt : Expr} {es ifs : List Expr} {rest st : List Stmt} {ρ ρ' ρ1 ρ2 ρ3 : List SV} {r x y z : Rs} {rs rs2 : List Rs} {p pos apos cpos : Pos} {E : AE} {k n : Nat} {ds : List D} {q : Pos}
theorem ev_sliceT {j : Int} {q2 : Pos} (ha : Ev X p1 a ρ ρ x) (cx : Cv x (.li ds)) (hb : Ev X true b ρ ρ (.d (.int j))) (h0 : 0 ≤ j) : Ev X p1 (.Subscript a (.Slice none (some b) none q2) pos) ρ ρ (.lo (.own (ds.take j.toNat))) :=
  (ev_slice ha cx eo_none (eo_some hb) rfl rfl).cast (by rw [cut_take h0])
theorem ev_sliceD {j : Int} {q2 : Pos} (ha : Ev X p1 a ρ ρ x) (cx : Cv x (.li ds)) (hb : Ev X true b ρ ρ (.d (.int j))) (h0 : 0 ≤ j) : Ev X p1 (.Subscript a (.Slice (some b) none none q2) pos) ρ ρ (.lo (.own (ds.drop j.toNat))) :=
  (ev_slice ha cx (eo_some hb) eo_none rfl rfl).cast (by rw [cut_drop h0])
end
end Mw

set_option Elab.async false
set_option linter.all false
set_option maxRecDepth 100000
set_option maxHeartbeats 4000000
/-! Mw13: isinstance -/
namespace Mw
open PySem PySem.Spec PyProof.Rows L2
def D.tyS : D → Option String
  | .non => some "NoneType"
  | .bl _ => some "bool"
  | .int _ => some "int"
  | .str _ => some "str"
  | .lst _ => some "list"
  | .tup _ => some "tuple"
  | .dic _ => some "dict"
  | _ => none
section
variable {X : Cx} {pu p1 p2 p3 : Bool} {e a b c it tg elt : Expr} {es ifs : List Expr} {rest st : List Stmt} {ρ ρ' ρ1 ρ2 ρ3 : List SV} {r x y z : Rs} {rs rs2 : List Rs} {p pos apos cpos : Pos} {E : AE} {k n : Nat} {ds : List D} {q : Pos}
theorem rep_ty {K : PySem.W.Frag} {F H : Hp} {v : V} {d : D} {t : String} (h : Rep F v d) (s : Same F H) (e : d.tyS = some t) : TyX K H v (.type t) := by
  cases h with
  | non => cases e; exact .base .non
  | bl b => cases e; exact .base (.bl _)
  | int i => cases e; exact .base (.int _)
  | str x => cases e; exact .base (.str _)
  | lst h1 h2 => cases e; exact .base (.lst (s _ _ h1))
  | tup h1 h2 => cases e; exact .base (.tup (s _ _ h1))
  | dic h1 h2 => cases e; exact .base (.dK (s _ _ h1))
  | ref => cases e
  | scr => cases e
theorem ev_isi {nm : Str} {d : D} {t T : String} {w : Bool} (N : Bi X "isinstance" (.builtin "isinstance")) (NT : Bi X nm (.type T)) (ha : Ev X pu e ρ ρ' (.d d)) (ht : d.tyS = some t) (hk : kitB t T = some w)
    (he : starEach [e, .Name nm q] X.env = (false, eval e X.env) :: starEach [.Name nm q] X.env) (hs : starEach [.Name nm q] X.env = [(false, eval (.Name nm q) X.env)]) (hpl : (backTo pos (starEach [.Name nm q] X.env)).any (·.1) = false) :
    Ev X pu (.Call (.Name "isinstance" p) [e, .Name nm q] [] pos) ρ ρ' (.d (.bl w)) := fun B ow σ H F A Q qq => by
  refine ⟨_, pe_callB call_isi N.g N.m N.b (pa_cons pe_sem (pa_cons (pe_bltn (v := .ty T) NT.g NT.m NT.b rfl NT.n NT.d) pa_nil hs) he) N.n N.d he hpl, ha B ow σ H F A _ fun v H1 F1 P1 k1 => ?_⟩
  exact ⟨v, .ty T, .type t, .type T, w, rfl, .ty T, rep_ty k1 P1.ab.sub ht, kit_ty hk, qq _ H1 F1 P1 (.bl w)⟩
end
end Mw
namespace Mw
open PySem PySem.Spec PyProof.Rows L2
section
variable {X : Cx} {pu p1 p2 p3 : Bool} {e a b c it tg elt : Expr} {es ifs : List Expr} {rest st : List Stmt} {ρ ρ' ρ1 ρ2 ρ3 : List SV} {r x y z : Rs} {rs rs2 : List Rs} {p pos apos cpos : Pos} {E : AE} {k n : Nat} {ds : List D} {q : Pos}
/-- a number of the module -/
theorem ev_globI {nm : Str} {i : Int} (hg : Gl X nm) (hm : ∃ t, X.mg nm = some (.int i t)) (hd : (nm == ("__debug__" : Str)) = false) : Ev X true (.Name nm pos) ρ ρ (.d (.int i)) := by
  obtain ⟨t, hm⟩ := hm
  exact ev_glob (v := .int i) hg hm ⟨t, rfl⟩ (fun _ => .int i) hd
/-- what is looked at once, with its answer -/
theorem et_as {k k' : Bool} (h : EvT X pu e ρ ρ' k) (q : k = k') : EvT X pu e ρ ρ' k' := q ▸ h
end
end Mw
namespace Mw
open PySem PySem.Spec PyProof.Rows L2
theorem kb_NoneType_int : kitB "NoneType" "int" = some false := by decide +kernel
theorem kb_NoneType_bool : kitB "NoneType" "bool" = some false := by decide +kernel
theorem kb_NoneType_list : kitB "NoneType" "list" = some false := by decide +kernel
theorem kb_NoneType_str : kitB "NoneType" "str" = some false := by decide +kernel
theorem kb_NoneType_dict : kitB "NoneType" "dict" = some false := by decide +kernel
theorem kb_NoneType_tuple : kitB "NoneType" "tuple" = some false := by decide +kernel
theorem kb_bool_int : kitB "bool" "int" = some true := by decide +kernel
theorem kb_bool_bool : kitB "bool" "bool" = some true := by decide +kernel
theorem kb_bool_list : kitB "bool" "list" = some false := by decide +kernel
theorem kb_bool_str : kitB "bool" "str" = some false := by decide +kernel
theorem kb_bool_dict : kitB "bool" "dict" = some false := by decide +kernel
theorem kb_bool_tuple : kitB "bool" "tuple" = some false := by decide +kernel
theorem kb_int_int : kitB "int" "int" = some true := by decide +kernel
theorem kb_int_bool : kitB "int" "bool" = some false := by decide +kernel
theorem kb_int_list : kitB "int" "list" = some false := by decide +kernel
theorem kb_int_str : kitB "int" "str" = some false := by decide +kernel
theorem kb_int_dict : kitB "int" "dict" = some false := by decide +kernel
theorem kb_int_tuple : kitB "int" "tuple" = some false := by decide +kernel
theorem kb_str_int : kitB "str" "int" = some false := by decide +kernel
theorem kb_str_bool : kitB "str" "bool" = some false := by decide +kernel
theorem kb_str_list : kitB "str" "list" = some false := by decide +kernel
theorem kb_str_str : kitB "str" "str" = some true := by decide +kernel
theorem kb_str_dict : kitB "str" "dict" = some false := by decide +kernel
theorem kb_str_tuple : kitB "str" "tuple" = some false := by decide +kernel
theorem kb_list_int : kitB "list" "int" = some false := by decide +kernel
theorem kb_list_bool : kitB "list" "bool" = some false := by decide +kernel
theorem kb_list_list : kitB "list" "list" = some true := by decide +kernel
theorem kb_list_str : kitB "list" "str" = some false := by decide +kernel
theorem kb_list_dict : kitB "list" "dict" = some false := by decide +kernel
theorem kb_list_tuple : kitB "list" "tuple" = some false := by decide +kernel
theorem kb_tuple_int : kitB "tuple" "int" = some false := by decide +kernel
theorem kb_tuple_bool : kitB "tuple" "bool" = some false := by decide +kernel
theorem kb_tuple_list : kitB "tuple" "list" = some false := by decide +kernel
theorem kb_tuple_str : kitB "tuple" "str" = some false := by decide +kernel
theorem kb_tuple_dict : kitB "tuple" "dict" = some false := by decide +kernel
theorem kb_tuple_tuple : kitB "tuple" "tuple" = some true := by decide +kernel
theorem kb_dict_int : kitB "dict" "int" = some false := by decide +kernel
theorem kb_dict_bool : kitB "dict" "bool" = some false := by decide +kernel
theorem kb_dict_list : kitB "dict" "list" = some false := by decide +kernel
theorem kb_dict_str : kitB "dict" "str" = some false := by decide +kernel
theorem kb_dict_dict : kitB "dict" "dict" = some true := by decide +kernel
theorem kb_dict_tuple : kitB "dict" "tuple" = some false := by decide +kernel
end Mw
namespace Mw
open PySem PySem.Spec PyProof.Rows L2
section
variable {X : Cx} {pu p1 p2 p3 : Bool} {e a b c it tg elt : Expr} {es ifs : List Expr} {rest st : List Stmt} {ρ ρ' ρ1 ρ2 ρ3 : List SV} {r x y z : Rs} {rs rs2 : List Rs} {p pos apos cpos : Pos} {E : AE} {k n : Nat} {ns : List Int} {q : Pos}
theorem ev_sliceTI {j : Int} {q2 : Pos} (ha : Ev X p1 a ρ ρ x) (cx : Cv x (.li (ns.map D.int))) (hb : Ev X true b ρ ρ (.d (.int j))) (h0 : 0 ≤ j) : Ev X p1 (.Subscript a (.Slice none (some b) none q2) pos) ρ ρ (.lo (.own ((ns.take j.toNat).map D.int))) :=
  (ev_sliceT ha cx hb h0).cast (by rw [List.map_take])
theorem ev_sliceDI {j : Int} {q2 : Pos} (ha : Ev X p1 a ρ ρ x) (cx : Cv x (.li (ns.map D.int))) (hb : Ev X true b ρ ρ (.d (.int j))) (h0 : 0 ≤ j) : Ev X p1 (.Subscript a (.Slice (some b) none none q2) pos) ρ ρ (.lo (.own ((ns.drop j.toNat).map D.int))) :=
  (ev_sliceD ha cx hb h0).cast (by rw [List.map_drop])
theorem ev_catI {ms : List Int} (ha : Ev X p1 a ρ ρ1 x) (hb : Ev X p2 b ρ1 ρ2 y) (pk : Pk p2 x) (cx : Cv x (.li (ns.map D.int))) (cy : Cv y (.li (ms.map D.int))) (hl : ns.length + ms.length ≤ 16000000) : Ev X (p1 && p2) (.BinOp a .Add b pos) ρ ρ2 (.lo (.own ((ns ++ ms).map D.int))) :=
  (ev_cat ha hb pk cx cy (by rw [List.length_map, List.length_map]; exact hl)).cast (by rw [List.map_append])
theorem ev_ixLI {i : Int} {v : Int} (ha : Ev X p1 a ρ ρ1 x) (hb : Ev X p2 b ρ1 ρ2 (.d (.int i))) (pk : Pk p2 x) (cx : Cv x (.li (ns.map D.int))) (h0 : 0 ≤ i) (hv : ns[i.toNat]? = some v) (hs : PlainIx b) : Ev X (p1 && p2) (.Subscript a b pos) ρ ρ2 (.d (.int v)) := by
  have hl : i.toNat < ns.length := (List.getElem?_eq_some_iff.mp hv).1
  refine ev_ixL ha hb pk cx (k := i.toNat) ?_ ?_ hs
  · unfold ixN
    rw [if_pos h0, if_pos (by rw [List.length_map]; omega)]
  · rw [List.getElem?_map, hv]
    rfl
end
theorem not_mem_take {ns : List Int} (h : ns.Nodup) {i : Nat} {v : Int} (hv : ns[i]? = some v) : (ns.take i).contains v = false := by
  cases q : (ns.take i).contains v with
  | false => rfl
  | true =>
    have hm := List.contains_iff_mem.mp q
    obtain ⟨j, hj, e⟩ := List.mem_iff_getElem.mp hm
    rw [List.length_take] at hj
    rw [List.getElem_take] at e
    obtain ⟨hi, e2⟩ := List.getElem?_eq_some_iff.mp hv
    have hlt : j < i := by omega
    exact absurd (e.trans e2.symm) (List.pairwise_iff_getElem.mp h j i (by omega) hi hlt)
end Mw

set_option Elab.async false
set_option linter.all false
set_option maxRecDepth 100000
set_option maxHeartbeats 4000000
/-! Mw14: comparisons, as values and as tests -/
namespace Mw
open PySem PySem.Spec PyProof.Rows L2
section
variable {X : Cx} {pu p1 p2 p3 : Bool} {e a b c it tg elt : Expr} {es ifs : List Expr} {rest st : List Stmt} {ρ ρ' ρ1 ρ2 ρ3 : List SV} {r x y z : Rs} {rs rs2 : List Rs} {p pos apos cpos : Pos} {E : AE} {n : Nat} {ds : List D} {q : Pos} {k k' : Bool}
inductive CmpJ (X : Cx) : Bool → CmpOp → Expr → Expr → List SV → List SV → Bool → Prop
  | mk {op : CmpOp} {r2 : R2} {p1 p2 : Bool} {a b : Expr} {ρ ρ1 ρ2 : List SV} {x y : Rs} {k : Bool} (ho : OpR X (compareOp op) r2) (ha : Ev X p1 a ρ ρ1 x) (hb : Ev X p2 b ρ1 ρ2 y) (pk : Pk p2 x) (sm : Sem2 X r2 x y (.d (.bl k))) (hm : behindInMarks op b = false) : CmpJ X (p1 && p2) op a b ρ ρ2 k
theorem ev_cj {op : CmpOp} (h : CmpJ X pu op a b ρ ρ2 k) : Ev X pu (.Compare a [op] [b] pos) ρ ρ2 (.d (.bl k)) := by
  cases h with
  | mk ho ha hb pk sm hm => exact ev_cmp ho ha hb pk sm hm
theorem et_cj {op : CmpOp} (h : CmpJ X pu op a b ρ ρ2 k) : EvT X pu (.Compare a [op] [b] pos) ρ ρ2 k := by
  cases h with
  | @mk _ r2 p1 p2 _ _ _ ρ1 _ x y _ ho ha hb pk sm hm =>
    intro B ow σ H F A Q q
    refine ⟨_, pt_cmpR ho pe_sem pe_sem hm, ?_⟩
    refine ha B ow σ H F A _ fun v H1 F1 P1 k1 => hb B ow σ H1 F1 P1.ab _ fun w H2 F2 P2 k2 => ?_
    refine sm B ρ2 ow σ H H2 F2 v w P2.ab (k1.keep P1 A P2 pk) (k2.start P1.dom) _ fun u H3 F3 g3 k3 => ?_
    exact ⟨k, rep_bl k3, q H3 F3 ((P1.trans (P2.trans (Ps.pure (pu := true) P2.ab g3))).as fun h => by rw [Bool.and_true]; exact h)⟩
theorem CmpJ.as {op : CmpOp} (h : CmpJ X pu op a b ρ ρ2 k) (q : k = k') : CmpJ X pu op a b ρ ρ2 k' := q ▸ h
theorem cj_lt {i j : Int} (ha : Ev X p1 a ρ ρ1 (.d (.int i))) (hb : Ev X p2 b ρ1 ρ2 (.d (.int j))) : CmpJ X (p1 && p2) .Lt a b ρ ρ2 (decide (i < j)) := .mk op_lt ha hb (.inr rfl) (sm_int0 fun _ => .bl _) (nomark _)
theorem cj_le {i j : Int} (ha : Ev X p1 a ρ ρ1 (.d (.int i))) (hb : Ev X p2 b ρ1 ρ2 (.d (.int j))) : CmpJ X (p1 && p2) .LtE a b ρ ρ2 (decide (i ≤ j)) := .mk op_le ha hb (.inr rfl) (sm_int0 fun _ => .bl _) (nomark _)
theorem cj_gt {i j : Int} (ha : Ev X p1 a ρ ρ1 (.d (.int i))) (hb : Ev X p2 b ρ1 ρ2 (.d (.int j))) : CmpJ X (p1 && p2) .Gt a b ρ ρ2 (decide (j < i)) := .mk op_gt ha hb (.inr rfl) (sm_int0 fun _ => .bl _) (nomark _)
theorem cj_ge {i j : Int} (ha : Ev X p1 a ρ ρ1 (.d (.int i))) (hb : Ev X p2 b ρ1 ρ2 (.d (.int j))) : CmpJ X (p1 && p2) .GtE a b ρ ρ2 (decide (j ≤ i)) := .mk op_ge ha hb (.inr rfl) (sm_int0 fun _ => .bl _) (nomark _)
theorem cj_eqI {i j : Int} (ha : Ev X p1 a ρ ρ1 (.d (.int i))) (hb : Ev X p2 b ρ1 ρ2 (.d (.int j))) : CmpJ X (p1 && p2) .Eq a b ρ ρ2 (decide (i = j)) :=
  (CmpJ.mk op_eq ha hb (.inr rfl) (sm_eq rfl rfl rfl) (nomark _)).as (by
    show decide (V.int i = V.int j) = decide (i = j)
    exact decide_eq_decide.mpr ⟨V.int.inj, congrArg _⟩)
theorem cj_neI {i j : Int} (ha : Ev X p1 a ρ ρ1 (.d (.int i))) (hb : Ev X p2 b ρ1 ρ2 (.d (.int j))) : CmpJ X (p1 && p2) .NotEq a b ρ ρ2 (!decide (i = j)) :=
  (CmpJ.mk op_ne ha hb (.inr rfl) (sm_ne rfl rfl rfl) (nomark _)).as (by
    show (!decide (V.int i = V.int j)) = !decide (i = j)
    rw [decide_eq_decide.mpr ⟨V.int.inj, congrArg _⟩])
theorem cj_eqS {i j : Str} (ha : Ev X p1 a ρ ρ1 (.d (.str i))) (hb : Ev X p2 b ρ1 ρ2 (.d (.str j))) : CmpJ X (p1 && p2) .Eq a b ρ ρ2 (decide (i = j)) :=
  (CmpJ.mk op_eq ha hb (.inr rfl) (sm_eq rfl rfl rfl) (nomark _)).as (by
    show decide (V.str i = V.str j) = decide (i = j)
    exact decide_eq_decide.mpr ⟨V.str.inj, congrArg _⟩)
theorem cj_neS {i j : Str} (ha : Ev X p1 a ρ ρ1 (.d (.str i))) (hb : Ev X p2 b ρ1 ρ2 (.d (.str j))) : CmpJ X (p1 && p2) .NotEq a b ρ ρ2 (!decide (i = j)) :=
  (CmpJ.mk op_ne ha hb (.inr rfl) (sm_ne rfl rfl rfl) (nomark _)).as (by
    show (!decide (V.str i = V.str j)) = !decide (i = j)
    rw [decide_eq_decide.mpr ⟨V.str.inj, congrArg _⟩])
theorem cj_in {i : Int} {ns : List Int} (ha : Ev X p1 a ρ ρ1 (.d (.int i))) (hb : Ev X p2 b ρ1 ρ2 y) (cy : Cv y (.li (ns.map D.int))) (hm : behindInMarks .In b = false) : CmpJ X (p1 && p2) .In a b ρ ρ2 (ns.contains i) :=
  (CmpJ.mk op_in_seq ha hb (.inr rfl) (sm_in rfl flat_ints cy) hm).as any_int
theorem cj_notIn {i : Int} {ns : List Int} (ha : Ev X p1 a ρ ρ1 (.d (.int i))) (hb : Ev X p2 b ρ1 ρ2 y) (cy : Cv y (.li (ns.map D.int))) (hm : behindInMarks .NotIn b = false) : CmpJ X (p1 && p2) .NotIn a b ρ ρ2 (!ns.contains i) :=
  (CmpJ.mk op_notIn_seq ha hb (.inr rfl) (sm_in rfl flat_ints cy) hm).as (by rw [any_int]; rfl)
theorem cj_eqD {d f : D} (hu : X.A.units + 64 < cLine) (ha : Ev X p1 a ρ ρ1 x) (hb : Ev X p2 b ρ1 ρ2 y) (pk : Pk p2 x) (cx : Cv x (.now d)) (cy : Cv y (.now f)) (h1 : d.ok = true ∧ d.dp ≤ 60) (h2 : f.ok = true ∧ f.dp ≤ 60) : CmpJ X (p1 && p2) .Eq a b ρ ρ2 (d.eqv f) := .mk (op_eqD hu) ha hb pk (sm_eqD cx cy h1 h2) (nomark _)
theorem cj_neD {d f : D} (hu : X.A.units + 64 < cLine) (ha : Ev X p1 a ρ ρ1 x) (hb : Ev X p2 b ρ1 ρ2 y) (pk : Pk p2 x) (cx : Cv x (.now d)) (cy : Cv y (.now f)) (h1 : d.ok = true ∧ d.dp ≤ 60) (h2 : f.ok = true ∧ f.dp ≤ 60) : CmpJ X (p1 && p2) .NotEq a b ρ ρ2 (!d.eqv f) := .mk (op_neD hu) ha hb pk (sm_neD cx cy h1 h2) (nomark _)
/-- x is None, x is not None, as tests -/
theorem et_isN {j : Nat} {pp : Pos} {d : D} (ha : Ev X pu a ρ ρ' (.d d)) : EvT X pu (.Compare a [.Is] [.Constant .none j pp] pos) ρ ρ' d.isNon := fun B ow σ H F A Q q =>
  ⟨_, pt_cmp (pc_isN pe_sem) (nobehind _ (by decide) (by decide)), ha B ow σ H F A _ fun v H1 F1 P1 k1 => by
    rw [isNon_rep k1]
    first | exact q H1 F1 P1 | exact ⟨_, rfl, q H1 F1 P1⟩⟩
theorem et_notN {j : Nat} {pp : Pos} {d : D} (ha : Ev X pu a ρ ρ' (.d d)) : EvT X pu (.Compare a [.IsNot] [.Constant .none j pp] pos) ρ ρ' (!d.isNon) := fun B ow σ H F A Q q =>
  ⟨_, pt_cmp (pc_notN pe_sem) (nobehind _ (by decide) (by decide)), ha B ow σ H F A _ fun v H1 F1 P1 k1 => by
    rw [isNon_rep k1]
    first | exact q H1 F1 P1 | exact ⟨_, rfl, q H1 F1 P1⟩⟩
end
end Mw
namespace Mw
open PySem PySem.Spec PyProof.Rows L2
theorem EvA.tr {X : Cx} {pu : Bool} {es : List Expr} {ρ ρ' : List SV} {rs : List Rs} (h : EvA X pu es ρ ρ' rs) (q : pu = true) : EvA X true es ρ ρ' rs := q ▸ h
theorem Ev.tr {X : Cx} {pu : Bool} {e : Expr} {ρ ρ' : List SV} {r : Rs} (h : Ev X pu e ρ ρ' r) (q : pu = true) : Ev X true e ρ ρ' r := q ▸ h
end Mw
namespace Mw
open PySem PySem.Spec PyProof.Rows L2
section
variable {X : Cx} {pu p1 p2 p3 : Bool} {e a b c : Expr} {ρ ρ' ρ1 ρ2 ρ3 : List SV} {pos : Pos}
/-- a <= b <= c, no draws -/
theorem ev_chain2 {i j m : Int} (ha : Ev X p1 a ρ ρ (.d (.int i))) (hb : Ev X p2 b ρ ρ (.d (.int j))) (hc : Ev X p3 c ρ ρ (.d (.int m))) (hm : lastMarks [.LtE, .LtE] [b, c] = false) : Ev X (p1 && (p2 && p3)) (.Compare a [.LtE, .LtE] [b, c] pos) ρ ρ (.d (.bl (decide (i ≤ j) && decide (j ≤ m)))) := fun B ow σ H F A Q q => by
  refine ⟨_, pe_chain op_le op_le pe_sem pe_sem pe_sem hm, ?_⟩
  refine ha B ow σ H F A _ fun v H1 F1 P1 k1 => hb B ow σ H1 F1 P1.ab _ fun w H2 F2 P2 k2 => ⟨i, j, rep_int k1, rep_int k2, decide (i ≤ j), rfl, ?_⟩
  have P12 := P1.trans P2
  cases h : decide (i ≤ j) with
  | false => exact q _ H2 F2 (P12.as fun z => and3l z) (by rw [h]; exact .bl _)
  | true => exact hc B ow σ H2 F2 P2.ab _ fun u H3 F3 P3 k3 => ⟨j, m, rep_int k2, rep_int k3, q _ H3 F3 ((P12.trans P3).as fun z => by rw [Bool.and_assoc]; exact z) (by rw [h]; exact .bl _)⟩
end
end Mw

set_option Elab.async false
set_option linter.all false
set_option maxRecDepth 100000
set_option maxHeartbeats 4000000
/-! Mw15: the script; the law's promise -/
namespace Mw
open PySem PySem.Spec PyProof.Rows L2
/-- d is the script -/
def ScrD (K : PySem.W.Frag) (d : D) (ns : List Int) : Prop := d = .scr ns ∨ ∃ a, d = .ref a ∧ ∀ H : Hp, SqL K H a (ns.map V.int)
theorem repL_ints {F : Hp} : ∀ {ns : List Int}, RepL F (ns.map V.int) (ns.map D.int)
  | [] => .nil
  | _ :: _ => .cons (.int _) repL_ints
section
variable {X : Cx} {pu p1 p2 p3 : Bool} {e a b c : Expr} {ρ ρ' ρ1 ρ2 ρ3 : List SV} {p pos : Pos}
theorem scr_sq {K : PySem.W.Frag} {B : Bs} {ow : Ow} {σ : L2.St} {H F : Hp} {i : Nat} {d : D} {ns : List Int} (A : Ab B ρ ow σ H F) (h : ρ[i]? = some (.d d)) (s : ScrD K d ns) : ∃ a, σ[i]? = some (some (.ref a)) ∧ SqL K H a (ns.map V.int) := by
  obtain ⟨v, e, r⟩ := A.d h
  rcases s with rfl | ⟨a, rfl, q⟩
  · cases r with
    | scr h1 => exact ⟨_, e, .inl (.inr ⟨_, A.sub _ _ h1⟩)⟩
  · rw [rep_ref r] at e
    exact ⟨a, e, q H⟩
theorem ev_scrT {i : Nat} {x : Str} {d : D} {ns : List Int} {j : Int} {q2 : Pos} (N : Nm X i x) (h : ρ[i]? = some (.d d)) (s : ScrD X.K d ns) (hb : Ev X true b ρ ρ (.d (.int j))) (h0 : 0 ≤ j) :
    Ev X true (.Subscript (.Name x p) (.Slice none (some b) none q2) pos) ρ ρ (.lo (.own ((ns.take j.toNat).map D.int))) := fun B ow σ H F A Q q => by
  refine ⟨_, pe_slice sl_list (pe_var N.n N.v N.d N.c) po_sem po_sem, ?_⟩
  obtain ⟨a, e, sq⟩ := scr_sq A h s
  refine ⟨_, e, eo_none B ow σ H F A _ fun H2 F2 P2 => eo_some hb B ow σ H2 F2 P2.ab _ fun H3 F3 P3 => ?_⟩
  obtain ⟨a', e', sq3⟩ := scr_sq P3.ab h s
  rw [e] at e'
  cases e'
  refine ⟨a, ns.map V.int, rfl, sq3, fun p hp => ?_⟩
  have c := cut_rep (lo := none) (hi := some j) (repL_ints (F := F3) (ns := ns))
  rw [cut_take h0, ← List.map_take] at c
  exact q _ _ F3 ((P2.trans (P3.trans (Ps.pure (pu := true) P3.ab (.heap P3.ab.sub hp)))).as fun z => rfl) (lo_new P3.ab.sub hp (P2.trans P3).dom c)
end
/-- the law's promise -/
abbrev spLaw (K : PySem.W.Frag) : Sp := spF (α := D × List Int) (fun q => ScrD K q.1 q.2 ∧ q.2.length ≤ 63) (fun q => [.d q.1]) (fun _ => []) (fun _ => .d (.bl true))
theorem law_of {K : PySem.W.Frag} (H : Hp) (a : Addr) (ns : List Int) (hl : ns.length ≤ 63) (hO : Only H) (hS : SqL K H a (ns.map V.int)) : spLaw K [.ref a] H (fun v _ => v = .bl true) fun _ _ _ => False := by
  have go : ∀ d, ScrD K d ns → Rep H (.ref a) d → spLaw K [.ref a] H (fun v _ => v = .bl true) fun _ _ _ => False := fun d s r =>
    ⟨(d, ns), ⟨s, hl⟩, H, [], _, entry_d (ds := [d]) (Same.refl H) (.cons r .nil), fun v H' F' PO => by
      have k := PO.r
      exact rep_bl k⟩
  rcases hS with (h | ⟨o, h⟩) | h
  · rcases hO a with z | ⟨o, xs, z⟩
    · rw [z] at h
      cases h
    · rw [z] at h
      cases h
  · exact go (.scr ns) (.inl rfl) (.scr h)
  · exact go (.ref a) (.inr ⟨a, rfl, fun _ => .inr h⟩) (.ref a)
end Mw
namespace Mw
open PySem PySem.Spec PyProof.Rows L2
theorem sx_frzO {X : Cx} {i : Nat} {ds : List D} {ρ : List SV} {st : List Stmt} {E : AE} (h : ρ[i]? = some (.lo (.own ds))) (k : SX X st (ρ.set i (.d (.lst ds))) E) : SX X st ρ E := sx_frz h (by
  have e : (L.own ds).toD = .lst ds := by unfold L.toD; rfl
  rw [e]
  exact k)
/-- a def's name as a value -/
theorem ev_globF {X : Cx} {nm : Str} {f : Addr} {ρ : List SV} {pos : Pos} (hg : Gl X nm) (hm : X.mg nm = some (.ref f)) (hd : (nm == ("__debug__" : Str)) = false) : Ev X true (.Name nm pos) ρ ρ (.d (.ref f)) :=
  ev_glob (v := .ref f) hg hm rfl (fun _ => .ref f) hd
end Mw

set_option Elab.async false
set_option linter.all false
set_option maxRecDepth 100000
set_option maxHeartbeats 4000000
/-! Mw16: max(.., default=d), x.bit_length() -/
namespace Mw
open PySem PySem.Spec PyProof.Rows L2
def maxDf (d : Int) : List Int → Int
  | [] => d
  | y :: ys => ys.foldl max y
theorem dp_intl : ∀ ns : List Int, PyData.depthAll (ns.map PyData.int) ≤ 1
  | [] => by decide
  | n :: ns => by
    have := dp_intl ns
    show max (PyData.depth (.int n)) (PyData.depthAll (ns.map PyData.int)) ≤ 1
    exact Nat.max_le.mpr ⟨by show (PyData.int n).depth ≤ 1; unfold PyData.depth; omega, this⟩
section
variable {X : Cx} {pu p1 p2 p3 : Bool} {e a b c : Expr} {ρ ρ' ρ1 ρ2 ρ3 : List SV} {p pos apos kp : Pos} {x : Rs}
theorem cr_maxDf (hc : X.calm = true) (hu : X.A.units + 64 < cLine) : CallRK X (.builtin "max") ["default"] (fun xs zs H Q => ∃ (a : Addr) (ns : List Int) (d : Int), xs = [V.ref a] ∧ zs = [V.int d] ∧ SqL X.K H a (ns.map V.int) ∧ Q (.int (maxDf d ns)) H) := by
  intro pins s σ H xs zs us ws Q I r rz h
  obtain ⟨a, ns, d, rfl, rfl, hs, q⟩ := h
  obtain ⟨its, rv, hl, _⟩ := I.list hs
  obtain ⟨u, rfl, ⟨t, rfl⟩⟩ := vals1 rz
  rw [Vals.ref1 r]
  have hi : IntsAre its ns := rv.ints
  refine PySem.W.max_list_default (xs := ns.map PyData.int) (I.ok.hd hc) hl.isList (by simpa using IntsAre.reads s.heap hi) ?_ (by have := dp_intl ns; omega) ?_ ?_
  · refine ⟨fun x hx y hy => ?_, fun x hx => ?_⟩
    · obtain ⟨i, _, rfl⟩ := List.mem_map.mp hx
      obtain ⟨j, _, rfl⟩ := List.mem_map.mp hy
      rfl
    · obtain ⟨i, _, rfl⟩ := List.mem_map.mp hx
      intro z
      cases z
  · intro e h' tk hk
    have en : ns = [] := List.map_eq_nil_iff.mp e
    subst en
    exact ⟨.int d, H, I.kept hk, ⟨_, rfl⟩, q⟩
  · intro y ys i v h' tk bs e _ rd hk
    cases ns with
    | nil => cases e
    | cons n ns =>
      cases e
      rw [PySem.W.maxD_ints] at rd
      have ev : ∃ t, v = .int (ns.foldl max n) t := by
        cases rd
        exact ⟨_, rfl⟩
      obtain ⟨t2, rfl⟩ := ev
      exact ⟨.int _, H, I.kept hk, ⟨_, rfl⟩, q⟩
/-- max(xs, default=d) -/
theorem ev_maxDf {ns : List Int} {d : Int} (hc : X.calm = true) (hu : X.A.units + 64 < cLine) (N : Bi X "max" (.builtin "max")) (ha : Ev X p1 a ρ ρ1 x) (cx : Cv x (.li (ns.map D.int))) (hb : Ev X true b ρ1 ρ1 (.d (.int d)))
    (hs : starEach [a] X.env = [(false, eval a X.env)]) (he : backTo pos (starEach [a] X.env) = (false, eval a X.env) :: backTo pos (starEach [] X.env)) (hpl : (backTo pos (starEach [a] X.env)).any (·.1) = false)
    (hall : (backToKw pos (keywordEach [⟨some "default", b, kp⟩] X.env)).all (·.1.isSome) = true) (hnone : (backToKw pos (keywordEach [⟨some "default", b, kp⟩] X.env)).any (·.1.isNone) = false) (hks : (backToKw pos (keywordEach [⟨some "default", b, kp⟩] X.env)).filterMap (·.1) = [("default" : Str)]) :
    Ev X p1 (.Call (.Name "max" p) [a] [⟨some "default", b, kp⟩] pos) ρ ρ1 (.d (.int (maxDf d ns))) := fun B ow σ H F A Q q => by
  refine ⟨_, pe_callBK (cr_maxDf hc hu) N.g N.m N.b (pa_cons pe_sem pa_nil hs) (pk_cons pe_sem pk_nil) N.n N.d he hpl hall hnone hks, ?_⟩
  refine ha B ow σ H F A _ fun v H1 F1 P1 k1 => hb B ow σ H1 F1 P1.ab _ fun w H2 F2 P2 k2 => ?_
  have k3 := k1.keep P1 A P2 (.inl rfl)
  obtain ⟨m, vs, rfl, z1, z2⟩ := cx B ρ1 ow σ H H2 F2 v P2.ab k3
  rw [RepL.ints z2] at z1
  rw [rep_int k2]
  exact ⟨m, ns, d, rfl, rfl, SqL.of z1, q _ H2 F2 ((P1.trans P2).as fun z => by rw [z]; rfl) (.int _)⟩
/-- x.bit_length() -/
theorem ev_bits {i : Int} (ha : Ev X pu a ρ ρ1 (.d (.int i))) (hbase : attributeBase a "bit_length" X.env (eval a X.env) = eval a X.env) (hline : (apos.endLine == pos.line) = true) : Ev X pu (.Call (.Attribute a "bit_length" apos) [] [] pos) ρ ρ1 (.d (.int (Builtin.Int.intBits i : Nat))) := fun B ow σ H F A Q q =>
  ⟨_, pe_bits pe_sem hbase hline, ha B ow σ H F A _ fun v H1 F1 P1 k1 => ⟨i, rep_int k1, q _ H1 F1 P1 (.int _)⟩⟩
end
end Mw
namespace Mw
open PySem PySem.Spec PyProof.Rows L2
/-! ### names within a block -/
structure Sb (X : Cx) (N : List Str) (sc : Scope) : Prop where
  n : X.N = N
  s : X.env.scope = sc
theorem Sc.blk {X : Cx} {N : List Str} {sc : Scope} (c : Sc X N sc) {scope : Scope} {s : Shared} {H : Hp} {C : Addr} {cl : List (Str × Addr)} {fp : List Addr} : Sb (bx X scope s H C cl fp) N (relS scope sc) :=
  ⟨c.n, by
    show relS scope X.env.scope = _
    rw [c.s]⟩
theorem Sb.nl {X : Cx} {N : List Str} {sc : Scope} (c : Sb X N sc) {i : Nat} {x : Str} (nd : N.Nodup) (h : N[i]? = some x) (l : sc.names.lookup x = some .local) : Nl X i x :=
  ⟨by rw [c.n]; exact nd, by rw [c.n]; exact h, .inl (by rw [c.s]; exact l), .inr (by rw [c.s]; exact l)⟩
theorem Sb.nm {X : Cx} {N : List Str} {sc : Scope} (c : Sb X N sc) {i : Nat} {x : Str} (h : N[i]? = some x) (v : Vis sc x) (d : (x == ("__debug__" : Str)) = false := by rfl) (q : (x == ("__classdict__" : Str)) = false := by rfl) : Nm X i x :=
  ⟨by rw [c.n]; exact h, by rw [c.s]; exact v, d, q⟩
theorem Sb.gl {X : Cx} {N : List Str} {sc : Scope} (c : Sb X N sc) {x : Str} (h : sc.names.lookup x = some .globalImplicit) : Gl X x := by
  show X.env.scope.names.lookup x = _
  rw [c.s]
  exact h
end Mw

set_option Elab.async false
set_option linter.all false
set_option maxRecDepth 100000
set_option maxHeartbeats 4000000
/-! Mw17: lists of own lists -/
namespace Mw
open PySem PySem.Spec PyProof.Rows L2
theorem olst0 {F H : Hp} {v : V} {ds : List D} {ls : List L} {as : List Addr} (h : RepO F H v (.olst (.own ds :: ls)) as) : ∃ a b vs ys, v = .ref a ∧ H a = some (.lst (.ref b :: vs)) ∧ H b = some (.lst ys) ∧ RepL F ys ds ∧ b ∈ as := by
  cases h with
  | olst h1 h2 =>
    cases h2 with
    | cons h3 h4 =>
      cases h3 with
      | own h5 h6 => exact ⟨_, _, _, _, rfl, h1, h5, h6, by simp⟩
section
variable {X : Cx} {pu p1 p2 p3 : Bool} {e a b c it tg elt : Expr} {es ifs : List Expr} {rest st : List Stmt} {ρ ρ' ρ1 ρ2 ρ3 : List SV} {r x y z : Rs} {rs rs2 : List Rs} {p pos apos cpos sp zp : Pos} {E : AE} {k n : Nat} {ds : List D}
/-- xs[0].append(e), xs a list of lists of one's own; xs is forgotten -/
theorem sx_app0 {i j : Nat} {nm : Str} {d : D} {ls : List L} (N : Nm X i nm) (h : ρ[i]? = some (.lo (.olst (.own ds :: ls)))) (he : Ev X true e ρ ρ (.d d)) (hl : ds.length ≤ 1000000) (k : SX X rest (ρ.set i .un) E) (hix : PlainIx (.Constant (.int 0) j zp))
    (hbase : attributeBase (.Subscript (.Name nm p) (.Constant (.int 0) j zp) sp) "append" X.env (eval (.Subscript (.Name nm p) (.Constant (.int 0) j zp) sp) X.env) = eval (.Subscript (.Name nm p) (.Constant (.int 0) j zp) sp) X.env)
    (hfew : ((backTo cpos (starEach [e] X.env)).all (fun x => !x.1) && (backToKw cpos (keywordEach [] X.env)).all (fun x => x.1.isSome)
      && decide ([e].length + ([] : List Keyword).length + (if ([] : List Keyword).isEmpty then 0 else 1) < 30)) = true)
    (hline : (apos.endLine == cpos.line) = true) (hs : starEach [e] X.env = [(false, eval e X.env)]) (hplain : (backTo cpos (starEach [] X.env)).any (·.1) = false)
    (hw : swapsWith (.Call (.Attribute (.Subscript (.Name nm p) (.Constant (.int 0) j zp) sp) "append" apos) [e] [] cpos) none pos.line X.env = pure false) :
    SX X (.Expr (.Call (.Attribute (.Subscript (.Name nm p) (.Constant (.int 0) j zp) sp) "append" apos) [e] [] cpos) pos :: rest) ρ E := fun B ow σ H F A D q => by
  have hpe := pe_bm PySem.F.plainAttrs_list PySem.F.slot_list_append PySem.F.type_list_append mt_append (pe_ix ix_list (pe_var N.n N.v N.d N.c) pe_int hix) (pa_cons (pe_sem (X := X) (e := e)) pa_nil hs) hbase hfew hline hs hplain
  refine ⟨_, pss_cons (ps_expr hpe hw) pss_sem, ?_⟩
  obtain ⟨v, e1, ro⟩ := A.lo h
  obtain ⟨a, b, vs, ys, rfl, h1, h5, h6, hb⟩ := olst0 ro
  refine ⟨.ref a, e1, ?_⟩
  refine ⟨a, .ref b :: vs, 0, .ref b, rfl, rfl, SqL.of h1, ?_, tyL h5, he B ow σ H F A _ fun w H2 F2 P2 k2 => ?_⟩
  · unfold atI ixN
    rw [if_pos (Int.le_refl 0), if_pos (by rw [List.length_cons]; omega)]
    rfl
  have sm := (P2.pu rfl).2
  have hb2 : H2 b = some (.lst ys) := sm _ _ h5
  refine ⟨b, ys, w, rfl, rfl, hb2, by rw [h6.length]; exact Nat.lt_of_le_of_lt hl (by decide), ?_⟩
  have A2 := P2.ab
  have np : ∀ ds, ρ[i]? ≠ some (.par ds) := fun ds z => by
    rw [h] at z
    cases z
  have A3 := A2.setAny (i := i) (v := .ref a) (s := .un) (as := []) np (fun _ z => by cases z) trivial List.nodup_nil (fun _ z => by cases z) (fun _ => rfl) fun z => absurd rfl z
  have es : σ.set i (some (.ref a)) = σ := List.ext_getElem? fun j => by
    by_cases hj : i = j
    · subst hj
      rw [List.getElem?_set_self (List.getElem?_eq_some_iff.mp e1).1, e1]
    · rw [List.getElem?_set_ne hj]
  rw [es] at A3
  have fr : B.H0 b = none := by
    rcases (A2.own i b hb).2.2 with z | ⟨p, hp, z⟩
    · exact z
    · obtain ⟨_, q2, es2, q3⟩ := A2.par p hp
      rw [z] at q2
      have e4 := A2.dist i p.1 b hb q2
      subst e4
      exact absurd q3 (np es2)
  have A4 := A3.side (p := b) (ob := .lst (ys ++ [w])) (A2.own i b hb).1 fr fun j hj => by
    by_cases h2 : j = i
    · subst h2
      rw [owS_same] at hj
      cases hj
    · rw [owS_ne h2] at hj
      exact h2 (A2.dist j i b hj hb)
  exact k B _ σ _ F2 A4 D (q.mono P2.f)
end
end Mw
namespace Mw
open PySem PySem.Spec PyProof.Rows L2
/-- what is not owned, and what the caller owns -/
noncomputable def hideOw (H : Hp) (ow : Ow) (ps : List (Nat × Addr)) : Hp := fun b => by
  classical
  exact if (∃ i : Nat, b ∈ ow i) ∧ ∀ p ∈ ps, p.2 ≠ b then none else H b
theorem hide_in {H : Hp} {ow : Ow} {ps : List (Nat × Addr)} {b : Addr} (h : (∃ i : Nat, b ∈ ow i) ∧ ∀ p ∈ ps, p.2 ≠ b) : hideOw H ow ps b = none := by
  unfold hideOw
  exact if_pos h
theorem hide_out {H : Hp} {ow : Ow} {ps : List (Nat × Addr)} {b : Addr} (h : ¬ ((∃ i : Nat, b ∈ ow i) ∧ ∀ p ∈ ps, p.2 ≠ b)) : hideOw H ow ps b = H b := by
  unfold hideOw
  exact if_neg h
section
variable {B : Bs} {ρ ρ2 ρ3 : List SV} {ow ow2 ow3 : Ow} {σ σ2 σ3 : L2.St} {H H2 H3 F F2 F3 : Hp}
noncomputable def Bs.at (B : Bs) (ow : Ow) (H F : Hp) : Bs := ⟨F, hideOw H ow B.ps, B.ps⟩
theorem Ab.rebase (A : Ab B ρ ow σ H F) : Ab (B.at ow H F) ρ ow σ H F where
  sub := A.sub
  keep := fun b o e _ => by
    by_cases h : (∃ i : Nat, b ∈ ow i) ∧ ∀ p ∈ B.ps, p.2 ≠ b
    · have z : hideOw H ow B.ps b = some o := e
      rw [hide_in h] at z
      cases z
    · have z : hideOw H ow B.ps b = some o := e
      rw [hide_out h] at z
      exact z
  f := Same.refl _
  new := fun a o e n => by
    have n : F a = none := n
    rw [e] at n
    cases n
  len := A.len
  sl := A.sl
  own := fun i a ha => by
    obtain ⟨h1, h2, h3⟩ := A.own i a ha
    refine ⟨h1, h2, ?_⟩
    by_cases h : ∃ p ∈ B.ps, p.2 = a
    · exact .inr h
    · exact .inl (hide_in ⟨⟨i, ha⟩, fun p hp z => h ⟨p, hp, z⟩⟩)
  par := A.par
  parI := A.parI
  nd := A.nd
  dist := A.dist
  em := A.em
/-- what was not there at the second base was not there at the first -/
theorem Ab.back0 (A : Ab B ρ ow σ H F) {a : Addr} (h : hideOw H ow B.ps a = none) : B.H0 a = none := by
  cases e : B.H0 a with
  | none => rfl
  | some o =>
    by_cases hp : ∃ p ∈ B.ps, p.2 = a
    · obtain ⟨p, hp, rfl⟩ := hp
      rw [hide_out (fun z => z.2 p hp rfl)] at h
      obtain ⟨_, q2, _⟩ := A.par p hp
      obtain ⟨_, ⟨o2, q3⟩, _⟩ := A.own _ _ q2
      rw [q3] at h
      cases h
    · have k := A.keep a o e fun p q z => hp ⟨p, q, z⟩
      by_cases ho : (∃ i : Nat, a ∈ ow i) ∧ ∀ p ∈ B.ps, p.2 ≠ a
      · obtain ⟨⟨i, hi⟩, _⟩ := ho
        rcases (A.own i a hi).2.2 with z | z
        · rw [e] at z
          cases z
        · exact absurd z hp
      · rw [hide_out ho, k] at h
        cases h
theorem Ab.unbase (A : Ab B ρ ow σ H F) (A3 : Ab (B.at ow H F) ρ3 ow3 σ3 H3 F3) : Ab B ρ3 ow3 σ3 H3 F3 where
  sub := A3.sub
  keep := fun b o e np => by
    have k := A.keep b o e np
    refine A3.keep b o ?_ np
    show hideOw H ow B.ps b = some o
    rw [hide_out, k]
    rintro ⟨⟨i, hi⟩, _⟩
    rcases (A.own i b hi).2.2 with z | ⟨p, hp, z⟩
    · rw [e] at z
      cases z
    · exact np p hp z
  f := A.f.trans A3.f
  new := fun a o e n => by
    cases q : F a with
    | some u => exact A.new a u q n
    | none => exact A.back0 (A3.new a o e q)
  len := A3.len
  sl := A3.sl
  own := fun i a ha => by
    obtain ⟨h1, h2, h3⟩ := A3.own i a ha
    exact ⟨h1, h2, h3.imp (fun z => A.back0 z) id⟩
  par := A3.par
  parI := A3.parI
  nd := A3.nd
  dist := A3.dist
  em := A3.em
/-- what nobody owns stays through a turn -/
theorem Ab.stays (A : Ab B ρ ow σ H F) (A3 : Ab (B.at ow H F) ρ3 ow3 σ3 H3 F3) {b : Addr} {o : HO} (e : H b = some o) (f : F b = none) (n : ∀ i : Nat, b ∉ ow i) : H3 b = some o ∧ F3 b = none ∧ ∀ i : Nat, b ∉ ow3 i := by
  have np : ∀ p ∈ B.ps, p.2 ≠ b := fun p hp z => n p.1 (by
    rw [← z]
    exact (A.par p hp).2.1)
  have hb : hideOw H ow B.ps b = some o := by
    rw [hide_out, e]
    rintro ⟨⟨i, hi⟩, _⟩
    exact n i hi
  refine ⟨A3.keep b o hb np, ?_, fun i hi => ?_⟩
  · cases q : F3 b with
    | none => rfl
    | some u =>
      have z := A3.new b u q f
      rw [show (B.at ow H F).H0 b = some o from hb] at z
      cases z
  · rcases (A3.own i b hi).2.2 with z | ⟨p, hp, z⟩
    · rw [show (B.at ow H F).H0 b = some o from hb] at z
      cases z
    · exact np p hp z
end
end Mw
namespace Mw
open PySem PySem.Spec PyProof.Rows L2
theorem olst_own {F H : Hp} : ∀ {dss : List (List D)} {xs : List V} {bs : List Addr}, RepOs F H xs (dss.map L.own) bs → xs = bs.map V.ref ∧ ∀ (j : Nat) ds, dss[j]? = some ds → ∃ b ys, bs[j]? = some b ∧ H b = some (.lst ys) ∧ RepL F ys ds
  | [], _, _, h => by
    cases h
    exact ⟨rfl, fun j ds z => by cases z⟩
  | ds :: dss, _, _, h => by
    cases h with
    | cons h1 h2 =>
      cases h1 with
      | own h3 h4 =>
        obtain ⟨e, q⟩ := olst_own h2
        subst e
        refine ⟨rfl, fun j es z => ?_⟩
        cases j with
        | zero =>
          cases z
          exact ⟨_, _, rfl, h3, h4⟩
        | succ j => exact q j es z
section
variable {X : Cx} {pu p1 p2 p3 : Bool} {e a b c it tg elt : Expr} {es ifs : List Expr} {rest st : List Stmt} {ρ ρ' ρ1 ρ2 ρ3 : List SV} {r x y z : Rs} {rs rs2 : List Rs} {p pos apos cpos sp zp pp : Pos} {E : AE} {k n : Nat} {ds : List D}
/-- for x in a fresh list of own lists: each becomes the slot's own in its turn -/
theorem sx_forO {dss : List (List D)} {t : Nat} {nm : Str} (en : En X k) (N : Nl X t nm) (hi : Ev X pu it ρ ρ1 (.lo (.olst (dss.map L.own)))) (g : Nat → List SV) (h0 : Wk ρ1 (g 0)) (ht : ∀ i, i < dss.length → ∃ s, (g i)[t]? = some s ∧ s.isPar = false)
    (hs : ∀ i ds, dss[i]? = some ds → SX X st ((g i).set t (.lo (.own ds))) { nx := fun ρ' => Wk ρ' (g (i + 1)), ct := fun ρ' => Wk ρ' (g (i + 1)), bk := fun ρ' => SX X rest ρ' E, rt := E.rt })
    (hd : SX X rest (g dss.length) E) (hfs : ∀ x, foldedSetIterable it X.env x = pure x) : SX X (.For (.Name nm pp) it st [] pos :: rest) ρ E := fun B ow σ H F A D q => by
  refine ⟨_, pss_cons (ps_for en.po en.calm (pi_list pe_sem) pg_sem pss_sem hfs) pss_sem, ?_⟩
  refine hi B ow σ H F A _ fun v H1 F1 P1 k1 => ?_
  obtain ⟨as, ro, nd, fr⟩ := k1
  cases ro with
  | @olst l xs _ bs hl hos =>
    obtain ⟨exs, hbs⟩ := olst_own hos
    subst exs
    refine ⟨l, rfl, ⟨_, SqL.of hl⟩, ?_⟩
    -- what waits
    let kp : Nat → Addr → Prop := fun i b => b = l ∨ ∃ j, i ≤ j ∧ bs[j]? = some b
    have kpas : ∀ i b, kp i b → b ∈ l :: bs := fun i b h => by
      rcases h with rfl | ⟨j, _, e⟩
      · exact List.mem_cons_self ..
      · exact List.mem_cons_of_mem _ (List.mem_of_getElem? e)
    have b0 : ∀ i b, kp i b → B.H0 b = none := fun i b h => (A.nobody (fr b (kpas i b h)).2).2.1
    obtain ⟨ow0, A0, sub0⟩ : ∃ ow0, Ab B (g 0) ow0 σ H1 F1 ∧ ∀ i b, b ∈ ow0 i → b ∈ ow i := ⟨_, P1.ab.weak h0.1 h0.2.1 h0.2.2, fun i b z => owW_mem z⟩
    have lbs : bs.length = dss.length := by
      have := hos.len
      rw [List.length_map, List.length_map] at this
      exact this
    refine ⟨fun i m σ' H' => m = dss.length - i ∧ i ≤ dss.length ∧ ∃ ow' F', Ab B (g i) ow' σ' H' F' ∧ Same F1 F' ∧ ∀ b, kp i b → ∀ o, H1 b = some o → H' b = some o ∧ F' b = none ∧ ∀ s : Nat, b ∉ ow' s,
      ⟨_, rfl, Nat.zero_le _, ow0, F1, A0, Same.refl _, fun b h o e => ⟨e, (fr b (kpas 0 b h)).1, fun s z => (A.nobody (fr b (kpas 0 b h)).2).2.2 s (sub0 s b z)⟩⟩, ?_⟩
    rintro i m σ' H' ⟨rfl, hle, ow', F', A', fs, w⟩
    have hl' := (w l (.inl rfl) _ hl).1
    by_cases hlt : i < dss.length
    · refine .inr ?_
      have e : dss[i]? = some (dss[i]) := List.getElem?_eq_getElem hlt
      obtain ⟨b, ys, eb, hb, rb⟩ := hbs i _ e
      have eu : (bs.map V.ref)[i]? = some (V.ref b) := by
        rw [List.getElem?_map, eb]
        rfl
      refine ⟨⟨_, V.ref b, SqL.of hl', eu⟩, fun σ2 H2 => ∃ ow2 F2, Ab B (g (i + 1)) ow2 σ2 H2 F2 ∧ Same F1 F2 ∧ ∀ b, kp (i + 1) b → ∀ o, H1 b = some o → H2 b = some o ∧ F2 b = none ∧ ∀ s : Nat, b ∉ ow2 s,
        fun σ2 H2 ⟨ow2, F2, A2, f2, w2⟩ => ⟨dss.length - (i + 1), by omega, rfl, hlt, ow2, F2, A2, f2, w2⟩, fun x H2 hy => ?_⟩
      obtain ⟨rfl, hy⟩ := hy
      have e2 := hy _ (SqL.of hl')
      rw [eu] at e2
      cases e2
      obtain ⟨hb', fb, nb⟩ := w b (.inr ⟨i, Nat.le_refl _, eb⟩) _ hb
      obtain ⟨s, es, ns⟩ := ht i hlt
      obtain ⟨np1, hti⟩ := np_of es ns
      -- the slot takes it
      have A2 := A'.setAny (i := t) (v := .ref b) (s := .lo (.own dss[i])) (as := [b]) np1 (fun _ z => by cases z) ⟨_, rfl, .own hb' (rb.mono fs)⟩ (nodup1 b)
        (fun c hc => by
          have := List.mem_singleton.mp hc
          subst this
          exact ⟨fb, b0 i _ (.inr ⟨i, Nat.le_refl _, eb⟩), ⟨_, hb'⟩, fun j _ => nb j⟩) (fun z => absurd rfl (z _)) fun _ => hti
      refine ⟨_, pg_name N.nd N.n N.l N.f, ?_⟩
      show semSs X st _ (σ'.set t (some (.ref b))) H2
      have ndb : (l :: bs).Nodup := nd
      -- what waits for later turns
      have wait : ∀ c, kp (i + 1) c → kp i c ∧ c ≠ b := fun c h => by
        rcases h with rfl | ⟨j, hj, ej⟩
        · refine ⟨.inl rfl, fun z => ?_⟩
          exact (List.nodup_cons.mp ndb).1 (by rw [z]; exact List.mem_of_getElem? eb)
        · refine ⟨.inr ⟨j, by omega, ej⟩, fun z => ?_⟩
          subst z
          obtain ⟨hi1, ei⟩ := List.getElem?_eq_some_iff.mp eb
          obtain ⟨hj1, ejj⟩ := List.getElem?_eq_some_iff.mp ej
          exact List.pairwise_iff_getElem.mp (List.nodup_cons.mp ndb).2 i j hi1 hj1 (by omega) (ei.trans ejj.symm)
      have later : ∀ (ow4 : Ow) (σ4 : L2.St) (ρ4 : List SV) (H4 F4 : Hp), Ab (B.at (owS ow' t [b]) H2 F') ρ4 ow4 σ4 H4 F4 → Same F' F4 → Wk ρ4 (g (i + 1)) → ∃ ow2 F2, Ab B (g (i + 1)) ow2 σ4 H4 F2 ∧ Same F1 F2 ∧ ∀ b, kp (i + 1) b → ∀ o, H1 b = some o → H4 b = some o ∧ F2 b = none ∧ ∀ s : Nat, b ∉ ow2 s := fun ow4 σ4 ρ4 H4 F4 A4 f4 wk4 => by
        refine ⟨_, F4, (A2.unbase A4).weak wk4.1 wk4.2.1 wk4.2.2, fs.trans f4, fun c hc o ec => ?_⟩
        obtain ⟨h1, h2⟩ := wait c hc
        obtain ⟨q1, q2, q3⟩ := w c h1 o ec
        obtain ⟨r1, r2, r3⟩ := A2.stays A4 q1 q2 fun s hs => by
          by_cases hst : s = t
          · subst hst
            rw [owS_same] at hs
            exact h2 (List.mem_singleton.mp hs)
          · rw [owS_ne hst] at hs
            exact q3 s hs
        exact ⟨r1, r2, fun s hs => r3 s (owW_mem hs)⟩
      have f2 := P1.f.trans fs
      refine hs i _ e (B.at (owS ow' t [b]) H2 F') _ _ H2 F' A2.rebase _ ⟨fun ρ4 ow4 σ4 H4 F4 A4 f4 w4 => later ow4 σ4 ρ4 H4 F4 A4 f4 w4, fun ρ4 ow4 σ4 H4 F4 A4 f4 w4 => ?_, fun ρ4 ow4 σ4 H4 F4 A4 f4 w4 => later ow4 σ4 ρ4 H4 F4 A4 f4 w4, fun ρ4 ow4 σ4 H4 F4 r v A4 f4 k4 w4 => q.rt ρ4 ow4 σ4 H4 F4 r v (A2.unbase A4) (f2.trans f4) (k4.start fun a z => A2.back0 z) w4⟩
      exact w4 B ow4 σ4 H4 F4 (A2.unbase A4) D (q.mono (f2.trans f4))
    · have ei : i = dss.length := by omega
      refine .inl ⟨⟨_, SqL.of hl', by rw [List.length_map, lbs]; omega⟩, ?_⟩
      subst ei
      exact hd B ow' σ' H' F' A' D (q.mono (P1.f.trans fs))
end
end Mw

set_option Elab.async false
set_option linter.all false
set_option maxRecDepth 100000
set_option maxHeartbeats 4000000
/-! Mw18: comprehensions of own lists -/
namespace Mw
open PySem PySem.Spec PyProof.Rows L2
theorem RepOs.snoc {F H : Hp} : ∀ {xs : List V} {ls : List L} {as : List Addr} {v : V} {l : L} {bs : List Addr}, RepOs F H xs ls as → RepO F H v l bs → RepOs F H (xs ++ [v]) (ls ++ [l]) (as ++ bs)
  | _, _, _, v, l, bs, .nil, h => by
    have q : RepOs F H [v] [l] (bs ++ []) := .cons h .nil
    rw [List.append_nil] at q
    exact q
  | _, _, _, v, l, bs, .cons h1 h2, h => by
    rw [List.append_assoc]
    exact .cons h1 (RepOs.snoc h2 h)
section
variable {X : Cx} {pu p1 p2 p3 : Bool} {e a b c it tg elt : Expr} {es : List Expr} {rest st : List Stmt} {ρ ρ' ρ1 ρ2 ρ3 : List SV} {r x y z : Rs} {rs : List Rs} {pos : Pos} {E : AE} {scope : Scope} {vs : List Nat}
theorem lc_goO {α : Type} {ys : List α} {enc : α → D} {g : α → List D} (hi : EvI X p1 tg it ρ ρ1 (ys.map enc)) (hl : ys.length ≤ 1000000) (pl : Plain ρ1 vs)
    (hs : ∀ y ∈ ys, ∃ ρa, BTg X scope vs tg (wipeR ρ1 vs) (enc y) ρa ∧ BEv X scope true elt ρa ρa (.lo (.own (g y)))) :
    ∀ B ow σ H F, Ab B ρ ow σ H F → ∀ Q : VK, (∀ v H' F', Ps B ρ ρ1 ow σ H F p1 H' F' → RsOk ρ1 σ H H' F' (.lo (.olst (ys.map fun y => .own (g y)))) v → Q v H') →
      tLc (semI X tg it) (blkG X scope tg) (blkT X scope []) (blkE X scope elt) vs σ H Q := fun B ow σ H F A Q q => by
  refine hi B ow σ H F A _ fun J H1 F1 P1 J1 Dl hD => ?_
  have nb := P1.ab.nobody hD
  refine ⟨fun i m H' => m = ys.length - i ∧ i ≤ ys.length ∧ ∃ F', Ps B ρ1 ρ1 ow σ H1 F1 true H' F' ∧ F' Dl = none ∧ ∃ acc bs, H' Dl = some (.lst acc) ∧ RepOs F' H' acc ((ys.take i).map fun y => .own (g y)) bs ∧ acc.length = i ∧ bs.Nodup ∧ ∀ b ∈ bs, F' b = none ∧ H1 b = none ∧ b ≠ Dl ∧ ∃ o, H' b = some o,
    ⟨_, rfl, Nat.zero_le _, F1, Ps.pure P1.ab (.heap P1.ab.sub hD), nb.1, [], [], upd_same, .nil, rfl, List.nodup_nil, fun b z => by cases z⟩, ?_⟩
  rintro i m H' ⟨rfl, hle, F', P', fD, acc, bs, hacc, racc, lacc, ndb, hbs⟩
  obtain ⟨j1, j2⟩ := J1 F' H' P'.f P'.ab.sub i
  by_cases hlt : i < ys.length
  · refine .inr ?_
    have e : ys[i]? = some (ys[i]) := List.getElem?_eq_getElem hlt
    have e2 : (ys.map enc)[i]? = some (enc ys[i]) := by rw [List.getElem?_map, e]; rfl
    obtain ⟨g1, g2⟩ := j2 _ e2
    obtain ⟨ρa, t1, t3⟩ := hs _ (List.mem_of_getElem? e)
    have tk : ys.take (i + 1) = ys.take i ++ [ys[i]] := List.take_succ_eq_append_getElem hlt
    refine ⟨g1, fun H4 => ∃ F4, Ps B ρ1 ρ1 ow σ H1 F1 true H4 F4 ∧ F4 Dl = none ∧ ∃ acc bs, H4 Dl = some (.lst acc) ∧ RepOs F4 H4 acc ((ys.take (i + 1)).map fun y => .own (g y)) bs ∧ acc.length = i + 1 ∧ bs.Nodup ∧ ∀ b ∈ bs, F4 b = none ∧ H1 b = none ∧ b ≠ Dl ∧ ∃ o, H4 b = some o, fun H4 h4 => ⟨ys.length - (i + 1), by omega, rfl, hlt, h4⟩, fun x H3 hy => ?_⟩
    obtain ⟨F3, g3, rp⟩ := g2 x H3 hy
    have A3 := (P'.ab.gro g3).wipe pl
    intro s H0 C cl fp
    refine t1.go s H0 C cl fp B ow _ H3 F3 x A3 rp _ fun σ2 A4 w4 => ⟨?_, ?_⟩
    · rw [w4]
      exact wipe_eq (wipe_length ..) fun j hj => wipe_out hj
    intro s2 H02 C2 cl2 fp2
    refine bt_nil s2 H02 C2 cl2 fp2 B ow σ2 H3 F3 A4 _ fun H5 F5 P5 => ?_
    rw [if_pos rfl]
    intro s3 H03 C3 cl3 fp3
    refine t3 s3 H03 C3 cl3 fp3 B ow σ2 H5 F5 P5.ab _ fun y H6 F6 P6 k6 => ?_
    have P56 := P5.trans P6
    have bk : Back vs ρ1 ρa ρ1 := ⟨rfl, fun j hj => by rw [t1.out j hj, wipeR_out hj], fun _ _ => rfl⟩
    have s35 : Same H3 H5 := (P5.pu rfl).2
    have s56 : Same H5 H6 := (P6.pu rfl).2
    have s36 : Same H' H6 := g3.h.trans (s35.trans s56)
    have f36 : Same F' F6 := g3.f.trans P56.f
    have A6 := P'.ab.back pl P56.ab f36 w4 bk
    -- what was there and not frozen stays so
    have nf : ∀ b o, H' b = some o → F' b = none → F6 b = none := fun b o h f => by
      cases z : F6 b with
      | none => rfl
      | some u =>
        exfalso
        cases z2 : F3 b with
        | none =>
          have := P56.n b u z z2
          rw [g3.h _ _ h] at this
          cases this
        | some w =>
          have := g3.n b w z2 f
          rw [h] at this
          cases this
    have newN : ∀ a o, F6 a = some o → F1 a = none → H1 a = none := fun a o e n => by
      cases z : F' a with
      | some w => exact P'.n a w z n
      | none =>
        cases z2 : H' a with
        | none => exact P'.dom a z2
        | some o2 =>
          have := nf a o2 z2 z
          rw [e] at this
          cases this
    have P6' : Ps B ρ1 ρ1 ow σ H1 F1 true H6 F6 := ⟨A6, P'.f.trans f36, fun b o e n => s36 _ _ (P'.fr b o e n), newN, fun a e => P'.dom a (s36.free e), fun _ => ⟨rfl, (P'.pu rfl).2.trans s36⟩⟩
    have d6 : H6 Dl = some (.lst acc) := s36 _ _ hacc
    have fD6 : F6 Dl = none := nf Dl _ hacc fD
    obtain ⟨cs, ro, ndc, hcs⟩ := k6
    have h5D : H5 Dl = some (.lst acc) := s35 _ _ (g3.h _ _ hacc)
    have cD : ∀ b ∈ cs, b ≠ Dl := fun b hb z => by
      have := (hcs b hb).2
      rw [z, h5D] at this
      cases this
    have bD : ∀ b ∈ bs, b ≠ Dl := fun b hb => (hbs b hb).2.2.1
    have so : ∀ b o, b ∈ bs ++ cs → H6 b = some o → upd H6 Dl (.lst (acc ++ [y])) b = some o := fun b o hb e => by
      have hn : b ≠ Dl := by
        rcases List.mem_append.mp hb with h | h
        · exact bD b h
        · exact cD b h
      rw [upd_ne hn]
      exact e
    have r6 : RepOs F6 H6 acc ((ys.take i).map fun y => .own (g y)) bs := RepOs.mono f36 racc fun b o _ h => s36 _ _ h
    have r7 := (RepOs.snoc r6 ro)
    refine ⟨acc, d6, by rw [lacc]; exact Nat.lt_of_lt_of_le hlt (Nat.le_trans hl (by decide)), F6, ⟨P6'.ab.side fD6 nb.2.1 nb.2.2, P6'.f, fun b o e n => ?_, P6'.n, fun a e => ?_, fun _ => ⟨rfl, fun b o e => ?_⟩⟩, fD6, acc ++ [y], bs ++ cs, upd_same, ?_, ?_, ?_, ?_⟩
    · have hb : b ≠ Dl := fun z => by
        rw [z, hD] at e
        cases e
      rw [upd_ne hb]
      exact P6'.fr b o e n
    · by_cases hb : a = Dl
      · rw [hb]
        exact hD
      · rw [upd_ne hb] at e
        exact P6'.dom a e
    · have hb : b ≠ Dl := fun z => by
        rw [z, hD] at e
        cases e
      rw [upd_ne hb]
      exact (P6'.pu rfl).2 b o e
    · rw [tk, List.map_append]
      exact RepOs.mono (Same.refl _) r7 so
    · rw [List.length_append, lacc]
      rfl
    · refine List.nodup_append.mpr ⟨ndb, ndc, fun b hb c hc z => ?_⟩
      subst z
      obtain ⟨o, ho⟩ := (hbs b hb).2.2.2
      have := (hcs b hc).2
      rw [s35 _ _ (g3.h _ _ ho)] at this
      cases this
    · intro b hb
      rcases List.mem_append.mp hb with h | h
      · obtain ⟨q1, q2, q3, o, q4⟩ := hbs b h
        refine ⟨nf b o q4 q1, q2, q3, o, ?_⟩
        rw [upd_ne q3]
        exact s36 _ _ q4
      · obtain ⟨o, ho⟩ := ro.there b h
        refine ⟨(hcs b h).1, ?_, cD b h, o, ?_⟩
        · exact P'.dom b (g3.h.free (s35.free (hcs b h).2))
        · rw [upd_ne (cD b h)]
          exact ho
  · have e : i = ys.length := by omega
    subst e
    refine .inl ⟨j1 (by rw [List.length_map]; omega), ?_⟩
    rw [List.take_length] at racc
    refine q _ H' F' ((P1.trans P').as fun z => by rw [z]; rfl) ⟨Dl :: bs, .olst hacc racc, List.nodup_cons.mpr ⟨fun z => (hbs Dl z).2.2.1 rfl, ndb⟩, fun a ha => ?_⟩
    rcases List.mem_cons.mp ha with rfl | h
    · exact ⟨fD, P1.dom _ hD⟩
    · exact ⟨(hbs a h).1, P1.dom _ (hbs a h).2.1⟩
theorem ev_lcO {α : Type} {ys : List α} {enc : α → D} {g : α → List D} {own : List (Str × Nat)} (hc : X.calm = true) (hN : X.N.Nodup) (ok : BlkOk X.N X.env.scope scope own) (hfs : ∀ x, foldedSetIterable it X.env x = pure x) (hi : EvI X p1 tg it ρ ρ1 (ys.map enc)) (hl : ys.length ≤ 1000000) (pl : Plain ρ1 (own.map (·.2)))
    (hs : ∀ y ∈ ys, ∃ ρa, BTg X scope (own.map (·.2)) tg (wipeR ρ1 (own.map (·.2))) (enc y) ρa ∧ BEv X scope true elt ρa ρa (.lo (.own (g y)))) :
    Ev X p1 (.ListComp elt [⟨tg, it, [], 0⟩] scope pos) ρ ρ1 (.lo (.olst (ys.map fun y => .own (g y)))) := fun B ow σ H F A Q q =>
  ⟨_, pe_lc hc hN pi_sem ok pg_blk pt_blk pe_blk hfs, lc_goO hi hl pl hs B ow σ H F A Q q⟩
end
end Mw
namespace Mw
open PySem PySem.Spec PyProof.Rows L2
section
variable {X : Cx} {pu p1 p2 p3 : Bool} {e a b c it tg elt : Expr} {es : List Expr} {rest st s1 s2 : List Stmt} {ρ ρ' ρ1 ρ2 ρ3 : List SV} {r x y z : Rs} {rs : List Rs} {pos : Pos} {E : AE} {f f' : List SV → Prop}
theorem SX.then_mono (h : SX X st ρ (E.then f)) (w : ∀ ρ', f ρ' → f' ρ') : SX X st ρ (E.then f') := fun B ow σ H F A D q =>
  h B ow σ H F A D ⟨fun ρ ow σ H F' A g z => q.nx ρ ow σ H F' A g (w ρ z), q.bk, q.ct, q.rt⟩
/-- if, both ways meeting in J -/
theorem sx_ifJ {k : Bool} (J : List SV) (h : EvT X pu e ρ ρ1 k) (ht : k = true → SX X s1 ρ1 (E.then fun ρ' => Wk ρ' J)) (hf : k = false → SX X s2 ρ1 (E.then fun ρ' => Wk ρ' J)) (hj : SX X rest J E) : SX X (.If e s1 s2 pos :: rest) ρ E :=
  sx_if h (fun z => (ht z).then_mono fun ρ' w => sx_wk w hj) (fun z => (hf z).then_mono fun ρ' w => sx_wk w hj)
/-- a test that does not come true -/
theorem sx_ifF {k : Bool} (h : EvT X pu e ρ ρ1 k) (hk : k = false) (hj : SX X rest ρ1 E) : SX X (.If e s1 [] pos :: rest) ρ E :=
  sx_if h (fun z => by rw [hk] at z; cases z) (fun _ => sx_nil hj)
end
/-- what may be shown: lists of small ints -/
def smallL (ns : List Int) : Prop := ns.length ≤ 1000 ∧ ∀ n ∈ ns, n.natAbs < 2 ^ 1900
theorem show2 {ms ns : List Int} (h1 : smallL ms) (h2 : smallL ns) : (D.lst [dints ms, dints ns]).ok = true ∧ (D.lst [dints ms, dints ns]).wt ≤ 16000000 ∧ (D.lst [dints ms, dints ns]).dp ≤ 60 := by
  have o1 := ok_ints h1.2
  have o2 := ok_ints h2.2
  have w1 := wt_ints (ns := ms)
  have w2 := wt_ints (ns := ns)
  have d1 := dp_ints (ns := ms)
  have d2 := dp_ints (ns := ns)
  have l1 := h1.1
  have l2 := h2.1
  refine ⟨?_, ?_, ?_⟩
  · show D.oks [dints ms, dints ns] = true
    rw [oks_all, List.all_cons, List.all_cons, List.all_nil, o1, o2]
    rfl
  · have hw : D.wts [dints ms, dints ns] ≤ 2 * (2 + 1000 * 1923 + 2) := wts_le (ds := [dints ms, dints ns]) fun d hd => by
      rcases List.mem_cons.mp hd with rfl | hd
      · exact Nat.le_trans w1 (Nat.add_le_add_left (Nat.mul_le_mul_right _ l1) _)
      · rw [List.mem_singleton.mp hd]
        exact Nat.le_trans w2 (Nat.add_le_add_left (Nat.mul_le_mul_right _ l2) _)
    have e : (D.lst [dints ms, dints ns]).wt = D.wts [dints ms, dints ns] + 2 ∨ (D.lst [dints ms, dints ns]).wt = 2 + D.wts [dints ms, dints ns] := by
      unfold D.wt
      first | exact .inl rfl | exact .inr rfl
    omega
  · have hd : D.dps [dints ms, dints ns] ≤ 1 := dps_le (ds := [dints ms, dints ns]) fun d hd => by
      rcases List.mem_cons.mp hd with rfl | hd
      · exact d1
      · rw [List.mem_singleton.mp hd]
        exact d2
    have e : (D.lst [dints ms, dints ns]).dp = D.dps [dints ms, dints ns] + 1 ∨ (D.lst [dints ms, dints ns]).dp = 1 + D.dps [dints ms, dints ns] := by
      unfold D.dp
      first | exact .inl rfl | exact .inr rfl
    omega
theorem eqv_self (ns : List Int) : (dints ns).eqv (dints ns) = true := by
  rw [eqv_i]
  exact decide_eq_true rfl
end Mw

set_option Elab.async false
set_option linter.all false
set_option maxRecDepth 100000
set_option maxHeartbeats 4000000
namespace Lw
open PySem PySem.Spec PyProof.Rows L2 Mw
abbrev pw : Program := PySem.Challenge.pw_midwalk_k02_more_passes
def top (i : Nat) : Stmt := pw.main.body.getD i (.Pass ⟨0, 0, 0, 0⟩)
abbrev s_is_whole : Stmt := top 8
abbrev N_is_whole : List Str := [("thing" : Str)]
abbrev P_is_whole : List Str := [("thing" : Str)]
abbrev sc_is_whole : Scope := defScope s_is_whole
theorem fs_is_whole : FnScope N_is_whole P_is_whole sc_is_whole := ⟨rfl, rfl, rfl, by decide +kernel, rfl, by decide +kernel, by decide +kernel⟩
abbrev F_is_whole (K : PySem.W.Frag) (f : Addr) (fd : FuncData) : Prop := FunD K "is_whole" "is_whole" (defArgs s_is_whole) (defBody s_is_whole) sc_is_whole [] [] f fd
theorem nl_is_whole_0 {X : Cx} (c : Sc X N_is_whole sc_is_whole) : Nl X 0 "thing" := c.nl fs_is_whole.nd rfl (by first | exact .inl rfl | exact .inr rfl)
theorem gl_is_whole_bool {X : Cx} (c : Sc X N_is_whole sc_is_whole) : Gl X "bool" := c.gl rfl
theorem gl_is_whole_int {X : Cx} (c : Sc X N_is_whole sc_is_whole) : Gl X "int" := c.gl rfl
theorem gl_is_whole_isinstance {X : Cx} (c : Sc X N_is_whole sc_is_whole) : Gl X "isinstance" := c.gl rfl
abbrev s_is_whole_up_to : Stmt := top 9
abbrev N_is_whole_up_to : List Str := [("thing" : Str), ("most" : Str)]
abbrev P_is_whole_up_to : List Str := [("thing" : Str), ("most" : Str)]
abbrev sc_is_whole_up_to : Scope := defScope s_is_whole_up_to
theorem fs_is_whole_up_to : FnScope N_is_whole_up_to P_is_whole_up_to sc_is_whole_up_to := ⟨rfl, rfl, rfl, by decide +kernel, rfl, by decide +kernel, by decide +kernel⟩
abbrev F_is_whole_up_to (K : PySem.W.Frag) (f : Addr) (fd : FuncData) : Prop := FunD K "is_whole_up_to" "is_whole_up_to" (defArgs s_is_whole_up_to) (defBody s_is_whole_up_to) sc_is_whole_up_to [] [] f fd
theorem nl_is_whole_up_to_0 {X : Cx} (c : Sc X N_is_whole_up_to sc_is_whole_up_to) : Nl X 0 "thing" := c.nl fs_is_whole_up_to.nd rfl (by first | exact .inl rfl | exact .inr rfl)
theorem nl_is_whole_up_to_1 {X : Cx} (c : Sc X N_is_whole_up_to sc_is_whole_up_to) : Nl X 1 "most" := c.nl fs_is_whole_up_to.nd rfl (by first | exact .inl rfl | exact .inr rfl)
theorem gl_is_whole_up_to_is_whole {X : Cx} (c : Sc X N_is_whole_up_to sc_is_whole_up_to) : Gl X "is_whole" := c.gl rfl
abbrev s_is_list_up_to : Stmt := top 10
abbrev N_is_list_up_to : List Str := [("thing" : Str), ("most" : Str)]
abbrev P_is_list_up_to : List Str := [("thing" : Str), ("most" : Str)]
abbrev sc_is_list_up_to : Scope := defScope s_is_list_up_to
theorem fs_is_list_up_to : FnScope N_is_list_up_to P_is_list_up_to sc_is_list_up_to := ⟨rfl, rfl, rfl, by decide +kernel, rfl, by decide +kernel, by decide +kernel⟩
abbrev F_is_list_up_to (K : PySem.W.Frag) (f : Addr) (fd : FuncData) : Prop := FunD K "is_list_up_to" "is_list_up_to" (defArgs s_is_list_up_to) (defBody s_is_list_up_to) sc_is_list_up_to [] [] f fd
theorem nl_is_list_up_to_0 {X : Cx} (c : Sc X N_is_list_up_to sc_is_list_up_to) : Nl X 0 "thing" := c.nl fs_is_list_up_to.nd rfl (by first | exact .inl rfl | exact .inr rfl)
theorem nl_is_list_up_to_1 {X : Cx} (c : Sc X N_is_list_up_to sc_is_list_up_to) : Nl X 1 "most" := c.nl fs_is_list_up_to.nd rfl (by first | exact .inl rfl | exact .inr rfl)
theorem gl_is_list_up_to_isinstance {X : Cx} (c : Sc X N_is_list_up_to sc_is_list_up_to) : Gl X "isinstance" := c.gl rfl
theorem gl_is_list_up_to_len {X : Cx} (c : Sc X N_is_list_up_to sc_is_list_up_to) : Gl X "len" := c.gl rfl
theorem gl_is_list_up_to_list {X : Cx} (c : Sc X N_is_list_up_to sc_is_list_up_to) : Gl X "list" := c.gl rfl
abbrev s_first_wrong_mark : Stmt := top 11
abbrev N_first_wrong_mark : List Str := [("marked" : Str), ("index" : Str), ("number" : Str)]
abbrev P_first_wrong_mark : List Str := [("marked" : Str)]
abbrev sc_first_wrong_mark : Scope := defScope s_first_wrong_mark
theorem fs_first_wrong_mark : FnScope N_first_wrong_mark P_first_wrong_mark sc_first_wrong_mark := ⟨rfl, rfl, rfl, by decide +kernel, rfl, by decide +kernel, by decide +kernel⟩
abbrev F_first_wrong_mark (K : PySem.W.Frag) (f : Addr) (fd : FuncData) : Prop := FunD K "first_wrong_mark" "first_wrong_mark" (defArgs s_first_wrong_mark) (defBody s_first_wrong_mark) sc_first_wrong_mark [] [] f fd
theorem nl_first_wrong_mark_0 {X : Cx} (c : Sc X N_first_wrong_mark sc_first_wrong_mark) : Nl X 0 "marked" := c.nl fs_first_wrong_mark.nd rfl (by first | exact .inl rfl | exact .inr rfl)
theorem nl_first_wrong_mark_1 {X : Cx} (c : Sc X N_first_wrong_mark sc_first_wrong_mark) : Nl X 1 "index" := c.nl fs_first_wrong_mark.nd rfl (by first | exact .inl rfl | exact .inr rfl)
theorem nl_first_wrong_mark_2 {X : Cx} (c : Sc X N_first_wrong_mark sc_first_wrong_mark) : Nl X 2 "number" := c.nl fs_first_wrong_mark.nd rfl (by first | exact .inl rfl | exact .inr rfl)
theorem gl_first_wrong_mark_enumerate {X : Cx} (c : Sc X N_first_wrong_mark sc_first_wrong_mark) : Gl X "enumerate" := c.gl rfl
theorem gl_first_wrong_mark_is_whole {X : Cx} (c : Sc X N_first_wrong_mark sc_first_wrong_mark) : Gl X "is_whole" := c.gl rfl
abbrev s_check_values : Stmt := top 12
abbrev N_check_values : List Str := [("values" : Str), ("index" : Str), ("value" : Str)]
abbrev P_check_values : List Str := [("values" : Str)]
abbrev sc_check_values : Scope := defScope s_check_values
theorem fs_check_values : FnScope N_check_values P_check_values sc_check_values := ⟨rfl, rfl, rfl, by decide +kernel, rfl, by decide +kernel, by decide +kernel⟩
abbrev F_check_values (K : PySem.W.Frag) (f : Addr) (fd : FuncData) : Prop := FunD K "check_values" "check_values" (defArgs s_check_values) (defBody s_check_values) sc_check_values [] [] f fd
theorem nl_check_values_0 {X : Cx} (c : Sc X N_check_values sc_check_values) : Nl X 0 "values" := c.nl fs_check_values.nd rfl (by first | exact .inl rfl | exact .inr rfl)
theorem nl_check_values_1 {X : Cx} (c : Sc X N_check_values sc_check_values) : Nl X 1 "index" := c.nl fs_check_values.nd rfl (by first | exact .inl rfl | exact .inr rfl)
theorem nl_check_values_2 {X : Cx} (c : Sc X N_check_values sc_check_values) : Nl X 2 "value" := c.nl fs_check_values.nd rfl (by first | exact .inl rfl | exact .inr rfl)
theorem gl_check_values_InvalidValues {X : Cx} (c : Sc X N_check_values sc_check_values) : Gl X "InvalidValues" := c.gl rfl
theorem gl_check_values_MOST_VALUES {X : Cx} (c : Sc X N_check_values sc_check_values) : Gl X "MOST_VALUES" := c.gl rfl
theorem gl_check_values_enumerate {X : Cx} (c : Sc X N_check_values sc_check_values) : Gl X "enumerate" := c.gl rfl
theorem gl_check_values_is_list_up_to {X : Cx} (c : Sc X N_check_values sc_check_values) : Gl X "is_list_up_to" := c.gl rfl
theorem gl_check_values_is_whole {X : Cx} (c : Sc X N_check_values sc_check_values) : Gl X "is_whole" := c.gl rfl
abbrev s_check_marked : Stmt := top 13
abbrev N_check_marked : List Str := [("marked" : Str), ("wrong" : Str)]
abbrev P_check_marked : List Str := [("marked" : Str)]
abbrev sc_check_marked : Scope := defScope s_check_marked
theorem fs_check_marked : FnScope N_check_marked P_check_marked sc_check_marked := ⟨rfl, rfl, rfl, by decide +kernel, rfl, by decide +kernel, by decide +kernel⟩
abbrev F_check_marked (K : PySem.W.Frag) (f : Addr) (fd : FuncData) : Prop := FunD K "check_marked" "check_marked" (defArgs s_check_marked) (defBody s_check_marked) sc_check_marked [] [] f fd
theorem nl_check_marked_0 {X : Cx} (c : Sc X N_check_marked sc_check_marked) : Nl X 0 "marked" := c.nl fs_check_marked.nd rfl (by first | exact .inl rfl | exact .inr rfl)
theorem nl_check_marked_1 {X : Cx} (c : Sc X N_check_marked sc_check_marked) : Nl X 1 "wrong" := c.nl fs_check_marked.nd rfl (by first | exact .inl rfl | exact .inr rfl)
theorem gl_check_marked_InvalidMarked {X : Cx} (c : Sc X N_check_marked sc_check_marked) : Gl X "InvalidMarked" := c.gl rfl
theorem gl_check_marked_MOST_MARKED {X : Cx} (c : Sc X N_check_marked sc_check_marked) : Gl X "MOST_MARKED" := c.gl rfl
theorem gl_check_marked_first_wrong_mark {X : Cx} (c : Sc X N_check_marked sc_check_marked) : Gl X "first_wrong_mark" := c.gl rfl
theorem gl_check_marked_is_list_up_to {X : Cx} (c : Sc X N_check_marked sc_check_marked) : Gl X "is_list_up_to" := c.gl rfl
abbrev s_check_passes : Stmt := top 14
abbrev N_check_passes : List Str := [("passes" : Str), ("most" : Str)]
abbrev P_check_passes : List Str := [("passes" : Str), ("most" : Str)]
abbrev sc_check_passes : Scope := defScope s_check_passes
theorem fs_check_passes : FnScope N_check_passes P_check_passes sc_check_passes := ⟨rfl, rfl, rfl, by decide +kernel, rfl, by decide +kernel, by decide +kernel⟩
abbrev F_check_passes (K : PySem.W.Frag) (f : Addr) (fd : FuncData) : Prop := FunD K "check_passes" "check_passes" (defArgs s_check_passes) (defBody s_check_passes) sc_check_passes [] [] f fd
theorem nl_check_passes_0 {X : Cx} (c : Sc X N_check_passes sc_check_passes) : Nl X 0 "passes" := c.nl fs_check_passes.nd rfl (by first | exact .inl rfl | exact .inr rfl)
theorem nl_check_passes_1 {X : Cx} (c : Sc X N_check_passes sc_check_passes) : Nl X 1 "most" := c.nl fs_check_passes.nd rfl (by first | exact .inl rfl | exact .inr rfl)
theorem gl_check_passes_InvalidPasses {X : Cx} (c : Sc X N_check_passes sc_check_passes) : Gl X "InvalidPasses" := c.gl rfl
theorem gl_check_passes_is_whole_up_to {X : Cx} (c : Sc X N_check_passes sc_check_passes) : Gl X "is_whole_up_to" := c.gl rfl
abbrev s_left_by : Stmt := top 16
abbrev N_left_by : List Str := [("body" : Str), ("marked" : Str), ("values" : Str), ("rest" : Str), ("place" : Str)]
abbrev P_left_by : List Str := [("body" : Str), ("marked" : Str), ("values" : Str)]
abbrev sc_left_by : Scope := defScope s_left_by
theorem fs_left_by : FnScope N_left_by P_left_by sc_left_by := ⟨rfl, rfl, rfl, by decide +kernel, rfl, by decide +kernel, by decide +kernel⟩
abbrev F_left_by (K : PySem.W.Frag) (f : Addr) (fd : FuncData) : Prop := FunD K "left_by" "left_by" (defArgs s_left_by) (defBody s_left_by) sc_left_by [] [] f fd
theorem nl_left_by_0 {X : Cx} (c : Sc X N_left_by sc_left_by) : Nl X 0 "body" := c.nl fs_left_by.nd rfl (by first | exact .inl rfl | exact .inr rfl)
theorem nl_left_by_1 {X : Cx} (c : Sc X N_left_by sc_left_by) : Nl X 1 "marked" := c.nl fs_left_by.nd rfl (by first | exact .inl rfl | exact .inr rfl)
theorem nl_left_by_2 {X : Cx} (c : Sc X N_left_by sc_left_by) : Nl X 2 "values" := c.nl fs_left_by.nd rfl (by first | exact .inl rfl | exact .inr rfl)
theorem nl_left_by_3 {X : Cx} (c : Sc X N_left_by sc_left_by) : Nl X 3 "rest" := c.nl fs_left_by.nd rfl (by first | exact .inl rfl | exact .inr rfl)
theorem nl_left_by_4 {X : Cx} (c : Sc X N_left_by sc_left_by) : Nl X 4 "place" := c.nl fs_left_by.nd rfl (by first | exact .inl rfl | exact .inr rfl)
theorem gl_left_by_len {X : Cx} (c : Sc X N_left_by sc_left_by) : Gl X "len" := c.gl rfl
theorem gl_left_by_list {X : Cx} (c : Sc X N_left_by sc_left_by) : Gl X "list" := c.gl rfl
abbrev s_drop_visited : Stmt := top 17
abbrev N_drop_visited : List Str := [("rest" : Str), ("place" : Str)]
abbrev P_drop_visited : List Str := [("rest" : Str), ("place" : Str)]
abbrev sc_drop_visited : Scope := defScope s_drop_visited
theorem fs_drop_visited : FnScope N_drop_visited P_drop_visited sc_drop_visited := ⟨rfl, rfl, rfl, by decide +kernel, rfl, by decide +kernel, by decide +kernel⟩
abbrev F_drop_visited (K : PySem.W.Frag) (f : Addr) (fd : FuncData) : Prop := FunD K "drop_visited" "drop_visited" (defArgs s_drop_visited) (defBody s_drop_visited) sc_drop_visited [] [] f fd
theorem nl_drop_visited_0 {X : Cx} (c : Sc X N_drop_visited sc_drop_visited) : Nl X 0 "rest" := c.nl fs_drop_visited.nd rfl (by first | exact .inl rfl | exact .inr rfl)
theorem nl_drop_visited_1 {X : Cx} (c : Sc X N_drop_visited sc_drop_visited) : Nl X 1 "place" := c.nl fs_drop_visited.nd rfl (by first | exact .inl rfl | exact .inr rfl)
abbrev s_check_both : Stmt := top 19
abbrev N_check_both : List Str := [("marked" : Str), ("values" : Str)]
abbrev P_check_both : List Str := [("marked" : Str), ("values" : Str)]
abbrev sc_check_both : Scope := defScope s_check_both
theorem fs_check_both : FnScope N_check_both P_check_both sc_check_both := ⟨rfl, rfl, rfl, by decide +kernel, rfl, by decide +kernel, by decide +kernel⟩
abbrev F_check_both (K : PySem.W.Frag) (f : Addr) (fd : FuncData) : Prop := FunD K "check_both" "check_both" (defArgs s_check_both) (defBody s_check_both) sc_check_both [] [] f fd
theorem nl_check_both_0 {X : Cx} (c : Sc X N_check_both sc_check_both) : Nl X 0 "marked" := c.nl fs_check_both.nd rfl (by first | exact .inl rfl | exact .inr rfl)
theorem nl_check_both_1 {X : Cx} (c : Sc X N_check_both sc_check_both) : Nl X 1 "values" := c.nl fs_check_both.nd rfl (by first | exact .inl rfl | exact .inr rfl)
theorem gl_check_both_check_marked {X : Cx} (c : Sc X N_check_both sc_check_both) : Gl X "check_marked" := c.gl rfl
theorem gl_check_both_check_values {X : Cx} (c : Sc X N_check_both sc_check_both) : Gl X "check_values" := c.gl rfl
abbrev s_after_passes : Stmt := top 20
abbrev N_after_passes : List Str := [("marked" : Str), ("values" : Str), ("passes" : Str), ("rest" : Str), ("_" : Str)]
abbrev P_after_passes : List Str := [("marked" : Str), ("values" : Str), ("passes" : Str)]
abbrev sc_after_passes : Scope := defScope s_after_passes
theorem fs_after_passes : FnScope N_after_passes P_after_passes sc_after_passes := ⟨rfl, rfl, rfl, by decide +kernel, rfl, by decide +kernel, by decide +kernel⟩
abbrev F_after_passes (K : PySem.W.Frag) (f : Addr) (fd : FuncData) : Prop := FunD K "after_passes" "after_passes" (defArgs s_after_passes) (defBody s_after_passes) sc_after_passes [] [("passes", .int 1)] f fd
theorem nl_after_passes_0 {X : Cx} (c : Sc X N_after_passes sc_after_passes) : Nl X 0 "marked" := c.nl fs_after_passes.nd rfl (by first | exact .inl rfl | exact .inr rfl)
theorem nl_after_passes_1 {X : Cx} (c : Sc X N_after_passes sc_after_passes) : Nl X 1 "values" := c.nl fs_after_passes.nd rfl (by first | exact .inl rfl | exact .inr rfl)
theorem nl_after_passes_2 {X : Cx} (c : Sc X N_after_passes sc_after_passes) : Nl X 2 "passes" := c.nl fs_after_passes.nd rfl (by first | exact .inl rfl | exact .inr rfl)
theorem nl_after_passes_3 {X : Cx} (c : Sc X N_after_passes sc_after_passes) : Nl X 3 "rest" := c.nl fs_after_passes.nd rfl (by first | exact .inl rfl | exact .inr rfl)
theorem nl_after_passes_4 {X : Cx} (c : Sc X N_after_passes sc_after_passes) : Nl X 4 "_" := c.nl fs_after_passes.nd rfl (by first | exact .inl rfl | exact .inr rfl)
theorem gl_after_passes_MOST_PASSES {X : Cx} (c : Sc X N_after_passes sc_after_passes) : Gl X "MOST_PASSES" := c.gl rfl
theorem gl_after_passes_check_both {X : Cx} (c : Sc X N_after_passes sc_after_passes) : Gl X "check_both" := c.gl rfl
theorem gl_after_passes_check_passes {X : Cx} (c : Sc X N_after_passes sc_after_passes) : Gl X "check_passes" := c.gl rfl
theorem gl_after_passes_drop_visited {X : Cx} (c : Sc X N_after_passes sc_after_passes) : Gl X "drop_visited" := c.gl rfl
theorem gl_after_passes_left_by {X : Cx} (c : Sc X N_after_passes sc_after_passes) : Gl X "left_by" := c.gl rfl
theorem gl_after_passes_list {X : Cx} (c : Sc X N_after_passes sc_after_passes) : Gl X "list" := c.gl rfl
theorem gl_after_passes_range {X : Cx} (c : Sc X N_after_passes sc_after_passes) : Gl X "range" := c.gl rfl
abbrev s_passes_needed : Stmt := top 21
abbrev N_passes_needed : List Str := [("marked" : Str), ("values" : Str), ("longest" : Str), ("_" : Str), ("length" : Str)]
abbrev P_passes_needed : List Str := [("marked" : Str), ("values" : Str)]
abbrev sc_passes_needed : Scope := defScope s_passes_needed
theorem fs_passes_needed : FnScope N_passes_needed P_passes_needed sc_passes_needed := ⟨rfl, rfl, rfl, by decide +kernel, rfl, by decide +kernel, by decide +kernel⟩
abbrev F_passes_needed (K : PySem.W.Frag) (f : Addr) (fd : FuncData) : Prop := FunD K "passes_needed" "passes_needed" (defArgs s_passes_needed) (defBody s_passes_needed) sc_passes_needed [] [] f fd
theorem nl_passes_needed_0 {X : Cx} (c : Sc X N_passes_needed sc_passes_needed) : Nl X 0 "marked" := c.nl fs_passes_needed.nd rfl (by first | exact .inl rfl | exact .inr rfl)
theorem nl_passes_needed_1 {X : Cx} (c : Sc X N_passes_needed sc_passes_needed) : Nl X 1 "values" := c.nl fs_passes_needed.nd rfl (by first | exact .inl rfl | exact .inr rfl)
theorem nl_passes_needed_2 {X : Cx} (c : Sc X N_passes_needed sc_passes_needed) : Nl X 2 "longest" := c.nl fs_passes_needed.nd rfl (by first | exact .inl rfl | exact .inr rfl)
theorem gl_passes_needed_max {X : Cx} (c : Sc X N_passes_needed sc_passes_needed) : Gl X "max" := c.gl rfl
theorem gl_passes_needed_runs {X : Cx} (c : Sc X N_passes_needed sc_passes_needed) : Gl X "runs" := c.gl rfl
abbrev s_runs : Stmt := top 22
abbrev N_runs : List Str := [("marked" : Str), ("values" : Str), ("found" : Str), ("length" : Str), ("place" : Str), ("value" : Str)]
abbrev P_runs : List Str := [("marked" : Str), ("values" : Str)]
abbrev sc_runs : Scope := defScope s_runs
theorem fs_runs : FnScope N_runs P_runs sc_runs := ⟨rfl, rfl, rfl, by decide +kernel, rfl, by decide +kernel, by decide +kernel⟩
abbrev F_runs (K : PySem.W.Frag) (f : Addr) (fd : FuncData) : Prop := FunD K "runs" "runs" (defArgs s_runs) (defBody s_runs) sc_runs [] [] f fd
theorem nl_runs_0 {X : Cx} (c : Sc X N_runs sc_runs) : Nl X 0 "marked" := c.nl fs_runs.nd rfl (by first | exact .inl rfl | exact .inr rfl)
theorem nl_runs_1 {X : Cx} (c : Sc X N_runs sc_runs) : Nl X 1 "values" := c.nl fs_runs.nd rfl (by first | exact .inl rfl | exact .inr rfl)
theorem nl_runs_2 {X : Cx} (c : Sc X N_runs sc_runs) : Nl X 2 "found" := c.nl fs_runs.nd rfl (by first | exact .inl rfl | exact .inr rfl)
theorem nl_runs_3 {X : Cx} (c : Sc X N_runs sc_runs) : Nl X 3 "length" := c.nl fs_runs.nd rfl (by first | exact .inl rfl | exact .inr rfl)
theorem nl_runs_4 {X : Cx} (c : Sc X N_runs sc_runs) : Nl X 4 "place" := c.nl fs_runs.nd rfl (by first | exact .inl rfl | exact .inr rfl)
theorem nl_runs_5 {X : Cx} (c : Sc X N_runs sc_runs) : Nl X 5 "value" := c.nl fs_runs.nd rfl (by first | exact .inl rfl | exact .inr rfl)
theorem gl_runs_check_both {X : Cx} (c : Sc X N_runs sc_runs) : Gl X "check_both" := c.gl rfl
theorem gl_runs_enumerate {X : Cx} (c : Sc X N_runs sc_runs) : Gl X "enumerate" := c.gl rfl
theorem gl_runs_len {X : Cx} (c : Sc X N_runs sc_runs) : Gl X "len" := c.gl rfl
abbrev s_draws : Stmt := top 24
abbrev N_draws : List Str := [("_law_cell" : Str)]
abbrev P_draws : List Str := [("_law_cell" : Str)]
abbrev sc_draws : Scope := defScope s_draws
theorem fs_draws : FnScope N_draws P_draws sc_draws := ⟨rfl, rfl, rfl, by decide +kernel, rfl, by decide +kernel, by decide +kernel⟩
abbrev F_draws (K : PySem.W.Frag) (f : Addr) (fd : FuncData) : Prop := FunD K "_law_draws" "_law_draws" (defArgs s_draws) (defBody s_draws) sc_draws [] [] f fd
theorem nl_draws_0 {X : Cx} (c : Sc X N_draws sc_draws) : Nl X 0 "_law_cell" := c.nl fs_draws.nd rfl (by first | exact .inl rfl | exact .inr rfl)
theorem gl_draws_int {X : Cx} (c : Sc X N_draws sc_draws) : Gl X "int" := c.gl rfl
abbrev s_next : Stmt := top 25
abbrev N_next : List Str := [("_law_draws_here" : Str), ("_law_k" : Str), ("_law_number" : Str)]
abbrev P_next : List Str := [("_law_draws_here" : Str)]
abbrev sc_next : Scope := defScope s_next
theorem fs_next : FnScope N_next P_next sc_next := ⟨rfl, rfl, rfl, by decide +kernel, rfl, by decide +kernel, by decide +kernel⟩
abbrev F_next (K : PySem.W.Frag) (f : Addr) (fd : FuncData) : Prop := FunD K "_law_next" "_law_next" (defArgs s_next) (defBody s_next) sc_next [] [] f fd
theorem nl_next_0 {X : Cx} (c : Sc X N_next sc_next) : Nl X 0 "_law_draws_here" := c.nl fs_next.nd rfl (by first | exact .inl rfl | exact .inr rfl)
theorem nl_next_1 {X : Cx} (c : Sc X N_next sc_next) : Nl X 1 "_law_k" := c.nl fs_next.nd rfl (by first | exact .inl rfl | exact .inr rfl)
theorem nl_next_2 {X : Cx} (c : Sc X N_next sc_next) : Nl X 2 "_law_number" := c.nl fs_next.nd rfl (by first | exact .inl rfl | exact .inr rfl)
theorem gl_next_int {X : Cx} (c : Sc X N_next sc_next) : Gl X "int" := c.gl rfl
abbrev s_marks : Stmt := top 26
abbrev N_marks : List Str := [("_law_draws_here" : Str), ("_law_most" : Str), ("_law_wide" : Str), ("_law_told" : Str), ("_law_k" : Str), ("_law_value" : Str)]
abbrev P_marks : List Str := [("_law_draws_here" : Str), ("_law_most" : Str)]
abbrev sc_marks : Scope := defScope s_marks
theorem fs_marks : FnScope N_marks P_marks sc_marks := ⟨rfl, rfl, rfl, by decide +kernel, rfl, by decide +kernel, by decide +kernel⟩
abbrev F_marks (K : PySem.W.Frag) (f : Addr) (fd : FuncData) : Prop := FunD K "_law_marks" "_law_marks" (defArgs s_marks) (defBody s_marks) sc_marks [] [] f fd
theorem nl_marks_0 {X : Cx} (c : Sc X N_marks sc_marks) : Nl X 0 "_law_draws_here" := c.nl fs_marks.nd rfl (by first | exact .inl rfl | exact .inr rfl)
theorem nl_marks_1 {X : Cx} (c : Sc X N_marks sc_marks) : Nl X 1 "_law_most" := c.nl fs_marks.nd rfl (by first | exact .inl rfl | exact .inr rfl)
theorem nl_marks_2 {X : Cx} (c : Sc X N_marks sc_marks) : Nl X 2 "_law_wide" := c.nl fs_marks.nd rfl (by first | exact .inl rfl | exact .inr rfl)
theorem nl_marks_3 {X : Cx} (c : Sc X N_marks sc_marks) : Nl X 3 "_law_told" := c.nl fs_marks.nd rfl (by first | exact .inl rfl | exact .inr rfl)
theorem nl_marks_4 {X : Cx} (c : Sc X N_marks sc_marks) : Nl X 4 "_law_k" := c.nl fs_marks.nd rfl (by first | exact .inl rfl | exact .inr rfl)
theorem nl_marks_5 {X : Cx} (c : Sc X N_marks sc_marks) : Nl X 5 "_law_value" := c.nl fs_marks.nd rfl (by first | exact .inl rfl | exact .inr rfl)
theorem gl_marks_next {X : Cx} (c : Sc X N_marks sc_marks) : Gl X "_law_next" := c.gl rfl
theorem gl_marks_int {X : Cx} (c : Sc X N_marks sc_marks) : Gl X "int" := c.gl rfl
theorem gl_marks_range {X : Cx} (c : Sc X N_marks sc_marks) : Gl X "range" := c.gl rfl
abbrev s_list : Stmt := top 27
abbrev N_list : List Str := [("_law_draws_here" : Str), ("_law_most" : Str), ("_law_kind" : Str), ("_law_told" : Str), ("_law_k" : Str), ("_law_pick" : Str), ("_law_seldom" : Str)]
abbrev P_list : List Str := [("_law_draws_here" : Str), ("_law_most" : Str)]
abbrev sc_list : Scope := defScope s_list
theorem fs_list : FnScope N_list P_list sc_list := ⟨rfl, rfl, rfl, by decide +kernel, rfl, by decide +kernel, by decide +kernel⟩
abbrev F_list (K : PySem.W.Frag) (f : Addr) (fd : FuncData) : Prop := FunD K "_law_list" "_law_list" (defArgs s_list) (defBody s_list) sc_list [] [] f fd
theorem nl_list_0 {X : Cx} (c : Sc X N_list sc_list) : Nl X 0 "_law_draws_here" := c.nl fs_list.nd rfl (by first | exact .inl rfl | exact .inr rfl)
theorem nl_list_1 {X : Cx} (c : Sc X N_list sc_list) : Nl X 1 "_law_most" := c.nl fs_list.nd rfl (by first | exact .inl rfl | exact .inr rfl)
theorem nl_list_2 {X : Cx} (c : Sc X N_list sc_list) : Nl X 2 "_law_kind" := c.nl fs_list.nd rfl (by first | exact .inl rfl | exact .inr rfl)
theorem nl_list_3 {X : Cx} (c : Sc X N_list sc_list) : Nl X 3 "_law_told" := c.nl fs_list.nd rfl (by first | exact .inl rfl | exact .inr rfl)
theorem nl_list_4 {X : Cx} (c : Sc X N_list sc_list) : Nl X 4 "_law_k" := c.nl fs_list.nd rfl (by first | exact .inl rfl | exact .inr rfl)
theorem nl_list_5 {X : Cx} (c : Sc X N_list sc_list) : Nl X 5 "_law_pick" := c.nl fs_list.nd rfl (by first | exact .inl rfl | exact .inr rfl)
theorem nl_list_6 {X : Cx} (c : Sc X N_list sc_list) : Nl X 6 "_law_seldom" := c.nl fs_list.nd rfl (by first | exact .inl rfl | exact .inr rfl)
theorem gl_list_next {X : Cx} (c : Sc X N_list sc_list) : Gl X "_law_next" := c.gl rfl
theorem gl_list_int {X : Cx} (c : Sc X N_list sc_list) : Gl X "int" := c.gl rfl
theorem gl_list_range {X : Cx} (c : Sc X N_list sc_list) : Gl X "range" := c.gl rfl
abbrev s_left : Stmt := top 28
abbrev N_left : List Str := [("_law_marks_here" : Str), ("_law_row" : Str), ("_law_told" : Str), ("_law_place" : Str), ("_law_value" : Str)]
abbrev P_left : List Str := [("_law_marks_here" : Str), ("_law_row" : Str)]
abbrev sc_left : Scope := defScope s_left
theorem fs_left : FnScope N_left P_left sc_left := ⟨rfl, rfl, rfl, by decide +kernel, rfl, by decide +kernel, by decide +kernel⟩
abbrev F_left (K : PySem.W.Frag) (f : Addr) (fd : FuncData) : Prop := FunD K "_law_left" "_law_left" (defArgs s_left) (defBody s_left) sc_left [] [] f fd
theorem nl_left_0 {X : Cx} (c : Sc X N_left sc_left) : Nl X 0 "_law_marks_here" := c.nl fs_left.nd rfl (by first | exact .inl rfl | exact .inr rfl)
theorem nl_left_1 {X : Cx} (c : Sc X N_left sc_left) : Nl X 1 "_law_row" := c.nl fs_left.nd rfl (by first | exact .inl rfl | exact .inr rfl)
theorem nl_left_2 {X : Cx} (c : Sc X N_left sc_left) : Nl X 2 "_law_told" := c.nl fs_left.nd rfl (by first | exact .inl rfl | exact .inr rfl)
theorem nl_left_3 {X : Cx} (c : Sc X N_left sc_left) : Nl X 3 "_law_place" := c.nl fs_left.nd rfl (by first | exact .inl rfl | exact .inr rfl)
theorem nl_left_4 {X : Cx} (c : Sc X N_left sc_left) : Nl X 4 "_law_value" := c.nl fs_left.nd rfl (by first | exact .inl rfl | exact .inr rfl)
theorem gl_left_len {X : Cx} (c : Sc X N_left sc_left) : Gl X "len" := c.gl rfl
theorem gl_left_list {X : Cx} (c : Sc X N_left sc_left) : Gl X "list" := c.gl rfl
abbrev s_long : Stmt := top 29
abbrev N_long : List Str := [("_law_draws_here" : Str), ("_law_told" : Str), ("_law_k" : Str)]
abbrev P_long : List Str := [("_law_draws_here" : Str)]
abbrev sc_long : Scope := defScope s_long
theorem fs_long : FnScope N_long P_long sc_long := ⟨rfl, rfl, rfl, by decide +kernel, rfl, by decide +kernel, by decide +kernel⟩
abbrev F_long (K : PySem.W.Frag) (f : Addr) (fd : FuncData) : Prop := FunD K "_law_long" "_law_long" (defArgs s_long) (defBody s_long) sc_long [] [] f fd
theorem nl_long_0 {X : Cx} (c : Sc X N_long sc_long) : Nl X 0 "_law_draws_here" := c.nl fs_long.nd rfl (by first | exact .inl rfl | exact .inr rfl)
theorem nl_long_1 {X : Cx} (c : Sc X N_long sc_long) : Nl X 1 "_law_told" := c.nl fs_long.nd rfl (by first | exact .inl rfl | exact .inr rfl)
theorem nl_long_2 {X : Cx} (c : Sc X N_long sc_long) : Nl X 2 "_law_k" := c.nl fs_long.nd rfl (by first | exact .inl rfl | exact .inr rfl)
theorem gl_long_next {X : Cx} (c : Sc X N_long sc_long) : Gl X "_law_next" := c.gl rfl
theorem gl_long_int {X : Cx} (c : Sc X N_long sc_long) : Gl X "int" := c.gl rfl
theorem gl_long_range {X : Cx} (c : Sc X N_long sc_long) : Gl X "range" := c.gl rfl
abbrev s_right : Stmt := top 30
abbrev N_right : List Str := [("_law_draws_here" : Str), ("_law_row" : Str), ("_law_marks_here" : Str), ("_law_before" : Str), ("_law_left_here" : Str), ("_law_many" : Str), ("_law_a_passes" : Str), ("_law_told" : Str), ("_law_value" : Str)]
abbrev P_right : List Str := [("_law_draws_here" : Str), ("_law_row" : Str)]
abbrev sc_right : Scope := defScope s_right
theorem fs_right : FnScope N_right P_right sc_right := ⟨rfl, rfl, rfl, by decide +kernel, rfl, by decide +kernel, by decide +kernel⟩
abbrev F_right (K : PySem.W.Frag) (f : Addr) (fd : FuncData) : Prop := FunD K "_law_right" "_law_right" (defArgs s_right) (defBody s_right) sc_right [] [] f fd
theorem nl_right_0 {X : Cx} (c : Sc X N_right sc_right) : Nl X 0 "_law_draws_here" := c.nl fs_right.nd rfl (by first | exact .inl rfl | exact .inr rfl)
theorem nl_right_1 {X : Cx} (c : Sc X N_right sc_right) : Nl X 1 "_law_row" := c.nl fs_right.nd rfl (by first | exact .inl rfl | exact .inr rfl)
theorem nl_right_2 {X : Cx} (c : Sc X N_right sc_right) : Nl X 2 "_law_marks_here" := c.nl fs_right.nd rfl (by first | exact .inl rfl | exact .inr rfl)
theorem nl_right_3 {X : Cx} (c : Sc X N_right sc_right) : Nl X 3 "_law_before" := c.nl fs_right.nd rfl (by first | exact .inl rfl | exact .inr rfl)
theorem nl_right_4 {X : Cx} (c : Sc X N_right sc_right) : Nl X 4 "_law_left_here" := c.nl fs_right.nd rfl (by first | exact .inl rfl | exact .inr rfl)
theorem nl_right_5 {X : Cx} (c : Sc X N_right sc_right) : Nl X 5 "_law_many" := c.nl fs_right.nd rfl (by first | exact .inl rfl | exact .inr rfl)
theorem nl_right_6 {X : Cx} (c : Sc X N_right sc_right) : Nl X 6 "_law_a_passes" := c.nl fs_right.nd rfl (by first | exact .inl rfl | exact .inr rfl)
theorem nl_right_7 {X : Cx} (c : Sc X N_right sc_right) : Nl X 7 "_law_told" := c.nl fs_right.nd rfl (by first | exact .inl rfl | exact .inr rfl)
theorem gl_right_left {X : Cx} (c : Sc X N_right sc_right) : Gl X "_law_left" := c.gl rfl
theorem gl_right_marks {X : Cx} (c : Sc X N_right sc_right) : Gl X "_law_marks" := c.gl rfl
theorem gl_right_after_passes {X : Cx} (c : Sc X N_right sc_right) : Gl X "after_passes" := c.gl rfl
theorem gl_right_passes_needed {X : Cx} (c : Sc X N_right sc_right) : Gl X "passes_needed" := c.gl rfl
theorem gl_right_range {X : Cx} (c : Sc X N_right sc_right) : Gl X "range" := c.gl rfl
theorem gl_right_repr {X : Cx} (c : Sc X N_right sc_right) : Gl X "repr" := c.gl rfl
abbrev s_law : Stmt := top 31
abbrev N_law : List Str := [("_law_script" : Str), ("_law_draws_here" : Str), ("_law_row" : Str), ("_law_many" : Str), ("_law_due" : Str), ("_law_cell" : Str), ("_law_one" : Str)]
abbrev P_law : List Str := [("_law_script" : Str)]
abbrev sc_law : Scope := defScope s_law
theorem fs_law : FnScope N_law P_law sc_law := ⟨rfl, rfl, rfl, by decide +kernel, rfl, by decide +kernel, by decide +kernel⟩
abbrev F_law (K : PySem.W.Frag) (f : Addr) (fd : FuncData) : Prop := FunD K "law" "law" (defArgs s_law) (defBody s_law) sc_law [] [] f fd
theorem nl_law_0 {X : Cx} (c : Sc X N_law sc_law) : Nl X 0 "_law_script" := c.nl fs_law.nd rfl (by first | exact .inl rfl | exact .inr rfl)
theorem nl_law_1 {X : Cx} (c : Sc X N_law sc_law) : Nl X 1 "_law_draws_here" := c.nl fs_law.nd rfl (by first | exact .inl rfl | exact .inr rfl)
theorem nl_law_2 {X : Cx} (c : Sc X N_law sc_law) : Nl X 2 "_law_row" := c.nl fs_law.nd rfl (by first | exact .inl rfl | exact .inr rfl)
theorem nl_law_3 {X : Cx} (c : Sc X N_law sc_law) : Nl X 3 "_law_many" := c.nl fs_law.nd rfl (by first | exact .inl rfl | exact .inr rfl)
theorem nl_law_4 {X : Cx} (c : Sc X N_law sc_law) : Nl X 4 "_law_due" := c.nl fs_law.nd rfl (by first | exact .inl rfl | exact .inr rfl)
theorem gl_law_list {X : Cx} (c : Sc X N_law sc_law) : Gl X "_law_list" := c.gl rfl
theorem gl_law_long {X : Cx} (c : Sc X N_law sc_law) : Gl X "_law_long" := c.gl rfl
theorem gl_law_right {X : Cx} (c : Sc X N_law sc_law) : Gl X "_law_right" := c.gl rfl
theorem gl_law_int {X : Cx} (c : Sc X N_law sc_law) : Gl X "int" := c.gl rfl
theorem gl_law_len {X : Cx} (c : Sc X N_law sc_law) : Gl X "len" := c.gl rfl
theorem gl_law_passes_needed {X : Cx} (c : Sc X N_law sc_law) : Gl X "passes_needed" := c.gl rfl
theorem gl_law_range {X : Cx} (c : Sc X N_law sc_law) : Gl X "range" := c.gl rfl
end Lw

set_option Elab.async false
set_option linter.all false
set_option maxRecDepth 100000
set_option maxHeartbeats 4000000
namespace Lw
open PySem PySem.Spec PyProof.Rows L2 Mw
local macro_rules | `(tactic| walk_at "Mkb") => `(tactic| first | exact kb_NoneType_int | exact kb_NoneType_bool | exact kb_NoneType_list | exact kb_NoneType_str | exact kb_NoneType_dict | exact kb_NoneType_tuple | exact kb_bool_int | exact kb_bool_bool | exact kb_bool_list | exact kb_bool_str | exact kb_bool_dict | exact kb_bool_tuple | exact kb_int_int | exact kb_int_bool | exact kb_int_list | exact kb_int_str | exact kb_int_dict | exact kb_int_tuple | exact kb_str_int | exact kb_str_bool | exact kb_str_list | exact kb_str_str | exact kb_str_dict | exact kb_str_tuple | exact kb_list_int | exact kb_list_bool | exact kb_list_list | exact kb_list_str | exact kb_list_dict | exact kb_list_tuple | exact kb_tuple_int | exact kb_tuple_bool | exact kb_tuple_list | exact kb_tuple_str | exact kb_tuple_dict | exact kb_tuple_tuple | exact kb_dict_int | exact kb_dict_bool | exact kb_dict_list | exact kb_dict_str | exact kb_dict_dict | exact kb_dict_tuple)
local macro_rules | `(tactic| walk_at "Mn") => `(tactic| with_reducible assumption)
local macro_rules | `(tactic| walk_at "Mnum") => `(tactic| first | assumption | decide | omega | (constructor <;> first | assumption | decide | omega))
local macro_rules | `(tactic| walk_at "Mcv") => `(tactic| first | exact cv_d | exact cv_own | exact cv_at | exact Cv.refl)
local macro_rules | `(tactic| walk_at "Mev") => `(tactic| first
  | exact ev_int | exact ev_bl | exact ev_non | exact ev_str
  | (refine' ev_d ?hn ?hs; (case hn => walk_at "Mn"); (case hs => rfl))
  | (refine' ev_at ?hn ?hs; (case hn => walk_at "Mn"); (case hs => first | exact .inl rfl | exact .inr rfl))
  | (refine' ev_lo ?hn ?hs; (case hn => walk_at "Mn"); (case hs => rfl))
  | (refine' ev_add ?h1 ?h2; (case h1 => walk_at "Mev"); (case h2 => walk_at "Mev"))
  | (refine' ev_sub ?h1 ?h2; (case h1 => walk_at "Mev"); (case h2 => walk_at "Mev"))
  | (refine' ev_pow ?h1 ?h2 ?h3; (case h1 => walk_at "Mev"); (case h2 => walk_at "Mev"); (case h3 => walk_at "Mnum"))
  | (refine' ev_mod ?h1 ?h2 ?h3; (case h1 => walk_at "Mev"); (case h2 => walk_at "Mev"); (case h3 => walk_at "Mnum"))
  | (refine' ev_fdiv ?h1 ?h2 ?h3; (case h1 => walk_at "Mev"); (case h2 => walk_at "Mev"); (case h3 => walk_at "Mnum"))
  | (refine' ev_mul ?h1 ?h2 ?h3; (case h1 => walk_at "Mev"); (case h2 => walk_at "Mev"); (case h3 => first | assumption | (left; constructor <;> walk_at "Mnum") | (right; constructor <;> walk_at "Mnum")))
  | (refine' ev_intI ?h0 ?h1 rfl; (case h0 => walk_at "Mn"); (case h1 => walk_at "Mev"))
  | (refine' ev_intB ?h0 ?h1 rfl; (case h0 => walk_at "Mn"); (case h1 => walk_at "Mev"))
  | (refine' ev_next ?C ?en ?g ?m ?h ?b; (case C => walk_at "Mn"); (case en => walk_at "Mn"); (case g => walk_at "Mn"); (case m => walk_at "Mn"); (case h => first | exact .inr rfl | exact .inl rfl); (case b => walk_at "Mdr"))
  | (refine' ev_pick ?h1 ?h2 ?hp ?h3 ?h6; (case h1 => walk_at "Mev"); (case h2 => walk_at "Mev"); (case hp => first | exact .inl rfl | exact .inr rfl); (case h3 => walk_at "Mcv"); (case h6 => exact fun _ _ => rfl))
  | (refine' ev_globI ?g ?m rfl; (case g => walk_at "Mn"); (case m => walk_at "Mn"))
  | (refine' ev_isi ?h0 ?h1 ?h2 ?h3 ?h4 rfl rfl rfl; (case h0 => walk_at "Mn"); (case h1 => walk_at "Mn"); (case h2 => walk_at "Mev"); (case h3 => rfl); (case h4 => walk_at "Mkb"))
  | (refine' ev_len ?h0 ?h1 ?h2 rfl; (case h0 => walk_at "Mn"); (case h1 => walk_at "Mev"); (case h2 => walk_at "Mcv"))
  | (refine' ev_list ?h0 ?h1 ?h2 rfl; (case h0 => walk_at "Mn"); (case h1 => walk_at "Mev"); (case h2 => walk_at "Mcv"))
  | (refine' Ev.cast ?hh ?qq; (case hh => (refine' ev_go ?C ?en ?g ?a ?ha ?hd ?l1 ?hp ?hi rfl rfl rfl; (case C => walk_at "Mn"); (case en => walk_at "Mn"); (case g => walk_at "Mn"); (case ha => walk_at "Mea"); (case hd => rfl); (case l1 => rfl); (case hi => rfl); (case hp => walk_at "Mpre"))); (case qq => rfl))
  | (refine' Ev.cast ?hh ?qq; (case hh => (refine' ev_go ?C ?en ?g (?a, ?b) ?ha ?hd ?l1 ?hp ?hi rfl rfl rfl; (case C => walk_at "Mn"); (case en => walk_at "Mn"); (case g => walk_at "Mn"); (case ha => walk_at "Mea"); (case hd => rfl); (case l1 => rfl); (case hi => rfl); (case hp => walk_at "Mpre"))); (case qq => rfl))
  | (refine' Ev.cast ?hh ?qq; (case hh => (refine' ev_go ?C ?en ?g (?a, ?b, ?c) ?ha ?hd ?l1 ?hp ?hi rfl rfl rfl; (case C => walk_at "Mn"); (case en => walk_at "Mn"); (case g => walk_at "Mn"); (case ha => walk_at "Mea"); (case hd => rfl); (case l1 => rfl); (case hi => rfl); (case hp => walk_at "Mpre"))); (case qq => rfl))
  | (refine' ev_sliceTI ?h1 ?h2 ?h3 ?h4; (case h1 => walk_at "Mev"); (case h2 => walk_at "Mcv"); (case h3 => walk_at "Mev"); (case h4 => walk_at "Mnum"))
  | (refine' ev_sliceDI ?h1 ?h2 ?h3 ?h4; (case h1 => walk_at "Mev"); (case h2 => walk_at "Mcv"); (case h3 => walk_at "Mev"); (case h4 => walk_at "Mnum"))
  | (refine' ev_sliceT ?h1 ?h2 ?h3 ?h4; (case h1 => walk_at "Mev"); (case h2 => walk_at "Mcv"); (case h3 => walk_at "Mev"); (case h4 => walk_at "Mnum"))
  | (refine' ev_sliceD ?h1 ?h2 ?h3 ?h4; (case h1 => walk_at "Mev"); (case h2 => walk_at "Mcv"); (case h3 => walk_at "Mev"); (case h4 => walk_at "Mnum"))
  | (refine' ev_ixL ?h1 ?h2 ?hp ?h3 ?h4 ?h5 ?h6; (case h1 => walk_at "Mev"); (case h2 => walk_at "Mev"); (case hp => first | exact .inl rfl | exact .inr rfl); (case h3 => walk_at "Mcv"); (case h4 => rfl); (case h5 => rfl); (case h6 => exact fun _ _ => rfl))
  | (refine' ev_cj ?h; (case h => walk_at "Mcj"))
  | (refine' ev_isN ?h; (case h => walk_at "Mev"))
  | (refine' ev_notN ?h; (case h => walk_at "Mev"))
  | (refine' ev_lst ?h1 ?h2 ?h3; (case h1 => walk_at "Mea"); (case h2 => rfl); (case h3 => exact Nat.le_of_ble_eq_true rfl))
  | (refine' ev_repB ?h1 ?h2 ?hp ?h3 ?h4; (case h1 => walk_at "Mev"); (case h2 => walk_at "Mev"); (case hp => first | exact .inl rfl | exact .inr rfl); (case h3 => walk_at "Mcv"); (case h4 => first | exact Nat.le_of_ble_eq_true rfl | walk_at "Mlen"))
  | (refine' ev_catA ?h1 ?h2 ?hp ?h4 ?h5; (case h1 => walk_at "Mev"); (case h2 => walk_at "Mev"); (case hp => first | exact .inl rfl | exact .inr rfl); (case h4 => walk_at "Mcv"); (case h5 => walk_at "Mlen"))
  | (refine' ev_cat ?h1 ?h2 ?hp ?h3 ?h4 ?h5; (case h1 => walk_at "Mev"); (case h2 => walk_at "Mev"); (case hp => first | exact .inl rfl | exact .inr rfl); (case h3 => walk_at "Mcv"); (case h4 => walk_at "Mcv"); (case h5 => walk_at "Mlen"))
  )
local macro_rules | `(tactic| walk_at "Mpre") => `(tactic| first | trivial | assumption | (simp only [List.length_map]; omega) | (constructor <;> first | assumption | (simp only [List.length_map]; omega)))
local macro_rules | `(tactic| walk_at "Mcj") => `(tactic| first
  | (refine' cj_lt ?h1 ?h2; (case h1 => walk_at "Mev"); (case h2 => walk_at "Mev"))
  | (refine' cj_le ?h1 ?h2; (case h1 => walk_at "Mev"); (case h2 => walk_at "Mev"))
  | (refine' cj_gt ?h1 ?h2; (case h1 => walk_at "Mev"); (case h2 => walk_at "Mev"))
  | (refine' cj_ge ?h1 ?h2; (case h1 => walk_at "Mev"); (case h2 => walk_at "Mev"))
  | (refine' cj_eqI ?h1 ?h2; (case h1 => walk_at "Mev"); (case h2 => walk_at "Mev"))
  | (refine' cj_neI ?h1 ?h2; (case h1 => walk_at "Mev"); (case h2 => walk_at "Mev"))
  | (refine' cj_eqS ?h1 ?h2; (case h1 => walk_at "Mev"); (case h2 => walk_at "Mev"))
  | (refine' cj_neS ?h1 ?h2; (case h1 => walk_at "Mev"); (case h2 => walk_at "Mev"))
  | (refine' cj_in ?h1 ?h2 ?h3 rfl; (case h1 => walk_at "Mev"); (case h2 => walk_at "Mev"); (case h3 => walk_at "Mcv"))
  | (refine' cj_notIn ?h1 ?h2 ?h3 rfl; (case h1 => walk_at "Mev"); (case h2 => walk_at "Mev"); (case h3 => walk_at "Mcv")))
local macro_rules | `(tactic| walk_at "Mea") => `(tactic| first
  | exact ea_nil
  | (refine' ea_cons ?h1 ?h2 ?pk rfl; (case h1 => walk_at "Mev"); (case h2 => walk_at "Mea"); (case pk => first | exact .inl rfl | exact .inr rfl)))
local macro_rules | `(tactic| walk_at "Mdr") => `(tactic| first | assumption | (simp only [Dr.nx_k] at *; omega))
local macro_rules | `(tactic| walk_at "Mlen") => `(tactic| first | assumption | omega | (simp only [List.length_map, List.length_append, List.length_cons, List.length_nil, List.length_replicate, List.length_range]; omega) | (refine Nat.le_trans (Nat.add_le_add_left len_ite_le _) ?_; simp only [List.length_map, List.length_append, List.length_cons, List.length_nil, List.length_replicate, List.length_range]; omega))
local macro_rules | `(tactic| walk_at "Mwk") => `(tactic| (refine' wk_of ?_; repeat' (first | exact wk_nil | (refine' wk_same ?_) | (refine' wk_d ?_) | (refine' wk_lo ?_) | (refine' wk_eq ?_ ?_))))
local macro_rules | `(tactic| walk_at "Mset") => `(tactic| (refine' sx_set ?n ?e ?h0 ?np ?k ?hs; (case n => walk_at "Mn"); (case e => walk_at "Mev"); (case h0 => rfl); (case np => rfl); (case hs => rfl)))
local macro_rules | `(tactic| walk_at "Msix") => `(tactic| (refine' sx_setIx ?n ?he ?h1 ?hi ?hj ?k ?hs ?hw ?h2 ?ha; (case n => walk_at "Mn"); (case he => walk_at "Mev"); (case h1 => first | exact .inl rfl | exact .inr rfl); (case hi => walk_at "Mev"); (case hj => rfl); (case hs => rfl); (case hw => rfl); (case h2 => rfl); (case ha => exact fun _ => rfl)))
local macro_rules | `(tactic| walk_at "Met") => `(tactic| first
  | (refine' et_not ?h; (case h => walk_at "Met"))
  | (refine' et_w ?h; (case h => walk_at "Mew"))
  | (refine' et_cj ?h; (case h => walk_at "Mcj"))
  | (refine' et_isN ?h; (case h => walk_at "Mev"))
  | (refine' et_notN ?h; (case h => walk_at "Mev"))
  | (refine' et_val ?h ?he; (case h => walk_at "Mev"); (case he => exact fun _ => rfl)))
local macro_rules | `(tactic| walk_at "Mew") => `(tactic| first
  | (refine' ew_and1 ?h; (case h => walk_at "Met"))
  | (refine' ew_or1 ?h; (case h => walk_at "Met"))
  | (refine' ew_and ?h1 ?h2; (case h1 => walk_at "Met"); (case h2 => (intro _; walk_at "Mew")))
  | (refine' ew_or ?h1 ?h2; (case h1 => walk_at "Met"); (case h2 => (intro _; walk_at "Mew"))))
local macro_rules | `(tactic| walk_at "Meta") => `(tactic| (refine' et_as ?t1 ?t2; (case t1 => walk_at "Met")))
local macro_rules | `(tactic| walk_at "Mif") => `(tactic| (refine' sx_if ?t ?a ?b; (case t => walk_at "Met")))
local macro_rules | `(tactic| walk_at "Mret") => `(tactic| (refine' sx_ret ?h ?k; (case h => walk_at "Mev")))
local macro_rules | `(tactic| walk_at "Mpq") => `(tactic| repeat' (first | exact pq_nil | (refine' pq_out rfl ?_) | (refine' pq_skip rfl ?_) | (refine' pq_par ?_ ?_)))
local macro_rules | `(tactic| walk_at "Mrt") => `(tactic| (first | refine' ⟨rr_d ?_, ?_⟩ | refine' ⟨rr_lo ?_, ?_⟩ | refine' ⟨rr_at rfl ?_, ?_⟩); walk_at "Mpq")
local macro_rules | `(tactic| walk_at "Mapp") => `(tactic| (refine' sx_append ?n ?h ?he ?h1 ?hl ?k rfl rfl rfl rfl rfl rfl; (case n => walk_at "Mn"); (case h => first | exact .inl rfl | exact .inr rfl); (case he => walk_at "Mev"); (case h1 => first | exact .inl rfl | exact .inr rfl); (case hl => walk_at "Mlen")))
local macro_rules | `(tactic| walk_at "Mfor") => `(tactic| (refine' sx_forR ?en ?g ?m ?e ?n ?f ?h0 ?hs ?hd rfl (fun _ => rfl); (case en => walk_at "Mn"); (case g => walk_at "Mn"); (case m => walk_at "Mn"); (case e => walk_at "Mev")))
/-! the draws -/
structure Dr where
  c : Int
  k : Int
  b : Bool
def Dr.ds (d : Dr) : List D := [.int d.c, .int d.k, .bl d.b]
def Dr.nx (d : Dr) : Dr := ⟨if d.b = true then d.c / 10 ^ 6 else d.c, d.k + 1, d.b⟩
def mixI (c k : Int) : Int :=
  let n1 := ((c % 1000003 + k * k * 7919 + k) * 48271) % 2147483629
  let n2 := (n1 * n1) % 2147483587
  (n2 * (n2 + 2)) % 2147483579 / 7
def Dr.val (d : Dr) : Int := if d.b = true then d.c % 10 ^ 6 else mixI d.c (d.k + 1)
theorem b_next {X : Cx} (c : Sc X N_next sc_next) (bi : Bi X "int" (.type "int")) {d : Dr} (h : 0 ≤ d.k ∧ d.k ≤ 1000000000) :
    SX X (defBody s_next) [.par d.ds, .un, .un] (retE [.par d.nx.ds] (.d (.int d.val))) := by
  have l0 := nl_next_0 c
  have m0 := l0.nm
  have l1 := nl_next_1 c
  have m1 := l1.nm
  have l2 := nl_next_2 c
  have m2 := l2.nm
  have g_int := gl_next_int c
  obtain ⟨c0, k0, b0⟩ := d
  have hk : 0 ≤ k0 ∧ k0 ≤ 1000000000 := h
  walk_at "Msix"
  walk_at "Mset"
  walk_at "Mif"
  · intro hb
    have hb : b0 = true := hb
    subst hb
    walk_at "Mset"
    walk_at "Msix"
    walk_at "Mret"
    walk_at "Mrt"
    · rfl
    · rfl
  intro hb
  have hb : b0 = false := hb
  subst hb
  refine sx_nil ?_
  have h1 : 0 ≤ c0 % 1000003 ∧ c0 % 1000003 < 1000003 := ⟨Int.emod_nonneg _ (by decide), Int.emod_lt_of_pos _ (by decide)⟩
  walk_at "Mset"
  generalize en1 : ((c0 % 1000003 + (k0 + 1) * (k0 + 1) * 7919 + (k0 + 1)) * 48271) % 2147483629 = n1
  have h2 : 0 ≤ n1 ∧ n1 < 2147483629 := by rw [← en1]; exact ⟨Int.emod_nonneg _ (by decide), Int.emod_lt_of_pos _ (by decide)⟩
  walk_at "Mset"
  generalize en2 : (n1 * n1) % 2147483587 = n2
  have h3 : 0 ≤ n2 ∧ n2 < 2147483587 := by rw [← en2]; exact ⟨Int.emod_nonneg _ (by decide), Int.emod_lt_of_pos _ (by decide)⟩
  walk_at "Mret"
  walk_at "Mrt"
  · subst en2 en1
    rfl
  · rfl
theorem Dr.nx_k {d : Dr} : d.nx.k = d.k + 1 := rfl
abbrev spNext : Sp := spF (α := Dr) (fun d => 0 ≤ d.k ∧ d.k ≤ 1000000000) (fun d => [.par d.ds]) (fun d => [.par d.nx.ds]) (fun d => .d (.int d.val))
section
variable {P : Program} {w : World} {K : PySem.W.Frag} {mg : Str → Option Value} {base : Heap} {k : Nat} {f : Addr} {fd : FuncData}
theorem ok_next (F : F_next K f fd) (mi : mg "int" = none) : FnG P w K mg base CX0 (k + 1) f fd P_next spNext :=
  fn_sx F fs_next (fun _ => rfl) fun cdv A outer s H E d hg hr hp => by
    have c : Sc (cxOf CX0 P w K mg base N_next "_law_next" sc_next f cdv A outer s H E) N_next sc_next := ⟨rfl, rfl, fun _ => rfl⟩
    exact b_next c (c.bi rfl mi) hp
theorem cl_next (F : F_next K f fd) (ok : FnG P w K mg base CX0 k f fd P_next spNext) (hm : mg "_law_next" = some (.ref f)) : Cl P w K mg base k "_law_next" 1 [] idV spNext :=
  cl_of F ok hm fun _ _ _ _ _ _ us hl => match us, hl with | [_], _ => rfl
end
theorem ev_next {X : Cx} {k i : Nat} {x : Str} {d : Dr} {ρ : List SV} {p q pos : Pos} (C : ClX X k "_law_next" 1 [] idV spNext) (en : En X k) (g : Gl X "_law_next") (m : Nm X i x) (h : IsOwn ρ i d.ds) (hk : 0 ≤ d.k ∧ d.k ≤ 1000000000) :
    Ev X false (.Call (.Name "_law_next" p) [.Name x q] [] pos) ρ (newAt ρ i d.nx.ds) (.d (.int d.val)) :=
  ev_goP (rs := []) (ds := []) C en g d (ea_one (ev_at m h) rfl) rfl rfl hk rfl rfl rfl rfl rfl
end Lw

set_option Elab.async false
set_option linter.all false
set_option maxRecDepth 100000
set_option maxHeartbeats 4000000
namespace Lw
open PySem PySem.Spec PyProof.Rows L2 Mw
local macro_rules | `(tactic| walk_at "Mkb") => `(tactic| first | exact kb_NoneType_int | exact kb_NoneType_bool | exact kb_NoneType_list | exact kb_NoneType_str | exact kb_NoneType_dict | exact kb_NoneType_tuple | exact kb_bool_int | exact kb_bool_bool | exact kb_bool_list | exact kb_bool_str | exact kb_bool_dict | exact kb_bool_tuple | exact kb_int_int | exact kb_int_bool | exact kb_int_list | exact kb_int_str | exact kb_int_dict | exact kb_int_tuple | exact kb_str_int | exact kb_str_bool | exact kb_str_list | exact kb_str_str | exact kb_str_dict | exact kb_str_tuple | exact kb_list_int | exact kb_list_bool | exact kb_list_list | exact kb_list_str | exact kb_list_dict | exact kb_list_tuple | exact kb_tuple_int | exact kb_tuple_bool | exact kb_tuple_list | exact kb_tuple_str | exact kb_tuple_dict | exact kb_tuple_tuple | exact kb_dict_int | exact kb_dict_bool | exact kb_dict_list | exact kb_dict_str | exact kb_dict_dict | exact kb_dict_tuple)
local macro_rules | `(tactic| walk_at "Mn") => `(tactic| with_reducible assumption)
local macro_rules | `(tactic| walk_at "Mnum") => `(tactic| first | assumption | decide | omega | (constructor <;> first | assumption | decide | omega))
local macro_rules | `(tactic| walk_at "Mcv") => `(tactic| first | exact cv_d | exact cv_own | exact cv_at | exact Cv.refl)
local macro_rules | `(tactic| walk_at "Mev") => `(tactic| first
  | exact ev_int | exact ev_bl | exact ev_non | exact ev_str
  | (refine' ev_d ?hn ?hs; (case hn => walk_at "Mn"); (case hs => rfl))
  | (refine' ev_at ?hn ?hs; (case hn => walk_at "Mn"); (case hs => first | exact .inl rfl | exact .inr rfl))
  | (refine' ev_lo ?hn ?hs; (case hn => walk_at "Mn"); (case hs => rfl))
  | (refine' ev_add ?h1 ?h2; (case h1 => walk_at "Mev"); (case h2 => walk_at "Mev"))
  | (refine' ev_sub ?h1 ?h2; (case h1 => walk_at "Mev"); (case h2 => walk_at "Mev"))
  | (refine' ev_pow ?h1 ?h2 ?h3; (case h1 => walk_at "Mev"); (case h2 => walk_at "Mev"); (case h3 => walk_at "Mnum"))
  | (refine' ev_mod ?h1 ?h2 ?h3; (case h1 => walk_at "Mev"); (case h2 => walk_at "Mev"); (case h3 => walk_at "Mnum"))
  | (refine' ev_fdiv ?h1 ?h2 ?h3; (case h1 => walk_at "Mev"); (case h2 => walk_at "Mev"); (case h3 => walk_at "Mnum"))
  | (refine' ev_mul ?h1 ?h2 ?h3; (case h1 => walk_at "Mev"); (case h2 => walk_at "Mev"); (case h3 => first | assumption | (left; constructor <;> walk_at "Mnum") | (right; constructor <;> walk_at "Mnum")))
  | (refine' ev_intI ?h0 ?h1 rfl; (case h0 => walk_at "Mn"); (case h1 => walk_at "Mev"))
  | (refine' ev_intB ?h0 ?h1 rfl; (case h0 => walk_at "Mn"); (case h1 => walk_at "Mev"))
  | (refine' ev_next ?C ?en ?g ?m ?h ?b; (case C => walk_at "Mn"); (case en => walk_at "Mn"); (case g => walk_at "Mn"); (case m => walk_at "Mn"); (case h => first | exact .inr rfl | exact .inl rfl); (case b => walk_at "Mdr"))
  | (refine' ev_pick ?h1 ?h2 ?hp ?h3 ?h6; (case h1 => walk_at "Mev"); (case h2 => walk_at "Mev"); (case hp => first | exact .inl rfl | exact .inr rfl); (case h3 => walk_at "Mcv"); (case h6 => exact fun _ _ => rfl))
  | (refine' ev_globI ?g ?m rfl; (case g => walk_at "Mn"); (case m => walk_at "Mn"))
  | (refine' ev_isi ?h0 ?h1 ?h2 ?h3 ?h4 rfl rfl rfl; (case h0 => walk_at "Mn"); (case h1 => walk_at "Mn"); (case h2 => walk_at "Mev"); (case h3 => rfl); (case h4 => walk_at "Mkb"))
  | (refine' ev_len ?h0 ?h1 ?h2 rfl; (case h0 => walk_at "Mn"); (case h1 => walk_at "Mev"); (case h2 => walk_at "Mcv"))
  | (refine' ev_list ?h0 ?h1 ?h2 rfl; (case h0 => walk_at "Mn"); (case h1 => walk_at "Mev"); (case h2 => walk_at "Mcv"))
  | (refine' Ev.cast ?hh ?qq; (case hh => (refine' ev_go ?C ?en ?g ?a ?ha ?hd ?l1 ?hp ?hi rfl rfl rfl; (case C => walk_at "Mn"); (case en => walk_at "Mn"); (case g => walk_at "Mn"); (case ha => walk_at "Mea"); (case hd => rfl); (case l1 => rfl); (case hi => rfl); (case hp => walk_at "Mpre"))); (case qq => rfl))
  | (refine' Ev.cast ?hh ?qq; (case hh => (refine' ev_go ?C ?en ?g (?a, ?b) ?ha ?hd ?l1 ?hp ?hi rfl rfl rfl; (case C => walk_at "Mn"); (case en => walk_at "Mn"); (case g => walk_at "Mn"); (case ha => walk_at "Mea"); (case hd => rfl); (case l1 => rfl); (case hi => rfl); (case hp => walk_at "Mpre"))); (case qq => rfl))
  | (refine' Ev.cast ?hh ?qq; (case hh => (refine' ev_go ?C ?en ?g (?a, ?b, ?c) ?ha ?hd ?l1 ?hp ?hi rfl rfl rfl; (case C => walk_at "Mn"); (case en => walk_at "Mn"); (case g => walk_at "Mn"); (case ha => walk_at "Mea"); (case hd => rfl); (case l1 => rfl); (case hi => rfl); (case hp => walk_at "Mpre"))); (case qq => rfl))
  | (refine' ev_sliceTI ?h1 ?h2 ?h3 ?h4; (case h1 => walk_at "Mev"); (case h2 => walk_at "Mcv"); (case h3 => walk_at "Mev"); (case h4 => walk_at "Mnum"))
  | (refine' ev_sliceDI ?h1 ?h2 ?h3 ?h4; (case h1 => walk_at "Mev"); (case h2 => walk_at "Mcv"); (case h3 => walk_at "Mev"); (case h4 => walk_at "Mnum"))
  | (refine' ev_sliceT ?h1 ?h2 ?h3 ?h4; (case h1 => walk_at "Mev"); (case h2 => walk_at "Mcv"); (case h3 => walk_at "Mev"); (case h4 => walk_at "Mnum"))
  | (refine' ev_sliceD ?h1 ?h2 ?h3 ?h4; (case h1 => walk_at "Mev"); (case h2 => walk_at "Mcv"); (case h3 => walk_at "Mev"); (case h4 => walk_at "Mnum"))
  | (refine' ev_ixL ?h1 ?h2 ?hp ?h3 ?h4 ?h5 ?h6; (case h1 => walk_at "Mev"); (case h2 => walk_at "Mev"); (case hp => first | exact .inl rfl | exact .inr rfl); (case h3 => walk_at "Mcv"); (case h4 => rfl); (case h5 => rfl); (case h6 => exact fun _ _ => rfl))
  | (refine' ev_cj ?h; (case h => walk_at "Mcj"))
  | (refine' ev_isN ?h; (case h => walk_at "Mev"))
  | (refine' ev_notN ?h; (case h => walk_at "Mev"))
  | (refine' ev_lst ?h1 ?h2 ?h3; (case h1 => walk_at "Mea"); (case h2 => rfl); (case h3 => exact Nat.le_of_ble_eq_true rfl))
  | (refine' ev_repB ?h1 ?h2 ?hp ?h3 ?h4; (case h1 => walk_at "Mev"); (case h2 => walk_at "Mev"); (case hp => first | exact .inl rfl | exact .inr rfl); (case h3 => walk_at "Mcv"); (case h4 => first | exact Nat.le_of_ble_eq_true rfl | walk_at "Mlen"))
  | (refine' ev_catA ?h1 ?h2 ?hp ?h4 ?h5; (case h1 => walk_at "Mev"); (case h2 => walk_at "Mev"); (case hp => first | exact .inl rfl | exact .inr rfl); (case h4 => walk_at "Mcv"); (case h5 => walk_at "Mlen"))
  | (refine' ev_cat ?h1 ?h2 ?hp ?h3 ?h4 ?h5; (case h1 => walk_at "Mev"); (case h2 => walk_at "Mev"); (case hp => first | exact .inl rfl | exact .inr rfl); (case h3 => walk_at "Mcv"); (case h4 => walk_at "Mcv"); (case h5 => walk_at "Mlen"))
  )
local macro_rules | `(tactic| walk_at "Mpre") => `(tactic| first | trivial | assumption | (simp only [List.length_map]; omega) | (constructor <;> first | assumption | (simp only [List.length_map]; omega)))
local macro_rules | `(tactic| walk_at "Mcj") => `(tactic| first
  | (refine' cj_lt ?h1 ?h2; (case h1 => walk_at "Mev"); (case h2 => walk_at "Mev"))
  | (refine' cj_le ?h1 ?h2; (case h1 => walk_at "Mev"); (case h2 => walk_at "Mev"))
  | (refine' cj_gt ?h1 ?h2; (case h1 => walk_at "Mev"); (case h2 => walk_at "Mev"))
  | (refine' cj_ge ?h1 ?h2; (case h1 => walk_at "Mev"); (case h2 => walk_at "Mev"))
  | (refine' cj_eqI ?h1 ?h2; (case h1 => walk_at "Mev"); (case h2 => walk_at "Mev"))
  | (refine' cj_neI ?h1 ?h2; (case h1 => walk_at "Mev"); (case h2 => walk_at "Mev"))
  | (refine' cj_eqS ?h1 ?h2; (case h1 => walk_at "Mev"); (case h2 => walk_at "Mev"))
  | (refine' cj_neS ?h1 ?h2; (case h1 => walk_at "Mev"); (case h2 => walk_at "Mev"))
  | (refine' cj_in ?h1 ?h2 ?h3 rfl; (case h1 => walk_at "Mev"); (case h2 => walk_at "Mev"); (case h3 => walk_at "Mcv"))
  | (refine' cj_notIn ?h1 ?h2 ?h3 rfl; (case h1 => walk_at "Mev"); (case h2 => walk_at "Mev"); (case h3 => walk_at "Mcv")))
local macro_rules | `(tactic| walk_at "Mea") => `(tactic| first
  | exact ea_nil
  | (refine' ea_cons ?h1 ?h2 ?pk rfl; (case h1 => walk_at "Mev"); (case h2 => walk_at "Mea"); (case pk => first | exact .inl rfl | exact .inr rfl)))
local macro_rules | `(tactic| walk_at "Mdr") => `(tactic| first | assumption | (simp only [Dr.nx_k] at *; omega))
local macro_rules | `(tactic| walk_at "Mlen") => `(tactic| first | assumption | omega | (simp only [List.length_map, List.length_append, List.length_cons, List.length_nil, List.length_replicate, List.length_range]; omega) | (refine Nat.le_trans (Nat.add_le_add_left len_ite_le _) ?_; simp only [List.length_map, List.length_append, List.length_cons, List.length_nil, List.length_replicate, List.length_range]; omega))
local macro_rules | `(tactic| walk_at "Mwk") => `(tactic| (refine' wk_of ?_; repeat' (first | exact wk_nil | (refine' wk_same ?_) | (refine' wk_d ?_) | (refine' wk_lo ?_) | (refine' wk_eq ?_ ?_))))
local macro_rules | `(tactic| walk_at "Mset") => `(tactic| (refine' sx_set ?n ?e ?h0 ?np ?k ?hs; (case n => walk_at "Mn"); (case e => walk_at "Mev"); (case h0 => rfl); (case np => rfl); (case hs => rfl)))
local macro_rules | `(tactic| walk_at "Msix") => `(tactic| (refine' sx_setIx ?n ?he ?h1 ?hi ?hj ?k ?hs ?hw ?h2 ?ha; (case n => walk_at "Mn"); (case he => walk_at "Mev"); (case h1 => first | exact .inl rfl | exact .inr rfl); (case hi => walk_at "Mev"); (case hj => rfl); (case hs => rfl); (case hw => rfl); (case h2 => rfl); (case ha => exact fun _ => rfl)))
local macro_rules | `(tactic| walk_at "Met") => `(tactic| first
  | (refine' et_not ?h; (case h => walk_at "Met"))
  | (refine' et_w ?h; (case h => walk_at "Mew"))
  | (refine' et_cj ?h; (case h => walk_at "Mcj"))
  | (refine' et_isN ?h; (case h => walk_at "Mev"))
  | (refine' et_notN ?h; (case h => walk_at "Mev"))
  | (refine' et_val ?h ?he; (case h => walk_at "Mev"); (case he => exact fun _ => rfl)))
local macro_rules | `(tactic| walk_at "Mew") => `(tactic| first
  | (refine' ew_and1 ?h; (case h => walk_at "Met"))
  | (refine' ew_or1 ?h; (case h => walk_at "Met"))
  | (refine' ew_and ?h1 ?h2; (case h1 => walk_at "Met"); (case h2 => (intro _; walk_at "Mew")))
  | (refine' ew_or ?h1 ?h2; (case h1 => walk_at "Met"); (case h2 => (intro _; walk_at "Mew"))))
local macro_rules | `(tactic| walk_at "Meta") => `(tactic| (refine' et_as ?t1 ?t2; (case t1 => walk_at "Met")))
local macro_rules | `(tactic| walk_at "Mif") => `(tactic| (refine' sx_if ?t ?a ?b; (case t => walk_at "Met")))
local macro_rules | `(tactic| walk_at "Mret") => `(tactic| (refine' sx_ret ?h ?k; (case h => walk_at "Mev")))
local macro_rules | `(tactic| walk_at "Mpq") => `(tactic| repeat' (first | exact pq_nil | (refine' pq_out rfl ?_) | (refine' pq_skip rfl ?_) | (refine' pq_par ?_ ?_)))
local macro_rules | `(tactic| walk_at "Mrt") => `(tactic| (first | refine' ⟨rr_d ?_, ?_⟩ | refine' ⟨rr_lo ?_, ?_⟩ | refine' ⟨rr_at rfl ?_, ?_⟩); walk_at "Mpq")
local macro_rules | `(tactic| walk_at "Mapp") => `(tactic| (refine' sx_append ?n ?h ?he ?h1 ?hl ?k rfl rfl rfl rfl rfl rfl; (case n => walk_at "Mn"); (case h => first | exact .inl rfl | exact .inr rfl); (case he => walk_at "Mev"); (case h1 => first | exact .inl rfl | exact .inr rfl); (case hl => walk_at "Mlen")))
local macro_rules | `(tactic| walk_at "Mfor") => `(tactic| (refine' sx_forR ?en ?g ?m ?e ?n ?f ?h0 ?hs ?hd rfl (fun _ => rfl); (case en => walk_at "Mn"); (case g => walk_at "Mn"); (case m => walk_at "Mn"); (case e => walk_at "Mev")))
/-! the marks -/
def mkS (w : Bool) (x : List Int × Dr) : List Int × Dr :=
  let v := x.2.val % (if w = true then 16 else 6) - 1
  (if x.1.contains v = true then x.1 else x.1 ++ [v], x.2.nx)
def mkN (w : Bool) (d : Dr) (most : Int) : Int := d.val % ((if w = true then 12 else most) + 1)
def Dr.marks2 (w : Bool) (d : Dr) (most : Int) : List Int × Dr := itr (mkS w) (mkN w d most).toNat ([], d.nx)
def Dr.marks (d : Dr) (most : Int) : List Int × Dr := if 3 < most then d.nx.marks2 (decide (d.val % 4 = 0)) most else d.marks2 false most
theorem mkS_at (w : Bool) (d : Dr) (n : Nat) : (itr (mkS w) n ([], d)).2.k = d.k + n ∧ (itr (mkS w) n ([], d)).1.length ≤ n :=
  itr_ind (f := mkS w) (x := ([], d)) (C := fun n (y : List Int × Dr) => y.2.k = d.k + n ∧ y.1.length ≤ n) ⟨by simp, Nat.le_refl _⟩ (fun n y ⟨h1, h2⟩ => by
    refine ⟨by show y.2.k + 1 = _; omega, ?_⟩
    show (if y.1.contains _ = true then y.1 else y.1 ++ [_] : List Int).length ≤ n + 1
    generalize y.1.contains _ = q
    cases q
    · show (y.1 ++ [_]).length ≤ n + 1
      rw [List.length_append, List.length_singleton]
      omega
    · show y.1.length ≤ n + 1
      omega) n
theorem b_marks2 {X : Cx} {k : Nat} (c : Sc X N_marks sc_marks) (en : En X k) (C : ClX X k "_law_next" 1 [] idV spNext) (bi : Bi X "int" (.type "int")) (mr : X.mg "range" = none) {d : Dr} {most : Int} {w : Bool} (h : 0 ≤ d.k ∧ d.k ≤ 900000000) (hm : 0 ≤ most ∧ most ≤ 12) :
    SX X ((defBody s_marks).drop 1) [.par d.ds, .d (.int most), .d (.bl w), .un, .un, .un] (retE [.par (d.marks2 w most).2.ds, .d (.int most)] (.lo (.own ((d.marks2 w most).1.map D.int)))) := by
  have l0 := nl_marks_0 c
  have m0 := l0.nm
  have l1 := nl_marks_1 c
  have m1 := l1.nm
  have l2 := nl_marks_2 c
  have m2 := l2.nm
  have l3 := nl_marks_3 c
  have m3 := l3.nm
  have l4 := nl_marks_4 c
  have m4 := l4.nm
  have l5 := nl_marks_5 c
  have m5 := l5.nm
  have g_next := gl_marks_next c
  have g_int := gl_marks_int c
  have g_range := gl_marks_range c
  walk_at "Mset"
  have hn : 0 ≤ mkN w d most ∧ mkN w d most < 13 := by
    unfold mkN
    have h1 : 0 < (if w = true then 12 else most) + 1 ∧ (if w = true then 12 else most) + 1 ≤ 13 := by split <;> omega
    exact ⟨Int.emod_nonneg _ (by omega), Int.lt_of_lt_of_le (Int.emod_lt_of_pos _ h1.1) h1.2⟩
  have h1 : 0 < (if w = true then 12 else most) + 1 := by split <;> omega
  have hd : 0 ≤ d.k ∧ d.k ≤ 1000000000 := by omega
  refine' sx_forR (n := mkN w d most) en ?g mr ?e ?n (fun i => [.par (itr (mkS w) i ([], d.nx)).2.ds, .d (.int most), .d (.bl w), .lo (.own ((itr (mkS w) i ([], d.nx)).1.map D.int)), .un, .un]) ?h0 ?hs ?hd rfl (fun _ => rfl)
  case g => walk_at "Mn"
  case e => walk_at "Mev"
  case n => omega
  case h0 =>
    walk_at "Mwk"
  case hd =>
    walk_at "Mret"
    walk_at "Mrt"
    · rfl
    · rfl
  case hs =>
    intro i hi
    obtain ⟨e1, e2⟩ := mkS_at w d.nx i
    rw [Dr.nx_k] at e1
    generalize hx : itr (mkS w) i ([], d.nx) = x at *
    obtain ⟨l, d2⟩ := x
    have e1 : d2.k = d.k + 1 + i := e1
    have e2 : l.length ≤ i := e2
    have h2 : 0 ≤ d2.k ∧ d2.k ≤ 1000000000 := by omega
    have h3 : 0 < (if w = true then 16 else 6 : Int) := by split <;> omega
    refine ⟨_, tg_name l4 rfl rfl, ?_⟩
    walk_at "Mset"
    walk_at "Mset"
    refine sx_nil ?_
    show Wk _ _
    rw [show itr (mkS w) (i + 1) ([], d.nx) = mkS w (l, d2) by rw [← hx]; rfl]
    walk_at "Mwk"
    · show SV.lo (L.own _) = SV.lo (L.own _)
      congr 2
      show l.map D.int ++ _ = (if l.contains (d2.val % (if w = true then 16 else 6) - 1) = true then l else l ++ [d2.val % (if w = true then 16 else 6) - 1]).map D.int
      cases l.contains (d2.val % (if w = true then 16 else 6) - 1)
      · simp
      · simp
theorem b_marks {X : Cx} {k : Nat} (c : Sc X N_marks sc_marks) (en : En X k) (C : ClX X k "_law_next" 1 [] idV spNext) (bi : Bi X "int" (.type "int")) (mr : X.mg "range" = none) {d : Dr} {most : Int} (h : 0 ≤ d.k ∧ d.k ≤ 800000000) (hm : 0 ≤ most ∧ most ≤ 12) :
    SX X (defBody s_marks) [.par d.ds, .d (.int most), .un, .un, .un, .un] (retE [.par (d.marks most).2.ds, .d (.int most)] (.lo (.own ((d.marks most).1.map D.int)))) := by
  have l0 := nl_marks_0 c
  have m0 := l0.nm
  have l1 := nl_marks_1 c
  have m1 := l1.nm
  have l2 := nl_marks_2 c
  have m2 := l2.nm
  have l3 := nl_marks_3 c
  have m3 := l3.nm
  have l4 := nl_marks_4 c
  have m4 := l4.nm
  have l5 := nl_marks_5 c
  have m5 := l5.nm
  have g_next := gl_marks_next c
  have g_int := gl_marks_int c
  have g_range := gl_marks_range c
  have hd : 0 ≤ d.k ∧ d.k ≤ 1000000000 := by omega
  by_cases hb : 3 < most
  · have e : d.marks most = d.nx.marks2 (decide (d.val % 4 = 0)) most := if_pos hb
    rw [e]
    refine' sx_set ?n ?e ?h0 ?np ?k ?hs
    case n => walk_at "Mn"
    case e =>
      refine' ev_andT ?a1 ?a2 ?a3
      case a1 => walk_at "Mev"
      case a2 => exact decide_eq_true hb
      case a3 =>
        refine' ev_one ?a4
        case a4 => walk_at "Mev"
    case h0 => rfl
    case np => rfl
    case hs => rfl
    exact b_marks2 c en C bi mr ⟨by rw [Dr.nx_k]; omega, by rw [Dr.nx_k]; omega⟩ hm
  · have e : d.marks most = d.marks2 false most := if_neg hb
    rw [e]
    refine' sx_set ?n9 ?e9 ?h09 ?np9 ?k9 ?hs9
    case n9 => walk_at "Mn"
    case e9 =>
      refine' ev_andF ?a19 ?a29
      case a19 => walk_at "Mev"
      case a29 => exact decide_eq_false hb
    case h09 => rfl
    case np9 => rfl
    case hs9 => rfl
    exact b_marks2 c en C bi mr (by omega) hm
abbrev spMarks : Sp := spF (α := Dr × Int) (fun q => (0 ≤ q.1.k ∧ q.1.k ≤ 800000000) ∧ 0 ≤ q.2 ∧ q.2 ≤ 12) (fun q => [.par q.1.ds, .d (.int q.2)]) (fun q => [.par (q.1.marks q.2).2.ds, .d (.int q.2)]) (fun q => .lo (.own ((q.1.marks q.2).1.map D.int)))
section
variable {P : Program} {w : World} {K : PySem.W.Frag} {mg : Str → Option Value} {base : Heap} {k : Nat} {f : Addr} {fd : FuncData}
theorem ok_marks (F : F_marks K f fd) (C : Cl P w K mg base k "_law_next" 1 [] idV spNext) (mi : mg "int" = none) (mr : mg "range" = none) : FnG P w K mg base CX0 (k + 1) f fd P_marks spMarks :=
  fn_sx F fs_marks (fun _ => rfl) fun cdv A outer s H E q hg hr hp => by
    have c : Sc (cxOf CX0 P w K mg base N_marks "_law_marks" sc_marks f cdv A outer s H E) N_marks sc_marks := ⟨rfl, rfl, fun _ => rfl⟩
    exact b_marks c (en_of hg hr) C (c.bi rfl mi) mr hp.1 hp.2
theorem cl_marks (F : F_marks K f fd) (ok : FnG P w K mg base CX0 k f fd P_marks spMarks) (hm : mg "_law_marks" = some (.ref f)) : Cl P w K mg base k "_law_marks" 2 [] idV spMarks :=
  cl_of F ok hm fun _ _ _ _ _ _ us hl => match us, hl with | [_, _], _ => rfl
end
theorem ev_marks {X : Cx} {k i : Nat} {x : Str} {d : Dr} {e : Expr} {ρ : List SV} {most : Int} {p q pos : Pos} (C : ClX X k "_law_marks" 2 [] idV spMarks) (en : En X k) (g : Gl X "_law_marks") (m : Nm X i x) (h : IsOwn ρ i d.ds) (ha : Ev X true e ρ ρ (.d (.int most)))
    (hk : 0 ≤ d.k ∧ d.k ≤ 800000000) (hm : 0 ≤ most ∧ most ≤ 12) (hs : starEach [e] X.env = [(false, eval e X.env)]) (he : starEach [.Name x q, e] X.env = (false, eval (.Name x q) X.env) :: starEach [e] X.env) (hpl : (backTo pos (starEach [e] X.env)).any (·.1) = false) :
    Ev X false (.Call (.Name "_law_marks" p) [.Name x q, e] [] pos) ρ (newAt ρ i (d.marks most).2.ds) (.lo (.own ((d.marks most).1.map D.int))) :=
  ev_goP (rs := [.d (.int most)]) (ds := [.int most]) C en g (d, most) (ea_cons (p1 := true) (p2 := true) (ev_at m h) (ea_one ha hs) (.inl rfl) he) rfl rfl ⟨hk, hm⟩ rfl rfl rfl he hpl
end Lw

set_option Elab.async false
set_option linter.all false
set_option maxRecDepth 100000
set_option maxHeartbeats 4000000
namespace Lw
open PySem PySem.Spec PyProof.Rows L2 Mw
local macro_rules | `(tactic| walk_at "Mkb") => `(tactic| first | exact kb_NoneType_int | exact kb_NoneType_bool | exact kb_NoneType_list | exact kb_NoneType_str | exact kb_NoneType_dict | exact kb_NoneType_tuple | exact kb_bool_int | exact kb_bool_bool | exact kb_bool_list | exact kb_bool_str | exact kb_bool_dict | exact kb_bool_tuple | exact kb_int_int | exact kb_int_bool | exact kb_int_list | exact kb_int_str | exact kb_int_dict | exact kb_int_tuple | exact kb_str_int | exact kb_str_bool | exact kb_str_list | exact kb_str_str | exact kb_str_dict | exact kb_str_tuple | exact kb_list_int | exact kb_list_bool | exact kb_list_list | exact kb_list_str | exact kb_list_dict | exact kb_list_tuple | exact kb_tuple_int | exact kb_tuple_bool | exact kb_tuple_list | exact kb_tuple_str | exact kb_tuple_dict | exact kb_tuple_tuple | exact kb_dict_int | exact kb_dict_bool | exact kb_dict_list | exact kb_dict_str | exact kb_dict_dict | exact kb_dict_tuple)
local macro_rules | `(tactic| walk_at "Mn") => `(tactic| with_reducible assumption)
local macro_rules | `(tactic| walk_at "Mnum") => `(tactic| first | assumption | decide | omega | (constructor <;> first | assumption | decide | omega))
local macro_rules | `(tactic| walk_at "Mcv") => `(tactic| first | exact cv_d | exact cv_own | exact cv_at | exact Cv.refl)
local macro_rules | `(tactic| walk_at "Mev") => `(tactic| first
  | exact ev_int | exact ev_bl | exact ev_non | exact ev_str
  | (refine' ev_d ?hn ?hs; (case hn => walk_at "Mn"); (case hs => rfl))
  | (refine' ev_at ?hn ?hs; (case hn => walk_at "Mn"); (case hs => first | exact .inl rfl | exact .inr rfl))
  | (refine' ev_lo ?hn ?hs; (case hn => walk_at "Mn"); (case hs => rfl))
  | (refine' ev_add ?h1 ?h2; (case h1 => walk_at "Mev"); (case h2 => walk_at "Mev"))
  | (refine' ev_sub ?h1 ?h2; (case h1 => walk_at "Mev"); (case h2 => walk_at "Mev"))
  | (refine' ev_pow ?h1 ?h2 ?h3; (case h1 => walk_at "Mev"); (case h2 => walk_at "Mev"); (case h3 => walk_at "Mnum"))
  | (refine' ev_mod ?h1 ?h2 ?h3; (case h1 => walk_at "Mev"); (case h2 => walk_at "Mev"); (case h3 => walk_at "Mnum"))
  | (refine' ev_fdiv ?h1 ?h2 ?h3; (case h1 => walk_at "Mev"); (case h2 => walk_at "Mev"); (case h3 => walk_at "Mnum"))
  | (refine' ev_mul ?h1 ?h2 ?h3; (case h1 => walk_at "Mev"); (case h2 => walk_at "Mev"); (case h3 => first | assumption | (left; constructor <;> walk_at "Mnum") | (right; constructor <;> walk_at "Mnum")))
  | (refine' ev_intI ?h0 ?h1 rfl; (case h0 => walk_at "Mn"); (case h1 => walk_at "Mev"))
  | (refine' ev_intB ?h0 ?h1 rfl; (case h0 => walk_at "Mn"); (case h1 => walk_at "Mev"))
  | (refine' ev_next ?C ?en ?g ?m ?h ?b; (case C => walk_at "Mn"); (case en => walk_at "Mn"); (case g => walk_at "Mn"); (case m => walk_at "Mn"); (case h => first | exact .inr rfl | exact .inl rfl); (case b => walk_at "Mdr"))
  | (refine' ev_pick ?h1 ?h2 ?hp ?h3 ?h6; (case h1 => walk_at "Mev"); (case h2 => walk_at "Mev"); (case hp => first | exact .inl rfl | exact .inr rfl); (case h3 => walk_at "Mcv"); (case h6 => exact fun _ _ => rfl))
  | (refine' ev_globI ?g ?m rfl; (case g => walk_at "Mn"); (case m => walk_at "Mn"))
  | (refine' ev_isi ?h0 ?h1 ?h2 ?h3 ?h4 rfl rfl rfl; (case h0 => walk_at "Mn"); (case h1 => walk_at "Mn"); (case h2 => walk_at "Mev"); (case h3 => rfl); (case h4 => walk_at "Mkb"))
  | (refine' ev_len ?h0 ?h1 ?h2 rfl; (case h0 => walk_at "Mn"); (case h1 => walk_at "Mev"); (case h2 => walk_at "Mcv"))
  | (refine' ev_list ?h0 ?h1 ?h2 rfl; (case h0 => walk_at "Mn"); (case h1 => walk_at "Mev"); (case h2 => walk_at "Mcv"))
  | (refine' Ev.cast ?hh ?qq; (case hh => (refine' ev_go ?C ?en ?g ?a ?ha ?hd ?l1 ?hp ?hi rfl rfl rfl; (case C => walk_at "Mn"); (case en => walk_at "Mn"); (case g => walk_at "Mn"); (case ha => walk_at "Mea"); (case hd => rfl); (case l1 => rfl); (case hi => rfl); (case hp => walk_at "Mpre"))); (case qq => rfl))
  | (refine' Ev.cast ?hh ?qq; (case hh => (refine' ev_go ?C ?en ?g (?a, ?b) ?ha ?hd ?l1 ?hp ?hi rfl rfl rfl; (case C => walk_at "Mn"); (case en => walk_at "Mn"); (case g => walk_at "Mn"); (case ha => walk_at "Mea"); (case hd => rfl); (case l1 => rfl); (case hi => rfl); (case hp => walk_at "Mpre"))); (case qq => rfl))
  | (refine' Ev.cast ?hh ?qq; (case hh => (refine' ev_go ?C ?en ?g (?a, ?b, ?c) ?ha ?hd ?l1 ?hp ?hi rfl rfl rfl; (case C => walk_at "Mn"); (case en => walk_at "Mn"); (case g => walk_at "Mn"); (case ha => walk_at "Mea"); (case hd => rfl); (case l1 => rfl); (case hi => rfl); (case hp => walk_at "Mpre"))); (case qq => rfl))
  | (refine' ev_sliceTI ?h1 ?h2 ?h3 ?h4; (case h1 => walk_at "Mev"); (case h2 => walk_at "Mcv"); (case h3 => walk_at "Mev"); (case h4 => walk_at "Mnum"))
  | (refine' ev_sliceDI ?h1 ?h2 ?h3 ?h4; (case h1 => walk_at "Mev"); (case h2 => walk_at "Mcv"); (case h3 => walk_at "Mev"); (case h4 => walk_at "Mnum"))
  | (refine' ev_sliceT ?h1 ?h2 ?h3 ?h4; (case h1 => walk_at "Mev"); (case h2 => walk_at "Mcv"); (case h3 => walk_at "Mev"); (case h4 => walk_at "Mnum"))
  | (refine' ev_sliceD ?h1 ?h2 ?h3 ?h4; (case h1 => walk_at "Mev"); (case h2 => walk_at "Mcv"); (case h3 => walk_at "Mev"); (case h4 => walk_at "Mnum"))
  | (refine' ev_ixL ?h1 ?h2 ?hp ?h3 ?h4 ?h5 ?h6; (case h1 => walk_at "Mev"); (case h2 => walk_at "Mev"); (case hp => first | exact .inl rfl | exact .inr rfl); (case h3 => walk_at "Mcv"); (case h4 => rfl); (case h5 => rfl); (case h6 => exact fun _ _ => rfl))
  | (refine' ev_cj ?h; (case h => walk_at "Mcj"))
  | (refine' ev_isN ?h; (case h => walk_at "Mev"))
  | (refine' ev_notN ?h; (case h => walk_at "Mev"))
  | (refine' ev_lst ?h1 ?h2 ?h3; (case h1 => walk_at "Mea"); (case h2 => rfl); (case h3 => exact Nat.le_of_ble_eq_true rfl))
  | (refine' ev_repB ?h1 ?h2 ?hp ?h3 ?h4; (case h1 => walk_at "Mev"); (case h2 => walk_at "Mev"); (case hp => first | exact .inl rfl | exact .inr rfl); (case h3 => walk_at "Mcv"); (case h4 => first | exact Nat.le_of_ble_eq_true rfl | walk_at "Mlen"))
  | (refine' ev_catA ?h1 ?h2 ?hp ?h4 ?h5; (case h1 => walk_at "Mev"); (case h2 => walk_at "Mev"); (case hp => first | exact .inl rfl | exact .inr rfl); (case h4 => walk_at "Mcv"); (case h5 => walk_at "Mlen"))
  | (refine' ev_cat ?h1 ?h2 ?hp ?h3 ?h4 ?h5; (case h1 => walk_at "Mev"); (case h2 => walk_at "Mev"); (case hp => first | exact .inl rfl | exact .inr rfl); (case h3 => walk_at "Mcv"); (case h4 => walk_at "Mcv"); (case h5 => walk_at "Mlen"))
  )
local macro_rules | `(tactic| walk_at "Mpre") => `(tactic| first | trivial | assumption | (simp only [List.length_map]; omega) | (constructor <;> first | assumption | (simp only [List.length_map]; omega)))
local macro_rules | `(tactic| walk_at "Mcj") => `(tactic| first
  | (refine' cj_lt ?h1 ?h2; (case h1 => walk_at "Mev"); (case h2 => walk_at "Mev"))
  | (refine' cj_le ?h1 ?h2; (case h1 => walk_at "Mev"); (case h2 => walk_at "Mev"))
  | (refine' cj_gt ?h1 ?h2; (case h1 => walk_at "Mev"); (case h2 => walk_at "Mev"))
  | (refine' cj_ge ?h1 ?h2; (case h1 => walk_at "Mev"); (case h2 => walk_at "Mev"))
  | (refine' cj_eqI ?h1 ?h2; (case h1 => walk_at "Mev"); (case h2 => walk_at "Mev"))
  | (refine' cj_neI ?h1 ?h2; (case h1 => walk_at "Mev"); (case h2 => walk_at "Mev"))
  | (refine' cj_eqS ?h1 ?h2; (case h1 => walk_at "Mev"); (case h2 => walk_at "Mev"))
  | (refine' cj_neS ?h1 ?h2; (case h1 => walk_at "Mev"); (case h2 => walk_at "Mev"))
  | (refine' cj_in ?h1 ?h2 ?h3 rfl; (case h1 => walk_at "Mev"); (case h2 => walk_at "Mev"); (case h3 => walk_at "Mcv"))
  | (refine' cj_notIn ?h1 ?h2 ?h3 rfl; (case h1 => walk_at "Mev"); (case h2 => walk_at "Mev"); (case h3 => walk_at "Mcv")))
local macro_rules | `(tactic| walk_at "Mea") => `(tactic| first
  | exact ea_nil
  | (refine' ea_cons ?h1 ?h2 ?pk rfl; (case h1 => walk_at "Mev"); (case h2 => walk_at "Mea"); (case pk => first | exact .inl rfl | exact .inr rfl)))
local macro_rules | `(tactic| walk_at "Mdr") => `(tactic| first | assumption | (simp only [Dr.nx_k] at *; omega))
local macro_rules | `(tactic| walk_at "Mlen") => `(tactic| first | assumption | omega | (simp only [List.length_map, List.length_append, List.length_cons, List.length_nil, List.length_replicate, List.length_range]; omega) | (refine Nat.le_trans (Nat.add_le_add_left len_ite_le _) ?_; simp only [List.length_map, List.length_append, List.length_cons, List.length_nil, List.length_replicate, List.length_range]; omega))
local macro_rules | `(tactic| walk_at "Mwk") => `(tactic| (refine' wk_of ?_; repeat' (first | exact wk_nil | (refine' wk_same ?_) | (refine' wk_d ?_) | (refine' wk_lo ?_) | (refine' wk_eq ?_ ?_))))
local macro_rules | `(tactic| walk_at "Mset") => `(tactic| (refine' sx_set ?n ?e ?h0 ?np ?k ?hs; (case n => walk_at "Mn"); (case e => walk_at "Mev"); (case h0 => rfl); (case np => rfl); (case hs => rfl)))
local macro_rules | `(tactic| walk_at "Msix") => `(tactic| (refine' sx_setIx ?n ?he ?h1 ?hi ?hj ?k ?hs ?hw ?h2 ?ha; (case n => walk_at "Mn"); (case he => walk_at "Mev"); (case h1 => first | exact .inl rfl | exact .inr rfl); (case hi => walk_at "Mev"); (case hj => rfl); (case hs => rfl); (case hw => rfl); (case h2 => rfl); (case ha => exact fun _ => rfl)))
local macro_rules | `(tactic| walk_at "Met") => `(tactic| first
  | (refine' et_not ?h; (case h => walk_at "Met"))
  | (refine' et_w ?h; (case h => walk_at "Mew"))
  | (refine' et_cj ?h; (case h => walk_at "Mcj"))
  | (refine' et_isN ?h; (case h => walk_at "Mev"))
  | (refine' et_notN ?h; (case h => walk_at "Mev"))
  | (refine' et_val ?h ?he; (case h => walk_at "Mev"); (case he => exact fun _ => rfl)))
local macro_rules | `(tactic| walk_at "Mew") => `(tactic| first
  | (refine' ew_and1 ?h; (case h => walk_at "Met"))
  | (refine' ew_or1 ?h; (case h => walk_at "Met"))
  | (refine' ew_and ?h1 ?h2; (case h1 => walk_at "Met"); (case h2 => (intro _; walk_at "Mew")))
  | (refine' ew_or ?h1 ?h2; (case h1 => walk_at "Met"); (case h2 => (intro _; walk_at "Mew"))))
local macro_rules | `(tactic| walk_at "Meta") => `(tactic| (refine' et_as ?t1 ?t2; (case t1 => walk_at "Met")))
local macro_rules | `(tactic| walk_at "Mif") => `(tactic| (refine' sx_if ?t ?a ?b; (case t => walk_at "Met")))
local macro_rules | `(tactic| walk_at "Mret") => `(tactic| (refine' sx_ret ?h ?k; (case h => walk_at "Mev")))
local macro_rules | `(tactic| walk_at "Mpq") => `(tactic| repeat' (first | exact pq_nil | (refine' pq_out rfl ?_) | (refine' pq_skip rfl ?_) | (refine' pq_par ?_ ?_)))
local macro_rules | `(tactic| walk_at "Mrt") => `(tactic| (first | refine' ⟨rr_d ?_, ?_⟩ | refine' ⟨rr_lo ?_, ?_⟩ | refine' ⟨rr_at rfl ?_, ?_⟩); walk_at "Mpq")
local macro_rules | `(tactic| walk_at "Mapp") => `(tactic| (refine' sx_append ?n ?h ?he ?h1 ?hl ?k rfl rfl rfl rfl rfl rfl; (case n => walk_at "Mn"); (case h => first | exact .inl rfl | exact .inr rfl); (case he => walk_at "Mev"); (case h1 => first | exact .inl rfl | exact .inr rfl); (case hl => walk_at "Mlen")))
local macro_rules | `(tactic| walk_at "Mfor") => `(tactic| (refine' sx_forR ?en ?g ?m ?e ?n ?f ?h0 ?hs ?hd rfl (fun _ => rfl); (case en => walk_at "Mn"); (case g => walk_at "Mn"); (case m => walk_at "Mn"); (case e => walk_at "Mev")))
/-! drawn lists -/
def liV (kind v : Int) : Int := [v % 6 - 1, v % 3, v % 2, if decide (v % 7 = 0) = true then v % 6 else 1, v % 16 - 1].getD kind.toNat 0
def liS (kind : Int) (x : List Int × Dr) : List Int × Dr := (x.1 ++ [liV kind x.2.val], x.2.nx)
def Dr.list (d : Dr) (most : Int) : List Int × Dr := itr (liS (d.val % 5)) (d.nx.val % (most + 1)).toNat ([], d.nx.nx)
theorem liS_at (kd : Int) (d : Dr) (n : Nat) : (itr (liS kd) n ([], d)).2.k = d.k + n ∧ (itr (liS kd) n ([], d)).1.length = n :=
  itr_ind (f := liS kd) (x := ([], d)) (C := fun n (y : List Int × Dr) => y.2.k = d.k + n ∧ y.1.length = n) ⟨by simp, rfl⟩ (fun n y ⟨h1, h2⟩ => by
    refine ⟨by show y.2.k + 1 = _; omega, ?_⟩
    show (y.1 ++ [_]).length = n + 1
    rw [List.length_append, h2]
    rfl) n
theorem getD_map {f : Int → D} {ns : List Int} {i : Nat} (h : i < ns.length) : (ns.map f).getD i .non = f (ns.getD i 0) := by
  rw [List.getD_eq_getElem?_getD, List.getD_eq_getElem?_getD, List.getElem?_map, List.getElem?_eq_getElem h]
  rfl
theorem b_list {X : Cx} {k : Nat} (c : Sc X N_list sc_list) (en : En X k) (C : ClX X k "_law_next" 1 [] idV spNext) (bi : Bi X "int" (.type "int")) (mr : X.mg "range" = none) {d : Dr} {most : Int} (h : 0 ≤ d.k ∧ d.k ≤ 800000000) (hm : 0 ≤ most ∧ most ≤ 1000) :
    SX X (defBody s_list) [.par d.ds, .d (.int most), .un, .un, .un, .un, .un] (retE [.par (d.list most).2.ds, .d (.int most)] (.lo (.own ((d.list most).1.map D.int)))) := by
  have l0 := nl_list_0 c
  have m0 := l0.nm
  have l1 := nl_list_1 c
  have m1 := l1.nm
  have l2 := nl_list_2 c
  have m2 := l2.nm
  have l3 := nl_list_3 c
  have m3 := l3.nm
  have l4 := nl_list_4 c
  have m4 := l4.nm
  have l5 := nl_list_5 c
  have m5 := l5.nm
  have l6 := nl_list_6 c
  have m6 := l6.nm
  have g_next := gl_list_next c
  have g_int := gl_list_int c
  have g_range := gl_list_range c
  have hd : 0 ≤ d.k ∧ d.k ≤ 1000000000 := by omega
  have h1 : 0 < most + 1 := by omega
  have hn : 0 ≤ d.nx.val % (most + 1) ∧ d.nx.val % (most + 1) ≤ 1000 := ⟨Int.emod_nonneg _ (by omega), by have := Int.emod_lt_of_pos d.nx.val h1; omega⟩
  have hk : 0 ≤ d.val % 5 ∧ d.val % 5 < 5 := ⟨Int.emod_nonneg _ (by decide), Int.emod_lt_of_pos _ (by decide)⟩
  walk_at "Mset"
  walk_at "Mset"
  unfold Dr.list
  generalize d.val % 5 = kd at *
  walk_at "Mfor"
  case n => omega
  case f => exact fun i => [.par (itr (liS kd) i ([], d.nx.nx)).2.ds, .d (.int most), .d (.int kd), .lo (.own ((itr (liS kd) i ([], d.nx.nx)).1.map D.int)), .un, .un, .un]
  case h0 => walk_at "Mwk"
  case hd =>
    walk_at "Mret"
    walk_at "Mrt"
    · rfl
    · rfl
  case hs =>
    intro i hi
    obtain ⟨e1, e2⟩ := liS_at kd d.nx.nx i
    rw [Dr.nx_k, Dr.nx_k] at e1
    generalize hx : itr (liS kd) i ([], d.nx.nx) = x at *
    obtain ⟨l, d2⟩ := x
    have e1 : d2.k = d.k + 1 + 1 + i := e1
    have e2 : l.length = i := e2
    have h2 : 0 ≤ d2.k ∧ d2.k ≤ 1000000000 := by omega
    refine ⟨_, tg_name l4 rfl rfl, ?_⟩
    walk_at "Mset"
    walk_at "Mset"
    refine' sx_append (d := .int (liV kd d2.val)) ?n1 ?h1 ?he1 ?h11 ?hl1 ?k1 rfl rfl rfl rfl rfl rfl
    case n1 => walk_at "Mn"
    case h1 => first | exact .inl rfl | exact .inr rfl
    case he1 =>
      refine' Ev.cast (r := .d ([D.int (d2.val % 6 - 1), .int (d2.val % 3), .int (d2.val % 2), .int (if decide (d2.val % 7 = 0) = true then d2.val % 6 else 1), .int (d2.val % 16 - 1)].getD kd.toNat .non)) ?c1 ?c2
      case c1 =>
        refine' ev_pickD ?p1 ?p2 ?p3 ?p4 ?p5 ?p6
        case p1 => walk_at "Mev"
        case p2 => walk_at "Mev"
        case p3 => exact .inl rfl
        case p4 => walk_at "Mcv"
        case p5 => exact ⟨hk.1, hk.2⟩
        case p6 => exact fun _ _ => rfl
      case c2 =>
        congr 1
        exact getD_map (f := D.int) (ns := [d2.val % 6 - 1, d2.val % 3, d2.val % 2, if decide (d2.val % 7 = 0) = true then d2.val % 6 else 1, d2.val % 16 - 1]) (by show kd.toNat < 5; omega)
    case h11 => first | exact .inl rfl | exact .inr rfl
    case hl1 => walk_at "Mlen"
    refine sx_nil ?_
    show Wk _ _
    rw [show itr (liS kd) (i + 1) ([], d.nx.nx) = liS kd (l, d2) by rw [← hx]; rfl]
    walk_at "Mwk"
    · show SV.lo (L.own _) = SV.lo (L.own _)
      congr 2
      show l.map D.int ++ _ = (l ++ [_]).map D.int
      rw [List.map_append]
      rfl
abbrev spList : Sp := spF (α := Dr × Int) (fun q => (0 ≤ q.1.k ∧ q.1.k ≤ 800000000) ∧ 0 ≤ q.2 ∧ q.2 ≤ 1000) (fun q => [.par q.1.ds, .d (.int q.2)]) (fun q => [.par (q.1.list q.2).2.ds, .d (.int q.2)]) (fun q => .lo (.own ((q.1.list q.2).1.map D.int)))
section
variable {P : Program} {w : World} {K : PySem.W.Frag} {mg : Str → Option Value} {base : Heap} {k : Nat} {f : Addr} {fd : FuncData}
theorem ok_list (F : F_list K f fd) (C : Cl P w K mg base k "_law_next" 1 [] idV spNext) (mi : mg "int" = none) (mr : mg "range" = none) : FnG P w K mg base CX0 (k + 1) f fd P_list spList :=
  fn_sx F fs_list (fun _ => rfl) fun cdv A outer s H E q hg hr hp => by
    have c : Sc (cxOf CX0 P w K mg base N_list "_law_list" sc_list f cdv A outer s H E) N_list sc_list := ⟨rfl, rfl, fun _ => rfl⟩
    exact b_list c (en_of hg hr) C (c.bi rfl mi) mr hp.1 hp.2
theorem cl_list (F : F_list K f fd) (ok : FnG P w K mg base CX0 k f fd P_list spList) (hm : mg "_law_list" = some (.ref f)) : Cl P w K mg base k "_law_list" 2 [] idV spList :=
  cl_of F ok hm fun _ _ _ _ _ _ us hl => match us, hl with | [_, _], _ => rfl
end
theorem ev_list2 {X : Cx} {k i : Nat} {x : Str} {d : Dr} {e : Expr} {ρ : List SV} {most : Int} {p q pos : Pos} (C : ClX X k "_law_list" 2 [] idV spList) (en : En X k) (g : Gl X "_law_list") (m : Nm X i x) (h : IsOwn ρ i d.ds) (ha : Ev X true e ρ ρ (.d (.int most)))
    (hk : 0 ≤ d.k ∧ d.k ≤ 800000000) (hm : 0 ≤ most ∧ most ≤ 1000) (hs : starEach [e] X.env = [(false, eval e X.env)]) (he : starEach [.Name x q, e] X.env = (false, eval (.Name x q) X.env) :: starEach [e] X.env) (hpl : (backTo pos (starEach [e] X.env)).any (·.1) = false) :
    Ev X false (.Call (.Name "_law_list" p) [.Name x q, e] [] pos) ρ (newAt ρ i (d.list most).2.ds) (.lo (.own ((d.list most).1.map D.int))) :=
  ev_goP (rs := [.d (.int most)]) (ds := [.int most]) C en g (d, most) (ea_cons (p1 := true) (p2 := true) (ev_at m h) (ea_one ha hs) (.inl rfl) he) rfl rfl ⟨hk, hm⟩ rfl rfl rfl he hpl
end Lw

set_option Elab.async false
set_option linter.all false
set_option maxRecDepth 100000
set_option maxHeartbeats 4000000
namespace Lw
open PySem PySem.Spec PyProof.Rows L2 Mw
local macro_rules | `(tactic| walk_at "Mkb") => `(tactic| first | exact kb_NoneType_int | exact kb_NoneType_bool | exact kb_NoneType_list | exact kb_NoneType_str | exact kb_NoneType_dict | exact kb_NoneType_tuple | exact kb_bool_int | exact kb_bool_bool | exact kb_bool_list | exact kb_bool_str | exact kb_bool_dict | exact kb_bool_tuple | exact kb_int_int | exact kb_int_bool | exact kb_int_list | exact kb_int_str | exact kb_int_dict | exact kb_int_tuple | exact kb_str_int | exact kb_str_bool | exact kb_str_list | exact kb_str_str | exact kb_str_dict | exact kb_str_tuple | exact kb_list_int | exact kb_list_bool | exact kb_list_list | exact kb_list_str | exact kb_list_dict | exact kb_list_tuple | exact kb_tuple_int | exact kb_tuple_bool | exact kb_tuple_list | exact kb_tuple_str | exact kb_tuple_dict | exact kb_tuple_tuple | exact kb_dict_int | exact kb_dict_bool | exact kb_dict_list | exact kb_dict_str | exact kb_dict_dict | exact kb_dict_tuple)
local macro_rules | `(tactic| walk_at "Mn") => `(tactic| with_reducible assumption)
local macro_rules | `(tactic| walk_at "Mnum") => `(tactic| first | assumption | decide | omega | (constructor <;> first | assumption | decide | omega))
local macro_rules | `(tactic| walk_at "Mcv") => `(tactic| first | exact cv_d | exact cv_own | exact cv_at | exact Cv.refl)
local macro_rules | `(tactic| walk_at "Mev") => `(tactic| first
  | exact ev_int | exact ev_bl | exact ev_non | exact ev_str
  | (refine' ev_d ?hn ?hs; (case hn => walk_at "Mn"); (case hs => rfl))
  | (refine' ev_at ?hn ?hs; (case hn => walk_at "Mn"); (case hs => first | exact .inl rfl | exact .inr rfl))
  | (refine' ev_lo ?hn ?hs; (case hn => walk_at "Mn"); (case hs => rfl))
  | (refine' ev_add ?h1 ?h2; (case h1 => walk_at "Mev"); (case h2 => walk_at "Mev"))
  | (refine' ev_sub ?h1 ?h2; (case h1 => walk_at "Mev"); (case h2 => walk_at "Mev"))
  | (refine' ev_pow ?h1 ?h2 ?h3; (case h1 => walk_at "Mev"); (case h2 => walk_at "Mev"); (case h3 => walk_at "Mnum"))
  | (refine' ev_mod ?h1 ?h2 ?h3; (case h1 => walk_at "Mev"); (case h2 => walk_at "Mev"); (case h3 => walk_at "Mnum"))
  | (refine' ev_fdiv ?h1 ?h2 ?h3; (case h1 => walk_at "Mev"); (case h2 => walk_at "Mev"); (case h3 => walk_at "Mnum"))
  | (refine' ev_mul ?h1 ?h2 ?h3; (case h1 => walk_at "Mev"); (case h2 => walk_at "Mev"); (case h3 => first | assumption | (left; constructor <;> walk_at "Mnum") | (right; constructor <;> walk_at "Mnum")))
  | (refine' ev_intI ?h0 ?h1 rfl; (case h0 => walk_at "Mn"); (case h1 => walk_at "Mev"))
  | (refine' ev_intB ?h0 ?h1 rfl; (case h0 => walk_at "Mn"); (case h1 => walk_at "Mev"))
  | (refine' ev_next ?C ?en ?g ?m ?h ?b; (case C => walk_at "Mn"); (case en => walk_at "Mn"); (case g => walk_at "Mn"); (case m => walk_at "Mn"); (case h => first | exact .inr rfl | exact .inl rfl); (case b => walk_at "Mdr"))
  | (refine' ev_pick ?h1 ?h2 ?hp ?h3 ?h6; (case h1 => walk_at "Mev"); (case h2 => walk_at "Mev"); (case hp => first | exact .inl rfl | exact .inr rfl); (case h3 => walk_at "Mcv"); (case h6 => exact fun _ _ => rfl))
  | (refine' ev_globI ?g ?m rfl; (case g => walk_at "Mn"); (case m => walk_at "Mn"))
  | (refine' ev_isi ?h0 ?h1 ?h2 ?h3 ?h4 rfl rfl rfl; (case h0 => walk_at "Mn"); (case h1 => walk_at "Mn"); (case h2 => walk_at "Mev"); (case h3 => rfl); (case h4 => walk_at "Mkb"))
  | (refine' ev_len ?h0 ?h1 ?h2 rfl; (case h0 => walk_at "Mn"); (case h1 => walk_at "Mev"); (case h2 => walk_at "Mcv"))
  | (refine' ev_list ?h0 ?h1 ?h2 rfl; (case h0 => walk_at "Mn"); (case h1 => walk_at "Mev"); (case h2 => walk_at "Mcv"))
  | (refine' Ev.cast ?hh ?qq; (case hh => (refine' ev_go ?C ?en ?g ?a ?ha ?hd ?l1 ?hp ?hi rfl rfl rfl; (case C => walk_at "Mn"); (case en => walk_at "Mn"); (case g => walk_at "Mn"); (case ha => walk_at "Mea"); (case hd => rfl); (case l1 => rfl); (case hi => rfl); (case hp => walk_at "Mpre"))); (case qq => rfl))
  | (refine' Ev.cast ?hh ?qq; (case hh => (refine' ev_go ?C ?en ?g (?a, ?b) ?ha ?hd ?l1 ?hp ?hi rfl rfl rfl; (case C => walk_at "Mn"); (case en => walk_at "Mn"); (case g => walk_at "Mn"); (case ha => walk_at "Mea"); (case hd => rfl); (case l1 => rfl); (case hi => rfl); (case hp => walk_at "Mpre"))); (case qq => rfl))
  | (refine' Ev.cast ?hh ?qq; (case hh => (refine' ev_go ?C ?en ?g (?a, ?b, ?c) ?ha ?hd ?l1 ?hp ?hi rfl rfl rfl; (case C => walk_at "Mn"); (case en => walk_at "Mn"); (case g => walk_at "Mn"); (case ha => walk_at "Mea"); (case hd => rfl); (case l1 => rfl); (case hi => rfl); (case hp => walk_at "Mpre"))); (case qq => rfl))
  | (refine' ev_sliceTI ?h1 ?h2 ?h3 ?h4; (case h1 => walk_at "Mev"); (case h2 => walk_at "Mcv"); (case h3 => walk_at "Mev"); (case h4 => walk_at "Mnum"))
  | (refine' ev_sliceDI ?h1 ?h2 ?h3 ?h4; (case h1 => walk_at "Mev"); (case h2 => walk_at "Mcv"); (case h3 => walk_at "Mev"); (case h4 => walk_at "Mnum"))
  | (refine' ev_sliceT ?h1 ?h2 ?h3 ?h4; (case h1 => walk_at "Mev"); (case h2 => walk_at "Mcv"); (case h3 => walk_at "Mev"); (case h4 => walk_at "Mnum"))
  | (refine' ev_sliceD ?h1 ?h2 ?h3 ?h4; (case h1 => walk_at "Mev"); (case h2 => walk_at "Mcv"); (case h3 => walk_at "Mev"); (case h4 => walk_at "Mnum"))
  | (refine' ev_ixL ?h1 ?h2 ?hp ?h3 ?h4 ?h5 ?h6; (case h1 => walk_at "Mev"); (case h2 => walk_at "Mev"); (case hp => first | exact .inl rfl | exact .inr rfl); (case h3 => walk_at "Mcv"); (case h4 => rfl); (case h5 => rfl); (case h6 => exact fun _ _ => rfl))
  | (refine' ev_cj ?h; (case h => walk_at "Mcj"))
  | (refine' ev_isN ?h; (case h => walk_at "Mev"))
  | (refine' ev_notN ?h; (case h => walk_at "Mev"))
  | (refine' ev_lst ?h1 ?h2 ?h3; (case h1 => walk_at "Mea"); (case h2 => rfl); (case h3 => exact Nat.le_of_ble_eq_true rfl))
  | (refine' ev_repB ?h1 ?h2 ?hp ?h3 ?h4; (case h1 => walk_at "Mev"); (case h2 => walk_at "Mev"); (case hp => first | exact .inl rfl | exact .inr rfl); (case h3 => walk_at "Mcv"); (case h4 => first | exact Nat.le_of_ble_eq_true rfl | walk_at "Mlen"))
  | (refine' ev_catA ?h1 ?h2 ?hp ?h4 ?h5; (case h1 => walk_at "Mev"); (case h2 => walk_at "Mev"); (case hp => first | exact .inl rfl | exact .inr rfl); (case h4 => walk_at "Mcv"); (case h5 => walk_at "Mlen"))
  | (refine' ev_cat ?h1 ?h2 ?hp ?h3 ?h4 ?h5; (case h1 => walk_at "Mev"); (case h2 => walk_at "Mev"); (case hp => first | exact .inl rfl | exact .inr rfl); (case h3 => walk_at "Mcv"); (case h4 => walk_at "Mcv"); (case h5 => walk_at "Mlen"))
  )
local macro_rules | `(tactic| walk_at "Mpre") => `(tactic| first | trivial | assumption | (simp only [List.length_map]; omega) | (constructor <;> first | assumption | (simp only [List.length_map]; omega)))
local macro_rules | `(tactic| walk_at "Mcj") => `(tactic| first
  | (refine' cj_lt ?h1 ?h2; (case h1 => walk_at "Mev"); (case h2 => walk_at "Mev"))
  | (refine' cj_le ?h1 ?h2; (case h1 => walk_at "Mev"); (case h2 => walk_at "Mev"))
  | (refine' cj_gt ?h1 ?h2; (case h1 => walk_at "Mev"); (case h2 => walk_at "Mev"))
  | (refine' cj_ge ?h1 ?h2; (case h1 => walk_at "Mev"); (case h2 => walk_at "Mev"))
  | (refine' cj_eqI ?h1 ?h2; (case h1 => walk_at "Mev"); (case h2 => walk_at "Mev"))
  | (refine' cj_neI ?h1 ?h2; (case h1 => walk_at "Mev"); (case h2 => walk_at "Mev"))
  | (refine' cj_eqS ?h1 ?h2; (case h1 => walk_at "Mev"); (case h2 => walk_at "Mev"))
  | (refine' cj_neS ?h1 ?h2; (case h1 => walk_at "Mev"); (case h2 => walk_at "Mev"))
  | (refine' cj_in ?h1 ?h2 ?h3 rfl; (case h1 => walk_at "Mev"); (case h2 => walk_at "Mev"); (case h3 => walk_at "Mcv"))
  | (refine' cj_notIn ?h1 ?h2 ?h3 rfl; (case h1 => walk_at "Mev"); (case h2 => walk_at "Mev"); (case h3 => walk_at "Mcv")))
local macro_rules | `(tactic| walk_at "Mea") => `(tactic| first
  | exact ea_nil
  | (refine' ea_cons ?h1 ?h2 ?pk rfl; (case h1 => walk_at "Mev"); (case h2 => walk_at "Mea"); (case pk => first | exact .inl rfl | exact .inr rfl)))
local macro_rules | `(tactic| walk_at "Mdr") => `(tactic| first | assumption | (simp only [Dr.nx_k] at *; omega))
local macro_rules | `(tactic| walk_at "Mlen") => `(tactic| first | assumption | omega | (simp only [List.length_map, List.length_append, List.length_cons, List.length_nil, List.length_replicate, List.length_range]; omega) | (refine Nat.le_trans (Nat.add_le_add_left len_ite_le _) ?_; simp only [List.length_map, List.length_append, List.length_cons, List.length_nil, List.length_replicate, List.length_range]; omega))
local macro_rules | `(tactic| walk_at "Mwk") => `(tactic| (refine' wk_of ?_; repeat' (first | exact wk_nil | (refine' wk_same ?_) | (refine' wk_d ?_) | (refine' wk_lo ?_) | (refine' wk_eq ?_ ?_))))
local macro_rules | `(tactic| walk_at "Mset") => `(tactic| (refine' sx_set ?n ?e ?h0 ?np ?k ?hs; (case n => walk_at "Mn"); (case e => walk_at "Mev"); (case h0 => rfl); (case np => rfl); (case hs => rfl)))
local macro_rules | `(tactic| walk_at "Msix") => `(tactic| (refine' sx_setIx ?n ?he ?h1 ?hi ?hj ?k ?hs ?hw ?h2 ?ha; (case n => walk_at "Mn"); (case he => walk_at "Mev"); (case h1 => first | exact .inl rfl | exact .inr rfl); (case hi => walk_at "Mev"); (case hj => rfl); (case hs => rfl); (case hw => rfl); (case h2 => rfl); (case ha => exact fun _ => rfl)))
local macro_rules | `(tactic| walk_at "Met") => `(tactic| first
  | (refine' et_not ?h; (case h => walk_at "Met"))
  | (refine' et_w ?h; (case h => walk_at "Mew"))
  | (refine' et_cj ?h; (case h => walk_at "Mcj"))
  | (refine' et_isN ?h; (case h => walk_at "Mev"))
  | (refine' et_notN ?h; (case h => walk_at "Mev"))
  | (refine' et_val ?h ?he; (case h => walk_at "Mev"); (case he => exact fun _ => rfl)))
local macro_rules | `(tactic| walk_at "Mew") => `(tactic| first
  | (refine' ew_and1 ?h; (case h => walk_at "Met"))
  | (refine' ew_or1 ?h; (case h => walk_at "Met"))
  | (refine' ew_and ?h1 ?h2; (case h1 => walk_at "Met"); (case h2 => (intro _; walk_at "Mew")))
  | (refine' ew_or ?h1 ?h2; (case h1 => walk_at "Met"); (case h2 => (intro _; walk_at "Mew"))))
local macro_rules | `(tactic| walk_at "Meta") => `(tactic| (refine' et_as ?t1 ?t2; (case t1 => walk_at "Met")))
local macro_rules | `(tactic| walk_at "Mif") => `(tactic| (refine' sx_if ?t ?a ?b; (case t => walk_at "Met")))
local macro_rules | `(tactic| walk_at "Mret") => `(tactic| (refine' sx_ret ?h ?k; (case h => walk_at "Mev")))
local macro_rules | `(tactic| walk_at "Mpq") => `(tactic| repeat' (first | exact pq_nil | (refine' pq_out rfl ?_) | (refine' pq_skip rfl ?_) | (refine' pq_par ?_ ?_)))
local macro_rules | `(tactic| walk_at "Mrt") => `(tactic| (first | refine' ⟨rr_d ?_, ?_⟩ | refine' ⟨rr_lo ?_, ?_⟩ | refine' ⟨rr_at rfl ?_, ?_⟩); walk_at "Mpq")
local macro_rules | `(tactic| walk_at "Mapp") => `(tactic| (refine' sx_append ?n ?h ?he ?h1 ?hl ?k rfl rfl rfl rfl rfl rfl; (case n => walk_at "Mn"); (case h => first | exact .inl rfl | exact .inr rfl); (case he => walk_at "Mev"); (case h1 => first | exact .inl rfl | exact .inr rfl); (case hl => walk_at "Mlen")))
local macro_rules | `(tactic| walk_at "Mfor") => `(tactic| (refine' sx_forR ?en ?g ?m ?e ?n ?f ?h0 ?hs ?hd rfl (fun _ => rfl); (case en => walk_at "Mn"); (case g => walk_at "Mn"); (case m => walk_at "Mn"); (case e => walk_at "Mev")))
local macro_rules | `(tactic| walk_at "Mwh") => `(tactic| (refine' sx_whileW ?en ?g ?m ?a ?h0 ?I ?i0 ?hs; (case en => walk_at "Mn")))
/-! long runs -/
def repI (v : Int) : Int := [1, 2, 3, 4, 7, 8, 15, 16, 20].getD (v % 9).toNat 0
def reps (v : Int) : Nat := (repI v).toNat
def loS (x : List Int × Dr) : List Int × Dr := (x.1 ++ List.replicate (reps x.2.nx.val) (x.2.val % 3), x.2.nx.nx)
def Dr.long (d : Dr) : List Int × Dr := let x := itr loS (1 + d.val % 6).toNat ([], d.nx); (x.1.take 120, x.2)
theorem repI_le (v : Int) : 0 ≤ repI v ∧ repI v ≤ 20 := by
  have h : 0 ≤ v % 9 ∧ v % 9 < 9 := ⟨Int.emod_nonneg _ (by decide), Int.emod_lt_of_pos _ (by decide)⟩
  unfold repI
  generalize v % 9 = j at h
  obtain ⟨n, rfl⟩ := Int.eq_ofNat_of_zero_le h.1
  have hn : n < 9 := by omega
  rw [Int.toNat_natCast]
  match n, hn with
  | 0, _ | 1, _ | 2, _ | 3, _ | 4, _ | 5, _ | 6, _ | 7, _ | 8, _ => decide
theorem reps_le (v : Int) : reps v ≤ 20 := by
  have := repI_le v
  unfold reps
  omega
theorem flat_rep1 {α : Type} {a : α} : ∀ n : Nat, (List.replicate n [a]).flatten = List.replicate n a
  | 0 => rfl
  | n + 1 => by rw [List.replicate_succ, List.replicate_succ, List.flatten_cons, flat_rep1 n]; rfl
theorem loS_at (d : Dr) (n : Nat) : (itr loS n ([], d)).2.k = d.k + 2 * n ∧ (itr loS n ([], d)).1.length ≤ 20 * n :=
  itr_ind (f := loS) (x := ([], d)) (C := fun n (y : List Int × Dr) => y.2.k = d.k + 2 * n ∧ y.1.length ≤ 20 * n) ⟨by simp, Nat.le_refl _⟩ (fun n y ⟨h1, h2⟩ => by
    refine ⟨by show y.2.k + 1 + 1 = _; omega, ?_⟩
    show (y.1 ++ List.replicate (reps _) _).length ≤ 20 * (n + 1)
    have := reps_le y.2.nx.val
    rw [List.length_append, List.length_replicate]
    omega) n
theorem b_long {X : Cx} {k : Nat} (c : Sc X N_long sc_long) (en : En X k) (C : ClX X k "_law_next" 1 [] idV spNext) (bi : Bi X "int" (.type "int")) (mr : X.mg "range" = none) {d : Dr} (h : 0 ≤ d.k ∧ d.k ≤ 800000000) :
    SX X (defBody s_long) [.par d.ds, .un, .un] (retE [.par d.long.2.ds] (.lo (.own (d.long.1.map D.int)))) := by
  have l0 := nl_long_0 c
  have m0 := l0.nm
  have l1 := nl_long_1 c
  have m1 := l1.nm
  have l2 := nl_long_2 c
  have m2 := l2.nm
  have g_next := gl_long_next c
  have g_int := gl_long_int c
  have g_range := gl_long_range c
  have hd : 0 ≤ d.k ∧ d.k ≤ 1000000000 := by omega
  have hn : 0 ≤ d.val % 6 ∧ d.val % 6 < 6 := ⟨Int.emod_nonneg _ (by decide), Int.emod_lt_of_pos _ (by decide)⟩
  walk_at "Mset"
  unfold Dr.long
  walk_at "Mfor"
  case n => omega
  case f => exact fun i => [.par (itr loS i ([], d.nx)).2.ds, .lo (.own ((itr loS i ([], d.nx)).1.map D.int)), .un]
  case h0 => walk_at "Mwk"
  case hd =>
    obtain ⟨e1, e2⟩ := loS_at d.nx (1 + d.val % 6).toNat
    generalize hx : itr loS (1 + d.val % 6).toNat ([], d.nx) = x at *
    walk_at "Mret"
    walk_at "Mrt"
    · rfl
    · rfl
  case hs =>
    intro i hi
    obtain ⟨e1, e2⟩ := loS_at d.nx i
    rw [Dr.nx_k] at e1
    generalize hx : itr loS i ([], d.nx) = x at *
    obtain ⟨l, d2⟩ := x
    have e1 : d2.k = d.k + 1 + 2 * i := e1
    have e2 : l.length ≤ 20 * i := e2
    have h2 : 0 ≤ d2.k ∧ d2.k ≤ 900000000 := by omega
    have h2' : 0 ≤ d2.k ∧ d2.k ≤ 1000000000 := by omega
    have hj : 0 ≤ d2.nx.val % 9 ∧ d2.nx.val % 9 < 9 := ⟨Int.emod_nonneg _ (by decide), Int.emod_lt_of_pos _ (by decide)⟩
    have hr := repI_le d2.nx.val
    refine ⟨_, tg_name l2 rfl rfl, ?_⟩
    refine' sx_set ?n1 ?e1 ?h01 ?np1 ?k1 ?hs1
    case n1 => walk_at "Mn"
    case e1 =>
      refine' ev_catA ?y1 ?y2 ?yp ?y4 ?y5
      case y1 => walk_at "Mev"
      case y2 =>
        refine' ev_rep (k := repI d2.nx.val) ?z1 ?z2 ?zp ?z3 ?z4 ?z5 ?z6
        case z1 => walk_at "Mev"
        case z2 =>
          refine' Ev.cast (r := .d (([1, 2, 3, 4, 7, 8, 15, 16, 20].map D.int).getD (d2.nx.val % 9).toNat .non)) ?c1 ?c2
          case c1 =>
            refine' ev_pickD (ds := [1, 2, 3, 4, 7, 8, 15, 16, 20].map D.int) ?p1 ?p2 ?p3 ?p4 ?p5 ?p6
            case p1 => walk_at "Mev"
            case p2 => walk_at "Mev"
            case p3 => exact .inr rfl
            case p4 => walk_at "Mcv"
            case p5 => exact hj
            case p6 => exact fun _ _ => rfl
          case c2 =>
            congr 1
            exact (getD_map (by show _ < 9; omega)).trans rfl
        case zp => exact .inr rfl
        case z3 => walk_at "Mcv"
        case z4 => omega
        case z5 => omega
        case z6 => show 1 * _ ≤ _; omega
      case yp => exact .inl rfl
      case y4 => walk_at "Mcv"
      case y5 =>
        show (l.map D.int).length + (List.replicate (repI d2.nx.val).toNat [D.int (d2.val % 3)]).flatten.length ≤ 16000000
        rw [flat_rep1, List.length_map, List.length_replicate]
        omega
    case h01 => rfl
    case np1 => rfl
    case hs1 => rfl
    refine sx_nil ?_
    show Wk _ _
    rw [show itr loS (i + 1) ([], d.nx) = loS (l, d2) by rw [← hx]; rfl]
    walk_at "Mwk"
    · show SV.lo (L.own _) = SV.lo (L.own _)
      congr 2
      show l.map D.int ++ _ = (l ++ List.replicate (reps d2.nx.val) (d2.val % 3)).map D.int
      rw [List.map_append, List.map_replicate, flat_rep1]
      rfl
abbrev spLong : Sp := spF (α := Dr) (fun q => 0 ≤ q.k ∧ q.k ≤ 800000000) (fun q => [.par q.ds]) (fun q => [.par q.long.2.ds]) (fun q => .lo (.own (q.long.1.map D.int)))
section
variable {P : Program} {w : World} {K : PySem.W.Frag} {mg : Str → Option Value} {base : Heap} {k : Nat} {f : Addr} {fd : FuncData}
theorem ok_long (F : F_long K f fd) (C : Cl P w K mg base k "_law_next" 1 [] idV spNext) (mi : mg "int" = none) (mr : mg "range" = none) : FnG P w K mg base CX0 (k + 1) f fd P_long spLong :=
  fn_sx F fs_long (fun _ => rfl) fun cdv A outer s H E q hg hr hp => by
    have c : Sc (cxOf CX0 P w K mg base N_long "_law_long" sc_long f cdv A outer s H E) N_long sc_long := ⟨rfl, rfl, fun _ => rfl⟩
    exact b_long c (en_of hg hr) C (c.bi rfl mi) mr hp
theorem cl_long (F : F_long K f fd) (ok : FnG P w K mg base CX0 k f fd P_long spLong) (hm : mg "_law_long" = some (.ref f)) : Cl P w K mg base k "_law_long" 1 [] idV spLong :=
  cl_of F ok hm fun _ _ _ _ _ _ us hl => match us, hl with | [_], _ => rfl
end
theorem ev_long {X : Cx} {k i : Nat} {x : Str} {d : Dr} {ρ : List SV} {p q pos : Pos} (C : ClX X k "_law_long" 1 [] idV spLong) (en : En X k) (g : Gl X "_law_long") (m : Nm X i x) (h : IsOwn ρ i d.ds) (hk : 0 ≤ d.k ∧ d.k ≤ 800000000) :
    Ev X false (.Call (.Name "_law_long" p) [.Name x q] [] pos) ρ (newAt ρ i d.long.2.ds) (.lo (.own (d.long.1.map D.int))) :=
  ev_goP (rs := []) (ds := []) C en g d (ea_one (ev_at m h) rfl) rfl rfl hk rfl rfl rfl rfl rfl
end Lw

set_option Elab.async false
set_option linter.all false
set_option maxRecDepth 100000
set_option maxHeartbeats 4000000
namespace Lw
open PySem PySem.Spec PyProof.Rows L2 Mw
local macro_rules | `(tactic| walk_at "Mkb") => `(tactic| first | exact kb_NoneType_int | exact kb_NoneType_bool | exact kb_NoneType_list | exact kb_NoneType_str | exact kb_NoneType_dict | exact kb_NoneType_tuple | exact kb_bool_int | exact kb_bool_bool | exact kb_bool_list | exact kb_bool_str | exact kb_bool_dict | exact kb_bool_tuple | exact kb_int_int | exact kb_int_bool | exact kb_int_list | exact kb_int_str | exact kb_int_dict | exact kb_int_tuple | exact kb_str_int | exact kb_str_bool | exact kb_str_list | exact kb_str_str | exact kb_str_dict | exact kb_str_tuple | exact kb_list_int | exact kb_list_bool | exact kb_list_list | exact kb_list_str | exact kb_list_dict | exact kb_list_tuple | exact kb_tuple_int | exact kb_tuple_bool | exact kb_tuple_list | exact kb_tuple_str | exact kb_tuple_dict | exact kb_tuple_tuple | exact kb_dict_int | exact kb_dict_bool | exact kb_dict_list | exact kb_dict_str | exact kb_dict_dict | exact kb_dict_tuple)
local macro_rules | `(tactic| walk_at "Mn") => `(tactic| with_reducible assumption)
local macro_rules | `(tactic| walk_at "Mnum") => `(tactic| first | assumption | decide | omega | (constructor <;> first | assumption | decide | omega))
local macro_rules | `(tactic| walk_at "Mcv") => `(tactic| first | exact cv_d | exact cv_own | exact cv_at | exact Cv.refl)
local macro_rules | `(tactic| walk_at "Mev") => `(tactic| first
  | exact ev_int | exact ev_bl | exact ev_non | exact ev_str
  | (refine' ev_d ?hn ?hs; (case hn => walk_at "Mn"); (case hs => rfl))
  | (refine' ev_at ?hn ?hs; (case hn => walk_at "Mn"); (case hs => first | exact .inl rfl | exact .inr rfl))
  | (refine' ev_lo ?hn ?hs; (case hn => walk_at "Mn"); (case hs => rfl))
  | (refine' ev_add ?h1 ?h2; (case h1 => walk_at "Mev"); (case h2 => walk_at "Mev"))
  | (refine' ev_sub ?h1 ?h2; (case h1 => walk_at "Mev"); (case h2 => walk_at "Mev"))
  | (refine' ev_pow ?h1 ?h2 ?h3; (case h1 => walk_at "Mev"); (case h2 => walk_at "Mev"); (case h3 => walk_at "Mnum"))
  | (refine' ev_mod ?h1 ?h2 ?h3; (case h1 => walk_at "Mev"); (case h2 => walk_at "Mev"); (case h3 => walk_at "Mnum"))
  | (refine' ev_fdiv ?h1 ?h2 ?h3; (case h1 => walk_at "Mev"); (case h2 => walk_at "Mev"); (case h3 => walk_at "Mnum"))
  | (refine' ev_mul ?h1 ?h2 ?h3; (case h1 => walk_at "Mev"); (case h2 => walk_at "Mev"); (case h3 => first | assumption | (left; constructor <;> walk_at "Mnum") | (right; constructor <;> walk_at "Mnum")))
  | (refine' ev_intI ?h0 ?h1 rfl; (case h0 => walk_at "Mn"); (case h1 => walk_at "Mev"))
  | (refine' ev_intB ?h0 ?h1 rfl; (case h0 => walk_at "Mn"); (case h1 => walk_at "Mev"))
  | (refine' ev_next ?C ?en ?g ?m ?h ?b; (case C => walk_at "Mn"); (case en => walk_at "Mn"); (case g => walk_at "Mn"); (case m => walk_at "Mn"); (case h => first | exact .inr rfl | exact .inl rfl); (case b => walk_at "Mdr"))
  | (refine' ev_pick ?h1 ?h2 ?hp ?h3 ?h6; (case h1 => walk_at "Mev"); (case h2 => walk_at "Mev"); (case hp => first | exact .inl rfl | exact .inr rfl); (case h3 => walk_at "Mcv"); (case h6 => exact fun _ _ => rfl))
  | (refine' ev_globI ?g ?m rfl; (case g => walk_at "Mn"); (case m => walk_at "Mn"))
  | (refine' ev_isi ?h0 ?h1 ?h2 ?h3 ?h4 rfl rfl rfl; (case h0 => walk_at "Mn"); (case h1 => walk_at "Mn"); (case h2 => walk_at "Mev"); (case h3 => rfl); (case h4 => walk_at "Mkb"))
  | (refine' ev_len ?h0 ?h1 ?h2 rfl; (case h0 => walk_at "Mn"); (case h1 => walk_at "Mev"); (case h2 => walk_at "Mcv"))
  | (refine' ev_list ?h0 ?h1 ?h2 rfl; (case h0 => walk_at "Mn"); (case h1 => walk_at "Mev"); (case h2 => walk_at "Mcv"))
  | (refine' Ev.cast ?hh ?qq; (case hh => (refine' ev_go ?C ?en ?g ?a ?ha ?hd ?l1 ?hp ?hi rfl rfl rfl; (case C => walk_at "Mn"); (case en => walk_at "Mn"); (case g => walk_at "Mn"); (case ha => walk_at "Mea"); (case hd => rfl); (case l1 => rfl); (case hi => rfl); (case hp => walk_at "Mpre"))); (case qq => rfl))
  | (refine' Ev.cast ?hh ?qq; (case hh => (refine' ev_go ?C ?en ?g (?a, ?b) ?ha ?hd ?l1 ?hp ?hi rfl rfl rfl; (case C => walk_at "Mn"); (case en => walk_at "Mn"); (case g => walk_at "Mn"); (case ha => walk_at "Mea"); (case hd => rfl); (case l1 => rfl); (case hi => rfl); (case hp => walk_at "Mpre"))); (case qq => rfl))
  | (refine' Ev.cast ?hh ?qq; (case hh => (refine' ev_go ?C ?en ?g (?a, ?b, ?c) ?ha ?hd ?l1 ?hp ?hi rfl rfl rfl; (case C => walk_at "Mn"); (case en => walk_at "Mn"); (case g => walk_at "Mn"); (case ha => walk_at "Mea"); (case hd => rfl); (case l1 => rfl); (case hi => rfl); (case hp => walk_at "Mpre"))); (case qq => rfl))
  | (refine' ev_sliceTI ?h1 ?h2 ?h3 ?h4; (case h1 => walk_at "Mev"); (case h2 => walk_at "Mcv"); (case h3 => walk_at "Mev"); (case h4 => walk_at "Mnum"))
  | (refine' ev_sliceDI ?h1 ?h2 ?h3 ?h4; (case h1 => walk_at "Mev"); (case h2 => walk_at "Mcv"); (case h3 => walk_at "Mev"); (case h4 => walk_at "Mnum"))
  | (refine' ev_sliceT ?h1 ?h2 ?h3 ?h4; (case h1 => walk_at "Mev"); (case h2 => walk_at "Mcv"); (case h3 => walk_at "Mev"); (case h4 => walk_at "Mnum"))
  | (refine' ev_sliceD ?h1 ?h2 ?h3 ?h4; (case h1 => walk_at "Mev"); (case h2 => walk_at "Mcv"); (case h3 => walk_at "Mev"); (case h4 => walk_at "Mnum"))
  | (refine' ev_ixL ?h1 ?h2 ?hp ?h3 ?h4 ?h5 ?h6; (case h1 => walk_at "Mev"); (case h2 => walk_at "Mev"); (case hp => first | exact .inl rfl | exact .inr rfl); (case h3 => walk_at "Mcv"); (case h4 => rfl); (case h5 => rfl); (case h6 => exact fun _ _ => rfl))
  | (refine' ev_cj ?h; (case h => walk_at "Mcj"))
  | (refine' ev_isN ?h; (case h => walk_at "Mev"))
  | (refine' ev_notN ?h; (case h => walk_at "Mev"))
  | (refine' ev_lst ?h1 ?h2 ?h3; (case h1 => walk_at "Mea"); (case h2 => rfl); (case h3 => exact Nat.le_of_ble_eq_true rfl))
  | (refine' ev_repB ?h1 ?h2 ?hp ?h3 ?h4; (case h1 => walk_at "Mev"); (case h2 => walk_at "Mev"); (case hp => first | exact .inl rfl | exact .inr rfl); (case h3 => walk_at "Mcv"); (case h4 => first | exact Nat.le_of_ble_eq_true rfl | walk_at "Mlen"))
  | (refine' ev_catA ?h1 ?h2 ?hp ?h4 ?h5; (case h1 => walk_at "Mev"); (case h2 => walk_at "Mev"); (case hp => first | exact .inl rfl | exact .inr rfl); (case h4 => walk_at "Mcv"); (case h5 => walk_at "Mlen"))
  | (refine' ev_cat ?h1 ?h2 ?hp ?h3 ?h4 ?h5; (case h1 => walk_at "Mev"); (case h2 => walk_at "Mev"); (case hp => first | exact .inl rfl | exact .inr rfl); (case h3 => walk_at "Mcv"); (case h4 => walk_at "Mcv"); (case h5 => walk_at "Mlen"))
  )
local macro_rules | `(tactic| walk_at "Mpre") => `(tactic| first | trivial | assumption | (simp only [List.length_map]; omega) | (constructor <;> first | assumption | (simp only [List.length_map]; omega)))
local macro_rules | `(tactic| walk_at "Mcj") => `(tactic| first
  | (refine' cj_lt ?h1 ?h2; (case h1 => walk_at "Mev"); (case h2 => walk_at "Mev"))
  | (refine' cj_le ?h1 ?h2; (case h1 => walk_at "Mev"); (case h2 => walk_at "Mev"))
  | (refine' cj_gt ?h1 ?h2; (case h1 => walk_at "Mev"); (case h2 => walk_at "Mev"))
  | (refine' cj_ge ?h1 ?h2; (case h1 => walk_at "Mev"); (case h2 => walk_at "Mev"))
  | (refine' cj_eqI ?h1 ?h2; (case h1 => walk_at "Mev"); (case h2 => walk_at "Mev"))
  | (refine' cj_neI ?h1 ?h2; (case h1 => walk_at "Mev"); (case h2 => walk_at "Mev"))
  | (refine' cj_eqS ?h1 ?h2; (case h1 => walk_at "Mev"); (case h2 => walk_at "Mev"))
  | (refine' cj_neS ?h1 ?h2; (case h1 => walk_at "Mev"); (case h2 => walk_at "Mev"))
  | (refine' cj_in ?h1 ?h2 ?h3 rfl; (case h1 => walk_at "Mev"); (case h2 => walk_at "Mev"); (case h3 => walk_at "Mcv"))
  | (refine' cj_notIn ?h1 ?h2 ?h3 rfl; (case h1 => walk_at "Mev"); (case h2 => walk_at "Mev"); (case h3 => walk_at "Mcv")))
local macro_rules | `(tactic| walk_at "Mea") => `(tactic| first
  | exact ea_nil
  | (refine' ea_cons ?h1 ?h2 ?pk rfl; (case h1 => walk_at "Mev"); (case h2 => walk_at "Mea"); (case pk => first | exact .inl rfl | exact .inr rfl)))
local macro_rules | `(tactic| walk_at "Mdr") => `(tactic| first | assumption | (simp only [Dr.nx_k] at *; omega))
local macro_rules | `(tactic| walk_at "Mlen") => `(tactic| first | assumption | omega | (simp only [List.length_map, List.length_append, List.length_cons, List.length_nil, List.length_replicate, List.length_range]; omega) | (refine Nat.le_trans (Nat.add_le_add_left len_ite_le _) ?_; simp only [List.length_map, List.length_append, List.length_cons, List.length_nil, List.length_replicate, List.length_range]; omega))
local macro_rules | `(tactic| walk_at "Mwk") => `(tactic| (refine' wk_of ?_; repeat' (first | exact wk_nil | (refine' wk_same ?_) | (refine' wk_d ?_) | (refine' wk_lo ?_) | (refine' wk_eq ?_ ?_))))
local macro_rules | `(tactic| walk_at "Mset") => `(tactic| (refine' sx_set ?n ?e ?h0 ?np ?k ?hs; (case n => walk_at "Mn"); (case e => walk_at "Mev"); (case h0 => rfl); (case np => rfl); (case hs => rfl)))
local macro_rules | `(tactic| walk_at "Msix") => `(tactic| (refine' sx_setIx ?n ?he ?h1 ?hi ?hj ?k ?hs ?hw ?h2 ?ha; (case n => walk_at "Mn"); (case he => walk_at "Mev"); (case h1 => first | exact .inl rfl | exact .inr rfl); (case hi => walk_at "Mev"); (case hj => rfl); (case hs => rfl); (case hw => rfl); (case h2 => rfl); (case ha => exact fun _ => rfl)))
local macro_rules | `(tactic| walk_at "Met") => `(tactic| first
  | (refine' et_not ?h; (case h => walk_at "Met"))
  | (refine' et_w ?h; (case h => walk_at "Mew"))
  | (refine' et_cj ?h; (case h => walk_at "Mcj"))
  | (refine' et_isN ?h; (case h => walk_at "Mev"))
  | (refine' et_notN ?h; (case h => walk_at "Mev"))
  | (refine' et_val ?h ?he; (case h => walk_at "Mev"); (case he => exact fun _ => rfl)))
local macro_rules | `(tactic| walk_at "Mew") => `(tactic| first
  | (refine' ew_and1 ?h; (case h => walk_at "Met"))
  | (refine' ew_or1 ?h; (case h => walk_at "Met"))
  | (refine' ew_and ?h1 ?h2; (case h1 => walk_at "Met"); (case h2 => (intro _; walk_at "Mew")))
  | (refine' ew_or ?h1 ?h2; (case h1 => walk_at "Met"); (case h2 => (intro _; walk_at "Mew"))))
local macro_rules | `(tactic| walk_at "Meta") => `(tactic| (refine' et_as ?t1 ?t2; (case t1 => walk_at "Met")))
local macro_rules | `(tactic| walk_at "Mif") => `(tactic| (refine' sx_if ?t ?a ?b; (case t => walk_at "Met")))
local macro_rules | `(tactic| walk_at "Mret") => `(tactic| (refine' sx_ret ?h ?k; (case h => walk_at "Mev")))
local macro_rules | `(tactic| walk_at "Mpq") => `(tactic| repeat' (first | exact pq_nil | (refine' pq_out rfl ?_) | (refine' pq_skip rfl ?_) | (refine' pq_par ?_ ?_)))
local macro_rules | `(tactic| walk_at "Mrt") => `(tactic| (first | refine' ⟨rr_d ?_, ?_⟩ | refine' ⟨rr_lo ?_, ?_⟩ | refine' ⟨rr_at rfl ?_, ?_⟩); walk_at "Mpq")
local macro_rules | `(tactic| walk_at "Mapp") => `(tactic| (refine' sx_append ?n ?h ?he ?h1 ?hl ?k rfl rfl rfl rfl rfl rfl; (case n => walk_at "Mn"); (case h => first | exact .inl rfl | exact .inr rfl); (case he => walk_at "Mev"); (case h1 => first | exact .inl rfl | exact .inr rfl); (case hl => walk_at "Mlen")))
local macro_rules | `(tactic| walk_at "Mfor") => `(tactic| (refine' sx_forR ?en ?g ?m ?e ?n ?f ?h0 ?hs ?hd rfl (fun _ => rfl); (case en => walk_at "Mn"); (case g => walk_at "Mn"); (case m => walk_at "Mn"); (case e => walk_at "Mev")))
local macro_rules | `(tactic| walk_at "Mwh") => `(tactic| (refine' sx_whileW ?en ?g ?m ?a ?h0 ?I ?i0 ?hs; (case en => walk_at "Mn")))
/-! the checks, of what is right -/
abbrev liI (ns : List Int) : D := .lst (ns.map D.int)
section
variable {P : Program} {w : World} {K : PySem.W.Frag} {mg : Str → Option Value} {base : Heap} {k : Nat} {f : Addr} {fd : FuncData}
abbrev spIsWhole : Sp := spF (α := Int) (fun _ => True) (fun i => [.d (.int i)]) (fun _ => []) (fun _ => .d (.bl true))
theorem b_is_whole {X : Cx} (c : Sc X N_is_whole sc_is_whole) (b1 : Bi X "isinstance" (.builtin "isinstance")) (b2 : Bi X "int" (.type "int")) (b3 : Bi X "bool" (.type "bool")) {i : Int} : SX X (defBody s_is_whole) [.d (.int i)] (retE [] (.d (.bl true))) := by
  have l0 := nl_is_whole_0 c
  have m0 := l0.nm
  have g_bool := gl_is_whole_bool c
  have g_int := gl_is_whole_int c
  have g_isinstance := gl_is_whole_isinstance c
  refine' sx_ret ?h ?k
  case h =>
    refine' ev_andT ?a1 ?a2 ?a3
    case a1 => walk_at "Mev"
    case a2 => rfl
    case a3 =>
      refine' ev_one ?a4
      case a4 =>
        refine' ev_not ?a5
        case a5 => walk_at "Mev"
  walk_at "Mrt"
  rfl
theorem ok_is_whole (F : F_is_whole K f fd) (m1 : mg "isinstance" = none) (m2 : mg "int" = none) (m3 : mg "bool" = none) : FnG P w K mg base CX0 (k + 1) f fd P_is_whole spIsWhole :=
  fn_sx F fs_is_whole (fun _ => rfl) fun cdv A outer s H E q hg hr hp => by
    have c : Sc (cxOf CX0 P w K mg base N_is_whole "is_whole" sc_is_whole f cdv A outer s H E) N_is_whole sc_is_whole := ⟨rfl, rfl, fun _ => rfl⟩
    exact b_is_whole c (c.bi rfl m1) (c.bi rfl m2) (c.bi rfl m3)
theorem cl_is_whole (F : F_is_whole K f fd) (ok : FnG P w K mg base CX0 k f fd P_is_whole spIsWhole) (hm : mg "is_whole" = some (.ref f)) : Cl P w K mg base k "is_whole" 1 [] idV spIsWhole :=
  cl_of F ok hm fun _ _ _ _ _ _ us hl => match us, hl with | [_], _ => rfl
abbrev spIsList : Sp := spF (α := List Int × Int) (fun q => (q.1.length : Int) ≤ q.2) (fun q => [.d (liI q.1), .d (.int q.2)]) (fun _ => []) (fun _ => .d (.bl true))
theorem b_is_list_up_to {X : Cx} (c : Sc X N_is_list_up_to sc_is_list_up_to) (b1 : Bi X "isinstance" (.builtin "isinstance")) (b2 : Bi X "list" (.type "list")) (b3 : Bi X "len" (.builtin "len")) {ns : List Int} {m : Int} (h : (ns.length : Int) ≤ m) : SX X (defBody s_is_list_up_to) [.d (liI ns), .d (.int m)] (retE [] (.d (.bl true))) := by
  have l0 := nl_is_list_up_to_0 c
  have m0 := l0.nm
  have l1 := nl_is_list_up_to_1 c
  have m1 := l1.nm
  have g_isinstance := gl_is_list_up_to_isinstance c
  have g_len := gl_is_list_up_to_len c
  have g_list := gl_is_list_up_to_list c
  refine' sx_ret ?h ?k
  case h =>
    refine' ev_andT ?a1 ?a2 ?a3
    case a1 => walk_at "Mev"
    case a2 => rfl
    case a3 =>
      refine' ev_one ?a4
      case a4 => walk_at "Mev"
  walk_at "Mrt"
  rw [decide_eq_true (by rw [List.length_map]; exact h)]
theorem ok_is_list_up_to (F : F_is_list_up_to K f fd) (m1 : mg "isinstance" = none) (m2 : mg "list" = none) (m3 : mg "len" = none) : FnG P w K mg base CX0 (k + 1) f fd P_is_list_up_to spIsList :=
  fn_sx F fs_is_list_up_to (fun _ => rfl) fun cdv A outer s H E q hg hr hp => by
    have c : Sc (cxOf CX0 P w K mg base N_is_list_up_to "is_list_up_to" sc_is_list_up_to f cdv A outer s H E) N_is_list_up_to sc_is_list_up_to := ⟨rfl, rfl, fun _ => rfl⟩
    exact b_is_list_up_to c (c.bi rfl m1) (c.bi rfl m2) (c.bi rfl m3) hp
theorem cl_is_list_up_to (F : F_is_list_up_to K f fd) (ok : FnG P w K mg base CX0 k f fd P_is_list_up_to spIsList) (hm : mg "is_list_up_to" = some (.ref f)) : Cl P w K mg base k "is_list_up_to" 2 [] idV spIsList :=
  cl_of F ok hm fun _ _ _ _ _ _ us hl => match us, hl with | [_, _], _ => rfl
abbrev spWrong : Sp := spF (α := List Int) (fun q => q.Nodup) (fun q => [.d (liI q)]) (fun _ => []) (fun _ => .d .non)
theorem b_first_wrong_mark {X : Cx} (c : Sc X N_first_wrong_mark sc_first_wrong_mark) (en : En X k) (C1 : ClX X k "is_whole" 1 [] idV spIsWhole) (me : X.mg "enumerate" = none) {ns : List Int} (h : ns.Nodup) : SX X (defBody s_first_wrong_mark) [.d (liI ns), .un, .un] (retE [] (.d .non)) := by
  have l0 := nl_first_wrong_mark_0 c
  have m0 := l0.nm
  have l1 := nl_first_wrong_mark_1 c
  have m1 := l1.nm
  have l2 := nl_first_wrong_mark_2 c
  have m2 := l2.nm
  have g_enumerate := gl_first_wrong_mark_enumerate c
  have g_is_whole := gl_first_wrong_mark_is_whole c
  refine' sx_forW en (items := (ns.map D.int).zipIdx.map fun q => .tup [.int (q.2 : Int), q.1]) ?hi (fun _ => [.d (liI ns), .un, .un]) ?h0 ?hs ?hd (fun _ => rfl)
  case hi =>
    refine' ei_enum ?g me ?e rfl
    case g => walk_at "Mn"
    case e => walk_at "Mev"
  case h0 => walk_at "Mwk"
  case hd =>
    refine sx_ret ev_non ?_
    walk_at "Mrt"
    rfl
  case hs =>
    intro i d e
    rw [List.getElem?_map, List.getElem?_zipIdx, List.getElem?_map] at e
    cases hv : ns[i]? with
    | none =>
      rw [hv] at e
      cases e
    | some v =>
      rw [hv] at e
      cases e
      refine ⟨_, tg_tup en.calm (tgs_cons (tg_name l1 rfl rfl) (tgs_cons (tg_name l2 rfl rfl) tgs_nil rfl) rfl) rfl rfl, ?_⟩
      have e0 := not_mem_take h hv
      refine' sx_if (k := false) ?t ?a ?b
      case t =>
        refine' et_as ?t1 ?t2
        case t1 => walk_at "Met"
        case t2 =>
          show (!true || (ns.take (((0 + i : Nat) : Int).toNat)).contains v) = false
          rw [Int.toNat_natCast, Nat.zero_add, e0]
          rfl
      case a => exact fun z => by cases z
      case b =>
        intro _
        refine sx_nil ?_
        refine sx_nil ?_
        show Wk _ _
        walk_at "Mwk"
theorem ok_first_wrong_mark (F : F_first_wrong_mark K f fd) (C1 : Cl P w K mg base k "is_whole" 1 [] idV spIsWhole) (m1 : mg "enumerate" = none) : FnG P w K mg base CX0 (k + 1) f fd P_first_wrong_mark spWrong :=
  fn_sx F fs_first_wrong_mark (fun _ => rfl) fun cdv A outer s H E q hg hr hp => by
    have c : Sc (cxOf CX0 P w K mg base N_first_wrong_mark "first_wrong_mark" sc_first_wrong_mark f cdv A outer s H E) N_first_wrong_mark sc_first_wrong_mark := ⟨rfl, rfl, fun _ => rfl⟩
    exact b_first_wrong_mark c (en_of hg hr) C1 m1 hp
theorem cl_first_wrong_mark (F : F_first_wrong_mark K f fd) (ok : FnG P w K mg base CX0 k f fd P_first_wrong_mark spWrong) (hm : mg "first_wrong_mark" = some (.ref f)) : Cl P w K mg base k "first_wrong_mark" 1 [] idV spWrong :=
  cl_of F ok hm fun _ _ _ _ _ _ us hl => match us, hl with | [_], _ => rfl
abbrev spCkV : Sp := spF (α := List Int) (fun q => (q.length : Int) ≤ 120) (fun q => [.d (liI q)]) (fun _ => []) (fun _ => .d .non)
theorem b_check_values {X : Cx} (c : Sc X N_check_values sc_check_values) (en : En X k) (C1 : ClX X k "is_whole" 1 [] idV spIsWhole) (C2 : ClX X k "is_list_up_to" 2 [] idV spIsList) (me : X.mg "enumerate" = none) (mM : ∃ t, X.mg "MOST_VALUES" = some (.int 120 t)) {ns : List Int} (h : (ns.length : Int) ≤ 120) : SX X (defBody s_check_values) [.d (liI ns), .un, .un] (retE [] (.d .non)) := by
  have l0 := nl_check_values_0 c
  have m0 := l0.nm
  have l1 := nl_check_values_1 c
  have m1 := l1.nm
  have l2 := nl_check_values_2 c
  have m2 := l2.nm
  have g_InvalidValues := gl_check_values_InvalidValues c
  have g_MOST_VALUES := gl_check_values_MOST_VALUES c
  have g_enumerate := gl_check_values_enumerate c
  have g_is_list_up_to := gl_check_values_is_list_up_to c
  have g_is_whole := gl_check_values_is_whole c
  refine' sx_if (k := false) ?t ?a ?b
  case t =>
    refine' et_as ?tt1 ?tt2
    case tt1 => walk_at "Met"
    case tt2 => rfl
  case a => exact fun z => by cases z
  intro _
  refine sx_nil ?_
  refine' sx_forW en (items := (ns.map D.int).zipIdx.map fun q => .tup [.int (q.2 : Int), q.1]) ?hi (fun _ => [.d (liI ns), .un, .un]) ?h0 ?hs ?hd (fun _ => rfl)
  case hi =>
    refine' ei_enum ?g me ?e rfl
    case g => walk_at "Mn"
    case e => walk_at "Mev"
  case h0 => walk_at "Mwk"
  case hd =>
    refine sx_nil ⟨rfl, ?_⟩
    walk_at "Mpq"
  case hs =>
    intro i d e
    rw [List.getElem?_map, List.getElem?_zipIdx, List.getElem?_map] at e
    cases hv : ns[i]? with
    | none =>
      rw [hv] at e
      cases e
    | some v =>
      rw [hv] at e
      cases e
      refine ⟨_, tg_tup en.calm (tgs_cons (tg_name l1 rfl rfl) (tgs_cons (tg_name l2 rfl rfl) tgs_nil rfl) rfl) rfl rfl, ?_⟩
      refine' sx_if (k := false) ?t2 ?a2 ?b2
      case t2 =>
        refine' et_as ?tt3 ?tt4
        case tt3 => walk_at "Met"
        case tt4 => rfl
      case a2 => exact fun z => by cases z
      case b2 =>
        intro _
        refine sx_nil ?_
        refine sx_nil ?_
        show Wk _ _
        walk_at "Mwk"
theorem ok_check_values (F : F_check_values K f fd) (C1 : Cl P w K mg base k "is_whole" 1 [] idV spIsWhole) (C2 : Cl P w K mg base k "is_list_up_to" 2 [] idV spIsList) (m1 : mg "enumerate" = none) (m2 : ∃ t, mg "MOST_VALUES" = some (.int 120 t)) : FnG P w K mg base CX0 (k + 1) f fd P_check_values spCkV :=
  fn_sx F fs_check_values (fun _ => rfl) fun cdv A outer s H E q hg hr hp => by
    have c : Sc (cxOf CX0 P w K mg base N_check_values "check_values" sc_check_values f cdv A outer s H E) N_check_values sc_check_values := ⟨rfl, rfl, fun _ => rfl⟩
    exact b_check_values c (en_of hg hr) C1 C2 m1 m2 hp
theorem cl_check_values (F : F_check_values K f fd) (ok : FnG P w K mg base CX0 k f fd P_check_values spCkV) (hm : mg "check_values" = some (.ref f)) : Cl P w K mg base k "check_values" 1 [] idV spCkV :=
  cl_of F ok hm fun _ _ _ _ _ _ us hl => match us, hl with | [_], _ => rfl
def MkOk (ns : List Int) : Prop := ns.Nodup ∧ (ns.length : Int) ≤ 12
abbrev spCkM : Sp := spF (α := List Int) MkOk (fun q => [.d (liI q)]) (fun _ => []) (fun _ => .d .non)
theorem b_check_marked {X : Cx} (c : Sc X N_check_marked sc_check_marked) (en : En X k) (C1 : ClX X k "first_wrong_mark" 1 [] idV spWrong) (C2 : ClX X k "is_list_up_to" 2 [] idV spIsList) (mM : ∃ t, X.mg "MOST_MARKED" = some (.int 12 t)) {ns : List Int} (h : MkOk ns) : SX X (defBody s_check_marked) [.d (liI ns), .un] (retE [] (.d .non)) := by
  have l0 := nl_check_marked_0 c
  have m0 := l0.nm
  have l1 := nl_check_marked_1 c
  have m1 := l1.nm
  have g_InvalidMarked := gl_check_marked_InvalidMarked c
  have g_MOST_MARKED := gl_check_marked_MOST_MARKED c
  have g_first_wrong_mark := gl_check_marked_first_wrong_mark c
  have g_is_list_up_to := gl_check_marked_is_list_up_to c
  have h1 := h.1
  have h2 := h.2
  refine' sx_if (k := false) ?t ?a ?b
  case t =>
    refine' et_as ?tt1 ?tt2
    case tt1 => walk_at "Met"
    case tt2 => rfl
  case a => exact fun z => by cases z
  intro _
  refine sx_nil ?_
  walk_at "Mset"
  refine' sx_if (k := false) ?t2 ?a2 ?b2
  case t2 =>
    refine' et_as ?t6 ?t7
    case t6 =>
      refine' et_notN ?t5
      case t5 => walk_at "Mev"
    case t7 => rfl
  case a2 => exact fun z => by cases z
  intro _
  refine sx_nil ?_
  refine sx_nil ⟨rfl, ?_⟩
  walk_at "Mpq"
theorem ok_check_marked (F : F_check_marked K f fd) (C1 : Cl P w K mg base k "first_wrong_mark" 1 [] idV spWrong) (C2 : Cl P w K mg base k "is_list_up_to" 2 [] idV spIsList) (m2 : ∃ t, mg "MOST_MARKED" = some (.int 12 t)) : FnG P w K mg base CX0 (k + 1) f fd P_check_marked spCkM :=
  fn_sx F fs_check_marked (fun _ => rfl) fun cdv A outer s H E q hg hr hp => by
    have c : Sc (cxOf CX0 P w K mg base N_check_marked "check_marked" sc_check_marked f cdv A outer s H E) N_check_marked sc_check_marked := ⟨rfl, rfl, fun _ => rfl⟩
    exact b_check_marked c (en_of hg hr) C1 C2 m2 hp
theorem cl_check_marked (F : F_check_marked K f fd) (ok : FnG P w K mg base CX0 k f fd P_check_marked spCkM) (hm : mg "check_marked" = some (.ref f)) : Cl P w K mg base k "check_marked" 1 [] idV spCkM :=
  cl_of F ok hm fun _ _ _ _ _ _ us hl => match us, hl with | [_], _ => rfl
end
end Lw

set_option Elab.async false
set_option linter.all false
set_option maxRecDepth 100000
set_option maxHeartbeats 4000000
namespace Lw
open PySem PySem.Spec PyProof.Rows L2 Mw
local macro_rules | `(tactic| walk_at "Mkb") => `(tactic| first | exact kb_NoneType_int | exact kb_NoneType_bool | exact kb_NoneType_list | exact kb_NoneType_str | exact kb_NoneType_dict | exact kb_NoneType_tuple | exact kb_bool_int | exact kb_bool_bool | exact kb_bool_list | exact kb_bool_str | exact kb_bool_dict | exact kb_bool_tuple | exact kb_int_int | exact kb_int_bool | exact kb_int_list | exact kb_int_str | exact kb_int_dict | exact kb_int_tuple | exact kb_str_int | exact kb_str_bool | exact kb_str_list | exact kb_str_str | exact kb_str_dict | exact kb_str_tuple | exact kb_list_int | exact kb_list_bool | exact kb_list_list | exact kb_list_str | exact kb_list_dict | exact kb_list_tuple | exact kb_tuple_int | exact kb_tuple_bool | exact kb_tuple_list | exact kb_tuple_str | exact kb_tuple_dict | exact kb_tuple_tuple | exact kb_dict_int | exact kb_dict_bool | exact kb_dict_list | exact kb_dict_str | exact kb_dict_dict | exact kb_dict_tuple)
local macro_rules | `(tactic| walk_at "Mn") => `(tactic| with_reducible assumption)
local macro_rules | `(tactic| walk_at "Mnum") => `(tactic| first | assumption | decide | omega | (constructor <;> first | assumption | decide | omega))
local macro_rules | `(tactic| walk_at "Mcv") => `(tactic| first | exact cv_d | exact cv_own | exact cv_at | exact Cv.refl)
local macro_rules | `(tactic| walk_at "Mev") => `(tactic| first
  | exact ev_int | exact ev_bl | exact ev_non | exact ev_str
  | (refine' ev_d ?hn ?hs; (case hn => walk_at "Mn"); (case hs => rfl))
  | (refine' ev_at ?hn ?hs; (case hn => walk_at "Mn"); (case hs => first | exact .inl rfl | exact .inr rfl))
  | (refine' ev_lo ?hn ?hs; (case hn => walk_at "Mn"); (case hs => rfl))
  | (refine' ev_add ?h1 ?h2; (case h1 => walk_at "Mev"); (case h2 => walk_at "Mev"))
  | (refine' ev_sub ?h1 ?h2; (case h1 => walk_at "Mev"); (case h2 => walk_at "Mev"))
  | (refine' ev_pow ?h1 ?h2 ?h3; (case h1 => walk_at "Mev"); (case h2 => walk_at "Mev"); (case h3 => walk_at "Mnum"))
  | (refine' ev_mod ?h1 ?h2 ?h3; (case h1 => walk_at "Mev"); (case h2 => walk_at "Mev"); (case h3 => walk_at "Mnum"))
  | (refine' ev_fdiv ?h1 ?h2 ?h3; (case h1 => walk_at "Mev"); (case h2 => walk_at "Mev"); (case h3 => walk_at "Mnum"))
  | (refine' ev_mul ?h1 ?h2 ?h3; (case h1 => walk_at "Mev"); (case h2 => walk_at "Mev"); (case h3 => first | assumption | (left; constructor <;> walk_at "Mnum") | (right; constructor <;> walk_at "Mnum")))
  | (refine' ev_intI ?h0 ?h1 rfl; (case h0 => walk_at "Mn"); (case h1 => walk_at "Mev"))
  | (refine' ev_intB ?h0 ?h1 rfl; (case h0 => walk_at "Mn"); (case h1 => walk_at "Mev"))
  | (refine' ev_next ?C ?en ?g ?m ?h ?b; (case C => walk_at "Mn"); (case en => walk_at "Mn"); (case g => walk_at "Mn"); (case m => walk_at "Mn"); (case h => first | exact .inr rfl | exact .inl rfl); (case b => walk_at "Mdr"))
  | (refine' ev_pick ?h1 ?h2 ?hp ?h3 ?h6; (case h1 => walk_at "Mev"); (case h2 => walk_at "Mev"); (case hp => first | exact .inl rfl | exact .inr rfl); (case h3 => walk_at "Mcv"); (case h6 => exact fun _ _ => rfl))
  | (refine' ev_globI ?g ?m rfl; (case g => walk_at "Mn"); (case m => walk_at "Mn"))
  | (refine' ev_isi ?h0 ?h1 ?h2 ?h3 ?h4 rfl rfl rfl; (case h0 => walk_at "Mn"); (case h1 => walk_at "Mn"); (case h2 => walk_at "Mev"); (case h3 => rfl); (case h4 => walk_at "Mkb"))
  | (refine' ev_len ?h0 ?h1 ?h2 rfl; (case h0 => walk_at "Mn"); (case h1 => walk_at "Mev"); (case h2 => walk_at "Mcv"))
  | (refine' ev_list ?h0 ?h1 ?h2 rfl; (case h0 => walk_at "Mn"); (case h1 => walk_at "Mev"); (case h2 => walk_at "Mcv"))
  | (refine' Ev.cast ?hh ?qq; (case hh => (refine' ev_go ?C ?en ?g ?a ?ha ?hd ?l1 ?hp ?hi rfl rfl rfl; (case C => walk_at "Mn"); (case en => walk_at "Mn"); (case g => walk_at "Mn"); (case ha => walk_at "Mea"); (case hd => rfl); (case l1 => rfl); (case hi => rfl); (case hp => walk_at "Mpre"))); (case qq => rfl))
  | (refine' Ev.cast ?hh ?qq; (case hh => (refine' ev_go ?C ?en ?g (?a, ?b) ?ha ?hd ?l1 ?hp ?hi rfl rfl rfl; (case C => walk_at "Mn"); (case en => walk_at "Mn"); (case g => walk_at "Mn"); (case ha => walk_at "Mea"); (case hd => rfl); (case l1 => rfl); (case hi => rfl); (case hp => walk_at "Mpre"))); (case qq => rfl))
  | (refine' Ev.cast ?hh ?qq; (case hh => (refine' ev_go ?C ?en ?g (?a, ?b, ?c) ?ha ?hd ?l1 ?hp ?hi rfl rfl rfl; (case C => walk_at "Mn"); (case en => walk_at "Mn"); (case g => walk_at "Mn"); (case ha => walk_at "Mea"); (case hd => rfl); (case l1 => rfl); (case hi => rfl); (case hp => walk_at "Mpre"))); (case qq => rfl))
  | (refine' ev_sliceTI ?h1 ?h2 ?h3 ?h4; (case h1 => walk_at "Mev"); (case h2 => walk_at "Mcv"); (case h3 => walk_at "Mev"); (case h4 => walk_at "Mnum"))
  | (refine' ev_sliceDI ?h1 ?h2 ?h3 ?h4; (case h1 => walk_at "Mev"); (case h2 => walk_at "Mcv"); (case h3 => walk_at "Mev"); (case h4 => walk_at "Mnum"))
  | (refine' ev_sliceT ?h1 ?h2 ?h3 ?h4; (case h1 => walk_at "Mev"); (case h2 => walk_at "Mcv"); (case h3 => walk_at "Mev"); (case h4 => walk_at "Mnum"))
  | (refine' ev_sliceD ?h1 ?h2 ?h3 ?h4; (case h1 => walk_at "Mev"); (case h2 => walk_at "Mcv"); (case h3 => walk_at "Mev"); (case h4 => walk_at "Mnum"))
  | (refine' ev_ixL ?h1 ?h2 ?hp ?h3 ?h4 ?h5 ?h6; (case h1 => walk_at "Mev"); (case h2 => walk_at "Mev"); (case hp => first | exact .inl rfl | exact .inr rfl); (case h3 => walk_at "Mcv"); (case h4 => rfl); (case h5 => rfl); (case h6 => exact fun _ _ => rfl))
  | (refine' ev_cj ?h; (case h => walk_at "Mcj"))
  | (refine' ev_isN ?h; (case h => walk_at "Mev"))
  | (refine' ev_notN ?h; (case h => walk_at "Mev"))
  | (refine' ev_lst ?h1 ?h2 ?h3; (case h1 => walk_at "Mea"); (case h2 => rfl); (case h3 => exact Nat.le_of_ble_eq_true rfl))
  | (refine' ev_repB ?h1 ?h2 ?hp ?h3 ?h4; (case h1 => walk_at "Mev"); (case h2 => walk_at "Mev"); (case hp => first | exact .inl rfl | exact .inr rfl); (case h3 => walk_at "Mcv"); (case h4 => first | exact Nat.le_of_ble_eq_true rfl | walk_at "Mlen"))
  | (refine' ev_catA ?h1 ?h2 ?hp ?h4 ?h5; (case h1 => walk_at "Mev"); (case h2 => walk_at "Mev"); (case hp => first | exact .inl rfl | exact .inr rfl); (case h4 => walk_at "Mcv"); (case h5 => walk_at "Mlen"))
  | (refine' ev_cat ?h1 ?h2 ?hp ?h3 ?h4 ?h5; (case h1 => walk_at "Mev"); (case h2 => walk_at "Mev"); (case hp => first | exact .inl rfl | exact .inr rfl); (case h3 => walk_at "Mcv"); (case h4 => walk_at "Mcv"); (case h5 => walk_at "Mlen"))
  )
local macro_rules | `(tactic| walk_at "Mpre") => `(tactic| first | trivial | assumption | (simp only [List.length_map]; omega) | (constructor <;> first | assumption | (simp only [List.length_map]; omega)))
local macro_rules | `(tactic| walk_at "Mcj") => `(tactic| first
  | (refine' cj_lt ?h1 ?h2; (case h1 => walk_at "Mev"); (case h2 => walk_at "Mev"))
  | (refine' cj_le ?h1 ?h2; (case h1 => walk_at "Mev"); (case h2 => walk_at "Mev"))
  | (refine' cj_gt ?h1 ?h2; (case h1 => walk_at "Mev"); (case h2 => walk_at "Mev"))
  | (refine' cj_ge ?h1 ?h2; (case h1 => walk_at "Mev"); (case h2 => walk_at "Mev"))
  | (refine' cj_eqI ?h1 ?h2; (case h1 => walk_at "Mev"); (case h2 => walk_at "Mev"))
  | (refine' cj_neI ?h1 ?h2; (case h1 => walk_at "Mev"); (case h2 => walk_at "Mev"))
  | (refine' cj_eqS ?h1 ?h2; (case h1 => walk_at "Mev"); (case h2 => walk_at "Mev"))
  | (refine' cj_neS ?h1 ?h2; (case h1 => walk_at "Mev"); (case h2 => walk_at "Mev"))
  | (refine' cj_in ?h1 ?h2 ?h3 rfl; (case h1 => walk_at "Mev"); (case h2 => walk_at "Mev"); (case h3 => walk_at "Mcv"))
  | (refine' cj_notIn ?h1 ?h2 ?h3 rfl; (case h1 => walk_at "Mev"); (case h2 => walk_at "Mev"); (case h3 => walk_at "Mcv")))
local macro_rules | `(tactic| walk_at "Mea") => `(tactic| first
  | exact ea_nil
  | (refine' ea_cons ?h1 ?h2 ?pk rfl; (case h1 => walk_at "Mev"); (case h2 => walk_at "Mea"); (case pk => first | exact .inl rfl | exact .inr rfl)))
local macro_rules | `(tactic| walk_at "Mdr") => `(tactic| first | assumption | (simp only [Dr.nx_k] at *; omega))
local macro_rules | `(tactic| walk_at "Mlen") => `(tactic| first | assumption | omega | (simp only [List.length_map, List.length_append, List.length_cons, List.length_nil, List.length_replicate, List.length_range]; omega) | (refine Nat.le_trans (Nat.add_le_add_left len_ite_le _) ?_; simp only [List.length_map, List.length_append, List.length_cons, List.length_nil, List.length_replicate, List.length_range]; omega))
local macro_rules | `(tactic| walk_at "Mwk") => `(tactic| (refine' wk_of ?_; repeat' (first | exact wk_nil | (refine' wk_same ?_) | (refine' wk_d ?_) | (refine' wk_lo ?_) | (refine' wk_eq ?_ ?_))))
local macro_rules | `(tactic| walk_at "Mset") => `(tactic| (refine' sx_set ?n ?e ?h0 ?np ?k ?hs; (case n => walk_at "Mn"); (case e => walk_at "Mev"); (case h0 => rfl); (case np => rfl); (case hs => rfl)))
local macro_rules | `(tactic| walk_at "Msix") => `(tactic| (refine' sx_setIx ?n ?he ?h1 ?hi ?hj ?k ?hs ?hw ?h2 ?ha; (case n => walk_at "Mn"); (case he => walk_at "Mev"); (case h1 => first | exact .inl rfl | exact .inr rfl); (case hi => walk_at "Mev"); (case hj => rfl); (case hs => rfl); (case hw => rfl); (case h2 => rfl); (case ha => exact fun _ => rfl)))
local macro_rules | `(tactic| walk_at "Met") => `(tactic| first
  | (refine' et_not ?h; (case h => walk_at "Met"))
  | (refine' et_w ?h; (case h => walk_at "Mew"))
  | (refine' et_cj ?h; (case h => walk_at "Mcj"))
  | (refine' et_isN ?h; (case h => walk_at "Mev"))
  | (refine' et_notN ?h; (case h => walk_at "Mev"))
  | (refine' et_val ?h ?he; (case h => walk_at "Mev"); (case he => exact fun _ => rfl)))
local macro_rules | `(tactic| walk_at "Mew") => `(tactic| first
  | (refine' ew_and1 ?h; (case h => walk_at "Met"))
  | (refine' ew_or1 ?h; (case h => walk_at "Met"))
  | (refine' ew_and ?h1 ?h2; (case h1 => walk_at "Met"); (case h2 => (intro _; walk_at "Mew")))
  | (refine' ew_or ?h1 ?h2; (case h1 => walk_at "Met"); (case h2 => (intro _; walk_at "Mew"))))
local macro_rules | `(tactic| walk_at "Meta") => `(tactic| (refine' et_as ?t1 ?t2; (case t1 => walk_at "Met")))
local macro_rules | `(tactic| walk_at "Mif") => `(tactic| (refine' sx_if ?t ?a ?b; (case t => walk_at "Met")))
local macro_rules | `(tactic| walk_at "Mret") => `(tactic| (refine' sx_ret ?h ?k; (case h => walk_at "Mev")))
local macro_rules | `(tactic| walk_at "Mpq") => `(tactic| repeat' (first | exact pq_nil | (refine' pq_out rfl ?_) | (refine' pq_skip rfl ?_) | (refine' pq_par ?_ ?_)))
local macro_rules | `(tactic| walk_at "Mrt") => `(tactic| (first | refine' ⟨rr_d ?_, ?_⟩ | refine' ⟨rr_lo ?_, ?_⟩ | refine' ⟨rr_at rfl ?_, ?_⟩); walk_at "Mpq")
local macro_rules | `(tactic| walk_at "Mapp") => `(tactic| (refine' sx_append ?n ?h ?he ?h1 ?hl ?k rfl rfl rfl rfl rfl rfl; (case n => walk_at "Mn"); (case h => first | exact .inl rfl | exact .inr rfl); (case he => walk_at "Mev"); (case h1 => first | exact .inl rfl | exact .inr rfl); (case hl => walk_at "Mlen")))
local macro_rules | `(tactic| walk_at "Mfor") => `(tactic| (refine' sx_forR ?en ?g ?m ?e ?n ?f ?h0 ?hs ?hd rfl (fun _ => rfl); (case en => walk_at "Mn"); (case g => walk_at "Mn"); (case m => walk_at "Mn"); (case e => walk_at "Mev")))
local macro_rules | `(tactic| walk_at "Mwh") => `(tactic| (refine' sx_whileW ?en ?g ?m ?a ?h0 ?I ?i0 ?hs; (case en => walk_at "Mn")))
/-! the loop by places -/
def lbGo (g : List Int → Nat → List Int) (m : List Int) : Nat → List Int → Nat → List Int
  | 0, l, _ => l
  | n + 1, l, p => if p < l.length then lbGo g m n (if m.contains (l.getD p 0) = true then g l p else l) (p + 1) else l
def leftF (g : List Int → Nat → List Int) (m l : List Int) : List Int := lbGo g m l.length l 0
abbrev spBody (g : List Int → Nat → List Int) : Sp := spF (α := List Int × Nat) (fun q => q.2 < q.1.length ∧ q.1.length ≤ 1000) (fun q => [.par (q.1.map D.int), .d (.int (q.2 : Int))]) (fun q => [.par ((g q.1 q.2).map D.int)]) (fun _ => .d .non)
section
variable {P : Program} {w : World} {K : PySem.W.Frag} {mg : Str → Option Value} {base : Heap} {k : Nat} {f : Addr} {fd : FuncData}
structure Bdy (P : Program) (w : World) (K : PySem.W.Frag) (mg : Str → Option Value) (base : Heap) (k : Nat) (f : Addr) (g : List Int → Nat → List Int) : Prop where
  c : ClF P w K mg base k f 2 (spBody g)
  l : ∀ l p, p < l.length → (g l p).length ≤ l.length
abbrev LbA : Type := (Addr × (List Int → Nat → List Int)) × List Int × List Int
abbrev spLeft (P : Program) (w : World) (K : PySem.W.Frag) (mg : Str → Option Value) (base : Heap) (k : Nat) : Sp :=
  spF (α := LbA) (fun q => Bdy P w K mg base k q.1.1 q.1.2 ∧ q.2.2.length ≤ 1000) (fun q => [.d (.ref q.1.1), .d (liI q.2.1), .d (liI q.2.2)]) (fun _ => []) (fun q => .lo (.own ((leftF q.1.2 q.2.1 q.2.2).map D.int)))
theorem b_left_by {X : Cx} (c : Sc X N_left_by sc_left_by) (en : En X k) (b1 : Bi X "list" (.type "list")) (b2 : Bi X "len" (.builtin "len")) {g : List Int → Nat → List Int} {m ws : List Int} (B : Bdy X.prog X.w X.K X.mg X.base k f g) (h : ws.length ≤ 1000) :
    SX X (defBody s_left_by) [.d (.ref f), .d (liI m), .d (liI ws), .un, .un] (retE [] (.lo (.own ((leftF g m ws).map D.int)))) := by
  have l0 := nl_left_by_0 c
  have m0 := l0.nm
  have l1 := nl_left_by_1 c
  have m1 := l1.nm
  have l2 := nl_left_by_2 c
  have m2 := l2.nm
  have l3 := nl_left_by_3 c
  have m3 := l3.nm
  have l4 := nl_left_by_4 c
  have m4 := l4.nm
  have g_len := gl_left_by_len c
  have g_list := gl_left_by_list c
  walk_at "Mset"
  walk_at "Mset"
  walk_at "Mwh"
  case g => exact fun (q : Nat × List Int × Nat) => [.d (.ref f), .d (liI m), .d (liI ws), .lo (.own (q.2.1.map D.int)), .d (.int (q.2.2 : Int))]
  case m => exact fun q => q.1
  case a => exact (ws.length, ws, 0)
  case I => exact fun q => q.2.1.length ≤ q.1 + q.2.2 ∧ q.2.1.length ≤ 1000 ∧ lbGo g m q.1 q.2.1 q.2.2 = leftF g m ws
  case i0 => exact ⟨Nat.le_refl _, h, rfl⟩
  case h0 => walk_at "Mwk"
  case hs =>
    rintro ⟨n, l, p⟩ ⟨i1, i2, i3⟩
    have i1 : l.length ≤ n + p := i1
    have i2 : l.length ≤ 1000 := i2
    have i3 : lbGo g m n l p = leftF g m ws := i3
    refine' ⟨decide (p < l.length), ?pu, ?ht, fun hk => ?ha, fun hk => ?hb⟩
    case ht =>
      refine' et_as ?t1 ?t2
      case t1 => walk_at "Met"
      case t2 =>
        show decide ((p : Int) < ((l.map D.int).length : Int)) = decide (p < l.length)
        rw [List.length_map]
        exact decide_eq_decide.mpr (by omega)
    case ha =>
      have hp := of_decide_eq_true hk
      have hv : l[p]? = some (l.getD p 0) := by rw [List.getD_eq_getElem?_getD, List.getElem?_eq_getElem hp]; rfl
      obtain ⟨n, rfl⟩ : ∃ n', n = n' + 1 := ⟨n - 1, by omega⟩
      have i4 : lbGo g m n (if m.contains (l.getD p 0) = true then g l p else l) (p + 1) = leftF g m ws := by
        rw [← i3]
        show _ = if p < l.length then _ else l
        rw [if_pos hp]
      refine' sx_if (k := m.contains (l.getD p 0)) ?c1 ?c2 ?c3
      case c1 =>
        refine' et_cj ?d1
        case d1 =>
          refine' cj_in ?e1 ?e2 ?e3 ?e4
          case e1 =>
            refine' ev_ixLI ?f1 ?f2 ?f3 ?f4 ?f5 ?f6 ?f7
            case f1 => walk_at "Mev"
            case f2 => walk_at "Mev"
            case f3 => exact .inl rfl
            case f4 => walk_at "Mcv"
            case f5 => exact Int.natCast_nonneg _
            case f6 => rw [Int.toNat_natCast]; exact hv
            case f7 => exact fun _ _ => rfl
          case e2 => walk_at "Mev"
          case e3 => walk_at "Mcv"
          case e4 => rfl
      case c2 =>
        intro hc
        rw [if_pos hc] at i4
        have hl := B.l l p hp
        refine' sx_expr ?x1 ?x2 rfl
        case x1 =>
          refine' Ev.cast ?y8 ?y9
          case y8 =>
            refine' ev_goL B.c en m0 ?y0 (l, p) ?y1 ?y2 ?y3 ?y4 ?y5 ?y6 rfl rfl
            case y0 => rfl
            case y1 =>
              refine' EvA.tr ?z1 ?z2
              case z1 => walk_at "Mea"
              case z2 => rfl
            case y2 => rfl
            case y3 => rfl
            case y4 => exact ⟨hp, i2⟩
            case y5 => rfl
            case y6 => rfl
          case y9 => rfl
        refine sx_nil ?_
        refine' sx_aug (f := fun i j => i + j) (m := (p : Int)) (n := 1) l4 ?a1 ip_add ?a2 ?a3 ?a4 ?a5
        case a1 => rfl
        case a2 => walk_at "Mev"
        case a3 => rfl
        case a4 => rfl
        case a5 =>
          refine sx_nil ⟨(n, g l p, p + 1), Nat.lt_succ_self _, ⟨?_, ?_, i4⟩, ?_⟩
          · show (g l p).length ≤ n + (p + 1)
            omega
          · show (g l p).length ≤ 1000
            omega
          · show Wk _ _
            walk_at "Mwk"
      case c3 =>
        intro hc
        rw [if_neg (by rw [hc]; decide)] at i4
        refine sx_nil ?_
        refine' sx_aug (f := fun i j => i + j) (m := (p : Int)) (n := 1) l4 ?g1 ip_add ?g2 ?g3 ?g4 ?g5
        case g1 => rfl
        case g2 => walk_at "Mev"
        case g3 => rfl
        case g4 => rfl
        case g5 =>
          refine sx_nil ⟨(n, l, p + 1), Nat.lt_succ_self _, ⟨?_, i2, i4⟩, ?_⟩
          · show l.length ≤ n + (p + 1)
            omega
          · show Wk _ _
            walk_at "Mwk"
    case hb =>
      have hp := of_decide_eq_false hk
      walk_at "Mret"
      walk_at "Mrt"
      have e : l = leftF g m ws := by
        rw [← i3]
        cases n with
        | zero => rfl
        | succ n => exact (if_neg hp).symm
      rw [← e]
end
end Lw

set_option Elab.async false
set_option linter.all false
set_option maxRecDepth 100000
set_option maxHeartbeats 4000000
namespace Lw
open PySem PySem.Spec PyProof.Rows L2 Mw
local macro_rules | `(tactic| walk_at "Mkb") => `(tactic| first | exact kb_NoneType_int | exact kb_NoneType_bool | exact kb_NoneType_list | exact kb_NoneType_str | exact kb_NoneType_dict | exact kb_NoneType_tuple | exact kb_bool_int | exact kb_bool_bool | exact kb_bool_list | exact kb_bool_str | exact kb_bool_dict | exact kb_bool_tuple | exact kb_int_int | exact kb_int_bool | exact kb_int_list | exact kb_int_str | exact kb_int_dict | exact kb_int_tuple | exact kb_str_int | exact kb_str_bool | exact kb_str_list | exact kb_str_str | exact kb_str_dict | exact kb_str_tuple | exact kb_list_int | exact kb_list_bool | exact kb_list_list | exact kb_list_str | exact kb_list_dict | exact kb_list_tuple | exact kb_tuple_int | exact kb_tuple_bool | exact kb_tuple_list | exact kb_tuple_str | exact kb_tuple_dict | exact kb_tuple_tuple | exact kb_dict_int | exact kb_dict_bool | exact kb_dict_list | exact kb_dict_str | exact kb_dict_dict | exact kb_dict_tuple)
local macro_rules | `(tactic| walk_at "Mn") => `(tactic| with_reducible assumption)
local macro_rules | `(tactic| walk_at "Mnum") => `(tactic| first | assumption | decide | omega | (constructor <;> first | assumption | decide | omega))
local macro_rules | `(tactic| walk_at "Mcv") => `(tactic| first | exact cv_d | exact cv_own | exact cv_at | exact Cv.refl)
local macro_rules | `(tactic| walk_at "Mev") => `(tactic| first
  | exact ev_int | exact ev_bl | exact ev_non | exact ev_str
  | (refine' ev_d ?hn ?hs; (case hn => walk_at "Mn"); (case hs => rfl))
  | (refine' ev_at ?hn ?hs; (case hn => walk_at "Mn"); (case hs => first | exact .inl rfl | exact .inr rfl))
  | (refine' ev_lo ?hn ?hs; (case hn => walk_at "Mn"); (case hs => rfl))
  | (refine' ev_add ?h1 ?h2; (case h1 => walk_at "Mev"); (case h2 => walk_at "Mev"))
  | (refine' ev_sub ?h1 ?h2; (case h1 => walk_at "Mev"); (case h2 => walk_at "Mev"))
  | (refine' ev_pow ?h1 ?h2 ?h3; (case h1 => walk_at "Mev"); (case h2 => walk_at "Mev"); (case h3 => walk_at "Mnum"))
  | (refine' ev_mod ?h1 ?h2 ?h3; (case h1 => walk_at "Mev"); (case h2 => walk_at "Mev"); (case h3 => walk_at "Mnum"))
  | (refine' ev_fdiv ?h1 ?h2 ?h3; (case h1 => walk_at "Mev"); (case h2 => walk_at "Mev"); (case h3 => walk_at "Mnum"))
  | (refine' ev_mul ?h1 ?h2 ?h3; (case h1 => walk_at "Mev"); (case h2 => walk_at "Mev"); (case h3 => first | assumption | (left; constructor <;> walk_at "Mnum") | (right; constructor <;> walk_at "Mnum")))
  | (refine' ev_intI ?h0 ?h1 rfl; (case h0 => walk_at "Mn"); (case h1 => walk_at "Mev"))
  | (refine' ev_intB ?h0 ?h1 rfl; (case h0 => walk_at "Mn"); (case h1 => walk_at "Mev"))
  | (refine' ev_next ?C ?en ?g ?m ?h ?b; (case C => walk_at "Mn"); (case en => walk_at "Mn"); (case g => walk_at "Mn"); (case m => walk_at "Mn"); (case h => first | exact .inr rfl | exact .inl rfl); (case b => walk_at "Mdr"))
  | (refine' ev_pick ?h1 ?h2 ?hp ?h3 ?h6; (case h1 => walk_at "Mev"); (case h2 => walk_at "Mev"); (case hp => first | exact .inl rfl | exact .inr rfl); (case h3 => walk_at "Mcv"); (case h6 => exact fun _ _ => rfl))
  | (refine' ev_globI ?g ?m rfl; (case g => walk_at "Mn"); (case m => walk_at "Mn"))
  | (refine' ev_isi ?h0 ?h1 ?h2 ?h3 ?h4 rfl rfl rfl; (case h0 => walk_at "Mn"); (case h1 => walk_at "Mn"); (case h2 => walk_at "Mev"); (case h3 => rfl); (case h4 => walk_at "Mkb"))
  | (refine' ev_len ?h0 ?h1 ?h2 rfl; (case h0 => walk_at "Mn"); (case h1 => walk_at "Mev"); (case h2 => walk_at "Mcv"))
  | (refine' ev_list ?h0 ?h1 ?h2 rfl; (case h0 => walk_at "Mn"); (case h1 => walk_at "Mev"); (case h2 => walk_at "Mcv"))
  | (refine' Ev.cast ?hh ?qq; (case hh => (refine' ev_go ?C ?en ?g ?a ?ha ?hd ?l1 ?hp ?hi rfl rfl rfl; (case C => walk_at "Mn"); (case en => walk_at "Mn"); (case g => walk_at "Mn"); (case ha => walk_at "Mea"); (case hd => rfl); (case l1 => rfl); (case hi => rfl); (case hp => walk_at "Mpre"))); (case qq => rfl))
  | (refine' Ev.cast ?hh ?qq; (case hh => (refine' ev_go ?C ?en ?g (?a, ?b) ?ha ?hd ?l1 ?hp ?hi rfl rfl rfl; (case C => walk_at "Mn"); (case en => walk_at "Mn"); (case g => walk_at "Mn"); (case ha => walk_at "Mea"); (case hd => rfl); (case l1 => rfl); (case hi => rfl); (case hp => walk_at "Mpre"))); (case qq => rfl))
  | (refine' Ev.cast ?hh ?qq; (case hh => (refine' ev_go ?C ?en ?g (?a, ?b, ?c) ?ha ?hd ?l1 ?hp ?hi rfl rfl rfl; (case C => walk_at "Mn"); (case en => walk_at "Mn"); (case g => walk_at "Mn"); (case ha => walk_at "Mea"); (case hd => rfl); (case l1 => rfl); (case hi => rfl); (case hp => walk_at "Mpre"))); (case qq => rfl))
  | (refine' ev_sliceTI ?h1 ?h2 ?h3 ?h4; (case h1 => walk_at "Mev"); (case h2 => walk_at "Mcv"); (case h3 => walk_at "Mev"); (case h4 => walk_at "Mnum"))
  | (refine' ev_sliceDI ?h1 ?h2 ?h3 ?h4; (case h1 => walk_at "Mev"); (case h2 => walk_at "Mcv"); (case h3 => walk_at "Mev"); (case h4 => walk_at "Mnum"))
  | (refine' ev_sliceT ?h1 ?h2 ?h3 ?h4; (case h1 => walk_at "Mev"); (case h2 => walk_at "Mcv"); (case h3 => walk_at "Mev"); (case h4 => walk_at "Mnum"))
  | (refine' ev_sliceD ?h1 ?h2 ?h3 ?h4; (case h1 => walk_at "Mev"); (case h2 => walk_at "Mcv"); (case h3 => walk_at "Mev"); (case h4 => walk_at "Mnum"))
  | (refine' ev_ixL ?h1 ?h2 ?hp ?h3 ?h4 ?h5 ?h6; (case h1 => walk_at "Mev"); (case h2 => walk_at "Mev"); (case hp => first | exact .inl rfl | exact .inr rfl); (case h3 => walk_at "Mcv"); (case h4 => rfl); (case h5 => rfl); (case h6 => exact fun _ _ => rfl))
  | (refine' ev_cj ?h; (case h => walk_at "Mcj"))
  | (refine' ev_isN ?h; (case h => walk_at "Mev"))
  | (refine' ev_notN ?h; (case h => walk_at "Mev"))
  | (refine' ev_lst ?h1 ?h2 ?h3; (case h1 => walk_at "Mea"); (case h2 => rfl); (case h3 => exact Nat.le_of_ble_eq_true rfl))
  | (refine' ev_repB ?h1 ?h2 ?hp ?h3 ?h4; (case h1 => walk_at "Mev"); (case h2 => walk_at "Mev"); (case hp => first | exact .inl rfl | exact .inr rfl); (case h3 => walk_at "Mcv"); (case h4 => first | exact Nat.le_of_ble_eq_true rfl | walk_at "Mlen"))
  | (refine' ev_catA ?h1 ?h2 ?hp ?h4 ?h5; (case h1 => walk_at "Mev"); (case h2 => walk_at "Mev"); (case hp => first | exact .inl rfl | exact .inr rfl); (case h4 => walk_at "Mcv"); (case h5 => walk_at "Mlen"))
  | (refine' ev_cat ?h1 ?h2 ?hp ?h3 ?h4 ?h5; (case h1 => walk_at "Mev"); (case h2 => walk_at "Mev"); (case hp => first | exact .inl rfl | exact .inr rfl); (case h3 => walk_at "Mcv"); (case h4 => walk_at "Mcv"); (case h5 => walk_at "Mlen"))
  )
local macro_rules | `(tactic| walk_at "Mpre") => `(tactic| first | trivial | assumption | (simp only [List.length_map]; omega) | (constructor <;> first | assumption | (simp only [List.length_map]; omega)))
local macro_rules | `(tactic| walk_at "Mcj") => `(tactic| first
  | (refine' cj_lt ?h1 ?h2; (case h1 => walk_at "Mev"); (case h2 => walk_at "Mev"))
  | (refine' cj_le ?h1 ?h2; (case h1 => walk_at "Mev"); (case h2 => walk_at "Mev"))
  | (refine' cj_gt ?h1 ?h2; (case h1 => walk_at "Mev"); (case h2 => walk_at "Mev"))
  | (refine' cj_ge ?h1 ?h2; (case h1 => walk_at "Mev"); (case h2 => walk_at "Mev"))
  | (refine' cj_eqI ?h1 ?h2; (case h1 => walk_at "Mev"); (case h2 => walk_at "Mev"))
  | (refine' cj_neI ?h1 ?h2; (case h1 => walk_at "Mev"); (case h2 => walk_at "Mev"))
  | (refine' cj_eqS ?h1 ?h2; (case h1 => walk_at "Mev"); (case h2 => walk_at "Mev"))
  | (refine' cj_neS ?h1 ?h2; (case h1 => walk_at "Mev"); (case h2 => walk_at "Mev"))
  | (refine' cj_in ?h1 ?h2 ?h3 rfl; (case h1 => walk_at "Mev"); (case h2 => walk_at "Mev"); (case h3 => walk_at "Mcv"))
  | (refine' cj_notIn ?h1 ?h2 ?h3 rfl; (case h1 => walk_at "Mev"); (case h2 => walk_at "Mev"); (case h3 => walk_at "Mcv")))
local macro_rules | `(tactic| walk_at "Mea") => `(tactic| first
  | exact ea_nil
  | (refine' ea_cons ?h1 ?h2 ?pk rfl; (case h1 => walk_at "Mev"); (case h2 => walk_at "Mea"); (case pk => first | exact .inl rfl | exact .inr rfl)))
local macro_rules | `(tactic| walk_at "Mdr") => `(tactic| first | assumption | (simp only [Dr.nx_k] at *; omega))
local macro_rules | `(tactic| walk_at "Mlen") => `(tactic| first | assumption | omega | (simp only [List.length_map, List.length_append, List.length_cons, List.length_nil, List.length_replicate, List.length_range]; omega) | (refine Nat.le_trans (Nat.add_le_add_left len_ite_le _) ?_; simp only [List.length_map, List.length_append, List.length_cons, List.length_nil, List.length_replicate, List.length_range]; omega))
local macro_rules | `(tactic| walk_at "Mwk") => `(tactic| (refine' wk_of ?_; repeat' (first | exact wk_nil | (refine' wk_same ?_) | (refine' wk_d ?_) | (refine' wk_lo ?_) | (refine' wk_eq ?_ ?_))))
local macro_rules | `(tactic| walk_at "Mset") => `(tactic| (refine' sx_set ?n ?e ?h0 ?np ?k ?hs; (case n => walk_at "Mn"); (case e => walk_at "Mev"); (case h0 => rfl); (case np => rfl); (case hs => rfl)))
local macro_rules | `(tactic| walk_at "Msix") => `(tactic| (refine' sx_setIx ?n ?he ?h1 ?hi ?hj ?k ?hs ?hw ?h2 ?ha; (case n => walk_at "Mn"); (case he => walk_at "Mev"); (case h1 => first | exact .inl rfl | exact .inr rfl); (case hi => walk_at "Mev"); (case hj => rfl); (case hs => rfl); (case hw => rfl); (case h2 => rfl); (case ha => exact fun _ => rfl)))
local macro_rules | `(tactic| walk_at "Met") => `(tactic| first
  | (refine' et_not ?h; (case h => walk_at "Met"))
  | (refine' et_w ?h; (case h => walk_at "Mew"))
  | (refine' et_cj ?h; (case h => walk_at "Mcj"))
  | (refine' et_isN ?h; (case h => walk_at "Mev"))
  | (refine' et_notN ?h; (case h => walk_at "Mev"))
  | (refine' et_val ?h ?he; (case h => walk_at "Mev"); (case he => exact fun _ => rfl)))
local macro_rules | `(tactic| walk_at "Mew") => `(tactic| first
  | (refine' ew_and1 ?h; (case h => walk_at "Met"))
  | (refine' ew_or1 ?h; (case h => walk_at "Met"))
  | (refine' ew_and ?h1 ?h2; (case h1 => walk_at "Met"); (case h2 => (intro _; walk_at "Mew")))
  | (refine' ew_or ?h1 ?h2; (case h1 => walk_at "Met"); (case h2 => (intro _; walk_at "Mew"))))
local macro_rules | `(tactic| walk_at "Meta") => `(tactic| (refine' et_as ?t1 ?t2; (case t1 => walk_at "Met")))
local macro_rules | `(tactic| walk_at "Mif") => `(tactic| (refine' sx_if ?t ?a ?b; (case t => walk_at "Met")))
local macro_rules | `(tactic| walk_at "Mret") => `(tactic| (refine' sx_ret ?h ?k; (case h => walk_at "Mev")))
local macro_rules | `(tactic| walk_at "Mpq") => `(tactic| repeat' (first | exact pq_nil | (refine' pq_out rfl ?_) | (refine' pq_skip rfl ?_) | (refine' pq_par ?_ ?_)))
local macro_rules | `(tactic| walk_at "Mrt") => `(tactic| (first | refine' ⟨rr_d ?_, ?_⟩ | refine' ⟨rr_lo ?_, ?_⟩ | refine' ⟨rr_at rfl ?_, ?_⟩); walk_at "Mpq")
local macro_rules | `(tactic| walk_at "Mapp") => `(tactic| (refine' sx_append ?n ?h ?he ?h1 ?hl ?k rfl rfl rfl rfl rfl rfl; (case n => walk_at "Mn"); (case h => first | exact .inl rfl | exact .inr rfl); (case he => walk_at "Mev"); (case h1 => first | exact .inl rfl | exact .inr rfl); (case hl => walk_at "Mlen")))
local macro_rules | `(tactic| walk_at "Mfor") => `(tactic| (refine' sx_forR ?en ?g ?m ?e ?n ?f ?h0 ?hs ?hd rfl (fun _ => rfl); (case en => walk_at "Mn"); (case g => walk_at "Mn"); (case m => walk_at "Mn"); (case e => walk_at "Mev")))
local macro_rules | `(tactic| walk_at "Mwh") => `(tactic| (refine' sx_whileW ?en ?g ?m ?a ?h0 ?I ?i0 ?hs; (case en => walk_at "Mn")))
section
variable {P : Program} {w : World} {K : PySem.W.Frag} {mg : Str → Option Value} {base : Heap} {k : Nat} {f : Addr} {fd : FuncData}
theorem ok_left_by (F : F_left_by K f fd) (m1 : mg "list" = none) (m2 : mg "len" = none) : FnG P w K mg base CX0 (k + 1) f fd P_left_by (spLeft P w K mg base k) :=
  fn_sx F fs_left_by (fun _ => rfl) fun cdv A outer s H E q hg hr hp => by
    have c : Sc (cxOf CX0 P w K mg base N_left_by "left_by" sc_left_by f cdv A outer s H E) N_left_by sc_left_by := ⟨rfl, rfl, fun _ => rfl⟩
    exact b_left_by c (en_of hg hr) (c.bi rfl m1) (c.bi rfl m2) hp.1 hp.2
theorem cl_left_by {sp : Sp} (F : F_left_by K f fd) (ok : FnG P w K mg base CX0 k f fd P_left_by sp) (hm : mg "left_by" = some (.ref f)) : Cl P w K mg base k "left_by" 3 [] idV sp :=
  cl_of F ok hm fun _ _ _ _ _ _ us hl => match us, hl with | [_, _, _], _ => rfl
/-! drop what was visited -/
def gVis (l : List Int) (p : Nat) : List Int := l.eraseIdx p
theorem seq_nat {n p : Nat} (h : p < n) : PySem.seqIndex? (p : Int) n = some p := by
  have e : (if (p : Int) < 0 then (p : Int) + (n : Int) else (p : Int)) = p := if_neg (by omega)
  show (if (decide (0 ≤ (if (p : Int) < 0 then (p : Int) + (n : Int) else (p : Int))) && decide ((if (p : Int) < 0 then (p : Int) + (n : Int) else (p : Int)) < (n : Int))) = true then some (if (p : Int) < 0 then (p : Int) + (n : Int) else (p : Int)).toNat else none) = some p
  rw [e, decide_eq_true (by omega), decide_eq_true (by omega), Int.toNat_natCast]
  rfl
theorem map_erase {l : List Int} {p : Nat} : (l.map D.int).eraseIdx p = (l.eraseIdx p).map D.int := by
  induction l generalizing p with
  | nil => rfl
  | cons a l ih =>
    cases p with
    | zero => rfl
    | succ p =>
      show D.int a :: (l.map D.int).eraseIdx p = D.int a :: (l.eraseIdx p).map D.int
      rw [ih]
theorem b_drop_visited {X : Cx} (c : Sc X N_drop_visited sc_drop_visited) {l : List Int} {p : Nat} (h : p < l.length) (h2 : l.length ≤ 1000) : SX X (defBody s_drop_visited) [.par (l.map D.int), .d (.int (p : Int))] (retE [.par ((gVis l p).map D.int)] (.d .non)) := by
  have l0 := nl_drop_visited_0 c
  have m0 := l0.nm
  have l1 := nl_drop_visited_1 c
  have m1 := l1.nm
  refine' sx_del (j := p) (n := (p : Int)) m0 (.inr rfl) ?a ?b ?c1 ?d ?e
  case a => walk_at "Mev"
  case b => omega
  case c1 => omega
  case d =>
    rw [List.length_map]
    exact seq_nat h
  case e =>
    refine sx_nil ⟨rfl, ?_⟩
    refine' pq_par ?_ ?_
    · exact map_erase
    · walk_at "Mpq"
theorem ok_drop_visited (F : F_drop_visited K f fd) : FnG P w K mg base CX0 (k + 1) f fd P_drop_visited (spBody gVis) :=
  fn_sx F fs_drop_visited (fun _ => rfl) fun cdv A outer s H E q hg hr hp => by
    have c : Sc (cxOf CX0 P w K mg base N_drop_visited "drop_visited" sc_drop_visited f cdv A outer s H E) N_drop_visited sc_drop_visited := ⟨rfl, rfl, fun _ => rfl⟩
    exact b_drop_visited c hp.1 hp.2
theorem bdy_drop_visited (F : F_drop_visited K f fd) (ok : FnG P w K mg base CX0 k f fd P_drop_visited (spBody gVis)) : Bdy P w K mg base k f gVis where
  c := ⟨fd, _, ok, F.kp, ⟨fun s us ws X l1 l2 => by
    obtain ⟨oc, od, dV, kV, doc, pm, an, cdv, ct, osl, rfl, lk, hcd, hD, hK⟩ := F.ex
    rcases hD with ⟨_, rfl⟩ | ⟨e, _⟩
    · exact .of_eq (match us, l1 with | [_, _], _ => rfl)
    · exact absurd rfl e, fun r _ => r⟩⟩
  l := fun l p h => by
    unfold gVis
    rw [List.length_eraseIdx_of_lt h]
    omega
/-! check_both, check_passes -/
abbrev spBoth : Sp := spF (α := List Int × List Int) (fun q => MkOk q.1 ∧ (q.2.length : Int) ≤ 120) (fun q => [.d (liI q.1), .d (liI q.2)]) (fun _ => []) (fun _ => .d .non)
theorem b_check_both {X : Cx} (c : Sc X N_check_both sc_check_both) (en : En X k) (C1 : ClX X k "check_marked" 1 [] idV spCkM) (C2 : ClX X k "check_values" 1 [] idV spCkV) {ms ns : List Int} (h1 : MkOk ms) (h2 : (ns.length : Int) ≤ 120) : SX X (defBody s_check_both) [.d (liI ms), .d (liI ns)] (retE [] (.d .non)) := by
  have l0 := nl_check_both_0 c
  have m0 := l0.nm
  have l1 := nl_check_both_1 c
  have m1 := l1.nm
  have g_check_marked := gl_check_both_check_marked c
  have g_check_values := gl_check_both_check_values c
  refine' sx_expr ?a ?b rfl
  case a => walk_at "Mev"
  refine' sx_expr ?c1 ?d rfl
  case c1 => walk_at "Mev"
  refine sx_nil ⟨rfl, ?_⟩
  walk_at "Mpq"
theorem ok_check_both (F : F_check_both K f fd) (C1 : Cl P w K mg base k "check_marked" 1 [] idV spCkM) (C2 : Cl P w K mg base k "check_values" 1 [] idV spCkV) : FnG P w K mg base CX0 (k + 1) f fd P_check_both spBoth :=
  fn_sx F fs_check_both (fun _ => rfl) fun cdv A outer s H E q hg hr hp => by
    have c : Sc (cxOf CX0 P w K mg base N_check_both "check_both" sc_check_both f cdv A outer s H E) N_check_both sc_check_both := ⟨rfl, rfl, fun _ => rfl⟩
    exact b_check_both c (en_of hg hr) C1 C2 hp.1 hp.2
theorem cl_check_both (F : F_check_both K f fd) (ok : FnG P w K mg base CX0 k f fd P_check_both spBoth) (hm : mg "check_both" = some (.ref f)) : Cl P w K mg base k "check_both" 2 [] idV spBoth :=
  cl_of F ok hm fun _ _ _ _ _ _ us hl => match us, hl with | [_, _], _ => rfl
abbrev spUpTo : Sp := spF (α := Int × Int) (fun q => 0 ≤ q.1 ∧ q.1 ≤ q.2) (fun q => [.d (.int q.1), .d (.int q.2)]) (fun _ => []) (fun _ => .d (.bl true))
theorem b_is_whole_up_to {X : Cx} (c : Sc X N_is_whole_up_to sc_is_whole_up_to) (en : En X k) (C1 : ClX X k "is_whole" 1 [] idV spIsWhole) {i m : Int} (h1 : 0 ≤ i) (h2 : i ≤ m) : SX X (defBody s_is_whole_up_to) [.d (.int i), .d (.int m)] (retE [] (.d (.bl true))) := by
  have l0 := nl_is_whole_up_to_0 c
  have m0 := l0.nm
  have l1 := nl_is_whole_up_to_1 c
  have m1 := l1.nm
  have g_is_whole := gl_is_whole_up_to_is_whole c
  refine' sx_ret ?h ?k
  case h =>
    refine' ev_andT ?a1 ?a2 ?a3
    case a1 => walk_at "Mev"
    case a2 => rfl
    case a3 =>
      refine' ev_one ?a4
      case a4 =>
        refine' ev_chain2 ?b1 ?b2 ?b3 ?b4
        case b1 => walk_at "Mev"
        case b2 => walk_at "Mev"
        case b3 => walk_at "Mev"
        case b4 => with_unfolding_all rfl
  walk_at "Mrt"
  rw [decide_eq_true h1, decide_eq_true h2]
  rfl
theorem ok_is_whole_up_to (F : F_is_whole_up_to K f fd) (C1 : Cl P w K mg base k "is_whole" 1 [] idV spIsWhole) : FnG P w K mg base CX0 (k + 1) f fd P_is_whole_up_to spUpTo :=
  fn_sx F fs_is_whole_up_to (fun _ => rfl) fun cdv A outer s H E q hg hr hp => by
    have c : Sc (cxOf CX0 P w K mg base N_is_whole_up_to "is_whole_up_to" sc_is_whole_up_to f cdv A outer s H E) N_is_whole_up_to sc_is_whole_up_to := ⟨rfl, rfl, fun _ => rfl⟩
    exact b_is_whole_up_to c (en_of hg hr) C1 hp.1 hp.2
theorem cl_is_whole_up_to (F : F_is_whole_up_to K f fd) (ok : FnG P w K mg base CX0 k f fd P_is_whole_up_to spUpTo) (hm : mg "is_whole_up_to" = some (.ref f)) : Cl P w K mg base k "is_whole_up_to" 2 [] idV spUpTo :=
  cl_of F ok hm fun _ _ _ _ _ _ us hl => match us, hl with | [_, _], _ => rfl
abbrev spCkP : Sp := spF (α := Int × Int) (fun q => 0 ≤ q.1 ∧ q.1 ≤ q.2) (fun q => [.d (.int q.1), .d (.int q.2)]) (fun _ => []) (fun _ => .d .non)
theorem b_check_passes {X : Cx} (c : Sc X N_check_passes sc_check_passes) (en : En X k) (C1 : ClX X k "is_whole_up_to" 2 [] idV spUpTo) {i m : Int} (h1 : 0 ≤ i) (h2 : i ≤ m) : SX X (defBody s_check_passes) [.d (.int i), .d (.int m)] (retE [] (.d .non)) := by
  have l0 := nl_check_passes_0 c
  have m0 := l0.nm
  have l1 := nl_check_passes_1 c
  have m1 := l1.nm
  have g_InvalidPasses := gl_check_passes_InvalidPasses c
  have g_is_whole_up_to := gl_check_passes_is_whole_up_to c
  refine' sx_if (k := false) ?t ?a ?b
  case t =>
    refine' et_as ?tt1 ?tt2
    case tt1 => walk_at "Met"
    case tt2 => rfl
  case a => exact fun z => by cases z
  intro _
  refine sx_nil ?_
  refine sx_nil ⟨rfl, ?_⟩
  walk_at "Mpq"
theorem ok_check_passes (F : F_check_passes K f fd) (C1 : Cl P w K mg base k "is_whole_up_to" 2 [] idV spUpTo) : FnG P w K mg base CX0 (k + 1) f fd P_check_passes spCkP :=
  fn_sx F fs_check_passes (fun _ => rfl) fun cdv A outer s H E q hg hr hp => by
    have c : Sc (cxOf CX0 P w K mg base N_check_passes "check_passes" sc_check_passes f cdv A outer s H E) N_check_passes sc_check_passes := ⟨rfl, rfl, fun _ => rfl⟩
    exact b_check_passes c (en_of hg hr) C1 hp.1 hp.2
theorem cl_check_passes (F : F_check_passes K f fd) (ok : FnG P w K mg base CX0 k f fd P_check_passes spCkP) (hm : mg "check_passes" = some (.ref f)) : Cl P w K mg base k "check_passes" 2 [] idV spCkP :=
  cl_of F ok hm fun _ _ _ _ _ _ us hl => match us, hl with | [_, _], _ => rfl
end
end Lw

set_option Elab.async false
set_option linter.all false
set_option maxRecDepth 100000
set_option maxHeartbeats 4000000
namespace Lw
open PySem PySem.Spec PyProof.Rows L2 Mw
local macro_rules | `(tactic| walk_at "Mkb") => `(tactic| first | exact kb_NoneType_int | exact kb_NoneType_bool | exact kb_NoneType_list | exact kb_NoneType_str | exact kb_NoneType_dict | exact kb_NoneType_tuple | exact kb_bool_int | exact kb_bool_bool | exact kb_bool_list | exact kb_bool_str | exact kb_bool_dict | exact kb_bool_tuple | exact kb_int_int | exact kb_int_bool | exact kb_int_list | exact kb_int_str | exact kb_int_dict | exact kb_int_tuple | exact kb_str_int | exact kb_str_bool | exact kb_str_list | exact kb_str_str | exact kb_str_dict | exact kb_str_tuple | exact kb_list_int | exact kb_list_bool | exact kb_list_list | exact kb_list_str | exact kb_list_dict | exact kb_list_tuple | exact kb_tuple_int | exact kb_tuple_bool | exact kb_tuple_list | exact kb_tuple_str | exact kb_tuple_dict | exact kb_tuple_tuple | exact kb_dict_int | exact kb_dict_bool | exact kb_dict_list | exact kb_dict_str | exact kb_dict_dict | exact kb_dict_tuple)
local macro_rules | `(tactic| walk_at "Mn") => `(tactic| with_reducible assumption)
local macro_rules | `(tactic| walk_at "Mnum") => `(tactic| first | assumption | decide | omega | (constructor <;> first | assumption | decide | omega))
local macro_rules | `(tactic| walk_at "Mcv") => `(tactic| first | exact cv_d | exact cv_own | exact cv_at | exact Cv.refl)
local macro_rules | `(tactic| walk_at "Mev") => `(tactic| first
  | exact ev_int | exact ev_bl | exact ev_non | exact ev_str
  | (refine' ev_d ?hn ?hs; (case hn => walk_at "Mn"); (case hs => rfl))
  | (refine' ev_at ?hn ?hs; (case hn => walk_at "Mn"); (case hs => first | exact .inl rfl | exact .inr rfl))
  | (refine' ev_lo ?hn ?hs; (case hn => walk_at "Mn"); (case hs => rfl))
  | (refine' ev_add ?h1 ?h2; (case h1 => walk_at "Mev"); (case h2 => walk_at "Mev"))
  | (refine' ev_sub ?h1 ?h2; (case h1 => walk_at "Mev"); (case h2 => walk_at "Mev"))
  | (refine' ev_pow ?h1 ?h2 ?h3; (case h1 => walk_at "Mev"); (case h2 => walk_at "Mev"); (case h3 => walk_at "Mnum"))
  | (refine' ev_mod ?h1 ?h2 ?h3; (case h1 => walk_at "Mev"); (case h2 => walk_at "Mev"); (case h3 => walk_at "Mnum"))
  | (refine' ev_fdiv ?h1 ?h2 ?h3; (case h1 => walk_at "Mev"); (case h2 => walk_at "Mev"); (case h3 => walk_at "Mnum"))
  | (refine' ev_mul ?h1 ?h2 ?h3; (case h1 => walk_at "Mev"); (case h2 => walk_at "Mev"); (case h3 => first | assumption | (left; constructor <;> walk_at "Mnum") | (right; constructor <;> walk_at "Mnum")))
  | (refine' ev_intI ?h0 ?h1 rfl; (case h0 => walk_at "Mn"); (case h1 => walk_at "Mev"))
  | (refine' ev_intB ?h0 ?h1 rfl; (case h0 => walk_at "Mn"); (case h1 => walk_at "Mev"))
  | (refine' ev_next ?C ?en ?g ?m ?h ?b; (case C => walk_at "Mn"); (case en => walk_at "Mn"); (case g => walk_at "Mn"); (case m => walk_at "Mn"); (case h => first | exact .inr rfl | exact .inl rfl); (case b => walk_at "Mdr"))
  | (refine' ev_pick ?h1 ?h2 ?hp ?h3 ?h6; (case h1 => walk_at "Mev"); (case h2 => walk_at "Mev"); (case hp => first | exact .inl rfl | exact .inr rfl); (case h3 => walk_at "Mcv"); (case h6 => exact fun _ _ => rfl))
  | (refine' ev_globF ?g ?m rfl; (case g => walk_at "Mn"); (case m => walk_at "Mn"))
  | (refine' ev_globI ?g ?m rfl; (case g => walk_at "Mn"); (case m => walk_at "Mn"))
  | (refine' ev_isi ?h0 ?h1 ?h2 ?h3 ?h4 rfl rfl rfl; (case h0 => walk_at "Mn"); (case h1 => walk_at "Mn"); (case h2 => walk_at "Mev"); (case h3 => rfl); (case h4 => walk_at "Mkb"))
  | (refine' ev_len ?h0 ?h1 ?h2 rfl; (case h0 => walk_at "Mn"); (case h1 => walk_at "Mev"); (case h2 => walk_at "Mcv"))
  | (refine' ev_list ?h0 ?h1 ?h2 rfl; (case h0 => walk_at "Mn"); (case h1 => walk_at "Mev"); (case h2 => walk_at "Mcv"))
  | (refine' Ev.cast ?hh ?qq; (case hh => (refine' ev_go ?C ?en ?g ?a ?ha ?hd ?l1 ?hp ?hi rfl rfl rfl; (case C => walk_at "Mn"); (case en => walk_at "Mn"); (case g => walk_at "Mn"); (case ha => walk_at "Mea"); (case hd => rfl); (case l1 => rfl); (case hi => rfl); (case hp => walk_at "Mpre"))); (case qq => rfl))
  | (refine' Ev.cast ?hh ?qq; (case hh => (refine' ev_go ?C ?en ?g (?a, ?b) ?ha ?hd ?l1 ?hp ?hi rfl rfl rfl; (case C => walk_at "Mn"); (case en => walk_at "Mn"); (case g => walk_at "Mn"); (case ha => walk_at "Mea"); (case hd => rfl); (case l1 => rfl); (case hi => rfl); (case hp => walk_at "Mpre"))); (case qq => rfl))
  | (refine' Ev.cast ?hh ?qq; (case hh => (refine' ev_go ?C ?en ?g (?a, ?b, ?c) ?ha ?hd ?l1 ?hp ?hi rfl rfl rfl; (case C => walk_at "Mn"); (case en => walk_at "Mn"); (case g => walk_at "Mn"); (case ha => walk_at "Mea"); (case hd => rfl); (case l1 => rfl); (case hi => rfl); (case hp => walk_at "Mpre"))); (case qq => rfl))
  | (refine' ev_sliceTI ?h1 ?h2 ?h3 ?h4; (case h1 => walk_at "Mev"); (case h2 => walk_at "Mcv"); (case h3 => walk_at "Mev"); (case h4 => walk_at "Mnum"))
  | (refine' ev_sliceDI ?h1 ?h2 ?h3 ?h4; (case h1 => walk_at "Mev"); (case h2 => walk_at "Mcv"); (case h3 => walk_at "Mev"); (case h4 => walk_at "Mnum"))
  | (refine' ev_sliceT ?h1 ?h2 ?h3 ?h4; (case h1 => walk_at "Mev"); (case h2 => walk_at "Mcv"); (case h3 => walk_at "Mev"); (case h4 => walk_at "Mnum"))
  | (refine' ev_sliceD ?h1 ?h2 ?h3 ?h4; (case h1 => walk_at "Mev"); (case h2 => walk_at "Mcv"); (case h3 => walk_at "Mev"); (case h4 => walk_at "Mnum"))
  | (refine' ev_ixL ?h1 ?h2 ?hp ?h3 ?h4 ?h5 ?h6; (case h1 => walk_at "Mev"); (case h2 => walk_at "Mev"); (case hp => first | exact .inl rfl | exact .inr rfl); (case h3 => walk_at "Mcv"); (case h4 => rfl); (case h5 => rfl); (case h6 => exact fun _ _ => rfl))
  | (refine' ev_cj ?h; (case h => walk_at "Mcj"))
  | (refine' ev_isN ?h; (case h => walk_at "Mev"))
  | (refine' ev_notN ?h; (case h => walk_at "Mev"))
  | (refine' ev_lst ?h1 ?h2 ?h3; (case h1 => walk_at "Mea"); (case h2 => rfl); (case h3 => exact Nat.le_of_ble_eq_true rfl))
  | (refine' ev_repB ?h1 ?h2 ?hp ?h3 ?h4; (case h1 => walk_at "Mev"); (case h2 => walk_at "Mev"); (case hp => first | exact .inl rfl | exact .inr rfl); (case h3 => walk_at "Mcv"); (case h4 => first | exact Nat.le_of_ble_eq_true rfl | walk_at "Mlen"))
  | (refine' ev_catA ?h1 ?h2 ?hp ?h4 ?h5; (case h1 => walk_at "Mev"); (case h2 => walk_at "Mev"); (case hp => first | exact .inl rfl | exact .inr rfl); (case h4 => walk_at "Mcv"); (case h5 => walk_at "Mlen"))
  | (refine' ev_cat ?h1 ?h2 ?hp ?h3 ?h4 ?h5; (case h1 => walk_at "Mev"); (case h2 => walk_at "Mev"); (case hp => first | exact .inl rfl | exact .inr rfl); (case h3 => walk_at "Mcv"); (case h4 => walk_at "Mcv"); (case h5 => walk_at "Mlen"))
  )
local macro_rules | `(tactic| walk_at "Mpre") => `(tactic| first | trivial | assumption | (simp only [List.length_map]; omega) | (constructor <;> first | assumption | (simp only [List.length_map]; omega)))
local macro_rules | `(tactic| walk_at "Mcj") => `(tactic| first
  | (refine' cj_lt ?h1 ?h2; (case h1 => walk_at "Mev"); (case h2 => walk_at "Mev"))
  | (refine' cj_le ?h1 ?h2; (case h1 => walk_at "Mev"); (case h2 => walk_at "Mev"))
  | (refine' cj_gt ?h1 ?h2; (case h1 => walk_at "Mev"); (case h2 => walk_at "Mev"))
  | (refine' cj_ge ?h1 ?h2; (case h1 => walk_at "Mev"); (case h2 => walk_at "Mev"))
  | (refine' cj_eqI ?h1 ?h2; (case h1 => walk_at "Mev"); (case h2 => walk_at "Mev"))
  | (refine' cj_neI ?h1 ?h2; (case h1 => walk_at "Mev"); (case h2 => walk_at "Mev"))
  | (refine' cj_eqS ?h1 ?h2; (case h1 => walk_at "Mev"); (case h2 => walk_at "Mev"))
  | (refine' cj_neS ?h1 ?h2; (case h1 => walk_at "Mev"); (case h2 => walk_at "Mev"))
  | (refine' cj_in ?h1 ?h2 ?h3 rfl; (case h1 => walk_at "Mev"); (case h2 => walk_at "Mev"); (case h3 => walk_at "Mcv"))
  | (refine' cj_notIn ?h1 ?h2 ?h3 rfl; (case h1 => walk_at "Mev"); (case h2 => walk_at "Mev"); (case h3 => walk_at "Mcv")))
local macro_rules | `(tactic| walk_at "Mea") => `(tactic| first
  | exact ea_nil
  | (refine' ea_cons ?h1 ?h2 ?pk rfl; (case h1 => walk_at "Mev"); (case h2 => walk_at "Mea"); (case pk => first | exact .inl rfl | exact .inr rfl)))
local macro_rules | `(tactic| walk_at "Mdr") => `(tactic| first | assumption | (simp only [Dr.nx_k] at *; omega))
local macro_rules | `(tactic| walk_at "Mlen") => `(tactic| first | assumption | omega | (simp only [List.length_map, List.length_append, List.length_cons, List.length_nil, List.length_replicate, List.length_range]; omega) | (refine Nat.le_trans (Nat.add_le_add_left len_ite_le _) ?_; simp only [List.length_map, List.length_append, List.length_cons, List.length_nil, List.length_replicate, List.length_range]; omega))
local macro_rules | `(tactic| walk_at "Mwk") => `(tactic| (refine' wk_of ?_; repeat' (first | exact wk_nil | (refine' wk_same ?_) | (refine' wk_d ?_) | (refine' wk_lo ?_) | (refine' wk_eq ?_ ?_))))
local macro_rules | `(tactic| walk_at "Mset") => `(tactic| (refine' sx_set ?n ?e ?h0 ?np ?k ?hs; (case n => walk_at "Mn"); (case e => walk_at "Mev"); (case h0 => rfl); (case np => rfl); (case hs => rfl)))
local macro_rules | `(tactic| walk_at "Msix") => `(tactic| (refine' sx_setIx ?n ?he ?h1 ?hi ?hj ?k ?hs ?hw ?h2 ?ha; (case n => walk_at "Mn"); (case he => walk_at "Mev"); (case h1 => first | exact .inl rfl | exact .inr rfl); (case hi => walk_at "Mev"); (case hj => rfl); (case hs => rfl); (case hw => rfl); (case h2 => rfl); (case ha => exact fun _ => rfl)))
local macro_rules | `(tactic| walk_at "Met") => `(tactic| first
  | (refine' et_not ?h; (case h => walk_at "Met"))
  | (refine' et_w ?h; (case h => walk_at "Mew"))
  | (refine' et_cj ?h; (case h => walk_at "Mcj"))
  | (refine' et_isN ?h; (case h => walk_at "Mev"))
  | (refine' et_notN ?h; (case h => walk_at "Mev"))
  | (refine' et_val ?h ?he; (case h => walk_at "Mev"); (case he => exact fun _ => rfl)))
local macro_rules | `(tactic| walk_at "Mew") => `(tactic| first
  | (refine' ew_and1 ?h; (case h => walk_at "Met"))
  | (refine' ew_or1 ?h; (case h => walk_at "Met"))
  | (refine' ew_and ?h1 ?h2; (case h1 => walk_at "Met"); (case h2 => (intro _; walk_at "Mew")))
  | (refine' ew_or ?h1 ?h2; (case h1 => walk_at "Met"); (case h2 => (intro _; walk_at "Mew"))))
local macro_rules | `(tactic| walk_at "Meta") => `(tactic| (refine' et_as ?t1 ?t2; (case t1 => walk_at "Met")))
local macro_rules | `(tactic| walk_at "Mif") => `(tactic| (refine' sx_if ?t ?a ?b; (case t => walk_at "Met")))
local macro_rules | `(tactic| walk_at "Mret") => `(tactic| (refine' sx_ret ?h ?k; (case h => walk_at "Mev")))
local macro_rules | `(tactic| walk_at "Mpq") => `(tactic| repeat' (first | exact pq_nil | (refine' pq_out rfl ?_) | (refine' pq_skip rfl ?_) | (refine' pq_par ?_ ?_)))
local macro_rules | `(tactic| walk_at "Mrt") => `(tactic| (first | refine' ⟨rr_d ?_, ?_⟩ | refine' ⟨rr_lo ?_, ?_⟩ | refine' ⟨rr_at rfl ?_, ?_⟩); walk_at "Mpq")
local macro_rules | `(tactic| walk_at "Mapp") => `(tactic| (refine' sx_append ?n ?h ?he ?h1 ?hl ?k rfl rfl rfl rfl rfl rfl; (case n => walk_at "Mn"); (case h => first | exact .inl rfl | exact .inr rfl); (case he => walk_at "Mev"); (case h1 => first | exact .inl rfl | exact .inr rfl); (case hl => walk_at "Mlen")))
local macro_rules | `(tactic| walk_at "Mfor") => `(tactic| (refine' sx_forR ?en ?g ?m ?e ?n ?f ?h0 ?hs ?hd rfl (fun _ => rfl); (case en => walk_at "Mn"); (case g => walk_at "Mn"); (case m => walk_at "Mn"); (case e => walk_at "Mev")))
local macro_rules | `(tactic| walk_at "Mwh") => `(tactic| (refine' sx_whileW ?en ?g ?m ?a ?h0 ?I ?i0 ?hs; (case en => walk_at "Mn")))
section
variable {P : Program} {w : World} {K : PySem.W.Frag} {mg : Str → Option Value} {base : Heap} {k j : Nat} {f fv : Addr} {fd : FuncData}
theorem lbGo_len {g : List Int → Nat → List Int} (hg : ∀ l p, p < l.length → (g l p).length ≤ l.length) {m : List Int} : ∀ n l p, (lbGo g m n l p).length ≤ l.length
  | 0, l, p => Nat.le_refl _
  | n + 1, l, p => by
    unfold lbGo
    split
    · rename_i hp
      refine Nat.le_trans (lbGo_len hg n _ _) ?_
      split
      · exact hg l p hp
      · exact Nat.le_refl _
    · exact Nat.le_refl _
theorem left_len {g : List Int → Nat → List Int} (hg : ∀ l p, p < l.length → (g l p).length ≤ l.length) {m l : List Int} : (leftF g m l).length ≤ l.length := lbGo_len hg _ _ _
theorem gVis_len (l : List Int) (p : Nat) (h : p < l.length) : (gVis l p).length ≤ l.length := by
  unfold gVis
  rw [List.length_eraseIdx_of_lt h]
  omega
def afterF (m : List Int) (t : Nat) (l : List Int) : List Int := itr (leftF gVis m) t l
theorem after_len {m l : List Int} : ∀ t, (afterF m t l).length ≤ l.length
  | 0 => Nat.le_refl _
  | t + 1 => Nat.le_trans (left_len gVis_len) (after_len t)
abbrev AfA : Type := (List Int × List Int) × Int
abbrev spAfter : Sp := spF (α := AfA) (fun q => (MkOk q.1.1 ∧ (q.1.2.length : Int) ≤ 120) ∧ 0 ≤ q.2 ∧ q.2 ≤ 8) (fun q => [.d (liI q.1.1), .d (liI q.1.2), .d (.int q.2)]) (fun _ => []) (fun q => .lo (.own ((afterF q.1.1 q.2.toNat q.1.2).map D.int)))
theorem b_after_passes {X : Cx} (c : Sc X N_after_passes sc_after_passes) (en : En X k) (C1 : ClX X k "check_both" 2 [] idV spBoth) (C2 : ClX X k "check_passes" 2 [] idV spCkP) (C3 : ClX X k "left_by" 3 [] idV (spLeft X.prog X.w X.K X.mg X.base j)) (B : Bdy X.prog X.w X.K X.mg X.base j fv gVis) (md : X.mg "drop_visited" = some (.ref fv))
    (bl : Bi X "list" (.type "list")) (mr : X.mg "range" = none) (mP : ∃ t, X.mg "MOST_PASSES" = some (.int 8 t)) {ms ns : List Int} {t : Int} (h1 : MkOk ms) (h2 : (ns.length : Int) ≤ 120) (h3 : 0 ≤ t ∧ t ≤ 8) :
    SX X (defBody s_after_passes) [.d (liI ms), .d (liI ns), .d (.int t), .un, .un] (retE [] (.lo (.own ((afterF ms t.toNat ns).map D.int)))) := by
  have l0 := nl_after_passes_0 c
  have m0 := l0.nm
  have l1 := nl_after_passes_1 c
  have m1 := l1.nm
  have l2 := nl_after_passes_2 c
  have m2 := l2.nm
  have l3 := nl_after_passes_3 c
  have m3 := l3.nm
  have l4 := nl_after_passes_4 c
  have m4 := l4.nm
  have g_MOST_PASSES := gl_after_passes_MOST_PASSES c
  have g_check_both := gl_after_passes_check_both c
  have g_check_passes := gl_after_passes_check_passes c
  have g_drop_visited := gl_after_passes_drop_visited c
  have g_left_by := gl_after_passes_left_by c
  have g_list := gl_after_passes_list c
  have g_range := gl_after_passes_range c
  refine' sx_expr ?a ?b rfl
  case a => walk_at "Mev"
  refine' sx_expr ?a1 ?b1 rfl
  case a1 => walk_at "Mev"
  walk_at "Mset"
  walk_at "Mfor"
  case n => omega
  case f => exact fun i => [.d (liI ms), .d (liI ns), .d (.int t), .lo (.own ((afterF ms i ns).map D.int)), .un]
  case h0 => walk_at "Mwk"
  case hd =>
    walk_at "Mret"
    walk_at "Mrt"
    rfl
  case hs =>
    intro i hi
    refine ⟨_, tg_name l4 rfl rfl, ?_⟩
    refine' sx_frzO (i := 3) rfl ?_
    have hl := after_len (m := ms) (l := ns) i
    refine' sx_set ?n1 ?e1 ?h01 ?np1 ?k1 ?hs1
    case n1 => walk_at "Mn"
    case e1 =>
      refine' Ev.cast ?y8 ?y9
      case y8 =>
        refine' ev_go C3 en g_left_by ((fv, gVis), ms, afterF ms i ns) ?ha ?hd ?l1 ?hp ?hi rfl rfl rfl
        case ha => walk_at "Mea"
        case hd => rfl
        case l1 => rfl
        case hi => rfl
        case hp => exact ⟨B, by show (afterF ms i ns).length ≤ 1000; omega⟩
      case y9 => rfl
    case h01 => rfl
    case np1 => rfl
    case hs1 => rfl
    refine sx_nil ?_
    show Wk _ _
    walk_at "Mwk"
theorem ok_after_passes (F : F_after_passes K f fd) (C1 : Cl P w K mg base k "check_both" 2 [] idV spBoth) (C2 : Cl P w K mg base k "check_passes" 2 [] idV spCkP) (C3 : Cl P w K mg base k "left_by" 3 [] idV (spLeft P w K mg base j)) (B : Bdy P w K mg base j fv gVis) (md : mg "drop_visited" = some (.ref fv))
    (m1 : mg "list" = none) (mr : mg "range" = none) (mP : ∃ t, mg "MOST_PASSES" = some (.int 8 t)) : FnG P w K mg base CX0 (k + 1) f fd P_after_passes spAfter :=
  fn_sx F fs_after_passes (fun _ => rfl) fun cdv A outer s H E q hg hr hp => by
    have c : Sc (cxOf CX0 P w K mg base N_after_passes "after_passes" sc_after_passes f cdv A outer s H E) N_after_passes sc_after_passes := ⟨rfl, rfl, fun _ => rfl⟩
    exact b_after_passes c (en_of hg hr) C1 C2 C3 B md (c.bi rfl m1) mr mP hp.1.1 hp.1.2 hp.2
/-- after_passes(m, v) -/
theorem cl_after0 (F : F_after_passes K f fd) (ok : FnG P w K mg base CX0 k f fd P_after_passes spAfter) (hm : mg "after_passes" = some (.ref f)) : Cl P w K mg base k "after_passes" 2 [] (fun vs _ => vs ++ [.int 1]) spAfter := by
  refine cl_kd F ok hm 2 [] [("passes", .int 1)] (fun us mv _ => us ++ mv) (by decide) (fun q h => h) (fun r1 r2 _ => r1.append r2) ?_
  intro D doc pm an cdv ct us mv ws l1 l2 l3
  match us, mv, l1, l2 with
  | [_, _], [_], _, _ => exact ⟨_, _, _, _, _, _, rfl, rfl, rfl⟩
/-- after_passes(m, v, passes=t) -/
theorem cl_after1 (F : F_after_passes K f fd) (ok : FnG P w K mg base CX0 k f fd P_after_passes spAfter) (hm : mg "after_passes" = some (.ref f)) : Cl P w K mg base k "after_passes" 2 ["passes"] (fun vs zs => vs ++ zs) spAfter := by
  refine cl_kd F ok hm 2 ["passes"] [] (fun us _ ws => us ++ ws) (by decide) (fun q h => by cases h) (fun r1 _ r3 => r1.append r3) ?_
  intro D doc pm an cdv ct us mv ws l1 l2 l3
  match us, ws, mv, l1, l3, l2 with
  | [_, _], [_], [], _, _, _ => rfl
/-- after_passes(passes=t, values=v, marked=m) -/
theorem cl_after2 (F : F_after_passes K f fd) (ok : FnG P w K mg base CX0 k f fd P_after_passes spAfter) (hm : mg "after_passes" = some (.ref f)) : Cl P w K mg base k "after_passes" 0 ["passes", "values", "marked"] (fun _ zs => zs.reverse) spAfter := by
  refine cl_kd F ok hm 0 ["passes", "values", "marked"] [] (fun _ _ ws => ws.reverse) (by decide) (fun q h => by cases h) (fun _ _ r3 => r3.reverse) ?_
  intro D doc pm an cdv ct us mv ws l1 l2 l3
  match us, ws, mv, l1, l3, l2 with
  | [], [_, _, _], [], _, _, _ => rfl
end
end Lw

set_option Elab.async false
set_option linter.all false
set_option maxRecDepth 100000
set_option maxHeartbeats 4000000
namespace Lw
open PySem PySem.Spec PyProof.Rows L2 Mw
local macro_rules | `(tactic| walk_at "Mkb") => `(tactic| first | exact kb_NoneType_int | exact kb_NoneType_bool | exact kb_NoneType_list | exact kb_NoneType_str | exact kb_NoneType_dict | exact kb_NoneType_tuple | exact kb_bool_int | exact kb_bool_bool | exact kb_bool_list | exact kb_bool_str | exact kb_bool_dict | exact kb_bool_tuple | exact kb_int_int | exact kb_int_bool | exact kb_int_list | exact kb_int_str | exact kb_int_dict | exact kb_int_tuple | exact kb_str_int | exact kb_str_bool | exact kb_str_list | exact kb_str_str | exact kb_str_dict | exact kb_str_tuple | exact kb_list_int | exact kb_list_bool | exact kb_list_list | exact kb_list_str | exact kb_list_dict | exact kb_list_tuple | exact kb_tuple_int | exact kb_tuple_bool | exact kb_tuple_list | exact kb_tuple_str | exact kb_tuple_dict | exact kb_tuple_tuple | exact kb_dict_int | exact kb_dict_bool | exact kb_dict_list | exact kb_dict_str | exact kb_dict_dict | exact kb_dict_tuple)
local macro_rules | `(tactic| walk_at "Mn") => `(tactic| with_reducible assumption)
local macro_rules | `(tactic| walk_at "Mnum") => `(tactic| first | assumption | decide | omega | (constructor <;> first | assumption | decide | omega))
local macro_rules | `(tactic| walk_at "Mcv") => `(tactic| first | exact cv_d | exact cv_own | exact cv_at | exact Cv.refl)
local macro_rules | `(tactic| walk_at "Mev") => `(tactic| first
  | exact ev_int | exact ev_bl | exact ev_non | exact ev_str
  | (refine' ev_d ?hn ?hs; (case hn => walk_at "Mn"); (case hs => rfl))
  | (refine' ev_at ?hn ?hs; (case hn => walk_at "Mn"); (case hs => first | exact .inl rfl | exact .inr rfl))
  | (refine' ev_lo ?hn ?hs; (case hn => walk_at "Mn"); (case hs => rfl))
  | (refine' ev_add ?h1 ?h2; (case h1 => walk_at "Mev"); (case h2 => walk_at "Mev"))
  | (refine' ev_sub ?h1 ?h2; (case h1 => walk_at "Mev"); (case h2 => walk_at "Mev"))
  | (refine' ev_pow ?h1 ?h2 ?h3; (case h1 => walk_at "Mev"); (case h2 => walk_at "Mev"); (case h3 => walk_at "Mnum"))
  | (refine' ev_mod ?h1 ?h2 ?h3; (case h1 => walk_at "Mev"); (case h2 => walk_at "Mev"); (case h3 => walk_at "Mnum"))
  | (refine' ev_fdiv ?h1 ?h2 ?h3; (case h1 => walk_at "Mev"); (case h2 => walk_at "Mev"); (case h3 => walk_at "Mnum"))
  | (refine' ev_mul ?h1 ?h2 ?h3; (case h1 => walk_at "Mev"); (case h2 => walk_at "Mev"); (case h3 => first | assumption | (left; constructor <;> walk_at "Mnum") | (right; constructor <;> walk_at "Mnum")))
  | (refine' ev_intI ?h0 ?h1 rfl; (case h0 => walk_at "Mn"); (case h1 => walk_at "Mev"))
  | (refine' ev_intB ?h0 ?h1 rfl; (case h0 => walk_at "Mn"); (case h1 => walk_at "Mev"))
  | (refine' ev_next ?C ?en ?g ?m ?h ?b; (case C => walk_at "Mn"); (case en => walk_at "Mn"); (case g => walk_at "Mn"); (case m => walk_at "Mn"); (case h => first | exact .inr rfl | exact .inl rfl); (case b => walk_at "Mdr"))
  | (refine' ev_pick ?h1 ?h2 ?hp ?h3 ?h6; (case h1 => walk_at "Mev"); (case h2 => walk_at "Mev"); (case hp => first | exact .inl rfl | exact .inr rfl); (case h3 => walk_at "Mcv"); (case h6 => exact fun _ _ => rfl))
  | (refine' ev_globF ?g ?m rfl; (case g => walk_at "Mn"); (case m => walk_at "Mn"))
  | (refine' ev_globI ?g ?m rfl; (case g => walk_at "Mn"); (case m => walk_at "Mn"))
  | (refine' ev_isi ?h0 ?h1 ?h2 ?h3 ?h4 rfl rfl rfl; (case h0 => walk_at "Mn"); (case h1 => walk_at "Mn"); (case h2 => walk_at "Mev"); (case h3 => rfl); (case h4 => walk_at "Mkb"))
  | (refine' ev_len ?h0 ?h1 ?h2 rfl; (case h0 => walk_at "Mn"); (case h1 => walk_at "Mev"); (case h2 => walk_at "Mcv"))
  | (refine' ev_list ?h0 ?h1 ?h2 rfl; (case h0 => walk_at "Mn"); (case h1 => walk_at "Mev"); (case h2 => walk_at "Mcv"))
  | (refine' Ev.cast ?hh ?qq; (case hh => (refine' ev_go ?C ?en ?g ?a ?ha ?hd ?l1 ?hp ?hi rfl rfl rfl; (case C => walk_at "Mn"); (case en => walk_at "Mn"); (case g => walk_at "Mn"); (case ha => walk_at "Mea"); (case hd => rfl); (case l1 => rfl); (case hi => rfl); (case hp => walk_at "Mpre"))); (case qq => rfl))
  | (refine' Ev.cast ?hh ?qq; (case hh => (refine' ev_go ?C ?en ?g (?a, ?b) ?ha ?hd ?l1 ?hp ?hi rfl rfl rfl; (case C => walk_at "Mn"); (case en => walk_at "Mn"); (case g => walk_at "Mn"); (case ha => walk_at "Mea"); (case hd => rfl); (case l1 => rfl); (case hi => rfl); (case hp => walk_at "Mpre"))); (case qq => rfl))
  | (refine' Ev.cast ?hh ?qq; (case hh => (refine' ev_go ?C ?en ?g (?a, ?b, ?c) ?ha ?hd ?l1 ?hp ?hi rfl rfl rfl; (case C => walk_at "Mn"); (case en => walk_at "Mn"); (case g => walk_at "Mn"); (case ha => walk_at "Mea"); (case hd => rfl); (case l1 => rfl); (case hi => rfl); (case hp => walk_at "Mpre"))); (case qq => rfl))
  | (refine' ev_sliceTI ?h1 ?h2 ?h3 ?h4; (case h1 => walk_at "Mev"); (case h2 => walk_at "Mcv"); (case h3 => walk_at "Mev"); (case h4 => walk_at "Mnum"))
  | (refine' ev_sliceDI ?h1 ?h2 ?h3 ?h4; (case h1 => walk_at "Mev"); (case h2 => walk_at "Mcv"); (case h3 => walk_at "Mev"); (case h4 => walk_at "Mnum"))
  | (refine' ev_sliceT ?h1 ?h2 ?h3 ?h4; (case h1 => walk_at "Mev"); (case h2 => walk_at "Mcv"); (case h3 => walk_at "Mev"); (case h4 => walk_at "Mnum"))
  | (refine' ev_sliceD ?h1 ?h2 ?h3 ?h4; (case h1 => walk_at "Mev"); (case h2 => walk_at "Mcv"); (case h3 => walk_at "Mev"); (case h4 => walk_at "Mnum"))
  | (refine' ev_ixL ?h1 ?h2 ?hp ?h3 ?h4 ?h5 ?h6; (case h1 => walk_at "Mev"); (case h2 => walk_at "Mev"); (case hp => first | exact .inl rfl | exact .inr rfl); (case h3 => walk_at "Mcv"); (case h4 => rfl); (case h5 => rfl); (case h6 => exact fun _ _ => rfl))
  | (refine' ev_cj ?h; (case h => walk_at "Mcj"))
  | (refine' ev_isN ?h; (case h => walk_at "Mev"))
  | (refine' ev_notN ?h; (case h => walk_at "Mev"))
  | (refine' ev_lst ?h1 ?h2 ?h3; (case h1 => walk_at "Mea"); (case h2 => rfl); (case h3 => exact Nat.le_of_ble_eq_true rfl))
  | (refine' ev_repB ?h1 ?h2 ?hp ?h3 ?h4; (case h1 => walk_at "Mev"); (case h2 => walk_at "Mev"); (case hp => first | exact .inl rfl | exact .inr rfl); (case h3 => walk_at "Mcv"); (case h4 => first | exact Nat.le_of_ble_eq_true rfl | walk_at "Mlen"))
  | (refine' ev_catA ?h1 ?h2 ?hp ?h4 ?h5; (case h1 => walk_at "Mev"); (case h2 => walk_at "Mev"); (case hp => first | exact .inl rfl | exact .inr rfl); (case h4 => walk_at "Mcv"); (case h5 => walk_at "Mlen"))
  | (refine' ev_cat ?h1 ?h2 ?hp ?h3 ?h4 ?h5; (case h1 => walk_at "Mev"); (case h2 => walk_at "Mev"); (case hp => first | exact .inl rfl | exact .inr rfl); (case h3 => walk_at "Mcv"); (case h4 => walk_at "Mcv"); (case h5 => walk_at "Mlen"))
  )
local macro_rules | `(tactic| walk_at "Mpre") => `(tactic| first | trivial | assumption | (simp only [List.length_map]; omega) | (constructor <;> first | assumption | (simp only [List.length_map]; omega)))
local macro_rules | `(tactic| walk_at "Mcj") => `(tactic| first
  | (refine' cj_lt ?h1 ?h2; (case h1 => walk_at "Mev"); (case h2 => walk_at "Mev"))
  | (refine' cj_le ?h1 ?h2; (case h1 => walk_at "Mev"); (case h2 => walk_at "Mev"))
  | (refine' cj_gt ?h1 ?h2; (case h1 => walk_at "Mev"); (case h2 => walk_at "Mev"))
  | (refine' cj_ge ?h1 ?h2; (case h1 => walk_at "Mev"); (case h2 => walk_at "Mev"))
  | (refine' cj_eqI ?h1 ?h2; (case h1 => walk_at "Mev"); (case h2 => walk_at "Mev"))
  | (refine' cj_neI ?h1 ?h2; (case h1 => walk_at "Mev"); (case h2 => walk_at "Mev"))
  | (refine' cj_eqS ?h1 ?h2; (case h1 => walk_at "Mev"); (case h2 => walk_at "Mev"))
  | (refine' cj_neS ?h1 ?h2; (case h1 => walk_at "Mev"); (case h2 => walk_at "Mev"))
  | (refine' cj_in ?h1 ?h2 ?h3 rfl; (case h1 => walk_at "Mev"); (case h2 => walk_at "Mev"); (case h3 => walk_at "Mcv"))
  | (refine' cj_notIn ?h1 ?h2 ?h3 rfl; (case h1 => walk_at "Mev"); (case h2 => walk_at "Mev"); (case h3 => walk_at "Mcv")))
local macro_rules | `(tactic| walk_at "Mea") => `(tactic| first
  | exact ea_nil
  | (refine' ea_cons ?h1 ?h2 ?pk rfl; (case h1 => walk_at "Mev"); (case h2 => walk_at "Mea"); (case pk => first | exact .inl rfl | exact .inr rfl)))
local macro_rules | `(tactic| walk_at "Mdr") => `(tactic| first | assumption | (simp only [Dr.nx_k] at *; omega))
local macro_rules | `(tactic| walk_at "Mlen") => `(tactic| first | assumption | omega | (simp only [List.length_map, List.length_append, List.length_cons, List.length_nil, List.length_replicate, List.length_range]; omega) | (refine Nat.le_trans (Nat.add_le_add_left len_ite_le _) ?_; simp only [List.length_map, List.length_append, List.length_cons, List.length_nil, List.length_replicate, List.length_range]; omega))
local macro_rules | `(tactic| walk_at "Mwk") => `(tactic| (refine' wk_of ?_; repeat' (first | exact wk_nil | (refine' wk_same ?_) | (refine' wk_d ?_) | (refine' wk_lo ?_) | (refine' wk_eq ?_ ?_))))
local macro_rules | `(tactic| walk_at "Mset") => `(tactic| (refine' sx_set ?n ?e ?h0 ?np ?k ?hs; (case n => walk_at "Mn"); (case e => walk_at "Mev"); (case h0 => rfl); (case np => rfl); (case hs => rfl)))
local macro_rules | `(tactic| walk_at "Msix") => `(tactic| (refine' sx_setIx ?n ?he ?h1 ?hi ?hj ?k ?hs ?hw ?h2 ?ha; (case n => walk_at "Mn"); (case he => walk_at "Mev"); (case h1 => first | exact .inl rfl | exact .inr rfl); (case hi => walk_at "Mev"); (case hj => rfl); (case hs => rfl); (case hw => rfl); (case h2 => rfl); (case ha => exact fun _ => rfl)))
local macro_rules | `(tactic| walk_at "Met") => `(tactic| first
  | (refine' et_not ?h; (case h => walk_at "Met"))
  | (refine' et_w ?h; (case h => walk_at "Mew"))
  | (refine' et_cj ?h; (case h => walk_at "Mcj"))
  | (refine' et_isN ?h; (case h => walk_at "Mev"))
  | (refine' et_notN ?h; (case h => walk_at "Mev"))
  | (refine' et_val ?h ?he; (case h => walk_at "Mev"); (case he => exact fun _ => rfl)))
local macro_rules | `(tactic| walk_at "Mew") => `(tactic| first
  | (refine' ew_and1 ?h; (case h => walk_at "Met"))
  | (refine' ew_or1 ?h; (case h => walk_at "Met"))
  | (refine' ew_and ?h1 ?h2; (case h1 => walk_at "Met"); (case h2 => (intro _; walk_at "Mew")))
  | (refine' ew_or ?h1 ?h2; (case h1 => walk_at "Met"); (case h2 => (intro _; walk_at "Mew"))))
local macro_rules | `(tactic| walk_at "Meta") => `(tactic| (refine' et_as ?t1 ?t2; (case t1 => walk_at "Met")))
local macro_rules | `(tactic| walk_at "Mif") => `(tactic| (refine' sx_if ?t ?a ?b; (case t => walk_at "Met")))
local macro_rules | `(tactic| walk_at "Mret") => `(tactic| (refine' sx_ret ?h ?k; (case h => walk_at "Mev")))
local macro_rules | `(tactic| walk_at "Mpq") => `(tactic| repeat' (first | exact pq_nil | (refine' pq_out rfl ?_) | (refine' pq_skip rfl ?_) | (refine' pq_par ?_ ?_)))
local macro_rules | `(tactic| walk_at "Mrt") => `(tactic| (first | refine' ⟨rr_d ?_, ?_⟩ | refine' ⟨rr_lo ?_, ?_⟩ | refine' ⟨rr_at rfl ?_, ?_⟩); walk_at "Mpq")
local macro_rules | `(tactic| walk_at "Mapp") => `(tactic| (refine' sx_append ?n ?h ?he ?h1 ?hl ?k rfl rfl rfl rfl rfl rfl; (case n => walk_at "Mn"); (case h => first | exact .inl rfl | exact .inr rfl); (case he => walk_at "Mev"); (case h1 => first | exact .inl rfl | exact .inr rfl); (case hl => walk_at "Mlen")))
local macro_rules | `(tactic| walk_at "Mfor") => `(tactic| (refine' sx_forR ?en ?g ?m ?e ?n ?f ?h0 ?hs ?hd rfl (fun _ => rfl); (case en => walk_at "Mn"); (case g => walk_at "Mn"); (case m => walk_at "Mn"); (case e => walk_at "Mev")))
local macro_rules | `(tactic| walk_at "Mwh") => `(tactic| (refine' sx_whileW ?en ?g ?m ?a ?h0 ?I ?i0 ?hs; (case en => walk_at "Mn")))
section
variable {P : Program} {w : World} {K : PySem.W.Frag} {mg : Str → Option Value} {base : Heap} {k : Nat} {f fv : Addr} {fd : FuncData}
abbrev spLawLeft : Sp := spF (α := List Int × List Int) (fun q => q.2.length ≤ 1000) (fun q => [.d (liI q.1), .d (liI q.2)]) (fun _ => []) (fun q => .lo (.own ((leftF gVis q.1 q.2).map D.int)))
theorem b_left {X : Cx} (c : Sc X N_left sc_left) (en : En X k) (b1 : Bi X "list" (.type "list")) (b2 : Bi X "len" (.builtin "len")) {m ws : List Int} (h : ws.length ≤ 1000) :
    SX X (defBody s_left) [.d (liI m), .d (liI ws), .un, .un, .un] (retE [] (.lo (.own ((leftF gVis m ws).map D.int)))) := by
  have l0 := nl_left_0 c
  have m0 := l0.nm
  have l1 := nl_left_1 c
  have m1 := l1.nm
  have l2 := nl_left_2 c
  have m2 := l2.nm
  have l3 := nl_left_3 c
  have m3 := l3.nm
  have l4 := nl_left_4 c
  have m4 := l4.nm
  have g_len := gl_left_len c
  have g_list := gl_left_list c
  walk_at "Mset"
  walk_at "Mset"
  walk_at "Mwh"
  case g => exact fun (q : Nat × List Int × Nat) => [.d (liI m), .d (liI ws), .lo (.own (q.2.1.map D.int)), .d (.int (q.2.2 : Int)), .un]
  case m => exact fun q => q.1
  case a => exact (ws.length, ws, 0)
  case I => exact fun q => q.2.1.length ≤ q.1 + q.2.2 ∧ q.2.1.length ≤ 1000 ∧ lbGo gVis m q.1 q.2.1 q.2.2 = leftF gVis m ws
  case i0 => exact ⟨Nat.le_refl _, h, rfl⟩
  case h0 => walk_at "Mwk"
  case hs =>
    rintro ⟨n, l, p⟩ ⟨i1, i2, i3⟩
    have i1 : l.length ≤ n + p := i1
    have i2 : l.length ≤ 1000 := i2
    have i3 : lbGo gVis m n l p = leftF gVis m ws := i3
    refine' ⟨decide (p < l.length), ?pu, ?ht, fun hk => ?ha, fun hk => ?hb⟩
    case ht =>
      refine' et_as ?t1 ?t2
      case t1 => walk_at "Met"
      case t2 =>
        show decide ((p : Int) < ((l.map D.int).length : Int)) = decide (p < l.length)
        rw [List.length_map]
        exact decide_eq_decide.mpr (by omega)
    case ha =>
      have hp := of_decide_eq_true hk
      have hv : l[p]? = some (l.getD p 0) := by rw [List.getD_eq_getElem?_getD, List.getElem?_eq_getElem hp]; rfl
      obtain ⟨n, rfl⟩ : ∃ n', n = n' + 1 := ⟨n - 1, by omega⟩
      have i4 : lbGo gVis m n (if m.contains (l.getD p 0) = true then gVis l p else l) (p + 1) = leftF gVis m ws := by
        rw [← i3]
        show _ = if p < l.length then _ else l
        rw [if_pos hp]
      refine' sx_set (r := .d (.int (l.getD p 0))) ?n1 ?x1 ?h01 ?np1 ?k1 ?hs1
      case n1 => walk_at "Mn"
      case x1 =>
        refine' ev_ixLI ?f1 ?f2 ?f3 ?f4 ?f5 ?f6 ?f7
        case f1 => walk_at "Mev"
        case f2 => walk_at "Mev"
        case f3 => exact .inl rfl
        case f4 => walk_at "Mcv"
        case f5 => exact Int.natCast_nonneg _
        case f6 => rw [Int.toNat_natCast]; exact hv
        case f7 => exact fun _ _ => rfl
      case h01 => rfl
      case np1 => rfl
      case hs1 => rfl
      walk_at "Mset"
      walk_at "Mif"
      case a =>
        intro hc
        rw [if_pos hc] at i4
        have hl := gVis_len l p hp
        have hp0 : (0 : Int) ≤ (p : Int) + 1 - 1 := by omega
        have hp1 : (0 : Int) ≤ (p : Int) + 1 := by omega
        refine' sx_set ?n2 ?x2 ?h02 ?np2 ?k2 ?hs2
        case n2 => walk_at "Mn"
        case x2 =>
          refine' ev_catI ?y1 ?y2 ?y3 ?y4 ?y5 ?y6
          case y1 =>
            refine' ev_sliceTI ?u1 ?u2 ?u3 ?u4
            case u1 => walk_at "Mev"
            case u2 => walk_at "Mcv"
            case u3 => refine' Ev.tr ?u5 ?u6; (case u5 => walk_at "Mev"); (case u6 => rfl)
            case u4 => exact hp0
          case y2 =>
            refine' ev_sliceDI ?w1 ?w2 ?w3 ?w4
            case w1 => walk_at "Mev"
            case w2 => walk_at "Mcv"
            case w3 => refine' ev_d ?w5 ?w6; (case w5 => walk_at "Mn"); (case w6 => rfl)
            case w4 => exact hp1
          case y3 => exact .inr rfl
          case y4 => walk_at "Mcv"
          case y5 => walk_at "Mcv"
          case y6 =>
            rw [List.length_take, List.length_drop]
            show min _ l.length + (l.length - _) ≤ _
            omega
        case h02 => rfl
        case np2 => rfl
        case hs2 => rfl
        refine sx_nil ?_
        refine sx_nil ⟨(n, gVis l p, p + 1), Nat.lt_succ_self _, ⟨?_, ?_, i4⟩, ?_⟩
        · show (gVis l p).length ≤ n + (p + 1)
          omega
        · show (gVis l p).length ≤ 1000
          omega
        · show Wk _ _
          walk_at "Mwk"
          show SV.lo (L.own _) = SV.lo (L.own _)
          congr 2
          show (l.take ((p : Int) + 1 - 1).toNat ++ l.drop ((p : Int) + 1).toNat).map D.int = (l.eraseIdx p).map D.int
          rw [show ((p : Int) + 1 - 1).toNat = p by omega, show ((p : Int) + 1).toNat = p + 1 by omega, List.eraseIdx_eq_take_drop_succ]
      case b =>
        intro hc
        rw [if_neg (by rw [hc]; decide)] at i4
        refine sx_nil ?_
        refine sx_nil ⟨(n, l, p + 1), Nat.lt_succ_self _, ⟨?_, i2, i4⟩, ?_⟩
        · show l.length ≤ n + (p + 1)
          omega
        · show Wk _ _
          walk_at "Mwk"
    case hb =>
      have hp := of_decide_eq_false hk
      walk_at "Mret"
      walk_at "Mrt"
      have e : l = leftF gVis m ws := by
        rw [← i3]
        cases n with
        | zero => rfl
        | succ n => exact (if_neg hp).symm
      rw [← e]
theorem ok_left (F : F_left K f fd) (m1 : mg "list" = none) (m2 : mg "len" = none) : FnG P w K mg base CX0 (k + 1) f fd P_left spLawLeft :=
  fn_sx F fs_left (fun _ => rfl) fun cdv A outer s H E q hg hr hp => by
    have c : Sc (cxOf CX0 P w K mg base N_left "_law_left" sc_left f cdv A outer s H E) N_left sc_left := ⟨rfl, rfl, fun _ => rfl⟩
    exact b_left c (en_of hg hr) (c.bi rfl m1) (c.bi rfl m2) hp
theorem cl_left (F : F_left K f fd) (ok : FnG P w K mg base CX0 k f fd P_left spLawLeft) (hm : mg "_law_left" = some (.ref f)) : Cl P w K mg base k "_law_left" 2 [] idV spLawLeft :=
  cl_of F ok hm fun _ _ _ _ _ _ us hl => match us, hl with | [_, _], _ => rfl
end
end Lw

set_option Elab.async false
set_option linter.all false
set_option maxRecDepth 100000
set_option maxHeartbeats 4000000
namespace Lw
open PySem PySem.Spec PyProof.Rows L2 Mw
local macro_rules | `(tactic| walk_at "Mkb") => `(tactic| first | exact kb_NoneType_int | exact kb_NoneType_bool | exact kb_NoneType_list | exact kb_NoneType_str | exact kb_NoneType_dict | exact kb_NoneType_tuple | exact kb_bool_int | exact kb_bool_bool | exact kb_bool_list | exact kb_bool_str | exact kb_bool_dict | exact kb_bool_tuple | exact kb_int_int | exact kb_int_bool | exact kb_int_list | exact kb_int_str | exact kb_int_dict | exact kb_int_tuple | exact kb_str_int | exact kb_str_bool | exact kb_str_list | exact kb_str_str | exact kb_str_dict | exact kb_str_tuple | exact kb_list_int | exact kb_list_bool | exact kb_list_list | exact kb_list_str | exact kb_list_dict | exact kb_list_tuple | exact kb_tuple_int | exact kb_tuple_bool | exact kb_tuple_list | exact kb_tuple_str | exact kb_tuple_dict | exact kb_tuple_tuple | exact kb_dict_int | exact kb_dict_bool | exact kb_dict_list | exact kb_dict_str | exact kb_dict_dict | exact kb_dict_tuple)
local macro_rules | `(tactic| walk_at "Mn") => `(tactic| with_reducible assumption)
local macro_rules | `(tactic| walk_at "Mnum") => `(tactic| first | assumption | decide | omega | (constructor <;> first | assumption | decide | omega))
local macro_rules | `(tactic| walk_at "Mcv") => `(tactic| first | exact cv_d | exact cv_own | exact cv_at | exact Cv.refl)
local macro_rules | `(tactic| walk_at "Mev") => `(tactic| first
  | exact ev_int | exact ev_bl | exact ev_non | exact ev_str
  | (refine' ev_d ?hn ?hs; (case hn => walk_at "Mn"); (case hs => rfl))
  | (refine' ev_at ?hn ?hs; (case hn => walk_at "Mn"); (case hs => first | exact .inl rfl | exact .inr rfl))
  | (refine' ev_lo ?hn ?hs; (case hn => walk_at "Mn"); (case hs => rfl))
  | (refine' ev_add ?h1 ?h2; (case h1 => walk_at "Mev"); (case h2 => walk_at "Mev"))
  | (refine' ev_sub ?h1 ?h2; (case h1 => walk_at "Mev"); (case h2 => walk_at "Mev"))
  | (refine' ev_pow ?h1 ?h2 ?h3; (case h1 => walk_at "Mev"); (case h2 => walk_at "Mev"); (case h3 => walk_at "Mnum"))
  | (refine' ev_mod ?h1 ?h2 ?h3; (case h1 => walk_at "Mev"); (case h2 => walk_at "Mev"); (case h3 => walk_at "Mnum"))
  | (refine' ev_fdiv ?h1 ?h2 ?h3; (case h1 => walk_at "Mev"); (case h2 => walk_at "Mev"); (case h3 => walk_at "Mnum"))
  | (refine' ev_mul ?h1 ?h2 ?h3; (case h1 => walk_at "Mev"); (case h2 => walk_at "Mev"); (case h3 => first | assumption | (left; constructor <;> walk_at "Mnum") | (right; constructor <;> walk_at "Mnum")))
  | (refine' ev_intI ?h0 ?h1 rfl; (case h0 => walk_at "Mn"); (case h1 => walk_at "Mev"))
  | (refine' ev_intB ?h0 ?h1 rfl; (case h0 => walk_at "Mn"); (case h1 => walk_at "Mev"))
  | (refine' ev_next ?C ?en ?g ?m ?h ?b; (case C => walk_at "Mn"); (case en => walk_at "Mn"); (case g => walk_at "Mn"); (case m => walk_at "Mn"); (case h => first | exact .inr rfl | exact .inl rfl); (case b => walk_at "Mdr"))
  | (refine' ev_pick ?h1 ?h2 ?hp ?h3 ?h6; (case h1 => walk_at "Mev"); (case h2 => walk_at "Mev"); (case hp => first | exact .inl rfl | exact .inr rfl); (case h3 => walk_at "Mcv"); (case h6 => exact fun _ _ => rfl))
  | (refine' ev_globF ?g ?m rfl; (case g => walk_at "Mn"); (case m => walk_at "Mn"))
  | (refine' ev_globI ?g ?m rfl; (case g => walk_at "Mn"); (case m => walk_at "Mn"))
  | (refine' ev_isi ?h0 ?h1 ?h2 ?h3 ?h4 rfl rfl rfl; (case h0 => walk_at "Mn"); (case h1 => walk_at "Mn"); (case h2 => walk_at "Mev"); (case h3 => rfl); (case h4 => walk_at "Mkb"))
  | (refine' ev_len ?h0 ?h1 ?h2 rfl; (case h0 => walk_at "Mn"); (case h1 => walk_at "Mev"); (case h2 => walk_at "Mcv"))
  | (refine' ev_list ?h0 ?h1 ?h2 rfl; (case h0 => walk_at "Mn"); (case h1 => walk_at "Mev"); (case h2 => walk_at "Mcv"))
  | (refine' Ev.cast ?hh ?qq; (case hh => (refine' ev_go ?C ?en ?g ?a ?ha ?hd ?l1 ?hp ?hi rfl rfl rfl; (case C => walk_at "Mn"); (case en => walk_at "Mn"); (case g => walk_at "Mn"); (case ha => walk_at "Mea"); (case hd => rfl); (case l1 => rfl); (case hi => rfl); (case hp => walk_at "Mpre"))); (case qq => rfl))
  | (refine' Ev.cast ?hh ?qq; (case hh => (refine' ev_go ?C ?en ?g (?a, ?b) ?ha ?hd ?l1 ?hp ?hi rfl rfl rfl; (case C => walk_at "Mn"); (case en => walk_at "Mn"); (case g => walk_at "Mn"); (case ha => walk_at "Mea"); (case hd => rfl); (case l1 => rfl); (case hi => rfl); (case hp => walk_at "Mpre"))); (case qq => rfl))
  | (refine' Ev.cast ?hh ?qq; (case hh => (refine' ev_go ?C ?en ?g (?a, ?b, ?c) ?ha ?hd ?l1 ?hp ?hi rfl rfl rfl; (case C => walk_at "Mn"); (case en => walk_at "Mn"); (case g => walk_at "Mn"); (case ha => walk_at "Mea"); (case hd => rfl); (case l1 => rfl); (case hi => rfl); (case hp => walk_at "Mpre"))); (case qq => rfl))
  | (refine' ev_sliceTI ?h1 ?h2 ?h3 ?h4; (case h1 => walk_at "Mev"); (case h2 => walk_at "Mcv"); (case h3 => walk_at "Mev"); (case h4 => walk_at "Mnum"))
  | (refine' ev_sliceDI ?h1 ?h2 ?h3 ?h4; (case h1 => walk_at "Mev"); (case h2 => walk_at "Mcv"); (case h3 => walk_at "Mev"); (case h4 => walk_at "Mnum"))
  | (refine' ev_sliceT ?h1 ?h2 ?h3 ?h4; (case h1 => walk_at "Mev"); (case h2 => walk_at "Mcv"); (case h3 => walk_at "Mev"); (case h4 => walk_at "Mnum"))
  | (refine' ev_sliceD ?h1 ?h2 ?h3 ?h4; (case h1 => walk_at "Mev"); (case h2 => walk_at "Mcv"); (case h3 => walk_at "Mev"); (case h4 => walk_at "Mnum"))
  | (refine' ev_ixL ?h1 ?h2 ?hp ?h3 ?h4 ?h5 ?h6; (case h1 => walk_at "Mev"); (case h2 => walk_at "Mev"); (case hp => first | exact .inl rfl | exact .inr rfl); (case h3 => walk_at "Mcv"); (case h4 => rfl); (case h5 => rfl); (case h6 => exact fun _ _ => rfl))
  | (refine' ev_cj ?h; (case h => walk_at "Mcj"))
  | (refine' ev_isN ?h; (case h => walk_at "Mev"))
  | (refine' ev_notN ?h; (case h => walk_at "Mev"))
  | (refine' ev_lst ?h1 ?h2 ?h3; (case h1 => walk_at "Mea"); (case h2 => rfl); (case h3 => exact Nat.le_of_ble_eq_true rfl))
  | (refine' ev_repB ?h1 ?h2 ?hp ?h3 ?h4; (case h1 => walk_at "Mev"); (case h2 => walk_at "Mev"); (case hp => first | exact .inl rfl | exact .inr rfl); (case h3 => walk_at "Mcv"); (case h4 => first | exact Nat.le_of_ble_eq_true rfl | walk_at "Mlen"))
  | (refine' ev_catA ?h1 ?h2 ?hp ?h4 ?h5; (case h1 => walk_at "Mev"); (case h2 => walk_at "Mev"); (case hp => first | exact .inl rfl | exact .inr rfl); (case h4 => walk_at "Mcv"); (case h5 => walk_at "Mlen"))
  | (refine' ev_cat ?h1 ?h2 ?hp ?h3 ?h4 ?h5; (case h1 => walk_at "Mev"); (case h2 => walk_at "Mev"); (case hp => first | exact .inl rfl | exact .inr rfl); (case h3 => walk_at "Mcv"); (case h4 => walk_at "Mcv"); (case h5 => walk_at "Mlen"))
  )
local macro_rules | `(tactic| walk_at "Mpre") => `(tactic| first | trivial | assumption | (simp only [List.length_map]; omega) | (constructor <;> first | assumption | (simp only [List.length_map]; omega)))
local macro_rules | `(tactic| walk_at "Mcj") => `(tactic| first
  | (refine' cj_lt ?h1 ?h2; (case h1 => walk_at "Mev"); (case h2 => walk_at "Mev"))
  | (refine' cj_le ?h1 ?h2; (case h1 => walk_at "Mev"); (case h2 => walk_at "Mev"))
  | (refine' cj_gt ?h1 ?h2; (case h1 => walk_at "Mev"); (case h2 => walk_at "Mev"))
  | (refine' cj_ge ?h1 ?h2; (case h1 => walk_at "Mev"); (case h2 => walk_at "Mev"))
  | (refine' cj_eqI ?h1 ?h2; (case h1 => walk_at "Mev"); (case h2 => walk_at "Mev"))
  | (refine' cj_neI ?h1 ?h2; (case h1 => walk_at "Mev"); (case h2 => walk_at "Mev"))
  | (refine' cj_eqS ?h1 ?h2; (case h1 => walk_at "Mev"); (case h2 => walk_at "Mev"))
  | (refine' cj_neS ?h1 ?h2; (case h1 => walk_at "Mev"); (case h2 => walk_at "Mev"))
  | (refine' cj_in ?h1 ?h2 ?h3 rfl; (case h1 => walk_at "Mev"); (case h2 => walk_at "Mev"); (case h3 => walk_at "Mcv"))
  | (refine' cj_notIn ?h1 ?h2 ?h3 rfl; (case h1 => walk_at "Mev"); (case h2 => walk_at "Mev"); (case h3 => walk_at "Mcv")))
local macro_rules | `(tactic| walk_at "Mea") => `(tactic| first
  | exact ea_nil
  | (refine' ea_cons ?h1 ?h2 ?pk rfl; (case h1 => walk_at "Mev"); (case h2 => walk_at "Mea"); (case pk => first | exact .inl rfl | exact .inr rfl)))
local macro_rules | `(tactic| walk_at "Mdr") => `(tactic| first | assumption | (simp only [Dr.nx_k] at *; omega))
local macro_rules | `(tactic| walk_at "Mlen") => `(tactic| first | assumption | omega | (simp only [List.length_map, List.length_append, List.length_cons, List.length_nil, List.length_replicate, List.length_range]; omega) | (refine Nat.le_trans (Nat.add_le_add_left len_ite_le _) ?_; simp only [List.length_map, List.length_append, List.length_cons, List.length_nil, List.length_replicate, List.length_range]; omega))
local macro_rules | `(tactic| walk_at "Mwk") => `(tactic| (refine' wk_of ?_; repeat' (first | exact wk_nil | (refine' wk_same ?_) | (refine' wk_d ?_) | (refine' wk_lo ?_) | (refine' wk_eq ?_ ?_))))
local macro_rules | `(tactic| walk_at "Mset") => `(tactic| (refine' sx_set ?n ?e ?h0 ?np ?k ?hs; (case n => walk_at "Mn"); (case e => walk_at "Mev"); (case h0 => rfl); (case np => rfl); (case hs => rfl)))
local macro_rules | `(tactic| walk_at "Msix") => `(tactic| (refine' sx_setIx ?n ?he ?h1 ?hi ?hj ?k ?hs ?hw ?h2 ?ha; (case n => walk_at "Mn"); (case he => walk_at "Mev"); (case h1 => first | exact .inl rfl | exact .inr rfl); (case hi => walk_at "Mev"); (case hj => rfl); (case hs => rfl); (case hw => rfl); (case h2 => rfl); (case ha => exact fun _ => rfl)))
local macro_rules | `(tactic| walk_at "Met") => `(tactic| first
  | (refine' et_not ?h; (case h => walk_at "Met"))
  | (refine' et_w ?h; (case h => walk_at "Mew"))
  | (refine' et_cj ?h; (case h => walk_at "Mcj"))
  | (refine' et_isN ?h; (case h => walk_at "Mev"))
  | (refine' et_notN ?h; (case h => walk_at "Mev"))
  | (refine' et_val ?h ?he; (case h => walk_at "Mev"); (case he => exact fun _ => rfl)))
local macro_rules | `(tactic| walk_at "Mew") => `(tactic| first
  | (refine' ew_and1 ?h; (case h => walk_at "Met"))
  | (refine' ew_or1 ?h; (case h => walk_at "Met"))
  | (refine' ew_and ?h1 ?h2; (case h1 => walk_at "Met"); (case h2 => (intro _; walk_at "Mew")))
  | (refine' ew_or ?h1 ?h2; (case h1 => walk_at "Met"); (case h2 => (intro _; walk_at "Mew"))))
local macro_rules | `(tactic| walk_at "Meta") => `(tactic| (refine' et_as ?t1 ?t2; (case t1 => walk_at "Met")))
local macro_rules | `(tactic| walk_at "Mif") => `(tactic| (refine' sx_if ?t ?a ?b; (case t => walk_at "Met")))
local macro_rules | `(tactic| walk_at "Mret") => `(tactic| (refine' sx_ret ?h ?k; (case h => walk_at "Mev")))
local macro_rules | `(tactic| walk_at "Mpq") => `(tactic| repeat' (first | exact pq_nil | (refine' pq_out rfl ?_) | (refine' pq_skip rfl ?_) | (refine' pq_par ?_ ?_)))
local macro_rules | `(tactic| walk_at "Mrt") => `(tactic| (first | refine' ⟨rr_d ?_, ?_⟩ | refine' ⟨rr_lo ?_, ?_⟩ | refine' ⟨rr_at rfl ?_, ?_⟩); walk_at "Mpq")
local macro_rules | `(tactic| walk_at "Mapp") => `(tactic| (refine' sx_append ?n ?h ?he ?h1 ?hl ?k rfl rfl rfl rfl rfl rfl; (case n => walk_at "Mn"); (case h => first | exact .inl rfl | exact .inr rfl); (case he => walk_at "Mev"); (case h1 => first | exact .inl rfl | exact .inr rfl); (case hl => walk_at "Mlen")))
local macro_rules | `(tactic| walk_at "Mfor") => `(tactic| (refine' sx_forR ?en ?g ?m ?e ?n ?f ?h0 ?hs ?hd rfl (fun _ => rfl); (case en => walk_at "Mn"); (case g => walk_at "Mn"); (case m => walk_at "Mn"); (case e => walk_at "Mev")))
local macro_rules | `(tactic| walk_at "Mwh") => `(tactic| (refine' sx_whileW ?en ?g ?m ?a ?h0 ?I ?i0 ?hs; (case en => walk_at "Mn")))
section
variable {P : Program} {w : World} {K : PySem.W.Frag} {mg : Str → Option Value} {base : Heap} {k : Nat} {f fv : Addr} {fd : FuncData}
abbrev encR (q : Int × Int) : D := .tup [.int q.1, .int q.2]
def rnS (m : List Int) (x : List (Int × Int) × Int) (p v : Int) : List (Int × Int) × Int := if m.contains v = true then (x.1, x.2 + 1) else if 0 < x.2 then (x.1 ++ [(p - x.2, x.2)], 0) else x
def rnAt (m ns : List Int) : Nat → List (Int × Int) × Int
  | 0 => ([], 0)
  | i + 1 => rnS m (rnAt m ns i) i (ns.getD i 0)
def runsF (m ns : List Int) : List (Int × Int) := let x := rnAt m ns ns.length; if 0 < x.2 then x.1 ++ [((ns.length : Int) - x.2, x.2)] else x.1
theorem rn_len (m ns : List Int) : ∀ i, (rnAt m ns i).1.length ≤ i
  | 0 => Nat.le_refl _
  | i + 1 => by
    have h := rn_len m ns i
    show (rnS m (rnAt m ns i) i (ns.getD i 0)).1.length ≤ i + 1
    unfold rnS
    split
    · exact Nat.le_succ_of_le h
    · split
      · rw [List.length_append, List.length_singleton]
        omega
      · exact Nat.le_succ_of_le h
abbrev spRuns : Sp := spF (α := List Int × List Int) (fun q => MkOk q.1 ∧ (q.2.length : Int) ≤ 120) (fun q => [.d (liI q.1), .d (liI q.2)]) (fun _ => []) (fun q => .lo (.own ((runsF q.1 q.2).map encR)))
theorem b_runs {X : Cx} (c : Sc X N_runs sc_runs) (en : En X k) (C1 : ClX X k "check_both" 2 [] idV spBoth) (b1 : Bi X "len" (.builtin "len")) (me : X.mg "enumerate" = none) {ms ns : List Int} (h1 : MkOk ms) (h2 : (ns.length : Int) ≤ 120) :
    SX X (defBody s_runs) [.d (liI ms), .d (liI ns), .un, .un, .un, .un] (retE [] (.lo (.own ((runsF ms ns).map encR)))) := by
  have l0 := nl_runs_0 c
  have m0 := l0.nm
  have l1 := nl_runs_1 c
  have m1 := l1.nm
  have l2 := nl_runs_2 c
  have m2 := l2.nm
  have l3 := nl_runs_3 c
  have m3 := l3.nm
  have l4 := nl_runs_4 c
  have m4 := l4.nm
  have l5 := nl_runs_5 c
  have m5 := l5.nm
  have g_check_both := gl_runs_check_both c
  have g_enumerate := gl_runs_enumerate c
  have g_len := gl_runs_len c
  refine' sx_expr ?a ?b rfl
  case a => walk_at "Mev"
  walk_at "Mset"
  walk_at "Mset"
  refine' sx_forW en (items := (ns.map D.int).zipIdx.map fun q => .tup [.int (q.2 : Int), q.1]) ?hi (fun i => [.d (liI ms), .d (liI ns), .lo (.own ((rnAt ms ns i).1.map encR)), .d (.int (rnAt ms ns i).2), .un, .un]) ?h0 ?hs ?hd (fun _ => rfl)
  case hi =>
    refine' ei_enum ?g me ?e rfl
    case g => walk_at "Mn"
    case e => walk_at "Mev"
  case h0 => walk_at "Mwk"
  case hd =>
    rw [List.length_map, List.length_zipIdx, List.length_map]
    have hl := rn_len ms ns ns.length
    unfold runsF
    generalize rnAt ms ns ns.length = x at *
    walk_at "Mif"
    case a =>
      intro hc
      have hc := of_decide_eq_true hc
      refine' sx_append (d := encR ((ns.length : Int) - x.2, x.2)) ?n1 ?h1 ?he1 ?h11 ?hl1 ?k1 rfl rfl rfl rfl rfl rfl
      case n1 => walk_at "Mn"
      case h1 => first | exact .inl rfl | exact .inr rfl
      case he1 =>
        refine' Ev.cast ?y1 ?y2
        case y1 =>
          refine' ev_tup ?t1 ?t2 ?t3
          case t1 => walk_at "Mea"
          case t2 => rfl
          case t3 => exact Nat.le_of_ble_eq_true rfl
        case y2 =>
          show Rs.d (D.tup [D.int (((ns.map D.int).length : Int) - x.2), D.int x.2]) = _
          rw [List.length_map]
      case h11 => first | exact .inl rfl | exact .inr rfl
      case hl1 => rw [List.length_map]; omega
      refine sx_nil ?_
      walk_at "Mret"
      walk_at "Mrt"
      rw [if_pos hc, List.map_append]
      rfl
    case b =>
      intro hc
      have hc := of_decide_eq_false hc
      refine sx_nil ?_
      walk_at "Mret"
      walk_at "Mrt"
      rw [if_neg hc]
  case hs =>
    intro i d e
    rw [List.getElem?_map, List.getElem?_zipIdx, List.getElem?_map] at e
    cases hv : ns[i]? with
    | none =>
      rw [hv] at e
      cases e
    | some v =>
      rw [hv] at e
      cases e
      have hi : i < ns.length := (List.getElem?_eq_some_iff.mp hv).1
      have hl := rn_len ms ns i
      have eS : rnAt ms ns (i + 1) = rnS ms (rnAt ms ns i) i v := by
        show rnS ms (rnAt ms ns i) i (ns.getD i 0) = _
        rw [List.getD_eq_getElem?_getD, hv]
        rfl
      rw [eS]
      generalize rnAt ms ns i = x at *
      refine ⟨_, tg_tup en.calm (tgs_cons (tg_name l4 rfl rfl) (tgs_cons (tg_name l5 rfl rfl) tgs_nil rfl) rfl) rfl rfl, ?_⟩
      rw [Nat.zero_add]
      refine' sx_if (k := ms.contains v) ?t ?ha ?hb
      case t => walk_at "Met"
      case ha =>
        intro hc
        refine' sx_aug (f := fun i j => i + j) (m := x.2) (n := 1) l3 ?g1 ip_add ?g2 ?g3 ?g4 ?g5
        case g1 => rfl
        case g2 => walk_at "Mev"
        case g3 => rfl
        case g4 => rfl
        case g5 =>
          refine sx_nil ?_
          refine sx_nil ?_
          show Wk _ _
          unfold rnS
          rw [if_pos hc]
          walk_at "Mwk"
      case hb =>
        intro hc
        refine' sx_if (k := decide (0 < x.2)) ?t1 ?ha1 ?hb1
        case t1 => walk_at "Met"
        case ha1 =>
          intro hc2
          have hc2 := of_decide_eq_true hc2
          refine' sx_append (d := encR ((i : Int) - x.2, x.2)) ?n2 ?h3 ?he2 ?h12 ?hl2 ?k2 rfl rfl rfl rfl rfl rfl
          case n2 => walk_at "Mn"
          case h3 => first | exact .inl rfl | exact .inr rfl
          case he2 =>
            refine' Ev.cast ?y3 ?y4
            case y3 =>
              refine' ev_tup ?t4 ?t5 ?t6
              case t4 => walk_at "Mea"
              case t5 => rfl
              case t6 => exact Nat.le_of_ble_eq_true rfl
            case y4 => rfl
          case h12 => first | exact .inl rfl | exact .inr rfl
          case hl2 => rw [List.length_map]; omega
          walk_at "Mset"
          refine sx_nil ?_
          refine sx_nil ?_
          refine sx_nil ?_
          show Wk _ _
          unfold rnS
          rw [if_neg (by rw [hc]; decide), if_pos hc2]
          walk_at "Mwk"
          show SV.lo (L.own _) = SV.lo (L.own _)
          congr 2
          rw [List.map_append]
          rfl
        case hb1 =>
          intro hc2
          have hc2 := of_decide_eq_false hc2
          refine sx_nil ?_
          refine sx_nil ?_
          refine sx_nil ?_
          show Wk _ _
          unfold rnS
          rw [if_neg (by rw [hc]; decide), if_neg hc2]
          walk_at "Mwk"
theorem ok_runs (F : F_runs K f fd) (C1 : Cl P w K mg base k "check_both" 2 [] idV spBoth) (m1 : mg "len" = none) (m2 : mg "enumerate" = none) : FnG P w K mg base CX0 (k + 1) f fd P_runs spRuns :=
  fn_sx F fs_runs (fun _ => rfl) fun cdv A outer s H E q hg hr hp => by
    have c : Sc (cxOf CX0 P w K mg base N_runs "runs" sc_runs f cdv A outer s H E) N_runs sc_runs := ⟨rfl, rfl, fun _ => rfl⟩
    exact b_runs c (en_of hg hr) C1 (c.bi rfl m1) m2 hp.1 hp.2
theorem cl_runs (F : F_runs K f fd) (ok : FnG P w K mg base CX0 k f fd P_runs spRuns) (hm : mg "runs" = some (.ref f)) : Cl P w K mg base k "runs" 2 [] idV spRuns :=
  cl_of F ok hm fun _ _ _ _ _ _ us hl => match us, hl with | [_, _], _ => rfl
end
end Lw

set_option Elab.async false
set_option linter.all false
set_option maxRecDepth 100000
set_option maxHeartbeats 4000000
namespace Lw
open PySem PySem.Spec PyProof.Rows L2 Mw
local macro_rules | `(tactic| walk_at "Mkb") => `(tactic| first | exact kb_NoneType_int | exact kb_NoneType_bool | exact kb_NoneType_list | exact kb_NoneType_str | exact kb_NoneType_dict | exact kb_NoneType_tuple | exact kb_bool_int | exact kb_bool_bool | exact kb_bool_list | exact kb_bool_str | exact kb_bool_dict | exact kb_bool_tuple | exact kb_int_int | exact kb_int_bool | exact kb_int_list | exact kb_int_str | exact kb_int_dict | exact kb_int_tuple | exact kb_str_int | exact kb_str_bool | exact kb_str_list | exact kb_str_str | exact kb_str_dict | exact kb_str_tuple | exact kb_list_int | exact kb_list_bool | exact kb_list_list | exact kb_list_str | exact kb_list_dict | exact kb_list_tuple | exact kb_tuple_int | exact kb_tuple_bool | exact kb_tuple_list | exact kb_tuple_str | exact kb_tuple_dict | exact kb_tuple_tuple | exact kb_dict_int | exact kb_dict_bool | exact kb_dict_list | exact kb_dict_str | exact kb_dict_dict | exact kb_dict_tuple)
local macro_rules | `(tactic| walk_at "Mn") => `(tactic| with_reducible assumption)
local macro_rules | `(tactic| walk_at "Mnum") => `(tactic| first | assumption | decide | omega | (constructor <;> first | assumption | decide | omega))
local macro_rules | `(tactic| walk_at "Mcv") => `(tactic| first | exact cv_d | exact cv_own | exact cv_at | exact Cv.refl)
local macro_rules | `(tactic| walk_at "Mev") => `(tactic| first
  | exact ev_int | exact ev_bl | exact ev_non | exact ev_str
  | (refine' ev_d ?hn ?hs; (case hn => walk_at "Mn"); (case hs => rfl))
  | (refine' ev_at ?hn ?hs; (case hn => walk_at "Mn"); (case hs => first | exact .inl rfl | exact .inr rfl))
  | (refine' ev_lo ?hn ?hs; (case hn => walk_at "Mn"); (case hs => rfl))
  | (refine' ev_add ?h1 ?h2; (case h1 => walk_at "Mev"); (case h2 => walk_at "Mev"))
  | (refine' ev_sub ?h1 ?h2; (case h1 => walk_at "Mev"); (case h2 => walk_at "Mev"))
  | (refine' ev_pow ?h1 ?h2 ?h3; (case h1 => walk_at "Mev"); (case h2 => walk_at "Mev"); (case h3 => walk_at "Mnum"))
  | (refine' ev_mod ?h1 ?h2 ?h3; (case h1 => walk_at "Mev"); (case h2 => walk_at "Mev"); (case h3 => walk_at "Mnum"))
  | (refine' ev_fdiv ?h1 ?h2 ?h3; (case h1 => walk_at "Mev"); (case h2 => walk_at "Mev"); (case h3 => walk_at "Mnum"))
  | (refine' ev_mul ?h1 ?h2 ?h3; (case h1 => walk_at "Mev"); (case h2 => walk_at "Mev"); (case h3 => first | assumption | (left; constructor <;> walk_at "Mnum") | (right; constructor <;> walk_at "Mnum")))
  | (refine' ev_intI ?h0 ?h1 rfl; (case h0 => walk_at "Mn"); (case h1 => walk_at "Mev"))
  | (refine' ev_intB ?h0 ?h1 rfl; (case h0 => walk_at "Mn"); (case h1 => walk_at "Mev"))
  | (refine' ev_next ?C ?en ?g ?m ?h ?b; (case C => walk_at "Mn"); (case en => walk_at "Mn"); (case g => walk_at "Mn"); (case m => walk_at "Mn"); (case h => first | exact .inr rfl | exact .inl rfl); (case b => walk_at "Mdr"))
  | (refine' ev_pick ?h1 ?h2 ?hp ?h3 ?h6; (case h1 => walk_at "Mev"); (case h2 => walk_at "Mev"); (case hp => first | exact .inl rfl | exact .inr rfl); (case h3 => walk_at "Mcv"); (case h6 => exact fun _ _ => rfl))
  | (refine' ev_globF ?g ?m rfl; (case g => walk_at "Mn"); (case m => walk_at "Mn"))
  | (refine' ev_globI ?g ?m rfl; (case g => walk_at "Mn"); (case m => walk_at "Mn"))
  | (refine' ev_isi ?h0 ?h1 ?h2 ?h3 ?h4 rfl rfl rfl; (case h0 => walk_at "Mn"); (case h1 => walk_at "Mn"); (case h2 => walk_at "Mev"); (case h3 => rfl); (case h4 => walk_at "Mkb"))
  | (refine' ev_len ?h0 ?h1 ?h2 rfl; (case h0 => walk_at "Mn"); (case h1 => walk_at "Mev"); (case h2 => walk_at "Mcv"))
  | (refine' ev_list ?h0 ?h1 ?h2 rfl; (case h0 => walk_at "Mn"); (case h1 => walk_at "Mev"); (case h2 => walk_at "Mcv"))
  | (refine' Ev.cast ?hh ?qq; (case hh => (refine' ev_go ?C ?en ?g ?a ?ha ?hd ?l1 ?hp ?hi rfl rfl rfl; (case C => walk_at "Mn"); (case en => walk_at "Mn"); (case g => walk_at "Mn"); (case ha => walk_at "Mea"); (case hd => rfl); (case l1 => rfl); (case hi => rfl); (case hp => walk_at "Mpre"))); (case qq => rfl))
  | (refine' Ev.cast ?hh ?qq; (case hh => (refine' ev_go ?C ?en ?g (?a, ?b) ?ha ?hd ?l1 ?hp ?hi rfl rfl rfl; (case C => walk_at "Mn"); (case en => walk_at "Mn"); (case g => walk_at "Mn"); (case ha => walk_at "Mea"); (case hd => rfl); (case l1 => rfl); (case hi => rfl); (case hp => walk_at "Mpre"))); (case qq => rfl))
  | (refine' Ev.cast ?hh ?qq; (case hh => (refine' ev_go ?C ?en ?g (?a, ?b, ?c) ?ha ?hd ?l1 ?hp ?hi rfl rfl rfl; (case C => walk_at "Mn"); (case en => walk_at "Mn"); (case g => walk_at "Mn"); (case ha => walk_at "Mea"); (case hd => rfl); (case l1 => rfl); (case hi => rfl); (case hp => walk_at "Mpre"))); (case qq => rfl))
  | (refine' ev_sliceTI ?h1 ?h2 ?h3 ?h4; (case h1 => walk_at "Mev"); (case h2 => walk_at "Mcv"); (case h3 => walk_at "Mev"); (case h4 => walk_at "Mnum"))
  | (refine' ev_sliceDI ?h1 ?h2 ?h3 ?h4; (case h1 => walk_at "Mev"); (case h2 => walk_at "Mcv"); (case h3 => walk_at "Mev"); (case h4 => walk_at "Mnum"))
  | (refine' ev_sliceT ?h1 ?h2 ?h3 ?h4; (case h1 => walk_at "Mev"); (case h2 => walk_at "Mcv"); (case h3 => walk_at "Mev"); (case h4 => walk_at "Mnum"))
  | (refine' ev_sliceD ?h1 ?h2 ?h3 ?h4; (case h1 => walk_at "Mev"); (case h2 => walk_at "Mcv"); (case h3 => walk_at "Mev"); (case h4 => walk_at "Mnum"))
  | (refine' ev_ixL ?h1 ?h2 ?hp ?h3 ?h4 ?h5 ?h6; (case h1 => walk_at "Mev"); (case h2 => walk_at "Mev"); (case hp => first | exact .inl rfl | exact .inr rfl); (case h3 => walk_at "Mcv"); (case h4 => rfl); (case h5 => rfl); (case h6 => exact fun _ _ => rfl))
  | (refine' ev_cj ?h; (case h => walk_at "Mcj"))
  | (refine' ev_isN ?h; (case h => walk_at "Mev"))
  | (refine' ev_notN ?h; (case h => walk_at "Mev"))
  | (refine' ev_lst ?h1 ?h2 ?h3; (case h1 => walk_at "Mea"); (case h2 => rfl); (case h3 => exact Nat.le_of_ble_eq_true rfl))
  | (refine' ev_repB ?h1 ?h2 ?hp ?h3 ?h4; (case h1 => walk_at "Mev"); (case h2 => walk_at "Mev"); (case hp => first | exact .inl rfl | exact .inr rfl); (case h3 => walk_at "Mcv"); (case h4 => first | exact Nat.le_of_ble_eq_true rfl | walk_at "Mlen"))
  | (refine' ev_catA ?h1 ?h2 ?hp ?h4 ?h5; (case h1 => walk_at "Mev"); (case h2 => walk_at "Mev"); (case hp => first | exact .inl rfl | exact .inr rfl); (case h4 => walk_at "Mcv"); (case h5 => walk_at "Mlen"))
  | (refine' ev_cat ?h1 ?h2 ?hp ?h3 ?h4 ?h5; (case h1 => walk_at "Mev"); (case h2 => walk_at "Mev"); (case hp => first | exact .inl rfl | exact .inr rfl); (case h3 => walk_at "Mcv"); (case h4 => walk_at "Mcv"); (case h5 => walk_at "Mlen"))
  )
local macro_rules | `(tactic| walk_at "Mpre") => `(tactic| first | trivial | assumption | (simp only [List.length_map]; omega) | (constructor <;> first | assumption | (simp only [List.length_map]; omega)))
local macro_rules | `(tactic| walk_at "Mcj") => `(tactic| first
  | (refine' cj_lt ?h1 ?h2; (case h1 => walk_at "Mev"); (case h2 => walk_at "Mev"))
  | (refine' cj_le ?h1 ?h2; (case h1 => walk_at "Mev"); (case h2 => walk_at "Mev"))
  | (refine' cj_gt ?h1 ?h2; (case h1 => walk_at "Mev"); (case h2 => walk_at "Mev"))
  | (refine' cj_ge ?h1 ?h2; (case h1 => walk_at "Mev"); (case h2 => walk_at "Mev"))
  | (refine' cj_eqI ?h1 ?h2; (case h1 => walk_at "Mev"); (case h2 => walk_at "Mev"))
  | (refine' cj_neI ?h1 ?h2; (case h1 => walk_at "Mev"); (case h2 => walk_at "Mev"))
  | (refine' cj_eqS ?h1 ?h2; (case h1 => walk_at "Mev"); (case h2 => walk_at "Mev"))
  | (refine' cj_neS ?h1 ?h2; (case h1 => walk_at "Mev"); (case h2 => walk_at "Mev"))
  | (refine' cj_in ?h1 ?h2 ?h3 rfl; (case h1 => walk_at "Mev"); (case h2 => walk_at "Mev"); (case h3 => walk_at "Mcv"))
  | (refine' cj_notIn ?h1 ?h2 ?h3 rfl; (case h1 => walk_at "Mev"); (case h2 => walk_at "Mev"); (case h3 => walk_at "Mcv")))
local macro_rules | `(tactic| walk_at "Mea") => `(tactic| first
  | exact ea_nil
  | (refine' ea_cons ?h1 ?h2 ?pk rfl; (case h1 => walk_at "Mev"); (case h2 => walk_at "Mea"); (case pk => first | exact .inl rfl | exact .inr rfl)))
local macro_rules | `(tactic| walk_at "Mdr") => `(tactic| first | assumption | (simp only [Dr.nx_k] at *; omega))
local macro_rules | `(tactic| walk_at "Mlen") => `(tactic| first | assumption | omega | (simp only [List.length_map, List.length_append, List.length_cons, List.length_nil, List.length_replicate, List.length_range]; omega) | (refine Nat.le_trans (Nat.add_le_add_left len_ite_le _) ?_; simp only [List.length_map, List.length_append, List.length_cons, List.length_nil, List.length_replicate, List.length_range]; omega))
local macro_rules | `(tactic| walk_at "Mwk") => `(tactic| (refine' wk_of ?_; repeat' (first | exact wk_nil | (refine' wk_same ?_) | (refine' wk_d ?_) | (refine' wk_lo ?_) | (refine' wk_eq ?_ ?_))))
local macro_rules | `(tactic| walk_at "Mset") => `(tactic| (refine' sx_set ?n ?e ?h0 ?np ?k ?hs; (case n => walk_at "Mn"); (case e => walk_at "Mev"); (case h0 => rfl); (case np => rfl); (case hs => rfl)))
local macro_rules | `(tactic| walk_at "Msix") => `(tactic| (refine' sx_setIx ?n ?he ?h1 ?hi ?hj ?k ?hs ?hw ?h2 ?ha; (case n => walk_at "Mn"); (case he => walk_at "Mev"); (case h1 => first | exact .inl rfl | exact .inr rfl); (case hi => walk_at "Mev"); (case hj => rfl); (case hs => rfl); (case hw => rfl); (case h2 => rfl); (case ha => exact fun _ => rfl)))
local macro_rules | `(tactic| walk_at "Met") => `(tactic| first
  | (refine' et_not ?h; (case h => walk_at "Met"))
  | (refine' et_w ?h; (case h => walk_at "Mew"))
  | (refine' et_cj ?h; (case h => walk_at "Mcj"))
  | (refine' et_isN ?h; (case h => walk_at "Mev"))
  | (refine' et_notN ?h; (case h => walk_at "Mev"))
  | (refine' et_val ?h ?he; (case h => walk_at "Mev"); (case he => exact fun _ => rfl)))
local macro_rules | `(tactic| walk_at "Mew") => `(tactic| first
  | (refine' ew_and1 ?h; (case h => walk_at "Met"))
  | (refine' ew_or1 ?h; (case h => walk_at "Met"))
  | (refine' ew_and ?h1 ?h2; (case h1 => walk_at "Met"); (case h2 => (intro _; walk_at "Mew")))
  | (refine' ew_or ?h1 ?h2; (case h1 => walk_at "Met"); (case h2 => (intro _; walk_at "Mew"))))
local macro_rules | `(tactic| walk_at "Meta") => `(tactic| (refine' et_as ?t1 ?t2; (case t1 => walk_at "Met")))
local macro_rules | `(tactic| walk_at "Mif") => `(tactic| (refine' sx_if ?t ?a ?b; (case t => walk_at "Met")))
local macro_rules | `(tactic| walk_at "Mret") => `(tactic| (refine' sx_ret ?h ?k; (case h => walk_at "Mev")))
local macro_rules | `(tactic| walk_at "Mpq") => `(tactic| repeat' (first | exact pq_nil | (refine' pq_out rfl ?_) | (refine' pq_skip rfl ?_) | (refine' pq_par ?_ ?_)))
local macro_rules | `(tactic| walk_at "Mrt") => `(tactic| (first | refine' ⟨rr_d ?_, ?_⟩ | refine' ⟨rr_lo ?_, ?_⟩ | refine' ⟨rr_at rfl ?_, ?_⟩); walk_at "Mpq")
local macro_rules | `(tactic| walk_at "Mapp") => `(tactic| (refine' sx_append ?n ?h ?he ?h1 ?hl ?k rfl rfl rfl rfl rfl rfl; (case n => walk_at "Mn"); (case h => first | exact .inl rfl | exact .inr rfl); (case he => walk_at "Mev"); (case h1 => first | exact .inl rfl | exact .inr rfl); (case hl => walk_at "Mlen")))
local macro_rules | `(tactic| walk_at "Mfor") => `(tactic| (refine' sx_forR ?en ?g ?m ?e ?n ?f ?h0 ?hs ?hd rfl (fun _ => rfl); (case en => walk_at "Mn"); (case g => walk_at "Mn"); (case m => walk_at "Mn"); (case e => walk_at "Mev")))
local macro_rules | `(tactic| walk_at "Mwh") => `(tactic| (refine' sx_whileW ?en ?g ?m ?a ?h0 ?I ?i0 ?hs; (case en => walk_at "Mn")))
section
variable {P : Program} {w : World} {K : PySem.W.Frag} {mg : Str → Option Value} {base : Heap} {k : Nat} {f fv : Addr} {fd : FuncData}
def neededF (m ns : List Int) : Int := ((Builtin.Int.intBits (maxDf 0 ((runsF m ns).map (·.2))) : Nat) : Int)
abbrev spNeeded : Sp := spF (α := List Int × List Int) (fun q => MkOk q.1 ∧ (q.2.length : Int) ≤ 120) (fun q => [.d (liI q.1), .d (liI q.2)]) (fun _ => []) (fun q => .d (.int (neededF q.1 q.2)))
theorem runs_len (m ns : List Int) : (runsF m ns).length ≤ ns.length + 1 := by
  have h := rn_len m ns ns.length
  unfold runsF
  generalize rnAt m ns ns.length = x at *
  show (if 0 < x.2 then x.1 ++ [((ns.length : Int) - x.2, x.2)] else x.1).length ≤ _
  split
  · rw [List.length_append, List.length_singleton]
    omega
  · omega
theorem b_passes_needed {X : Cx} (c : Sc X N_passes_needed sc_passes_needed) (en : En X k) (C1 : ClX X k "runs" 2 [] idV spRuns) (bm : Bi X "max" (.builtin "max")) {ms ns : List Int} (h1 : MkOk ms) (h2 : (ns.length : Int) ≤ 120) :
    SX X (defBody s_passes_needed) [.d (liI ms), .d (liI ns), .un, .un, .un] (retE [] (.d (.int (neededF ms ns)))) := by
  have l0 := nl_passes_needed_0 c
  have m0 := l0.nm
  have l1 := nl_passes_needed_1 c
  have m1 := l1.nm
  have l2 := nl_passes_needed_2 c
  have m2 := l2.nm
  have g_max := gl_passes_needed_max c
  have g_runs := gl_passes_needed_runs c
  have hl := runs_len ms ns
  refine' sx_set ?n1 ?x1 ?h01 ?np1 ?k1 ?hs1
  case n1 => walk_at "Mn"
  case x1 =>
    refine' ev_maxDf (ns := (runsF ms ns).map (·.2)) en.calm en.un bm ?a1 ?a2 ?a3 ?a4 ?a5 ?a6 ?a7 ?a8 ?a9
    case a1 =>
      refine' Ev.cast (r := .lo (.own (((runsF ms ns).filter fun _ => true).map fun q => D.int q.2))) (r' := .lo (.own (((runsF ms ns).map (·.2)).map D.int))) ?c1 ?c2
      case c1 =>
        refine' ev_lc (own := [("_", 3), ("length", 4)]) (ys := runsF ms ns) (enc := encR) (g := fun q => D.int q.2) (p := fun _ => true) en.calm ?b1 ?b2 ?b3 ?b4 ?b5 ?b6 ?b7
        case b1 => rw [c.n]; exact fs_passes_needed.nd
        case b2 =>
          rw [c.n, c.s]
          exact ⟨rfl, by decide +kernel, by decide +kernel, by decide +kernel, by decide +kernel⟩
        case b3 => exact fun _ => rfl
        case b4 =>
          refine' ei_list ?d1
          case d1 =>
            refine' Ev.frzO ?d2
            case d2 => walk_at "Mev"
        case b5 => omega
        case b6 =>
          intro j hj
          rcases List.mem_cons.mp hj with rfl | hj
          · exact ⟨fun l z => (by cases (show (some SV.un : Option SV) = some (.lo l) from z)), fun l z => (by cases (show (some SV.un : Option SV) = some (.par l) from z))⟩
          · rcases List.mem_cons.mp hj with rfl | hj
            · exact ⟨fun l z => (by cases (show (some SV.un : Option SV) = some (.lo l) from z)), fun l z => (by cases (show (some SV.un : Option SV) = some (.par l) from z))⟩
            · cases hj
        case b7 =>
          intro y hy
          refine ⟨_, bg_tup2 (i := 3) (j := 4) (d1 := .int y.1) (d2 := .int y.2) en.calm (fun s H C cl fp => c.blk.nl fs_passes_needed.nd rfl rfl) (fun s H C cl fp => c.blk.nl fs_passes_needed.nd rfl rfl) (by decide) (by decide) (.inl rfl) (.inl rfl) (fun _ _ _ _ _ => rfl) (fun _ _ _ _ _ => rfl) (fun _ _ _ _ _ => rfl) (fun _ _ _ _ _ => rfl), bt_nil, fun _ => ?_⟩
          intro s H C cl fp
          exact ev_d (i := 4) (Sb.nm c.blk rfl (.inl rfl)) rfl
      case c2 =>
        rw [List.filter_eq_self.mpr (fun _ _ => rfl), List.map_map]
        rfl
    case a2 => walk_at "Mcv"
    case a3 => walk_at "Mev"
    case a4 => rfl
    case a5 => rfl
    case a6 => rfl
    case a7 => rfl
    case a8 => rfl
    case a9 => rfl
  case h01 => rfl
  case np1 => rfl
  case hs1 => rfl
  refine' sx_ret ?r1 ?r2
  case r1 =>
    refine' ev_bits ?e1 rfl rfl
    case e1 => walk_at "Mev"
  walk_at "Mrt"
  rfl
theorem ok_passes_needed (F : F_passes_needed K f fd) (C1 : Cl P w K mg base k "runs" 2 [] idV spRuns) (m1 : mg "max" = none) : FnG P w K mg base CX0 (k + 1) f fd P_passes_needed spNeeded :=
  fn_sx F fs_passes_needed (fun _ => rfl) fun cdv A outer s H E q hg hr hp => by
    have c : Sc (cxOf CX0 P w K mg base N_passes_needed "passes_needed" sc_passes_needed f cdv A outer s H E) N_passes_needed sc_passes_needed := ⟨rfl, rfl, fun _ => rfl⟩
    exact b_passes_needed c (en_of hg hr) C1 (c.bi rfl m1) hp.1 hp.2
theorem cl_passes_needed (F : F_passes_needed K f fd) (ok : FnG P w K mg base CX0 k f fd P_passes_needed spNeeded) (hm : mg "passes_needed" = some (.ref f)) : Cl P w K mg base k "passes_needed" 2 [] idV spNeeded :=
  cl_of F ok hm fun _ _ _ _ _ _ us hl => match us, hl with | [_, _], _ => rfl
/-- passes_needed(values=v, marked=m) -/
theorem cl_needed2 (F : F_passes_needed K f fd) (ok : FnG P w K mg base CX0 k f fd P_passes_needed spNeeded) (hm : mg "passes_needed" = some (.ref f)) : Cl P w K mg base k "passes_needed" 0 ["values", "marked"] (fun _ zs => zs.reverse) spNeeded :=
  cl_kw F ok hm 0 ["values", "marked"] (fun _ ws => ws.reverse) (fun _ r => r.reverse) fun _ _ _ _ _ _ us ws l1 l2 => match us, ws, l1, l2 with
    | [], [_, _], _, _ => rfl
end
end Lw

set_option Elab.async false
set_option linter.all false
set_option maxRecDepth 100000
set_option maxHeartbeats 4000000
namespace Lw
open PySem PySem.Spec PyProof.Rows L2 Mw
local macro_rules | `(tactic| walk_at "Mkb") => `(tactic| first | exact kb_NoneType_int | exact kb_NoneType_bool | exact kb_NoneType_list | exact kb_NoneType_str | exact kb_NoneType_dict | exact kb_NoneType_tuple | exact kb_bool_int | exact kb_bool_bool | exact kb_bool_list | exact kb_bool_str | exact kb_bool_dict | exact kb_bool_tuple | exact kb_int_int | exact kb_int_bool | exact kb_int_list | exact kb_int_str | exact kb_int_dict | exact kb_int_tuple | exact kb_str_int | exact kb_str_bool | exact kb_str_list | exact kb_str_str | exact kb_str_dict | exact kb_str_tuple | exact kb_list_int | exact kb_list_bool | exact kb_list_list | exact kb_list_str | exact kb_list_dict | exact kb_list_tuple | exact kb_tuple_int | exact kb_tuple_bool | exact kb_tuple_list | exact kb_tuple_str | exact kb_tuple_dict | exact kb_tuple_tuple | exact kb_dict_int | exact kb_dict_bool | exact kb_dict_list | exact kb_dict_str | exact kb_dict_dict | exact kb_dict_tuple)
local macro_rules | `(tactic| walk_at "Mn") => `(tactic| with_reducible assumption)
local macro_rules | `(tactic| walk_at "Mnum") => `(tactic| first | assumption | decide | omega | (constructor <;> first | assumption | decide | omega))
local macro_rules | `(tactic| walk_at "Mcv") => `(tactic| first | exact cv_d | exact cv_own | exact cv_at | exact Cv.refl)
local macro_rules | `(tactic| walk_at "Mev") => `(tactic| first
  | exact ev_int | exact ev_bl | exact ev_non | exact ev_str
  | (refine' ev_d ?hn ?hs; (case hn => walk_at "Mn"); (case hs => rfl))
  | (refine' ev_at ?hn ?hs; (case hn => walk_at "Mn"); (case hs => first | exact .inl rfl | exact .inr rfl))
  | (refine' ev_lo ?hn ?hs; (case hn => walk_at "Mn"); (case hs => rfl))
  | (refine' ev_add ?h1 ?h2; (case h1 => walk_at "Mev"); (case h2 => walk_at "Mev"))
  | (refine' ev_sub ?h1 ?h2; (case h1 => walk_at "Mev"); (case h2 => walk_at "Mev"))
  | (refine' ev_pow ?h1 ?h2 ?h3; (case h1 => walk_at "Mev"); (case h2 => walk_at "Mev"); (case h3 => walk_at "Mnum"))
  | (refine' ev_mod ?h1 ?h2 ?h3; (case h1 => walk_at "Mev"); (case h2 => walk_at "Mev"); (case h3 => walk_at "Mnum"))
  | (refine' ev_fdiv ?h1 ?h2 ?h3; (case h1 => walk_at "Mev"); (case h2 => walk_at "Mev"); (case h3 => walk_at "Mnum"))
  | (refine' ev_mul ?h1 ?h2 ?h3; (case h1 => walk_at "Mev"); (case h2 => walk_at "Mev"); (case h3 => first | assumption | (left; constructor <;> walk_at "Mnum") | (right; constructor <;> walk_at "Mnum")))
  | (refine' ev_intI ?h0 ?h1 rfl; (case h0 => walk_at "Mn"); (case h1 => walk_at "Mev"))
  | (refine' ev_intB ?h0 ?h1 rfl; (case h0 => walk_at "Mn"); (case h1 => walk_at "Mev"))
  | (refine' ev_next ?C ?en ?g ?m ?h ?b; (case C => walk_at "Mn"); (case en => walk_at "Mn"); (case g => walk_at "Mn"); (case m => walk_at "Mn"); (case h => first | exact .inr rfl | exact .inl rfl); (case b => walk_at "Mdr"))
  | (refine' ev_pick ?h1 ?h2 ?hp ?h3 ?h6; (case h1 => walk_at "Mev"); (case h2 => walk_at "Mev"); (case hp => first | exact .inl rfl | exact .inr rfl); (case h3 => walk_at "Mcv"); (case h6 => exact fun _ _ => rfl))
  | (refine' ev_globF ?g ?m rfl; (case g => walk_at "Mn"); (case m => walk_at "Mn"))
  | (refine' ev_globI ?g ?m rfl; (case g => walk_at "Mn"); (case m => walk_at "Mn"))
  | (refine' ev_isi ?h0 ?h1 ?h2 ?h3 ?h4 rfl rfl rfl; (case h0 => walk_at "Mn"); (case h1 => walk_at "Mn"); (case h2 => walk_at "Mev"); (case h3 => rfl); (case h4 => walk_at "Mkb"))
  | (refine' ev_len ?h0 ?h1 ?h2 rfl; (case h0 => walk_at "Mn"); (case h1 => walk_at "Mev"); (case h2 => walk_at "Mcv"))
  | (refine' ev_list ?h0 ?h1 ?h2 rfl; (case h0 => walk_at "Mn"); (case h1 => walk_at "Mev"); (case h2 => walk_at "Mcv"))
  | (refine' Ev.cast ?hh ?qq; (case hh => (refine' ev_go ?C ?en ?g ?a ?ha ?hd ?l1 ?hp ?hi rfl rfl rfl; (case C => walk_at "Mn"); (case en => walk_at "Mn"); (case g => walk_at "Mn"); (case ha => walk_at "Mea"); (case hd => rfl); (case l1 => rfl); (case hi => rfl); (case hp => walk_at "Mpre"))); (case qq => rfl))
  | (refine' Ev.cast ?hh ?qq; (case hh => (refine' ev_go ?C ?en ?g (?a, ?b) ?ha ?hd ?l1 ?hp ?hi rfl rfl rfl; (case C => walk_at "Mn"); (case en => walk_at "Mn"); (case g => walk_at "Mn"); (case ha => walk_at "Mea"); (case hd => rfl); (case l1 => rfl); (case hi => rfl); (case hp => walk_at "Mpre"))); (case qq => rfl))
  | (refine' Ev.cast ?hh ?qq; (case hh => (refine' ev_go ?C ?en ?g (?a, ?b, ?c) ?ha ?hd ?l1 ?hp ?hi rfl rfl rfl; (case C => walk_at "Mn"); (case en => walk_at "Mn"); (case g => walk_at "Mn"); (case ha => walk_at "Mea"); (case hd => rfl); (case l1 => rfl); (case hi => rfl); (case hp => walk_at "Mpre"))); (case qq => rfl))
  | (refine' ev_sliceTI ?h1 ?h2 ?h3 ?h4; (case h1 => walk_at "Mev"); (case h2 => walk_at "Mcv"); (case h3 => walk_at "Mev"); (case h4 => walk_at "Mnum"))
  | (refine' ev_sliceDI ?h1 ?h2 ?h3 ?h4; (case h1 => walk_at "Mev"); (case h2 => walk_at "Mcv"); (case h3 => walk_at "Mev"); (case h4 => walk_at "Mnum"))
  | (refine' ev_sliceT ?h1 ?h2 ?h3 ?h4; (case h1 => walk_at "Mev"); (case h2 => walk_at "Mcv"); (case h3 => walk_at "Mev"); (case h4 => walk_at "Mnum"))
  | (refine' ev_sliceD ?h1 ?h2 ?h3 ?h4; (case h1 => walk_at "Mev"); (case h2 => walk_at "Mcv"); (case h3 => walk_at "Mev"); (case h4 => walk_at "Mnum"))
  | (refine' ev_ixL ?h1 ?h2 ?hp ?h3 ?h4 ?h5 ?h6; (case h1 => walk_at "Mev"); (case h2 => walk_at "Mev"); (case hp => first | exact .inl rfl | exact .inr rfl); (case h3 => walk_at "Mcv"); (case h4 => rfl); (case h5 => rfl); (case h6 => exact fun _ _ => rfl))
  | (refine' ev_cj ?h; (case h => walk_at "Mcj"))
  | (refine' ev_isN ?h; (case h => walk_at "Mev"))
  | (refine' ev_notN ?h; (case h => walk_at "Mev"))
  | (refine' ev_lst ?h1 ?h2 ?h3; (case h1 => walk_at "Mea"); (case h2 => rfl); (case h3 => exact Nat.le_of_ble_eq_true rfl))
  | (refine' ev_repB ?h1 ?h2 ?hp ?h3 ?h4; (case h1 => walk_at "Mev"); (case h2 => walk_at "Mev"); (case hp => first | exact .inl rfl | exact .inr rfl); (case h3 => walk_at "Mcv"); (case h4 => first | exact Nat.le_of_ble_eq_true rfl | walk_at "Mlen"))
  | (refine' ev_catA ?h1 ?h2 ?hp ?h4 ?h5; (case h1 => walk_at "Mev"); (case h2 => walk_at "Mev"); (case hp => first | exact .inl rfl | exact .inr rfl); (case h4 => walk_at "Mcv"); (case h5 => walk_at "Mlen"))
  | (refine' ev_cat ?h1 ?h2 ?hp ?h3 ?h4 ?h5; (case h1 => walk_at "Mev"); (case h2 => walk_at "Mev"); (case hp => first | exact .inl rfl | exact .inr rfl); (case h3 => walk_at "Mcv"); (case h4 => walk_at "Mcv"); (case h5 => walk_at "Mlen"))
  )
local macro_rules | `(tactic| walk_at "Mpre") => `(tactic| first | trivial | assumption | (simp only [List.length_map]; omega) | (constructor <;> first | assumption | (simp only [List.length_map]; omega)))
local macro_rules | `(tactic| walk_at "Mcj") => `(tactic| first
  | (refine' cj_lt ?h1 ?h2; (case h1 => walk_at "Mev"); (case h2 => walk_at "Mev"))
  | (refine' cj_le ?h1 ?h2; (case h1 => walk_at "Mev"); (case h2 => walk_at "Mev"))
  | (refine' cj_gt ?h1 ?h2; (case h1 => walk_at "Mev"); (case h2 => walk_at "Mev"))
  | (refine' cj_ge ?h1 ?h2; (case h1 => walk_at "Mev"); (case h2 => walk_at "Mev"))
  | (refine' cj_eqI ?h1 ?h2; (case h1 => walk_at "Mev"); (case h2 => walk_at "Mev"))
  | (refine' cj_neI ?h1 ?h2; (case h1 => walk_at "Mev"); (case h2 => walk_at "Mev"))
  | (refine' cj_eqS ?h1 ?h2; (case h1 => walk_at "Mev"); (case h2 => walk_at "Mev"))
  | (refine' cj_neS ?h1 ?h2; (case h1 => walk_at "Mev"); (case h2 => walk_at "Mev"))
  | (refine' cj_in ?h1 ?h2 ?h3 rfl; (case h1 => walk_at "Mev"); (case h2 => walk_at "Mev"); (case h3 => walk_at "Mcv"))
  | (refine' cj_notIn ?h1 ?h2 ?h3 rfl; (case h1 => walk_at "Mev"); (case h2 => walk_at "Mev"); (case h3 => walk_at "Mcv")))
local macro_rules | `(tactic| walk_at "Mea") => `(tactic| first
  | exact ea_nil
  | (refine' ea_cons ?h1 ?h2 ?pk rfl; (case h1 => walk_at "Mev"); (case h2 => walk_at "Mea"); (case pk => first | exact .inl rfl | exact .inr rfl)))
local macro_rules | `(tactic| walk_at "Mdr") => `(tactic| first | assumption | (simp only [Dr.nx_k] at *; omega))
local macro_rules | `(tactic| walk_at "Mlen") => `(tactic| first | assumption | omega | (simp only [List.length_map, List.length_append, List.length_cons, List.length_nil, List.length_replicate, List.length_range]; omega) | (refine Nat.le_trans (Nat.add_le_add_left len_ite_le _) ?_; simp only [List.length_map, List.length_append, List.length_cons, List.length_nil, List.length_replicate, List.length_range]; omega))
local macro_rules | `(tactic| walk_at "Mwk") => `(tactic| (refine' wk_of ?_; repeat' (first | exact wk_nil | (refine' wk_same ?_) | (refine' wk_d ?_) | (refine' wk_lo ?_) | (refine' wk_eq ?_ ?_))))
local macro_rules | `(tactic| walk_at "Mset") => `(tactic| (refine' sx_set ?n ?e ?h0 ?np ?k ?hs; (case n => walk_at "Mn"); (case e => walk_at "Mev"); (case h0 => rfl); (case np => rfl); (case hs => rfl)))
local macro_rules | `(tactic| walk_at "Msix") => `(tactic| (refine' sx_setIx ?n ?he ?h1 ?hi ?hj ?k ?hs ?hw ?h2 ?ha; (case n => walk_at "Mn"); (case he => walk_at "Mev"); (case h1 => first | exact .inl rfl | exact .inr rfl); (case hi => walk_at "Mev"); (case hj => rfl); (case hs => rfl); (case hw => rfl); (case h2 => rfl); (case ha => exact fun _ => rfl)))
local macro_rules | `(tactic| walk_at "Met") => `(tactic| first
  | (refine' et_not ?h; (case h => walk_at "Met"))
  | (refine' et_w ?h; (case h => walk_at "Mew"))
  | (refine' et_cj ?h; (case h => walk_at "Mcj"))
  | (refine' et_isN ?h; (case h => walk_at "Mev"))
  | (refine' et_notN ?h; (case h => walk_at "Mev"))
  | (refine' et_val ?h ?he; (case h => walk_at "Mev"); (case he => exact fun _ => rfl)))
local macro_rules | `(tactic| walk_at "Mew") => `(tactic| first
  | (refine' ew_and1 ?h; (case h => walk_at "Met"))
  | (refine' ew_or1 ?h; (case h => walk_at "Met"))
  | (refine' ew_and ?h1 ?h2; (case h1 => walk_at "Met"); (case h2 => (intro _; walk_at "Mew")))
  | (refine' ew_or ?h1 ?h2; (case h1 => walk_at "Met"); (case h2 => (intro _; walk_at "Mew"))))
local macro_rules | `(tactic| walk_at "Meta") => `(tactic| (refine' et_as ?t1 ?t2; (case t1 => walk_at "Met")))
local macro_rules | `(tactic| walk_at "Mif") => `(tactic| (refine' sx_if ?t ?a ?b; (case t => walk_at "Met")))
local macro_rules | `(tactic| walk_at "Mret") => `(tactic| (refine' sx_ret ?h ?k; (case h => walk_at "Mev")))
local macro_rules | `(tactic| walk_at "Mpq") => `(tactic| repeat' (first | exact pq_nil | (refine' pq_out rfl ?_) | (refine' pq_skip rfl ?_) | (refine' pq_par ?_ ?_)))
local macro_rules | `(tactic| walk_at "Mrt") => `(tactic| (first | refine' ⟨rr_d ?_, ?_⟩ | refine' ⟨rr_lo ?_, ?_⟩ | refine' ⟨rr_at rfl ?_, ?_⟩); walk_at "Mpq")
local macro_rules | `(tactic| walk_at "Mapp") => `(tactic| (refine' sx_append ?n ?h ?he ?h1 ?hl ?k rfl rfl rfl rfl rfl rfl; (case n => walk_at "Mn"); (case h => first | exact .inl rfl | exact .inr rfl); (case he => walk_at "Mev"); (case h1 => first | exact .inl rfl | exact .inr rfl); (case hl => walk_at "Mlen")))
local macro_rules | `(tactic| walk_at "Mfor") => `(tactic| (refine' sx_forR ?en ?g ?m ?e ?n ?f ?h0 ?hs ?hd rfl (fun _ => rfl); (case en => walk_at "Mn"); (case g => walk_at "Mn"); (case m => walk_at "Mn"); (case e => walk_at "Mev")))
local macro_rules | `(tactic| walk_at "Mwh") => `(tactic| (refine' sx_whileW ?en ?g ?m ?a ?h0 ?I ?i0 ?hs; (case en => walk_at "Mn")))
/-! the draws of a cell -/
def BIG : Int := (((10 : Int) ^ (60 : Int).toNat) ^ (60 : Int).toNat) ^ (4 : Int).toNat
def drOf (c : Int) : Dr := ⟨c % BIG, 0, decide ((10 : Int) ^ (18 : Int).toNat ≤ c)⟩
theorem pw1 : CPowW 10 60 := ⟨by decide, by decide +kernel⟩
theorem pw2 : CPowW ((10 : Int) ^ (60 : Int).toNat) 60 := ⟨by decide, by decide +kernel⟩
theorem pw3 : CPowW (((10 : Int) ^ (60 : Int).toNat) ^ (60 : Int).toNat) 4 := ⟨by decide, by decide +kernel⟩
theorem big_pos : 0 < (((10 : Int) ^ (60 : Int).toNat) ^ (60 : Int).toNat) ^ (4 : Int).toNat := by decide +kernel
theorem pw4 : CPowW 10 18 := ⟨by decide, by decide +kernel⟩
section
variable {P : Program} {w : World} {K : PySem.W.Frag} {mg : Str → Option Value} {base : Heap} {k : Nat} {f fv : Addr} {fd : FuncData}
abbrev spDraws : Sp := spF (α := Int) (fun _ => True) (fun q => [.d (.int q)]) (fun _ => []) (fun q => .lo (.own (drOf q).ds))
theorem b_draws {X : Cx} (c : Sc X N_draws sc_draws) (bi : Bi X "int" (.type "int")) {i : Int} : SX X (defBody s_draws) [.d (.int i)] (retE [] (.lo (.own (drOf i).ds))) := by
  have l0 := nl_draws_0 c
  have m0 := l0.nm
  have g_int := gl_draws_int c
  refine' sx_ret ?h ?k
  case h =>
    refine' ev_lst ?a1 ?a2 ?a3
    case a1 =>
      refine' ea_cons ?b1 ?b2 ?b3 rfl
      case b1 =>
        refine' ev_mod ?c1 ?c2 ?c3
        case c1 => walk_at "Mev"
        case c2 =>
          refine' ev_powW ?d1 ?d2 ?d3
          case d1 =>
            refine' ev_powW ?e1 ?e2 ?e3
            case e1 =>
              refine' ev_powW ?f1 ?f2 ?f3
              case f1 => walk_at "Mev"
              case f2 => walk_at "Mev"
              case f3 => exact pw1
            case e2 => walk_at "Mev"
            case e3 => exact pw2
          case d2 => walk_at "Mev"
          case d3 => exact pw3
        case c3 => exact big_pos
      case b2 =>
        refine' ea_cons ?g1 ?g2 ?g3 rfl
        case g1 => walk_at "Mev"
        case g2 =>
          refine' ea_cons ?h1 ?h2 ?h3 rfl
          case h1 =>
            refine' ev_cj ?i1
            case i1 =>
              refine' cj_ge ?j1 ?j2
              case j1 => walk_at "Mev"
              case j2 =>
                refine' ev_powW ?k1 ?k2 ?k3
                case k1 => walk_at "Mev"
                case k2 => walk_at "Mev"
                case k3 => exact pw4
          case h2 => exact ea_nil
          case h3 => exact .inl rfl
        case g3 => exact .inl rfl
      case b3 => exact .inl rfl
    case a2 => rfl
    case a3 => exact Nat.le_of_ble_eq_true rfl
  walk_at "Mrt"
  rfl
theorem ok_draws (F : F_draws K f fd) (m1 : mg "int" = none) : FnG P w K mg base CX0 (k + 1) f fd P_draws spDraws :=
  fn_sx F fs_draws (fun _ => rfl) fun cdv A outer s H E q hg hr hp => by
    have c : Sc (cxOf CX0 P w K mg base N_draws "_law_draws" sc_draws f cdv A outer s H E) N_draws sc_draws := ⟨rfl, rfl, fun _ => rfl⟩
    exact b_draws c (c.bi rfl m1)
theorem cl_draws (F : F_draws K f fd) (ok : FnG P w K mg base CX0 k f fd P_draws spDraws) (hm : mg "_law_draws" = some (.ref f)) : Cl P w K mg base k "_law_draws" 1 [] idV spDraws :=
  cl_of F ok hm fun _ _ _ _ _ _ us hl => match us, hl with | [_], _ => rfl
end
end Lw

set_option Elab.async false
set_option linter.all false
set_option maxRecDepth 100000
set_option maxHeartbeats 4000000
namespace Lw
open PySem PySem.Spec PyProof.Rows L2 Mw
local macro_rules | `(tactic| walk_at "Mkb") => `(tactic| first | exact kb_NoneType_int | exact kb_NoneType_bool | exact kb_NoneType_list | exact kb_NoneType_str | exact kb_NoneType_dict | exact kb_NoneType_tuple | exact kb_bool_int | exact kb_bool_bool | exact kb_bool_list | exact kb_bool_str | exact kb_bool_dict | exact kb_bool_tuple | exact kb_int_int | exact kb_int_bool | exact kb_int_list | exact kb_int_str | exact kb_int_dict | exact kb_int_tuple | exact kb_str_int | exact kb_str_bool | exact kb_str_list | exact kb_str_str | exact kb_str_dict | exact kb_str_tuple | exact kb_list_int | exact kb_list_bool | exact kb_list_list | exact kb_list_str | exact kb_list_dict | exact kb_list_tuple | exact kb_tuple_int | exact kb_tuple_bool | exact kb_tuple_list | exact kb_tuple_str | exact kb_tuple_dict | exact kb_tuple_tuple | exact kb_dict_int | exact kb_dict_bool | exact kb_dict_list | exact kb_dict_str | exact kb_dict_dict | exact kb_dict_tuple)
local macro_rules | `(tactic| walk_at "Mn") => `(tactic| with_reducible assumption)
local macro_rules | `(tactic| walk_at "Mnum") => `(tactic| first | assumption | decide | omega | (constructor <;> first | assumption | decide | omega))
local macro_rules | `(tactic| walk_at "Mcv") => `(tactic| first | exact cv_d | exact cv_own | exact cv_at | exact Cv.refl)
local macro_rules | `(tactic| walk_at "Mev") => `(tactic| first
  | exact ev_int | exact ev_bl | exact ev_non | exact ev_str
  | (refine' ev_d ?hn ?hs; (case hn => walk_at "Mn"); (case hs => rfl))
  | (refine' ev_at ?hn ?hs; (case hn => walk_at "Mn"); (case hs => first | exact .inl rfl | exact .inr rfl))
  | (refine' ev_lo ?hn ?hs; (case hn => walk_at "Mn"); (case hs => rfl))
  | (refine' ev_add ?h1 ?h2; (case h1 => walk_at "Mev"); (case h2 => walk_at "Mev"))
  | (refine' ev_sub ?h1 ?h2; (case h1 => walk_at "Mev"); (case h2 => walk_at "Mev"))
  | (refine' ev_pow ?h1 ?h2 ?h3; (case h1 => walk_at "Mev"); (case h2 => walk_at "Mev"); (case h3 => walk_at "Mnum"))
  | (refine' ev_mod ?h1 ?h2 ?h3; (case h1 => walk_at "Mev"); (case h2 => walk_at "Mev"); (case h3 => walk_at "Mnum"))
  | (refine' ev_fdiv ?h1 ?h2 ?h3; (case h1 => walk_at "Mev"); (case h2 => walk_at "Mev"); (case h3 => walk_at "Mnum"))
  | (refine' ev_mul ?h1 ?h2 ?h3; (case h1 => walk_at "Mev"); (case h2 => walk_at "Mev"); (case h3 => first | assumption | (left; constructor <;> walk_at "Mnum") | (right; constructor <;> walk_at "Mnum")))
  | (refine' ev_intI ?h0 ?h1 rfl; (case h0 => walk_at "Mn"); (case h1 => walk_at "Mev"))
  | (refine' ev_intB ?h0 ?h1 rfl; (case h0 => walk_at "Mn"); (case h1 => walk_at "Mev"))
  | (refine' ev_next ?C ?en ?g ?m ?h ?b; (case C => walk_at "Mn"); (case en => walk_at "Mn"); (case g => walk_at "Mn"); (case m => walk_at "Mn"); (case h => first | exact .inr rfl | exact .inl rfl); (case b => walk_at "Mdr"))
  | (refine' ev_pick ?h1 ?h2 ?hp ?h3 ?h6; (case h1 => walk_at "Mev"); (case h2 => walk_at "Mev"); (case hp => first | exact .inl rfl | exact .inr rfl); (case h3 => walk_at "Mcv"); (case h6 => exact fun _ _ => rfl))
  | (refine' ev_globF ?g ?m rfl; (case g => walk_at "Mn"); (case m => walk_at "Mn"))
  | (refine' ev_globI ?g ?m rfl; (case g => walk_at "Mn"); (case m => walk_at "Mn"))
  | (refine' ev_isi ?h0 ?h1 ?h2 ?h3 ?h4 rfl rfl rfl; (case h0 => walk_at "Mn"); (case h1 => walk_at "Mn"); (case h2 => walk_at "Mev"); (case h3 => rfl); (case h4 => walk_at "Mkb"))
  | (refine' ev_len ?h0 ?h1 ?h2 rfl; (case h0 => walk_at "Mn"); (case h1 => walk_at "Mev"); (case h2 => walk_at "Mcv"))
  | (refine' ev_list ?h0 ?h1 ?h2 rfl; (case h0 => walk_at "Mn"); (case h1 => walk_at "Mev"); (case h2 => walk_at "Mcv"))
  | (refine' Ev.cast ?hh ?qq; (case hh => (refine' ev_go ?C ?en ?g ?a ?ha ?hd ?l1 ?hp ?hi rfl rfl rfl; (case C => walk_at "Mn"); (case en => walk_at "Mn"); (case g => walk_at "Mn"); (case ha => walk_at "Mea"); (case hd => rfl); (case l1 => rfl); (case hi => rfl); (case hp => walk_at "Mpre"))); (case qq => rfl))
  | (refine' Ev.cast ?hh ?qq; (case hh => (refine' ev_go ?C ?en ?g (?a, ?b) ?ha ?hd ?l1 ?hp ?hi rfl rfl rfl; (case C => walk_at "Mn"); (case en => walk_at "Mn"); (case g => walk_at "Mn"); (case ha => walk_at "Mea"); (case hd => rfl); (case l1 => rfl); (case hi => rfl); (case hp => walk_at "Mpre"))); (case qq => rfl))
  | (refine' Ev.cast ?hh ?qq; (case hh => (refine' ev_go ?C ?en ?g (?a, ?b, ?c) ?ha ?hd ?l1 ?hp ?hi rfl rfl rfl; (case C => walk_at "Mn"); (case en => walk_at "Mn"); (case g => walk_at "Mn"); (case ha => walk_at "Mea"); (case hd => rfl); (case l1 => rfl); (case hi => rfl); (case hp => walk_at "Mpre"))); (case qq => rfl))
  | (refine' ev_sliceTI ?h1 ?h2 ?h3 ?h4; (case h1 => walk_at "Mev"); (case h2 => walk_at "Mcv"); (case h3 => walk_at "Mev"); (case h4 => walk_at "Mnum"))
  | (refine' ev_sliceDI ?h1 ?h2 ?h3 ?h4; (case h1 => walk_at "Mev"); (case h2 => walk_at "Mcv"); (case h3 => walk_at "Mev"); (case h4 => walk_at "Mnum"))
  | (refine' ev_sliceT ?h1 ?h2 ?h3 ?h4; (case h1 => walk_at "Mev"); (case h2 => walk_at "Mcv"); (case h3 => walk_at "Mev"); (case h4 => walk_at "Mnum"))
  | (refine' ev_sliceD ?h1 ?h2 ?h3 ?h4; (case h1 => walk_at "Mev"); (case h2 => walk_at "Mcv"); (case h3 => walk_at "Mev"); (case h4 => walk_at "Mnum"))
  | (refine' ev_ixL ?h1 ?h2 ?hp ?h3 ?h4 ?h5 ?h6; (case h1 => walk_at "Mev"); (case h2 => walk_at "Mev"); (case hp => first | exact .inl rfl | exact .inr rfl); (case h3 => walk_at "Mcv"); (case h4 => rfl); (case h5 => rfl); (case h6 => exact fun _ _ => rfl))
  | (refine' ev_cj ?h; (case h => walk_at "Mcj"))
  | (refine' ev_isN ?h; (case h => walk_at "Mev"))
  | (refine' ev_notN ?h; (case h => walk_at "Mev"))
  | (refine' ev_lst ?h1 ?h2 ?h3; (case h1 => walk_at "Mea"); (case h2 => rfl); (case h3 => exact Nat.le_of_ble_eq_true rfl))
  | (refine' ev_repB ?h1 ?h2 ?hp ?h3 ?h4; (case h1 => walk_at "Mev"); (case h2 => walk_at "Mev"); (case hp => first | exact .inl rfl | exact .inr rfl); (case h3 => walk_at "Mcv"); (case h4 => first | exact Nat.le_of_ble_eq_true rfl | walk_at "Mlen"))
  | (refine' ev_catA ?h1 ?h2 ?hp ?h4 ?h5; (case h1 => walk_at "Mev"); (case h2 => walk_at "Mev"); (case hp => first | exact .inl rfl | exact .inr rfl); (case h4 => walk_at "Mcv"); (case h5 => walk_at "Mlen"))
  | (refine' ev_cat ?h1 ?h2 ?hp ?h3 ?h4 ?h5; (case h1 => walk_at "Mev"); (case h2 => walk_at "Mev"); (case hp => first | exact .inl rfl | exact .inr rfl); (case h3 => walk_at "Mcv"); (case h4 => walk_at "Mcv"); (case h5 => walk_at "Mlen"))
  )
local macro_rules | `(tactic| walk_at "Mpre") => `(tactic| first | trivial | assumption | (simp only [List.length_map]; omega) | (constructor <;> first | assumption | (simp only [List.length_map]; omega)))
local macro_rules | `(tactic| walk_at "Mcj") => `(tactic| first
  | (refine' cj_lt ?h1 ?h2; (case h1 => walk_at "Mev"); (case h2 => walk_at "Mev"))
  | (refine' cj_le ?h1 ?h2; (case h1 => walk_at "Mev"); (case h2 => walk_at "Mev"))
  | (refine' cj_gt ?h1 ?h2; (case h1 => walk_at "Mev"); (case h2 => walk_at "Mev"))
  | (refine' cj_ge ?h1 ?h2; (case h1 => walk_at "Mev"); (case h2 => walk_at "Mev"))
  | (refine' cj_eqI ?h1 ?h2; (case h1 => walk_at "Mev"); (case h2 => walk_at "Mev"))
  | (refine' cj_neI ?h1 ?h2; (case h1 => walk_at "Mev"); (case h2 => walk_at "Mev"))
  | (refine' cj_eqS ?h1 ?h2; (case h1 => walk_at "Mev"); (case h2 => walk_at "Mev"))
  | (refine' cj_neS ?h1 ?h2; (case h1 => walk_at "Mev"); (case h2 => walk_at "Mev"))
  | (refine' cj_in ?h1 ?h2 ?h3 rfl; (case h1 => walk_at "Mev"); (case h2 => walk_at "Mev"); (case h3 => walk_at "Mcv"))
  | (refine' cj_notIn ?h1 ?h2 ?h3 rfl; (case h1 => walk_at "Mev"); (case h2 => walk_at "Mev"); (case h3 => walk_at "Mcv")))
local macro_rules | `(tactic| walk_at "Mea") => `(tactic| first
  | exact ea_nil
  | (refine' ea_cons ?h1 ?h2 ?pk rfl; (case h1 => walk_at "Mev"); (case h2 => walk_at "Mea"); (case pk => first | exact .inl rfl | exact .inr rfl)))
local macro_rules | `(tactic| walk_at "Mdr") => `(tactic| first | assumption | (simp only [Dr.nx_k] at *; omega))
local macro_rules | `(tactic| walk_at "Mlen") => `(tactic| first | assumption | omega | (simp only [List.length_map, List.length_append, List.length_cons, List.length_nil, List.length_replicate, List.length_range]; omega) | (refine Nat.le_trans (Nat.add_le_add_left len_ite_le _) ?_; simp only [List.length_map, List.length_append, List.length_cons, List.length_nil, List.length_replicate, List.length_range]; omega))
local macro_rules | `(tactic| walk_at "Mwk") => `(tactic| (refine' wk_of ?_; repeat' (first | exact wk_nil | (refine' wk_same ?_) | (refine' wk_d ?_) | (refine' wk_lo ?_) | (refine' wk_eq ?_ ?_))))
local macro_rules | `(tactic| walk_at "Mset") => `(tactic| (refine' sx_set ?n ?e ?h0 ?np ?k ?hs; (case n => walk_at "Mn"); (case e => walk_at "Mev"); (case h0 => rfl); (case np => rfl); (case hs => rfl)))
local macro_rules | `(tactic| walk_at "Msix") => `(tactic| (refine' sx_setIx ?n ?he ?h1 ?hi ?hj ?k ?hs ?hw ?h2 ?ha; (case n => walk_at "Mn"); (case he => walk_at "Mev"); (case h1 => first | exact .inl rfl | exact .inr rfl); (case hi => walk_at "Mev"); (case hj => rfl); (case hs => rfl); (case hw => rfl); (case h2 => rfl); (case ha => exact fun _ => rfl)))
local macro_rules | `(tactic| walk_at "Met") => `(tactic| first
  | (refine' et_not ?h; (case h => walk_at "Met"))
  | (refine' et_w ?h; (case h => walk_at "Mew"))
  | (refine' et_cj ?h; (case h => walk_at "Mcj"))
  | (refine' et_isN ?h; (case h => walk_at "Mev"))
  | (refine' et_notN ?h; (case h => walk_at "Mev"))
  | (refine' et_val ?h ?he; (case h => walk_at "Mev"); (case he => exact fun _ => rfl)))
local macro_rules | `(tactic| walk_at "Mew") => `(tactic| first
  | (refine' ew_and1 ?h; (case h => walk_at "Met"))
  | (refine' ew_or1 ?h; (case h => walk_at "Met"))
  | (refine' ew_and ?h1 ?h2; (case h1 => walk_at "Met"); (case h2 => (intro _; walk_at "Mew")))
  | (refine' ew_or ?h1 ?h2; (case h1 => walk_at "Met"); (case h2 => (intro _; walk_at "Mew"))))
local macro_rules | `(tactic| walk_at "Meta") => `(tactic| (refine' et_as ?t1 ?t2; (case t1 => walk_at "Met")))
local macro_rules | `(tactic| walk_at "Mif") => `(tactic| (refine' sx_if ?t ?a ?b; (case t => walk_at "Met")))
local macro_rules | `(tactic| walk_at "Mret") => `(tactic| (refine' sx_ret ?h ?k; (case h => walk_at "Mev")))
local macro_rules | `(tactic| walk_at "Mpq") => `(tactic| repeat' (first | exact pq_nil | (refine' pq_out rfl ?_) | (refine' pq_skip rfl ?_) | (refine' pq_par ?_ ?_)))
local macro_rules | `(tactic| walk_at "Mrt") => `(tactic| (first | refine' ⟨rr_d ?_, ?_⟩ | refine' ⟨rr_lo ?_, ?_⟩ | refine' ⟨rr_at rfl ?_, ?_⟩); walk_at "Mpq")
local macro_rules | `(tactic| walk_at "Mapp") => `(tactic| (refine' sx_append ?n ?h ?he ?h1 ?hl ?k rfl rfl rfl rfl rfl rfl; (case n => walk_at "Mn"); (case h => first | exact .inl rfl | exact .inr rfl); (case he => walk_at "Mev"); (case h1 => first | exact .inl rfl | exact .inr rfl); (case hl => walk_at "Mlen")))
local macro_rules | `(tactic| walk_at "Mfor") => `(tactic| (refine' sx_forR ?en ?g ?m ?e ?n ?f ?h0 ?hs ?hd rfl (fun _ => rfl); (case en => walk_at "Mn"); (case g => walk_at "Mn"); (case m => walk_at "Mn"); (case e => walk_at "Mev")))
local macro_rules | `(tactic| walk_at "Mwh") => `(tactic| (refine' sx_whileW ?en ?g ?m ?a ?h0 ?I ?i0 ?hs; (case en => walk_at "Mn")))
/-! runs and passes -/
def dp (m : List Int) : List Int → List Int
  | [] => []
  | [x] => if m.contains x = true then [] else [x]
  | x :: y :: ys => if m.contains x = true then y :: dp m ys else x :: dp m (y :: ys)
def mr (m : List Int) : Nat → List Int → Nat
  | c, [] => c
  | c, x :: xs => if m.contains x = true then mr m (c + 1) xs else max c (mr m 0 xs)
theorem lb_dp (m : List Int) : ∀ (n : Nat) (l pre : List Int), l.length ≤ n → lbGo gVis m n (pre ++ l) pre.length = pre ++ dp m l := by
  intro n
  induction n with
  | zero =>
    intro l pre h
    have e : l = [] := List.eq_nil_of_length_eq_zero (by omega)
    subst e
    rfl
  | succ n ih =>
    intro l pre h
    cases l with
    | nil =>
      show (if pre.length < (pre ++ []).length then _ else pre ++ []) = pre ++ []
      rw [if_neg (by rw [List.append_nil]; omega)]
    | cons x xs =>
      have h0 : xs.length + 1 ≤ n + 1 := h
      have hp : pre.length < (pre ++ x :: xs).length := by rw [List.length_append, List.length_cons]; omega
      have hx : (pre ++ x :: xs).getD pre.length 0 = x := by
        rw [List.getD_eq_getElem?_getD, List.getElem?_append_right (Nat.le_refl _), Nat.sub_self]
        rfl
      show (if pre.length < (pre ++ x :: xs).length then lbGo gVis m n (if m.contains ((pre ++ x :: xs).getD pre.length 0) = true then gVis (pre ++ x :: xs) pre.length else pre ++ x :: xs) (pre.length + 1) else pre ++ x :: xs) = _
      rw [if_pos hp, hx]
      by_cases hm : m.contains x = true
      · rw [if_pos hm]
        have eg : gVis (pre ++ x :: xs) pre.length = pre ++ xs := by
          unfold gVis
          rw [List.eraseIdx_append_of_length_le (Nat.le_refl _), Nat.sub_self]
          rfl
        rw [eg]
        cases xs with
        | nil =>
          have e : dp m [x] = [] := if_pos hm
          rw [e]
          cases n with
          | zero => rfl
          | succ n =>
            show (if pre.length + 1 < (pre ++ []).length then _ else pre ++ []) = pre ++ []
            rw [if_neg (by rw [List.append_nil]; omega)]
        | cons y ys =>
          have e : dp m (x :: y :: ys) = y :: dp m ys := if_pos hm
          rw [e]
          have k := ih ys (pre ++ [y]) (by
            have : (y :: ys).length = ys.length + 1 := rfl
            omega)
          rw [List.length_append, List.append_assoc, List.append_assoc] at k
          exact k
      · rw [if_neg hm]
        have e : dp m (x :: xs) = x :: dp m xs := by
          cases xs with
          | nil => exact if_neg hm
          | cons y ys => exact if_neg hm
        rw [e]
        have k := ih xs (pre ++ [x]) (by omega)
        rw [List.length_append, List.append_assoc, List.append_assoc] at k
        exact k
theorem left_dp (m l : List Int) : leftF gVis m l = dp m l := lb_dp m l.length l [] (Nat.le_refl _)
theorem mr_dp (m : List Int) : ∀ (n : Nat) (l : List Int), l.length ≤ n → ∀ c, mr m c (dp m l) = mr m (2 * c) l / 2 := by
  intro n
  induction n with
  | zero =>
    intro l h c
    have e : l = [] := List.eq_nil_of_length_eq_zero (by omega)
    subst e
    show c = 2 * c / 2
    omega
  | succ n ih =>
    intro l h c
    cases l with
    | nil =>
      show c = 2 * c / 2
      omega
    | cons x xs =>
      have h0 : xs.length ≤ n := Nat.le_of_succ_le_succ h
      by_cases hm : m.contains x = true
      · have e2 : mr m (2 * c) (x :: xs) = mr m (2 * c + 1) xs := if_pos hm
        rw [e2]
        cases xs with
        | nil =>
          have e : dp m [x] = [] := if_pos hm
          rw [e]
          show c = (2 * c + 1) / 2
          omega
        | cons y ys =>
          have e : dp m (x :: y :: ys) = y :: dp m ys := if_pos hm
          rw [e]
          have h1 : ys.length ≤ n := by
            have : (y :: ys).length = ys.length + 1 := rfl
            omega
          by_cases hy : m.contains y = true
          · have e3 : mr m c (y :: dp m ys) = mr m (c + 1) (dp m ys) := if_pos hy
            have e4 : mr m (2 * c + 1) (y :: ys) = mr m (2 * c + 1 + 1) ys := if_pos hy
            rw [e3, e4, ih ys h1 (c + 1)]
            rfl
          · have e3 : mr m c (y :: dp m ys) = max c (mr m 0 (dp m ys)) := if_neg hy
            have e4 : mr m (2 * c + 1) (y :: ys) = max (2 * c + 1) (mr m 0 ys) := if_neg hy
            rw [e3, e4, ih ys h1 0, Nat.mul_zero]
            omega
      · have e : dp m (x :: xs) = x :: dp m xs := by
          cases xs with
          | nil => exact if_neg hm
          | cons y ys => exact if_neg hm
        have e2 : mr m (2 * c) (x :: xs) = max (2 * c) (mr m 0 xs) := if_neg hm
        have e3 : mr m c (x :: dp m xs) = max c (mr m 0 (dp m xs)) := if_neg hm
        rw [e, e2, e3, ih xs h0 0, Nat.mul_zero]
        omega
theorem mr_after (m l : List Int) : ∀ t, mr m 0 (afterF m t l) = mr m 0 l / 2 ^ t
  | 0 => by
    show mr m 0 l = mr m 0 l / 2 ^ 0
    rw [Nat.pow_zero, Nat.div_one]
  | t + 1 => by
    show mr m 0 (leftF gVis m (afterF m t l)) = _
    rw [left_dp, mr_dp m _ _ (Nat.le_refl _) 0, Nat.mul_zero, mr_after m l t, Nat.div_div_eq_div_mul, Nat.pow_succ]
theorem mr_ge (m : List Int) : ∀ (l : List Int) (c : Nat), c ≤ mr m c l
  | [], c => Nat.le_refl _
  | x :: xs, c => by
    show c ≤ if m.contains x = true then mr m (c + 1) xs else max c (mr m 0 xs)
    split
    · exact Nat.le_trans (Nat.le_succ _) (mr_ge m xs (c + 1))
    · exact Nat.le_max_left ..
theorem mr_zero (m : List Int) : ∀ l : List Int, mr m 0 l = 0 ↔ l.filter (fun v => m.contains v) = []
  | [] => ⟨fun _ => rfl, fun _ => rfl⟩
  | x :: xs => by
    by_cases hm : m.contains x = true
    · rw [List.filter_cons_of_pos (p := fun v => m.contains v) hm]
      have e : mr m 0 (x :: xs) = mr m 1 xs := if_pos hm
      have := mr_ge m xs 1
      rw [e]
      exact ⟨fun z => by omega, fun z => by cases z⟩
    · rw [List.filter_cons_of_neg (p := fun v => m.contains v) hm]
      have e : mr m 0 (x :: xs) = max 0 (mr m 0 xs) := if_neg hm
      rw [e, Nat.zero_max]
      exact mr_zero m xs
theorem fold_max_app : ∀ (l : List Int) (a b : Int), (l ++ [b]).foldl max a = max (l.foldl max a) b
  | [], a, b => rfl
  | x :: l, a, b => fold_max_app l (max a x) b
theorem rn_inv (m l : List Int) : ∀ i, i ≤ l.length → 0 ≤ (rnAt m l i).2 ∧ max (((rnAt m l i).1.map (·.2)).foldl max 0) ((mr m (rnAt m l i).2.toNat (l.drop i) : Nat) : Int) = ((mr m 0 l : Nat) : Int) ∧ ∀ q ∈ (rnAt m l i).1, 0 < q.2
  | 0, _ => ⟨Int.le_refl 0, by
    show max (0 : Int) ((mr m 0 l : Nat) : Int) = _
    omega, fun q z => by cases z⟩
  | i + 1, h => by
    obtain ⟨h1, h2, h3⟩ := rn_inv m l i (by omega)
    have hi : i < l.length := by omega
    have ed : l.drop i = l.getD i 0 :: l.drop (i + 1) := by
      rw [List.drop_eq_getElem_cons hi, List.getD_eq_getElem?_getD, List.getElem?_eq_getElem hi]
      rfl
    rw [ed] at h2
    show 0 ≤ (rnS m (rnAt m l i) i (l.getD i 0)).2 ∧ _
    rw [show rnAt m l (i + 1) = rnS m (rnAt m l i) i (l.getD i 0) from rfl]
    generalize rnAt m l i = x at *
    obtain ⟨f, c⟩ := x
    have h1 : 0 ≤ c := h1
    unfold rnS
    by_cases hm : m.contains (l.getD i 0) = true
    · rw [if_pos hm]
      have e : mr m c.toNat (l.getD i 0 :: l.drop (i + 1)) = mr m (c.toNat + 1) (l.drop (i + 1)) := if_pos hm
      refine ⟨by show 0 ≤ c + 1; omega, ?_, h3⟩
      show max ((f.map (·.2)).foldl max 0) ((mr m (c + 1).toNat (l.drop (i + 1)) : Nat) : Int) = _
      rw [show (c + 1).toNat = c.toNat + 1 by omega, ← e]
      exact h2
    · rw [if_neg hm]
      have e : mr m c.toNat (l.getD i 0 :: l.drop (i + 1)) = max c.toNat (mr m 0 (l.drop (i + 1))) := if_neg hm
      have h2' : max ((f.map (·.2)).foldl max 0) ((mr m c.toNat (l.getD i 0 :: l.drop (i + 1)) : Nat) : Int) = ((mr m 0 l : Nat) : Int) := h2
      rw [e] at h2'
      by_cases hc : 0 < c
      · rw [if_pos hc]
        refine ⟨Int.le_refl 0, ?_, fun q z => ?_⟩
        · show max (((f ++ [((i : Int) - c, c)]).map (·.2)).foldl max 0) ((mr m 0 (l.drop (i + 1)) : Nat) : Int) = _
          rw [List.map_append]
          show max (((f.map (·.2)) ++ [c]).foldl max 0) _ = _
          rw [fold_max_app]
          omega
        · rcases List.mem_append.mp z with z | z
          · exact h3 q z
          · rw [List.mem_singleton.mp z]
            exact hc
      · rw [if_neg hc]
        have c0 : c = 0 := by omega
        subst c0
        refine ⟨Int.le_refl 0, ?_, h3⟩
        show max ((f.map (·.2)).foldl max 0) ((mr m 0 (l.drop (i + 1)) : Nat) : Int) = _
        have z : max (Int.toNat 0) (mr m 0 (l.drop (i + 1))) = mr m 0 (l.drop (i + 1)) := Nat.zero_max _
        rw [z] at h2'
        exact h2'
theorem maxDf_fold : ∀ l : List Int, (∀ v ∈ l, 0 < v) → maxDf 0 l = l.foldl max 0
  | [], _ => rfl
  | y :: ys, h => by
    have := h y (List.mem_cons_self ..)
    show ys.foldl max y = ys.foldl max (max 0 y)
    rw [show max 0 y = y by omega]
theorem runs_max (m l : List Int) : maxDf 0 ((runsF m l).map (·.2)) = ((mr m 0 l : Nat) : Int) := by
  obtain ⟨h1, h2, h3⟩ := rn_inv m l l.length (Nat.le_refl _)
  rw [List.drop_length] at h2
  unfold runsF
  generalize rnAt m l l.length = x at *
  obtain ⟨f, c⟩ := x
  have h2' : max ((f.map (·.2)).foldl max 0) ((c.toNat : Nat) : Int) = ((mr m 0 l : Nat) : Int) := h2
  have h1 : 0 ≤ c := h1
  show maxDf 0 ((if 0 < c then f ++ [((l.length : Int) - c, c)] else f).map (·.2)) = _
  by_cases hc : 0 < c
  · rw [if_pos hc, maxDf_fold, List.map_append]
    · show ((f.map (·.2)) ++ [c]).foldl max 0 = _
      rw [fold_max_app]
      omega
    · intro v hv
      obtain ⟨q, hq, rfl⟩ := List.mem_map.mp hv
      rcases List.mem_append.mp hq with z | z
      · exact h3 q z
      · rw [List.mem_singleton.mp z]
        exact hc
  · rw [if_neg hc, maxDf_fold]
    · have : 0 ≤ (f.map (·.2)).foldl max 0 := by
        have z : ∀ (l : List Int) (a : Int), a ≤ l.foldl max a := fun l => by
          induction l with
          | nil => exact fun a => Int.le_refl _
          | cons x xs ih => exact fun a => Int.le_trans (Int.le_max_left a x) (ih (max a x))
        exact z _ 0
      omega
    · intro v hv
      obtain ⟨q, hq, rfl⟩ := List.mem_map.mp hv
      exact h3 q hq
theorem bits_le (n t : Nat) : Builtin.Int.intBits (n : Int) ≤ t ↔ n / 2 ^ t = 0 := by
  rw [Nat.div_eq_zero_iff_lt (Nat.two_pow_pos t)]
  unfold Builtin.Int.intBits
  by_cases h : n = 0
  · subst h
    exact ⟨fun _ => Nat.two_pow_pos t, fun _ => Nat.zero_le _⟩
  · rw [if_neg (by simpa using h)]
    rw [show (n : Int).natAbs = n from Int.natAbs_natCast n]
    exact (Nat.log2_lt h)
/-- no marked value is left after t passes: as many passes as are needed -/
theorem none_left (m l : List Int) (t : Nat) : (afterF m t l).filter (fun v => m.contains v) = [] ↔ neededF m l ≤ (t : Int) := by
  rw [← mr_zero, mr_after]
  unfold neededF
  rw [runs_max, ← bits_le]
  omega
end Lw

set_option Elab.async false
set_option linter.all false
set_option maxRecDepth 100000
set_option maxHeartbeats 4000000
namespace Lw
open PySem PySem.Spec PyProof.Rows L2 Mw
local macro_rules | `(tactic| walk_at "Mkb") => `(tactic| first | exact kb_NoneType_int | exact kb_NoneType_bool | exact kb_NoneType_list | exact kb_NoneType_str | exact kb_NoneType_dict | exact kb_NoneType_tuple | exact kb_bool_int | exact kb_bool_bool | exact kb_bool_list | exact kb_bool_str | exact kb_bool_dict | exact kb_bool_tuple | exact kb_int_int | exact kb_int_bool | exact kb_int_list | exact kb_int_str | exact kb_int_dict | exact kb_int_tuple | exact kb_str_int | exact kb_str_bool | exact kb_str_list | exact kb_str_str | exact kb_str_dict | exact kb_str_tuple | exact kb_list_int | exact kb_list_bool | exact kb_list_list | exact kb_list_str | exact kb_list_dict | exact kb_list_tuple | exact kb_tuple_int | exact kb_tuple_bool | exact kb_tuple_list | exact kb_tuple_str | exact kb_tuple_dict | exact kb_tuple_tuple | exact kb_dict_int | exact kb_dict_bool | exact kb_dict_list | exact kb_dict_str | exact kb_dict_dict | exact kb_dict_tuple)
local macro_rules | `(tactic| walk_at "Mn") => `(tactic| with_reducible assumption)
local macro_rules | `(tactic| walk_at "Mnum") => `(tactic| first | assumption | decide | omega | (constructor <;> first | assumption | decide | omega))
local macro_rules | `(tactic| walk_at "Mcv") => `(tactic| first | exact cv_d | exact cv_own | exact cv_at | exact Cv.refl)
local macro_rules | `(tactic| walk_at "Mev") => `(tactic| first
  | exact ev_int | exact ev_bl | exact ev_non | exact ev_str
  | (refine' ev_d ?hn ?hs; (case hn => walk_at "Mn"); (case hs => rfl))
  | (refine' ev_at ?hn ?hs; (case hn => walk_at "Mn"); (case hs => first | exact .inl rfl | exact .inr rfl))
  | (refine' ev_lo ?hn ?hs; (case hn => walk_at "Mn"); (case hs => rfl))
  | (refine' ev_add ?h1 ?h2; (case h1 => walk_at "Mev"); (case h2 => walk_at "Mev"))
  | (refine' ev_sub ?h1 ?h2; (case h1 => walk_at "Mev"); (case h2 => walk_at "Mev"))
  | (refine' ev_pow ?h1 ?h2 ?h3; (case h1 => walk_at "Mev"); (case h2 => walk_at "Mev"); (case h3 => walk_at "Mnum"))
  | (refine' ev_mod ?h1 ?h2 ?h3; (case h1 => walk_at "Mev"); (case h2 => walk_at "Mev"); (case h3 => walk_at "Mnum"))
  | (refine' ev_fdiv ?h1 ?h2 ?h3; (case h1 => walk_at "Mev"); (case h2 => walk_at "Mev"); (case h3 => walk_at "Mnum"))
  | (refine' ev_mul ?h1 ?h2 ?h3; (case h1 => walk_at "Mev"); (case h2 => walk_at "Mev"); (case h3 => first | assumption | (left; constructor <;> walk_at "Mnum") | (right; constructor <;> walk_at "Mnum")))
  | (refine' ev_intI ?h0 ?h1 rfl; (case h0 => walk_at "Mn"); (case h1 => walk_at "Mev"))
  | (refine' ev_intB ?h0 ?h1 rfl; (case h0 => walk_at "Mn"); (case h1 => walk_at "Mev"))
  | (refine' ev_next ?C ?en ?g ?m ?h ?b; (case C => walk_at "Mn"); (case en => walk_at "Mn"); (case g => walk_at "Mn"); (case m => walk_at "Mn"); (case h => first | exact .inr rfl | exact .inl rfl); (case b => walk_at "Mdr"))
  | (refine' ev_pick ?h1 ?h2 ?hp ?h3 ?h6; (case h1 => walk_at "Mev"); (case h2 => walk_at "Mev"); (case hp => first | exact .inl rfl | exact .inr rfl); (case h3 => walk_at "Mcv"); (case h6 => exact fun _ _ => rfl))
  | (refine' ev_globF ?g ?m rfl; (case g => walk_at "Mn"); (case m => walk_at "Mn"))
  | (refine' ev_globI ?g ?m rfl; (case g => walk_at "Mn"); (case m => walk_at "Mn"))
  | (refine' ev_isi ?h0 ?h1 ?h2 ?h3 ?h4 rfl rfl rfl; (case h0 => walk_at "Mn"); (case h1 => walk_at "Mn"); (case h2 => walk_at "Mev"); (case h3 => rfl); (case h4 => walk_at "Mkb"))
  | (refine' ev_len ?h0 ?h1 ?h2 rfl; (case h0 => walk_at "Mn"); (case h1 => walk_at "Mev"); (case h2 => walk_at "Mcv"))
  | (refine' ev_list ?h0 ?h1 ?h2 rfl; (case h0 => walk_at "Mn"); (case h1 => walk_at "Mev"); (case h2 => walk_at "Mcv"))
  | (refine' Ev.cast ?hh ?qq; (case hh => (refine' ev_go ?C ?en ?g ?a ?ha ?hd ?l1 ?hp ?hi rfl rfl rfl; (case C => walk_at "Mn"); (case en => walk_at "Mn"); (case g => walk_at "Mn"); (case ha => walk_at "Mea"); (case hd => rfl); (case l1 => rfl); (case hi => rfl); (case hp => walk_at "Mpre"))); (case qq => rfl))
  | (refine' Ev.cast ?hh ?qq; (case hh => (refine' ev_go ?C ?en ?g (?a, ?b) ?ha ?hd ?l1 ?hp ?hi rfl rfl rfl; (case C => walk_at "Mn"); (case en => walk_at "Mn"); (case g => walk_at "Mn"); (case ha => walk_at "Mea"); (case hd => rfl); (case l1 => rfl); (case hi => rfl); (case hp => walk_at "Mpre"))); (case qq => rfl))
  | (refine' Ev.cast ?hh ?qq; (case hh => (refine' ev_go ?C ?en ?g (?a, ?b, ?c) ?ha ?hd ?l1 ?hp ?hi rfl rfl rfl; (case C => walk_at "Mn"); (case en => walk_at "Mn"); (case g => walk_at "Mn"); (case ha => walk_at "Mea"); (case hd => rfl); (case l1 => rfl); (case hi => rfl); (case hp => walk_at "Mpre"))); (case qq => rfl))
  | (refine' ev_sliceTI ?h1 ?h2 ?h3 ?h4; (case h1 => walk_at "Mev"); (case h2 => walk_at "Mcv"); (case h3 => walk_at "Mev"); (case h4 => walk_at "Mnum"))
  | (refine' ev_sliceDI ?h1 ?h2 ?h3 ?h4; (case h1 => walk_at "Mev"); (case h2 => walk_at "Mcv"); (case h3 => walk_at "Mev"); (case h4 => walk_at "Mnum"))
  | (refine' ev_sliceT ?h1 ?h2 ?h3 ?h4; (case h1 => walk_at "Mev"); (case h2 => walk_at "Mcv"); (case h3 => walk_at "Mev"); (case h4 => walk_at "Mnum"))
  | (refine' ev_sliceD ?h1 ?h2 ?h3 ?h4; (case h1 => walk_at "Mev"); (case h2 => walk_at "Mcv"); (case h3 => walk_at "Mev"); (case h4 => walk_at "Mnum"))
  | (refine' ev_ixL ?h1 ?h2 ?hp ?h3 ?h4 ?h5 ?h6; (case h1 => walk_at "Mev"); (case h2 => walk_at "Mev"); (case hp => first | exact .inl rfl | exact .inr rfl); (case h3 => walk_at "Mcv"); (case h4 => rfl); (case h5 => rfl); (case h6 => exact fun _ _ => rfl))
  | (refine' ev_cj ?h; (case h => walk_at "Mcj"))
  | (refine' ev_isN ?h; (case h => walk_at "Mev"))
  | (refine' ev_notN ?h; (case h => walk_at "Mev"))
  | (refine' ev_lst ?h1 ?h2 ?h3; (case h1 => walk_at "Mea"); (case h2 => rfl); (case h3 => exact Nat.le_of_ble_eq_true rfl))
  | (refine' ev_repB ?h1 ?h2 ?hp ?h3 ?h4; (case h1 => walk_at "Mev"); (case h2 => walk_at "Mev"); (case hp => first | exact .inl rfl | exact .inr rfl); (case h3 => walk_at "Mcv"); (case h4 => first | exact Nat.le_of_ble_eq_true rfl | walk_at "Mlen"))
  | (refine' ev_catA ?h1 ?h2 ?hp ?h4 ?h5; (case h1 => walk_at "Mev"); (case h2 => walk_at "Mev"); (case hp => first | exact .inl rfl | exact .inr rfl); (case h4 => walk_at "Mcv"); (case h5 => walk_at "Mlen"))
  | (refine' ev_cat ?h1 ?h2 ?hp ?h3 ?h4 ?h5; (case h1 => walk_at "Mev"); (case h2 => walk_at "Mev"); (case hp => first | exact .inl rfl | exact .inr rfl); (case h3 => walk_at "Mcv"); (case h4 => walk_at "Mcv"); (case h5 => walk_at "Mlen"))
  )
local macro_rules | `(tactic| walk_at "Mpre") => `(tactic| first | trivial | assumption | (simp only [List.length_map]; omega) | (constructor <;> first | assumption | (simp only [List.length_map]; omega)))
local macro_rules | `(tactic| walk_at "Mcj") => `(tactic| first
  | (refine' cj_lt ?h1 ?h2; (case h1 => walk_at "Mev"); (case h2 => walk_at "Mev"))
  | (refine' cj_le ?h1 ?h2; (case h1 => walk_at "Mev"); (case h2 => walk_at "Mev"))
  | (refine' cj_gt ?h1 ?h2; (case h1 => walk_at "Mev"); (case h2 => walk_at "Mev"))
  | (refine' cj_ge ?h1 ?h2; (case h1 => walk_at "Mev"); (case h2 => walk_at "Mev"))
  | (refine' cj_eqI ?h1 ?h2; (case h1 => walk_at "Mev"); (case h2 => walk_at "Mev"))
  | (refine' cj_neI ?h1 ?h2; (case h1 => walk_at "Mev"); (case h2 => walk_at "Mev"))
  | (refine' cj_eqS ?h1 ?h2; (case h1 => walk_at "Mev"); (case h2 => walk_at "Mev"))
  | (refine' cj_neS ?h1 ?h2; (case h1 => walk_at "Mev"); (case h2 => walk_at "Mev"))
  | (refine' cj_in ?h1 ?h2 ?h3 rfl; (case h1 => walk_at "Mev"); (case h2 => walk_at "Mev"); (case h3 => walk_at "Mcv"))
  | (refine' cj_notIn ?h1 ?h2 ?h3 rfl; (case h1 => walk_at "Mev"); (case h2 => walk_at "Mev"); (case h3 => walk_at "Mcv")))
local macro_rules | `(tactic| walk_at "Mea") => `(tactic| first
  | exact ea_nil
  | (refine' ea_cons ?h1 ?h2 ?pk rfl; (case h1 => walk_at "Mev"); (case h2 => walk_at "Mea"); (case pk => first | exact .inl rfl | exact .inr rfl)))
local macro_rules | `(tactic| walk_at "Mdr") => `(tactic| first | assumption | (simp only [Dr.nx_k] at *; omega))
local macro_rules | `(tactic| walk_at "Mlen") => `(tactic| first | assumption | omega | (simp only [List.length_map, List.length_append, List.length_cons, List.length_nil, List.length_replicate, List.length_range]; omega) | (refine Nat.le_trans (Nat.add_le_add_left len_ite_le _) ?_; simp only [List.length_map, List.length_append, List.length_cons, List.length_nil, List.length_replicate, List.length_range]; omega))
local macro_rules | `(tactic| walk_at "Mwk") => `(tactic| (refine' wk_of ?_; repeat' (first | exact wk_nil | (refine' wk_same ?_) | (refine' wk_d ?_) | (refine' wk_lo ?_) | (refine' wk_eq ?_ ?_))))
local macro_rules | `(tactic| walk_at "Mset") => `(tactic| (refine' sx_set ?n ?e ?h0 ?np ?k ?hs; (case n => walk_at "Mn"); (case e => walk_at "Mev"); (case h0 => rfl); (case np => rfl); (case hs => rfl)))
local macro_rules | `(tactic| walk_at "Msix") => `(tactic| (refine' sx_setIx ?n ?he ?h1 ?hi ?hj ?k ?hs ?hw ?h2 ?ha; (case n => walk_at "Mn"); (case he => walk_at "Mev"); (case h1 => first | exact .inl rfl | exact .inr rfl); (case hi => walk_at "Mev"); (case hj => rfl); (case hs => rfl); (case hw => rfl); (case h2 => rfl); (case ha => exact fun _ => rfl)))
local macro_rules | `(tactic| walk_at "Met") => `(tactic| first
  | (refine' et_not ?h; (case h => walk_at "Met"))
  | (refine' et_w ?h; (case h => walk_at "Mew"))
  | (refine' et_cj ?h; (case h => walk_at "Mcj"))
  | (refine' et_isN ?h; (case h => walk_at "Mev"))
  | (refine' et_notN ?h; (case h => walk_at "Mev"))
  | (refine' et_val ?h ?he; (case h => walk_at "Mev"); (case he => exact fun _ => rfl)))
local macro_rules | `(tactic| walk_at "Mew") => `(tactic| first
  | (refine' ew_and1 ?h; (case h => walk_at "Met"))
  | (refine' ew_or1 ?h; (case h => walk_at "Met"))
  | (refine' ew_and ?h1 ?h2; (case h1 => walk_at "Met"); (case h2 => (intro _; walk_at "Mew")))
  | (refine' ew_or ?h1 ?h2; (case h1 => walk_at "Met"); (case h2 => (intro _; walk_at "Mew"))))
local macro_rules | `(tactic| walk_at "Meta") => `(tactic| (refine' et_as ?t1 ?t2; (case t1 => walk_at "Met")))
local macro_rules | `(tactic| walk_at "Mif") => `(tactic| (refine' sx_if ?t ?a ?b; (case t => walk_at "Met")))
local macro_rules | `(tactic| walk_at "Mret") => `(tactic| (refine' sx_ret ?h ?k; (case h => walk_at "Mev")))
local macro_rules | `(tactic| walk_at "Mpq") => `(tactic| repeat' (first | exact pq_nil | (refine' pq_out rfl ?_) | (refine' pq_skip rfl ?_) | (refine' pq_par ?_ ?_)))
local macro_rules | `(tactic| walk_at "Mrt") => `(tactic| (first | refine' ⟨rr_d ?_, ?_⟩ | refine' ⟨rr_lo ?_, ?_⟩ | refine' ⟨rr_at rfl ?_, ?_⟩); walk_at "Mpq")
local macro_rules | `(tactic| walk_at "Mapp") => `(tactic| (refine' sx_append ?n ?h ?he ?h1 ?hl ?k rfl rfl rfl rfl rfl rfl; (case n => walk_at "Mn"); (case h => first | exact .inl rfl | exact .inr rfl); (case he => walk_at "Mev"); (case h1 => first | exact .inl rfl | exact .inr rfl); (case hl => walk_at "Mlen")))
local macro_rules | `(tactic| walk_at "Mfor") => `(tactic| (refine' sx_forR ?en ?g ?m ?e ?n ?f ?h0 ?hs ?hd rfl (fun _ => rfl); (case en => walk_at "Mn"); (case g => walk_at "Mn"); (case m => walk_at "Mn"); (case e => walk_at "Mev")))
local macro_rules | `(tactic| walk_at "Mwh") => `(tactic| (refine' sx_whileW ?en ?g ?m ?a ?h0 ?I ?i0 ?hs; (case en => walk_at "Mn")))
theorem mkS_inv (w : Bool) (d : Dr) (n : Nat) : (itr (mkS w) n ([], d)).1.Nodup ∧ ∀ v ∈ (itr (mkS w) n ([], d)).1, -1 ≤ v ∧ v < 15 :=
  itr_ind (f := mkS w) (x := ([], d)) (C := fun n (y : List Int × Dr) => y.1.Nodup ∧ ∀ v ∈ y.1, -1 ≤ v ∧ v < 15) ⟨List.nodup_nil, fun v z => by cases z⟩ (fun n y ⟨h1, h2⟩ => by
    have hv : -1 ≤ y.2.val % (if w = true then 16 else 6) - 1 ∧ y.2.val % (if w = true then 16 else 6) - 1 < 15 := by
      have h3 : 0 < (if w = true then 16 else 6 : Int) ∧ (if w = true then 16 else 6 : Int) ≤ 16 := by split <;> omega
      have a1 := Int.emod_nonneg y.2.val (show (if w = true then 16 else 6 : Int) ≠ 0 by omega)
      have a2 := Int.emod_lt_of_pos y.2.val h3.1
      omega
    show (if y.1.contains (y.2.val % (if w = true then 16 else 6) - 1) = true then y.1 else y.1 ++ [y.2.val % (if w = true then 16 else 6) - 1] : List Int).Nodup ∧ ∀ v ∈ (if y.1.contains (y.2.val % (if w = true then 16 else 6) - 1) = true then y.1 else y.1 ++ [y.2.val % (if w = true then 16 else 6) - 1] : List Int), -1 ≤ v ∧ v < 15
    generalize y.2.val % (if w = true then 16 else 6) - 1 = v0 at hv
    by_cases hc : y.1.contains v0 = true
    · rw [if_pos hc]
      exact ⟨h1, h2⟩
    · rw [if_neg hc]
      refine ⟨List.nodup_append.mpr ⟨h1, List.nodup_cons.mpr ⟨(fun z => by cases z), List.nodup_nil⟩, fun a ha b hb z => ?_⟩, fun v hm => ?_⟩
      · rw [List.mem_singleton.mp hb] at z
        subst z
        exact hc (List.contains_iff_mem.mpr ha)
      · rcases List.mem_append.mp hm with z | z
        · exact h2 v z
        · rw [List.mem_singleton.mp z]
          exact hv) n
theorem marks_ok (d : Dr) (most : Int) (hm : 0 ≤ most ∧ most ≤ 12) : MkOk (d.marks most).1 ∧ (∀ v ∈ (d.marks most).1, -1 ≤ v ∧ v < 15) ∧ d.k ≤ (d.marks most).2.k ∧ (d.marks most).2.k ≤ d.k + 20 := by
  have go : ∀ (w : Bool) (e : Dr), MkOk (e.marks2 w most).1 ∧ (∀ v ∈ (e.marks2 w most).1, -1 ≤ v ∧ v < 15) ∧ e.k ≤ (e.marks2 w most).2.k ∧ (e.marks2 w most).2.k ≤ e.k + 13 := fun w e => by
    have hn : 0 ≤ mkN w e most ∧ mkN w e most < 13 := by
      unfold mkN
      have h1 : 0 < (if w = true then 12 else most) + 1 ∧ (if w = true then 12 else most) + 1 ≤ 13 := by split <;> omega
      exact ⟨Int.emod_nonneg _ (by omega), Int.lt_of_lt_of_le (Int.emod_lt_of_pos _ h1.1) h1.2⟩
    unfold Dr.marks2
    obtain ⟨a1, a2⟩ := mkS_inv w e.nx (mkN w e most).toNat
    obtain ⟨b1, b2⟩ := mkS_at w e.nx (mkN w e most).toNat
    rw [Dr.nx_k] at b1
    exact ⟨⟨a1, by omega⟩, a2, by omega, by omega⟩
  unfold Dr.marks
  split
  · obtain ⟨a, b, c1, c2⟩ := go (decide (d.val % 4 = 0)) d.nx
    rw [Dr.nx_k] at c1 c2
    exact ⟨a, b, by omega, by omega⟩
  · obtain ⟨a, b, c1, c2⟩ := go false d
    exact ⟨a, b, by omega, by omega⟩
theorem small_of {ns : List Int} (h : ns.length ≤ 1000) (h2 : ∀ v ∈ ns, -1 ≤ v ∧ v < 15) : smallL ns := ⟨h, fun n hn => by
  obtain ⟨a, b⟩ := h2 n hn
  exact Nat.lt_of_le_of_lt (show n.natAbs ≤ 15 by omega) (by decide +kernel)⟩
theorem after_mem {m l : List Int} {P : Int → Prop} (h : ∀ v ∈ l, P v) : ∀ t, ∀ v ∈ afterF m t l, P v
  | 0 => h
  | t + 1 => fun v hv => by
    have hv : v ∈ leftF gVis m (afterF m t l) := hv
    rw [left_dp] at hv
    have sub : ∀ (n : Nat) (l : List Int), l.length ≤ n → ∀ v ∈ dp m l, v ∈ l := fun n => by
      induction n with
      | zero =>
        intro l h v hv
        have e : l = [] := List.eq_nil_of_length_eq_zero (by omega)
        subst e
        exact hv
      | succ n ih =>
        intro l h v hv
        match l, h, hv with
        | [], _, hv => exact hv
        | [x], _, hv =>
          have hv : v ∈ (if m.contains x = true then [] else [x] : List Int) := hv
          split at hv
          · cases hv
          · exact hv
        | x :: y :: ys, h, hv =>
          have h0 : (y :: ys).length ≤ n := Nat.le_of_succ_le_succ h
          have hv : v ∈ (if m.contains x = true then y :: dp m ys else x :: dp m (y :: ys)) := hv
          split at hv
          · rcases List.mem_cons.mp hv with z | z
            · rw [z]
              exact List.mem_cons_of_mem _ (List.mem_cons_self ..)
            · exact List.mem_cons_of_mem _ (List.mem_cons_of_mem _ (ih ys (Nat.le_of_succ_le h0) v z))
          · rcases List.mem_cons.mp hv with z | z
            · rw [z]
              exact List.mem_cons_self ..
            · exact List.mem_cons_of_mem _ (ih (y :: ys) h0 v z)
    exact after_mem h t v (sub _ _ (Nat.le_refl _) v hv)
theorem mr_le (m : List Int) : ∀ (l : List Int) (c : Nat), mr m c l ≤ c + l.length
  | [], c => Nat.le_refl _
  | x :: xs, c => by
    show (if m.contains x = true then mr m (c + 1) xs else max c (mr m 0 xs)) ≤ c + (xs.length + 1)
    have a := mr_le m xs (c + 1)
    have b := mr_le m xs 0
    split <;> omega
theorem needed_le {m l : List Int} (h : (l.length : Int) ≤ 120) : 0 ≤ neededF m l ∧ neededF m l ≤ 7 := by
  unfold neededF
  rw [runs_max]
  refine ⟨Int.natCast_nonneg _, ?_⟩
  have := mr_le m l 0
  have k : Builtin.Int.intBits ((mr m 0 l : Nat) : Int) ≤ 7 := (bits_le _ 7).mpr (Nat.div_eq_of_lt (by
    show _ < 128
    omega))
  omega
end Lw

set_option Elab.async false
set_option linter.all false
set_option maxRecDepth 100000
set_option maxHeartbeats 4000000
namespace Lw
open PySem PySem.Spec PyProof.Rows L2 Mw
local macro_rules | `(tactic| walk_at "Mkb") => `(tactic| first | exact kb_NoneType_int | exact kb_NoneType_bool | exact kb_NoneType_list | exact kb_NoneType_str | exact kb_NoneType_dict | exact kb_NoneType_tuple | exact kb_bool_int | exact kb_bool_bool | exact kb_bool_list | exact kb_bool_str | exact kb_bool_dict | exact kb_bool_tuple | exact kb_int_int | exact kb_int_bool | exact kb_int_list | exact kb_int_str | exact kb_int_dict | exact kb_int_tuple | exact kb_str_int | exact kb_str_bool | exact kb_str_list | exact kb_str_str | exact kb_str_dict | exact kb_str_tuple | exact kb_list_int | exact kb_list_bool | exact kb_list_list | exact kb_list_str | exact kb_list_dict | exact kb_list_tuple | exact kb_tuple_int | exact kb_tuple_bool | exact kb_tuple_list | exact kb_tuple_str | exact kb_tuple_dict | exact kb_tuple_tuple | exact kb_dict_int | exact kb_dict_bool | exact kb_dict_list | exact kb_dict_str | exact kb_dict_dict | exact kb_dict_tuple)
local macro_rules | `(tactic| walk_at "Mn") => `(tactic| with_reducible assumption)
local macro_rules | `(tactic| walk_at "Mnum") => `(tactic| first | assumption | decide | omega | (constructor <;> first | assumption | decide | omega))
local macro_rules | `(tactic| walk_at "Mcv") => `(tactic| first | exact cv_d | exact cv_own | exact cv_at | exact Cv.refl)
local macro_rules | `(tactic| walk_at "Mev") => `(tactic| first
  | exact ev_int | exact ev_bl | exact ev_non | exact ev_str
  | (refine' ev_d ?hn ?hs; (case hn => walk_at "Mn"); (case hs => rfl))
  | (refine' ev_at ?hn ?hs; (case hn => walk_at "Mn"); (case hs => first | exact .inl rfl | exact .inr rfl))
  | (refine' ev_lo ?hn ?hs; (case hn => walk_at "Mn"); (case hs => rfl))
  | (refine' ev_add ?h1 ?h2; (case h1 => walk_at "Mev"); (case h2 => walk_at "Mev"))
  | (refine' ev_sub ?h1 ?h2; (case h1 => walk_at "Mev"); (case h2 => walk_at "Mev"))
  | (refine' ev_pow ?h1 ?h2 ?h3; (case h1 => walk_at "Mev"); (case h2 => walk_at "Mev"); (case h3 => walk_at "Mnum"))
  | (refine' ev_mod ?h1 ?h2 ?h3; (case h1 => walk_at "Mev"); (case h2 => walk_at "Mev"); (case h3 => walk_at "Mnum"))
  | (refine' ev_fdiv ?h1 ?h2 ?h3; (case h1 => walk_at "Mev"); (case h2 => walk_at "Mev"); (case h3 => walk_at "Mnum"))
  | (refine' ev_mul ?h1 ?h2 ?h3; (case h1 => walk_at "Mev"); (case h2 => walk_at "Mev"); (case h3 => first | assumption | (left; constructor <;> walk_at "Mnum") | (right; constructor <;> walk_at "Mnum")))
  | (refine' ev_intI ?h0 ?h1 rfl; (case h0 => walk_at "Mn"); (case h1 => walk_at "Mev"))
  | (refine' ev_intB ?h0 ?h1 rfl; (case h0 => walk_at "Mn"); (case h1 => walk_at "Mev"))
  | (refine' ev_next ?C ?en ?g ?m ?h ?b; (case C => walk_at "Mn"); (case en => walk_at "Mn"); (case g => walk_at "Mn"); (case m => walk_at "Mn"); (case h => first | exact .inr rfl | exact .inl rfl); (case b => walk_at "Mdr"))
  | (refine' ev_pick ?h1 ?h2 ?hp ?h3 ?h6; (case h1 => walk_at "Mev"); (case h2 => walk_at "Mev"); (case hp => first | exact .inl rfl | exact .inr rfl); (case h3 => walk_at "Mcv"); (case h6 => exact fun _ _ => rfl))
  | (refine' ev_globF ?g ?m rfl; (case g => walk_at "Mn"); (case m => walk_at "Mn"))
  | (refine' ev_globI ?g ?m rfl; (case g => walk_at "Mn"); (case m => walk_at "Mn"))
  | (refine' ev_isi ?h0 ?h1 ?h2 ?h3 ?h4 rfl rfl rfl; (case h0 => walk_at "Mn"); (case h1 => walk_at "Mn"); (case h2 => walk_at "Mev"); (case h3 => rfl); (case h4 => walk_at "Mkb"))
  | (refine' ev_len ?h0 ?h1 ?h2 rfl; (case h0 => walk_at "Mn"); (case h1 => walk_at "Mev"); (case h2 => walk_at "Mcv"))
  | (refine' ev_list ?h0 ?h1 ?h2 rfl; (case h0 => walk_at "Mn"); (case h1 => walk_at "Mev"); (case h2 => walk_at "Mcv"))
  | (refine' Ev.cast ?hh ?qq; (case hh => (refine' ev_go ?C ?en ?g ?a ?ha ?hd ?l1 ?hp ?hi rfl rfl rfl; (case C => walk_at "Mn"); (case en => walk_at "Mn"); (case g => walk_at "Mn"); (case ha => walk_at "Mea"); (case hd => rfl); (case l1 => rfl); (case hi => rfl); (case hp => walk_at "Mpre"))); (case qq => rfl))
  | (refine' Ev.cast ?hh ?qq; (case hh => (refine' ev_go ?C ?en ?g (?a, ?b) ?ha ?hd ?l1 ?hp ?hi rfl rfl rfl; (case C => walk_at "Mn"); (case en => walk_at "Mn"); (case g => walk_at "Mn"); (case ha => walk_at "Mea"); (case hd => rfl); (case l1 => rfl); (case hi => rfl); (case hp => walk_at "Mpre"))); (case qq => rfl))
  | (refine' Ev.cast ?hh ?qq; (case hh => (refine' ev_go ?C ?en ?g (?a, ?b, ?c) ?ha ?hd ?l1 ?hp ?hi rfl rfl rfl; (case C => walk_at "Mn"); (case en => walk_at "Mn"); (case g => walk_at "Mn"); (case ha => walk_at "Mea"); (case hd => rfl); (case l1 => rfl); (case hi => rfl); (case hp => walk_at "Mpre"))); (case qq => rfl))
  | (refine' ev_sliceTI ?h1 ?h2 ?h3 ?h4; (case h1 => walk_at "Mev"); (case h2 => walk_at "Mcv"); (case h3 => walk_at "Mev"); (case h4 => walk_at "Mnum"))
  | (refine' ev_sliceDI ?h1 ?h2 ?h3 ?h4; (case h1 => walk_at "Mev"); (case h2 => walk_at "Mcv"); (case h3 => walk_at "Mev"); (case h4 => walk_at "Mnum"))
  | (refine' ev_sliceT ?h1 ?h2 ?h3 ?h4; (case h1 => walk_at "Mev"); (case h2 => walk_at "Mcv"); (case h3 => walk_at "Mev"); (case h4 => walk_at "Mnum"))
  | (refine' ev_sliceD ?h1 ?h2 ?h3 ?h4; (case h1 => walk_at "Mev"); (case h2 => walk_at "Mcv"); (case h3 => walk_at "Mev"); (case h4 => walk_at "Mnum"))
  | (refine' ev_ixL ?h1 ?h2 ?hp ?h3 ?h4 ?h5 ?h6; (case h1 => walk_at "Mev"); (case h2 => walk_at "Mev"); (case hp => first | exact .inl rfl | exact .inr rfl); (case h3 => walk_at "Mcv"); (case h4 => rfl); (case h5 => rfl); (case h6 => exact fun _ _ => rfl))
  | (refine' ev_cj ?h; (case h => walk_at "Mcj"))
  | (refine' ev_isN ?h; (case h => walk_at "Mev"))
  | (refine' ev_notN ?h; (case h => walk_at "Mev"))
  | (refine' ev_lst ?h1 ?h2 ?h3; (case h1 => walk_at "Mea"); (case h2 => rfl); (case h3 => exact Nat.le_of_ble_eq_true rfl))
  | (refine' ev_repB ?h1 ?h2 ?hp ?h3 ?h4; (case h1 => walk_at "Mev"); (case h2 => walk_at "Mev"); (case hp => first | exact .inl rfl | exact .inr rfl); (case h3 => walk_at "Mcv"); (case h4 => first | exact Nat.le_of_ble_eq_true rfl | walk_at "Mlen"))
  | (refine' ev_catA ?h1 ?h2 ?hp ?h4 ?h5; (case h1 => walk_at "Mev"); (case h2 => walk_at "Mev"); (case hp => first | exact .inl rfl | exact .inr rfl); (case h4 => walk_at "Mcv"); (case h5 => walk_at "Mlen"))
  | (refine' ev_cat ?h1 ?h2 ?hp ?h3 ?h4 ?h5; (case h1 => walk_at "Mev"); (case h2 => walk_at "Mev"); (case hp => first | exact .inl rfl | exact .inr rfl); (case h3 => walk_at "Mcv"); (case h4 => walk_at "Mcv"); (case h5 => walk_at "Mlen"))
  )
local macro_rules | `(tactic| walk_at "Mpre") => `(tactic| first | trivial | assumption | (simp only [List.length_map]; omega) | (constructor <;> first | assumption | (simp only [List.length_map]; omega)))
local macro_rules | `(tactic| walk_at "Mcj") => `(tactic| first
  | (refine' cj_lt ?h1 ?h2; (case h1 => walk_at "Mev"); (case h2 => walk_at "Mev"))
  | (refine' cj_le ?h1 ?h2; (case h1 => walk_at "Mev"); (case h2 => walk_at "Mev"))
  | (refine' cj_gt ?h1 ?h2; (case h1 => walk_at "Mev"); (case h2 => walk_at "Mev"))
  | (refine' cj_ge ?h1 ?h2; (case h1 => walk_at "Mev"); (case h2 => walk_at "Mev"))
  | (refine' cj_eqI ?h1 ?h2; (case h1 => walk_at "Mev"); (case h2 => walk_at "Mev"))
  | (refine' cj_neI ?h1 ?h2; (case h1 => walk_at "Mev"); (case h2 => walk_at "Mev"))
  | (refine' cj_eqS ?h1 ?h2; (case h1 => walk_at "Mev"); (case h2 => walk_at "Mev"))
  | (refine' cj_neS ?h1 ?h2; (case h1 => walk_at "Mev"); (case h2 => walk_at "Mev"))
  | (refine' cj_in ?h1 ?h2 ?h3 rfl; (case h1 => walk_at "Mev"); (case h2 => walk_at "Mev"); (case h3 => walk_at "Mcv"))
  | (refine' cj_notIn ?h1 ?h2 ?h3 rfl; (case h1 => walk_at "Mev"); (case h2 => walk_at "Mev"); (case h3 => walk_at "Mcv")))
local macro_rules | `(tactic| walk_at "Mea") => `(tactic| first
  | exact ea_nil
  | (refine' ea_cons ?h1 ?h2 ?pk rfl; (case h1 => walk_at "Mev"); (case h2 => walk_at "Mea"); (case pk => first | exact .inl rfl | exact .inr rfl)))
local macro_rules | `(tactic| walk_at "Mdr") => `(tactic| first | assumption | (simp only [Dr.nx_k] at *; omega))
local macro_rules | `(tactic| walk_at "Mlen") => `(tactic| first | assumption | omega | (simp only [List.length_map, List.length_append, List.length_cons, List.length_nil, List.length_replicate, List.length_range]; omega) | (refine Nat.le_trans (Nat.add_le_add_left len_ite_le _) ?_; simp only [List.length_map, List.length_append, List.length_cons, List.length_nil, List.length_replicate, List.length_range]; omega))
local macro_rules | `(tactic| walk_at "Mwk") => `(tactic| (refine' wk_of ?_; repeat' (first | exact wk_nil | (refine' wk_same ?_) | (refine' wk_d ?_) | (refine' wk_lo ?_) | (refine' wk_eq ?_ ?_))))
local macro_rules | `(tactic| walk_at "Mset") => `(tactic| (refine' sx_set ?n ?e ?h0 ?np ?k ?hs; (case n => walk_at "Mn"); (case e => walk_at "Mev"); (case h0 => rfl); (case np => rfl); (case hs => rfl)))
local macro_rules | `(tactic| walk_at "Msix") => `(tactic| (refine' sx_setIx ?n ?he ?h1 ?hi ?hj ?k ?hs ?hw ?h2 ?ha; (case n => walk_at "Mn"); (case he => walk_at "Mev"); (case h1 => first | exact .inl rfl | exact .inr rfl); (case hi => walk_at "Mev"); (case hj => rfl); (case hs => rfl); (case hw => rfl); (case h2 => rfl); (case ha => exact fun _ => rfl)))
local macro_rules | `(tactic| walk_at "Met") => `(tactic| first
  | (refine' et_not ?h; (case h => walk_at "Met"))
  | (refine' et_w ?h; (case h => walk_at "Mew"))
  | (refine' et_cj ?h; (case h => walk_at "Mcj"))
  | (refine' et_isN ?h; (case h => walk_at "Mev"))
  | (refine' et_notN ?h; (case h => walk_at "Mev"))
  | (refine' et_val ?h ?he; (case h => walk_at "Mev"); (case he => exact fun _ => rfl)))
local macro_rules | `(tactic| walk_at "Mew") => `(tactic| first
  | (refine' ew_and1 ?h; (case h => walk_at "Met"))
  | (refine' ew_or1 ?h; (case h => walk_at "Met"))
  | (refine' ew_and ?h1 ?h2; (case h1 => walk_at "Met"); (case h2 => (intro _; walk_at "Mew")))
  | (refine' ew_or ?h1 ?h2; (case h1 => walk_at "Met"); (case h2 => (intro _; walk_at "Mew"))))
local macro_rules | `(tactic| walk_at "Meta") => `(tactic| (refine' et_as ?t1 ?t2; (case t1 => walk_at "Met")))
local macro_rules | `(tactic| walk_at "Mif") => `(tactic| (refine' sx_if ?t ?a ?b; (case t => walk_at "Met")))
local macro_rules | `(tactic| walk_at "Mret") => `(tactic| (refine' sx_ret ?h ?k; (case h => walk_at "Mev")))
local macro_rules | `(tactic| walk_at "Mpq") => `(tactic| repeat' (first | exact pq_nil | (refine' pq_out rfl ?_) | (refine' pq_skip rfl ?_) | (refine' pq_par ?_ ?_)))
local macro_rules | `(tactic| walk_at "Mrt") => `(tactic| (first | refine' ⟨rr_d ?_, ?_⟩ | refine' ⟨rr_lo ?_, ?_⟩ | refine' ⟨rr_at rfl ?_, ?_⟩); walk_at "Mpq")
local macro_rules | `(tactic| walk_at "Mapp") => `(tactic| (refine' sx_append ?n ?h ?he ?h1 ?hl ?k rfl rfl rfl rfl rfl rfl; (case n => walk_at "Mn"); (case h => first | exact .inl rfl | exact .inr rfl); (case he => walk_at "Mev"); (case h1 => first | exact .inl rfl | exact .inr rfl); (case hl => walk_at "Mlen")))
local macro_rules | `(tactic| walk_at "Mfor") => `(tactic| (refine' sx_forR ?en ?g ?m ?e ?n ?f ?h0 ?hs ?hd rfl (fun _ => rfl); (case en => walk_at "Mn"); (case g => walk_at "Mn"); (case m => walk_at "Mn"); (case e => walk_at "Mev")))
local macro_rules | `(tactic| walk_at "Mwh") => `(tactic| (refine' sx_whileW ?en ?g ?m ?a ?h0 ?I ?i0 ?hs; (case en => walk_at "Mn")))
theorem evt_tr {X : Cx} {pu : Bool} {e : Expr} {ρ ρ' : List SV} {b : Bool} (h : EvT X pu e ρ ρ' b) (q : pu = true) : EvT X true e ρ ρ' b := q ▸ h
def manyAt (n : Int) (i : Nat) : D := if n < (i : Int) then .int n else .non
theorem many_succ (n : Int) (i : Nat) : (manyAt n i = .non ∧ n = (i : Int) ∧ manyAt n (i + 1) = .int (i : Int)) ∨ (n ≠ (i : Int) ∧ manyAt n (i + 1) = manyAt n i) := by
  unfold manyAt
  by_cases h : n = (i : Int)
  · left
    rw [if_neg (by omega), if_pos (by omega)]
    exact ⟨rfl, h, by rw [h]⟩
  · right
    refine ⟨h, ?_⟩
    by_cases h2 : n < (i : Int)
    · rw [if_pos h2, if_pos (by omega)]
    · rw [if_neg h2, if_neg (by omega)]
theorem many_non (n : Int) (i : Nat) : (manyAt n i).isNon = !decide (n < (i : Int)) := by
  unfold manyAt
  by_cases h2 : n < (i : Int)
  · rw [if_pos h2, decide_eq_true h2]
    rfl
  · rw [if_neg h2, decide_eq_false h2]
    rfl
section
variable {P : Program} {w : World} {K : PySem.W.Frag} {mg : Str → Option Value} {base : Heap} {k : Nat} {f fv : Addr} {fd : FuncData}
def RowOk (ns : List Int) : Prop := (ns.length : Int) ≤ 120 ∧ ∀ v ∈ ns, -1 ≤ v ∧ v < 15
abbrev spRight : Sp := spF (α := Dr × List Int) (fun q => (0 ≤ q.1.k ∧ q.1.k ≤ 700000000) ∧ RowOk q.2) (fun q => [.par q.1.ds, .d (liI q.2)]) (fun q => [.par (q.1.marks 4).2.ds]) (fun _ => .d (.bl true))
structure Cs (X : Cx) (k : Nat) : Prop where
  marks : ClX X k "_law_marks" 2 [] idV spMarks
  a0 : ClX X k "after_passes" 2 [] (fun vs _ => vs ++ [.int 1]) spAfter
  a1 : ClX X k "after_passes" 2 ["passes"] (fun vs zs => vs ++ zs) spAfter
  a2 : ClX X k "after_passes" 0 ["passes", "values", "marked"] (fun _ zs => zs.reverse) spAfter
  left : ClX X k "_law_left" 2 [] idV spLawLeft
  n0 : ClX X k "passes_needed" 2 [] idV spNeeded
  n2 : ClX X k "passes_needed" 0 ["values", "marked"] (fun _ zs => zs.reverse) spNeeded
theorem b_right {X : Cx} (c : Sc X N_right sc_right) (en : En X k) (cs : Cs X k) (br : Bi X "repr" (.builtin "repr")) (mr : X.mg "range" = none) {d : Dr} {row : List Int} (h : 0 ≤ d.k ∧ d.k ≤ 700000000) (hr : RowOk row) :
    SX X (defBody s_right) [.par d.ds, .d (liI row), .un, .un, .un, .un, .un, .un, .un] (retE [.par (d.marks 4).2.ds] (.d (.bl true))) := by
  have l0 := nl_right_0 c
  have m0 := l0.nm
  have l1 := nl_right_1 c
  have m1 := l1.nm
  have l2 := nl_right_2 c
  have m2 := l2.nm
  have l3 := nl_right_3 c
  have m3 := l3.nm
  have l4 := nl_right_4 c
  have m4 := l4.nm
  have l5 := nl_right_5 c
  have m5 := l5.nm
  have l6 := nl_right_6 c
  have m6 := l6.nm
  have l7 := nl_right_7 c
  have m7 := l7.nm
  have g_left := gl_right_left c
  have g_marks := gl_right_marks c
  have g_after_passes := gl_right_after_passes c
  have g_passes_needed := gl_right_passes_needed c
  have g_range := gl_right_range c
  have g_repr := gl_right_repr c
  obtain ⟨hmk, hmr, hk1, hk2⟩ := marks_ok d 4 (by omega)
  have hsm := small_of (ns := (d.marks 4).1) (by have := hmk.2; omega) hmr
  have hsr := small_of (ns := row) (by have := hr.1; omega) hr.2
  refine' sx_set ?n1 ?x1 ?h01 ?np1 ?k1 ?hs1
  case n1 => exact l2
  case x1 =>
    refine' ev_marks (d := d) (most := 4) cs.marks en g_marks m0 ?a1 ev_int ?a2 ?a3 rfl rfl rfl
    case a1 => exact .inr rfl
    case a2 => omega
    case a3 => omega
  case h01 => rfl
  case np1 => rfl
  case hs1 => rfl
  refine' sx_frzO (i := 2) rfl ?_
  generalize (d.marks 4).1 = ms at *
  generalize (d.marks 4).2 = d1 at *
  have hnd := needed_le (m := ms) hr.1
  -- before
  refine' sx_set ?n2 ?x2 ?h02 ?np2 ?k2 ?hs2
  case n2 => exact l3
  case x2 =>
    refine' ev_repr (d := .lst [liI ms, liI row]) br en.gd en.un ?a4 ?a5 ?a6 rfl
    case a4 => walk_at "Mev"
    case a5 => exact cv_nowO
    case a6 => exact show2 hsm hsr
  case h02 => rfl
  case np2 => rfl
  case hs2 => rfl
  generalize hbf : (D.lst [liI ms, liI row]).show = before
  walk_at "Mset"
  walk_at "Mset"
  -- the nine passes
  walk_at "Mfor"
  case n => omega
  case f => exact fun i => [.par d1.ds, .d (liI row), .d (liI ms), .d (.str before), .d (liI (afterF ms i row)), .d (manyAt (neededF ms row) i), .un, .un, .un]
  case h0 =>
    refine wk_of ?_
    refine wk_same (wk_same (wk_same (wk_same (wk_same (wk_eq ?_ (wk_same (wk_same (wk_same wk_nil))))))))
    unfold manyAt
    rw [if_neg (by omega)]
    rfl
  case hd =>
    have e9 : manyAt (neededF ms row) (9 : Int).toNat = .int (neededF ms row) := if_pos (by show neededF ms row < ((9 : Nat) : Int); omega)
    rw [e9]
    generalize hn : neededF ms row = need at *
    have hsn : (D.lst [D.int need, D.int need]).ok = true ∧ (D.lst [D.int need, D.int need]).wt ≤ 16000000 ∧ (D.lst [D.int need, D.int need]).dp ≤ 60 := by
      have hb : ∀ n ∈ [need, need], n.natAbs < 2 ^ 1900 := fun n hn => by
        have : n = need := by
          rcases List.mem_cons.mp hn with z | z
          · exact z
          · exact List.mem_singleton.mp z
        rw [this]
        exact Nat.lt_of_le_of_lt (show need.natAbs ≤ 7 by omega) (by decide +kernel)
      have w := wt_ints (ns := [need, need])
      have p := dp_ints (ns := [need, need])
      exact ⟨ok_ints (ns := [need, need]) hb, Nat.le_trans w (Nat.le_of_ble_eq_true rfl), Nat.le_trans p (by decide)⟩
    refine' sx_ifF ?ba1 ?ba2 ?ba3
    case ba1 =>
      refine' et_w ?ba4
      case ba4 =>
        refine' ew_or (k := false) (m := false) ?ba5 ?ba6
        case ba5 =>
          refine' et_as ?ba7 ?ba8
          case ba7 =>
            refine' et_cj ?ba9
            case ba9 =>
              refine' cj_neI (i := need) (j := need) ?bb1 ?bb2
              case bb1 =>
                refine' Ev.cast ?bb3 ?bb4
                case bb3 =>
                  refine' ev_go cs.n0 en g_passes_needed (ms, row) ?bc1 ?bc2 ?bc3 ?bc4 ?bc5 rfl rfl rfl
                  case bc1 => walk_at "Mea"
                  case bc2 => rfl
                  case bc3 => rfl
                  case bc4 => exact ⟨hmk, hr.1⟩
                  case bc5 => rfl
                case bb4 => show Rs.d (.int (neededF ms row)) = _; rw [hn]
              case bb2 => walk_at "Mev"
          case ba8 =>
            rw [decide_eq_true rfl]
            rfl
        case ba6 =>
          intro _
          refine' ew_or1 ?bd1
          case bd1 =>
            refine' et_as ?bd2 ?bd3
            case bd2 =>
              refine' et_cj ?bd4
              case bd4 =>
                refine' cj_neS (i := before) (j := before) ?bd5 ?bd6
                case bd5 =>
                  refine' Ev.cast ?bd7 ?bd8
                  case bd7 =>
                    refine' ev_repr (d := .lst [liI ms, liI row]) br en.gd en.un ?bd9 ?bd10 (show2 hsm hsr) rfl
                    case bd9 => walk_at "Mev"
                    case bd10 => exact cv_nowO
                  case bd8 => rw [hbf]
                case bd6 => walk_at "Mev"
            case bd3 =>
              rw [decide_eq_true rfl]
              rfl
    case ba2 => rfl
    refine' sx_ifF ?be1 ?be2 ?be3
    case be1 =>
      refine' et_cj ?be4
      case be4 =>
        refine' cj_neS (i := (D.lst [D.int need, D.int need]).show) (j := (D.lst [D.int need, D.int need]).show) ?be5 ?be6
        case be5 =>
          refine' ev_repr br en.gd en.un ?be7 ?be8 hsn rfl
          case be7 =>
            refine' ev_lst (ds := [D.int need, D.int need]) ?be9 ?be10 ?be11
            case be9 =>
              refine' ea_cons (r := .d (.int need)) ?bf1 ?bf2 ?bf3 rfl
              case bf1 =>
                refine' Ev.cast ?bf4 ?bf5
                case bf4 =>
                  refine' ev_go cs.n0 en g_passes_needed (ms, row) ?bg1 ?bg2 ?bg3 ?bg4 ?bg5 rfl rfl rfl
                  case bg1 => walk_at "Mea"
                  case bg2 => rfl
                  case bg3 => rfl
                  case bg4 => exact ⟨hmk, hr.1⟩
                  case bg5 => rfl
                case bf5 => show Rs.d (.int (neededF ms row)) = _; rw [hn]
              case bf2 =>
                refine' ea_cons (r := .d (.int need)) ?bh1 ?bh2 ?bh3 rfl
                case bh1 =>
                  refine' Ev.cast ?bh4 ?bh5
                  case bh4 =>
                    refine' ev_goK0 (ds3 := [liI ms, liI row]) cs.n2 en g_passes_needed (ms, row) ?bi2 ?bi4 ?bi6 ?bi7 ?bi8 ?bi9 rfl rfl rfl rfl
                    case bi2 =>
                      refine' ek_cons ?bj4 ?bj5 ?bj6
                      case bj4 => walk_at "Mev"
                      case bj5 =>
                        refine' ek_cons ?bj7 ?bj8 ?bj9
                        case bj7 => walk_at "Mev"
                        case bj8 => exact ek_nil
                        case bj9 => exact .inl rfl
                      case bj6 => exact .inl rfl
                    case bi4 => rfl
                    case bi6 => rfl
                    case bi7 => exact ⟨hmk, hr.1⟩
                    case bi8 => rfl
                    case bi9 => exact fun F zs r2 => r2.reverse
                  case bh5 => show Rs.d (.int (neededF ms row)) = _; rw [hn]
                case bh2 => exact ea_nil
                case bh3 => exact .inl rfl
              case bf3 => first | exact .inl rfl | exact .inr rfl
            case be10 => rfl
            case be11 => exact Nat.le_of_ble_eq_true rfl
          case be8 => exact cv_nowO
        case be6 =>
          refine' ev_repr br en.gd en.un ?bk1 ?bk2 hsn rfl
          case bk1 => walk_at "Mev"
          case bk2 => exact cv_nowO
    case be2 =>
      rw [decide_eq_true rfl]
      rfl
    refine' sx_ret (r := .d (.bl true)) ?bl1 ?bl2
    case bl1 =>
      refine' ev_cj ?bl3
      case bl3 =>
        refine' CmpJ.as ?bl4 ?bl5
        case bl4 =>
          refine' cj_eqS (i := before) (j := before) ?bm1 ?bm2
          case bm1 =>
            refine' Ev.cast ?bm3 ?bm4
            case bm3 =>
              refine' ev_repr (d := .lst [liI ms, liI row]) br en.gd en.un ?bm5 ?bm6 (show2 hsm hsr) rfl
              case bm5 => walk_at "Mev"
              case bm6 => exact cv_nowO
            case bm4 => rw [hbf]
          case bm2 => walk_at "Mev"
        case bl5 => exact decide_eq_true rfl
    walk_at "Mrt"
    · rfl
    · rfl
  case hs =>
    intro i hi
    refine ⟨_, tg_name l6 rfl rfl, ?_⟩
    have hla := after_len (m := ms) (l := row) i
    have hsa := small_of (ns := afterF ms i row) (by have := hr.1; omega) (after_mem (P := fun v => -1 ≤ v ∧ v < 15) hr.2 i)
    have hnl := none_left ms row i
    have hms := many_succ (neededF ms row) i
    have hmn := many_non (neededF ms row) i
    refine' sx_ifJ (k := decide (neededF ms row = (i : Int))) [.par d1.ds, .d (liI row), .d (liI ms), .d (.str before), .d (liI (afterF ms i row)), .d (manyAt (neededF ms row) (i + 1)), .d (.int (i : Int)), .un, .un] ?t1 ?ha ?hb ?hj
    case t1 =>
      refine' et_as (k := (manyAt (neededF ms row) i).isNon && decide ((afterF ms i row).filter (fun v => ms.contains v) = [])) ?u1 ?u2
      case u1 =>
        refine' et_w ?u3
        case u3 =>
          refine' ew_and ?u4 ?u5
          case u4 =>
            refine' et_isN ?u6
            case u6 => walk_at "Mev"
          case u5 =>
            intro _
            refine' ew_and1 ?u7
            case u7 =>
              refine' et_cj ?u8
              case u8 =>
                refine' CmpJ.as (k := (dints ((afterF ms i row).filter (fun v => ms.contains v))).eqv (dints [])) ?u9 ?u10
                case u9 =>
                  refine' cj_eqD en.un ?v1 ?v2 ?v3 ?v4 ?v5 ?v6 ?v7
                  case v1 =>
                    refine' ev_lc (own := [("_law_value", 8)]) (ys := afterF ms i row) (enc := D.int) (g := D.int) (p := fun v => ms.contains v) en.calm ?b1 ?b2 ?b3 ?b4 ?b5 ?b6 ?b7
                    case b1 => rw [c.n]; exact fs_right.nd
                    case b2 =>
                      rw [c.n, c.s]
                      exact ⟨rfl, by decide +kernel, by decide +kernel, by decide +kernel, by decide +kernel⟩
                    case b3 => exact fun _ => rfl
                    case b4 =>
                      refine' ei_list ?d1
                      case d1 => walk_at "Mev"
                    case b5 => have := hr.1; omega
                    case b6 =>
                      intro j hj
                      rcases List.mem_cons.mp hj with rfl | hj
                      · exact ⟨fun l z => (by cases (show (some SV.un : Option SV) = some (.lo l) from z)), fun l z => (by cases (show (some SV.un : Option SV) = some (.par l) from z))⟩
                      · cases hj
                    case b7 =>
                      intro y hy
                      refine ⟨_, bg_name (i := 8) (fun s H C cl fp => c.blk.nl fs_right.nd rfl rfl) (by decide) (.inl rfl), bt_one (fun s H C cl fp => ?_), fun _ => ?_⟩
                      · refine' evt_tr ?z0 ?z9
                        case z0 =>
                          refine' et_cj ?z1
                          case z1 =>
                            refine' cj_in (i := y) (ns := ms) ?z2 ?z3 ?z4 ?z5
                            case z2 => exact ev_d (i := 8) (Sb.nm c.blk rfl (.inl rfl)) rfl
                            case z3 => exact ev_d (i := 2) (Sb.nm c.blk rfl (by first | exact .inr (.inl rfl) | exact .inr (.inr rfl) | exact .inl rfl)) rfl
                            case z4 => exact cv_d
                            case z5 => rfl
                        case z9 => rfl
                      · intro s H C cl fp
                        exact ev_d (i := 8) (Sb.nm c.blk rfl (.inl rfl)) rfl
                  case v2 => walk_at "Mev"
                  case v3 => first | exact .inl rfl | exact .inr rfl
                  case v4 => exact cv_nowO
                  case v5 => exact cv_nowO
                  case v6 =>
                    have hsf : ∀ n ∈ (afterF ms i row).filter (fun v => ms.contains v), n.natAbs < 2 ^ 1900 := fun n hn => hsa.2 n (List.mem_filter.mp hn).1
                    have := dp_ints (ns := (afterF ms i row).filter (fun v => ms.contains v))
                    exact ⟨ok_ints hsf, by omega⟩
                  case v7 => exact ⟨rfl, by have := dp_ints (ns := []); omega⟩
                case u10 =>
                  rw [eqv_i]
      case u2 =>
        rw [hmn]
        have e : decide ((afterF ms i row).filter (fun v => ms.contains v) = []) = decide (neededF ms row ≤ (i : Int)) := decide_eq_decide.mpr hnl
        rw [e]
        by_cases z : neededF ms row = (i : Int)
        · rw [decide_eq_true z, decide_eq_false (by omega), decide_eq_true (by omega)]
          rfl
        · rw [decide_eq_false z]
          by_cases z2 : neededF ms row < (i : Int)
          · rw [decide_eq_true z2]
            rfl
          · rw [decide_eq_false z2, decide_eq_false (by omega)]
            rfl
    case ha =>
      intro z
      have z := of_decide_eq_true z
      walk_at "Mset"
      refine sx_nil ?_
      show Wk _ _
      refine wk_of ?_
      refine wk_same (wk_same (wk_same (wk_same (wk_same (wk_eq ?_ (wk_same (wk_same (wk_same wk_nil))))))))
      rcases hms with ⟨_, _, e⟩ | ⟨e, _⟩
      · rw [e]
        rfl
      · exact absurd z e
    case hb =>
      intro z
      have z := of_decide_eq_false z
      refine sx_nil ?_
      show Wk _ _
      refine wk_of ?_
      refine wk_same (wk_same (wk_same (wk_same (wk_same (wk_eq ?_ (wk_same (wk_same (wk_same wk_nil))))))))
      rcases hms with ⟨_, e, _⟩ | ⟨_, e⟩
      · exact absurd e z
      · rw [e]
    case hj =>
      -- told
      refine' sx_set ?n3 ?x3 ?h03 ?np3 ?k3 ?hs3
      case n3 => exact l7
      case x3 =>
        refine' ev_lstO (ls := [.own ((afterF ms i row).map D.int), .own ((afterF ms i row).map D.int)]) ?e1 ?e2
        case e1 =>
          refine' eo_cons ?e3 ?e4 rfl
          case e3 =>
            refine' Ev.cast (r' := .lo (.own ((afterF ms i row).map D.int))) ?e5 ?e6
            case e5 =>
              refine' ev_goK (ds3 := [liI ms, liI row, .int (i : Int)]) cs.a1 en g_after_passes ((ms, row), (i : Int)) ?f1 ?f2 ?f3 ?f4 ?f5 ?f6 ?f7 ?f8 ?f9 rfl rfl rfl rfl rfl
              case f1 => walk_at "Mea"
              case f2 =>
                refine' ek_cons ?i1 ?i2 ?i3
                case i1 => walk_at "Mev"
                case i2 => exact ek_nil
                case i3 => exact .inl rfl
              case f3 => rfl
              case f4 => rfl
              case f5 => rfl
              case f6 => rfl
              case f7 => exact ⟨⟨hmk, hr.1⟩, by omega, by omega⟩
              case f8 => rfl
              case f9 => exact fun F vs zs r1 r2 => r1.append r2
            case e6 =>
              show Rs.lo (.own ((afterF ms ((i : Int)).toNat row).map D.int)) = _
              rw [Int.toNat_natCast]
          case e4 =>
            refine' eo_cons ?e7 ?e8 rfl
            case e7 =>
              refine' Ev.cast (r' := .lo (.own ((afterF ms i row).map D.int))) ?e9 ?e10
              case e9 =>
                refine' ev_goK0 (ds3 := [liI ms, liI row, .int (i : Int)]) cs.a2 en g_after_passes ((ms, row), (i : Int)) ?j2 ?j4 ?j6 ?j7 ?j8 ?j9 rfl rfl rfl rfl
                case j2 =>
                  refine' ek_cons ?o1 ?o2 ?o3
                  case o1 => walk_at "Mev"
                  case o2 =>
                    refine' ek_cons ?o4 ?o5 ?o6
                    case o4 => walk_at "Mev"
                    case o5 =>
                      refine' ek_cons ?o7 ?o8 ?o9
                      case o7 => walk_at "Mev"
                      case o8 => exact ek_nil
                      case o9 => exact .inl rfl
                    case o6 => exact .inl rfl
                  case o3 => exact .inl rfl
                case j4 => rfl
                case j6 => rfl
                case j7 => exact ⟨⟨hmk, hr.1⟩, by omega, by omega⟩
                case j8 => rfl
                case j9 => exact fun F zs r2 => r2.reverse
              case e10 =>
                show Rs.lo (.own ((afterF ms ((i : Int)).toNat row).map D.int)) = _
                rw [Int.toNat_natCast]
            case e8 => exact eo_nil
        case e2 => exact Nat.le_of_ble_eq_true rfl
      case h03 => rfl
      case np3 => rfl
      case hs3 => rfl
      -- with the default
      refine' sx_ifF ?p1 ?p2 ?p3
      case p1 =>
        refine' et_w ?q1
        case q1 =>
          refine' ew_and (k := decide ((i : Int) = 1)) (m := false) ?q2 ?q3
          case q2 => walk_at "Met"
          case q3 =>
            intro z
            have z : i = 1 := by
              have := of_decide_eq_true z
              omega
            refine' ew_and1 ?q4
            case q4 =>
              refine' et_cj ?q5
              case q5 =>
                refine' CmpJ.as (k := !(dints (afterF ms i row)).eqv (dints (afterF ms i row))) ?q6 ?q7
                case q6 =>
                  refine' cj_neD (x := .lo (.own ((afterF ms i row).map D.int))) en.un ?r1 ?r2 ?r3 ?r4 ?r5 ?r6 ?r7
                  case r1 =>
                    refine' Ev.cast ?s1 ?s2
                    case s1 =>
                      refine' ev_goK (ds3 := [liI ms, liI row, .int 1]) cs.a0 en g_after_passes ((ms, row), 1) ?t2 ?t3 ?t4 ?t5 ?t6 ?t7 ?t8 ?t9 ?t10 rfl rfl rfl rfl rfl
                      case t2 => walk_at "Mea"
                      case t3 => exact ek_nil
                      case t4 => rfl
                      case t5 => rfl
                      case t6 => rfl
                      case t7 => rfl
                      case t8 => exact ⟨⟨hmk, hr.1⟩, by omega, by omega⟩
                      case t9 => rfl
                      case t10 => exact fun F vs zs r1 r2 => r1.append (.cons (.int 1) .nil)
                    case s2 =>
                      show Rs.lo (.own ((afterF ms 1 row).map D.int)) = _
                      rw [z]
                  case r2 => walk_at "Mev"
                  case r3 => first | exact .inl rfl | exact .inr rfl
                  case r4 => exact cv_nowO
                  case r5 => exact cv_nowD
                  case r6 => exact ⟨ok_ints hsa.2, by have := dp_ints (ns := afterF ms i row); omega⟩
                  case r7 => exact ⟨ok_ints hsa.2, by have := dp_ints (ns := afterF ms i row); omega⟩
                case q7 => rw [eqv_self]; rfl
      case p2 => exact Bool.and_false _
      -- told by text
      have hs2 := show2 hsa hsa
      refine' sx_ifF ?y1 ?y2 ?y3
      case y1 =>
        refine' et_cj ?y4
        case y4 =>
          refine' cj_neS (i := (D.lst [liI (afterF ms i row), liI (afterF ms i row)]).show) (j := (D.lst [liI (afterF ms i row), liI (afterF ms i row)]).show) ?y5 ?y6
          case y5 =>
            refine' ev_repr br en.gd en.un ?y7 ?y8 hs2 rfl
            case y7 =>
              refine' Ev.cast (r' := .now (.lst [liI (afterF ms i row), liI (afterF ms i row)])) ?y9 ?y10
              case y9 => walk_at "Mev"
              case y10 =>
                unfold L.toD L.toDs L.toD L.toDs L.toD L.toDs
                rfl
            case y8 => exact Cv.refl
          case y6 =>
            refine' ev_repr br en.gd en.un ?y11 ?y12 hs2 rfl
            case y11 => walk_at "Mev"
            case y12 => exact cv_nowO
      case y2 =>
        rw [decide_eq_true rfl]
        rfl
      -- told[0].append(None)
      refine' sx_app0 (i := 7) (d := .non) m7 ?aa1 ?aa2 ?aa3 ?aa4 (fun _ _ => rfl) rfl rfl rfl rfl rfl rfl
      case aa1 => rfl
      case aa2 => exact ev_non
      case aa3 => rw [List.length_map]; have := hr.1; omega
      -- the next pass
      refine' sx_set ?ab1 ?ab2 ?ab3 ?ab4 ?ab5 ?ab6
      case ab1 => exact l4
      case ab2 =>
        refine' Ev.cast (r' := .lo (.own ((afterF ms (i + 1) row).map D.int))) ?ac1 ?ac2
        case ac1 =>
          refine' ev_go cs.left en g_left (ms, afterF ms i row) ?ad1 ?ad2 ?ad3 ?ad4 ?ad5 rfl rfl rfl
          case ad1 => walk_at "Mea"
          case ad2 => rfl
          case ad3 => rfl
          case ad4 => show (afterF ms i row).length ≤ 1000; have := hr.1; omega
          case ad5 => rfl
        case ac2 => rfl
      case ab3 => rfl
      case ab4 => rfl
      case ab6 => rfl
      refine' sx_frzO (i := 4) rfl ?_
      refine sx_nil ?_
      show Wk _ _
      walk_at "Mwk"
theorem ok_right (F : F_right K f fd) (cs : ∀ X : Cx, X.prog = P → X.w = w → X.K = K → X.mg = mg → X.base = base → Cs X k) (m1 : mg "repr" = none) (m2 : mg "range" = none) : FnG P w K mg base CX0 (k + 1) f fd P_right spRight :=
  fn_sx F fs_right (fun _ => rfl) fun cdv A outer s H E q hg hr hp => by
    have c : Sc (cxOf CX0 P w K mg base N_right "_law_right" sc_right f cdv A outer s H E) N_right sc_right := ⟨rfl, rfl, fun _ => rfl⟩
    exact b_right c (en_of hg hr) (cs _ rfl rfl rfl rfl rfl) (c.bi rfl m1) m2 hp.1 hp.2
theorem cl_right (F : F_right K f fd) (ok : FnG P w K mg base CX0 k f fd P_right spRight) (hm : mg "_law_right" = some (.ref f)) : Cl P w K mg base k "_law_right" 2 [] idV spRight :=
  cl_of F ok hm fun _ _ _ _ _ _ us hl => match us, hl with | [_, _], _ => rfl
end
end Lw

set_option Elab.async false
set_option linter.all false
set_option maxRecDepth 100000
set_option maxHeartbeats 4000000
namespace Lw
open PySem PySem.Spec PyProof.Rows L2 Mw
local macro_rules | `(tactic| walk_at "Mkb") => `(tactic| first | exact kb_NoneType_int | exact kb_NoneType_bool | exact kb_NoneType_list | exact kb_NoneType_str | exact kb_NoneType_dict | exact kb_NoneType_tuple | exact kb_bool_int | exact kb_bool_bool | exact kb_bool_list | exact kb_bool_str | exact kb_bool_dict | exact kb_bool_tuple | exact kb_int_int | exact kb_int_bool | exact kb_int_list | exact kb_int_str | exact kb_int_dict | exact kb_int_tuple | exact kb_str_int | exact kb_str_bool | exact kb_str_list | exact kb_str_str | exact kb_str_dict | exact kb_str_tuple | exact kb_list_int | exact kb_list_bool | exact kb_list_list | exact kb_list_str | exact kb_list_dict | exact kb_list_tuple | exact kb_tuple_int | exact kb_tuple_bool | exact kb_tuple_list | exact kb_tuple_str | exact kb_tuple_dict | exact kb_tuple_tuple | exact kb_dict_int | exact kb_dict_bool | exact kb_dict_list | exact kb_dict_str | exact kb_dict_dict | exact kb_dict_tuple)
local macro_rules | `(tactic| walk_at "Mn") => `(tactic| with_reducible assumption)
local macro_rules | `(tactic| walk_at "Mnum") => `(tactic| first | assumption | decide | omega | (constructor <;> first | assumption | decide | omega))
local macro_rules | `(tactic| walk_at "Mcv") => `(tactic| first | exact cv_d | exact cv_own | exact cv_at | exact Cv.refl)
local macro_rules | `(tactic| walk_at "Mev") => `(tactic| first
  | exact ev_int | exact ev_bl | exact ev_non | exact ev_str
  | (refine' ev_d ?hn ?hs; (case hn => walk_at "Mn"); (case hs => rfl))
  | (refine' ev_at ?hn ?hs; (case hn => walk_at "Mn"); (case hs => first | exact .inl rfl | exact .inr rfl))
  | (refine' ev_lo ?hn ?hs; (case hn => walk_at "Mn"); (case hs => rfl))
  | (refine' ev_add ?h1 ?h2; (case h1 => walk_at "Mev"); (case h2 => walk_at "Mev"))
  | (refine' ev_sub ?h1 ?h2; (case h1 => walk_at "Mev"); (case h2 => walk_at "Mev"))
  | (refine' ev_pow ?h1 ?h2 ?h3; (case h1 => walk_at "Mev"); (case h2 => walk_at "Mev"); (case h3 => walk_at "Mnum"))
  | (refine' ev_mod ?h1 ?h2 ?h3; (case h1 => walk_at "Mev"); (case h2 => walk_at "Mev"); (case h3 => walk_at "Mnum"))
  | (refine' ev_fdiv ?h1 ?h2 ?h3; (case h1 => walk_at "Mev"); (case h2 => walk_at "Mev"); (case h3 => walk_at "Mnum"))
  | (refine' ev_mul ?h1 ?h2 ?h3; (case h1 => walk_at "Mev"); (case h2 => walk_at "Mev"); (case h3 => first | assumption | (left; constructor <;> walk_at "Mnum") | (right; constructor <;> walk_at "Mnum")))
  | (refine' ev_intI ?h0 ?h1 rfl; (case h0 => walk_at "Mn"); (case h1 => walk_at "Mev"))
  | (refine' ev_intB ?h0 ?h1 rfl; (case h0 => walk_at "Mn"); (case h1 => walk_at "Mev"))
  | (refine' ev_next ?C ?en ?g ?m ?h ?b; (case C => walk_at "Mn"); (case en => walk_at "Mn"); (case g => walk_at "Mn"); (case m => walk_at "Mn"); (case h => first | exact .inr rfl | exact .inl rfl); (case b => walk_at "Mdr"))
  | (refine' ev_pick ?h1 ?h2 ?hp ?h3 ?h6; (case h1 => walk_at "Mev"); (case h2 => walk_at "Mev"); (case hp => first | exact .inl rfl | exact .inr rfl); (case h3 => walk_at "Mcv"); (case h6 => exact fun _ _ => rfl))
  | (refine' ev_globF ?g ?m rfl; (case g => walk_at "Mn"); (case m => walk_at "Mn"))
  | (refine' ev_globI ?g ?m rfl; (case g => walk_at "Mn"); (case m => walk_at "Mn"))
  | (refine' ev_isi ?h0 ?h1 ?h2 ?h3 ?h4 rfl rfl rfl; (case h0 => walk_at "Mn"); (case h1 => walk_at "Mn"); (case h2 => walk_at "Mev"); (case h3 => rfl); (case h4 => walk_at "Mkb"))
  | (refine' ev_len ?h0 ?h1 ?h2 rfl; (case h0 => walk_at "Mn"); (case h1 => walk_at "Mev"); (case h2 => walk_at "Mcv"))
  | (refine' ev_list ?h0 ?h1 ?h2 rfl; (case h0 => walk_at "Mn"); (case h1 => walk_at "Mev"); (case h2 => walk_at "Mcv"))
  | (refine' Ev.cast ?hh ?qq; (case hh => (refine' ev_go ?C ?en ?g ?a ?ha ?hd ?l1 ?hp ?hi rfl rfl rfl; (case C => walk_at "Mn"); (case en => walk_at "Mn"); (case g => walk_at "Mn"); (case ha => walk_at "Mea"); (case hd => rfl); (case l1 => rfl); (case hi => rfl); (case hp => walk_at "Mpre"))); (case qq => rfl))
  | (refine' Ev.cast ?hh ?qq; (case hh => (refine' ev_go ?C ?en ?g (?a, ?b) ?ha ?hd ?l1 ?hp ?hi rfl rfl rfl; (case C => walk_at "Mn"); (case en => walk_at "Mn"); (case g => walk_at "Mn"); (case ha => walk_at "Mea"); (case hd => rfl); (case l1 => rfl); (case hi => rfl); (case hp => walk_at "Mpre"))); (case qq => rfl))
  | (refine' Ev.cast ?hh ?qq; (case hh => (refine' ev_go ?C ?en ?g (?a, ?b, ?c) ?ha ?hd ?l1 ?hp ?hi rfl rfl rfl; (case C => walk_at "Mn"); (case en => walk_at "Mn"); (case g => walk_at "Mn"); (case ha => walk_at "Mea"); (case hd => rfl); (case l1 => rfl); (case hi => rfl); (case hp => walk_at "Mpre"))); (case qq => rfl))
  | (refine' ev_sliceTI ?h1 ?h2 ?h3 ?h4; (case h1 => walk_at "Mev"); (case h2 => walk_at "Mcv"); (case h3 => walk_at "Mev"); (case h4 => walk_at "Mnum"))
  | (refine' ev_sliceDI ?h1 ?h2 ?h3 ?h4; (case h1 => walk_at "Mev"); (case h2 => walk_at "Mcv"); (case h3 => walk_at "Mev"); (case h4 => walk_at "Mnum"))
  | (refine' ev_sliceT ?h1 ?h2 ?h3 ?h4; (case h1 => walk_at "Mev"); (case h2 => walk_at "Mcv"); (case h3 => walk_at "Mev"); (case h4 => walk_at "Mnum"))
  | (refine' ev_sliceD ?h1 ?h2 ?h3 ?h4; (case h1 => walk_at "Mev"); (case h2 => walk_at "Mcv"); (case h3 => walk_at "Mev"); (case h4 => walk_at "Mnum"))
  | (refine' ev_ixL ?h1 ?h2 ?hp ?h3 ?h4 ?h5 ?h6; (case h1 => walk_at "Mev"); (case h2 => walk_at "Mev"); (case hp => first | exact .inl rfl | exact .inr rfl); (case h3 => walk_at "Mcv"); (case h4 => rfl); (case h5 => rfl); (case h6 => exact fun _ _ => rfl))
  | (refine' ev_cj ?h; (case h => walk_at "Mcj"))
  | (refine' ev_isN ?h; (case h => walk_at "Mev"))
  | (refine' ev_notN ?h; (case h => walk_at "Mev"))
  | (refine' ev_lst ?h1 ?h2 ?h3; (case h1 => walk_at "Mea"); (case h2 => rfl); (case h3 => exact Nat.le_of_ble_eq_true rfl))
  | (refine' ev_repB ?h1 ?h2 ?hp ?h3 ?h4; (case h1 => walk_at "Mev"); (case h2 => walk_at "Mev"); (case hp => first | exact .inl rfl | exact .inr rfl); (case h3 => walk_at "Mcv"); (case h4 => first | exact Nat.le_of_ble_eq_true rfl | walk_at "Mlen"))
  | (refine' ev_catA ?h1 ?h2 ?hp ?h4 ?h5; (case h1 => walk_at "Mev"); (case h2 => walk_at "Mev"); (case hp => first | exact .inl rfl | exact .inr rfl); (case h4 => walk_at "Mcv"); (case h5 => walk_at "Mlen"))
  | (refine' ev_cat ?h1 ?h2 ?hp ?h3 ?h4 ?h5; (case h1 => walk_at "Mev"); (case h2 => walk_at "Mev"); (case hp => first | exact .inl rfl | exact .inr rfl); (case h3 => walk_at "Mcv"); (case h4 => walk_at "Mcv"); (case h5 => walk_at "Mlen"))
  )
local macro_rules | `(tactic| walk_at "Mpre") => `(tactic| first | trivial | assumption | (simp only [List.length_map]; omega) | (constructor <;> first | assumption | (simp only [List.length_map]; omega)))
local macro_rules | `(tactic| walk_at "Mcj") => `(tactic| first
  | (refine' cj_lt ?h1 ?h2; (case h1 => walk_at "Mev"); (case h2 => walk_at "Mev"))
  | (refine' cj_le ?h1 ?h2; (case h1 => walk_at "Mev"); (case h2 => walk_at "Mev"))
  | (refine' cj_gt ?h1 ?h2; (case h1 => walk_at "Mev"); (case h2 => walk_at "Mev"))
  | (refine' cj_ge ?h1 ?h2; (case h1 => walk_at "Mev"); (case h2 => walk_at "Mev"))
  | (refine' cj_eqI ?h1 ?h2; (case h1 => walk_at "Mev"); (case h2 => walk_at "Mev"))
  | (refine' cj_neI ?h1 ?h2; (case h1 => walk_at "Mev"); (case h2 => walk_at "Mev"))
  | (refine' cj_eqS ?h1 ?h2; (case h1 => walk_at "Mev"); (case h2 => walk_at "Mev"))
  | (refine' cj_neS ?h1 ?h2; (case h1 => walk_at "Mev"); (case h2 => walk_at "Mev"))
  | (refine' cj_in ?h1 ?h2 ?h3 rfl; (case h1 => walk_at "Mev"); (case h2 => walk_at "Mev"); (case h3 => walk_at "Mcv"))
  | (refine' cj_notIn ?h1 ?h2 ?h3 rfl; (case h1 => walk_at "Mev"); (case h2 => walk_at "Mev"); (case h3 => walk_at "Mcv")))
local macro_rules | `(tactic| walk_at "Mea") => `(tactic| first
  | exact ea_nil
  | (refine' ea_cons ?h1 ?h2 ?pk rfl; (case h1 => walk_at "Mev"); (case h2 => walk_at "Mea"); (case pk => first | exact .inl rfl | exact .inr rfl)))
local macro_rules | `(tactic| walk_at "Mdr") => `(tactic| first | assumption | (simp only [Dr.nx_k] at *; omega))
local macro_rules | `(tactic| walk_at "Mlen") => `(tactic| first | assumption | omega | (simp only [List.length_map, List.length_append, List.length_cons, List.length_nil, List.length_replicate, List.length_range]; omega) | (refine Nat.le_trans (Nat.add_le_add_left len_ite_le _) ?_; simp only [List.length_map, List.length_append, List.length_cons, List.length_nil, List.length_replicate, List.length_range]; omega))
local macro_rules | `(tactic| walk_at "Mwk") => `(tactic| (refine' wk_of ?_; repeat' (first | exact wk_nil | (refine' wk_same ?_) | (refine' wk_d ?_) | (refine' wk_lo ?_) | (refine' wk_eq ?_ ?_))))
local macro_rules | `(tactic| walk_at "Mset") => `(tactic| (refine' sx_set ?n ?e ?h0 ?np ?k ?hs; (case n => walk_at "Mn"); (case e => walk_at "Mev"); (case h0 => rfl); (case np => rfl); (case hs => rfl)))
local macro_rules | `(tactic| walk_at "Msix") => `(tactic| (refine' sx_setIx ?n ?he ?h1 ?hi ?hj ?k ?hs ?hw ?h2 ?ha; (case n => walk_at "Mn"); (case he => walk_at "Mev"); (case h1 => first | exact .inl rfl | exact .inr rfl); (case hi => walk_at "Mev"); (case hj => rfl); (case hs => rfl); (case hw => rfl); (case h2 => rfl); (case ha => exact fun _ => rfl)))
local macro_rules | `(tactic| walk_at "Met") => `(tactic| first
  | (refine' et_not ?h; (case h => walk_at "Met"))
  | (refine' et_w ?h; (case h => walk_at "Mew"))
  | (refine' et_cj ?h; (case h => walk_at "Mcj"))
  | (refine' et_isN ?h; (case h => walk_at "Mev"))
  | (refine' et_notN ?h; (case h => walk_at "Mev"))
  | (refine' et_val ?h ?he; (case h => walk_at "Mev"); (case he => exact fun _ => rfl)))
local macro_rules | `(tactic| walk_at "Mew") => `(tactic| first
  | (refine' ew_and1 ?h; (case h => walk_at "Met"))
  | (refine' ew_or1 ?h; (case h => walk_at "Met"))
  | (refine' ew_and ?h1 ?h2; (case h1 => walk_at "Met"); (case h2 => (intro _; walk_at "Mew")))
  | (refine' ew_or ?h1 ?h2; (case h1 => walk_at "Met"); (case h2 => (intro _; walk_at "Mew"))))
local macro_rules | `(tactic| walk_at "Meta") => `(tactic| (refine' et_as ?t1 ?t2; (case t1 => walk_at "Met")))
local macro_rules | `(tactic| walk_at "Mif") => `(tactic| (refine' sx_if ?t ?a ?b; (case t => walk_at "Met")))
local macro_rules | `(tactic| walk_at "Mret") => `(tactic| (refine' sx_ret ?h ?k; (case h => walk_at "Mev")))
local macro_rules | `(tactic| walk_at "Mpq") => `(tactic| repeat' (first | exact pq_nil | (refine' pq_out rfl ?_) | (refine' pq_skip rfl ?_) | (refine' pq_par ?_ ?_)))
local macro_rules | `(tactic| walk_at "Mrt") => `(tactic| (first | refine' ⟨rr_d ?_, ?_⟩ | refine' ⟨rr_lo ?_, ?_⟩ | refine' ⟨rr_at rfl ?_, ?_⟩); walk_at "Mpq")
local macro_rules | `(tactic| walk_at "Mapp") => `(tactic| (refine' sx_append ?n ?h ?he ?h1 ?hl ?k rfl rfl rfl rfl rfl rfl; (case n => walk_at "Mn"); (case h => first | exact .inl rfl | exact .inr rfl); (case he => walk_at "Mev"); (case h1 => first | exact .inl rfl | exact .inr rfl); (case hl => walk_at "Mlen")))
local macro_rules | `(tactic| walk_at "Mfor") => `(tactic| (refine' sx_forR ?en ?g ?m ?e ?n ?f ?h0 ?hs ?hd rfl (fun _ => rfl); (case en => walk_at "Mn"); (case g => walk_at "Mn"); (case m => walk_at "Mn"); (case e => walk_at "Mev")))
local macro_rules | `(tactic| walk_at "Mwh") => `(tactic| (refine' sx_whileW ?en ?g ?m ?a ?h0 ?I ?i0 ?hs; (case en => walk_at "Mn")))
/-! the law -/
theorem list_ok (d : Dr) : RowOk (d.list 120).1 ∧ d.k ≤ (d.list 120).2.k ∧ (d.list 120).2.k ≤ d.k + 200 := by
  have hn : 0 ≤ d.nx.val % (120 + 1) ∧ d.nx.val % (120 + 1) < 121 := ⟨Int.emod_nonneg _ (by decide), Int.emod_lt_of_pos _ (by decide)⟩
  have hk : 0 ≤ d.val % 5 ∧ d.val % 5 < 5 := ⟨Int.emod_nonneg _ (by decide), Int.emod_lt_of_pos _ (by decide)⟩
  obtain ⟨a, b⟩ := liS_at (d.val % 5) d.nx.nx (d.nx.val % (120 + 1)).toNat
  rw [Dr.nx_k, Dr.nx_k] at a
  have lv : ∀ kd v : Int, 0 ≤ kd → kd < 5 → -1 ≤ liV kd v ∧ liV kd v < 15 := fun kd v h1 h2 => by
    have v6 := Int.emod_nonneg v (show (6 : Int) ≠ 0 by decide)
    have v6' := Int.emod_lt_of_pos v (show (0 : Int) < 6 by decide)
    have v3 := Int.emod_nonneg v (show (3 : Int) ≠ 0 by decide)
    have v3' := Int.emod_lt_of_pos v (show (0 : Int) < 3 by decide)
    have v2 := Int.emod_nonneg v (show (2 : Int) ≠ 0 by decide)
    have v2' := Int.emod_lt_of_pos v (show (0 : Int) < 2 by decide)
    have v16 := Int.emod_nonneg v (show (16 : Int) ≠ 0 by decide)
    have v16' := Int.emod_lt_of_pos v (show (0 : Int) < 16 by decide)
    obtain ⟨n, rfl⟩ := Int.eq_ofNat_of_zero_le h1
    have hn : n < 5 := by omega
    unfold liV
    rw [Int.toNat_natCast]
    match n, hn with
    | 0, _ => show -1 ≤ v % 6 - 1 ∧ v % 6 - 1 < 15; omega
    | 1, _ => show -1 ≤ v % 3 ∧ v % 3 < 15; omega
    | 2, _ => show -1 ≤ v % 2 ∧ v % 2 < 15; omega
    | 3, _ => show -1 ≤ (if decide (v % 7 = 0) = true then v % 6 else 1) ∧ (if decide (v % 7 = 0) = true then v % 6 else 1) < 15; split <;> omega
    | 4, _ => show -1 ≤ v % 16 - 1 ∧ v % 16 - 1 < 15; omega
  have mem : ∀ n, ∀ v ∈ (itr (liS (d.val % 5)) n ([], d.nx.nx)).1, -1 ≤ v ∧ v < 15 := fun n =>
    itr_ind (f := liS (d.val % 5)) (x := ([], d.nx.nx)) (C := fun n (y : List Int × Dr) => ∀ v ∈ y.1, -1 ≤ v ∧ v < 15) (fun v z => by cases z) (fun n y h v hv => by
      have hv : v ∈ y.1 ++ [liV (d.val % 5) y.2.val] := hv
      rcases List.mem_append.mp hv with z | z
      · exact h v z
      · rw [List.mem_singleton.mp z]
        exact lv _ _ hk.1 hk.2) n
  exact ⟨⟨by show ((itr (liS (d.val % 5)) (d.nx.val % (120 + 1)).toNat ([], d.nx.nx)).1.length : Int) ≤ 120; omega, mem _⟩, by show d.k ≤ (itr (liS (d.val % 5)) (d.nx.val % (120 + 1)).toNat ([], d.nx.nx)).2.k; omega, by show (itr (liS (d.val % 5)) (d.nx.val % (120 + 1)).toNat ([], d.nx.nx)).2.k ≤ d.k + 200; omega⟩
theorem long_ok (d : Dr) : RowOk d.long.1 ∧ d.k ≤ d.long.2.k ∧ d.long.2.k ≤ d.k + 200 := by
  have hn : 0 ≤ d.val % 6 ∧ d.val % 6 < 6 := ⟨Int.emod_nonneg _ (by decide), Int.emod_lt_of_pos _ (by decide)⟩
  obtain ⟨a, b⟩ := loS_at d.nx (1 + d.val % 6).toNat
  rw [Dr.nx_k] at a
  have mem : ∀ n, ∀ v ∈ (itr loS n ([], d.nx)).1, -1 ≤ v ∧ v < 15 := fun n =>
    itr_ind (f := loS) (x := ([], d.nx)) (C := fun n (y : List Int × Dr) => ∀ v ∈ y.1, -1 ≤ v ∧ v < 15) (fun v z => by cases z) (fun n y h v hv => by
      have hv : v ∈ y.1 ++ List.replicate (reps y.2.nx.val) (y.2.val % 3) := hv
      rcases List.mem_append.mp hv with z | z
      · exact h v z
      · rw [List.eq_of_mem_replicate z]
        have v3 := Int.emod_nonneg y.2.val (show (3 : Int) ≠ 0 by decide)
        have v3' := Int.emod_lt_of_pos y.2.val (show (0 : Int) < 3 by decide)
        omega) n
  refine ⟨⟨?_, fun v hv => mem _ v (List.mem_of_mem_take hv)⟩, ?_, ?_⟩
  · show (((itr loS (1 + d.val % 6).toNat ([], d.nx)).1.take 120).length : Int) ≤ 120
    rw [List.length_take]
    omega
  · show d.k ≤ (itr loS (1 + d.val % 6).toNat ([], d.nx)).2.k
    omega
  · show (itr loS (1 + d.val % 6).toNat ([], d.nx)).2.k ≤ d.k + 200
    omega
theorem mr_rep (n c : Nat) (t : List Int) (h : t = [] ∨ t = [4]) : mr [5] c (List.replicate n 5 ++ t) = c + n := by
  induction n generalizing c with
  | zero =>
    rcases h with rfl | rfl
    · rfl
    · show max c 0 = c + 0
      omega
  | succ n ih =>
    show mr [5] (c + 1) (List.replicate n 5 ++ t) = c + (n + 1)
    rw [ih]
    omega
def dueI (i : Nat) : Int := ((([1, 2, 4, 8, 16, 32, 64] : List Int).filter fun v => decide (v ≤ (i : Int))).length : Int)
theorem due_ok : ∀ i : Nat, i < 121 → ((Builtin.Int.intBits (i : Int) : Nat) : Int) = dueI i := by decide +kernel
def rowI (i : Nat) : List Int := List.replicate i 5 ++ if decide ((i : Int) < 120) = true then [4] else []
theorem needed_row (i : Nat) (h : i < 121) : neededF [5] (rowI i) = dueI i := by
  unfold neededF
  rw [runs_max]
  have e : mr [5] 0 (rowI i) = i := by
    unfold rowI
    rw [mr_rep _ _ _ (by split <;> simp), Nat.zero_add]
  rw [e]
  exact due_ok i h
theorem en_blk {X : Cx} {k : Nat} (h : En X k) {scope : Scope} {s : Shared} {H : Hp} {C : Addr} {cl : List (Str × Addr)} {fp : List Addr} : En (bx X scope s H C cl fp) k := ⟨h.gd, h.rm, h.calm, PassesOwn.never⟩
section
variable {P : Program} {w : World} {K : PySem.W.Frag} {mg : Str → Option Value} {base : Heap} {k : Nat} {f fv : Addr} {fd : FuncData}
structure Ls (X : Cx) (k : Nat) : Prop where
  draws : ClX X k "_law_draws" 1 [] idV spDraws
  list : ClX X k "_law_list" 2 [] idV spList
  long : ClX X k "_law_long" 1 [] idV spLong
  right : ClX X k "_law_right" 2 [] idV spRight
  n0 : ClX X k "passes_needed" 2 [] idV spNeeded
theorem b_law {X : Cx} (c : Sc X N_law sc_law) (en : En X k) (ls : Ls X k) (bl : Bi X "len" (.builtin "len")) (bi : Bi X "int" (.type "int")) (mr : X.mg "range" = none) {q : D} {ns : List Int} (h : ScrD X.K q ns) (hl : ns.length ≤ 63) :
    SX X (defBody s_law) [.d q, .un, .un, .un, .un, .un, .un] (retE [] (.d (.bl true))) := by
  have l0 := nl_law_0 c
  have m0 := l0.nm
  have l1 := nl_law_1 c
  have m1 := l1.nm
  have l2 := nl_law_2 c
  have m2 := l2.nm
  have l3 := nl_law_3 c
  have m3 := l3.nm
  have l4 := nl_law_4 c
  have m4 := l4.nm
  have g_list := gl_law_list c
  have g_long := gl_law_long c
  have g_right := gl_law_right c
  have g_int := gl_law_int c
  have g_len := gl_law_len c
  have g_passes_needed := gl_law_passes_needed c
  have g_range := gl_law_range c
  refine' sx_forO (dss := (ns.take 6 ++ [0]).map fun c => (drOf c).ds) (t := 1) en l1 ?hi (fun _ => [.d q, .un, .un, .un, .un, .un, .un]) ?h0 ?ht ?hs ?hd (fun _ => rfl)
  case hi =>
    refine' Ev.cast (r := .lo (.olst ((ns.take 6 ++ [0]).map fun y => .own (drOf y).ds))) ?a1 ?a2
    case a1 =>
      refine' ev_lcO (own := [("_law_cell", 5)]) (ys := ns.take 6 ++ [0]) (enc := D.int) (g := fun y => (drOf y).ds) en.calm ?b1 ?b2 ?b3 ?b4 ?b5 ?b6 ?b7
      case b1 => rw [c.n]; exact fs_law.nd
      case b2 =>
        rw [c.n, c.s]
        exact ⟨rfl, by decide +kernel, by decide +kernel, by decide +kernel, by decide +kernel⟩
      case b3 => exact fun _ => rfl
      case b4 =>
        refine' ei_list ?d1
        case d1 =>
          refine' Ev.frzO ?d2
          case d2 =>
            refine' ev_catI (ms := [0]) ?e1 ?e2 ?e3 ?e4 ?e5 ?e6
            case e1 => exact ev_scrT (j := 6) m0 rfl h ev_int (by decide)
            case e2 => walk_at "Mev"
            case e3 => first | exact .inl rfl | exact .inr rfl
            case e4 => exact cv_own
            case e5 => exact cv_own
            case e6 => rw [List.length_take]; show _ + 1 ≤ _; omega
      case b5 => rw [List.length_append, List.length_take]; show _ + 1 ≤ _; omega
      case b6 =>
        intro j hj
        rcases List.mem_cons.mp hj with rfl | hj
        · exact ⟨fun l z => (by cases (show (some SV.un : Option SV) = some (.lo l) from z)), fun l z => (by cases (show (some SV.un : Option SV) = some (.par l) from z))⟩
        · cases hj
      case b7 =>
        intro y hy
        refine ⟨_, bg_name (i := 5) (fun s H C cl fp => c.blk.nl fs_law.nd rfl rfl) (by decide) (.inl rfl), ?_⟩
        intro s H C cl fp
        refine' Ev.cast ?f1 ?f2
        case f1 =>
          refine' ev_go (X := bx X _ s H C cl fp) (k := k) ls.draws (en_blk en) (Sb.gl c.blk rfl) y ?g1 ?g2 ?g3 ?g4 ?g5 rfl rfl rfl
          case g1 =>
            refine' EvA.tr ?g6 ?g7
            case g6 => exact ea_one (ev_d (i := 5) (Sb.nm c.blk rfl (.inl rfl)) rfl) rfl
            case g7 => rfl
          case g2 => rfl
          case g3 => rfl
          case g4 => trivial
          case g5 => rfl
        case f2 => rfl
    case a2 =>
      rw [List.map_map]
      rfl
  case h0 => walk_at "Mwk"
  case ht => exact fun i hi => ⟨.un, rfl, rfl⟩
  case hs =>
    intro i ds hds
    rw [List.getElem?_map] at hds
    cases hc : (ns.take 6 ++ [0])[i]? with
    | none =>
      rw [hc] at hds
      cases hds
    | some cell =>
      rw [hc] at hds
      cases hds
      have hk0 : (drOf cell).k = 0 := rfl
      show SX X _ [.d q, .lo (.own (drOf cell).ds), .un, .un, .un, .un, .un] _
      generalize drOf cell = d at *
      obtain ⟨r1, k1, k2⟩ := list_ok d
      obtain ⟨r2, k3, k4⟩ := long_ok (d.list 120).2
      obtain ⟨r3, k5, k6⟩ := long_ok (d.list 120).2.long.2
      refine' sx_forW (items := [liI (d.list 120).1, liI (d.list 120).2.long.1, liI (d.list 120).2.long.2.long.1]) en ?hi2 (fun j => [.d q, .lo (.own (itr (fun e : Dr => (e.marks 4).2) j (d.list 120).2.long.2.long.2).ds), .un, .un, .un, .un, .un]) ?h02 ?hs2 ?hd2 (fun _ => rfl)
      case hi2 =>
        refine' ei_list ?i1
        case i1 =>
          refine' Ev.cast ?i2 ?i3
          case i2 =>
            refine' Ev.frz ?i4
            case i4 =>
              refine' ev_lstO (ls := [.own ((d.list 120).1.map D.int), .own ((d.list 120).2.long.1.map D.int), .own ((d.list 120).2.long.2.long.1.map D.int)]) ?i5 ?i6
              case i5 =>
                refine' eo_cons ?i7 ?i8 rfl
                case i7 =>
                  refine' ev_list2 (d := d) (most := 120) ls.list en g_list m1 ?j1 ev_int ?j2 ?j3 rfl rfl rfl
                  case j1 => exact .inl rfl
                  case j2 => omega
                  case j3 => omega
                case i8 =>
                  refine' eo_cons ?i9 ?i10 rfl
                  case i9 =>
                    refine' ev_long (d := (d.list 120).2) ls.long en g_long m1 ?j4 ?j5
                    case j4 => exact .inl rfl
                    case j5 => omega
                  case i10 =>
                    refine' eo_cons ?i11 ?i12 rfl
                    case i11 =>
                      refine' ev_long (d := (d.list 120).2.long.2) ls.long en g_long m1 ?j6 ?j7
                      case j6 => exact .inl rfl
                      case j7 => omega
                    case i12 => exact eo_nil
              case i6 => exact Nat.le_of_ble_eq_true rfl
          case i3 =>
            unfold L.toD L.toDs L.toD L.toDs L.toD L.toDs L.toD L.toDs
            rfl
      case h02 => walk_at "Mwk"
      case hd2 =>
        refine sx_nil ?_
        show Wk _ _
        walk_at "Mwk"
      case hs2 =>
        intro j dd hj
        obtain ⟨row, e, hrow⟩ : ∃ row, dd = liI row ∧ RowOk row := by
          match j, hj with
          | 0, hj => cases hj; exact ⟨_, rfl, r1⟩
          | 1, hj => cases hj; exact ⟨_, rfl, r2⟩
          | 2, hj => cases hj; exact ⟨_, rfl, r3⟩
        subst e
        have hj3 : j < 3 := (List.getElem?_eq_some_iff.mp hj).1
        have hkj : ∀ n : Nat, (d.list 120).2.long.2.long.2.k ≤ (itr (fun e : Dr => (e.marks 4).2) n (d.list 120).2.long.2.long.2).k ∧ (itr (fun e : Dr => (e.marks 4).2) n (d.list 120).2.long.2.long.2).k ≤ (d.list 120).2.long.2.long.2.k + 20 * n := fun n =>
          itr_ind (f := fun e : Dr => (e.marks 4).2) (x := (d.list 120).2.long.2.long.2) (C := fun n (y : Dr) => (d.list 120).2.long.2.long.2.k ≤ y.k ∧ y.k ≤ (d.list 120).2.long.2.long.2.k + 20 * n) ⟨Int.le_refl _, by simp⟩ (fun n y ⟨a, b⟩ => by
            obtain ⟨_, _, c1, c2⟩ := marks_ok y 4 (by omega)
            show _ ≤ (y.marks 4).2.k ∧ (y.marks 4).2.k ≤ _
            omega) n
        have hkk := hkj j
        have es : itr (fun e : Dr => (e.marks 4).2) (j + 1) (d.list 120).2.long.2.long.2 = ((itr (fun e : Dr => (e.marks 4).2) j (d.list 120).2.long.2.long.2).marks 4).2 := rfl
        rw [es]
        generalize itr (fun e : Dr => (e.marks 4).2) j (d.list 120).2.long.2.long.2 = e at *
        refine ⟨_, tg_name l2 rfl rfl, ?_⟩
        refine' sx_ifF ?o1 ?o2 ?o3
        case o1 =>
          refine' et_not ?o4
          case o4 =>
            refine' et_val ?o5 ?o6
            case o5 =>
              refine' Ev.cast ?o7 ?o8
              case o7 =>
                refine' ev_goP (es2 := (e.marks 4).2.ds) ls.right en g_right (e, row) ?u1 ?u2 ?u3 ?u4 ?u5 ?u6 rfl rfl rfl
                case u1 =>
                  refine' EvA.tr ?u7 ?u8
                  case u7 => walk_at "Mea"
                  case u8 => rfl
                case u2 => rfl
                case u3 => rfl
                case u4 => exact ⟨by show 0 ≤ e.k ∧ e.k ≤ 700000000; omega, hrow⟩
                case u5 => rfl
                case u6 => rfl
              case o8 => rfl
            case o6 => exact fun _ => rfl
        case o2 => rfl
        refine sx_nil ?_
        show Wk _ _
        walk_at "Mwk"
  case hd =>
    walk_at "Mfor"
    case n => omega
    case f => exact fun _ => [.d q, .un, .un, .un, .un, .un, .un]
    case h0 => walk_at "Mwk"
    case hd =>
      walk_at "Mret"
      walk_at "Mrt"
      rfl
    case hs =>
      intro i hi
      have hi : i < 121 := by omega
      refine ⟨_, tg_name l3 rfl rfl, ?_⟩
      -- due
      refine' sx_set (r := .d (.int (dueI i))) ?w1 ?w2 ?w3 ?w4 ?w5 ?w6
      case w1 => exact l4
      case w2 =>
        refine' Ev.cast ?x1 ?x2
        case x1 =>
          refine' ev_len (ds := (([1, 2, 4, 8, 16, 32, 64] : List Int).filter fun v => decide (v ≤ (i : Int))).map D.int) bl ?x3 cv_own rfl
          case x3 =>
            refine' ev_lc (own := [("_law_one", 6)]) (ys := ([1, 2, 4, 8, 16, 32, 64] : List Int)) (enc := D.int) (g := D.int) (p := fun v => decide (v ≤ (i : Int))) en.calm ?y1 ?y2 ?y3 ?y4 ?y5 ?y6 ?y7
            case y1 => rw [c.n]; exact fs_law.nd
            case y2 =>
              rw [c.n, c.s]
              exact ⟨rfl, by decide +kernel, by decide +kernel, by decide +kernel, by decide +kernel⟩
            case y3 => exact fun _ => rfl
            case y4 =>
              refine' ei_list ?y8
              case y8 =>
                refine' Ev.frzO ?y9
                case y9 => walk_at "Mev"
            case y5 => exact Nat.le_of_ble_eq_true rfl
            case y6 =>
              intro j hj
              rcases List.mem_cons.mp hj with rfl | hj
              · exact ⟨fun l z => (by cases (show (some SV.un : Option SV) = some (.lo l) from z)), fun l z => (by cases (show (some SV.un : Option SV) = some (.par l) from z))⟩
              · cases hj
            case y7 =>
              intro y hy
              refine ⟨_, bg_name (i := 6) (fun s H C cl fp => c.blk.nl fs_law.nd rfl rfl) (by decide) (.inl rfl), bt_one (fun s H C cl fp => ?_), fun _ => ?_⟩
              · refine' evt_tr ?z0 ?z9
                case z0 =>
                  refine' et_cj ?z1
                  case z1 =>
                    refine' cj_le (i := y) (j := (i : Int)) ?z2 ?z3
                    case z2 => exact ev_d (i := 6) (Sb.nm c.blk rfl (.inl rfl)) rfl
                    case z3 => exact ev_d (i := 3) (Sb.nm c.blk rfl (by first | exact .inr (.inl rfl) | exact .inr (.inr rfl) | exact .inl rfl)) rfl
                case z9 => rfl
              · intro s H C cl fp
                exact ev_d (i := 6) (Sb.nm c.blk rfl (.inl rfl)) rfl
        case x2 =>
          rw [List.length_map]
          rfl
      case w3 => rfl
      case w4 => rfl
      case w6 => rfl
      have hle : ((rowI i).length : Int) ≤ 120 := by
        unfold rowI
        rw [List.length_append, List.length_replicate]
        by_cases z : (i : Int) < 120
        · rw [if_pos (decide_eq_true z)]
          show ((i + 1 : Nat) : Int) ≤ 120
          omega
        · rw [if_neg (by rw [decide_eq_false z]; decide)]
          show ((i + 0 : Nat) : Int) ≤ 120
          omega
      refine' sx_ifF ?aa1 ?aa2 ?aa3
      case aa1 =>
        refine' et_cj ?aa4
        case aa4 =>
          refine' cj_neI (i := dueI i) (j := dueI i) ?aa5 ?aa6
          case aa5 =>
            refine' Ev.cast ?aa7 ?aa8
            case aa7 =>
              refine' ev_go ls.n0 en g_passes_needed ([5], rowI i) ?ab1 ?ab2 ?ab3 ?ab4 ?ab5 rfl rfl rfl
              case ab1 =>
                refine' ea_cons (r := .d (liI [5])) ?ac1 ?ac2 ?ac3 rfl
                case ac1 =>
                  refine' Ev.frzO ?ac4
                  case ac4 => walk_at "Mev"
                case ac2 =>
                  refine' ea_cons (r := .d (liI (rowI i))) ?ac5 ea_nil ?ac6 rfl
                  case ac5 =>
                    refine' Ev.frzO ?ac7
                    case ac7 =>
                      refine' ev_catI (ns := List.replicate i 5) (ms := if decide ((i : Int) < 120) = true then [4] else []) ?ad1 ?ad2 ?ad3 ?ad4 ?ad5 ?ad6
                      case ad1 =>
                        refine' Ev.cast (r' := .lo (.own ((List.replicate i 5).map D.int))) ?ae1 ?ae2
                        case ae1 =>
                          refine' ev_rep (k := (i : Int)) ?ae3 ?ae4 ?ae5 ?ae6 ?ae7 ?ae8 ?ae9
                          case ae3 => walk_at "Mev"
                          case ae4 => walk_at "Mev"
                          case ae5 => first | exact .inl rfl | exact .inr rfl
                          case ae6 => walk_at "Mcv"
                          case ae7 => omega
                          case ae8 => omega
                          case ae9 => show 1 * _ ≤ _; omega
                        case ae2 =>
                          rw [Int.toNat_natCast]
                          show Rs.lo (.own (List.replicate i [D.int 5]).flatten) = _
                          rw [flat_rep1, List.map_replicate]
                      case ad2 =>
                        refine' Ev.cast (r' := .lo (.own ((if decide ((i : Int) < 120) = true then [4] else []).map D.int))) ?af1 ?af2
                        case af1 => walk_at "Mev"
                        case af2 =>
                          cases decide ((i : Int) < 120)
                          · rfl
                          · rfl
                      case ad3 => first | exact .inl rfl | exact .inr rfl
                      case ad4 => exact cv_own
                      case ad5 => exact cv_own
                      case ad6 =>
                        have := hle
                        unfold rowI at this
                        rw [List.length_append] at this
                        omega
                  case ac6 => first | exact .inl rfl | exact .inr rfl
                case ac3 => first | exact .inl rfl | exact .inr rfl
              case ab2 => rfl
              case ab3 => rfl
              case ab4 => exact ⟨⟨show ([5] : List Int).Nodup by decide, show ((([5] : List Int).length : Nat) : Int) ≤ 12 by decide⟩, hle⟩
              case ab5 => rfl
            case aa8 =>
              show Rs.d (.int (neededF [5] (rowI i))) = _
              rw [needed_row i hi]
          case aa6 => walk_at "Mev"
      case aa2 =>
        rw [decide_eq_true rfl]
        rfl
      refine sx_nil ?_
      show Wk _ _
      walk_at "Mwk"
theorem ok_law (F : F_law K f fd) (ls : ∀ X : Cx, X.prog = P → X.w = w → X.K = K → X.mg = mg → X.base = base → Ls X k) (m1 : mg "len" = none) (m2 : mg "int" = none) (m3 : mg "range" = none) : FnG P w K mg base CX0 (k + 1) f fd P_law (spLaw K) :=
  fn_sx F fs_law (fun _ => rfl) fun cdv A outer s H E q hg hr hp => by
    have c : Sc (cxOf CX0 P w K mg base N_law "law" sc_law f cdv A outer s H E) N_law sc_law := ⟨rfl, rfl, fun _ => rfl⟩
    exact b_law c (en_of hg hr) (ls _ rfl rfl rfl rfl rfl) (c.bi rfl m1) (c.bi rfl m2) m3 hp.1 hp.2
end
end Lw

set_option Elab.async false
set_option linter.all false
set_option maxRecDepth 100000
set_option maxHeartbeats 4000000
namespace Lw
open PySem PySem.Spec PyProof.Rows L2 Mw
def d_is_whole : He.DefD := ⟨("is_whole", none), "is_whole", "is_whole", defArgs s_is_whole, defBody s_is_whole, sc_is_whole, [], []⟩
def d_is_whole_up_to : He.DefD := ⟨("is_whole_up_to", none), "is_whole_up_to", "is_whole_up_to", defArgs s_is_whole_up_to, defBody s_is_whole_up_to, sc_is_whole_up_to, [], []⟩
def d_is_list_up_to : He.DefD := ⟨("is_list_up_to", none), "is_list_up_to", "is_list_up_to", defArgs s_is_list_up_to, defBody s_is_list_up_to, sc_is_list_up_to, [], []⟩
def d_first_wrong_mark : He.DefD := ⟨("first_wrong_mark", none), "first_wrong_mark", "first_wrong_mark", defArgs s_first_wrong_mark, defBody s_first_wrong_mark, sc_first_wrong_mark, [], []⟩
def d_check_values : He.DefD := ⟨("check_values", none), "check_values", "check_values", defArgs s_check_values, defBody s_check_values, sc_check_values, [], []⟩
def d_check_marked : He.DefD := ⟨("check_marked", none), "check_marked", "check_marked", defArgs s_check_marked, defBody s_check_marked, sc_check_marked, [], []⟩
def d_check_passes : He.DefD := ⟨("check_passes", none), "check_passes", "check_passes", defArgs s_check_passes, defBody s_check_passes, sc_check_passes, [], []⟩
def d_left_by : He.DefD := ⟨("left_by", none), "left_by", "left_by", defArgs s_left_by, defBody s_left_by, sc_left_by, [], []⟩
def d_drop_visited : He.DefD := ⟨("drop_visited", none), "drop_visited", "drop_visited", defArgs s_drop_visited, defBody s_drop_visited, sc_drop_visited, [], []⟩
def d_check_both : He.DefD := ⟨("check_both", none), "check_both", "check_both", defArgs s_check_both, defBody s_check_both, sc_check_both, [], []⟩
def d_after_passes : He.DefD := ⟨("after_passes", none), "after_passes", "after_passes", defArgs s_after_passes, defBody s_after_passes, sc_after_passes, [], [("passes", .int (1))]⟩
def d_passes_needed : He.DefD := ⟨("passes_needed", none), "passes_needed", "passes_needed", defArgs s_passes_needed, defBody s_passes_needed, sc_passes_needed, [], []⟩
def d_runs : He.DefD := ⟨("runs", none), "runs", "runs", defArgs s_runs, defBody s_runs, sc_runs, [], []⟩
def d_draws : He.DefD := ⟨("_law_draws", none), "_law_draws", "_law_draws", defArgs s_draws, defBody s_draws, sc_draws, [], []⟩
def d_next : He.DefD := ⟨("_law_next", none), "_law_next", "_law_next", defArgs s_next, defBody s_next, sc_next, [], []⟩
def d_marks : He.DefD := ⟨("_law_marks", none), "_law_marks", "_law_marks", defArgs s_marks, defBody s_marks, sc_marks, [], []⟩
def d_list : He.DefD := ⟨("_law_list", none), "_law_list", "_law_list", defArgs s_list, defBody s_list, sc_list, [], []⟩
def d_left : He.DefD := ⟨("_law_left", none), "_law_left", "_law_left", defArgs s_left, defBody s_left, sc_left, [], []⟩
def d_long : He.DefD := ⟨("_law_long", none), "_law_long", "_law_long", defArgs s_long, defBody s_long, sc_long, [], []⟩
def d_right : He.DefD := ⟨("_law_right", none), "_law_right", "_law_right", defArgs s_right, defBody s_right, sc_right, [], []⟩
def d_law : He.DefD := ⟨("law", none), "law", "law", defArgs s_law, defBody s_law, sc_law, [], []⟩
def fn : List He.DefD := [d_is_whole, d_is_whole_up_to, d_is_list_up_to, d_first_wrong_mark, d_check_values, d_check_marked, d_check_passes, d_left_by, d_drop_visited, d_check_both, d_after_passes, d_passes_needed, d_runs, d_draws, d_next, d_marks, d_list, d_left, d_long, d_right, d_law]
def fa : List He.Fa := [.glo "is_whole", .glo "is_whole_up_to", .glo "is_list_up_to", .glo "first_wrong_mark", .glo "check_values", .glo "check_marked", .glo "check_passes", .glo "left_by", .glo "drop_visited", .glo "check_both", .glo "after_passes", .glo "passes_needed", .glo "runs", .glo "_law_draws", .glo "_law_next", .glo "_law_marks", .glo "_law_list", .glo "_law_left", .glo "_law_long", .glo "_law_right", .glo "law", .int "MOST_VALUES" 120, .int "MOST_MARKED" 12, .int "MOST_PASSES" 8, .free "bool", .free "enumerate", .free "int", .free "isinstance", .free "len", .free "list", .free "max", .free "range", .free "repr"]
def loose0 : List Str := [("InvalidValues" : Str), ("InvalidMarked" : Str), ("InvalidPasses" : Str), ("MOST_VALUES" : Str), ("MOST_MARKED" : Str), ("MOST_PASSES" : Str), ("is_whole" : Str), ("is_whole_up_to" : Str), ("is_list_up_to" : Str), ("first_wrong_mark" : Str), ("check_values" : Str), ("check_marked" : Str), ("check_passes" : Str), ("left_by" : Str), ("drop_visited" : Str), ("check_both" : Str), ("after_passes" : Str), ("passes_needed" : Str), ("runs" : Str), ("_law_draws" : Str), ("_law_next" : Str), ("_law_marks" : Str), ("_law_list" : Str), ("_law_left" : Str), ("_law_long" : Str), ("_law_right" : Str)]
def loose : List Str := loose0
abbrev lawAt : Nat := 31
theorem fx_is_whole {K : PySem.W.Frag} {h : Heap} {mg : Str → Option Value} (X : K.In h) (G : h.Ns mainGlobals mg) (c : He.SaysD fa fn K) : ∃ f fd, F_is_whole K f fd ∧ mg "is_whole" = some (.ref f) := by
  obtain ⟨fd, F⟩ := c.def_ 0 (d := d_is_whole) rfl
  exact ⟨_, fd, F, He.glo_ok X G (c.fact 0 (f := .glo "is_whole") rfl)⟩
theorem fx_is_whole_up_to {K : PySem.W.Frag} {h : Heap} {mg : Str → Option Value} (X : K.In h) (G : h.Ns mainGlobals mg) (c : He.SaysD fa fn K) : ∃ f fd, F_is_whole_up_to K f fd ∧ mg "is_whole_up_to" = some (.ref f) := by
  obtain ⟨fd, F⟩ := c.def_ 1 (d := d_is_whole_up_to) rfl
  exact ⟨_, fd, F, He.glo_ok X G (c.fact 1 (f := .glo "is_whole_up_to") rfl)⟩
theorem fx_is_list_up_to {K : PySem.W.Frag} {h : Heap} {mg : Str → Option Value} (X : K.In h) (G : h.Ns mainGlobals mg) (c : He.SaysD fa fn K) : ∃ f fd, F_is_list_up_to K f fd ∧ mg "is_list_up_to" = some (.ref f) := by
  obtain ⟨fd, F⟩ := c.def_ 2 (d := d_is_list_up_to) rfl
  exact ⟨_, fd, F, He.glo_ok X G (c.fact 2 (f := .glo "is_list_up_to") rfl)⟩
theorem fx_first_wrong_mark {K : PySem.W.Frag} {h : Heap} {mg : Str → Option Value} (X : K.In h) (G : h.Ns mainGlobals mg) (c : He.SaysD fa fn K) : ∃ f fd, F_first_wrong_mark K f fd ∧ mg "first_wrong_mark" = some (.ref f) := by
  obtain ⟨fd, F⟩ := c.def_ 3 (d := d_first_wrong_mark) rfl
  exact ⟨_, fd, F, He.glo_ok X G (c.fact 3 (f := .glo "first_wrong_mark") rfl)⟩
theorem fx_check_values {K : PySem.W.Frag} {h : Heap} {mg : Str → Option Value} (X : K.In h) (G : h.Ns mainGlobals mg) (c : He.SaysD fa fn K) : ∃ f fd, F_check_values K f fd ∧ mg "check_values" = some (.ref f) := by
  obtain ⟨fd, F⟩ := c.def_ 4 (d := d_check_values) rfl
  exact ⟨_, fd, F, He.glo_ok X G (c.fact 4 (f := .glo "check_values") rfl)⟩
theorem fx_check_marked {K : PySem.W.Frag} {h : Heap} {mg : Str → Option Value} (X : K.In h) (G : h.Ns mainGlobals mg) (c : He.SaysD fa fn K) : ∃ f fd, F_check_marked K f fd ∧ mg "check_marked" = some (.ref f) := by
  obtain ⟨fd, F⟩ := c.def_ 5 (d := d_check_marked) rfl
  exact ⟨_, fd, F, He.glo_ok X G (c.fact 5 (f := .glo "check_marked") rfl)⟩
theorem fx_check_passes {K : PySem.W.Frag} {h : Heap} {mg : Str → Option Value} (X : K.In h) (G : h.Ns mainGlobals mg) (c : He.SaysD fa fn K) : ∃ f fd, F_check_passes K f fd ∧ mg "check_passes" = some (.ref f) := by
  obtain ⟨fd, F⟩ := c.def_ 6 (d := d_check_passes) rfl
  exact ⟨_, fd, F, He.glo_ok X G (c.fact 6 (f := .glo "check_passes") rfl)⟩
theorem fx_left_by {K : PySem.W.Frag} {h : Heap} {mg : Str → Option Value} (X : K.In h) (G : h.Ns mainGlobals mg) (c : He.SaysD fa fn K) : ∃ f fd, F_left_by K f fd ∧ mg "left_by" = some (.ref f) := by
  obtain ⟨fd, F⟩ := c.def_ 7 (d := d_left_by) rfl
  exact ⟨_, fd, F, He.glo_ok X G (c.fact 7 (f := .glo "left_by") rfl)⟩
theorem fx_drop_visited {K : PySem.W.Frag} {h : Heap} {mg : Str → Option Value} (X : K.In h) (G : h.Ns mainGlobals mg) (c : He.SaysD fa fn K) : ∃ f fd, F_drop_visited K f fd ∧ mg "drop_visited" = some (.ref f) := by
  obtain ⟨fd, F⟩ := c.def_ 8 (d := d_drop_visited) rfl
  exact ⟨_, fd, F, He.glo_ok X G (c.fact 8 (f := .glo "drop_visited") rfl)⟩
theorem fx_check_both {K : PySem.W.Frag} {h : Heap} {mg : Str → Option Value} (X : K.In h) (G : h.Ns mainGlobals mg) (c : He.SaysD fa fn K) : ∃ f fd, F_check_both K f fd ∧ mg "check_both" = some (.ref f) := by
  obtain ⟨fd, F⟩ := c.def_ 9 (d := d_check_both) rfl
  exact ⟨_, fd, F, He.glo_ok X G (c.fact 9 (f := .glo "check_both") rfl)⟩
theorem fx_after_passes {K : PySem.W.Frag} {h : Heap} {mg : Str → Option Value} (X : K.In h) (G : h.Ns mainGlobals mg) (c : He.SaysD fa fn K) : ∃ f fd, F_after_passes K f fd ∧ mg "after_passes" = some (.ref f) := by
  obtain ⟨fd, F⟩ := c.def_ 10 (d := d_after_passes) rfl
  exact ⟨_, fd, F, He.glo_ok X G (c.fact 10 (f := .glo "after_passes") rfl)⟩
theorem fx_passes_needed {K : PySem.W.Frag} {h : Heap} {mg : Str → Option Value} (X : K.In h) (G : h.Ns mainGlobals mg) (c : He.SaysD fa fn K) : ∃ f fd, F_passes_needed K f fd ∧ mg "passes_needed" = some (.ref f) := by
  obtain ⟨fd, F⟩ := c.def_ 11 (d := d_passes_needed) rfl
  exact ⟨_, fd, F, He.glo_ok X G (c.fact 11 (f := .glo "passes_needed") rfl)⟩
theorem fx_runs {K : PySem.W.Frag} {h : Heap} {mg : Str → Option Value} (X : K.In h) (G : h.Ns mainGlobals mg) (c : He.SaysD fa fn K) : ∃ f fd, F_runs K f fd ∧ mg "runs" = some (.ref f) := by
  obtain ⟨fd, F⟩ := c.def_ 12 (d := d_runs) rfl
  exact ⟨_, fd, F, He.glo_ok X G (c.fact 12 (f := .glo "runs") rfl)⟩
theorem fx_draws {K : PySem.W.Frag} {h : Heap} {mg : Str → Option Value} (X : K.In h) (G : h.Ns mainGlobals mg) (c : He.SaysD fa fn K) : ∃ f fd, F_draws K f fd ∧ mg "_law_draws" = some (.ref f) := by
  obtain ⟨fd, F⟩ := c.def_ 13 (d := d_draws) rfl
  exact ⟨_, fd, F, He.glo_ok X G (c.fact 13 (f := .glo "_law_draws") rfl)⟩
theorem fx_next {K : PySem.W.Frag} {h : Heap} {mg : Str → Option Value} (X : K.In h) (G : h.Ns mainGlobals mg) (c : He.SaysD fa fn K) : ∃ f fd, F_next K f fd ∧ mg "_law_next" = some (.ref f) := by
  obtain ⟨fd, F⟩ := c.def_ 14 (d := d_next) rfl
  exact ⟨_, fd, F, He.glo_ok X G (c.fact 14 (f := .glo "_law_next") rfl)⟩
theorem fx_marks {K : PySem.W.Frag} {h : Heap} {mg : Str → Option Value} (X : K.In h) (G : h.Ns mainGlobals mg) (c : He.SaysD fa fn K) : ∃ f fd, F_marks K f fd ∧ mg "_law_marks" = some (.ref f) := by
  obtain ⟨fd, F⟩ := c.def_ 15 (d := d_marks) rfl
  exact ⟨_, fd, F, He.glo_ok X G (c.fact 15 (f := .glo "_law_marks") rfl)⟩
theorem fx_list {K : PySem.W.Frag} {h : Heap} {mg : Str → Option Value} (X : K.In h) (G : h.Ns mainGlobals mg) (c : He.SaysD fa fn K) : ∃ f fd, F_list K f fd ∧ mg "_law_list" = some (.ref f) := by
  obtain ⟨fd, F⟩ := c.def_ 16 (d := d_list) rfl
  exact ⟨_, fd, F, He.glo_ok X G (c.fact 16 (f := .glo "_law_list") rfl)⟩
theorem fx_left {K : PySem.W.Frag} {h : Heap} {mg : Str → Option Value} (X : K.In h) (G : h.Ns mainGlobals mg) (c : He.SaysD fa fn K) : ∃ f fd, F_left K f fd ∧ mg "_law_left" = some (.ref f) := by
  obtain ⟨fd, F⟩ := c.def_ 17 (d := d_left) rfl
  exact ⟨_, fd, F, He.glo_ok X G (c.fact 17 (f := .glo "_law_left") rfl)⟩
theorem fx_long {K : PySem.W.Frag} {h : Heap} {mg : Str → Option Value} (X : K.In h) (G : h.Ns mainGlobals mg) (c : He.SaysD fa fn K) : ∃ f fd, F_long K f fd ∧ mg "_law_long" = some (.ref f) := by
  obtain ⟨fd, F⟩ := c.def_ 18 (d := d_long) rfl
  exact ⟨_, fd, F, He.glo_ok X G (c.fact 18 (f := .glo "_law_long") rfl)⟩
theorem fx_right {K : PySem.W.Frag} {h : Heap} {mg : Str → Option Value} (X : K.In h) (G : h.Ns mainGlobals mg) (c : He.SaysD fa fn K) : ∃ f fd, F_right K f fd ∧ mg "_law_right" = some (.ref f) := by
  obtain ⟨fd, F⟩ := c.def_ 19 (d := d_right) rfl
  exact ⟨_, fd, F, He.glo_ok X G (c.fact 19 (f := .glo "_law_right") rfl)⟩
theorem fx_law {K : PySem.W.Frag} {h : Heap} {mg : Str → Option Value} (X : K.In h) (G : h.Ns mainGlobals mg) (c : He.SaysD fa fn K) : ∃ f fd, F_law K f fd ∧ mg "law" = some (.ref f) := by
  obtain ⟨fd, F⟩ := c.def_ 20 (d := d_law) rfl
  exact ⟨_, fd, F, He.glo_ok X G (c.fact 20 (f := .glo "law") rfl)⟩
theorem fi_MOST_VALUES {K : PySem.W.Frag} {h : Heap} {mg : Str → Option Value} (X : K.In h) (G : h.Ns mainGlobals mg) (c : He.SaysD fa fn K) : ∃ t, mg "MOST_VALUES" = some (.int 120 t) := He.int_ok X G (c.fact 21 (f := .int "MOST_VALUES" 120) rfl)
theorem fi_MOST_MARKED {K : PySem.W.Frag} {h : Heap} {mg : Str → Option Value} (X : K.In h) (G : h.Ns mainGlobals mg) (c : He.SaysD fa fn K) : ∃ t, mg "MOST_MARKED" = some (.int 12 t) := He.int_ok X G (c.fact 22 (f := .int "MOST_MARKED" 12) rfl)
theorem fi_MOST_PASSES {K : PySem.W.Frag} {h : Heap} {mg : Str → Option Value} (X : K.In h) (G : h.Ns mainGlobals mg) (c : He.SaysD fa fn K) : ∃ t, mg "MOST_PASSES" = some (.int 8 t) := He.int_ok X G (c.fact 23 (f := .int "MOST_PASSES" 8) rfl)
theorem ff_bool {K : PySem.W.Frag} {h : Heap} {mg : Str → Option Value} (X : K.In h) (G : h.Ns mainGlobals mg) (c : He.SaysD fa fn K) : mg "bool" = none := He.free_ok X G (c.fact 24 (f := .free "bool") rfl)
theorem ff_enumerate {K : PySem.W.Frag} {h : Heap} {mg : Str → Option Value} (X : K.In h) (G : h.Ns mainGlobals mg) (c : He.SaysD fa fn K) : mg "enumerate" = none := He.free_ok X G (c.fact 25 (f := .free "enumerate") rfl)
theorem ff_int {K : PySem.W.Frag} {h : Heap} {mg : Str → Option Value} (X : K.In h) (G : h.Ns mainGlobals mg) (c : He.SaysD fa fn K) : mg "int" = none := He.free_ok X G (c.fact 26 (f := .free "int") rfl)
theorem ff_isinstance {K : PySem.W.Frag} {h : Heap} {mg : Str → Option Value} (X : K.In h) (G : h.Ns mainGlobals mg) (c : He.SaysD fa fn K) : mg "isinstance" = none := He.free_ok X G (c.fact 27 (f := .free "isinstance") rfl)
theorem ff_len {K : PySem.W.Frag} {h : Heap} {mg : Str → Option Value} (X : K.In h) (G : h.Ns mainGlobals mg) (c : He.SaysD fa fn K) : mg "len" = none := He.free_ok X G (c.fact 28 (f := .free "len") rfl)
theorem ff_list {K : PySem.W.Frag} {h : Heap} {mg : Str → Option Value} (X : K.In h) (G : h.Ns mainGlobals mg) (c : He.SaysD fa fn K) : mg "list" = none := He.free_ok X G (c.fact 29 (f := .free "list") rfl)
theorem ff_max {K : PySem.W.Frag} {h : Heap} {mg : Str → Option Value} (X : K.In h) (G : h.Ns mainGlobals mg) (c : He.SaysD fa fn K) : mg "max" = none := He.free_ok X G (c.fact 30 (f := .free "max") rfl)
theorem ff_range {K : PySem.W.Frag} {h : Heap} {mg : Str → Option Value} (X : K.In h) (G : h.Ns mainGlobals mg) (c : He.SaysD fa fn K) : mg "range" = none := He.free_ok X G (c.fact 31 (f := .free "range") rfl)
theorem ff_repr {K : PySem.W.Frag} {h : Heap} {mg : Str → Option Value} (X : K.In h) (G : h.Ns mainGlobals mg) (c : He.SaysD fa fn K) : mg "repr" = none := He.free_ok X G (c.fact 32 (f := .free "repr") rfl)
abbrev R : PySem.W.OpenRow := PySem.W.OpenLaw.row PySem.Challenge.rw_midwalk_k02_more_passes
abbrev hk : PySem.W.Hook := He.hookD 4 fa fn
def ob (s : PySem.W.SharedT) : He.AlD := He.obsDG 4 fa fn (HandSHeadRun.getT s)
theorem ob_eq (s : PySem.W.SharedT) : ob s = hk.obs s.abs := He.obsDG_eq (HandSHeadRun.getT_eq s)
theorem run (w : World) : HandSHeadRun.RunEq R (PySem.W.view R.prog [lawAt]) hk ob 6000 loose w := by
  intro os
  kernel_rfl
theorem law_ok {P : Program} {w : World} {K : PySem.W.Frag} {h : Heap} {mg : Str → Option Value} (X : K.In h) (G : h.Ns mainGlobals mg) (c : He.SaysD fa fn K) {f : Addr} {fd : FuncData} (F : F_law K f fd) : ∀ base : Heap, K.In base → base.Ns mainGlobals mg → FnG P w K mg base CX0 12 f fd P_law (spLaw K) := by
  intro base _ _
  obtain ⟨_, _, F1, e1⟩ := fx_next X G c
  obtain ⟨_, _, F2, e2⟩ := fx_marks X G c
  obtain ⟨_, _, F3, e3⟩ := fx_list X G c
  obtain ⟨_, _, F4, e4⟩ := fx_long X G c
  obtain ⟨_, _, F5, e5⟩ := fx_is_whole X G c
  obtain ⟨_, _, F6, e6⟩ := fx_is_list_up_to X G c
  obtain ⟨_, _, F7, e7⟩ := fx_first_wrong_mark X G c
  obtain ⟨_, _, F8, e8⟩ := fx_check_values X G c
  obtain ⟨_, _, F9, e9⟩ := fx_check_marked X G c
  obtain ⟨_, _, F10, e10⟩ := fx_check_both X G c
  obtain ⟨_, _, F11, e11⟩ := fx_is_whole_up_to X G c
  obtain ⟨_, _, F12, e12⟩ := fx_check_passes X G c
  obtain ⟨_, _, F13, e13⟩ := fx_left_by X G c
  obtain ⟨_, _, F14, e14⟩ := fx_drop_visited X G c
  obtain ⟨_, _, F15, e15⟩ := fx_after_passes X G c
  obtain ⟨_, _, F16, e16⟩ := fx_runs X G c
  obtain ⟨_, _, F17, e17⟩ := fx_passes_needed X G c
  obtain ⟨_, _, F18, e18⟩ := fx_left X G c
  obtain ⟨_, _, F19, e19⟩ := fx_right X G c
  obtain ⟨_, _, F20, e20⟩ := fx_draws X G c
  have m_int := ff_int X G c
  have m_len := ff_len X G c
  have m_list := ff_list X G c
  have m_range := ff_range X G c
  have m_repr := ff_repr X G c
  have m_max := ff_max X G c
  have m_enum := ff_enumerate X G c
  have m_isi := ff_isinstance X G c
  have m_bool := ff_bool X G c
  have C1 : Cl P w K mg base 1 _ _ _ _ _ := cl_next F1 (ok_next (k := 0) F1 m_int) e1
  have C2 := cl_marks F2 (ok_marks F2 C1 m_int m_range) e2
  have C3 := cl_list F3 (ok_list F3 C1 m_int m_range) e3
  have C4 := cl_long F4 (ok_long F4 C1 m_int m_range) e4
  have C5 : Cl P w K mg base 1 _ _ _ _ _ := cl_is_whole F5 (ok_is_whole (k := 0) F5 m_isi m_int m_bool) e5
  have C6 : Cl P w K mg base 1 _ _ _ _ _ := cl_is_list_up_to F6 (ok_is_list_up_to (k := 0) F6 m_isi m_list m_len) e6
  have C7 := cl_first_wrong_mark F7 (ok_first_wrong_mark F7 C5 m_enum) e7
  have C8 := cl_check_values F8 (ok_check_values F8 C5 C6 m_enum (fi_MOST_VALUES X G c)) e8
  have C9 := cl_check_marked F9 (ok_check_marked F9 C7 (C6.up (by decide)) (fi_MOST_MARKED X G c)) e9
  have C10 := cl_check_both F10 (ok_check_both F10 C9 (C8.up (by decide))) e10
  have C11 := cl_is_whole_up_to F11 (ok_is_whole_up_to F11 C5) e11
  have C12 := cl_check_passes F12 (ok_check_passes F12 C11) e12
  have B14 : Bdy P w K mg base 1 _ gVis := bdy_drop_visited F14 (ok_drop_visited (k := 0) F14)
  have C13 := cl_left_by F13 (ok_left_by (P := P) (w := w) (base := base) (k := 1) F13 m_list m_len) e13
  have O15 := ok_after_passes (k := 4) F15 C10 (C12.up (by decide)) (C13.up (by decide)) B14 e14 m_list m_range (fi_MOST_PASSES X G c)
  have C16 := cl_runs F16 (ok_runs F16 C10 m_len m_enum) e16
  have O17 := ok_passes_needed F17 C16 m_max
  have C18 : Cl P w K mg base 1 _ _ _ _ _ := cl_left F18 (ok_left (k := 0) F18 m_list m_len) e18
  have C20 : Cl P w K mg base 1 _ _ _ _ _ := cl_draws F20 (ok_draws (k := 0) F20 m_int) e20
  have A0 := (cl_after0 F15 O15 e15).up (k := 6) (by decide)
  have A1 := (cl_after1 F15 O15 e15).up (k := 6) (by decide)
  have A2 := (cl_after2 F15 O15 e15).up (k := 6) (by decide)
  have N0 := cl_passes_needed F17 O17 e17
  have N2 := cl_needed2 F17 O17 e17
  have D2 := C2.up (k := 6) (by decide)
  have D18 := C18.up (k := 6) (by decide)
  have C19 := cl_right F19 (ok_right (P := P) (w := w) (K := K) (mg := mg) (base := base) (k := 6) F19 (fun Y h1 h2 h3 h4 h5 => by
    subst h1 h2 h3 h4 h5
    exact ⟨D2, A0, A1, A2, D18, N0, N2⟩) m_repr m_range) e19
  have E3 := C3.up (k := 7) (by decide)
  have E4 := C4.up (k := 7) (by decide)
  have E20 := C20.up (k := 7) (by decide)
  have E0 := N0.up (k := 7) (by decide)
  exact (ok_law (P := P) (w := w) (K := K) (mg := mg) (base := base) (k := 7) F (fun Y h1 h2 h3 h4 h5 => by
    subst h1 h2 h3 h4 h5
    exact ⟨E20, E3, E4, C19, E0⟩) m_len m_int m_range).up (by decide)
end Lw
open PySem PySem.W PySem.Calls PyProof.Rows
theorem PySem.Challenge.cw_midwalk_k02_more_passes_holds : PySem.Challenge.rw_midwalk_k02_more_passes.Holds := by
  w_on; o_law
  refine HandSHeadRun.head_any (r := OpenLaw.row PySem.Challenge.rw_midwalk_k02_more_passes) (q := view (OpenLaw.row PySem.Challenge.rw_midwalk_k02_more_passes).prog [Lw.lawAt]) (H := Lw.hk) (ob := Lw.ob) (M := 6000) (loose := Lw.loose) (d := HandSHeadRun.topDef (OpenLaw.row PySem.Challenge.rw_midwalk_k02_more_passes).prog Lw.lawAt) (kwd := []) Lw.ob_eq
    (by kernel_rfl) (fun s => by kernel_rfl) Lw.run (by kernel_rfl) (by kernel_rfl) (by kernel_rfl) (by rfl) (by first | assumption | decide +kernel) (by decide +kernel) ⟨rfl, rfl, rfl, rfl, rfl, by decide +kernel⟩ ?hw ?hc
  case hw => w_witness2
  case hc =>
    refine Mw.walk_G (l := PySem.Challenge.rw_midwalk_k02_more_passes) (n := 63) (k := 12) (x := "_law_script") rfl (by decide) (by kernel_rfl) ⟨rfl, by decide, by decide⟩ ?F
    intro w mg fa h Y G hmg0
    obtain ⟨K, KX, c⟩ := Y
    have hmg : mg ("law" : PySem.Str) = some (.ref fa) := by
      have e : (HandSHeadRun.topDef (OpenLaw.row PySem.Challenge.rw_midwalk_k02_more_passes).prog Lw.lawAt).name = ("law" : PySem.Str) := by kernel_rfl
      rw [← e]
      exact hmg0
    obtain ⟨f, fd, F, ef⟩ := Lw.fx_law KX G c
    have e := hmg.symm.trans ef
    cases e
    have b := L2.FunD.bindsA (ps := ["_law_script"]) F fun _ _ _ _ _ _ us hl => match us, hl with | [_], _ => rfl
    exact ⟨K, fd, Mw.spLaw K, KX, fun s v => b s [v] rfl, fun H a ns hl hO hS => Mw.law_of H a ns hl hO hS, Lw.law_ok KX G c F⟩
namespace Lw
end Lw
