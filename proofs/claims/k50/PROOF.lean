import PyProof.Rows.All
import HandS.Words
import PyProof.ReprRoads
import HandS.List
import HandS.IsInst
import HandS.Wide
import HandS.Call
import HandS.Exc
import HandS.Lambda
import HandS.ExcInit
import KE.KExcSuper
import HandS.TryMany
import KE.KTryMore
import KE.KExcIs
import HandS.ForMost
import HandS.Defaults
import HandS.MakeKwOnly
import HandS.Flow
import HandS.WideBits
import HandS.SortInts
import HandS.SetFor
import HandS.ExcOwn
import HandS.Comp
import HandS.HeadHook4
import HandS.Style
import HandS.SortKw
import HandS.Conv
import HandS.Zip
import KE.DataMinMax
import HandS.More
import HandS.Head0
import HandS.Head1
import HandS.Head2
import HandS.HeadEnd
import HandS.HeadHook1
import HandS.HeadHook2
import PyProof.SumAny
import PyProof.FactsAll.subtypes_4
import HandS.ExcValue
import HandS.Set
import HandS.Strs
import PyProof.SetRoads
import PyProof.ListNew
import KE.KDictZip
import HandS.TupAny
import HandS.EndTab
import HandS.NoneIn
import PyProof.RowDictHeap
import PySem.Challenge.RW_midwalk_k50_doublet_passes
set_option Elab.async false
set_option linter.all false
set_option maxRecDepth 100000
set_option maxHeartbeats 4000000
/-! N1: values as trees; how they stand in the abstract heap -/
namespace Mi
open PySem L2

inductive T where
  | non | bl (b : Bool) | int (i : Int) | str (x : Str) | lst (xs : List T) | tup (xs : List T) | dic (kvs : List (Key × T)) | fn (n : Nat) (a : Addr) | scr (ns : List Int) | set (ns : List Int) | exc (c : Nat) (C : Addr) (f : Str) (x : T)
/-- at a: an exception of the class at C that was caught, its dict at d -/
def exv (a C d : Addr) : HO := .ext fun h => ∃ oe, h.get? a = some oe ∧ oe.cls = .ref C ∧ oe.dict = some d ∧ ∃ vs, oe.data = .fields vs
abbrev Lk := Addr → HO → Prop
abbrev At (F : Hp) : Lk := fun a o => F a = some o
def dedup : List Int → List Int
  | [] => []
  | n :: ns => if ns.contains n then dedup ns else n :: dedup ns

mutual
inductive Rep (K : PySem.W.Frag) (G : Lk) : V → T → Prop
  | non : Rep K G .non .non
  | bl (b : Bool) : Rep K G (.bl b) (.bl b)
  | int (i : Int) : Rep K G (.int i) (.int i)
  | str (x : Str) : Rep K G (.str x) (.str x)
  | lst {a : Addr} {xs : List V} {ds : List T} : G a (.lst xs) → RepL K G xs ds → Rep K G (.ref a) (.lst ds)
  | tup {a : Addr} {xs : List V} {ds : List T} : G a (.tup xs) → RepL K G xs ds → Rep K G (.ref a) (.tup ds)
  | dic {a : Addr} {xs : List (Key × V)} {ds : List (Key × T)} : G a (.dK xs) → RepK K G xs ds → Rep K G (.ref a) (.dic ds)
  | fn (n : Nat) (a : Addr) : Rep K G (.ref a) (.fn n a)
  | scr {a : Addr} {ns : List Int} : (∃ o, G a (.frz o (.lst (ns.map V.int)))) ∨ (∀ H : Hp, SqL K H a (ns.map V.int)) → Rep K G (.ref a) (.scr ns)
  | set {a : Addr} {ns : List Int} {S : Int → Bool} {n : Nat} : G a (.set S n) → (∀ i, S i = ns.contains i) → n = (dedup ns).length → Rep K G (.ref a) (.set ns)
  | exc {a C d : Addr} {c : Nat} {f : Str} {v : V} {x : T} : G a (exv a C d) → G d (.xd [(f, v)]) → Rep K G v x → Rep K G (.ref a) (.exc c C f x)
inductive RepL (K : PySem.W.Frag) (G : Lk) : List V → List T → Prop
  | nil : RepL K G [] []
  | cons {v : V} {vs : List V} {d : T} {ds : List T} : Rep K G v d → RepL K G vs ds → RepL K G (v :: vs) (d :: ds)
inductive RepK (K : PySem.W.Frag) (G : Lk) : List (Key × V) → List (Key × T) → Prop
  | nil : RepK K G [] []
  | cons {k : Key} {v : V} {vs : List (Key × V)} {d : T} {ds : List (Key × T)} : Rep K G v d → RepK K G vs ds → RepK K G ((k, v) :: vs) ((k, d) :: ds)
end
section
variable {K : PySem.W.Frag} {G G' : Lk}
mutual
theorem Rep.mono (e : ∀ a o, G a o → G' a o) : ∀ {d : T} {v : V}, Rep K G v d → Rep K G' v d
  | .non, _, h => by cases h; exact .non
  | .bl _, _, h => by cases h; exact .bl _
  | .int _, _, h => by cases h; exact .int _
  | .str _, _, h => by cases h; exact .str _
  | .fn _ _, _, h => by cases h; exact .fn _ _
  | .scr _, _, h => by
    cases h with
    | scr h1 => exact .scr (h1.imp (fun ⟨o, z⟩ => ⟨o, e _ _ z⟩) id)
  | .set _, _, h => by
    cases h with
    | set h1 h2 h3 => exact .set (e _ _ h1) h2 h3
  | .exc _ _ _ x, _, h => by
    cases h with
    | exc h1 h2 h3 => exact .exc (e _ _ h1) (e _ _ h2) (Rep.mono e h3)
  | .lst ds, _, h => by
    cases h with
    | lst h1 h2 => exact .lst (e _ _ h1) (RepL.mono e h2)
  | .tup ds, _, h => by
    cases h with
    | tup h1 h2 => exact .tup (e _ _ h1) (RepL.mono e h2)
  | .dic ds, _, h => by
    cases h with
    | dic h1 h2 => exact .dic (e _ _ h1) (RepK.mono e h2)
theorem RepL.mono (e : ∀ a o, G a o → G' a o) : ∀ {ds : List T} {vs : List V}, RepL K G vs ds → RepL K G' vs ds
  | [], _, h => by cases h; exact .nil
  | _ :: _, _, h => by
    cases h with
    | cons h1 h2 => exact .cons (Rep.mono e h1) (RepL.mono e h2)
theorem RepK.mono (e : ∀ a o, G a o → G' a o) : ∀ {ds : List (Key × T)} {vs : List (Key × V)}, RepK K G vs ds → RepK K G' vs ds
  | [], _, h => by cases h; exact .nil
  | (_, _) :: _, _, h => by
    cases h with
    | cons h1 h2 => exact .cons (Rep.mono e h1) (RepK.mono e h2)
end
theorem rep_int {v : V} {i : Int} (h : Rep K G v (.int i)) : v = .int i := by cases h; rfl
theorem rep_bl {v : V} {i : Bool} (h : Rep K G v (.bl i)) : v = .bl i := by cases h; rfl
theorem rep_str {v : V} {i : Str} (h : Rep K G v (.str i)) : v = .str i := by cases h; rfl
theorem rep_non {v : V} (h : Rep K G v .non) : v = .non := by cases h; rfl
theorem rep_fn {v : V} {n : Nat} {a : Addr} (h : Rep K G v (.fn n a)) : v = .ref a := by cases h; rfl
theorem rep_lst {v : V} {ds : List T} (h : Rep K G v (.lst ds)) : ∃ a xs, v = .ref a ∧ G a (.lst xs) ∧ RepL K G xs ds := by
  cases h with
  | lst h1 h2 => exact ⟨_, _, rfl, h1, h2⟩
theorem rep_scr {v : V} {ns : List Int} (h : Rep K G v (.scr ns)) : ∃ a, v = .ref a ∧ ((∃ o, G a (.frz o (.lst (ns.map V.int)))) ∨ ∀ H : Hp, SqL K H a (ns.map V.int)) := by
  cases h with
  | scr h1 => exact ⟨_, rfl, h1⟩
theorem rep_set {v : V} {ns : List Int} (h : Rep K G v (.set ns)) : ∃ a S n, v = .ref a ∧ G a (.set S n) ∧ (∀ i, S i = ns.contains i) ∧ n = (dedup ns).length := by
  cases h with
  | set h1 h2 h3 => exact ⟨_, _, _, rfl, h1, h2, h3⟩
theorem rep_exc {v : V} {c : Nat} {C : Addr} {f : Str} {x : T} (h : Rep K G v (.exc c C f x)) : ∃ a d w, v = .ref a ∧ G a (exv a C d) ∧ G d (.xd [(f, w)]) ∧ Rep K G w x := by
  cases h with
  | exc h1 h2 h3 => exact ⟨_, _, _, rfl, h1, h2, h3⟩
theorem rep_tup {v : V} {ds : List T} (h : Rep K G v (.tup ds)) : ∃ a xs, v = .ref a ∧ G a (.tup xs) ∧ RepL K G xs ds := by
  cases h with
  | tup h1 h2 => exact ⟨_, _, rfl, h1, h2⟩
theorem rep_dic {v : V} {ds : List (Key × T)} (h : Rep K G v (.dic ds)) : ∃ a xs, v = .ref a ∧ G a (.dK xs) ∧ RepK K G xs ds := by
  cases h with
  | dic h1 h2 => exact ⟨_, _, rfl, h1, h2⟩
theorem RepL.length : ∀ {xs : List V} {ds : List T}, RepL K G xs ds → xs.length = ds.length
  | _, _, .nil => rfl
  | _, _, .cons _ h => congrArg Nat.succ (RepL.length h)
theorem RepL.get : ∀ {xs : List V} {ds : List T} {i : Nat} {v : V}, RepL K G xs ds → xs[i]? = some v → ∃ d, ds[i]? = some d ∧ Rep K G v d
  | _, _, _, _, .nil, e => by simp at e
  | _, _, 0, _, .cons h _, e => by
    have e' : _ = _ := Option.some.inj e
    subst e'
    exact ⟨_, rfl, h⟩
  | _, _, i + 1, _, .cons _ h, e => RepL.get (i := i) h e
theorem RepL.get' {xs : List V} {ds : List T} {i : Nat} {d : T} (h : RepL K G xs ds) (e : ds[i]? = some d) : ∃ v, xs[i]? = some v ∧ Rep K G v d := by
  have hl := h.length
  have hi := (List.getElem?_eq_some_iff.mp e).1
  have hx : xs[i]? = some (xs[i]'(by omega)) := List.getElem?_eq_getElem (by omega)
  obtain ⟨d', e', r⟩ := h.get hx
  rw [e] at e'
  cases e'
  exact ⟨_, hx, r⟩
theorem RepL.append : ∀ {xs ys : List V} {ds es : List T}, RepL K G xs ds → RepL K G ys es → RepL K G (xs ++ ys) (ds ++ es)
  | _, _, _, _, .nil, k => k
  | _, _, _, _, .cons h t, k => .cons h (RepL.append t k)
theorem RepL.snoc {xs : List V} {v : V} {ds : List T} {d : T} (h : RepL K G xs ds) (k : Rep K G v d) : RepL K G (xs ++ [v]) (ds ++ [d]) := h.append (.cons k .nil)
theorem RepL.drop : ∀ {xs : List V} {ds : List T} (n : Nat), RepL K G xs ds → RepL K G (xs.drop n) (ds.drop n)
  | _, _, 0, h => h
  | _, _, _ + 1, .nil => .nil
  | _, _, n + 1, .cons _ h => RepL.drop n h
theorem RepL.take : ∀ {xs : List V} {ds : List T} (n : Nat), RepL K G xs ds → RepL K G (xs.take n) (ds.take n)
  | _, _, 0, _ => .nil
  | _, _, _ + 1, .nil => .nil
  | _, _, n + 1, .cons h t => .cons h (RepL.take n t)
theorem RepL.set {v : V} {d : T} (k : Rep K G v d) : ∀ {xs : List V} {ds : List T} (n : Nat), RepL K G xs ds → RepL K G (xs.set n v) (ds.set n d)
  | _, _, _, .nil => .nil
  | _, _, 0, .cons _ t => .cons k t
  | _, _, n + 1, .cons h t => .cons h (RepL.set k n t)
theorem RepL.eraseIdx : ∀ {xs : List V} {ds : List T} (n : Nat), RepL K G xs ds → RepL K G (xs.eraseIdx n) (ds.eraseIdx n)
  | _, _, _, .nil => .nil
  | _, _, 0, .cons _ t => t
  | _, _, n + 1, .cons h t => .cons h (RepL.eraseIdx n t)
theorem RepL.reps {xs : List V} {ds : List T} (h : RepL K G xs ds) : ∀ n : Nat, RepL K G (List.replicate n xs).flatten (List.replicate n ds).flatten
  | 0 => .nil
  | n + 1 => by
    rw [List.replicate_succ, List.replicate_succ, List.flatten_cons, List.flatten_cons]
    exact h.append (RepL.reps h n)
theorem RepL.reverse {xs : List V} {ds : List T} (h : RepL K G xs ds) : RepL K G xs.reverse ds.reverse := by
  induction ds generalizing xs with
  | nil => cases h; exact .nil
  | cons d r ih =>
    cases h with
    | cons h1 h2 =>
      rw [List.reverse_cons, List.reverse_cons]
      exact (ih h2).snoc h1
theorem RepL.ints : ∀ {xs : List V} {ns : List Int}, RepL K G xs (ns.map T.int) → xs = ns.map V.int
  | _, [], h => by cases h; rfl
  | _, n :: ns, h => by
    cases h with
    | cons h1 h2 => rw [rep_int h1, RepL.ints h2]; rfl
theorem RepL.of_ints : ∀ {ns : List Int}, RepL K G (ns.map V.int) (ns.map T.int)
  | [] => .nil
  | n :: ns => .cons (.int n) RepL.of_ints
theorem RepK.length : ∀ {xs : List (Key × V)} {ds : List (Key × T)}, RepK K G xs ds → xs.length = ds.length
  | _, _, .nil => rfl
  | _, _, .cons _ h => congrArg Nat.succ (RepK.length h)
theorem RepK.keys : ∀ {xs : List (Key × V)} {ds : List (Key × T)}, RepK K G xs ds → xs.map (·.1) = ds.map (·.1)
  | _, _, .nil => rfl
  | _, _, .cons _ h => by rw [List.map_cons, List.map_cons, RepK.keys h]
theorem RepK.append : ∀ {xs ys : List (Key × V)} {ds es : List (Key × T)}, RepK K G xs ds → RepK K G ys es → RepK K G (xs ++ ys) (ds ++ es)
  | _, _, _, _, .nil, k => k
  | _, _, _, _, .cons h t, k => .cons h (RepK.append t k)
theorem RepK.get' : ∀ {xs : List (Key × V)} {ds : List (Key × T)} {i : Nat} {k : Key} {d : T}, RepK K G xs ds → ds[i]? = some (k, d) → ∃ v, xs[i]? = some (k, v) ∧ Rep K G v d
  | _, _, _, _, _, .nil, e => by simp at e
  | _, _, 0, _, _, .cons h _, e => by
    have e' := Option.some.inj e
    cases e'
    exact ⟨_, rfl, h⟩
  | _, _, i + 1, _, _, .cons _ h, e => RepK.get' (i := i) h e
end

/-! ### reading through the heap -/
abbrev Now (H : Hp) : Lk := fun a o => H a = some o ∨ ∃ kvs, o = .dK kvs ∧ ∃ ob, H a = some (.frz ob o)
def Sub (F H : Hp) : Prop := ∀ a o, F a = some o → Now H a o
theorem rep_rd {K : PySem.W.Frag} {F H : Hp} {v : V} {x : T} (s : Sub F H) (h : Rep K (At F) v x) : Rep K (Now H) v x := h.mono s
theorem repL_rd {K : PySem.W.Frag} {F H : Hp} {v : List V} {x : List T} (s : Sub F H) (h : RepL K (At F) v x) : RepL K (Now H) v x := h.mono s
theorem now_ex {H : Hp} {a : Addr} {o : HO} (h : Now H a o) (n : ∀ kvs, o ≠ .dK kvs) : H a = some o := h.elim id fun ⟨kvs, e, _⟩ => absurd e (n kvs)
theorem now_lst {H : Hp} {a : Addr} {xs : List V} (h : Now H a (.lst xs)) : H a = some (.lst xs) := now_ex h fun _ z => by cases z
theorem now_tup {H : Hp} {a : Addr} {xs : List V} (h : Now H a (.tup xs)) : H a = some (.tup xs) := now_ex h fun _ z => by cases z
theorem now_rd {H : Hp} {a : Addr} {o : HO} (h : Now H a o) : Rd H a o := h.imp id fun ⟨_, _, z⟩ => z
theorem sqL_rd {K : PySem.W.Frag} {H : Hp} {a : Addr} {xs : List V} (h : Now H a (.lst xs)) : SqL K H a xs := SqL.of (now_lst h)
theorem sqT_rd {K : PySem.W.Frag} {H : Hp} {a : Addr} {xs : List V} (h : Now H a (.tup xs)) : SqT K H a xs := SqT.of (now_tup h)
theorem now_keep {H H' : Hp} {a : Addr} {o : HO} (s : ∀ u, H a = some u → H' a = some u) (h : Now H a o) : Now H' a o := h.imp (s _) fun ⟨k, e, ob, z⟩ => ⟨k, e, ob, s _ z⟩
theorem now_some {H : Hp} {a : Addr} {o : HO} (h : Now H a o) : ∃ u, H a = some u := h.elim (fun z => ⟨_, z⟩) fun ⟨_, _, _, z⟩ => ⟨_, z⟩

/-! ### slot-level values and the store of what may still change -/
/-- frozen data; a thing of the store; something new: a list of frozen things, a dict, a list of unfrozen things, a tuple of such -/
inductive D where
  | t (x : T) | cell (n : Nat) | new (xs : List T) | newd (kvs : List (Key × T)) | newo (xs : List D) | tupo (xs : List D)
inductive Ob where
  | lst (xs : List T) | lsto (xs : List D) | dic (kvs : List (Key × T)) | dico (kvs : List (Key × D)) | tupo (xs : List D) | lck (o : Ob) | tbl (P : Addr) (q : Str)
abbrev Store := List Ob
abbrev Frame := List (Option D)
abbrev D.int (i : Int) : D := .t (.int i)
abbrev D.bl (b : Bool) : D := .t (.bl b)
abbrev D.non : D := .t .non
abbrev D.str (x : Str) : D := .t (.str x)
inductive R (α : Type) where
  | no | ok (a : α) (S : Store) | ex (c : Nat) (x : T) (S : Store)
def R.bnd {α β : Type} : R α → (α → Store → R β) → R β
  | .no, _ => .no
  | .ok a S, f => f a S
  | .ex c x S, _ => .ex c x S
theorem bnd_no {α β : Type} {f : α → Store → R β} : R.bnd .no f = .no := rfl
theorem bnd_ok {α β : Type} {a : α} {S : Store} {f : α → Store → R β} : R.bnd (.ok a S) f = f a S := rfl
theorem bnd_ex {α β : Type} {c : Nat} {x : T} {S : Store} {f : α → Store → R β} : R.bnd (.ex c x S) f = .ex c x S := rfl
theorem bnd_congr {α β : Type} {r r' : R α} {f : α → Store → R β} (h : r = r') : R.bnd r f = R.bnd r' f := h ▸ rfl
inductive Fl where
  | nx | bk | ct | rt (d : D)

/-- a value that may stand in a slot or in the store: frozen, or a thing of the store below N -/
inductive RepC (K : PySem.W.Frag) (N : Nat) (μ : Nat → Addr) (F : Hp) : V → D → Prop
  | t {v : V} {x : T} : Rep K (At F) v x → RepC K N μ F v (.t x)
  | cell {n : Nat} : n < N → RepC K N μ F (.ref (μ n)) (.cell n)
inductive RepCs (K : PySem.W.Frag) (N : Nat) (μ : Nat → Addr) (F : Hp) : List V → List D → Prop
  | nil : RepCs K N μ F [] []
  | cons {v : V} {vs : List V} {d : D} {ds : List D} : RepC K N μ F v d → RepCs K N μ F vs ds → RepCs K N μ F (v :: vs) (d :: ds)
inductive RepCK (K : PySem.W.Frag) (N : Nat) (μ : Nat → Addr) (F : Hp) : List (Key × V) → List (Key × D) → Prop
  | nil : RepCK K N μ F [] []
  | cons {k : Key} {v : V} {vs : List (Key × V)} {d : D} {ds : List (Key × D)} : RepC K N μ F v d → RepCK K N μ F vs ds → RepCK K N μ F ((k, v) :: vs) ((k, d) :: ds)
mutual
/-- any value; the addresses that it owns -/
inductive RepN (K : PySem.W.Frag) (N : Nat) (μ : Nat → Addr) (F H : Hp) : V → D → List Addr → Prop
  | c {v : V} {d : D} : RepC K N μ F v d → RepN K N μ F H v d []
  | new {a : Addr} {vs : List V} {xs : List T} : H a = some (.lst vs) → RepL K (At F) vs xs → RepN K N μ F H (.ref a) (.new xs) [a]
  | newd {a : Addr} {vs : List (Key × V)} {xs : List (Key × T)} : H a = some (.dK vs) → RepK K (At F) vs xs → RepN K N μ F H (.ref a) (.newd xs) [a]
  | newo {a : Addr} {vs : List V} {ds : List D} {as : List Addr} : H a = some (.lst vs) → RepNs K N μ F H vs ds as → RepN K N μ F H (.ref a) (.newo ds) (a :: as)
  | tupo {a : Addr} {vs : List V} {ds : List D} {as : List Addr} : H a = some (.tup vs) → RepNs K N μ F H vs ds as → RepN K N μ F H (.ref a) (.tupo ds) (a :: as)
inductive RepNs (K : PySem.W.Frag) (N : Nat) (μ : Nat → Addr) (F H : Hp) : List V → List D → List Addr → Prop
  | nil : RepNs K N μ F H [] [] []
  | cons {v : V} {vs : List V} {d : D} {ds : List D} {as bs : List Addr} : RepN K N μ F H v d as → RepNs K N μ F H vs ds bs → RepNs K N μ F H (v :: vs) (d :: ds) (as ++ bs)
end
theorem at_mono {F F' : Hp} (f : Same F F') : ∀ a o, At F a o → At F' a o := f
section
variable {K : PySem.W.Frag} {N N' : Nat} {μ μ' : Nat → Addr} {F F' H H' : Hp}
theorem RepC.mono (hN : N ≤ N') (hm : ∀ n, n < N → μ' n = μ n) (f : Same F F') {v : V} {d : D} (h : RepC K N μ F v d) : RepC K N' μ' F' v d := by
  cases h with
  | t r => exact .t (r.mono (at_mono f))
  | cell hn =>
    rw [← hm _ hn]
    exact .cell (Nat.lt_of_lt_of_le hn hN)
theorem RepCs.mono (hN : N ≤ N') (hm : ∀ n, n < N → μ' n = μ n) (f : Same F F') : ∀ {ds : List D} {vs : List V}, RepCs K N μ F vs ds → RepCs K N' μ' F' vs ds
  | _, _, .nil => .nil
  | _, _, .cons h t => .cons (h.mono hN hm f) (RepCs.mono hN hm f t)
theorem RepCK.mono (hN : N ≤ N') (hm : ∀ n, n < N → μ' n = μ n) (f : Same F F') : ∀ {ds : List (Key × D)} {vs : List (Key × V)}, RepCK K N μ F vs ds → RepCK K N' μ' F' vs ds
  | _, _, .nil => .nil
  | _, _, .cons h t => .cons (h.mono hN hm f) (RepCK.mono hN hm f t)
mutual
theorem RepN.mono (hN : N ≤ N') (hm : ∀ n, n < N → μ' n = μ n) (f : Same F F') : ∀ {v : V} {d : D} {as : List Addr}, RepN K N μ F H v d as → (∀ b o, b ∈ as → H b = some o → H' b = some o) → RepN K N' μ' F' H' v d as
  | _, _, _, .c h, _ => .c (h.mono hN hm f)
  | _, _, _, .new h1 h2, k => .new (k _ _ (List.mem_singleton.mpr rfl) h1) (h2.mono (at_mono f))
  | _, _, _, .newd h1 h2, k => .newd (k _ _ (List.mem_singleton.mpr rfl) h1) (h2.mono (at_mono f))
  | _, _, _, .newo h1 h2, k => .newo (k _ _ List.mem_cons_self h1) (RepNs.mono hN hm f h2 fun b o hb => k b o (List.mem_cons_of_mem _ hb))
  | _, _, _, .tupo h1 h2, k => .tupo (k _ _ List.mem_cons_self h1) (RepNs.mono hN hm f h2 fun b o hb => k b o (List.mem_cons_of_mem _ hb))
theorem RepNs.mono (hN : N ≤ N') (hm : ∀ n, n < N → μ' n = μ n) (f : Same F F') : ∀ {vs : List V} {ds : List D} {as : List Addr}, RepNs K N μ F H vs ds as → (∀ b o, b ∈ as → H b = some o → H' b = some o) → RepNs K N' μ' F' H' vs ds as
  | _, _, _, .nil, _ => .nil
  | _, _, _, .cons h1 h2, k => .cons (RepN.mono hN hm f h1 fun b o hb => k b o (List.mem_append_left _ hb)) (RepNs.mono hN hm f h2 fun b o hb => k b o (List.mem_append_right _ hb))
end
mutual
theorem RepN.there : ∀ {v : V} {d : D} {as : List Addr}, RepN K N μ F H v d as → ∀ a ∈ as, ∃ o, H a = some o
  | _, _, _, .c _, a, ha => by cases ha
  | _, _, _, .new h1 _, a, ha => (List.mem_singleton.mp ha) ▸ ⟨_, h1⟩
  | _, _, _, .newd h1 _, a, ha => (List.mem_singleton.mp ha) ▸ ⟨_, h1⟩
  | _, _, _, .newo h1 h2, a, ha => by
    rcases List.mem_cons.mp ha with rfl | ha
    · exact ⟨_, h1⟩
    · exact RepNs.there h2 a ha
  | _, _, _, .tupo h1 h2, a, ha => by
    rcases List.mem_cons.mp ha with rfl | ha
    · exact ⟨_, h1⟩
    · exact RepNs.there h2 a ha
theorem RepNs.there : ∀ {vs : List V} {ds : List D} {as : List Addr}, RepNs K N μ F H vs ds as → ∀ a ∈ as, ∃ o, H a = some o
  | _, _, _, .nil, a, ha => by cases ha
  | _, _, _, .cons h1 h2, a, ha => by
    rcases List.mem_append.mp ha with ha | ha
    · exact RepN.there h1 a ha
    · exact RepNs.there h2 a ha
end
theorem RepNs.length : ∀ {vs : List V} {ds : List D} {as : List Addr}, RepNs K N μ F H vs ds as → vs.length = ds.length
  | _, _, _, .nil => rfl
  | _, _, _, .cons _ h => congrArg Nat.succ (RepNs.length h)
theorem RepCs.length : ∀ {vs : List V} {ds : List D}, RepCs K N μ F vs ds → vs.length = ds.length
  | _, _, .nil => rfl
  | _, _, .cons _ h => congrArg Nat.succ (RepCs.length h)
theorem RepCs.get' : ∀ {xs : List V} {ds : List D} {i : Nat} {d : D}, RepCs K N μ F xs ds → ds[i]? = some d → ∃ v, xs[i]? = some v ∧ RepC K N μ F v d
  | _, _, _, _, .nil, e => by simp at e
  | _, _, 0, _, .cons h _, e => by
    have e' := Option.some.inj e
    subst e'
    exact ⟨_, rfl, h⟩
  | _, _, i + 1, _, .cons _ h, e => RepCs.get' (i := i) h e
theorem RepCs.append : ∀ {xs ys : List V} {ds es : List D}, RepCs K N μ F xs ds → RepCs K N μ F ys es → RepCs K N μ F (xs ++ ys) (ds ++ es)
  | _, _, _, _, .nil, k => k
  | _, _, _, _, .cons h t, k => .cons h (RepCs.append t k)
theorem RepNs.snoc : ∀ {vs : List V} {ds : List D} {as bs : List Addr} {v : V} {d : D}, RepNs K N μ F H vs ds as → RepN K N μ F H v d bs → RepNs K N μ F H (vs ++ [v]) (ds ++ [d]) (as ++ bs)
  | _, _, _, bs, _, _, .nil, k => by
    have h := RepNs.cons k .nil
    rw [List.append_nil] at h
    exact h
  | _, _, _, bs, _, _, .cons h t, k => by
    have h2 := RepNs.cons h (RepNs.snoc t k)
    rw [List.append_assoc]
    exact h2
end
end Mi

set_option Elab.async false
set_option linter.all false
set_option maxRecDepth 100000
set_option maxHeartbeats 4000000
/-! N2: what trees are worth: repr, ==, in, the greatest, sorted -/
namespace Mi
open PySem L2
/-! ### data as the library has it -/
mutual
def T.py : T → PyData
  | .non => .none
  | .bl b => .bool b
  | .int i => .int i
  | .str x => .str x
  | .lst xs => .list (T.pys xs)
  | .tup xs => .tuple (T.pys xs)
  | .dic _ => .none
  | .fn _ _ => .none
  | .set _ => .none
  | .scr _ => .none
  | .exc _ _ _ _ => .none
def T.pys : List T → List PyData
  | [] => []
  | d :: ds => d.py :: T.pys ds
end
-- scalars, lists, tuples of such; dints of less than 1920 bits
mutual
def T.ok : T → Bool
  | .non => true
  | .bl _ => true
  | .int i => decide (i.natAbs.log2 < 1920)
  | .str x => decide ((reprText x).length ≤ 10000) && PyData.strOk x
  | .lst xs => T.oks xs
  | .tup xs => T.oks xs
  | .dic _ => false
  | .fn _ _ => false
  | .set _ => false
  | .scr _ => false
  | .exc _ _ _ _ => false
def T.oks : List T → Bool
  | [] => true
  | d :: ds => d.ok && T.oks ds
end
mutual
def T.wt : T → Nat
  | .non => 4
  | .bl _ => 5
  | .int _ => 1921
  | .str _ => 10000
  | .lst xs => 2 + T.wts xs
  | .tup xs => 3 + T.wts xs
  | .dic _ => 0
  | .fn _ _ => 0
  | .set _ => 0
  | .scr _ => 0
  | .exc _ _ _ _ => 0
def T.wts : List T → Nat
  | [] => 0
  | d :: ds => d.wt + 2 + T.wts ds
end
mutual
def T.dp : T → Nat
  | .lst xs => T.dps xs + 1
  | .tup xs => T.dps xs + 1
  | _ => 0
def T.dps : List T → Nat
  | [] => 0
  | d :: ds => max d.dp (T.dps ds)
end
mutual
theorem ok_dp {K : PySem.W.Frag} {H : Hp} : ∀ {d : T} {v : V}, d.ok = true → Rep K (Now H) v d → Dp K H v d.py
  | .non, _, _, h => by cases h; unfold T.py; exact .non
  | .bl _, _, _, h => by cases h; unfold T.py; exact .bl _
  | .int _, _, _, h => by cases h; unfold T.py; exact .int _
  | .str _, _, _, h => by cases h; unfold T.py; exact .str _
  | .lst ds, _, o, h => by
    unfold T.ok at o
    cases h with
    | lst h1 h2 =>
      unfold T.py
      exact .lst (sqL_rd h1) (oks_dp o h2)
  | .tup ds, _, o, h => by
    unfold T.ok at o
    cases h with
    | tup h1 h2 =>
      unfold T.py
      exact .tup (sqT_rd h1) (oks_dp o h2)
  | .dic _, _, o, _ => by unfold T.ok at o; cases o
  | .fn _ _, _, o, _ => by unfold T.ok at o; cases o
  | .set _, _, o, _ => by unfold T.ok at o; cases o
  | .scr _, _, o, _ => by unfold T.ok at o; cases o
  | .exc _ _ _ _, _, o, _ => by unfold T.ok at o; cases o
theorem oks_dp {K : PySem.W.Frag} {H : Hp} : ∀ {ds : List T} {vs : List V}, T.oks ds = true → RepL K (Now H) vs ds → DpAll K H vs (T.pys ds)
  | [], _, _, h => by cases h; unfold T.pys; exact .nil
  | d :: ds, _, o, h => by
    unfold T.oks at o
    rw [Bool.and_eq_true] at o
    cases h with
    | cons h1 h2 =>
      unfold T.pys
      exact .cons (ok_dp o.1 h1) (oks_dp o.2 h2)
end
mutual
theorem ok_show : ∀ {d : T}, d.ok = true → d.py.showable = true ∧ d.py.hasDict = false ∧ d.py.canLay0 = true ∧ d.py.depth = d.dp ∧ d.py.shown.length ≤ d.wt
  | .non, _ => by
    unfold T.py T.dp T.wt
    exact ⟨by simp [PyData.showable], by simp [PyData.hasDict], by simp [PyData.canLay0], by simp [PyData.depth], by simp only [PyData.shown]; decide⟩
  | .bl b, _ => by
    unfold T.py T.dp T.wt
    refine ⟨by simp [PyData.showable], by simp [PyData.hasDict], by simp [PyData.canLay0], by simp [PyData.depth], ?_⟩
    simp only [PyData.shown]
    cases b <;> decide
  | .int i, o => by
    unfold T.ok at o
    have h := of_decide_eq_true o
    unfold T.py T.dp T.wt
    refine ⟨by simp [PyData.showable, h], by simp [PyData.hasDict], by simp [PyData.canLay0], by simp [PyData.depth], ?_⟩
    simp only [PyData.shown]
    exact PyProof.Rows.int_text_len_1921 h
  | .str x, o => by
    unfold T.ok at o
    rw [Bool.and_eq_true] at o
    have h := of_decide_eq_true o.1
    unfold T.py T.dp T.wt
    refine ⟨by simp [PyData.showable], by simp [PyData.hasDict], by simp [PyData.canLay0, o.2], by simp [PyData.depth], ?_⟩
    simp only [PyData.shown]
    exact h
  | .lst ds, o => by
    unfold T.ok at o
    obtain ⟨h1, h2, h3, h4, h5⟩ := oks_show o
    unfold T.py T.dp T.wt
    refine ⟨by simp only [PyData.showable]; exact h1, by simp only [PyData.hasDict]; exact h2, by simp only [PyData.canLay0]; exact h3, by simp only [PyData.depth, h4], ?_⟩
    simp only [PyData.shown]
    rw [show (listText (PyData.shownAll (T.pys ds))).length = (textFrom 0 "[" (PyData.shownAll (T.pys ds))).length + 1 by
      unfold listText
      rw [strLen_append]
      rfl]
    have := from_len (PyData.shownAll (T.pys ds)) 0 "["
    rw [show ((("[" : String) : Str)).length = 1 by decide] at this
    omega
  | .tup ds, o => by
    unfold T.ok at o
    obtain ⟨h1, h2, h3, h4, h5⟩ := oks_show o
    unfold T.py T.dp T.wt
    refine ⟨by simp only [PyData.showable]; exact h1, by simp only [PyData.hasDict]; exact h2, by simp only [PyData.canLay0]; exact h3, by simp only [PyData.depth, h4], ?_⟩
    simp only [PyData.shown]
    unfold tupleText
    rw [strLen_append, strLen_append]
    have j : (Str.join ", " (PyData.shownAll (T.pys ds))).length ≤ piled (PyData.shownAll (T.pys ds)) := by
      by_cases e : PyData.shownAll (T.pys ds) = []
      · rw [e]
        decide
      · have := join_length_add _ e
        omega
    have e1 : ((("(" : String) : Str)).length = 1 := by decide
    have e2 : (((if (PyData.shownAll (T.pys ds)).length == 1 then ",)" else ")" : String) : Str)).length ≤ 2 := by
      split <;> decide
    omega
  | .dic _, o => by unfold T.ok at o; cases o
  | .fn _ _, o => by unfold T.ok at o; cases o
  | .set _, o => by unfold T.ok at o; cases o
  | .scr _, o => by unfold T.ok at o; cases o
  | .exc _ _ _ _, o => by unfold T.ok at o; cases o
theorem oks_show : ∀ {ds : List T}, T.oks ds = true → PyData.showableAll (T.pys ds) = true ∧ PyData.hasDictAll (T.pys ds) = false ∧ PyData.canLayAll0 (T.pys ds) = true ∧ PyData.depthAll (T.pys ds) = T.dps ds ∧ piled (PyData.shownAll (T.pys ds)) ≤ T.wts ds
  | [], _ => by
    unfold T.pys T.dps T.wts
    exact ⟨by simp [PyData.showableAll], by simp [PyData.hasDictAll], by simp [PyData.canLayAll0], by simp [PyData.depthAll], by simp [PyData.shownAll, piled]⟩
  | d :: ds, o => by
    unfold T.oks at o
    rw [Bool.and_eq_true] at o
    obtain ⟨h1, h2, h3, h4, h5⟩ := ok_show o.1
    obtain ⟨k1, k2, k3, k4, k5⟩ := oks_show o.2
    unfold T.pys T.dps T.wts
    refine ⟨by simp only [PyData.showableAll, h1, k1, Bool.and_self], by simp only [PyData.hasDictAll, h2, k2, Bool.or_self], by simp only [PyData.canLayAll0, h3, k3, Bool.and_self], by simp only [PyData.depthAll, h4, k4], ?_⟩
    simp only [PyData.shownAll]
    rw [piled_cons]
    omega
theorem from_len : ∀ (ts : List Str) (k : Nat) (acc : Str), (textFrom k acc ts).length ≤ acc.length + piled ts
  | [], k, acc => by
    unfold textFrom
    omega
  | t :: r, k, acc => by
    unfold textFrom
    have h := from_len r (k + 1) (acc ++ (if k > 0 then ", " else "" : String) ++ t)
    rw [strLen_append, strLen_append] at h
    have e : (((if k > 0 then ", " else "" : String) : Str)).length ≤ 2 := by
      split <;> decide
    rw [piled_cons]
    omega
end
def T.show (d : T) : Str := d.py.shown
def T.eqv (d f : T) : Bool := PyData.eqv d.py f.py
/-! ### bounds for lists of dints and the like -/
theorem oks_all {ds : List T} : T.oks ds = ds.all T.ok := by
  induction ds with
  | nil => unfold T.oks; rfl
  | cons d ds ih =>
    unfold T.oks
    rw [ih, List.all_cons]
theorem wts_le {ds : List T} {n : Nat} (h : ∀ d ∈ ds, d.wt ≤ n) : T.wts ds ≤ ds.length * (n + 2) := by
  induction ds with
  | nil =>
    unfold T.wts
    omega
  | cons d ds ih =>
    have h1 := h d List.mem_cons_self
    have h2 := ih fun x hx => h x (List.mem_cons_of_mem _ hx)
    unfold T.wts
    rw [List.length_cons, Nat.succ_mul]
    omega
theorem dps_le {ds : List T} {n : Nat} (h : ∀ d ∈ ds, d.dp ≤ n) : T.dps ds ≤ n := by
  induction ds with
  | nil =>
    unfold T.dps
    omega
  | cons d ds ih =>
    have h1 := h d List.mem_cons_self
    have h2 := ih fun x hx => h x (List.mem_cons_of_mem _ hx)
    unfold T.dps
    omega
/-- a list of dints -/
abbrev dints (ns : List Int) : T := .lst (ns.map T.int)
theorem small_log {i : Int} (h : i.natAbs < 2 ^ 1900) : i.natAbs.log2 < 1920 := by
  by_cases e : i.natAbs = 0
  · rw [e]
    decide
  · have := (Nat.log2_lt e).mpr h
    omega
theorem ok_int {i : Int} (h : i.natAbs < 2 ^ 1900) : (T.int i).ok = true := by
  unfold T.ok
  exact decide_eq_true (small_log h)
theorem ok_ints {ns : List Int} (h : ∀ n ∈ ns, n.natAbs < 2 ^ 1900) : (dints ns).ok = true := by
  unfold T.ok
  rw [oks_all, List.all_map]
  exact List.all_eq_true.mpr fun n hn => ok_int (h n hn)
theorem wt_ints {ns : List Int} : (dints ns).wt ≤ 2 + ns.length * 1923 := by
  unfold T.wt
  have h := wts_le (ds := ns.map T.int) (n := 1921) fun d hd => by
    obtain ⟨i, _, rfl⟩ := List.mem_map.mp hd
    unfold T.wt
    omega
  rw [List.length_map] at h
  omega
theorem dp_ints {ns : List Int} : (dints ns).dp ≤ 1 := by
  unfold T.dp
  have h := dps_le (ds := ns.map T.int) (n := 0) fun d hd => by
    obtain ⟨i, _, rfl⟩ := List.mem_map.mp hd
    unfold T.dp
    omega
  omega
/-- == of lists of dints -/
theorem eqv_ints : ∀ {ns ms : List Int}, PyData.eqvAll (T.pys (ns.map T.int)) (T.pys (ms.map T.int)) = decide (ns = ms)
  | [], [] => by
    unfold List.map T.pys
    simp [PyData.eqvAll]
  | [], _ :: _ => by
    unfold List.map T.pys
    simp [PyData.eqvAll]
  | _ :: _, [] => by
    unfold List.map T.pys
    simp [PyData.eqvAll]
  | n :: ns, m :: ms => by
    rw [List.map_cons, List.map_cons]
    unfold T.pys
    unfold PyData.eqvAll
    rw [eqv_ints]
    unfold T.py
    unfold PyData.eqv
    by_cases h : n = m
    · subst h
      simp
    · simp [h]
theorem eqv_i {ns ms : List Int} : (dints ns).eqv (dints ms) = decide (ns = ms) := by
  unfold T.eqv T.py
  unfold PyData.eqv
  exact eqv_ints

/-- x in xs: scalars -/
def T.flat : T → Bool
  | .non => true
  | .bl _ => true
  | .int _ => true
  | .str _ => true
  | _ => false
/-- == of scalars -/
def T.eqF : T → T → Bool
  | .non, .non => true
  | .bl a, .bl b => a == b
  | .bl a, .int b => (if a then 1 else 0) == b
  | .int a, .bl b => a == (if b then 1 else 0)
  | .int a, .int b => a == b
  | .str a, .str b => a == b
  | _, _ => false
theorem flat_rep {K : PySem.W.Frag} {H : Lk} {v : V} {d : T} (h : Rep K H v d) (f : d.flat = true) : flatV v = true := by
  cases h <;> first | rfl | cases f
theorem eqF_rep {K : PySem.W.Frag} {H : Lk} {v w : V} {d f : T} (h : Rep K H v d) (k : Rep K H w f) (fd : d.flat = true) (ff : f.flat = true) : eqV v w = d.eqF f := by
  cases h <;> first | (cases fd; done) | (cases k <;> first | (cases ff; done) | rfl)
theorem inV_rep {K : PySem.W.Frag} {H : Lk} {w : V} {f : T} (k : Rep K H w f) (ff : f.flat = true) : ∀ {ds : List T} {vs : List V}, RepL K H vs ds → ds.all T.flat = true → inV w vs = ds.any (fun d => d.eqF f) ∧ vs.all flatV = true
  | [], _, h, _ => by
    cases h
    exact ⟨rfl, rfl⟩
  | d :: ds, _, h, fl => by
    cases h with
    | cons h1 h2 =>
      rw [List.all_cons, Bool.and_eq_true] at fl
      obtain ⟨q1, q2⟩ := inV_rep k ff h2 fl.2
      unfold inV at q1 ⊢
      rw [List.any_cons, List.any_cons, q1, eqF_rep h1 k fl.1 ff, List.all_cons, q2, flat_rep h1 fl.1]
      exact ⟨rfl, rfl⟩
theorem any_int {ns : List Int} {i : Int} : (ns.map T.int).any (fun d => d.eqF (.int i)) = ns.contains i := by
  induction ns with
  | nil => rfl
  | cons n ns ih =>
    rw [List.map_cons, List.any_cons, ih, List.contains_cons]
    show ((n == i) || _) = ((i == n) || _)
    rw [show (n == i) = (i == n) by rw [Bool.eq_iff_iff]; simp only [beq_iff_eq]; exact ⟨Eq.symm, Eq.symm⟩]
theorem flat_ints {ns : List Int} : (ns.map T.int).all T.flat = true := by
  rw [List.all_map]
  exact List.all_eq_true.mpr fun _ _ => rfl
/-- the greatest, 0 of none -/
def maxI : List Int → Int
  | [] => 0
  | [x] => x
  | x :: y :: r => max x (maxI (y :: r))
theorem maxI_mem : ∀ {ns : List Int}, ns ≠ [] → maxI ns ∈ ns ∧ ∀ y ∈ ns, y ≤ maxI ns
  | [], h => absurd rfl h
  | [x], _ => ⟨List.mem_cons_self, fun y hy => by
    rw [List.mem_singleton.mp hy]
    exact Int.le_refl _⟩
  | x :: y :: r, _ => by
    obtain ⟨h1, h2⟩ := maxI_mem (ns := y :: r) (by intro z; cases z)
    refine ⟨?_, fun w hw => ?_⟩
    · show max x (maxI (y :: r)) ∈ x :: y :: r
      rw [Int.max_def]
      split
      · exact List.mem_cons_of_mem _ h1
      · exact List.mem_cons_self
    · show w ≤ max x (maxI (y :: r))
      rcases List.mem_cons.mp hw with rfl | hw
      · exact Int.le_max_left ..
      · exact Int.le_trans (h2 w hw) (Int.le_max_right ..)
theorem maxI_uniq {ns : List Int} (hn : ns ≠ []) {m : Int} (h1 : m ∈ ns) (h2 : ∀ y ∈ ns, y ≤ m) : m = maxI ns := by
  obtain ⟨k1, k2⟩ := maxI_mem hn
  exact Int.le_antisymm (k2 m h1) (h2 _ k1)
/-- ascending -/
def insI (x : Int) : List Int → List Int
  | [] => [x]
  | y :: r => if x ≤ y then x :: y :: r else y :: insI x r
def sortI : List Int → List Int
  | [] => []
  | x :: r => insI x (sortI r)
theorem insI_perm (x : Int) : ∀ l : List Int, (insI x l).Perm (x :: l)
  | [] => .refl _
  | y :: r => by
    unfold insI
    split
    · exact .refl _
    · exact ((insI_perm x r).cons y).trans (.swap ..)
theorem sortI_perm : ∀ l : List Int, (sortI l).Perm l
  | [] => .refl _
  | x :: r => (insI_perm x _).trans ((sortI_perm r).cons x)
theorem insI_sorted (x : Int) : ∀ {l : List Int}, l.Pairwise (· ≤ ·) → (insI x l).Pairwise (· ≤ ·)
  | [], _ => List.pairwise_singleton ..
  | y :: r, h => by
    unfold insI
    rw [List.pairwise_cons] at h
    split
    · rename_i hx
      refine List.pairwise_cons.mpr ⟨fun z hz => ?_, List.pairwise_cons.mpr h⟩
      rcases List.mem_cons.mp hz with rfl | hz
      · exact hx
      · exact Int.le_trans hx (h.1 z hz)
    · rename_i hx
      refine List.pairwise_cons.mpr ⟨fun z hz => ?_, insI_sorted x h.2⟩
      rcases List.mem_cons.mp ((insI_perm x r).subset hz) with rfl | hz
      · omega
      · exact h.1 z hz
theorem sortI_sorted : ∀ l : List Int, (sortI l).Pairwise (· ≤ ·)
  | [] => List.Pairwise.nil
  | x :: r => insI_sorted x (sortI_sorted r)
theorem sort_uniq {l k : List Int} (p : l.Perm k) (h1 : l.Pairwise (· ≤ ·)) (h2 : k.Pairwise (· ≤ ·)) : l = k :=
  p.eq_of_pairwise (fun a b _ _ h3 h4 => Int.le_antisymm h3 h4) h1 h2

def T.tyS : T → Option String
  | .non => some "NoneType"
  | .bl _ => some "bool"
  | .int _ => some "int"
  | .str _ => some "str"
  | .lst _ => some "list"
  | .tup _ => some "tuple"
  | .dic _ => some "dict"
  | _ => none
def T.isNon : T → Bool
  | .non => true
  | _ => false
def b2n (b : Bool) : Int := if b = true then 1 else 0
end Mi

set_option Elab.async false
set_option linter.all false
set_option maxRecDepth 100000
set_option maxHeartbeats 4000000
/-! N3: the small language: what each construct does to slots and store -/
namespace Mi
open PySem L2

/-! ### the store -/
def Ob.un : Ob → Ob
  | .lck o => o
  | o => o
def rd (S : Store) (n : Nat) : Option Ob := (S[n]?).map Ob.un
/-- a list of frozen things -/
def sq (S : Store) : D → Option (List T)
  | .t (.lst xs) => some xs
  | .new xs => some xs
  | .cell n => match rd S n with
    | some (.lst xs) => some xs
    | _ => none
  | _ => none
/-- a list or tuple of anything -/
def sqd (S : Store) : D → Option (List D)
  | .newo ds => some ds
  | .cell n => match rd S n with
    | some (.lst xs) => some (xs.map D.t)
    | some (.lsto ds) => some ds
    | some (.tupo ds) => some ds
    | _ => none
  | .t (.tup xs) => some (xs.map D.t)
  | .tupo ds => some ds
  | d => (sq S d).map fun xs => xs.map D.t
/-- a dict of frozen things -/
def dct (S : Store) : D → Option (List (Key × T))
  | .t (.dic kvs) => some kvs
  | .newd kvs => some kvs
  | .cell n => match rd S n with
    | some (.dic kvs) => some kvs
    | _ => none
  | _ => none
def allT : List D → Option (List T)
  | [] => some []
  | .t x :: ds => (allT ds).map (x :: ·)
  | _ :: _ => none
def mapO {α β : Type} (f : α → Option β) : List α → Option (List β)
  | [] => some []
  | x :: xs => match f x with
    | some y => (mapO f xs).map (y :: ·)
    | none => none
/-- frozen -/
def fz : Nat → D → Option T
  | _, .t x => some x
  | _, .new xs => some (.lst xs)
  | _, .newd kvs => some (.dic kvs)
  | f + 1, .newo ds => (mapO (fz f) ds).map T.lst
  | f + 1, .tupo ds => (mapO (fz f) ds).map T.tup
  | _, _ => none
/-- as it stands now -/
def tr : Nat → Store → D → Option T
  | _, _, .t x => some x
  | _, _, .new xs => some (.lst xs)
  | _, _, .newd kvs => some (.dic kvs)
  | f + 1, S, .newo ds => (mapO (tr f S) ds).map T.lst
  | f + 1, S, .tupo ds => (mapO (tr f S) ds).map T.tup
  | f + 1, S, .cell n => match rd S n with
    | some (.lst xs) => some (.lst xs)
    | some (.dic kvs) => some (.dic kvs)
    | some (.lsto ds) => (mapO (tr f S) ds).map T.lst
    | some (.tupo ds) => (mapO (tr f S) ds).map T.tup
    | _ => none
  | _, _, _ => none
/-- laid into the store -/
def mapS {α β : Type} (f : α → Store → Option (β × Store)) : List α → Store → Option (List β × Store)
  | [], S => some ([], S)
  | x :: xs, S => match f x S with
    | some (y, S1) => match mapS f xs S1 with
      | some (ys, S2) => some (y :: ys, S2)
      | none => none
    | none => none
def thaw : Nat → D → Store → Option (D × Store)
  | _, .t x, S => some (.t x, S)
  | _, .cell n, S => some (.cell n, S)
  | _, .new xs, S => some (.cell S.length, S ++ [.lst xs])
  | _, .newd kvs, S => some (.cell S.length, S ++ [.dic kvs])
  | f + 1, .newo ds, S => match mapS (thaw f) ds S with
    | some (es, S1) => some (.cell S1.length, S1 ++ [.lsto es])
    | none => none
  | f + 1, .tupo ds, S => match mapS (thaw f) ds S with
    | some (es, S1) => some (.cell S1.length, S1 ++ [.tupo es])
    | none => none
  | _, _, _ => none
/-- what a def hands back: things of its own (from L on) are new -/
def mapM2 {α β γ : Type} (f : γ → α → Option (β × γ)) : γ → List α → Option (List β × γ)
  | s, [] => some ([], s)
  | s, x :: xs => match f s x with
    | some (y, s1) => match mapM2 f s1 xs with
      | some (ys, s2) => some (y :: ys, s2)
      | none => none
    | none => none
def mv : Nat → Store → Nat → List Nat → D → Option (D × List Nat)
  | _, _, _, sn, .t x => some (.t x, sn)
  | _, _, _, sn, .new xs => some (.new xs, sn)
  | _, _, _, sn, .newd kvs => some (.newd kvs, sn)
  | f + 1, S, L, sn, .newo ds => (mapM2 (mv f S L) sn ds).map fun p => (.newo p.1, p.2)
  | f + 1, S, L, sn, .tupo ds => (mapM2 (mv f S L) sn ds).map fun p => (.tupo p.1, p.2)
  | f + 1, S, L, sn, .cell n => if n < L then some (.cell n, sn) else if sn.contains n then none else match S[n]? with
    | some (.lst xs) => some (.new xs, n :: sn)
    | some (.dic kvs) => some (.newd kvs, n :: sn)
    | some (.lsto ds) => (mapM2 (mv f S L) (n :: sn) ds).map fun p => (.newo p.1, p.2)
    | some (.tupo ds) => (mapM2 (mv f S L) (n :: sn) ds).map fun p => (.tupo p.1, p.2)
    | _ => none
  | _, _, _, _, _ => none

/-! ### values -/
def asI : List T → Option (List Int)
  | [] => some []
  | .int i :: xs => (asI xs).map (i :: ·)
  | _ :: _ => none
theorem asI_map : ∀ ns : List Int, asI (ns.map T.int) = some ns
  | [] => rfl
  | n :: ns => by
    show (asI (ns.map T.int)).map (n :: ·) = some (n :: ns)
    rw [asI_map ns]
    rfl
theorem asI_eq : ∀ {xs : List T} {ns : List Int}, asI xs = some ns → xs = ns.map T.int
  | [], ns, h => by cases h; rfl
  | x :: xs, ns, h => by
    cases x with
    | int i =>
      unfold asI at h
      cases e : asI xs with
      | none =>
        rw [e] at h
        cases h
      | some ms =>
        rw [e] at h
        cases h
        rw [asI_eq e]
        rfl
    | _ => cases h
def cut {α : Type} (xs : List α) (lo hi : Option Int) : List α := (xs.drop (HT.sIx xs.length 0 lo)).take (HT.sIx xs.length xs.length hi - HT.sIx xs.length 0 lo)
inductive BO where
  | add | sub | mul | mod | fdiv | pow | shl
inductive CO where
  | eq | ne | lt | le | gt | ge | in_ | nin | is_ | isn
def okL : Nat := 16000000
def addD (x y : D) (S : Store) : R D :=
  match x, y with
  | .t (.int i), .t (.int j) => .ok (.t (.int (i + j))) S
  | .t (.str a), .t (.str b) => if a.length + b.length ≤ okL then .ok (.t (.str (a ++ b))) S else .no
  | x, y => match sq S x with
    | some a => match sq S y with
      | some b => if a.length + b.length ≤ okL then .ok (.new (a ++ b)) S else .no
      | none => .no
    | none => .no
def mulOk (i j : Int) : Prop := CMul i j ∨ CMulW i j
instance (i j : Int) : Decidable (mulOk i j) := by unfold mulOk CMul CMulW; exact inferInstance
/-- a new list whose items may be new: its items frozen -/
def fzL (S : Store) : D → Option (List T)
  | .newo ds => mapO (fz 6) ds
  | d => sq S d
def repOk (n : Nat) (k : Int) : Prop := -(2 ^ 63) ≤ k ∧ k < 2 ^ 63 ∧ n * k.toNat ≤ okL
instance (n : Nat) (k : Int) : Decidable (repOk n k) := by unfold repOk; exact inferInstance
def mulD (x y : D) (S : Store) : R D :=
  match x, y with
  | .t (.int i), .t (.int j) => if mulOk i j then .ok (.t (.int (i * j))) S else .no
  | x, .t (.int k) => match fzL S x with
    | some a => if repOk a.length k then .ok (.new (List.replicate k.toNat a).flatten) S else .no
    | none => .no
  | _, _ => .no
def divOk (i j : Int) : Prop := (0 < j ∧ j < 1073741824) ∨ CDivW i j
instance (i j : Int) : Decidable (divOk i j) := by unfold divOk CDivW; exact inferInstance
def powOk (i j : Int) : Prop := (0 ≤ j ∧ j ≤ 1000000 ∧ i.natAbs < 2 ^ 64) ∨ (0 ≤ j ∧ (Builtin.Int.intBits i : Int) * j ≤ 2 ^ 27)
instance (i j : Int) : Decidable (powOk i j) := by unfold powOk; exact inferInstance
def bop : BO → D → D → Store → R D
  | .add, x, y, S => addD x y S
  | .mul, x, y, S => mulD x y S
  | .sub, .t (.int i), .t (.int j), S => .ok (.t (.int (i - j))) S
  | .mod, .t (.int i), .t (.int j), S => if 0 < j then .ok (.t (.int (i % j))) S else .no
  | .fdiv, .t (.int i), .t (.int j), S => if divOk i j then .ok (.t (.int (i / j))) S else .no
  | .pow, .t (.int i), .t (.int j), S => if powOk i j then .ok (.t (.int (i ^ j.toNat))) S else .no
  | .shl, .t (.int i), .t (.int j), S => if 0 ≤ j ∧ j ≤ 1000000 ∧ i.natAbs < 2 ^ 64 then .ok (.t (.int (i * 2 ^ j.toNat))) S else .no
  | _, _, _, _ => .no
def okEq (x : T) : Bool := x.ok && decide (x.dp ≤ 60)
def eqD (x y : D) (S : Store) : R Bool :=
  match x, y with
  | .t (.int i), .t (.int j) => .ok (decide (i = j)) S
  | .t (.str i), .t (.str j) => .ok (decide (i = j)) S
  | x, y => match tr 6 S x with
    | some a => match tr 6 S y with
      | some b => if okEq a = true ∧ okEq b = true then .ok (a.eqv b) S else .no
      | none => .no
    | none => .no
def kOf : T → Option Key
  | .int i => some (.inl i)
  | .str x => some (.inr x)
  | _ => none
def hasK {α : Type} (k : Key) : List (Key × α) → Bool
  | [] => false
  | (j, _) :: r => decide (j = k) || hasK k r
def lookK {α : Type} (k : Key) : List (Key × α) → Option α
  | [] => none
  | (j, x) :: r => if j = k then some x else lookK k r
def putK {α : Type} (k : Key) (x : α) (kvs : List (Key × α)) : List (Key × α) :=
  if hasK k kvs = true then kvs.map (fun p => if p.1 = k then (p.1, x) else p) else kvs ++ [(k, x)]
def inD (x y : D) (S : Store) : R Bool :=
  match x with
  | .t f => match sq S y with
    | some xs => if f.flat = true ∧ xs.all T.flat = true then .ok (xs.any fun d => d.eqF f) S else .no
    | none => match dct S y, kOf f with
      | some kvs, some k => .ok (hasK k kvs) S
      | _, _ => .no
  | _ => .no
def notR : R Bool → R Bool
  | .ok b S => .ok (!b) S
  | .no => .no
  | .ex c x S => .ex c x S
def cmpD : CO → D → D → Store → R Bool
  | .eq, x, y, S => eqD x y S
  | .ne, x, y, S => notR (eqD x y S)
  | .lt, .t (.int i), .t (.int j), S => .ok (decide (i < j)) S
  | .le, .t (.int i), .t (.int j), S => .ok (decide (i ≤ j)) S
  | .gt, .t (.int i), .t (.int j), S => .ok (decide (j < i)) S
  | .ge, .t (.int i), .t (.int j), S => .ok (decide (j ≤ i)) S
  | .in_, x, y, S => inD x y S
  | .nin, x, y, S => notR (inD x y S)
  | .is_, x, .t .non, S => match x with
    | .t a => .ok a.isNon S
    | _ => .ok false S
  | .isn, x, .t .non, S => match x with
    | .t a => .ok (!a.isNon) S
    | _ => .ok true S
  | _, _, _, _ => .no
/-- truth -/
def truD (x : D) (S : Store) : R Bool :=
  match x with
  | .t (.bl b) => .ok b S
  | .t (.int i) => .ok (decide (i ≠ 0)) S
  | .t .non => .ok false S
  | x => match sqd S x with
    | some xs => .ok (!xs.isEmpty) S
    | none => .no
def ixD (x i : D) (S : Store) : R D :=
  match i with
  | .t (.int i) => match sqd S x with
    | some xs => match (ixN xs.length i).bind fun k => xs[k]? with
      | some d => .ok d S
      | none => .no
    | none => match dct S x with
      | some kvs => match lookK (.inl i) kvs with
        | some v => .ok (.t v) S
        | none => .no
      | none => match x with
        | .cell n => match rd S n with
          | some (.dico kvs) => match lookK (.inl i) kvs with
            | some d => .ok d S
            | none => .no
          | _ => .no
        | _ => .no
  | .t (.str k) => match dct S x with
    | some kvs => match lookK (.inr k) kvs with
      | some v => .ok (.t v) S
      | none => .no
    | none => .no
  | _ => .no
def sqS (S : Store) : D → Option (List T)
  | .t (.scr ns) => some (ns.map T.int)
  | x => sq S x
def slD (x : D) (lo hi : Option Int) (S : Store) : R D :=
  match sqS S x with
  | some xs => .ok (.new (cut xs lo hi)) S
  | none => .no
def revD (x : D) (S : Store) : R D :=
  match sq S x with
  | some xs => .ok (.new xs.reverse) S
  | none => .no
def tyD (S : Store) : D → Option String
  | .t x => x.tyS
  | .new _ => some "list"
  | .newo _ => some "list"
  | .newd _ => some "dict"
  | .tupo _ => some "tuple"
  | .cell n => match rd S n with
    | some (.lst _) => some "list"
    | some (.lsto _) => some "list"
    | some (.dic _) => some "dict"
    | some (.dico _) => some "dict"
    | some (.tupo _) => some "tuple"
    | _ => none
inductive U1 where
  | int | len | list | lenum | repr | max | min | sum | suml | sorted | set | bits | abs | isi (t : String) | lrange | slen | ssort
def lenD (x : D) (S : Store) : R D :=
  match sqd S x with
  | some xs => .ok (.int (xs.length : Nat)) S
  | none => match dct S x with
    | some kvs => .ok (.int (kvs.length : Nat)) S
    | none => .no
def keyT : Key → T
  | .inl i => .int i
  | .inr x => .str x
def catL (S : Store) : List D → Option (List T)
  | [] => some []
  | d :: ds => match sq S d with
    | some a => (catL S ds).map (a ++ ·)
    | none => none
def enumT (xs : List T) : List T := (List.range xs.length).zipWith (fun i x => T.tup [.int (i : Nat), x]) xs
def minI (ns : List Int) : Int := -maxI (ns.map fun n => -n)
def intD (x : D) (S : Store) : R D := match x with
  | .t (.int i) => .ok (.int i) S
  | .t (.bl b) => .ok (.int (b2n b)) S
  | _ => .no
def listD (x : D) (S : Store) : R D := match sq S x with
  | some xs => .ok (.new xs) S
  | none => match dct S x with
    | some kvs => .ok (.new (kvs.map fun p => keyT p.1)) S
    | none => .no
def lenumD (x : D) (S : Store) : R D := match sq S x with
  | some xs => if xs.length ≤ okL then .ok (.new (enumT xs)) S else .no
  | none => .no
def reprD (x : D) (S : Store) : R D := match tr 6 S x with
  | some a => if a.ok = true ∧ a.wt ≤ okL ∧ a.dp ≤ 60 then .ok (.str a.show) S else .no
  | none => .no
def intsD (S : Store) (x : D) : Option (List Int) := (sq S x).bind asI
def maxD (x : D) (S : Store) : R D := match intsD S x with
  | some ns => if ns = [] then .no else .ok (.int (maxI ns)) S
  | none => .no
def minD (x : D) (S : Store) : R D := match intsD S x with
  | some ns => if ns = [] then .no else .ok (.int (minI ns)) S
  | none => .no
def sumD (x : D) (S : Store) : R D := match intsD S x with
  | some ns => .ok (.int ns.sum) S
  | none => .no
def sumlD (x : D) (S : Store) : R D := match (sqd S x).bind (catL S) with
  | some xs => if xs.length ≤ okL then .ok (.new xs) S else .no
  | none => .no
def sortedD (x : D) (S : Store) : R D := match x with
  | x => match intsD S x with
    | some ns => .ok (.new ((sortI ns).map T.int)) S
    | none => .no
def setD (x : D) (S : Store) : R D := match intsD S x with
  | some ns => .ok (.t (.set ns)) S
  | none => .no
def bitsD (x : D) (S : Store) : R D := match x with
  | .t (.int i) => .ok (.int (Builtin.Int.intBits i : Nat)) S
  | _ => .no
def absD (x : D) (S : Store) : R D := match x with
  | .t (.int i) => .ok (.int (if i < 0 then -i else i)) S
  | _ => .no
def isiD (T : String) (x : D) (S : Store) : R D := match (tyD S x).bind fun t => kitB t T with
  | some w => .ok (.bl w) S
  | none => .no
def lrangeD (x : D) (S : Store) : R D := match x with
  | .t (.int n) => if n ≤ 1000000 ∧ -1000000 ≤ n then .ok (.new ((List.range n.toNat).map fun k : Nat => T.int (k : Int))) S else .no
  | _ => .no
def slenD (x : D) (S : Store) : R D := match x with
  | .t (.set ns) => .ok (.int ((dedup ns).length : Nat)) S
  | _ => .no
def ssortD (x : D) (S : Store) : R D := match x with
  | .t (.set ns) => .ok (.new ((sortI (dedup ns)).map T.int)) S
  | _ => .no
def f1D (o : U1) (x : D) (S : Store) : R D := match o with
  | .int => intD x S
  | .len => lenD x S
  | .list => listD x S
  | .lenum => lenumD x S
  | .repr => reprD x S
  | .max => maxD x S
  | .min => minD x S
  | .sum => sumD x S
  | .suml => sumlD x S
  | .sorted => sortedD x S
  | .set => setD x S
  | .bits => bitsD x S
  | .abs => absD x S
  | .isi t => isiD t x S
  | .lrange => lrangeD x S
  | .slen => slenD x S
  | .ssort => ssortD x S
inductive U2 where
  | max2 | min2 | maxd
def max2D (x y : D) (S : Store) : R D := match x, y with
  | .t (.int i), .t (.int j) => .ok (.int (if j > i then j else i)) S
  | _, _ => .no
def min2D (x y : D) (S : Store) : R D := match x, y with
  | .t (.int i), .t (.int j) => .ok (.int (if j < i then j else i)) S
  | _, _ => .no
def maxdD (x y : D) (S : Store) : R D := match y with
  | .t (.int d) => match intsD S x with
    | some ns => .ok (.int (if ns = [] then d else maxI ns)) S
    | none => .no
  | _ => .no
def f2D (o : U2) (x y : D) (S : Store) : R D := match o with
  | .max2 => max2D x y S
  | .min2 => min2D x y S
  | .maxd => maxdD x y S

/-! ### programs -/
structure Q where
  call : Nat → List D → Store → R D
  fa : Nat → Addr
  L : Nat
abbrev XE := Q → Frame → Store → R D
abbrev XT := Q → Frame → Store → R Bool
abbrev XA := Q → Frame → Store → R (List D)
abbrev XB := Q → Frame → Store → R (Fl × Frame)
abbrev XI := Q → Frame → Store → R (List D × Option Nat)
namespace Z
def v (i : Nat) : XE := fun _ fr S => match fr[i]? with
  | some (some d) => .ok d S
  | _ => .no
def k (x : T) : XE := fun _ _ S => .ok (.t x) S
def g (n : Nat) : XE := fun q _ S => .ok (.t (.fn n (q.fa n))) S
def nil : XA := fun _ _ S => .ok [] S
def cons (f : XE) (h : XA) : XA := fun q fr S => (f q fr S).bnd fun d S1 => (h q fr S1).bnd fun ds S2 => .ok (d :: ds) S2
def mkL (ds : List D) : D := match allT ds with
  | some xs => .new xs
  | none => .newo ds
def mkT (ds : List D) : D := match allT ds with
  | some xs => .t (.tup xs)
  | none => .tupo ds
def lst (h : XA) : XE := fun q fr S => (h q fr S).bnd fun ds S1 => .ok (mkL ds) S1
def tup (h : XA) : XE := fun q fr S => (h q fr S).bnd fun ds S1 => .ok (mkT ds) S1
def bin (o : BO) (a b : XE) : XE := fun q fr S => (a q fr S).bnd fun x S1 => (b q fr S1).bnd fun y S2 => bop o x y S2
def boolD (r : R Bool) : R D := r.bnd fun b S => .ok (.bl b) S
def cmp (o : CO) (a b : XE) : XE := fun q fr S => (a q fr S).bnd fun x S1 => (b q fr S1).bnd fun y S2 => boolD (cmpD o x y S2)
def neg (a : XE) : XE := fun q fr S => (a q fr S).bnd fun x S1 => match x with
  | .t (.int i) => .ok (.int (-i)) S1
  | _ => .no
def tval (a : XE) : XT := fun q fr S => (a q fr S).bnd fun x S1 => truD x S1
def tcmp (o : CO) (a b : XE) : XT := fun q fr S => (a q fr S).bnd fun x S1 => (b q fr S1).bnd fun y S2 => cmpD o x y S2
def tch (o p : CO) (a b c : XE) : XT := fun q fr S => (a q fr S).bnd fun x S1 => (b q fr S1).bnd fun y S2 => (cmpD o x y S2).bnd fun t S3 => if t = true then (c q fr S3).bnd fun z S4 => cmpD p y z S4 else .ok false S3
def tnot (a : XT) : XT := fun q fr S => (a q fr S).bnd fun b S1 => .ok (!b) S1
def tand (a b : XT) : XT := fun q fr S => (a q fr S).bnd fun x S1 => if x = true then b q fr S1 else .ok false S1
def tor (a b : XT) : XT := fun q fr S => (a q fr S).bnd fun x S1 => if x = true then .ok true S1 else b q fr S1
def ch (o p : CO) (a b c : XE) : XE := fun q fr S => boolD (tch o p a b c q fr S)
def not (a : XE) : XE := fun q fr S => (a q fr S).bnd fun x S1 => (truD x S1).bnd fun b S2 => .ok (.bl (!b)) S2
def and (a b : XE) : XE := fun q fr S => (a q fr S).bnd fun x S1 => (truD x S1).bnd fun t S2 => if t = true then b q fr S2 else .ok x S2
def or (a b : XE) : XE := fun q fr S => (a q fr S).bnd fun x S1 => (truD x S1).bnd fun t S2 => if t = true then .ok x S2 else b q fr S2
def ife (c : XT) (a b : XE) : XE := fun q fr S => (c q fr S).bnd fun t S1 => if t = true then a q fr S1 else b q fr S1
def ix (a i : XE) : XE := fun q fr S => (a q fr S).bnd fun x S1 => (i q fr S1).bnd fun y S2 => ixD x y S2
def opt (o : Option XE) : Q → Frame → Store → R (Option Int) := fun q fr S => match o with
  | none => .ok none S
  | some e => (e q fr S).bnd fun x S1 => match x with
    | .t (.int i) => .ok (some i) S1
    | _ => .no
def sl (a : XE) (lo hi : Option XE) : XE := fun q fr S => (a q fr S).bnd fun x S1 => (opt lo q fr S1).bnd fun l S2 => (opt hi q fr S2).bnd fun h S3 => slD x l h S3
def rev (a : XE) : XE := fun q fr S => (a q fr S).bnd fun x S1 => revD x S1
def f1 (f : U1) (a : XE) : XE := fun q fr S => (a q fr S).bnd fun x S1 => f1D f x S1
def f2 (f : U2) (a b : XE) : XE := fun q fr S => (a q fr S).bnd fun x S1 => (b q fr S1).bnd fun y S2 => f2D f x y S2
/-- an argument: frozen where it is new -/
def arg : D → Option D
  | .t x => some (.t x)
  | .cell n => some (.cell n)
  | d => (fz 6 d).map D.t
def arr (ds : List D) : List (Sum Nat T) → Option (List D)
  | [] => some []
  | .inl k :: r => match ds[k]? with
    | some d => (arr ds r).map (d :: ·)
    | none => none
  | .inr x :: r => (arr ds r).map (.t x :: ·)
def callA (q : Q) (n : Nat) (ds : List D) (ar : List (Sum Nat T)) (S : Store) : R D := match mapO arg ds with
  | some es => match arr es ar with
    | some zs => q.call n zs S
    | none => .no
  | none => .no
def call (n : Nat) (h : XA) (ar : List (Sum Nat T)) : XE := fun q fr S => (h q fr S).bnd fun ds S1 => callA q n ds ar S1
/-- a call of the def that a slot holds -/
def callv (i : Nat) (ok : List Nat) (h : XA) (ar : List (Sum Nat T)) : XE := fun q fr S => match fr[i]? with
  | some (some (.t (.fn n a))) => if a = q.fa n ∧ n ∈ ok then (h q fr S).bnd fun ds S1 => callA q n ds ar S1 else .no
  | _ => .no

/-! what is walked -/
def itE (a : XE) : XI := fun q fr S => (a q fr S).bnd fun x S1 => match x with
  | .cell n => match S1[n]? with
    | some (.lst xs) => .ok (xs.map D.t, some n) S1
    | some (.lsto ds) => .ok (ds, some n) S1
    | some (.lck (.lst xs)) => .ok (xs.map D.t, none) S1
    | some (.lck (.lsto ds)) => .ok (ds, none) S1
    | _ => .no
  | .newo ds => match thaw 6 (.newo ds) S1 with
    | some (.cell n, S2) => match S2[n]? with
      | some (.lsto es) => .ok (es, some n) S2
      | _ => .no
    | _ => .no
  | x => match sq S1 x with
    | some xs => .ok (xs.map D.t, none) S1
    | none => .no
def itR (a : XE) : XI := fun q fr S => (a q fr S).bnd fun x S1 => match x with
  | .t (.int n) => if -(2 ^ 62) ≤ n ∧ n < 2 ^ 62 then .ok ((List.range n.toNat).map fun k : Nat => .int (k : Int), none) S1 else .no
  | _ => .no
def itR2 (a b : XE) : XI := fun q fr S => (a q fr S).bnd fun x S1 => (b q fr S1).bnd fun y S2 => match x, y with
  | .t (.int m), .t (.int n) => if -(2 ^ 62) ≤ m ∧ m < 2 ^ 62 ∧ -(2 ^ 62) ≤ n ∧ n < 2 ^ 62 then .ok ((List.range (n - m).toNat).map fun k : Nat => .int (m + (k : Int)), none) S2 else .no
  | _, _ => .no
/-- enumerate of frozen data -/
def itEn (a : XE) : XI := fun q fr S => (a q fr S).bnd fun x S1 => match x with
  | .cell n => match S1[n]? with
    | some (.lst xs) => .ok ((enumT xs).map D.t, some n) S1
    | some (.lck (.lst xs)) => .ok ((enumT xs).map D.t, none) S1
    | _ => .no
  | x => match sq S1 x with
    | some xs => .ok ((enumT xs).map D.t, none) S1
    | none => .no
/-- items, values of a frozen dict -/
def itIt (a : XE) : XI := fun q fr S => (a q fr S).bnd fun x S1 => match x with
  | .t (.dic kvs) => .ok (kvs.map fun p => .t (.tup [keyT p.1, p.2]), none) S1
  | _ => .no
def itVa (a : XE) : XI := fun q fr S => (a q fr S).bnd fun x S1 => match x with
  | .t (.dic kvs) => .ok (kvs.map fun p => .t p.2, none) S1
  | _ => .no
def itRv (a : XE) : XI := fun q fr S => (a q fr S).bnd fun x S1 => match x with
  | .cell n => match S1[n]? with
    | some (.lst xs) => .ok (xs.reverse.map D.t, some n) S1
    | some (.lck (.lst xs)) => .ok (xs.reverse.map D.t, none) S1
    | _ => .no
  | x => match sq S1 x with
    | some xs => .ok (xs.reverse.map D.t, none) S1
    | none => .no

/-! targets -/
inductive Tg where
  | nm (i : Nat) | tu (is : List Nat)
def Tg.ix : Tg → List Nat
  | .nm i => [i]
  | .tu is => is
end Z
open Z
def inSlot : D → Bool
  | .t _ => true
  | .cell _ => true
  | _ => false
def asg1 (i : Nat) (d : D) (fr : Frame) : Option Frame := if inSlot d = true then some (fr.set i (some d)) else none
def asgs : List Nat → List D → Frame → Option Frame
  | [], [], fr => some fr
  | i :: is, d :: ds, fr => match asg1 i d fr with
    | some fr1 => asgs is ds fr1
    | none => none
  | _, _, _ => none
def tupD (S : Store) : D → Option (List D)
  | .t (.tup xs) => some (xs.map D.t)
  | .tupo ds => some ds
  | .cell n => match rd S n with
    | some (.tupo ds) => some ds
    | _ => none
  | _ => none
def asg (S : Store) : Z.Tg → D → Frame → Option Frame
  | .nm i, d, fr => asg1 i d fr
  | .tu is, d, fr => match tupD S d with
    | some ds => asgs is ds fr
    | none => none
def wipeF (fr : Frame) : List Nat → Frame
  | [] => fr
  | v :: vs => (wipeF fr vs).set v none
/-- a turn of a comprehension -/
def lcL (tg : Z.Tg) (ts : Q → Frame → Store → R Bool) (el : XE) (q : Q) (fr : Frame) : List D → Store → R (List D)
  | [], S => .ok [] S
  | d :: ds, S => match asg S tg d fr with
    | none => .no
    | some fr1 => match ts q fr1 S with
      | .ok true S1 => match el q fr1 S1 with
        | .ok e S2 => (lcL tg ts el q fr ds S2).bnd fun es S3 => .ok (e :: es) S3
        | _ => .no
      | .ok false S1 => lcL tg ts el q fr ds S1
      | _ => .no
def lckS (S : Store) : Option Nat → Store
  | none => S
  | some n => match S[n]? with
    | some (.lck o) => S.set n (.lck o)
    | some o => S.set n (.lck o)
    | none => S
def unlS (S : Store) : Option Nat → Store
  | none => S
  | some n => match S[n]? with
    | some (.lck o) => S.set n o
    | _ => S
def unlR {α : Type} (l : Option Nat) : R α → R α
  | .ok a S => .ok a (unlS S l)
  | .ex c x S => .ex c x (unlS S l)
  | .no => .no
namespace Z
def tt : XT := fun _ _ S => .ok true S
/-- [el for tg in it if ts]; vs: its own names -/
def lc (vs : List Nat) (tg : Tg) (it : XI) (ts : XT) (el : XE) : XE := fun q fr S => (it q fr S).bnd fun p S1 => if p.1.length ≤ okL then (unlR p.2 (lcL tg ts el q (wipeF fr vs) p.1 (lckS S1 p.2))).bnd fun ds S2 => .ok (mkL ds) S2 else .no

/-! statements -/
def skip : XB := fun _ fr S => .ok (.nx, fr) S
def seq (a b : XB) : XB := fun q fr S => (a q fr S).bnd fun p S1 => match p.1 with
  | .nx => b q p.2 S1
  | f => .ok (f, p.2) S1
/-- what is put into a slot: frozen (m = false), or laid into the store -/
def stD (m : Bool) (d : D) (S : Store) : Option (D × Store) := if inSlot d = true then some (d, S) else if m = true then thaw 6 d S else (fz 6 d).map fun x => (.t x, S)
def set (i : Nat) (m : Bool) (f : XE) : XB := fun q fr S => (f q fr S).bnd fun d S1 => match stD m d S1 with
  | some (e, S2) => .ok (.nx, fr.set i (some e)) S2
  | none => .no
/-- a, b = e -/
def sett (is : List Nat) (m : Bool) (f : XE) : XB := fun q fr S => (f q fr S).bnd fun d S1 => match stD m d S1 with
  | some (e, S2) => match asg S2 (.tu is) e fr with
    | some fr2 => .ok (.nx, fr2) S2
    | none => .no
  | none => .no
def expr (f : XE) : XB := fun q fr S => (f q fr S).bnd fun _ S1 => .ok (.nx, fr) S1
def ret (f : XE) : XB := fun q fr S => (f q fr S).bnd fun d S1 => .ok (.rt d, fr) S1
def retn : XB := fun _ fr S => .ok (.rt .non, fr) S
def brk : XB := fun _ fr S => .ok (.bk, fr) S
def cnt : XB := fun _ fr S => .ok (.ct, fr) S
def never : XB := fun _ _ _ => .no
def ifs (c : XT) (a b : XB) : XB := fun q fr S => (c q fr S).bnd fun t S1 => if t = true then a q fr S1 else b q fr S1
def augI : BO → Int → Int → Option Int
  | .add, i, j => some (i + j)
  | .sub, i, j => some (i - j)
  | .mul, i, j => if mulOk i j then some (i * j) else none
  | _, _, _ => none
/-- x op= e, whole numbers; a list of the store grows -/
def aug (i : Nat) (o : BO) (f : XE) : XB := fun q fr S => match fr[i]? with
  | some (some (.t (.int m))) => (f q fr S).bnd fun y S1 => match y with
    | .t (.int n) => match augI o m n with
      | some z => .ok (.nx, fr.set i (some (.int z))) S1
      | none => .no
    | _ => .no
  | _ => .no
/-- o[i] = e, an own list or dict -/
def stiD (x i d : D) (S : Store) : Option Store := match x with
  | .cell n => match S[n]? with
    | some (.lst xs) => match i, arg d with
      | .t (.int j), some (.t y) => match ixN xs.length j with
        | some k => some (S.set n (.lst (xs.set k y)))
        | none => none
      | _, _ => none
    | some (.dic kvs) => match i, arg d with
      | .t f, some (.t y) => match kOf f with
        | some k => if kvs.length < okL then some (S.set n (.dic (putK k y kvs))) else none
        | none => none
      | _, _ => none
    | _ => none
  | _ => none
def sti (o i : XE) (f : XE) : XB := fun q fr S => (f q fr S).bnd fun d S1 => (o q fr S1).bnd fun x S2 => (i q fr S2).bnd fun j S3 => match stiD x j d S3 with
  | some S4 => .ok (.nx, fr) S4
  | none => .no
def delD (x i : D) (S : Store) : Option Store := match x, i with
  | .cell n, .t (.int j) => match S[n]? with
    | some (.lst xs) => match ixN xs.length j with
      | some k => if xs.length ≤ okL then some (S.set n (.lst (xs.eraseIdx k))) else none
      | none => none
    | _ => none
  | _, _ => none
def del (o i : XE) : XB := fun q fr S => (o q fr S).bnd fun x S1 => (i q fr S1).bnd fun j S2 => match delD x j S2 with
  | some S3 => .ok (.nx, fr) S3
  | none => .no
/-- methods of a list -/
inductive M where
  | append | remove | index | pop | count | extend | insert
def appD (x d : D) (S : Store) : R D := match x with
  | .cell n => match S[n]? with
    | some (.lst xs) => match arg d with
      | some (.t y) => if xs.length < okL then .ok .non (S.set n (.lst (xs ++ [y]))) else .no
      | _ => .no
    | _ => .no
  | _ => .no
def remD (x d : D) (S : Store) : R D := match x, d with
  | .cell n, .t (.int i) => match S[n]? with
    | some (.lst xs) => match asI xs with
      | some ns => if i ∈ ns then .ok .non (S.set n (.lst ((ns.eraseIdx (ns.idxOf i)).map T.int))) else .no
      | none => .no
    | _ => .no
  | _, _ => .no
def popD (x : D) (S : Store) : R D := match x with
  | .cell n => match S[n]? with
    | some (.lst xs) => match xs.getLast? with
      | some y => .ok (.t y) (S.set n (.lst xs.dropLast))
      | none => .no
    | _ => .no
  | _ => .no
def idxD (x d : D) (S : Store) : R D := match d with
  | .t (.int i) => match intsD S x with
    | some ns => if i ∈ ns then .ok (.int (ns.idxOf i : Nat)) S else .no
    | none => .no
  | _ => .no
def cntD (x d : D) (S : Store) : R D := match d with
  | .t (.int i) => match intsD S x with
    | some ns => .ok (.int (ns.count i : Nat)) S
    | none => .no
  | _ => .no
def extD (x d : D) (S : Store) : R D := match x with
  | .cell n => match S[n]? with
    | some (.lst xs) => match sq S d with
      | some ys => if xs.length + ys.length ≤ okL then .ok .non (S.set n (.lst (xs ++ ys))) else .no
      | none => .no
    | _ => .no
  | _ => .no
def insD (x i d : D) (S : Store) : R D := match x, i with
  | .cell n, .t (.int j) => match S[n]? with
    | some (.lst xs) => match arg d with
      | some (.t y) => if xs.length < okL ∧ 0 ≤ j ∧ j < 2 ^ 62 then .ok .non (S.set n (.lst (xs.take j.toNat ++ y :: xs.drop j.toNat))) else .no
      | _ => .no
    | _ => .no
  | _, _ => .no
def mD (m : M) (x : D) (ds : List D) (S : Store) : R D := match m, ds with
  | .append, [d] => appD x d S
  | .remove, [d] => remD x d S
  | .pop, [] => popD x S
  | .index, [d] => idxD x d S
  | .count, [d] => cntD x d S
  | .extend, [d] => extD x d S
  | .insert, [i, d] => insD x i d S
  | _, _ => .no
def me (m : M) (a : XE) (h : XA) : XE := fun q fr S => (a q fr S).bnd fun x S1 => if tyD S1 x = some "list" then (h q fr S1).bnd fun ds S2 => mD m x ds S2 else .no
/-- d.get(k), d.get(k, x) -/
def getD (x y z : D) (S : Store) : R D := match y, arg z with
  | .t f, some (.t w) => match dct S x, kOf f with
    | some kvs, some k => .ok (.t ((lookK k kvs).getD w)) S
    | _, _ => .no
  | _, _ => .no
def isDict (x : D) (S : Store) : Bool := (dct S x).isSome
def get1 (a i : XE) : XE := fun q fr S => (a q fr S).bnd fun x S1 => if isDict x S1 = true then (i q fr S1).bnd fun y S2 => getD x y .non S2 else .no
def get2 (a i e : XE) : XE := fun q fr S => (a q fr S).bnd fun x S1 => if isDict x S1 = true then (i q fr S1).bnd fun y S2 => (e q fr S2).bnd fun z S3 => getD x y z S3 else .no

/-! loops -/
/-- slots that name things of the store from L on are forgotten -/
def hideF (L : Nat) (fr : Frame) : Frame := fr.map fun o => match o with
  | some (.cell n) => if n < L then some (.cell n) else none
  | o => o
def cutR (c : Bool) (L : Nat) : R (Fl × Frame) → R (Fl × Frame)
  | .ok (.rt d, fr) S => .ok (.rt d, fr) S
  | .ok (f, fr) S => if c = true then .ok (f, hideF L fr) (S.take L) else .ok (f, fr) S
  | .no => .no
  | .ex a x S => .ex a x S
def qL (c : Bool) (q : Q) (S : Store) : Q := if c = true then { q with L := S.length } else q
def forL (tg : Tg) (b : Frame → Store → R (Fl × Frame)) : List D → Frame → Store → R (Fl × Frame)
  | [], fr, S => .ok (.nx, fr) S
  | d :: ds, fr, S => match asg S tg d fr with
    | none => .no
    | some fr1 => (b fr1 S).bnd fun p S2 => match p.1 with
      | .nx => forL tg b ds p.2 S2
      | .ct => forL tg b ds p.2 S2
      | .bk => .ok (.nx, p.2) S2
      | .rt e => .ok (.rt e, p.2) S2
def fors (c : Bool) (tg : Tg) (it : XI) (b : XB) : XB := fun q fr S => (it q fr S).bnd fun p S1 =>
  unlR p.2 (forL tg (fun fr2 S2 => cutR c (lckS S1 p.2).length (b (qL c q (lckS S1 p.2)) fr2 S2)) p.1 fr (lckS S1 p.2))
def whN (t : Frame → Store → R Bool) (b : Frame → Store → R (Fl × Frame)) : Nat → Frame → Store → R (Fl × Frame)
  | 0, _, _ => .no
  | n + 1, fr, S => (t fr S).bnd fun k S1 => if k = true then (b fr S1).bnd fun p S2 => match p.1 with
      | .nx => whN t b n p.2 S2
      | .ct => whN t b n p.2 S2
      | .bk => .ok (.nx, p.2) S2
      | .rt e => .ok (.rt e, p.2) S2
    else .ok (.nx, fr) S1
open Classical in
noncomputable def wh (t : Frame → Store → R Bool) (b : Frame → Store → R (Fl × Frame)) (fr : Frame) (S : Store) : R (Fl × Frame) :=
  if h : ∃ n, whN t b n fr S ≠ .no then whN t b h.choose fr S else .no
noncomputable def whs (c : Bool) (t : XT) (b : XB) : XB := fun q fr S => wh (t (qL c q S)) (fun fr2 S2 => cutR c S.length (b (qL c q S) fr2 S2)) fr S
end Z
/-! defs -/
structure Def where
  body : XB
  slots : Nat
  pars : Nat
def runD (body : XB) (n : Nat) (q : Q) (args : List D) (S : Store) : R D :=
  match body { q with L := S.length } (args.map some ++ List.replicate (n - args.length) none) S with
  | .ok (.nx, _) S1 => .ok .non (S1.take S.length)
  | .ok (.rt d, _) S1 => match mv 6 S1 S.length [] d with
    | some (e, _) => .ok e (S1.take S.length)
    | none => .no
  | .ok _ _ => .no
  | .no => .no
  | .ex c x S1 => .ex c x (S1.take S.length)
def callD (prog : List Def) (fa : Nat → Addr) : Nat → Nat → List D → Store → R D
  | 0, _, _, _ => .no
  | k + 1, n, args, S => match prog[n]? with
    | some d => if args.length = d.pars then runD d.body d.slots ⟨callD prog fa k, fa, S.length⟩ args S else .no
    | none => .no
/-! ### while, turn by turn -/
section
variable {t : Frame → Store → R Bool} {b : Frame → Store → R (Fl × Frame)} {fr : Frame} {S : Store}
theorem whN_mono : ∀ {n m : Nat} {fr : Frame} {S : Store}, n ≤ m → Z.whN t b n fr S ≠ .no → Z.whN t b m fr S = Z.whN t b n fr S
  | 0, _, _, _, _, h => absurd rfl h
  | n + 1, 0, _, _, hm, _ => absurd hm (Nat.not_succ_le_zero n)
  | n + 1, m + 1, fr, S, hm, h => by
    unfold Z.whN at h ⊢
    cases ht : t fr S with
    | no => rfl
    | ex c x S1 => rfl
    | ok k S1 =>
      rw [ht, bnd_ok] at h
      rw [bnd_ok, bnd_ok]
      cases k with
      | false => rfl
      | true =>
        rw [if_pos rfl] at h ⊢
        rw [if_pos rfl]
        cases hb : b fr S1 with
        | no => rfl
        | ex c x S2 => rfl
        | ok p S2 =>
          rw [hb, bnd_ok] at h
          rw [bnd_ok, bnd_ok]
          obtain ⟨f, fr2⟩ := p
          cases f with
          | nx => exact whN_mono (Nat.le_of_succ_le_succ hm) h
          | ct => exact whN_mono (Nat.le_of_succ_le_succ hm) h
          | bk => rfl
          | rt e => rfl
theorem wh_at {n : Nat} (h : Z.whN t b n fr S ≠ .no) : Z.wh t b fr S = Z.whN t b n fr S := by
  unfold Z.wh
  have hx : ∃ n, Z.whN t b n fr S ≠ .no := ⟨n, h⟩
  rw [dif_pos hx]
  rcases Nat.le_total hx.choose n with z | z
  · exact (whN_mono z hx.choose_spec).symm
  · exact whN_mono z h
theorem wh_some (h : Z.wh t b fr S ≠ .no) : ∃ n, Z.wh t b fr S = Z.whN t b n fr S := by
  unfold Z.wh at h ⊢
  by_cases hx : ∃ n, Z.whN t b n fr S ≠ .no
  · exact ⟨hx.choose, by rw [dif_pos hx]⟩
  · rw [dif_neg hx] at h
    exact absurd rfl h
/-- the loop's equation -/
theorem wh_eq : Z.wh t b fr S = (t fr S).bnd fun k S1 => if k = true then (b fr S1).bnd fun p S2 => match p.1 with
      | .nx => Z.wh t b p.2 S2
      | .ct => Z.wh t b p.2 S2
      | .bk => .ok (.nx, p.2) S2
      | .rt e => .ok (.rt e, p.2) S2
    else .ok (.nx, fr) S1 := by
  by_cases hx : ∃ n, Z.whN t b n fr S ≠ .no
  · obtain ⟨n, hn⟩ := hx
    rw [wh_at hn]
    cases n with
    | zero => exact absurd rfl hn
    | succ n =>
      unfold Z.whN at hn ⊢
      cases ht : t fr S with
      | no => rfl
      | ex c x S1 => rfl
      | ok k S1 =>
        rw [ht, bnd_ok] at hn
        rw [bnd_ok, bnd_ok]
        cases k with
        | false => rfl
        | true =>
          rw [if_pos rfl] at hn ⊢
          rw [if_pos rfl]
          cases hb : b fr S1 with
          | no => rfl
          | ex c x S2 => rfl
          | ok p S2 =>
            rw [hb, bnd_ok] at hn
            rw [bnd_ok, bnd_ok]
            obtain ⟨f, fr2⟩ := p
            cases f with
            | nx => exact (wh_at hn).symm
            | ct => exact (wh_at hn).symm
            | bk => rfl
            | rt e => rfl
  · have e : Z.wh t b fr S = .no := by
      unfold Z.wh
      rw [dif_neg hx]
    rw [e]
    cases ht : t fr S with
    | no => rfl
    | ex c x S1 =>
      exfalso
      refine hx ⟨1, ?_⟩
      unfold Z.whN
      rw [ht]
      intro z
      cases z
    | ok k S1 =>
      rw [bnd_ok]
      cases k with
      | false =>
        exfalso
        refine hx ⟨1, ?_⟩
        unfold Z.whN
        rw [ht]
        intro z
        cases z
      | true =>
        rw [if_pos rfl]
        cases hb : b fr S1 with
        | no => rfl
        | ex c x S2 =>
          exfalso
          refine hx ⟨1, ?_⟩
          unfold Z.whN
          rw [ht, bnd_ok, if_pos rfl, hb]
          intro z
          cases z
        | ok p S2 =>
          rw [bnd_ok]
          obtain ⟨f, fr2⟩ := p
          have nn : ∀ n, Z.whN t b n fr S = .no := fun n => by
            by_cases z : Z.whN t b n fr S = .no
            · exact z
            · exact absurd ⟨n, z⟩ hx
          have step : ∀ n, Z.whN t b (n + 1) fr S = match (generalizing := false) f with
              | .nx => Z.whN t b n fr2 S2
              | .ct => Z.whN t b n fr2 S2
              | .bk => .ok (.nx, fr2) S2
              | .rt e => .ok (.rt e, fr2) S2 := fun n => by
            rw [Z.whN, ht, bnd_ok, if_pos rfl, hb, bnd_ok]
          have dead : (∀ n, Z.whN t b n fr2 S2 = .no) → Z.wh t b fr2 S2 = .no := fun z => by
            unfold Z.wh
            rw [dif_neg]
            rintro ⟨n, hn⟩
            exact hn (z n)
          cases f with
          | nx => exact (dead fun n => (step n).symm.trans (nn (n + 1))).symm
          | ct => exact (dead fun n => (step n).symm.trans (nn (n + 1))).symm
          | bk =>
            have z := (step 0).symm.trans (nn 1)
            cases z
          | rt e =>
            have z := (step 0).symm.trans (nn 1)
            cases z
end
end Mi

set_option Elab.async false
set_option linter.all false
set_option maxRecDepth 100000
set_option maxHeartbeats 4000000
/-! N4: how slots and store stand in the abstract heap; steps; what is new is frozen, or laid into the store -/
namespace Mi
open PySem L2

/-- what a thing of the store is -/
def Con (K : PySem.W.Frag) (N : Nat) (μ : Nat → Addr) (F : Hp) : Ob → HO → Prop
  | .lst xs, .lst vs => RepL K (At F) vs xs
  | .lsto ds, .lst vs => RepCs K N μ F vs ds
  | .dic kvs, .dK vs => RepK K (At F) vs kvs
  | .dico kvs, .dK vs => RepCK K N μ F vs kvs
  | .tupo ds, .tup vs => RepCs K N μ F vs ds
  | .lck (.lst xs), .lst vs => RepL K (At F) vs xs
  | .lck (.lsto ds), .lst vs => RepCs K N μ F vs ds
  | .lck (.dic kvs), .frz _ (.dK vs) => RepK K (At F) vs kvs
  | .lck (.dico kvs), .frz _ (.dK vs) => RepCK K N μ F vs kvs
  | .lck (.tupo ds), .tup vs => RepCs K N μ F vs ds
  | .tbl _ q, .tbl ps => PySem.TriplesOk ps.toList ∧ ∀ (pos : Pos) (cv : Value), PySem.codeAmong pos ps.toList = some cv → ∃ c, cv = .ref c ∧ F c = some (LamX.CodeO c q)
  | _, _ => False
theorem Con.mono {K : PySem.W.Frag} {N N' : Nat} {μ μ' : Nat → Addr} {F F' : Hp} (hN : N ≤ N') (hm : ∀ n, n < N → μ' n = μ n) (f : Same F F') {o : Ob} {h : HO} (c : Con K N μ F o h) : Con K N' μ' F' o h := by
  unfold Con at c ⊢
  split at c <;> first | exact c.elim | exact RepL.mono (at_mono f) c | exact RepCs.mono hN hm f c | exact RepK.mono (at_mono f) c | exact RepCK.mono hN hm f c | exact ⟨c.1, fun pos cv h => let ⟨d, e1, e2⟩ := c.2 pos cv h; ⟨d, e1, f _ _ e2⟩⟩
def D.lt (L : Nat) : D → Prop
  | .cell n => n < L
  | _ => True
def Ob.lt (L : Nat) : Ob → Prop
  | .lsto ds => ∀ d ∈ ds, d.lt L
  | .dico kvs => ∀ p ∈ kvs, p.2.lt L
  | .tupo ds => ∀ d ∈ ds, d.lt L
  | .lck (.lsto ds) => ∀ d ∈ ds, d.lt L
  | .lck (.dico kvs) => ∀ p ∈ kvs, p.2.lt L
  | .lck (.tupo ds) => ∀ d ∈ ds, d.lt L
  | _ => True
/-- store and heap -/
structure Hs (K : PySem.W.Frag) (S : Store) (μ : Nat → Addr) (H F : Hp) : Prop where
  sub : Sub F H
  ce : ∀ (n : Nat) o, S[n]? = some o → ∃ ho, H (μ n) = some ho ∧ Con K S.length μ F o ho
  out : ∀ n, n < S.length → F (μ n) = none
  inj : ∀ n m, n < S.length → m < S.length → μ n = μ m → n = m
  tb : ∀ (n : Nat) P q, S[n]? = some (.tbl P q) → μ n = P
/-- .. and slots -/
structure Ab (K : PySem.W.Frag) (fr : Frame) (S : Store) (μ : Nat → Addr) (σ : L2.St) (H F : Hp) : Prop where
  hs : Hs K S μ H F
  len : σ.length = fr.length
  sl : ∀ (i : Nat) d, fr[i]? = some (some d) → ∃ v, σ[i]? = some (some v) ∧ RepC K S.length μ F v d
/-- a step -/
structure Stp (L : Nat) (S : Store) (μ : Nat → Addr) (H F : Hp) (S' : Store) (μ' : Nat → Addr) (H' F' : Hp) : Prop where
  f : Same F F'
  le : S.length ≤ S'.length
  mu : ∀ n, n < S.length → μ' n = μ n
  keep : ∀ b o, H b = some o → (∀ n, n < S.length → μ n ≠ b) → H' b = some o
  nF : ∀ a o, F' a = some o → F a = none → H a = none
  nC : ∀ n, S.length ≤ n → n < S'.length → H (μ' n) = none
  dom : ∀ a, H' a = none → H a = none
  cl : ∀ n, n < L → ∀ o o', S[n]? = some o → S'[n]? = some o' → ∀ B, o.lt B → o'.lt B
  lk : ∀ (n : Nat) o, S[n]? = some (.lck o) → S'[n]? = some (.lck o) ∧ ∀ u, H (μ n) = some u → H' (μ n) = some u
/-- what is owned -/
structure Own (as : List Addr) (H0 F : Hp) (μ : Nat → Addr) (S : Store) : Prop where
  nd : as.Nodup
  fr : ∀ a ∈ as, H0 a = none ∧ F a = none ∧ ∀ n, n < S.length → μ n ≠ a
section
variable {K : PySem.W.Frag} {L L' : Nat} {S S1 S2 S3 : Store} {μ μ1 μ2 μ3 : Nat → Addr} {H H1 H2 H3 F F1 F2 F3 H0 : Hp} {as bs : List Addr} {fr : Frame} {σ : L2.St}
theorem Stp.refl : Stp L S μ H F S μ H F where
  f := fun _ _ h => h
  le := Nat.le_refl _
  mu := fun _ _ => rfl
  keep := fun _ _ h _ => h
  nF := fun a o e q => by
    rw [e] at q
    cases q
  nC := fun n h1 h2 => absurd h2 (Nat.not_lt.mpr h1)
  dom := fun _ h => h
  cl := fun n _ o o' e1 e2 B h => by
    rw [e1] at e2
    cases e2
    exact h
  lk := fun _ _ e => ⟨e, fun _ z => z⟩
theorem Stp.trans (a : Stp L S μ H F S1 μ1 H1 F1) (b : Stp L S1 μ1 H1 F1 S2 μ2 H2 F2) : Stp L S μ H F S2 μ2 H2 F2 where
  f := fun _ _ h => b.f _ _ (a.f _ _ h)
  le := Nat.le_trans a.le b.le
  mu := fun n h => (b.mu n (Nat.lt_of_lt_of_le h a.le)).trans (a.mu n h)
  keep := fun c o e n => b.keep c o (a.keep c o e n) fun m hm z => by
    by_cases h : m < S.length
    · exact n m h ((a.mu m h).symm.trans z)
    · have := a.nC m (Nat.le_of_not_lt h) hm
      rw [z, e] at this
      cases this
  nF := fun c o e n => by
    cases r : F1 c with
    | some u => exact a.nF c u r n
    | none => exact a.dom c (b.nF c o e r)
  nC := fun n h1 h2 => by
    by_cases h : n < S1.length
    · rw [b.mu n h]
      exact a.nC n h1 h
    · exact a.dom _ (b.nC n (Nat.le_of_not_lt h) h2)
  dom := fun c e => a.dom c (b.dom c e)
  cl := fun n hn o o' e1 e2 B h => by
    have hl : n < S.length := (List.getElem?_eq_some_iff.mp e1).1
    have h1 : S1[n]? = some (S1[n]'(Nat.lt_of_lt_of_le hl a.le)) := List.getElem?_eq_getElem _
    exact b.cl n hn _ o' h1 e2 B (a.cl n hn o _ e1 h1 B h)
  lk := fun n o e => by
    have hl : n < S.length := (List.getElem?_eq_some_iff.mp e).1
    obtain ⟨e1, k1⟩ := a.lk n o e
    obtain ⟨e2, k2⟩ := b.lk n o e1
    rw [a.mu n hl] at k2
    exact ⟨e2, fun u z => k2 u (k1 u z)⟩
theorem Stp.low (a : Stp L S μ H F S1 μ1 H1 F1) (h : L' ≤ L) : Stp L' S μ H F S1 μ1 H1 F1 := ⟨a.f, a.le, a.mu, a.keep, a.nF, a.nC, a.dom, fun n hn => a.cl n (Nat.lt_of_lt_of_le hn h), a.lk⟩
theorem Stp.any (a : Stp S.length S μ H F S1 μ1 H1 F1) : Stp L S μ H F S1 μ1 H1 F1 := ⟨a.f, a.le, a.mu, a.keep, a.nF, a.nC, a.dom, fun n _ o o' e1 => a.cl n (List.getElem?_eq_some_iff.mp e1).1 o o' e1, a.lk⟩
theorem Own.nil : Own [] H0 F μ S := ⟨List.nodup_nil, fun _ h => by cases h⟩
theorem Own.start (o : Own as H1 F μ S) (dom : ∀ a, H1 a = none → H0 a = none) : Own as H0 F μ S := ⟨o.nd, fun a ha => let ⟨x, y, z⟩ := o.fr a ha; ⟨dom a x, y, z⟩⟩
/-- what is owned stays so -/
theorem RepN.keep {v : V} {d : D} (r : RepN K S1.length μ1 F1 H1 v d as) (o : Own as H0 F1 μ1 S1) (P : Stp L S1 μ1 H1 F1 S2 μ2 H2 F2) : RepN K S2.length μ2 F2 H2 v d as ∧ Own as H0 F2 μ2 S2 := by
  refine ⟨r.mono P.le P.mu P.f fun b u hb e => P.keep b u e fun n hn => (o.fr b hb).2.2 n hn, o.nd, fun a ha => ?_⟩
  obtain ⟨z1, z2, z3⟩ := o.fr a ha
  obtain ⟨u, hu⟩ := r.there a ha
  refine ⟨z1, ?_, fun n hn z => ?_⟩
  · cases q : F2 a with
    | none => rfl
    | some w =>
      rw [P.nF a w q z2] at hu
      cases hu
  · by_cases h : n < S1.length
    · exact z3 n h ((P.mu n h).symm.trans z)
    · have := P.nC n (Nat.le_of_not_lt h) hn
      rw [z, hu] at this
      cases this
theorem RepNs.keep {vs : List V} {ds : List D} (r : RepNs K S1.length μ1 F1 H1 vs ds as) (o : Own as H0 F1 μ1 S1) (P : Stp L S1 μ1 H1 F1 S2 μ2 H2 F2) : RepNs K S2.length μ2 F2 H2 vs ds as ∧ Own as H0 F2 μ2 S2 := by
  refine ⟨r.mono P.le P.mu P.f fun b u hb e => P.keep b u e fun n hn => (o.fr b hb).2.2 n hn, o.nd, fun a ha => ?_⟩
  obtain ⟨z1, z2, z3⟩ := o.fr a ha
  obtain ⟨u, hu⟩ := r.there a ha
  refine ⟨z1, ?_, fun n hn z => ?_⟩
  · cases q : F2 a with
    | none => rfl
    | some w =>
      rw [P.nF a w q z2] at hu
      cases hu
  · by_cases h : n < S1.length
    · exact z3 n h ((P.mu n h).symm.trans z)
    · have := P.nC n (Nat.le_of_not_lt h) hn
      rw [z, hu] at this
      cases this
/-- two that are owned, one made behind the other -/
theorem Own.app (a : Own as H0 F μ S) (b : Own bs H1 F μ S) (dom : ∀ x, H1 x = none → H0 x = none) (th : ∀ x ∈ as, ∃ o, H1 x = some o) : Own (as ++ bs) H0 F μ S := by
  refine ⟨List.nodup_append.mpr ⟨a.nd, b.nd, fun x hx y hy e => ?_⟩, fun x hx => ?_⟩
  · subst e
    obtain ⟨o, ho⟩ := th x hx
    rw [(b.fr x hy).1] at ho
    cases ho
  · rcases List.mem_append.mp hx with h | h
    · exact a.fr x h
    · exact (b.start dom).fr x h
theorem stp_there (P : Stp L S1 μ1 H1 F1 S2 μ2 H2 F2) {a : Addr} {o : HO} (h : H1 a = some o) : ∃ u, H2 a = some u := by
  cases q : H2 a with
  | some u => exact ⟨u, rfl⟩
  | none =>
    rw [P.dom a q] at h
    cases h

/-! ### the heap grows -/
theorem sub_keep (s : Sub F H) (k : ∀ b o, H b = some o → F b ≠ none → H1 b = some o) : Sub F H1 := fun a o e => now_keep (fun u z => k a u z (by rw [e]; intro y; cases y)) (s a o e)
/-- a new object of the heap -/
theorem Hs.laid (A : Hs K S μ H F) {p : Addr} {o : HO} (hp : H p = none) : Hs K S μ (upd H p o) F where
  sub := sub_keep A.sub fun b u e _ => by
    rw [upd_ne (ne_of_none e hp)]
    exact e
  ce := fun n u e => by
    obtain ⟨ho, h1, h2⟩ := A.ce n u e
    exact ⟨ho, by rw [upd_ne (ne_of_none h1 hp)]; exact h1, h2⟩
  out := A.out
  inj := A.inj
  tb := A.tb
theorem free_F (s : Sub F H) {p : Addr} (hp : H p = none) : F p = none := by
  cases q : F p with
  | none => rfl
  | some u =>
    obtain ⟨w, hw⟩ := now_some (s p u q)
    rw [hp] at hw
    cases hw
theorem free_C (A : Hs K S μ H F) {p : Addr} (hp : H p = none) : ∀ n, n < S.length → μ n ≠ p := fun n hn z => by
  obtain ⟨ho, h1, _⟩ := A.ce n _ (List.getElem?_eq_getElem hn)
  rw [z, hp] at h1
  cases h1
theorem stp_laid {p : Addr} {o : HO} (hp : H p = none) : Stp L S μ H F S μ (upd H p o) F where
  f := fun _ _ h => h
  le := Nat.le_refl _
  mu := fun _ _ => rfl
  keep := fun b u e _ => by
    rw [upd_ne (ne_of_none e hp)]
    exact e
  nF := fun a u e q => by
    rw [e] at q
    cases q
  nC := fun n h1 h2 => absurd h2 (Nat.not_lt.mpr h1)
  dom := fun a e => by
    by_cases h : a = p
    · rw [h]; exact hp
    · rw [upd_ne h] at e; exact e
  cl := fun n _ o o' e1 e2 B h => by
    rw [e1] at e2
    cases e2
    exact h
  lk := fun n o e => ⟨e, fun u z => by
    rw [upd_ne (ne_of_none z hp)]
    exact z⟩
theorem own_new (A : Hs K S μ H F) {p : Addr} (hp : H p = none) : Own [p] H F μ S := ⟨List.nodup_cons.mpr ⟨(fun h => by cases h), List.nodup_nil⟩, fun a ha => by
  rw [List.mem_singleton.mp ha]
  exact ⟨hp, free_F A.sub hp, free_C A hp⟩⟩
/-- the frozen part grows -/
theorem Hs.more (A : Hs K S μ H F) (f : Same F F1) (s : Sub F1 H) (n : ∀ m, m < S.length → F1 (μ m) = none) : Hs K S μ H F1 := ⟨s, fun m o e => let ⟨ho, h1, h2⟩ := A.ce m o e; ⟨ho, h1, h2.mono (Nat.le_refl _) (fun _ _ => rfl) f⟩, n, A.inj, A.tb⟩
theorem Ab.hsof (A : Ab K fr S μ σ H F) (P : Stp L S μ H F S1 μ1 H1 F1) (h : Hs K S1 μ1 H1 F1) : Ab K fr S1 μ1 σ H1 F1 := ⟨h, A.len, fun i d e => let ⟨v, e1, r⟩ := A.sl i d e; ⟨v, e1, r.mono P.le P.mu P.f⟩⟩

/-! ### freezing -/
def frz (F H : Hp) (as : List Addr) : Hp := fun b => if b ∈ as then H b else F b
theorem frz_in {b : Addr} (h : b ∈ as) : frz F H as b = H b := if_pos h
theorem frz_out {b : Addr} (h : b ∉ as) : frz F H as b = F b := if_neg h
mutual
theorem fz_rep {cs : List Addr} (sf : Same F (frz F H cs)) : ∀ {k : Nat} {v : V} {d : D} {as : List Addr} {x : T}, RepN K S.length μ F H v d as → (∀ a ∈ as, a ∈ cs) → fz k d = some x → Rep K (At (frz F H cs)) v x
  | k, _, _, _, x, .c (.t r), _, e => by
    cases k <;> (cases e; exact r.mono (at_mono sf))
  | k, _, _, _, x, .c (.cell _), _, e => by
    cases k <;> cases e
  | k, _, _, _, x, .new h1 h2, m, e => by
    cases k <;> (cases e; exact .lst ((frz_in (m _ (List.mem_singleton.mpr rfl))).trans h1) (h2.mono (at_mono sf)))
  | k, _, _, _, x, .newd h1 h2, m, e => by
    cases k <;> (cases e; exact .dic ((frz_in (m _ (List.mem_singleton.mpr rfl))).trans h1) (h2.mono (at_mono sf)))
  | 0, _, _, _, x, .newo h1 h2, m, e => by cases e
  | 0, _, _, _, x, .tupo h1 h2, m, e => by cases e
  | k + 1, _, .newo ds, _, x, .newo h1 h2, m, e => by
    have e' : (mapO (fz k) ds).map T.lst = some x := e
    cases q : mapO (fz k) ds with
    | none =>
      rw [q] at e'
      cases e'
    | some ys =>
      rw [q] at e'
      cases e'
      exact .lst ((frz_in (m _ List.mem_cons_self)).trans h1) (fzs_rep sf h2 (fun a ha => m a (List.mem_cons_of_mem _ ha)) q)
  | k + 1, _, .tupo ds, _, x, .tupo h1 h2, m, e => by
    have e' : (mapO (fz k) ds).map T.tup = some x := e
    cases q : mapO (fz k) ds with
    | none =>
      rw [q] at e'
      cases e'
    | some ys =>
      rw [q] at e'
      cases e'
      exact .tup ((frz_in (m _ List.mem_cons_self)).trans h1) (fzs_rep sf h2 (fun a ha => m a (List.mem_cons_of_mem _ ha)) q)
theorem fzs_rep {cs : List Addr} (sf : Same F (frz F H cs)) : ∀ {k : Nat} {vs : List V} {ds : List D} {as : List Addr} {xs : List T}, RepNs K S.length μ F H vs ds as → (∀ a ∈ as, a ∈ cs) → mapO (fz k) ds = some xs → RepL K (At (frz F H cs)) vs xs
  | _, _, _, _, _, .nil, _, e => by
    cases e
    exact .nil
  | k, _, d :: ds, _, xs, .cons h1 h2, m, e => by
    unfold mapO at e
    cases q : fz k d with
    | none =>
      rw [q] at e
      cases e
    | some y =>
      rw [q] at e
      have e' : (mapO (fz k) ds).map (y :: ·) = some xs := e
      cases q2 : mapO (fz k) ds with
      | none =>
        rw [q2] at e'
        cases e'
      | some ys =>
        rw [q2] at e'
        cases e'
        exact .cons (fz_rep sf h1 (fun a ha => m a (List.mem_append_left _ ha)) q) (fzs_rep sf h2 (fun a ha => m a (List.mem_append_right _ ha)) q2)
end
theorem frz_same (fr : ∀ a ∈ as, F a = none) : Same F (frz F H as) := fun b o e => by
  by_cases hb : b ∈ as
  · rw [fr b hb] at e
    cases e
  · rw [frz_out hb]
    exact e
theorem frz_sub (s : Sub F H) : Sub (frz F H as) H := fun b o e => by
  by_cases hb : b ∈ as
  · rw [frz_in hb] at e
    exact .inl e
  · rw [frz_out hb] at e
    exact s _ _ e
/-- .. the state with some addresses frozen -/
theorem Hs.frz (A : Hs K S μ H F) (o : Own as H0 F μ S) : Hs K S μ H (frz F H as) :=
  A.more (frz_same fun a ha => (o.fr a ha).2.1) (frz_sub A.sub) fun m hm => by
    rw [frz_out fun z => (o.fr _ z).2.2 m hm rfl]
    exact A.out m hm
theorem stp_frz (P : Stp L S μ H0 F S1 μ1 H1 F1) (o : Own as H0 F1 μ1 S1) : Stp L S μ H0 F S1 μ1 H1 (frz F1 H1 as) :=
  { P with
    f := fun b u e => frz_same (fun a ha => (o.fr a ha).2.1) _ _ (P.f _ _ e)
    nF := fun a u e q => by
      by_cases ha : a ∈ as
      · exact (o.fr a ha).1
      · rw [frz_out ha] at e
        exact P.nF a u e q }

/-! ### laying into the store -/
def muS (μ : Nat → Addr) (n : Nat) (a : Addr) : Nat → Addr := fun m => if m = n then a else μ m
theorem muS_same {n : Nat} {a : Addr} : muS μ n a n = a := if_pos rfl
theorem muS_ne {n m : Nat} {a : Addr} (h : m ≠ n) : muS μ n a m = μ m := if_neg h
theorem muS_lt {n m : Nat} {a : Addr} (h : m < n) : muS μ n a m = μ m := if_neg (Nat.ne_of_lt h)
theorem get_snoc {α : Type} {l : List α} {x y : α} {n : Nat} (e : (l ++ [x])[n]? = some y) : (n < l.length ∧ l[n]? = some y) ∨ (n = l.length ∧ y = x) := by
  by_cases h : n < l.length
  · rw [List.getElem?_append_left h] at e
    exact .inl ⟨h, e⟩
  · rw [List.getElem?_append_right (Nat.le_of_not_lt h)] at e
    cases q : n - l.length with
    | zero =>
      rw [q] at e
      exact .inr ⟨by omega, (Option.some.inj e).symm⟩
    | succ m =>
      rw [q] at e
      cases e
theorem Hs.snoc (A : Hs K S μ H F) {a : Addr} {ho : HO} {o : Ob} (h1 : H a = some ho) (h2 : Con K S.length μ F o ho) (hF : F a = none) (hC : ∀ n, n < S.length → μ n ≠ a) (ht : ∀ P q, o ≠ .tbl P q := by intro _ _ z; cases z) : Hs K (S ++ [o]) (muS μ S.length a) H F where
  tb := fun n P q e => by
    rcases get_snoc e with ⟨hn, e⟩ | ⟨rfl, e2⟩
    · rw [muS_lt hn]
      exact A.tb n P q e
    · first | exact absurd e2 (ht P q) | exact absurd e2.symm (ht P q)
  sub := A.sub
  ce := fun n u e => by
    have le : S.length ≤ (S ++ [o]).length := by rw [List.length_append]; omega
    rcases get_snoc e with ⟨hn, e⟩ | ⟨rfl, rfl⟩
    · obtain ⟨ho', z1, z2⟩ := A.ce n u e
      exact ⟨ho', by rw [muS_lt hn]; exact z1, z2.mono le (fun m hm => muS_lt hm) fun _ _ h => h⟩
    · exact ⟨ho, by rw [muS_same]; exact h1, h2.mono le (fun m hm => muS_lt hm) fun _ _ h => h⟩
  out := fun n hn => by
    rw [List.length_append] at hn
    by_cases h : n = S.length
    · rw [h, muS_same]
      exact hF
    · have hl : n < S.length := by simp only [List.length_cons, List.length_nil] at hn; omega
      rw [muS_lt hl]
      exact A.out n hl
  inj := fun n m hn hm e => by
    rw [List.length_append] at hn hm
    simp only [List.length_cons, List.length_nil] at hn hm
    by_cases h : n = S.length
    · by_cases h2 : m = S.length
      · rw [h, h2]
      · have hl : m < S.length := by omega
        rw [h, muS_same, muS_lt hl] at e
        exact absurd e.symm (hC m hl)
    · have hl : n < S.length := by omega
      rw [muS_lt hl] at e
      by_cases h2 : m = S.length
      · rw [h2, muS_same] at e
        exact absurd e (hC n hl)
      · have hl2 : m < S.length := by omega
        rw [muS_lt hl2] at e
        exact A.inj n m hl hl2 e
end
end Mi

set_option Elab.async false
set_option linter.all false
set_option maxRecDepth 100000
set_option maxHeartbeats 4000000
/-! N5: laid into the store; handed back -/
namespace Mi
open PySem L2
section
variable {K : PySem.W.Frag} {L L' : Nat} {S S1 S2 S3 : Store} {μ μ1 μ2 μ3 : Nat → Addr} {H H1 H2 H3 F F1 F2 F3 H0 : Hp} {as bs : List Addr} {fr : Frame} {σ : L2.St}
theorem sameF : Same F F := fun _ _ h => h
/-- what laying into the store comes to -/
structure Thw (K : PySem.W.Frag) (S : Store) (μ : Nat → Addr) (H F : Hp) (as : List Addr) (S' : Store) (μ' : Nat → Addr) : Prop where
  hs : Hs K S' μ' H F
  le : S.length ≤ S'.length
  mu : ∀ n, n < S.length → μ' n = μ n
  nw : ∀ n, S.length ≤ n → n < S'.length → μ' n ∈ as
  old : ∀ n, n < S.length → S'[n]? = S[n]?
theorem Thw.refl (A : Hs K S μ H F) : Thw K S μ H F as S μ := ⟨A, Nat.le_refl _, fun _ _ => rfl, fun n h1 h2 => absurd h2 (Nat.not_lt.mpr h1), fun _ _ => rfl⟩
theorem Thw.trans (a : Thw K S μ H F as S1 μ1) (b : Thw K S1 μ1 H F bs S2 μ2) : Thw K S μ H F (as ++ bs) S2 μ2 :=
  ⟨b.hs, Nat.le_trans a.le b.le, fun n h => (b.mu n (Nat.lt_of_lt_of_le h a.le)).trans (a.mu n h), fun n h1 h2 => by
    by_cases h : n < S1.length
    · rw [b.mu n h]
      exact List.mem_append_left _ (a.nw n h1 h)
    · exact List.mem_append_right _ (b.nw n (Nat.le_of_not_lt h) h2), fun n h => (b.old n (Nat.lt_of_lt_of_le h a.le)).trans (a.old n h)⟩
theorem Thw.more (a : Thw K S μ H F as S1 μ1) (h : ∀ x ∈ as, x ∈ bs) : Thw K S μ H F bs S1 μ1 := ⟨a.hs, a.le, a.mu, fun n h1 h2 => h _ (a.nw n h1 h2), a.old⟩
theorem Thw.snoc (A : Hs K S μ H F) {a : Addr} {ho : HO} {o : Ob} (h1 : H a = some ho) (h2 : Con K S.length μ F o ho) (hF : F a = none) (hC : ∀ n, n < S.length → μ n ≠ a) (ht : ∀ P q, o ≠ .tbl P q := by intro _ _ z; cases z) : Thw K S μ H F [a] (S ++ [o]) (muS μ S.length a) where
  hs := A.snoc h1 h2 hF hC ht
  le := by rw [List.length_append]; omega
  mu := fun n h => muS_lt h
  nw := fun n h1 h2 => by
    rw [List.length_append, List.length_cons, List.length_nil] at h2
    have e : n = S.length := by omega
    rw [e, muS_same]
    exact List.mem_singleton.mpr rfl
  old := fun n h => List.getElem?_append_left h
theorem Thw.stp (t : Thw K S1 μ1 H1 F1 as S2 μ2) (P : Stp L S μ H F S1 μ1 H1 F1) (fr : ∀ a ∈ as, H a = none) : Stp L S μ H F S2 μ2 H1 F1 where
  f := P.f
  le := Nat.le_trans P.le t.le
  mu := fun n h => (t.mu n (Nat.lt_of_lt_of_le h P.le)).trans (P.mu n h)
  keep := P.keep
  nF := P.nF
  nC := fun n h1 h2 => by
    by_cases h : n < S1.length
    · rw [t.mu n h]
      exact P.nC n h1 h
    · exact fr _ (t.nw n (Nat.le_of_not_lt h) h2)
  dom := P.dom
  cl := fun n hn o o' e1 e2 => by
    have hl : n < S.length := (List.getElem?_eq_some_iff.mp e1).1
    rw [t.old n (Nat.lt_of_lt_of_le hl P.le)] at e2
    exact P.cl n hn o o' e1 e2
  lk := fun n o e => by
    have hl : n < S.length := (List.getElem?_eq_some_iff.mp e).1
    obtain ⟨e1, k1⟩ := P.lk n o e
    exact ⟨by rw [t.old n (Nat.lt_of_lt_of_le hl P.le)]; exact e1, k1⟩
theorem own_sub (o : Own as H0 F μ S) (t : Thw K S μ H F bs S1 μ1) (h : ∀ a ∈ as, a ∉ bs) : Own as H0 F μ1 S1 := ⟨o.nd, fun a ha => by
  obtain ⟨z1, z2, z3⟩ := o.fr a ha
  refine ⟨z1, z2, fun n hn z => ?_⟩
  by_cases hl : n < S.length
  · exact z3 n hl ((t.mu n hl).symm.trans z)
  · exact h a ha (by rw [← z]; exact t.nw n (Nat.le_of_not_lt hl) hn)⟩
theorem Own.left (o : Own (as ++ bs) H0 F μ S) : Own as H0 F μ S := ⟨(List.nodup_append.mp o.nd).1, fun a ha => o.fr a (List.mem_append_left _ ha)⟩
theorem Own.right (o : Own (as ++ bs) H0 F μ S) : Own bs H0 F μ S := ⟨(List.nodup_append.mp o.nd).2.1, fun a ha => o.fr a (List.mem_append_right _ ha)⟩
theorem Own.apart (o : Own (as ++ bs) H0 F μ S) : ∀ a ∈ bs, a ∉ as := fun a hb ha => (List.nodup_append.mp o.nd).2.2 a ha a hb rfl
theorem Own.tail {a : Addr} (o : Own (a :: as) H0 F μ S) : Own as H0 F μ S := Own.right (as := [a]) o
theorem cell_new {a : Addr} {o : Ob} : RepC K (S ++ [o]).length (muS μ S.length a) F (.ref a) (.cell S.length) := by
  have c := RepC.cell (K := K) (N := (S ++ [o]).length) (μ := muS μ S.length a) (F := F) (n := S.length) (by rw [List.length_append]; exact Nat.lt_succ_self _)
  rw [muS_same] at c
  exact c
def ThawOk (K : PySem.W.Frag) (k : Nat) : Prop := ∀ {d : D} {S : Store} {d' : D} {S' : Store} {μ : Nat → Addr} {H F H0 : Hp} {v : V} {as : List Addr}, thaw k d S = some (d', S') → Hs K S μ H F → RepN K S.length μ F H v d as → Own as H0 F μ S → ∃ μ', Thw K S μ H F as S' μ' ∧ RepC K S'.length μ' F v d'
theorem thaws_ok {k : Nat} (T : ThawOk K k) : ∀ {ds : List D} {S : Store} {ds' : List D} {S' : Store} {μ : Nat → Addr} {H F H0 : Hp} {vs : List V} {as : List Addr}, mapS (thaw k) ds S = some (ds', S') → Hs K S μ H F → RepNs K S.length μ F H vs ds as → Own as H0 F μ S → ∃ μ', Thw K S μ H F as S' μ' ∧ RepCs K S'.length μ' F vs ds'
  | [], S, ds', S', μ, H, F, H0, vs, as, e, A, r, o => by
    cases e
    cases r
    exact ⟨μ, .refl A, .nil⟩
  | d :: ds, S, ds', S', μ, H, F, H0, vs, as, e, A, r, o => by
    cases r with
    | cons r1 r2 =>
      unfold mapS at e
      split at e
      · rename_i y S1 e1
        split at e
        · rename_i ys S2 e2
          cases e
          obtain ⟨μ1, t1, c1⟩ := T e1 A r1 o.left
          have r2' := r2.mono t1.le t1.mu sameF (H' := H) fun _ _ _ h => h
          obtain ⟨μ2, t2, c2⟩ := thaws_ok T e2 t1.hs r2' (own_sub o.right t1 o.apart)
          exact ⟨μ2, t1.trans t2, .cons (c1.mono t2.le t2.mu sameF) c2⟩
        · cases e
      · cases e
theorem thaw_ok : ∀ k, ThawOk K k
  | k, .t x, S, d', S', μ, H, F, H0, v, as, e, A, r, o => by
    have e' : some (D.t x, S) = some (d', S') := by cases k <;> exact e
    cases e'
    cases r with
    | c r => exact ⟨μ, .refl A, r⟩
  | k, .cell n, S, d', S', μ, H, F, H0, v, as, e, A, r, o => by
    have e' : some (D.cell n, S) = some (d', S') := by cases k <;> exact e
    cases e'
    cases r with
    | c r => exact ⟨μ, .refl A, r⟩
  | k, .new xs, S, d', S', μ, H, F, H0, v, as, e, A, r, o => by
    have e' : some (D.cell S.length, S ++ [Ob.lst xs]) = some (d', S') := by cases k <;> exact e
    cases e'
    cases r with
    | c r => cases r
    | new h1 h2 =>
      obtain ⟨z1, z2, z3⟩ := o.fr _ (List.mem_singleton.mpr rfl)
      refine ⟨_, Thw.snoc A h1 h2 z2 z3, ?_⟩
      exact cell_new
  | k, .newd xs, S, d', S', μ, H, F, H0, v, as, e, A, r, o => by
    have e' : some (D.cell S.length, S ++ [Ob.dic xs]) = some (d', S') := by cases k <;> exact e
    cases e'
    cases r with
    | c r => cases r
    | newd h1 h2 =>
      obtain ⟨z1, z2, z3⟩ := o.fr _ (List.mem_singleton.mpr rfl)
      refine ⟨_, Thw.snoc A h1 h2 z2 z3, ?_⟩
      exact cell_new
  | 0, .newo ds, S, d', S', μ, H, F, H0, v, as, e, A, r, o => by cases e
  | 0, .tupo ds, S, d', S', μ, H, F, H0, v, as, e, A, r, o => by cases e
  | k + 1, .newo ds, S, d', S', μ, H, F, H0, v, as, e, A, r, o => by
    unfold thaw at e
    split at e
    · rename_i es S1 e1
      cases e
      cases r with
      | c r => cases r
      | newo h1 h2 =>
        obtain ⟨μ1, t1, c1⟩ := thaws_ok (thaw_ok k) e1 A h2 o.tail
        obtain ⟨z1, z2, z3⟩ := o.fr _ List.mem_cons_self
        have nd := List.nodup_cons.mp o.nd
        have z3' : ∀ n, n < S1.length → μ1 n ≠ _ := fun n hn z => by
          by_cases hl : n < S.length
          · exact z3 n hl ((t1.mu n hl).symm.trans z)
          · exact nd.1 (by rw [← z]; exact t1.nw n (Nat.le_of_not_lt hl) hn)
        refine ⟨_, (t1.trans (Thw.snoc t1.hs h1 (show Con K _ _ _ (.lsto es) _ from c1) z2 z3')).more fun x hx => ?_, ?_⟩
        · rcases List.mem_append.mp hx with h | h
          · exact List.mem_cons_of_mem _ h
          · rw [List.mem_singleton.mp h]
            exact List.mem_cons_self
        · exact cell_new
    · cases e
  | k + 1, .tupo ds, S, d', S', μ, H, F, H0, v, as, e, A, r, o => by
    unfold thaw at e
    split at e
    · rename_i es S1 e1
      cases e
      cases r with
      | c r => cases r
      | tupo h1 h2 =>
        obtain ⟨μ1, t1, c1⟩ := thaws_ok (thaw_ok k) e1 A h2 o.tail
        obtain ⟨z1, z2, z3⟩ := o.fr _ List.mem_cons_self
        have nd := List.nodup_cons.mp o.nd
        have z3' : ∀ n, n < S1.length → μ1 n ≠ _ := fun n hn z => by
          by_cases hl : n < S.length
          · exact z3 n hl ((t1.mu n hl).symm.trans z)
          · exact nd.1 (by rw [← z]; exact t1.nw n (Nat.le_of_not_lt hl) hn)
        refine ⟨_, (t1.trans (Thw.snoc t1.hs h1 (show Con K _ _ _ (.tupo es) _ from c1) z2 z3')).more fun x hx => ?_, ?_⟩
        · rcases List.mem_append.mp hx with h | h
          · exact List.mem_cons_of_mem _ h
          · rw [List.mem_singleton.mp h]
            exact List.mem_cons_self
        · exact cell_new
    · cases e

/-! ### handed back -/
theorem RepCs.toN : ∀ {vs : List V} {ds : List D} {N : Nat}, RepCs K N μ F vs ds → RepNs K N μ F H vs ds []
  | _, _, _, .nil => .nil
  | _, _, _, .cons h t => .cons (as := []) (bs := []) (.c h) (RepCs.toN t)
/-- what the moved addresses are -/
def MvO (S : Store) (L : Nat) (μ : Nat → Addr) (sn sn' : List Nat) (as as' : List Addr) : Prop := as'.Nodup ∧ (∀ n ∈ sn, n ∈ sn') ∧ ∀ a ∈ as', a ∈ as ∨ ∃ n, n ∈ sn' ∧ n ∉ sn ∧ L ≤ n ∧ n < S.length ∧ a = μ n
def MvOk (K : PySem.W.Frag) (k : Nat) : Prop := ∀ {S : Store} {L : Nat} {sn : List Nat} {d d' : D} {sn' : List Nat} {μ : Nat → Addr} {H F H0 : Hp} {v : V} {as : List Addr}, mv k S L sn d = some (d', sn') → Hs K S μ H F → RepN K S.length μ F H v d as → Own as H0 F μ S → ∃ as', RepN K L μ F H v d' as' ∧ MvO S L μ sn sn' as as'
theorem mvs_ok {k : Nat} (M : MvOk K k) {S : Store} {L : Nat} {μ : Nat → Addr} {H F H0 : Hp} (A : Hs K S μ H F) : ∀ {ds ds' : List D} {sn sn' : List Nat} {vs : List V} {as : List Addr}, mapM2 (mv k S L) sn ds = some (ds', sn') → RepNs K S.length μ F H vs ds as → Own as H0 F μ S → ∃ as', RepNs K L μ F H vs ds' as' ∧ MvO S L μ sn sn' as as'
  | [], ds', sn, sn', vs, as, e, r, o => by
    cases e
    cases r
    exact ⟨[], .nil, List.nodup_nil, fun _ h => h, fun _ h => by cases h⟩
  | d :: ds, ds', sn, sn', vs, as, e, r, o => by
    cases r with
    | cons r1 r2 =>
      unfold mapM2 at e
      split at e
      · rename_i y s1 e1
        split at e
        · rename_i ys s2 e2
          cases e
          obtain ⟨a1, q1, n1, i1, f1⟩ := M e1 A r1 o.left
          obtain ⟨a2, q2, n2, i2, f2⟩ := mvs_ok M A e2 r2 o.right
          refine ⟨a1 ++ a2, .cons q1 q2, List.nodup_append.mpr ⟨n1, n2, fun a ha b hb z => ?_⟩, fun n h => i2 n (i1 n h), fun a ha => ?_⟩
          · subst z
            rcases f1 a ha with h | ⟨n, h1, h2, h3, h4, h5⟩
            · rcases f2 a hb with g | ⟨m, g1, g2, g3, g4, g5⟩
              · exact o.apart a g h
              · exact (o.left.fr a h).2.2 m g4 g5.symm
            · rcases f2 a hb with g | ⟨m, g1, g2, g3, g4, g5⟩
              · exact (o.right.fr a g).2.2 n h4 h5.symm
              · have e := A.inj n m h4 g4 (h5.symm.trans g5)
                rw [e] at h1
                exact g2 h1
          · rcases List.mem_append.mp ha with h | h
            · rcases f1 a h with g | ⟨n, h1, h2, h3⟩
              · exact .inl (List.mem_append_left _ g)
              · exact .inr ⟨n, i2 n h1, h2, h3⟩
            · rcases f2 a h with g | ⟨n, h1, h2, h3⟩
              · exact .inl (List.mem_append_right _ g)
              · exact .inr ⟨n, h1, fun z => h2 (i1 n z), h3⟩
        · cases e
      · cases e
theorem mv_ok : ∀ k, MvOk K k
  | k, S, L, sn, .t x, d', sn', μ, H, F, H0, v, as, e, A, r, o => by
    have e' : some (D.t x, sn) = some (d', sn') := by cases k <;> exact e
    cases e'
    cases r with
    | c r =>
      cases r with
      | t r => exact ⟨[], .c (.t r), List.nodup_nil, fun _ h => h, fun _ h => by cases h⟩
  | k, S, L, sn, .new xs, d', sn', μ, H, F, H0, v, as, e, A, r, o => by
    have e' : some (D.new xs, sn) = some (d', sn') := by cases k <;> exact e
    cases e'
    cases r with
    | c r => cases r
    | new h1 h2 => exact ⟨_, .new h1 h2, o.nd, fun _ h => h, fun _ h => .inl h⟩
  | k, S, L, sn, .newd xs, d', sn', μ, H, F, H0, v, as, e, A, r, o => by
    have e' : some (D.newd xs, sn) = some (d', sn') := by cases k <;> exact e
    cases e'
    cases r with
    | c r => cases r
    | newd h1 h2 => exact ⟨_, .newd h1 h2, o.nd, fun _ h => h, fun _ h => .inl h⟩
  | 0, S, L, sn, .newo ds, d', sn', μ, H, F, H0, v, as, e, A, r, o => by cases e
  | 0, S, L, sn, .tupo ds, d', sn', μ, H, F, H0, v, as, e, A, r, o => by cases e
  | 0, S, L, sn, .cell n, d', sn', μ, H, F, H0, v, as, e, A, r, o => by cases e
  | k + 1, S, L, sn, .newo ds, d', sn', μ, H, F, H0, v, as, e, A, r, o => by
    have e' : (mapM2 (mv k S L) sn ds).map (fun p => (D.newo p.1, p.2)) = some (d', sn') := e
    cases q : mapM2 (mv k S L) sn ds with
    | none =>
      rw [q] at e'
      cases e'
    | some p =>
      rw [q] at e'
      cases e'
      cases r with
      | c r => cases r
      | newo h1 h2 =>
        obtain ⟨as', q1, q2, q3, q4⟩ := mvs_ok (mv_ok k) A q h2 o.tail
        have hd := o.fr _ List.mem_cons_self
        refine ⟨_ :: as', .newo h1 q1, List.nodup_cons.mpr ⟨fun z => ?_, q2⟩, q3, fun a ha => ?_⟩
        · rcases q4 _ z with g | ⟨n, _, _, _, g4, g5⟩
          · exact (List.nodup_cons.mp o.nd).1 g
          · exact hd.2.2 n g4 g5.symm
        · rcases List.mem_cons.mp ha with rfl | ha
          · exact .inl List.mem_cons_self
          · exact (q4 a ha).imp (List.mem_cons_of_mem _) id
  | k + 1, S, L, sn, .tupo ds, d', sn', μ, H, F, H0, v, as, e, A, r, o => by
    have e' : (mapM2 (mv k S L) sn ds).map (fun p => (D.tupo p.1, p.2)) = some (d', sn') := e
    cases q : mapM2 (mv k S L) sn ds with
    | none =>
      rw [q] at e'
      cases e'
    | some p =>
      rw [q] at e'
      cases e'
      cases r with
      | c r => cases r
      | tupo h1 h2 =>
        obtain ⟨as', q1, q2, q3, q4⟩ := mvs_ok (mv_ok k) A q h2 o.tail
        have hd := o.fr _ List.mem_cons_self
        refine ⟨_ :: as', .tupo h1 q1, List.nodup_cons.mpr ⟨fun z => ?_, q2⟩, q3, fun a ha => ?_⟩
        · rcases q4 _ z with g | ⟨n, _, _, _, g4, g5⟩
          · exact (List.nodup_cons.mp o.nd).1 g
          · exact hd.2.2 n g4 g5.symm
        · rcases List.mem_cons.mp ha with rfl | ha
          · exact .inl List.mem_cons_self
          · exact (q4 a ha).imp (List.mem_cons_of_mem _) id
  | k + 1, S, L, sn, .cell n, d', sn', μ, H, F, H0, v, as, e, A, r, o => by
    cases r with
    | c r =>
      cases r with
      | cell hn =>
        unfold mv at e
        split at e
        · rename_i hL
          cases e
          exact ⟨[], .c (.cell hL), List.nodup_nil, fun _ h => h, fun _ h => by cases h⟩
        · rename_i hL
          split at e
          · cases e
          · rename_i hs
            have hs' : n ∉ sn := fun z => hs (List.contains_iff_mem.mpr z)
            have mem : ∀ m ∈ sn, m ∈ n :: sn := fun m h => List.mem_cons_of_mem _ h
            -- a cell whose things are unfrozen
            have core : ∀ {ds : List D} {vs : List V} {p : List D × List Nat}, RepCs K S.length μ F vs ds → mapM2 (mv k S L) (n :: sn) ds = some p → ∃ as', RepNs K L μ F H vs p.1 as' ∧ (μ n :: as').Nodup ∧ (∀ m ∈ sn, m ∈ p.2) ∧ ∀ a ∈ μ n :: as', ∃ m, m ∈ p.2 ∧ m ∉ sn ∧ L ≤ m ∧ m < S.length ∧ a = μ m := fun {ds vs p} hc q => by
              obtain ⟨as', q1, q2, q3, q4⟩ := mvs_ok (H0 := H0) (mv_ok k) A q hc.toN .nil
              have q4' : ∀ a ∈ as', ∃ m, m ∈ p.2 ∧ m ∉ n :: sn ∧ L ≤ m ∧ m < S.length ∧ a = μ m := fun a ha => (q4 a ha).elim (fun z => by cases z) id
              refine ⟨as', q1, List.nodup_cons.mpr ⟨fun z => ?_, q2⟩, fun m h => q3 m (mem m h), fun a ha => ?_⟩
              · obtain ⟨m, g1, g2, g3, g4, g5⟩ := q4' _ z
                have e := A.inj n m hn g4 g5
                exact g2 (e ▸ List.mem_cons_self)
              · rcases List.mem_cons.mp ha with rfl | ha
                · exact ⟨n, q3 n List.mem_cons_self, hs', Nat.le_of_not_lt hL, hn, rfl⟩
                · obtain ⟨m, g1, g2, g3⟩ := q4' a ha
                  exact ⟨m, g1, fun z => g2 (mem m z), g3⟩
            split at e
            · rename_i xs ho
              cases e
              obtain ⟨w, h1, h2⟩ := A.ce n _ ho
              cases w <;> first | exact h2.elim | skip
              exact ⟨[μ n], .new h1 h2, List.nodup_cons.mpr ⟨(fun h => by cases h), List.nodup_nil⟩, mem, fun a ha => .inr ⟨n, List.mem_cons_self, hs', Nat.le_of_not_lt hL, hn, List.mem_singleton.mp ha⟩⟩
            · rename_i xs ho
              cases e
              obtain ⟨w, h1, h2⟩ := A.ce n _ ho
              cases w <;> first | exact h2.elim | skip
              exact ⟨[μ n], .newd h1 h2, List.nodup_cons.mpr ⟨(fun h => by cases h), List.nodup_nil⟩, mem, fun a ha => .inr ⟨n, List.mem_cons_self, hs', Nat.le_of_not_lt hL, hn, List.mem_singleton.mp ha⟩⟩
            · rename_i ds ho
              obtain ⟨w, h1, h2⟩ := A.ce n _ ho
              cases w <;> first | exact h2.elim | skip
              cases q : mapM2 (mv k S L) (n :: sn) ds with
              | none =>
                rw [q] at e
                cases e
              | some p =>
                rw [q] at e
                cases e
                obtain ⟨as', q1, q2, q3, q4⟩ := core h2 q
                exact ⟨μ n :: as', .newo h1 q1, q2, q3, fun a ha => .inr (q4 a ha)⟩
            · rename_i ds ho
              obtain ⟨w, h1, h2⟩ := A.ce n _ ho
              cases w <;> first | exact h2.elim | skip
              cases q : mapM2 (mv k S L) (n :: sn) ds with
              | none =>
                rw [q] at e
                cases e
              | some p =>
                rw [q] at e
                cases e
                obtain ⟨as', q1, q2, q3, q4⟩ := core h2 q
                exact ⟨μ n :: as', .tupo h1 q1, q2, q3, fun a ha => .inr (q4 a ha)⟩
            · cases e

/-! ### the store cut back -/
theorem RepC.lt {N : Nat} {v : V} {d : D} (r : RepC K N μ F v d) : d.lt N := by
  cases r with
  | t _ => trivial
  | cell h => exact h
theorem RepCs.lts {N : Nat} : ∀ {vs : List V} {ds : List D}, RepCs K N μ F vs ds → ∀ d ∈ ds, d.lt N
  | _, _, .nil, d, h => by cases h
  | _, _, .cons h t, d, hd => by
    rcases List.mem_cons.mp hd with rfl | hd
    · exact h.lt
    · exact RepCs.lts t d hd
theorem RepCK.lts {N : Nat} : ∀ {vs : List (Key × V)} {ds : List (Key × D)}, RepCK K N μ F vs ds → ∀ p ∈ ds, p.2.lt N
  | _, _, .nil, d, h => by cases h
  | _, _, .cons h t, d, hd => by
    rcases List.mem_cons.mp hd with rfl | hd
    · exact h.lt
    · exact RepCK.lts t d hd
theorem Con.lt {N : Nat} {o : Ob} {ho : HO} (c : Con K N μ F o ho) : o.lt N := by
  unfold Con at c
  split at c <;> first | trivial | exact RepCs.lts c | exact RepCK.lts c | exact c.elim
theorem RepC.cutN {N : Nat} {v : V} {d : D} (r : RepC K N μ F v d) (h : d.lt L) : RepC K L μ F v d := by
  cases r with
  | t r => exact .t r
  | cell _ => exact .cell h
theorem RepCs.cutN {N : Nat} : ∀ {vs : List V} {ds : List D}, RepCs K N μ F vs ds → (∀ d ∈ ds, d.lt L) → RepCs K L μ F vs ds
  | _, _, .nil, _ => .nil
  | _, _, .cons h t, k => .cons (h.cutN (k _ List.mem_cons_self)) (RepCs.cutN t fun d hd => k d (List.mem_cons_of_mem _ hd))
theorem RepCK.cutN {N : Nat} : ∀ {vs : List (Key × V)} {ds : List (Key × D)}, RepCK K N μ F vs ds → (∀ p ∈ ds, p.2.lt L) → RepCK K L μ F vs ds
  | _, _, .nil, _ => .nil
  | _, _, .cons h t, k => .cons (h.cutN (k _ List.mem_cons_self)) (RepCK.cutN t fun d hd => k d (List.mem_cons_of_mem _ hd))
theorem Con.cutN {N : Nat} {o : Ob} {ho : HO} (c : Con K N μ F o ho) (h : o.lt L) : Con K L μ F o ho := by
  unfold Con at c ⊢
  split at c <;> first | exact c.elim | exact c | exact RepCs.cutN c h | exact RepCK.cutN c h
theorem Hs.take (A : Hs K S μ H F) (hL : L ≤ S.length) (h : ∀ n, n < L → ∀ o, S[n]? = some o → o.lt L) : Hs K (S.take L) μ H F where
  sub := A.sub
  ce := fun n o e => by
    have hn : n < L := by
      have := (List.getElem?_eq_some_iff.mp e).1
      rw [List.length_take] at this
      omega
    rw [List.getElem?_take_of_lt hn] at e
    obtain ⟨ho, h1, h2⟩ := A.ce n o e
    rw [List.length_take, Nat.min_eq_left hL]
    exact ⟨ho, h1, h2.cutN (h n hn o e)⟩
  out := fun n hn => A.out n (by rw [List.length_take] at hn; omega)
  inj := fun n m hn hm e => by
    rw [List.length_take] at hn hm
    exact A.inj n m (by omega) (by omega) e
  tb := fun n P q e => by
    have hn : n < L := by
      have := (List.getElem?_eq_some_iff.mp e).1
      rw [List.length_take] at this
      omega
    rw [List.getElem?_take_of_lt hn] at e
    exact A.tb n P q e
theorem Stp.take (P : Stp L S μ H F S1 μ1 H1 F1) : Stp L S μ H F (S1.take S.length) μ1 H1 F1 where
  f := P.f
  le := by rw [List.length_take, Nat.min_eq_left P.le]; exact Nat.le_refl _
  mu := P.mu
  keep := P.keep
  nF := P.nF
  nC := fun n h1 h2 => by
    rw [List.length_take] at h2
    omega
  dom := P.dom
  cl := fun n hn o o' e1 e2 => by
    have hl : n < S.length := (List.getElem?_eq_some_iff.mp e1).1
    rw [List.getElem?_take_of_lt hl] at e2
    exact P.cl n hn o o' e1 e2
  lk := fun n o e => by
    have hl : n < S.length := (List.getElem?_eq_some_iff.mp e).1
    obtain ⟨e1, k1⟩ := P.lk n o e
    exact ⟨by rw [List.getElem?_take_of_lt hl]; exact e1, k1⟩
theorem Hs.takeS (A0 : Hs K S μ H F) (A : Hs K S1 μ1 H1 F1) (P : Stp S.length S μ H F S1 μ1 H1 F1) : Hs K (S1.take S.length) μ1 H1 F1 := A.take P.le fun n hn o e => by
  have h0 : S[n]? = some (S[n]'hn) := List.getElem?_eq_getElem hn
  obtain ⟨ho, _, c⟩ := A0.ce n _ h0
  exact P.cl n hn _ o h0 e _ c.lt
end
end Mi

set_option Elab.async false
set_option linter.all false
set_option maxRecDepth 100000
set_option maxHeartbeats 4000000
/-! E1: error classes of the program over ValueError whose __init__ says super().__init__(text); self.f = f -/
namespace Mi
open PySem PySem.W PySem.Calls PyProof.Rows PySem.HandSPX PySem.Spec
/-- the body of such an __init__ -/
def iB (f msg : Str) (j : Nat) (p0 p1 p2 p3 p4 p5 q1 q2 q3 q4 : Pos) : List Stmt :=
  [.Expr (.Call (.Attribute (.Call (.Name "super" p0) [] [] p1) "__init__" p2) [.Constant (.str msg) j p3] [] p4) p5, .Assign [.Attribute (.Name "self" q1) f q2] (.Name f q3) q4]
/-- what the written part says of its function -/
structure InitFn (prog : Program) (K : Frag) (C fI : Addr) (f : Str) : Prop where
  ex : ∃ (oc : Value) (od : Option Addr) (osl : Array (Option Value)) (qual msg : Str) (params : Arguments) (scope : Scope) (doc pm : Value) (an : Option Addr) (cda cc : Addr) (ct : Value) (ar : Arg) (j : Nat) (p0 p1 p2 p3 p4 p5 q1 q2 q3 q4 : Pos),
    K.lookup fI = some ⟨oc, od, .func (ksFn "__init__" qual params (iB f msg j p0 p1 p2 p3 p4 p5 q1 q2 q3 q4) scope .none .none doc pm an (.ref cda) ct cc), osl⟩ ∧ codeIn K (.ref cda) qual = true ∧
    (∃ ccl cdd vs ccs file tf, K.lookup cda = some ⟨ccl, cdd, .fields vs, ccs⟩ ∧ vs[2]? = some (.str file tf) ∧ ((prog.main.file : Str) == file) = true) ∧
    (∃ cl cld csl, K.lookup cc = some ⟨cl, cld, .cell (some (.ref C)), csl⟩) ∧
    (∀ s u v, BindsTo s (ksFn "__init__" qual params (iB f msg j p0 p1 p2 p3 p4 p5 q1 q2 q3 q4) scope .none .none doc pm an (.ref cda) ct cc) ⟨[u, v], []⟩ [("self", u), (f, v)]) ∧
    (params.posonlyargs ++ params.args).head? = some ar ∧ ar.arg = "self" ∧
    scope.kind = .function ∧ scope.isCoroutine = false ∧ scope.isGenerator = false ∧ (∀ x ∈ scope.names, x.2 ≠ .cell) ∧
    scope.names.lookup ("super" : Str) = some .globalImplicit ∧ scope.names.lookup ("__class__" : Str) = some .free ∧ scope.names.lookup ("self" : Str) = some .local ∧ scope.names.lookup f = some .local ∧ f ≠ "self" ∧ (f == ("__debug__" : Str)) = false ∧ (p2.endLine == p4.line) = true
/-- .. and of the class -/
structure OwnX (prog : Program) (K : Frag) (C fI : Addr) (f : Str) : Prop where
  cls : ∃ cd, clsIn K C = some cd ∧ cd.mro = .ref C :: veTail ∧ cd.hasDict = true
  xi : excInitIn K C veTail "ValueError.__new__" = true
  sa : findIn K (.ref C) "__setattr__" = some (some (.builtin "object.__setattr__"))
  no : findIn K (.ref C) f = some none
  iC : findIn K (.ref C) "__init__" = some (some (.ref fI))
  tI : typeIn K (.ref fI) = some (.type "function")
  kC : keepIn K (.ref C) = true
  mr : mroIn K C (.ref C) = some true
  sV : subIn K (.ref C) (.type "ValueError") = some true
  sE : subIn K (.ref C) (.type "BaseException") = some true
  ty : typeIn K (.ref C) = some (.type "type")
  op : nsIn K cStatics "thirdparty.any" = some none
  ga : findIn K (.ref C) "__getattribute__" = some (some (.builtin "BaseException.__getattribute__"))
  gg : findIn K (.ref C) "__getattr__" = some none
  hdI : hasDictIn K C = true
  cc : findIn K (.ref C) "__class__" = some (some (.builtin "object.__class__"))
  cn : specialIn K (.builtin "object.__class__") "__get__" = some (some (.builtin "getset_descriptor.__get__"))
  ct : takesIn K (.builtin "object.__class__") = some true
  mo : mroIn K C (.type "object") = some true
  fn : InitFn prog K C fI f
  top : (prog.main.scope.names.lookup ("super" : Str)).isSome = false
theorem along_ve (K : Frag) : alongIn K "__init__" veTail = some (some (.builtin "ValueError.__init__")) := by kernel_rfl
theorem drop_ve (C : Addr) (l : List Value) : ((Value.ref C :: l).dropWhile (· != .ref C)).drop 1 = l := by
  simp [List.dropWhile_cons]
theorem call_eq {o : Expr} {name : Str} {apos pos : Pos} {e : Expr} {env : Env} (hs : starEach [e] env = [(false, eval e env)]) (h : (apos.endLine == pos.line) = true) : eval (.Call (.Attribute o name apos) [e] [] pos) env = (do
      let ov ← attributeBase o name env (eval o env)
      standAt apos.atName
      let (f, first) ← holding [ov] (getMethod ov name (do return (← importBound o env).getD true))
      callWith pos f first (backTo pos (starEach [e] env)) []) := by
  have hf : methodCallForm ([e].length + ([] : List Keyword).length) (backTo pos (starEach [e] env)) (backToKw pos (keywordEach [] env)) = true := by
    rw [hs]
    rfl
  show (do
    let ov ← attributeBase o name env (eval o env)
    standAt apos.atName
    methodCall o name apos pos env ov ([e].length + ([] : List Keyword).length) (backTo pos (starEach [e] env)) (backToKw pos (keywordEach [] env))) = _
  unfold methodCall
  rw [hf]
  have hp : methodCallPos true o env apos pos = pure pos := by
    unfold methodCallPos
    rw [h]
    rfl
  rw [hp]
  rfl
/-- what __init__ leaves of a fresh exception at x -/
structure InitEnd (h h' : Heap) (x C dx t1 : Addr) (f : Str) (v : Value) : Prop where
  keep : ∀ b o, b ≠ x → h.get? b = some o → h'.get? b = some o
  obj : h'.get? x = some { cls := .ref C, dict := some dx, data := .fields #[.ref t1, .none, .none, .none, .bool false, .none] }
  dbig : h.objs.size ≤ dx
  dne : dx ≠ x
  ns : h'.Ns1 dx (fun y => if y = f then some v else none)
section
variable {prog : Program} {w : World} {A : Around} {E : Value → Shared → Prop} {R : Result → Shared → Prop} {s : Shared} {K : Frag} {mg mb : Str → Option Value} {C fI : Addr} {f : Str}
theorem own_init (T : OwnX prog K C fI f) {x t0 : Addr} {v : Value} (X : K.In s.heap) (hlim : s.heap.NoLimit) (G : s.heap.Ns mainGlobals mg) (Bn : s.heap.Ns builtinsNs mb) (Bb : ∀ x : Str, x ≠ "__name__" → mb x = bootBuiltins x) (hsup : mg "super" = none)
    (hx : s.heap.get? x = some (excO C t0)) (hnx : K.lookup x = none) (hroom : A.depth < recursionLimit)
    (hq : ∀ h' tk dx t1, InitEnd s.heap h' x C dx t1 f v → R (.ok (.ret .none)) { s with heap := h', toks := tk }) :
    codeAny (model prog w) A (.call (.ref fI) ⟨[.ref x, v], []⟩) R s := by
  obtain ⟨oc, od, osl, qual, msg, params, scope, doc, pm, an, cda, cc, ct, ar, j, p0, p1, p2, p3, p4, p5, q1, q2, q3, q4, ho, hcd, ⟨ccl, cdd, vs, ccs, file, tf, hcode, hvs, hfile⟩, ⟨cl, cld, csl, hcell⟩, hb, har, har2, hk, hco, hgen, hnc, hks, hkc, hka, hkf, hfs, hdf, hpl⟩ := T.fn.ex
  obtain ⟨cd, hcl, hmro, hhd⟩ := T.cls
  obtain ⟨s0, g, d, t, os⟩ := s
  have hloc : ∀ y ∈ [(("self" : Str), Value.ref x), (f, v)], scope.names.lookup y.1 = some .local := fun y hy => by
    rcases List.mem_cons.mp hy with rfl | hy
    · exact hka
    · rw [List.mem_singleton.mp hy]
      exact hkf
  refine ks_codeAny_call_defAt (fd := ksFn "__init__" qual params (iB f msg j p0 p1 p2 p3 p4 p5 q1 q2 q3 q4) scope .none .none doc pm an (.ref cda) ct cc) (body := iB f msg j p0 p1 p2 p3 p4 p5 q1 q2 q3 q4) (binds := [("self", .ref x), (f, v)]) hroom (X _ _ ho) rfl hlim (codeRec_of X hcd) rfl (hb _ _ _) hnc hloc (fun h₁ hns hk₁ => ?_) hco hgen hk
  have X₁ : K.In h₁ := X.keeps hk₁
  have hself : ([(("self" : Str), Value.ref x), (f, v)] : List (Str × Value)).reverse.lookup ("self" : Str) = some (Value.ref x) := by
    show ([(f, v), (("self" : Str), Value.ref x)] : List (Str × Value)).lookup ("self" : Str) = _
    have e : (("self" : Str) == f) = false := by simpa using (Ne.symm hfs)
    simp [List.lookup, e]
  have hfv : ([(("self" : Str), Value.ref x), (f, v)] : List (Str × Value)).reverse.lookup f = some v := by
    show ([(f, v), (("self" : Str), Value.ref x)] : List (Str × Value)).lookup f = _
    simp [List.lookup]
  show _root_.PySem.wpAt _ _ _ (execs _ (ksEnv qual scope s0.objs.size fI (.ref cda) cc)) _ _ _
  unfold iB
  have hi : interactive (ksEnv qual scope s0.objs.size fI (.ref cda) cc) = false := by
    unfold interactive
    show (scope.kind == .module && _) = false
    rw [hk]
    rfl
  refine ks_wpAt_execs_cons (ks_wpAt_Expr_any (hi := hi) (ks_wpAt_MethodCall ?_ (call_eq rfl hpl)))
  have hx₁ := hk₁ _ _ hx
  obtain ⟨oD, hD1, hD2⟩ : ∃ oD, h₁.get? C = some oD ∧ oD.data = .cls cd := by
    unfold clsIn at hcl
    split at hcl
    · rename_i c d cd' sl ho
      cases hcl
      exact ⟨_, X₁ _ _ ho, rfl⟩
    · cases hcl
  have G₁ := G.keeps hk₁
  have B₁ := Bn.keeps hk₁
  refine ks_wpAt_super_base (env := ksEnv qual scope s0.objs.size fI (.ref cda) cc) hks hkc (by decide) rfl (X₁ _ _ ho) rfl har rfl (X₁ _ _ hcode) rfl hvs hfile T.top ?_
  refine ks_loadName_global hk hks (loadGlobal_builtin (env := ksEnv qual scope s0.objs.size fI (.ref cda) cc) G₁ hsup B₁ ((Bb _ (by decide)).trans (by first | rfl | decide +kernel)) ⟨rfl, ?_⟩)
  refine wpAny_loadName_free hk hkc rfl ⟨_, X₁ _ _ hcell, rfl⟩ ?_
  rw [har2]
  refine wpAny_loadName_local hk hka hns hself ?_
  refine ks_wpAny_isType_cls hD1 hD2 ⟨rfl, ?_⟩
  have hnd : ∀ c, (excO C t0).data ≠ .cls c := fun c e => by cases e
  refine ks_wpAny_call_super hD1 hD2 hx₁ rfl hnd (looks_mroIn X₁ T.mr) (fun h₂ hso hk₂ => ?_)
  have X₂ : K.In h₂ := X₁.keeps hk₂
  have hx₂ := hk₂ _ _ hx₁
  have hxC : x ≠ C := fun z => by
    have e := X₁
    obtain ⟨oo, hoo⟩ : ∃ o, K.lookup C = some o := by
      unfold clsIn at hcl
      split at hcl
      · rename_i c d cd' sl ho
        exact ⟨_, ho⟩
      · cases hcl
    rw [← z, hnx] at hoo
    cases hoo
  have I₂ : InstAt h₂ x (excO C t0) C none := ⟨hx₂, rfl, rfl, trivial⟩
  refine kxs_getMethod kxs_ValueError hso (looks_opaque X₂ T.op) (l₀ := cd.mro) (l := veTail) (fun A Q E s k q => wpAny_bind ((looks_clsIn X₂ hcl) A _ E s k (wpAny_pure q))) (by rw [hmro]; exact drop_ve C _) X₂ (along_ve K) (I₂.type.andThen (looks_subIn X₂ T.sV)) hxC (by decide) ?_
  have h3 : ∀ b o, h₂.get? b = some o → (h₂.push (kxs_mw "ValueError.__init__" x)).get? b = some o := fun b o e => Heap.get?_push_of_some _ e
  have hu : (h₂.push (kxs_mw "ValueError.__init__" x)).get? h₂.objs.size = some (kxs_mw "ValueError.__init__" x) := Heap.get?_push_at rfl rfl
  refine kxs_callWith (i := "ValueError.__init__") (x := x) (by rfl) ?_
  refine evalArgs_plain (spliced_more (Calls.Constant_str (spliced_none ⟨hu, ?_⟩)))
  have X₃ : K.In (h₂.push (kxs_mw "ValueError.__init__" x)) := X₂.keeps h3
  have hx₃ := h3 _ _ hx₂
  obtain ⟨nm, N, qn, bs, bm, hdct, sn, sub, ab, col, dd, k0, k1, k2, k3, k5, hC, hT⟩ := excInit_of X₃ T.xi
  have FB := PySem.F.excBase_ValueError
  show wpAny _ _ (call (.ref h₂.objs.size) [.str msg _]) _ _ _
  refine wpAny_call (codeAny_of_tree ?_)
  show wpAny _ _ (callAny (.ref h₂.objs.size) ⟨[.str msg _], []⟩) _ _ _
  simp only [callAny]
  refine wpAny_bind (wpAny_load hu ?_)
  simp only [kxs_mw, show (Value.type "method-wrapper" == Value.type "method" || Value.type "method-wrapper" == Value.type "builtin_function_or_method" || Value.type "method-wrapper" == Value.type "method-wrapper") = true by decide, if_true]
  refine KFB.if_so (by decide) ?_
  refine wpAny_bind (check_bound_init FB.toExcCallFacts hC hx₃ rfl ?_)
  refine wpAny_bind (wpAny_pure (wpAny_pure ?_))
  refine ⟨plainId_quiet FB.init.plain _, codeAny_builtin FB.initEntry ?_⟩
  refine exc_init_tree (cls := .ref C) (t0 := t0) (dv := none) (c2 := .none) (c3 := .none) (b4 := .bool false) hx₃ (by rw [sizeLine_eq]; exact (by decide : 1 ≤ 16777216)) fun h₄ hk₄ hx₄ ht₄ => ?_
  have X₄ : K.In h₄ := fun a o e => hk₄ a o (fun z => by rw [z, hnx] at e; cases e) (X₃ a o e)
  have hns₄ : h₄.Ns s0.objs.size (fun y => ([(("self" : Str), Value.ref x), (f, v)] : List (Str × Value)).reverse.lookup y) := by
    obtain ⟨oL, es, ep, hL, r⟩ := hns
    have hxs : s0.objs.size ≠ x := Nat.ne_of_gt (Heap.lt_size hx)
    exact ⟨oL, es, ep, hk₄ _ _ hxs (h3 _ _ (hk₂ _ _ hL)), r⟩
  show _root_.PySem.wpAt _ _ _ (execs _ (ksEnv qual scope s0.objs.size fI (.ref cda) cc)) _ _ _
  refine ks_wpAt_execs_cons (ks_wpAt_Assign_Attr (wpAt_of_wpAny (wpAny_Name (wpAny_loadName_local hk hkf hns₄ hfv (wpAny_Name (wpAny_loadName_local hk hka hns₄ hself ?_) (by decide))) hdf)))
  refine set_plain X₄ (ox := excO C _) (od := none) ⟨hx₄, rfl, rfl, trivial⟩ T.sa ?_
  have hm : refsVE cd.mro = true := by
    rw [hmro]
    rfl
  refine exc_osa X₄ hx₄ hcl hm hhd T.no (fun h₅ tk₅ dx k₅ dn dne hx₅ hn₅ => ?_)
  have z : s0.objs.size < h₄.objs.size := by
    obtain ⟨oL, es, ep, hL, r⟩ := hns₄
    exact Heap.lt_size hL
  exact wpAt_of_wpAny (wpAny_execs_nil (hq h₅ tk₅ dx _ ⟨fun b o hb e => k₅ b o hb (hk₄ b o hb (h3 _ _ (hk₂ _ _ (hk₁ _ _ e)))), hx₅, Nat.le_of_lt (Nat.lt_of_lt_of_le z dn), dne, hn₅⟩))
end
end Mi

set_option Elab.async false
set_option linter.all false
set_option maxRecDepth 100000
set_option maxHeartbeats 4000000
/-! E2: making, raising, catching such errors -/
namespace Mi
open PySem PySem.W PySem.Calls PyProof.Rows PySem.HandSPX PySem.Spec
/-- a made error -/
structure OwnMade (h h' : Heap) (e C d : Addr) (f : Str) (v : Value) : Prop where
  keep : ∀ b o, h.get? b = some o → h'.get? b = some o
  new : h.objs.size ≤ e
  obj : ∃ oe vs, h'.get? e = some oe ∧ oe.cls = .ref C ∧ oe.dict = some d ∧ oe.data = .fields vs ∧ vs[1]? = some .none
  dbig : h.objs.size ≤ d
  dne : d ≠ e
  ns : h'.Ns1 d (fun y => if y = f then some v else none)
section
variable {prog : Program} {w : World} {A : Around} {E : Value → Shared → Prop} {R : Result → Shared → Prop} {s : Shared} {K : Frag} {mg mb : Str → Option Value} {C fI : Addr} {f : Str}
theorem own_made (T : OwnX prog K C fI f) {v : Value} (X : K.In s.heap) (hlim : s.heap.NoLimit) (G : s.heap.Ns mainGlobals mg) (Bn : s.heap.Ns builtinsNs mb) (Bb : ∀ x : Str, x ≠ "__name__" → mb x = bootBuiltins x) (hsup : mg "super" = none) (hroom : A.depth + 1 < recursionLimit)
    (hq : ∀ h' tk e d, OwnMade s.heap h' e C d f v → R (.ok (.ret (.ref e))) { s with heap := h', toks := tk }) :
    codeAny (model prog w) A (.call (.ref C) ⟨[v], []⟩) R s := by
  obtain ⟨nm, N, qn, bs, bm, hdct, sn, sub, ab, col, dd, k0, k1, k2, k3, k5, hC, hT⟩ := excInit_of X T.xi
  obtain ⟨hp, g, dr, tk, os⟩ := s
  have k : ∀ b o, hp.get? b = some o → ((hp.push (kdv_tup [v])).push (excO C hp.objs.size)).get? b = some o := fun b o e => Heap.get?_push_of_some _ (Heap.get?_push_of_some _ e)
  have hget : ((hp.push (kdv_tup [v])).push (excO C hp.objs.size)).get? (hp.objs.size + 1) = some (excO C hp.objs.size) := by heap_get
  have hnx : K.lookup (hp.objs.size + 1) = none := by
    cases e : K.lookup (hp.objs.size + 1) with
    | none => rfl
    | some o =>
      have z : hp.get? (hp.objs.size + 1) = some o := X _ _ e
      exact absurd (Nat.lt_of_succ_lt (Heap.lt_size z)) (Nat.lt_irrefl _)
  refine call_own PySem.F.excBase_ValueError hT hC (looks_findIn X T.iC) (fun self => bind_fn X self T.tI) (by rw [sizeLine_eq]; exact (by decide : 1 ≤ 16777216)) ?_
  refine own_init (s := ⟨(hp.push (kdv_tup [v])).push (excO C hp.objs.size), g, dr, tk, os⟩) T (X.keeps k) (hlim.keeps k) (G.keeps k) (Bn.keeps k) Bb hsup hget hnx ?_ fun h' tk' dx t1 ⟨k', hx, dn, dne, hns⟩ => ?_
  · show A.depth + 1 < recursionLimit
    exact hroom
  · have old : ∀ b o, hp.get? b = some o → h'.get? b = some o := fun b o e => k' b o (Nat.ne_of_lt (Nat.lt_succ_of_lt (Heap.lt_size e))) (k b o e)
    have z : hp.objs.size + 1 + 1 ≤ dx := by
      first
        | (simpa only [Heap.size_push] using dn)
        | exact dn
        | (have q := dn; rw [Heap.size_push, Heap.size_push] at q; exact q)
    exact ⟨rfl, hq h' tk' (hp.objs.size + 1) dx ⟨old, Nat.le_succ _, ⟨_, _, hx, rfl, rfl, rfl, rfl⟩, Nat.le_trans (Nat.le_trans (Nat.le_succ _) (Nat.le_succ _)) z, dne, hns⟩⟩
end
end Mi
namespace Mi
open PySem PySem.Spec PyProof.Rows L2
theorem relO_one {f : Str} {v : V} {v' : Value} (r : RelV v v') (y : Str) : RelO (List.lookup y [(f, v)]) (if y = f then some v' else none) := by
  have := relO_put (fs := []) (mA := fun _ => none) (f := f) r (fun _ => True.intro) y
  exact this
section
variable {X : Cx} {C fI : Addr} {f : Str}
/-- C(e) -/
def tMkX (C : Addr) (f : Str) (ta : TA) : L2.St → Hp → XK → Prop := fun σ H Q => ta σ H fun vs H1 => ∃ v, vs = [v] ∧ ∀ d, H1 d = none → Q (.ref C) (some d) (upd H1 d (.xd [(f, v)]))
theorem pmk_x {nm : Str} {a : Expr} {ta : TA} {p pos : Pos} {k : Nat} (T : OwnX X.prog X.K C fI f) (gC : X.mg nm = some (.ref C)) (hsup : X.mg "super" = none) (hr : Room k X.A) (ha : PA X [a] ta) (hg : Gl X nm) (hd : (nm == ("__debug__" : Str)) = false)
    (he : starEach (a :: []) X.env = (false, eval a X.env) :: starEach [] X.env) (hpl : (backTo pos (starEach [] X.env)).any (·.1) = false) :
    PMk X (.Call (.Name nm p) [a] [] pos) (tMkX C f ta) := by
  intro pins s σ H Q I h
  refine wpAny_Call_Name_kw (ld_glob I hg gC ?_ hd)
  refine PySem.W.callWith_K (h₀ := X.base) I.ok.mod.kin T.kC (thn (ha.run pos pins s σ H _ I h) fun us s1 hh => ?_) he hpl
  obtain ⟨vs, H1, I1, r1, v, ev, q1⟩ := hh
  subst ev
  refine ⟨I1.kIn, ?_⟩
  cases r1 with
  | cons rv rn =>
    rename_i v' us'
    cases rn
    show wpAny _ _ (call (.ref C) [v']) _ _ _
    have hlim := I1.nolimit
    obtain ⟨mb, hb1, hb2⟩ := I1.mod.blt
    have hgl := I1.mod.glob.keeps I1.bk
    have hbl := hb1.keeps I1.bk
    obtain ⟨hp, g, dr, tk, os⟩ := s1
    refine wpAny_call (own_made T I1.kIn hlim hgl hbl hb2 hsup (by have := hr.dp; omega) fun h' tk' e d M => ?_)
    show MkP X pins σ Q (.ref e) ⟨h', g, dr, tk', os⟩
    obtain ⟨oe, fv, hoe, hc, hd, hdat, h1⟩ := M.obj
    have hns := M.ns
    obtain ⟨G', g1, g2⟩ := restrict h' fun b => decide (b ≠ e)
    have gk : ∀ b, b ≠ e → G'.get? b = h'.get? b := fun b hb => g1 b (decide_eq_true hb)
    have ge : G'.get? e = none := g2 e (by simp)
    have old : ∀ b o, hp.get? b = some o → G'.get? b = some o := fun b o q => (gk b (Nat.ne_of_lt (Nat.lt_of_lt_of_le (Heap.lt_size q) M.new))).trans (M.keep b o q)
    have ob : ObjOk X.prog X.w (upd H1 d (.xd [(f, v)])) G' d (.xd [(f, v)]) :=
      ⟨_, hns.at (fun o q => (gk d M.dne).trans q), fun y => relO_one rv y⟩
    have J : Inv X pins σ (upd H1 d (.xd [(f, v)])) ⟨G', g, dr, tk', os⟩ := I1.laid (t' := tk') old M.dbig ob
    refine ⟨e, oe, fv, ⟨G', g, dr, tk', os⟩, _, .ref C, some d, rfl, J, fun b o q => ?_, ge, hoe, ⟨hc, hd⟩, hdat, h1, ?_, rfl, I1.bare, raises_own T.sE T.ty, q1 d (I1.hok.fresh M.dbig)⟩
    · by_cases hb : b = e
      · have q' : G'.get? b = some o := q
        rw [hb, ge] at q'; cases q'
      · exact (gk b hb).symm.trans q
    · rw [upd_ne (Ne.symm M.dne)]
      exact I1.hok.fresh M.new
end
end Mi

set_option Elab.async false
set_option linter.all false
set_option maxRecDepth 100000
set_option maxHeartbeats 4000000
/-! E3: try: body except C as n: v = n. What was caught stands behind it -/
namespace Mi
open PySem PySem.Spec PyProof.Rows L2
section
variable {X : Cx} {pins : List (Addr × Obj)} {σ : L2.St} {H : Hp} {sI s s' : Shared} {B : Heap}
theorem exv_ok {P : Program} {w : World} {H : Hp} {h : Heap} {a C d : Addr} {oe : Obj} {vs : Array Value} (he : h.get? a = some oe) (hz : Zc (.ref C) (some d) oe) (hd : oe.data = .fields vs) : ObjOk P w H h a (exv a C d) :=
  ⟨⟨oe, he, hz.1, hz.2, vs, hd⟩, ⟨_, he⟩, fun h1 h2 z k => by
    obtain ⟨o, q, r⟩ := z
    exact ⟨o, k _ q, r⟩⟩
theorem landedX {a C dd : Addr} {oe : Obj} {vs : Array Value} (I : L2.Inv X pins σ H sI) (nb : ∀ b o, sI.heap.get? b = some o → b ∉ frs X.stack → B.get? b = some o) (st : B.StaysIn s'.heap) (up : sI.heap.UpToSlots s'.heap) (os : s'.os = sI.os) (ag : AllBare s'.gens)
    (nBa : B.get? a = none) (nfr : a ∉ frs X.stack) (na : H a = none) (he : s'.heap.get? a = some oe) (hz : Zc (.ref C) (some dd) oe) (hd : oe.data = .fields vs) : L2.Inv X pins σ (upd H a (exv a C dd)) s' := by
  have nf : ∀ b ∈ frs X.stack, ∀ o, sI.heap.get? b = some o → ∃ sl, s'.heap.get? b = some { o with slots := sl } := fun b hb o e => by
    obtain ⟨_, o', e', hd⟩ := I.stack.mem hb
    rw [e] at e'; cases e'
    exact up b o e hd
  have ne : ∀ b o, sI.heap.get? b = some o → b ≠ a := fun b o e z => by
    rw [z] at e
    have := nb a o e nfr
    rw [nBa] at this
    cases this
  have neH : ∀ {b : Addr} {u : HO}, H b = some u → b ≠ a := fun {b u} e z => by
    rw [z, na] at e
    cases e
  have hk : HOk X.prog X.w H s'.heap := (I.inGround nb).kept st
  have J := I.call (ch := []) (h' := s'.heap) (g' := s'.gens) (t' := s'.toks) (d' := s'.drawn) (H' := upd H a (exv a C dd))
    ⟨fun b o e _ hb _ => st b o (nb b o e hb), fun b o e _ hb _ => nf b hb o e, fun b o e n _ => by rw [upd_ne (ne b o e)]; exact n, fun b o e _ => by
      by_cases hb : b ∈ frs X.stack
      · obtain ⟨sl, q⟩ := nf b hb o e
        exact ⟨_, q⟩
      · exact ⟨o, st b o (nb b o e hb)⟩, fun _ _ e => by rw [upd_ne (neH e)]; exact e, fun _ _ _ e => by rw [upd_ne (neH e)]; exact e, fun b ps e => ⟨#[], by rw [upd_ne (neH e), e]; simp⟩⟩
    (fun b u e => by
      by_cases hb : b = a
      · subst hb
        rw [upd_same] at e
        cases e
        exact exv_ok he hz hd
      · rw [upd_ne hb] at e
        exact (hk b u e).stay (fun c v hc z => z) (fun c hc => by rw [upd_ne (neH hc)]; exact hc) (fun c xs hc => by rw [upd_ne (neH hc)]; exact hc)) ag (fun _ z => nomatch z)
  obtain ⟨a1, a2, a3, a4, a5⟩ := s'
  have e5 : a5 = sI.os := os
  subst e5
  exact J
theorem suiteX (I : L2.Inv X pins σ H s) {a : Addr} : L2.Inv (X.suite a (X.pn ++ pins)) [] σ H s :=
  ⟨I.ok.suite _ _, I.os, I.bare, I.base, I.loc, I.cell, I.free, I.freeC, fun p hp => I.pin p (by rw [List.append_nil] at hp; exact hp), I.hok, I.len⟩
theorem unsuiteX {a : Addr} {pn' : List (Addr × Obj)} (I : L2.Inv (X.suite a (X.pn ++ pins)) pn' σ H s) (ok : X.Ok) : L2.Inv X pins σ H s :=
  ⟨ok, I.os, I.bare, I.base, I.loc, I.cell, I.free, I.freeC, fun p hp => I.pin p (List.mem_append_left _ hp), I.hok, I.len⟩
/-- the classes that a clause names -/
structure TestR (X : Cx) (test : Expr) (cs : List Value) : Prop where
  run : ∀ (a : Addr) (pn pins : List (Addr × Obj)) (σ : L2.St) (H : Hp) (s : Shared) (Q : Value → Shared → Prop) (E : Value → Shared → Prop), L2.Inv (X.suite a pn) pins σ H s →
    (∀ c h', (∀ b o, s.heap.get? b = some o → h'.get? b = some o) → (cs = [c] ∨ ∃ c1 c2 tp, cs = [c1, c2] ∧ c = .ref tp ∧ h'.get? tp = some { cls := .type "tuple", data := .seq [c1, c2].toArray }) → Q c { s with heap := h' }) →
    wpAny (model X.prog X.w) (X.A.mark (some (.ref a))) (eval test X.env) Q E s
theorem test_one {x : Str} {c : Value} {p : Pos} (hg : Gl X x) (hd : (x == ("__debug__" : Str)) = false) (hm : X.mg x = some c) : TestR X (.Name x p) [c] :=
  ⟨fun a pn pins σ H s Q E I h => ld_glob (X := X.suite a pn) I hg hm (h c s.heap (fun _ _ e => e) (.inl rfl)) hd⟩
theorem test_two {x y : Str} {c d : Value} {p p' p2 : Pos} {j : Nat} (hg : Gl X x) (hd : (x == ("__debug__" : Str)) = false) (hm : X.mg x = some c) (hg2 : Gl X y) (hd2 : (y == ("__debug__" : Str)) = false) (hm2 : X.mg y = some d) : TestR X (.Tuple [.Name x p, .Name y p'] j p2) [c, d] :=
  ⟨fun a pn pins σ H s Q E I h => by
    refine wpAny_Tuple_spliced (spliced_more (ld_glob (X := X.suite a pn) I hg hm (spliced_more (ld_glob (X := X.suite a pn) I hg2 hm2 (spliced_none ⟨by rw [sizeLine_eq]; exact (by decide : 2 ≤ 16777216), ?_⟩) hd2)) hd))
    exact h _ _ (fun b o e => Heap.get?_push_of_some _ e) (.inr ⟨c, d, _, rfl, rfl, Heap.get?_push_size _ rfl⟩)⟩
theorem fly_keep {B h h' : Heap} {l : List Env} {a : Addr} {Z : Obj → Prop} (f : HandSPX.FlyingZ B l a Z h) (k : ∀ b o, h.get? b = some o → h'.get? b = some o) : HandSPX.FlyingZ B l a Z h' := by
  obtain ⟨f1, f2, f3, oe, vs, T, oT, ts, g1, g2, g3, g4, g5, g6, g7, g8⟩ := f
  exact ⟨fun b o e => k b o (f1 b o e), f2, Heap.FunFrames.of_keeps (fun b o e _ => ⟨o, k b o e, rfl⟩) f3, oe, vs, T, oT, ts, k _ _ g1, g2, g3, g4, g5, g6, k _ _ g7, g8⟩
/-- what the clause wishes: the error stands at v, the clause's name is gone -/
def wPut (K : PySem.W.Frag) (cs : List Value) (i j : Nat) (D : Ends) : WX := fun cls d σ H =>
  PySem.W.exmAny K cls cs = some true ∧ ∃ C dd, cls = .ref C ∧ d = some dd ∧ ∀ a, H a = none → D.nx (((σ.set i (some (.ref a))).set j (some (.ref a))).set i none) (upd H a (exv a C dd))
theorem exm_cs {M : Model} {cs : List Value} {c cls : Value} {e : Addr} {h : Heap} {K : PySem.W.Frag} (Xk : K.In h) (LT : PySem.W.Looks M h (typeOf (.ref e)) cls) (hx : PySem.W.exmAny K cls cs = some true)
    (hc : cs = [c] ∨ ∃ c1 c2 tp, cs = [c1, c2] ∧ c = .ref tp ∧ h.get? tp = some { cls := .type "tuple", data := .seq [c1, c2].toArray }) : PySem.W.Looks M h (excMatches (.ref e) c) true := by
  rcases hc with rfl | ⟨c1, c2, tp, rfl, rfl, hp⟩
  · obtain ⟨b1, d1, h1, h2, h3⟩ := PySem.W.exmAny_cons hx
    have e2 : some false = some d1 := h2
    cases e2
    rw [Bool.or_false] at h3
    subst h3
    exact PySem.W.exm_one Xk LT h1
  · exact PySem.W.exm_tup2 Xk LT hp hx
end
section
variable {X : Cx} {n v : Str} {test : Expr} {cs : List Value} {i j : Nat} {body : List Stmt} {pn' pv pa pos pos' : Pos}
theorem ps_try_put (hs : X.stack = X.env :: X.outer) (hf : X.env.frame = some X.env.locals) (hN : X.N.Nodup) (hi : X.N[i]? = some n) (hln : X.env.kindOf n = some .local) (hj : X.N[j]? = some v) (hlv : X.env.kindOf v = some .local) (hdn : (n == ("__debug__" : Str)) = false) (hcn : (n == ("__classdict__" : Str)) = false)
    (ht : TestR X test cs) :
    PS X (.Try body [.ExceptHandler (some test) (some n) [.Assign [.Name v pv] (.Name n pn') pa] pos'] [] [] pos) (fun D σ H => ∀ (pn : List (Addr × Obj)) (xe : Value → Shared → Prop), Takes (X.tr pn xe) (wPut X.K cs i j D) → PassesOwn (model X.prog X.w) X.A X.env xe → ∃ t, PSs (X.tr pn xe) body t ∧ t D σ H) := by
  refine ⟨fun pins s σ H D I h => ?_⟩
  have ok := I.ok
  have hfr : X.A.frames = some (X.env :: X.outer) := by rw [ok.frames, hs]
  have hloc : Loc X.env.scope n := .inl hln
  refine wpAny_Try_except ?_
  obtain ⟨t, hb, h2⟩ := h (X.pn ++ pins) (fun e s₁ => wpAny (model X.prog X.w) X.A (noteFrame e X.env) (fun _ s₂ => wpAny (model X.prog X.w) X.A (setFlight e none) (fun _ s₃ =>
    wpAny (model X.prog X.w) X.A (handleBy e X.env [.ExceptHandler (some test) (some n) [.Assign [.Name v pv] (.Name n pn') pa] pos']) (SP X pins D) X.xe s₃) X.xe s₂) X.xe s₁) (fun u s' xx => by
    obtain ⟨a, B, sI, pins', σ', H', cls, d, rfl, J', nb, up, sky, na, os, ag, hx, C, dd, rfl, rfl, hq⟩ := xx
    have J : L2.Inv X pins σ' H' sI := J'.ofTry ok
    have sky' : Sky B (X.env :: X.outer) a (Zc (.ref C) (some dd)) X.env.locals s'.heap := by rw [← hs]; exact sky
    show wpAny (model X.prog X.w) X.A (noteFrame (.ref a) X.env) _ _ _
    refine Sky.land Zc.steady hfr hf sky' fun h3 fl3 up3 => ?_
    have J3 : L2.Inv X pins σ' H' { s' with heap := h3 } := J.landed nb fl3.1 (up.trans up3) os ag
    obtain ⟨oe3, vs3, he3, hz3, hd3⟩ := fl3.there
    have notFr : ∀ {h : Heap} {o : Obj} {vs : Array Value}, h.FunFrames B (X.env :: X.outer) → h.get? a = some o → o.data = .fields vs → a ∉ frs (X.env :: X.outer) := fun {h o vs} ff e dd hm => by
      obtain ⟨_, o', e', hnf⟩ := ff.mem hm
      rw [e] at e'; cases e'
      exact hnf _ dd
    have nfr := notFr fl3.2.2.1 he3 hd3
    have S3 : L2.Inv (X.suite a (X.pn ++ pins)) [] σ' H' { s' with heap := h3 } := suiteX J3
    refine wpAny_handleBy_cons (codeAny_handlers_test ?_) (by intro q; cases q)
    refine ht.run a (X.pn ++ pins) [] σ' H' _ _ _ S3 fun c h3' k3 hc => ?_
    have he3' := k3 _ _ he3
    have fl3' := fly_keep fl3 k3
    have LT : PySem.W.Looks (model X.prog X.w) h3' (typeOf (.ref a)) (.ref C) := fun A Q E s k q => wpAny_typeOf_ref (k _ _ he3') (by rw [hz3.1]; exact q)
    have LM := exm_cs (M := model X.prog X.w) (J3.kIn.keeps k3) LT hx hc
    refine LM.here ?_
    refine codeAny_handlers_suite_as ?_
    refine HandSPX.lands_againZ fl3' fun h4 fl4 up4 => ?_
    obtain ⟨oe4, vs4, he4, hz4, hd4⟩ := fl4.there
    have J4 : L2.Inv X pins σ' (upd H' a (exv a C dd)) { s' with heap := h4 } := landedX J nb fl4.1 (((up.trans up3).trans (Heap.UpToSlots.of_keeps k3)).trans up4) os ag fl4.2.1 (by rw [hs]; exact nfr) na he4 hz4 hd4
    refine store_ok (X := X.suite a (X.pn ++ pins)) (v := .ref a) (suiteX J4) hN hi hloc rfl (fun s5 S5 => ?_) (.inr hln)
    have li : i < σ'.length := by
      rw [J.len]
      exact (List.getElem?_eq_some_iff.mp hi).1
    have P : PSs (X.suite a (X.pn ++ pins)) [.Assign [.Name v pv] (.Name n pn') pa] _ := pss_cons (ps_set (i := j) hN hj (.inl hlv) (pe_var (i := i) hi (.inl hln) hdn hcn) (by rfl) (.inr hlv)) pss_nil
    refine wpAny_mono (P.run [] s5 _ _ { nx := fun σ6 H6 => D.nx (σ6.set i none) H6, rt := fun _ _ => False, bk := fun _ _ => False, ct := fun _ _ => False } S5 ⟨_, List.getElem?_set_self li, ?_⟩) (fun f s6 hsp => ?_) (fun _ _ z => False.elim z)
    · exact hq a na
    have end_ : ∀ {σ6 : L2.St} {H6 : Hp} {Q : Shared → Prop}, L2.Inv (X.suite a (X.pn ++ pins)) [] σ6 H6 s6 → (∀ s7, L2.Inv X pins (σ6.set i none) H6 s7 → Q s7) →
        wpAny (model X.prog X.w) X.A (do bindName X.env n .none; unbindBehindTheSuite X.env n pos') (fun _ s7 => Q s7) X.xe s6 := fun {σ6 H6 Q} S6 hq => gone_ok (unsuiteX S6 ok) hN hi hln hq
    cases f with
    | next =>
      obtain ⟨σ6, H6, S6, q6⟩ := hsp
      exact end_ S6 fun s7 J7 => ⟨_, _, J7, q6⟩
    | brk =>
      obtain ⟨σ6, H6, S6, q6⟩ := hsp
      exact q6.elim
    | cont =>
      obtain ⟨σ6, H6, S6, q6⟩ := hsp
      exact q6.elim
    | ret u =>
      obtain ⟨v6, σ6, H6, S6, r6, q6⟩ := hsp
      exact q6.elim
    ) PassesOwn.looking
  refine wpAny_mono (hb.run [] s σ H D (I.toTry _) h2) (fun f s1 hsp => ?_) (fun e s1 he => he)
  · cases f with
    | next =>
      obtain ⟨σ', H', J', q⟩ := hsp
      exact wpAny_execs_nil ⟨σ', H', J'.ofTry ok, q⟩
    | brk =>
      obtain ⟨σ', H', J', q⟩ := hsp
      exact ⟨σ', H', J'.ofTry ok, q⟩
    | cont =>
      obtain ⟨σ', H', J', q⟩ := hsp
      exact ⟨σ', H', J'.ofTry ok, q⟩
    | ret u =>
      obtain ⟨v, σ', H', J', r, q⟩ := hsp
      exact ⟨v, σ', H', J'.ofTry ok, r, q⟩
end
section
variable {X : Cx} {C fI a dd : Addr} {f : Str}
theorem exv_at {P : Program} {w : World} {H : Hp} {h : Heap} (hok : HOk P w H h) (he : H a = some (exv a C dd)) : ∃ oe, h.get? a = some oe ∧ oe.cls = .ref C ∧ oe.dict = some dd ∧ ∃ vs, oe.data = .fields vs := by
  have x : ObjOk P w H h a (exv a C dd) := hok a _ he
  exact x.1
/-- e.f, e an error that was caught -/
def tXa (f : Str) (C : Addr) (te : TE) : TE := fun σ H Q => te σ H fun x H1 => ∃ a dd v, x = .ref a ∧ H1 a = some (exv a C dd) ∧ H1 dd = some (.xd [(f, v)]) ∧ Q v H1
theorem inst_of {P : Program} {w : World} {H : Hp} {h : Heap} {v : V} (hok : HOk P w H h) (ea : H a = some (exv a C dd)) (ed : H dd = some (.xd [(f, v)])) : ∃ oe od u, PySem.W.InstAt h a oe C (some od) ∧ PySem.W.lookIn f od = some (some u) ∧ RelV v u := by
  obtain ⟨oe, h1, h2, h3, vs, h4⟩ := exv_at hok ea
  have hx : ObjOk P w H h dd (.xd [(f, v)]) := hok dd _ ed
  obtain ⟨mA, hns, hr⟩ := hx
  obtain ⟨od, ho, hl⟩ := lookIn_ns hns
  have l : List.lookup f [(f, v)] = some v := by simp [List.lookup]
  obtain ⟨u, hu, ru⟩ := RelO.some_of (v := v) (o := mA f) (by rw [← l]; exact hr f)
  exact ⟨oe, od, u, ⟨h1, h2, by unfold PySem.W.notCls; rw [h4] <;> rfl, by rw [h3]; exact ho⟩, by rw [hl, hu], ru⟩
theorem pe_exa {e : Expr} {te : TE} {pos : Pos} (T : OwnX X.prog X.K C fI f) (he : PE X e te) (hb : attributeBase e f X.env (eval e X.env) = eval e X.env) : PE X (.Attribute e f pos) (tXa f C te) := by
  refine ⟨fun pins s σ H Q I h => ?_⟩
  refine attr_of hb (thn (he.run pins s σ H _ I h) fun u s1 hh => ?_)
  obtain ⟨x, H1, I1, rx, a, dd, v, ex, ea, ed, q⟩ := hh
  subst ex
  obtain rfl : u = Value.ref a := rx
  obtain ⟨oe, od, w, J, hl, rw'⟩ := inst_of I1.hok ea ed
  exact HandSPX.exc_get I1.kIn J T.ga T.gg T.sE (PySem.W.findObj_own T.hdI T.no rfl hl) (handed_of rw') ⟨v, H1, I1.tok _, rw', q⟩
/-- isinstance(e, c), e an error that was caught -/
def rIsX (K : PySem.W.Frag) (C : Addr) (cv : Value) (b : Bool) : List V → Hp → VK → Prop := fun xs H Q => ∃ (a dd : Addr) (c : V) (f : Str) (v : V), xs = [.ref a, c] ∧ (∀ u, RelV c u → u = cv) ∧ H a = some (exv a C dd) ∧ H dd = some (.xd [(f, v)]) ∧ Q (.bl b) H
theorem call_isX {cv : Value} {b : Bool} (T : OwnX X.prog X.K C fI f) (hk : PySem.W.kitOne X.K (.ref C) cv = some b) : CallR X (.builtin "isinstance") (rIsX X.K C cv b) := by
  intro pins s σ H xs us Q I r h
  obtain ⟨a, dd, c, f', v, rfl, hcv, ea, ed, q⟩ := h
  cases r with
  | cons rx rr =>
    cases rr with
    | cons rt rr =>
      cases rr
      cases rx
      have ec := hcv _ rt
      subst ec
      obtain ⟨oe, od, w, J, -, -⟩ := inst_of I.hok ea ed
      obtain ⟨cd, hc, -⟩ := T.cls
      exact PySem.W.kia_one (PySem.W.kitx_exc (by rw [hc]; rfl) T.ga T.gg T.sE T.cc T.cn T.ct T.mo) I.kIn J hk (fun z => nomatch z) fun tk => ⟨.bl b, H, I.kept (t' := tk) fun _ _ z => z, rfl, q⟩
end
end Mi

set_option Elab.async false
set_option linter.all false
set_option maxRecDepth 100000
set_option maxHeartbeats 4000000
/-! N6: defs and their calls; contexts; what is wanted of a result -/
namespace Mi
open PySem PySem.Spec PyProof.Rows L2

/-- a def that keeps a promise wherever no repr is under way -/
structure FnG (P : Program) (w : World) (K : PySem.W.Frag) (mg : Str → Option Value) (base : Heap) (CX : CXT) (k : Nat) (f : Addr) (fd : FuncData) (ps : List Str) (sp : Sp) : Prop where
  n : ∀ vs H Q E, sp vs H Q E → vs.length = ps.length
  go : ∀ A outer s H args us vs Q E, A.guards = some [] → Room k A → Env0 P w K mg base A outer s H → BindsTo s fd args (ps.zip us) → Vals vs us → sp vs H Q E →
    codeAny (model P w) A (.call (.ref f) args) (CR CX outer P w H s Q E) s
section
variable {P : Program} {w : World} {K : PySem.W.Frag} {mg : Str → Option Value} {base : Heap} {CX : CXT} {k : Nat}
/-- by its body -/
theorem go_of {x qual : Str} {params : Arguments} {body : List Stmt} {scope : Scope} {dvs : List V} {kws : List (Str × V)} {f : Addr} {fd : FuncData} {N ps : List Str} {A : Around} {outer : List Env} {s : Shared} {H : Hp} {args : Args} {us : List Value} {vs : List V} {Q : VK} {E : XK} (F : FunD K x qual params body scope dvs kws f fd) (S : FnScope N ps scope)
    (hr : Room (k + 1) A) (e0 : Env0 P w K mg base A outer s H) (bd : BindsTo s fd args (ps.zip us)) (rl : Vals vs us) (lv : vs.length = ps.length)
    (hb : ∀ cdv, cdv = fd.code → Room k (A.deeper (envOfC qual scope s.heap.objs.size f cdv)) →
      ∃ t, PSs (cxOf CX P w K mg base N qual scope f cdv A outer s H E) body t ∧ t { nx := fun _ H' => Q .non H', rt := Q } (L2.start N vs) H) : codeAny (model P w) A (.call (.ref f) args) (CR CX outer P w H s Q E) s := by
  obtain ⟨oc, od, dV, kV, doc, pm, an, cdv, ct, osl, rfl, lk, hcd, -, -⟩ := F.ex
  have kx : K.In s.heap := e0.mod.kin.keeps fun b o e => (e0.bs b o e).1
  have nolim : s.heap.NoLimit := e0.mod.nolimit.keeps fun b o e => (e0.bs b o e).1
  refine codeAny_call_function hr.depth (kx _ _ lk) rfl S.co S.gen rfl (PySem.W.codeRec_of kx hcd) (bd _ _ _ _ ?_)
  refine wpAny_newFunctionEnv_cells S.kind ?_ ?_
  · rintro ⟨a, b⟩ hy
    have hm := (List.of_mem_zip hy).1
    rcases S.par a hm with q | q
    · left
      exact q
    · right
      refine ⟨q, ?_⟩
      apply PySem.W.cellsFrom_some
      left
      exact q
  intro env he s1 x1
  subst he
  constructor
  · exact nolim.keeps x1.toInCall.keep
  obtain ⟨t, ht, hq⟩ := hb cdv rfl (hr.deeper _)
  have I := inv_start (CX := CX) (N := N) (cd := cdv) (f := f) (mg := mg) (E := E) S hr.hd e0 lv rl x1
  refine codeAny_func (wpAny_mono (ht.run [] s1 _ H _ I hq) ?_ fun e s' hs => hs)
  intro fl s' hs
  cases fl with
  | brk => exact (hs.choose_spec.choose_spec.2).elim
  | cont => exact (hs.choose_spec.choose_spec.2).elim
  | next =>
    obtain ⟨a1, a2, J, q⟩ := hs
    exact ⟨.non, a2, J.os, J.bare, J.base, J.hok, rfl, q⟩
  | ret u =>
    obtain ⟨v, a1, a2, J, rv, q⟩ := hs
    exact ⟨v, a2, J.os, J.bare, J.base, J.hok, rv, q⟩
theorem fng_of {x qual : Str} {params : Arguments} {body : List Stmt} {scope : Scope} {dvs : List V} {kws : List (Str × V)} {f : Addr} {fd : FuncData} {N ps : List Str} {sp : Sp} (F : FunD K x qual params body scope dvs kws f fd) (S : FnScope N ps scope)
    (n : ∀ vs H Q E, sp vs H Q E → vs.length = ps.length)
    (hb : ∀ cdv A outer s H vs Q E, A.guards = some [] → cdv = fd.code → Room k (A.deeper (envOfC qual scope s.heap.objs.size f cdv)) → sp vs H Q E →
      ∃ t, PSs (cxOf CX P w K mg base N qual scope f cdv A outer s H E) body t ∧ t { nx := fun _ H' => Q .non H', rt := Q } (L2.start N vs) H) : FnG P w K mg base CX (k + 1) f fd ps sp where
  n := n
  go := fun A outer s H args us vs Q E g hr e0 bd rl hsp => go_of F S hr e0 bd rl (n _ _ _ _ hsp) fun cdv hc hr2 => hb cdv A outer s H vs Q E g hc hr2 hsp

end
/-- its call from a body -/
theorem run_g {X : Cx} {CX : CXT} {k n : Nat} {f : Addr} {fd : FuncData} {ps ks : List Str} {sp : Sp} {E : XK} {g : List Value → List Value → List Value} {gV : List V → List V → List V} {pins : List (Addr × Obj)} {σ : L2.St} {H : Hp} {s : Shared} {Q : VK} {us ws : List Value} {vs zs : List V}
    (F : FnG X.prog X.w X.K X.mg X.base CX k f fd ps sp) (hg : X.A.guards = some []) (hr : Room k X.A) (hb : KBn X.K fd ps n ks g gV) (hx : PassesAt CX X σ E) (I : Inv X pins σ H s) (r : Vals vs us) (rz : Vals zs ws) (l1 : us.length = n) (l2 : ws.length = ks.length)
    (h : sp (gV vs zs) H Q E) : wpAny (model X.prog X.w) X.A (call (.ref f) us (ks.zip ws)) (EP X pins σ Q) X.xe s := by
  have bd := hb.to s us ws I.kIn l1 l2
  have go := F.go X.A X.stack s H ⟨us, ks.zip ws⟩ (g us ws) (gV vs zs) Q E hg hr I.env0 bd (hb.rel r rz) h
  refine wpAny_call (codeAny_mono go ?_)
  rintro (e | fl) s' hq
  · exact hx pins H s e s' I hq
  cases fl with
  | ret u => exact I.after hq
  | next => exact hq.elim
  | brk => exact hq.elim
  | cont => exact hq.elim
/-- the reading of a call -/
def tGo (sp : Sp) (gV : List V → List V → List V) (n m : Nat) (W : WX) (t tk : TA) : TE := fun σ H Q => t σ H fun vs H1 => tk σ H1 fun zs H2 => vs.length = n ∧ zs.length = m ∧ sp (gV vs zs) H2 Q (WE W σ)
section
variable {X : Cx} {k n : Nat} {x : Str} {ks : List Str} {g : List Value → List Value → List Value} {gV : List V → List V → List V} {sp : Sp} {e : Expr} {es : List Expr} {kws : List Keyword} {p pos : Pos} {t tk : TA} {W : WX} {f : Addr} {fd : FuncData} {ps : List Str}
theorem pe_go (F : FnG X.prog X.w X.K X.mg X.base (CX X.prog X.w) k f fd ps sp) (hm : X.mg x = some (.ref f)) (hk : PySem.W.keepIn X.K (.ref f) = true) (hb : KBn X.K fd ps n [] g gV) (tk : Takes X W) (hgd : X.A.guards = some []) (hr : Room k X.A) (hg : Gl X x) (ha : PA X (e :: es) t) (hdb : (x == ("__debug__" : Str)) = false) (he : starEach (e :: es) X.env = (false, eval e X.env) :: starEach es X.env)
    (hpl : (backTo pos (starEach es X.env)).any (·.1) = false) : PE X (.Call (.Name x p) (e :: es) [] pos) (tGo sp gV n 0 W t tNil) := by
  refine ⟨fun pins s σ H Q I h => wpAny_Call_Name_kw (ld_glob I hg hm ?_ hdb)⟩
  refine PySem.W.callWith_K (h₀ := X.base) I.ok.mod.kin hk (thn (ha.run pos pins s σ H _ I h) ?_) he hpl
  rintro us s1 ⟨vs, H1, I1, r, l1, -, q⟩
  exact ⟨I1.kIn, run_g (ws := []) (zs := []) F hgd hr hb (passAt tk σ) I1 r .nil (r.length.symm.trans l1) rfl q⟩
theorem pe_goKW (F : FnG X.prog X.w X.K X.mg X.base (CX X.prog X.w) k f fd ps sp) (hm : X.mg x = some (.ref f)) (hk : PySem.W.keepIn X.K (.ref f) = true) (hb : KBn X.K fd ps n ks g gV) (tkx : Takes X W) (hgd : X.A.guards = some []) (hr : Room k X.A) (hg : Gl X x) (ha : PA X (e :: es) t) (hkw : PK X kws tk) (hdb : (x == ("__debug__" : Str)) = false) (he : starEach (e :: es) X.env = (false, eval e X.env) :: starEach es X.env)
    (hall : (backToKw pos (keywordEach kws X.env)).all (·.1.isSome) = true) (hks : (backToKw pos (keywordEach kws X.env)).filterMap (·.1) = ks) (hpl : ((backTo pos (starEach (e :: es) X.env)).any (·.1) || (backToKw pos (keywordEach kws X.env)).any (·.1.isNone)) = false) :
    PE X (.Call (.Name x p) (e :: es) kws pos) (tGo sp gV n ks.length W t tk) := by
  refine ⟨fun pins s σ H Q I h => wpAny_Call_Name_kw (ld_glob I hg hm ?_ hdb)⟩
  refine PySem.W.callWith_KW (h₀ := X.base) I.ok.mod.kin hk hall (thn (ha.run pos pins s σ H _ I h) ?_) hpl he
  rintro us s1 ⟨vs, H1, I1, r, q⟩
  refine thn (hkw.run pos pins s1 σ H1 _ I1 q) ?_
  rintro ws s2 ⟨zs, H2, I2, rz, l1, l2, q2⟩
  rw [hks]
  exact ⟨I2.kIn, run_g F hgd hr hb (passAt tkx σ) I2 r rz (r.length.symm.trans l1) (rz.length.symm.trans l2) q2⟩
theorem pe_goKW0 (F : FnG X.prog X.w X.K X.mg X.base (CX X.prog X.w) k f fd ps sp) (hm : X.mg x = some (.ref f)) (hk : PySem.W.keepIn X.K (.ref f) = true) (hb : KBn X.K fd ps 0 ks g gV) (tkx : Takes X W) (hgd : X.A.guards = some []) (hr : Room k X.A) (hg : Gl X x) (hkw : PK X kws tk) (hdb : (x == ("__debug__" : Str)) = false)
    (hall : (backToKw pos (keywordEach kws X.env)).all (·.1.isSome) = true) (hks : (backToKw pos (keywordEach kws X.env)).filterMap (·.1) = ks) (hpl : ((backTo pos (starEach [] X.env)).any (·.1) || (backToKw pos (keywordEach kws X.env)).any (·.1.isNone)) = false) :
    PE X (.Call (.Name x p) [] kws pos) (tGo sp gV 0 ks.length W tNil tk) := by
  refine ⟨fun pins s σ H Q I h => wpAny_Call_Name_kw (ld_glob I hg hm ?_ hdb)⟩
  refine PySem.W.callWith_KW0 (h₀ := X.base) I.ok.mod.kin hk hall ?_ hpl
  refine thn (hkw.run pos pins s σ H _ I h) ?_
  rintro ws s2 ⟨zs, H2, I2, rz, l1, l2, q2⟩
  rw [hks]
  exact ⟨I2.kIn, run_g (us := []) (vs := []) F hgd hr hb (passAt tkx σ) I2 .nil rz rfl (rz.length.symm.trans l2) q2⟩
theorem pe_go0 (F : FnG X.prog X.w X.K X.mg X.base (CX X.prog X.w) k f fd ps sp) (hm : X.mg x = some (.ref f)) (hk : PySem.W.keepIn X.K (.ref f) = true) (hb : KBn X.K fd ps 0 [] g gV) (tkx : Takes X W) (hgd : X.A.guards = some []) (hr : Room k X.A) (hg : Gl X x) (hdb : (x == ("__debug__" : Str)) = false) : PE X (.Call (.Name x p) [] [] pos) (tGo sp gV 0 0 W tNil tNil) := by
  refine ⟨fun pins s σ H Q I h => wpAny_Call_Name_kw (ld_glob I hg hm ?_ hdb)⟩
  obtain ⟨-, -, q⟩ := h
  exact PySem.W.callWith_K0 I.kIn hk (run_g (us := []) (vs := []) (ws := []) (zs := []) F hgd hr hb (passAt tkx σ) I .nil .nil rfl rfl q)
end

/-! ### the readings themselves -/
section
variable {X : Cx} {e : Expr} {es : List Expr} {st : List Stmt} {tg it : Expr} {kws : List Keyword}
def semE (X : Cx) (e : Expr) : TE := fun σ H Q => ∃ t, PE X e t ∧ t σ H Q
theorem pe_sem : PE X e (semE X e) := ⟨fun pins s σ H Q I ⟨t, h, q⟩ => h.run pins s σ H Q I q⟩
def semT (X : Cx) (e : Expr) : TT := fun σ H Q => ∃ t, PT X e t ∧ t σ H Q
theorem pt_sem : PT X e (semT X e) := ⟨fun pins s σ H Q I ⟨t, h, q⟩ => h.run pins s σ H Q I q⟩
def semW (X : Cx) (e : Expr) : TT := fun σ H Q => ∃ t, PW X e t ∧ t σ H Q
theorem pw_sem : PW X e (semW X e) := ⟨fun wh pins s σ H Q I ⟨t, h, q⟩ => h.run wh pins s σ H Q I q⟩
def semA (X : Cx) (es : List Expr) : TA := fun σ H Q => ∃ t, PA X es t ∧ t σ H Q
theorem pa_sem : PA X es (semA X es) := ⟨fun pos pins s σ H Q I ⟨t, h, q⟩ => h.run pos pins s σ H Q I q⟩
def semK (X : Cx) (kws : List Keyword) : TA := fun σ H Q => ∃ t, PK X kws t ∧ t σ H Q
theorem pk_sem : PK X kws (semK X kws) := ⟨fun pos pins s σ H Q I ⟨t, h, q⟩ => h.run pos pins s σ H Q I q⟩
def semSs (X : Cx) (st : List Stmt) : TS := fun D σ H => ∃ t, PSs X st t ∧ t D σ H
theorem pss_sem : PSs X st (semSs X st) := ⟨fun pins s σ H D I ⟨t, h, q⟩ => h.run pins s σ H D I q⟩
def semG (X : Cx) (tg : Expr) : TG := fun v σ H Q => ∃ t, PG X tg t ∧ t v σ H Q
theorem pg_sem : PG X tg (semG X tg) := ⟨fun pins s σ H v u Q I r ⟨t, h, q⟩ => h.run pins s σ H v u Q I r q⟩
def semGs (X : Cx) (ts : List Expr) : TGs := fun vs σ H Q => ∃ t, PGs X ts t ∧ t vs σ H Q
theorem pgs_sem {ts : List Expr} : PGs X ts (semGs X ts) := ⟨fun pins s σ H vs us Q I r ⟨t, h, q⟩ => h.run pins s σ H vs us Q I r q⟩
def semI (X : Cx) (tg it : Expr) : TI := fun σ H R => ∃ t, PI X tg it t ∧ t σ H R
theorem pi_sem : PI X tg it (semI X tg it) := ⟨fun pins s σ H R I ⟨t, h, q⟩ => h.run pins s σ H R I q⟩
def semO (X : Cx) (e : Option Expr) : TO := fun σ H Q => ∃ t, PO X e t ∧ t σ H Q
theorem po_sem {e : Option Expr} : PO X e (semO X e) := ⟨fun pins s σ H Q I ⟨t, h, q⟩ => h.run pins s σ H Q I q⟩
end

/-! ### the module, contexts -/
structure DI where
  name : Str
  ps : List Str
  shapes : List (Nat × List Str × List (Sum Nat T))
/-- an error class: its number, its name, its field -/
structure XN where
  c : Nat
  name : Str
  f : Str
/-- where the code objects of the lambdas of the def x are noted -/
def tabF (K : PySem.W.Frag) (x : Str) : Addr := (He.cT K (x, none)).2
structure GI where
  bs : List Str
  cs : List (Str × T)
  ds : List DI
  xs : List XN
  ts : List (Str × Nat) := []
def cV : T → Value → Prop
  | .int i, u => ∃ t, u = Value.int i t
  | .str x, u => ∃ t, u = Value.str x t
  | _, _ => False
def tV : T → V
  | .int i => .int i
  | .bl b => .bl b
  | .str x => .str x
  | _ => .non
def T.scl : T → Bool
  | .int _ => true
  | .bl _ => true
  | .str _ => true
  | .non => true
  | _ => false
theorem tV_rep {K : PySem.W.Frag} {G : Lk} {x : T} (h : x.scl = true) : Rep K G (tV x) x := by
  cases x <;> first | cases h | skip
  · exact .non
  · exact .bl _
  · exact .int _
  · exact .str _
def arV (vs : List V) : Sum Nat T → Option V
  | .inl k => vs[k]?
  | .inr x => some (tV x)
def gV (ar : List (Sum Nat T)) : List V → List V → List V := fun vs zs => ar.filterMap (arV (vs ++ zs))
abbrev ER := Nat → T → Value → Option Addr → Hp → Hp → Prop
/-- what is wanted of a call's result -/
def WC (K : PySem.W.Frag) (er : ER) (S : Store) (μ : Nat → Addr) (H F : Hp) (r : R D) (Q : VK) (E : XK) : Prop := match r with
  | .no => False
  | .ok d S' => ∀ v μ' H' F' as, Hs K S' μ' H' F' → S'.length = S.length → Stp S.length S μ H F S' μ' H' F' → RepN K S'.length μ' F' H' v d as → Own as H F' μ' S' → Q v H'
  | .ex c x S' => ∀ μ' H' F' cls dx, Hs K S' μ' H' F' → S'.length = S.length → Stp S.length S μ H F S' μ' H' F' → er c x cls dx H' F' → E cls dx H'
def spC (K : PySem.W.Frag) (er : ER) (f : List D → Store → R D) (n : Nat) : Sp := fun vs H Q E => vs.length = n ∧ ∃ ds S μ F, Hs K S μ H F ∧ RepCs K S.length μ F vs ds ∧ WC K er S μ H F (f ds S) Q E
/-- an error that leaves: its class, its dict with what it tells -/
def erX (K : PySem.W.Frag) (xs : List XN) (fa : Nat → Addr) : ER := fun c x cls dx H F => ∃ (nm f : Str) (d : Addr) (v : V), XN.mk c nm f ∈ xs ∧ cls = .ref (fa c) ∧ dx = some d ∧ F d = some (.xd [(f, v)]) ∧ Rep K (At F) v x
/-- the error classes of the module -/
structure XOk (P : Program) (K : PySem.W.Frag) (mg : Str → Option Value) (xs : List XN) (fa : Nat → Addr) (er : ER) : Prop where
  er : er = erX K xs fa
  own : ∀ x ∈ xs, ∃ fI, OwnX P K (fa x.c) fI x.f ∧ mg x.name = some (.ref (fa x.c))
  sup : xs ≠ [] → mg "super" = none
  exm : ∀ x ∈ xs, ∀ y ∈ xs, PySem.W.exmOne K (.ref (fa x.c)) (.ref (fa y.c)) = some (x.c == y.c)
  kit : ∀ x ∈ xs, ∀ y ∈ xs, PySem.W.kitOne K (.ref (fa x.c)) (.ref (fa y.c)) = some (x.c == y.c)
  kve : ∀ x ∈ xs, PySem.W.kitOne K (.ref (fa x.c)) (.type "ValueError") = some true
  uq : ∀ x ∈ xs, ∀ y ∈ xs, x.c = y.c → x.f = y.f
theorem xok_nil {P : Program} {K : PySem.W.Frag} {mg : Str → Option Value} {fa : Nat → Addr} : XOk P K mg [] fa (erX K [] fa) := ⟨rfl, fun x h => (by cases h), fun h => absurd rfl h, fun x h => (by cases h), fun x h => (by cases h), fun x h => (by cases h), fun x h => (by cases h)⟩
/-- the defs of the module, at level k -/
structure Lnk (X : Cx) (gi : GI) (k : Nat) (er : ER) (q : Q) : Prop where
  df : ∀ n d, gi.ds[n]? = some d → ∃ fd, FnG X.prog X.w X.K X.mg X.base (CX X.prog X.w) (3 * k) (q.fa n) fd d.ps (spC X.K er (q.call n) d.ps.length) ∧ X.mg d.name = some (.ref (q.fa n)) ∧ PySem.W.keepIn X.K (.ref (q.fa n)) = true ∧
    ∀ s ∈ d.shapes, ∃ g, KBn X.K fd d.ps s.1 s.2.1 g (gV s.2.2)
  xo : XOk X.prog X.K X.mg gi.xs q.fa er
  ta : ∀ t ∈ gi.ts, tabF X.K t.1 = q.fa t.2
/-- a context of the program: a def's body, a comprehension's block -/
structure Cok (X : Cx) (gi : GI) (k : Nat) (N : List Str) (sc : Scope) : Prop where
  n : X.N = N
  s : X.env.scope = sc
  nd : N.Nodup
  calm : X.calm = true
  gd : X.A.guards = some []
  rm : Room (3 * k) X.A
  bi : ∀ x ∈ gi.bs, X.mg x = none
  cs : ∀ p ∈ gi.cs, ∃ u, X.mg p.1 = some u ∧ cV p.2 u
section
variable {X : Cx} {gi : GI} {k : Nat} {N : List Str} {sc : Scope}
theorem Cok.gl (c : Cok X gi k N sc) {x : Str} (h : sc.names.lookup x = some .globalImplicit) : Gl X x := by
  show X.env.scope.names.lookup x = _
  rw [c.s]
  exact h
theorem Cok.un (c : Cok X gi k N sc) : X.A.units + 64 < cLine := by
  have := c.rm.un
  omega
/-- a name that the module leaves as it is -/
structure Bi (X : Cx) (x : Str) (u : Value) : Prop where
  g : Gl X x
  m : X.mg x = none
  b : bootBuiltins x = some u
  n : x ≠ ("__name__" : Str)
  d : (x == ("__debug__" : Str)) = false
theorem Cok.b (c : Cok X gi k N sc) {x : Str} {u : Value} (h : sc.names.lookup x = some .globalImplicit) (m : x ∈ gi.bs) (b : bootBuiltins x = some u := by rfl) (n : x ≠ ("__name__" : Str) := by decide) (d : (x == ("__debug__" : Str)) = false := by rfl) : Bi X x u :=
  ⟨c.gl h, c.bi x m, b, n, d⟩

/-! ### what is wanted of a piece's result -/
variable {er : ER} {W : WX} {L : Nat} {fr : Frame} {σ : L2.St} {S S1 S2 S0 : Store} {μ μ1 μ2 μ0 : Nat → Addr} {H H1 H2 H0 F F1 F2 F0 : Hp} {as bs : List Addr} {K : PySem.W.Frag}
def WR {β : Type} (K : PySem.W.Frag) (er : ER) (W : WX) (L : Nat) (fr : Frame) (σ : L2.St) (S : Store) (μ : Nat → Addr) (H F : Hp) (r : R β) (k : β → Store → (Nat → Addr) → Hp → Hp → Prop) : Prop := match r with
  | .no => False
  | .ok b S' => ∀ μ' H' F', Ab K fr S' μ' σ H' F' → Stp L S μ H F S' μ' H' F' → k b S' μ' H' F'
  | .ex c x S' => ∀ μ' H' F' cls dx, Ab K fr S' μ' σ H' F' → Stp L S μ H F S' μ' H' F' → er c x cls dx H' F' → W cls dx σ H'
def KE (K : PySem.W.Frag) (H : Hp) (Q : VK) : D → Store → (Nat → Addr) → Hp → Hp → Prop := fun d S' μ' H' F' => ∀ v as, RepN K S'.length μ' F' H' v d as → Own as H F' μ' S' → Q v H'
def KA (K : PySem.W.Frag) (H : Hp) (n : Nat) (Q : List V → Hp → Prop) : List D → Store → (Nat → Addr) → Hp → Hp → Prop := fun ds S' μ' H' F' => ∀ vs as, RepNs K S'.length μ' F' H' vs ds as → Own as H F' μ' S' → vs.length = n → Q vs H'
def KT (Q : Bool → Hp → Prop) : Bool → Store → (Nat → Addr) → Hp → Hp → Prop := fun b _ _ H' _ => Q b H'
theorem WR.bnd {β γ : Type} {r : R β} {g : β → Store → R γ} {k : γ → Store → (Nat → Addr) → Hp → Hp → Prop} {j : β → Store → (Nat → Addr) → Hp → Hp → Prop} (w : WR K er W L fr σ S0 μ0 H0 F0 (r.bnd g) k) (P : Stp L S0 μ0 H0 F0 S μ H F)
    (h : ∀ b S1 μ1 H1 F1, Ab K fr S1 μ1 σ H1 F1 → Stp L S μ H F S1 μ1 H1 F1 → WR K er W L fr σ S0 μ0 H0 F0 (g b S1) k → j b S1 μ1 H1 F1) : WR K er W L fr σ S μ H F r j := by
  cases r with
  | no => exact w.elim
  | ok b S1 => exact fun μ1 H1 F1 A1 P1 => h b S1 μ1 H1 F1 A1 P1 w
  | ex c x S1 => exact fun μ1 H1 F1 cls dx A1 P1 e => w μ1 H1 F1 cls dx A1 (P.trans P1) e
/-- an expression does what f says -/
def SemE (X : Cx) (gi : GI) (k : Nat) (e : Expr) (f : XE) : Prop := ∀ er q, Lnk X gi k er q → ∀ W, Takes X W → ∀ fr S μ σ H F, Ab X.K fr S μ σ H F → ∀ Q, WR X.K er W q.L fr σ S μ H F (f q fr S) (KE X.K H Q) → semE X e σ H Q
def SemT (X : Cx) (gi : GI) (k : Nat) (e : Expr) (f : XT) : Prop := ∀ er q, Lnk X gi k er q → ∀ W, Takes X W → ∀ fr S μ σ H F, Ab X.K fr S μ σ H F → ∀ Q, WR X.K er W q.L fr σ S μ H F (f q fr S) (KT Q) → semT X e σ H Q
def SemA (X : Cx) (gi : GI) (k : Nat) (es : List Expr) (f : XA) : Prop := ∀ er q, Lnk X gi k er q → ∀ W, Takes X W → ∀ fr S μ σ H F, Ab X.K fr S μ σ H F → ∀ Q, WR X.K er W q.L fr σ S μ H F (f q fr S) (KA X.K H es.length Q) → semA X es σ H Q
def SemK (X : Cx) (gi : GI) (k : Nat) (kws : List Keyword) (f : XA) : Prop := ∀ er q, Lnk X gi k er q → ∀ W, Takes X W → ∀ fr S μ σ H F, Ab X.K fr S μ σ H F → ∀ Q, WR X.K er W q.L fr σ S μ H F (f q fr S) (KA X.K H kws.length Q) → semK X kws σ H Q
theorem SemE.go {e : Expr} {f : XE} (h : SemE X gi k e f) {q : Q} (lk : Lnk X gi k er q) (tk : Takes X W) (A : Ab X.K fr S μ σ H F) (P : Stp q.L S0 μ0 H0 F0 S μ H F) {γ : Type} {g : D → Store → R γ} {j : γ → Store → (Nat → Addr) → Hp → Hp → Prop} (w : WR X.K er W q.L fr σ S0 μ0 H0 F0 ((f q fr S).bnd g) j) {Q : VK}
    (n : ∀ d S1 μ1 H1 F1 v as, Ab X.K fr S1 μ1 σ H1 F1 → Stp q.L S μ H F S1 μ1 H1 F1 → RepN X.K S1.length μ1 F1 H1 v d as → Own as H F1 μ1 S1 → WR X.K er W q.L fr σ S0 μ0 H0 F0 (g d S1) j → Q v H1) : semE X e σ H Q :=
  h er q lk W tk fr S μ σ H F A Q (w.bnd P fun d S1 μ1 H1 F1 A1 P1 w1 v as r o => n d S1 μ1 H1 F1 v as A1 P1 r o w1)
theorem SemT.go {e : Expr} {f : XT} (h : SemT X gi k e f) {q : Q} (lk : Lnk X gi k er q) (tk : Takes X W) (A : Ab X.K fr S μ σ H F) (P : Stp q.L S0 μ0 H0 F0 S μ H F) {γ : Type} {g : Bool → Store → R γ} {j : γ → Store → (Nat → Addr) → Hp → Hp → Prop} (w : WR X.K er W q.L fr σ S0 μ0 H0 F0 ((f q fr S).bnd g) j) {Q : Bool → Hp → Prop}
    (n : ∀ b S1 μ1 H1 F1, Ab X.K fr S1 μ1 σ H1 F1 → Stp q.L S μ H F S1 μ1 H1 F1 → WR X.K er W q.L fr σ S0 μ0 H0 F0 (g b S1) j → Q b H1) : semT X e σ H Q :=
  h er q lk W tk fr S μ σ H F A Q (w.bnd P fun d S1 μ1 H1 F1 A1 P1 w1 => n d S1 μ1 H1 F1 A1 P1 w1)
theorem SemA.go {es : List Expr} {f : XA} (h : SemA X gi k es f) {q : Q} (lk : Lnk X gi k er q) (tk : Takes X W) (A : Ab X.K fr S μ σ H F) (P : Stp q.L S0 μ0 H0 F0 S μ H F) {γ : Type} {g : List D → Store → R γ} {j : γ → Store → (Nat → Addr) → Hp → Hp → Prop} (w : WR X.K er W q.L fr σ S0 μ0 H0 F0 ((f q fr S).bnd g) j) {Q : List V → Hp → Prop}
    (n : ∀ ds S1 μ1 H1 F1 vs as, Ab X.K fr S1 μ1 σ H1 F1 → Stp q.L S μ H F S1 μ1 H1 F1 → RepNs X.K S1.length μ1 F1 H1 vs ds as → Own as H F1 μ1 S1 → vs.length = es.length → WR X.K er W q.L fr σ S0 μ0 H0 F0 (g ds S1) j → Q vs H1) : semA X es σ H Q :=
  h er q lk W tk fr S μ σ H F A Q (w.bnd P fun d S1 μ1 H1 F1 A1 P1 w1 v as r o l => n d S1 μ1 H1 F1 v as A1 P1 r o l w1)
theorem SemK.go {es : List Keyword} {f : XA} (h : SemK X gi k es f) {q : Q} (lk : Lnk X gi k er q) (tk : Takes X W) (A : Ab X.K fr S μ σ H F) (P : Stp q.L S0 μ0 H0 F0 S μ H F) {γ : Type} {g : List D → Store → R γ} {j : γ → Store → (Nat → Addr) → Hp → Hp → Prop} (w : WR X.K er W q.L fr σ S0 μ0 H0 F0 ((f q fr S).bnd g) j) {Q : List V → Hp → Prop}
    (n : ∀ ds S1 μ1 H1 F1 vs as, Ab X.K fr S1 μ1 σ H1 F1 → Stp q.L S μ H F S1 μ1 H1 F1 → RepNs X.K S1.length μ1 F1 H1 vs ds as → Own as H F1 μ1 S1 → vs.length = es.length → WR X.K er W q.L fr σ S0 μ0 H0 F0 (g ds S1) j → Q vs H1) : semK X es σ H Q :=
  h er q lk W tk fr S μ σ H F A Q (w.bnd P fun d S1 μ1 H1 F1 A1 P1 w1 v as r o l => n d S1 μ1 H1 F1 v as A1 P1 r o l w1)
/-! handing over a result -/
theorem give {d : D} {Q : VK} {v : V} (w : WR K er W L fr σ S0 μ0 H0 F0 (.ok d S) (KE K H0 Q)) (A : Ab K fr S μ σ H F) (P : Stp L S0 μ0 H0 F0 S μ H F) (r : RepN K S.length μ F H v d as) (o : Own as H0 F μ S) : Q v H := w μ H F A P v as r o
theorem giveT {x : T} {Q : VK} {v : V} (w : WR K er W L fr σ S0 μ0 H0 F0 (.ok (.t x) S) (KE K H0 Q)) (A : Ab K fr S μ σ H F) (P : Stp L S0 μ0 H0 F0 S μ H F) (r : Rep K (At F) v x) : Q v H := give w A P (.c (.t r)) .nil
/-- a new list -/
theorem giveN {xs : List T} {Q : VK} {vs : List V} {p : Addr} (w : WR K er W L fr σ S0 μ0 H0 F0 (.ok (.new xs) S) (KE K H0 Q)) (A : Ab K fr S μ σ H F) (P : Stp L S0 μ0 H0 F0 S μ H F) (hp : H p = none) (r : RepL K (At F) vs xs) : Q (.ref p) (upd H p (.lst vs)) := by
  have P2 := stp_laid (L := L) (S := S) (μ := μ) (F := F) (o := .lst vs) hp
  refine give w (A.hsof P2 (A.hs.laid hp)) (P.trans P2) (.new upd_same r) ?_
  exact (own_new A.hs hp).start P.dom
end
end Mi

set_option Elab.async false
set_option linter.all false
set_option maxRecDepth 100000
set_option maxHeartbeats 4000000
/-! N7: expressions: names, constants, displays, operators, tests -/
namespace Mi
open PySem PySem.Spec PyProof.Rows L2
/-- the i-th name -/
structure Nm (X : Cx) (i : Nat) (x : Str) : Prop where
  n : X.N[i]? = some x
  v : Vis X.env.scope x
  d : (x == ("__debug__" : Str)) = false
  c : (x == ("__classdict__" : Str)) = false
section
variable {X : Cx} {gi : GI} {k : Nat} {N : List Str} {sc : Scope} {pos p1 : Pos} {e a b c i : Expr} {es rest : List Expr} {f g h : XE} {fa ga : XA} {ft gt : XT}
variable {er : ER} {W : WX} {L : Nat} {fr : Frame} {σ : L2.St} {S S1 S2 S0 : Store} {μ μ1 μ2 μ0 : Nat → Addr} {H H1 H2 H0 F F1 F2 F0 : Hp} {as bs : List Addr} {K : PySem.W.Frag}
theorem Cok.nm (c : Cok X gi k N sc) {i : Nat} {x : Str} (h : N[i]? = some x) (v : Vis sc x) (d : (x == ("__debug__" : Str)) = false := by rfl) (q : (x == ("__classdict__" : Str)) = false := by rfl) : Nm X i x :=
  ⟨by rw [c.n]; exact h, by rw [c.s]; exact v, d, q⟩
theorem sem_v {i : Nat} {x : Str} (n : Nm X i x) : SemE X gi k (.Name x pos) (Z.v i) := by
  intro er q lk W tk fr S μ σ H F A Q w
  unfold Z.v at w
  split at w
  · rename_i d e
    obtain ⟨v, e1, r⟩ := A.sl i d e
    exact ⟨_, pe_var n.n n.v n.d n.c, v, e1, give w A .refl (.c r) .nil⟩
  · exact w.elim
theorem sem_int {i : Int} {j : Nat} : SemE X gi k (.Constant (.int i) j pos) (Z.k (.int i)) := by
  intro er q lk W tk fr S μ σ H F A Q w
  exact ⟨_, pe_int, giveT w A .refl (.int i)⟩
theorem sem_bl {i : Bool} {j : Nat} : SemE X gi k (.Constant (.bool i) j pos) (Z.k (.bl i)) := by
  intro er q lk W tk fr S μ σ H F A Q w
  exact ⟨_, pe_bl, giveT w A .refl (.bl i)⟩
theorem sem_non {j : Nat} : SemE X gi k (.Constant .none j pos) (Z.k .non) := by
  intro er q lk W tk fr S μ σ H F A Q w
  exact ⟨_, pe_non, giveT w A .refl .non⟩
theorem sem_str {i : Str} {j : Nat} : SemE X gi k (.Constant (.str i) j pos) (Z.k (.str i)) := by
  intro er q lk W tk fr S μ σ H F A Q w
  exact ⟨_, pe_str, giveT w A .refl (.str i)⟩
/-- a constant of the module -/
theorem sem_gk {x : Str} {y : T} (c : Cok X gi k N sc) (hg : sc.names.lookup x = some .globalImplicit) (hm : (x, y) ∈ gi.cs) (hd : (x == ("__debug__" : Str)) = false := by rfl) : SemE X gi k (.Name x pos) (Z.k y) := by
  intro er q lk W tk fr S μ σ H F A Q w
  obtain ⟨u, e1, e2⟩ := c.cs _ hm
  cases y with
  | int i => exact ⟨_, pe_glob (v := .int i) (c.gl hg) e1 e2 hd, giveT w A .refl (.int i)⟩
  | str i => exact ⟨_, pe_glob (v := .str i) (c.gl hg) e1 e2 hd, giveT w A .refl (.str i)⟩
  | _ => exact e2.elim
/-- a def as a value -/
theorem sem_g {x : Str} {n : Nat} {d : DI} (c : Cok X gi k N sc) (hg : sc.names.lookup x = some .globalImplicit) (hm : gi.ds[n]? = some d) (hx : d.name = x) (hd : (x == ("__debug__" : Str)) = false := by rfl) : SemE X gi k (.Name x pos) (Z.g n) := by
  intro er q lk W tk fr S μ σ H F A Q w
  obtain ⟨fd, _, e1, _⟩ := lk.df n d hm
  rw [hx] at e1
  exact ⟨_, pe_glob (v := .ref (q.fa n)) (c.gl hg) e1 rfl hd, giveT w A .refl (.fn n _)⟩

/-! ### lists of expressions -/
theorem sea_nil : SemA X gi k [] Z.nil := by
  intro er q lk W tk fr S μ σ H F A Q w
  exact ⟨_, pa_nil, w μ H F A .refl [] [] .nil .nil rfl⟩
theorem sea_cons (h1 : SemE X gi k e f) (h2 : SemA X gi k es fa) (hs : starEach (e :: es) X.env = (false, eval e X.env) :: starEach es X.env) : SemA X gi k (e :: es) (Z.cons f fa) := by
  intro er q lk W tk fr S μ σ H F A Q w
  refine ⟨_, pa_cons pe_sem pa_sem hs, h1.go lk tk A .refl w fun d S1 μ1 H1 F1 v as A1 P1 r1 o1 w1 => h2.go lk tk A1 P1 w1 fun ds S2 μ2 H2 F2 vs bs A2 P2 r2 o2 l2 w2 => ?_⟩
  obtain ⟨r1', o1'⟩ := r1.keep o1 P2
  refine w2 μ2 H2 F2 A2 (P1.trans P2) _ _ (.cons r1' r2) (o1'.app o2 P1.dom r1.there) (congrArg Nat.succ l2)
theorem sek_nil : SemK X gi k [] Z.nil := by
  intro er q lk W tk fr S μ σ H F A Q w
  exact ⟨_, pk_nil, w μ H F A .refl [] [] .nil .nil rfl⟩
theorem sek_cons {nm : Option Str} {kp : Pos} {kws : List Keyword} (h1 : SemE X gi k e f) (h2 : SemK X gi k kws fa) : SemK X gi k (⟨nm, e, kp⟩ :: kws) (Z.cons f fa) := by
  intro er q lk W tk fr S μ σ H F A Q w
  refine ⟨_, pk_cons pe_sem pk_sem, h1.go lk tk A .refl w fun d S1 μ1 H1 F1 v as A1 P1 r1 o1 w1 => h2.go lk tk A1 P1 w1 fun ds S2 μ2 H2 F2 vs bs A2 P2 r2 o2 l2 w2 => ?_⟩
  obtain ⟨r1', o1'⟩ := r1.keep o1 P2
  refine w2 μ2 H2 F2 A2 (P1.trans P2) _ _ (.cons r1' r2) (o1'.app o2 P1.dom r1.there) (congrArg Nat.succ l2)
theorem allT_rep : ∀ {ds : List D} {xs : List T} {vs : List V} {as : List Addr} {M : Nat}, allT ds = some xs → RepNs K M μ F H vs ds as → RepL K (At F) vs xs
  | [], xs, vs, as, M, e, r => by
    cases e
    cases r
    exact .nil
  | d :: ds, xs, vs, as, M, e, r => by
    cases r with
    | cons r1 r2 =>
      cases d with
      | t x =>
        have e' : (allT ds).map (x :: ·) = some xs := e
        cases q : allT ds with
        | none =>
          rw [q] at e'
          cases e'
        | some ys =>
          rw [q] at e'
          cases e'
          cases r1 with
          | c r1 =>
            cases r1 with
            | t r1 => exact .cons r1 (allT_rep q r2)
      | _ => cases e
/-- the new list of these -/
theorem giveL {ds : List D} {Q : VK} {vs : List V} {p : Addr} (w : WR K er W L fr σ S0 μ0 H0 F0 (.ok (Z.mkL ds) S) (KE K H0 Q)) (A : Ab K fr S μ σ H F) (P : Stp L S0 μ0 H0 F0 S μ H F) (hp : H p = none) (r : RepNs K S.length μ F H vs ds as) (o : Own as H0 F μ S) : Q (.ref p) (upd H p (.lst vs)) := by
  unfold Z.mkL at w
  split at w
  · rename_i xs e
    exact giveN w A P hp (allT_rep e r)
  · have P2 := stp_laid (L := L) (S := S) (μ := μ) (F := F) (o := .lst vs) hp
    obtain ⟨r', o'⟩ := r.keep o P2
    refine give w (A.hsof P2 (A.hs.laid hp)) (P.trans P2) (.newo upd_same r') ⟨List.nodup_cons.mpr ⟨fun z => ?_, o'.nd⟩, fun a ha => ?_⟩
    · obtain ⟨u, hu⟩ := r.there p z
      rw [hp] at hu
      cases hu
    · rcases List.mem_cons.mp ha with rfl | ha
      · exact ((own_new A.hs hp).start P.dom).fr _ (List.mem_singleton.mpr rfl)
      · exact o'.fr a ha
theorem sem_lst (h : SemA X gi k es fa) (hn : es.length ≤ 1000) : SemE X gi k (.List es pos) (Z.lst fa) := by
  intro er q lk W tk fr S μ σ H F A Q w
  refine ⟨_, pe_lst pa_sem, h.go lk tk A .refl w fun ds S1 μ1 H1 F1 vs as A1 P1 r1 o1 l1 w1 => ⟨?_, fun p hp => giveL w1 A1 P1 hp r1 o1⟩⟩
  rw [l1]
  exact Nat.le_trans hn (by decide)
theorem sem_tup {j : Nat} (h : SemA X gi k es fa) (hn : es.length ≤ 1000) : SemE X gi k (.Tuple es j pos) (Z.tup fa) := by
  intro er q lk W tk fr S μ σ H F A Q w
  refine ⟨_, pe_tup pa_sem, h.go lk tk A .refl w fun ds S1 μ1 H1 F1 vs as A1 P1 r1 o1 l1 w1 => ⟨?_, fun p hp => ?_⟩⟩
  · rw [l1]
    exact Nat.le_trans hn (by decide)
  have P2 := stp_laid (L := q.L) (S := S1) (μ := μ1) (F := F1) (o := .tup vs) hp
  obtain ⟨r', o'⟩ := r1.keep o1 P2
  have A2 := A1.hsof P2 (A1.hs.laid hp)
  have on := (own_new A1.hs hp).start P1.dom
  unfold Z.mkT at w1
  split at w1
  · rename_i xs e
    have P3 := stp_frz (P1.trans P2) (⟨on.nd, fun a ha => on.fr a ha⟩ : Own [p] H F1 μ1 S1)
    have hs3 := A2.hs.frz (as := [p]) ⟨on.nd, fun a ha => on.fr a ha⟩
    refine giveT w1 (A.hsof P3 hs3) P3 (.tup ((frz_in (List.mem_singleton.mpr rfl)).trans upd_same) ?_)
    exact (allT_rep e r').mono (at_mono (frz_same fun a ha => (on.fr a ha).2.1))
  · refine give w1 A2 (P1.trans P2) (.tupo upd_same r') ⟨List.nodup_cons.mpr ⟨fun z => ?_, o'.nd⟩, fun a ha => ?_⟩
    · obtain ⟨u, hu⟩ := r1.there p z
      rw [hp] at hu
      cases hu
    · rcases List.mem_cons.mp ha with rfl | ha
      · exact on.fr _ (List.mem_singleton.mpr rfl)
      · exact o'.fr a ha

/-! ### operators by values -/
/-- an operator of two values does what g says -/
def OpS (X : Cx) (fop : Value → Value → Sem Value) (g : D → D → Store → R D) : Prop := ∃ r : R2, OpR X fop r ∧ ∀ {er : ER} {W : WX} {L : Nat} {fr : Frame} {σ : L2.St} {S0 S : Store} {μ0 μ : Nat → Addr} {H0 F0 H F : Hp} {Q : VK} {x y : D} {v w : V} {as bs : List Addr},
  Ab X.K fr S μ σ H F → Stp L S0 μ0 H0 F0 S μ H F → RepN X.K S.length μ F H v x as → RepN X.K S.length μ F H w y bs → Own (as ++ bs) H0 F μ S → WR X.K er W L fr σ S0 μ0 H0 F0 (g x y S) (KE X.K H0 Q) → r v w H Q
theorem opr_or {fop : Value → Value → Sem Value} {r1 r2 : R2} (h1 : OpR X fop r1) (h2 : OpR X fop r2) : OpR X fop (fun x y H Q => r1 x y H Q ∨ r2 x y H Q) := by
  intro pins s σ H x y v u Q I rx ry h
  rcases h with h | h
  · exact h1 pins s σ H x y v u Q I rx ry h
  · exact h2 pins s σ H x y v u Q I rx ry h
theorem tOp_go {r : R2} {D1 : D → D → Store → R D} {q : Q} (h1 : SemE X gi k a f) (h2 : SemE X gi k b g) (lk : Lnk X gi k er q) (tk : Takes X W) (A : Ab X.K fr S μ σ H F) {Q : VK}
    (w : WR X.K er W q.L fr σ S μ H F ((f q fr S).bnd fun x S1 => (g q fr S1).bnd fun y S2 => D1 x y S2) (KE X.K H Q))
    (n : ∀ {S2 μ2 H2 F2 x y v w as bs}, Ab X.K fr S2 μ2 σ H2 F2 → Stp q.L S μ H F S2 μ2 H2 F2 → RepN X.K S2.length μ2 F2 H2 v x as → RepN X.K S2.length μ2 F2 H2 w y bs → Own (as ++ bs) H F2 μ2 S2 → WR X.K er W q.L fr σ S μ H F (D1 x y S2) (KE X.K H Q) → r v w H2 Q) :
    tOp r (semE X a) (semE X b) σ H Q :=
  h1.go lk tk A .refl w fun x S1 μ1 H1 F1 v as A1 P1 r1 o1 w1 => h2.go lk tk A1 P1 w1 fun y S2 μ2 H2 F2 u bs A2 P2 r2 o2 w2 => by
    obtain ⟨r1', o1'⟩ := r1.keep o1 P2
    exact n A2 (P1.trans P2) r1' r2 (o1'.app o2 P1.dom r1.there) w2
theorem sem_bin {op : Operator} {o : BO} (ho : OpS X (binaryOp op) (bop o)) (h1 : SemE X gi k a f) (h2 : SemE X gi k b g) : SemE X gi k (.BinOp a op b pos) (Z.bin o f g) := by
  intro er q lk W tk fr S μ σ H F A Q w
  obtain ⟨r, hr, hn⟩ := ho
  exact ⟨_, pe_op hr pe_sem pe_sem, tOp_go h1 h2 lk tk A w hn⟩
/-! lists as they stand -/
theorem rd_cell (A : Hs K S μ H F) {n : Nat} {o : Ob} (e : rd S n = some o) : ∃ u, S[n]? = some u ∧ u.un = o ∧ ∃ ho, H (μ n) = some ho ∧ Con K S.length μ F u ho := by
  unfold rd at e
  cases q : S[n]? with
  | none =>
    rw [q] at e
    cases e
  | some u =>
    rw [q] at e
    cases e
    obtain ⟨ho, h1, h2⟩ := A.ce n u q
    exact ⟨u, rfl, rfl, ho, h1, h2⟩
theorem sq_rep (A : Hs K S μ H F) {v : V} {x : D} {xs : List T} (r : RepN K S.length μ F H v x as) (e : sq S x = some xs) : ∃ a vs, v = .ref a ∧ H a = some (.lst vs) ∧ RepL K (At F) vs xs := by
  cases r with
  | c r =>
    cases r with
    | t r =>
      rename_i y
      cases y with
      | lst ys =>
        cases e
        obtain ⟨a, vs, rfl, h1, h2⟩ := rep_lst r
        exact ⟨a, vs, rfl, now_lst (A.sub _ _ h1), h2⟩
      | _ => cases e
    | cell hn =>
      rename_i n
      unfold sq at e
      simp only at e
      split at e
      · rename_i ys q
        cases e
        obtain ⟨u, _, hu, ho, h1, h2⟩ := rd_cell A q
        cases u with
        | lst zs =>
          cases hu
          cases ho <;> first | exact h2.elim | skip
          exact ⟨_, _, rfl, h1, h2⟩
        | lck o =>
          cases hu
          cases ho <;> first | exact h2.elim | skip
          exact ⟨_, _, rfl, h1, h2⟩
        | _ => cases hu
      · cases e
  | new h1 h2 =>
    cases e
    exact ⟨_, _, rfl, h1, h2⟩
  | newd _ _ => cases e
  | newo _ _ => cases e
  | tupo _ _ => cases e
theorem line_ok {n : Nat} (h : n ≤ okL) : n ≤ sizeLine := Nat.le_trans h (by decide)
theorem repT {v : V} {x : T} (r : RepN K S.length μ F H v (.t x) as) : Rep K (At F) v x ∧ as = [] := by
  cases r with
  | c r =>
    cases r with
    | t r => exact ⟨r, rfl⟩
theorem op_addS : OpS X (binaryOp .Add) (bop .add) := by
  refine ⟨_, opr_or op_add (opr_or op_add_str op_cat), ?_⟩
  intro er W L fr σ S0 S μ0 μ H0 F0 H F Q x y v w as bs A P r1 r2 o hw0
  have hw : WR X.K er W L fr σ S0 μ0 H0 F0 (addD x y S) (KE X.K H0 Q) := hw0
  clear hw0
  unfold addD at hw
  split at hw
  · rename_i i j
    rw [rep_int (repT r1).1, rep_int (repT r2).1]
    exact .inl ⟨i, j, rfl, rfl, giveT hw A P (.int _)⟩
  · rename_i i j
    rw [rep_str (repT r1).1, rep_str (repT r2).1]
    split at hw
    · rename_i hl
      exact .inr (.inl ⟨i, j, rfl, rfl, line_ok hl, giveT hw A P (.str _)⟩)
    · exact hw.elim
  · split at hw
    · rename_i xs e1
      split at hw
      · rename_i ys e2
        obtain ⟨a, vs, rfl, h1, g1⟩ := sq_rep A.hs r1 e1
        obtain ⟨b, ws, rfl, h2, g2⟩ := sq_rep A.hs r2 e2
        split at hw
        · rename_i hl
          refine .inr (.inr ⟨a, b, vs, ws, rfl, rfl, h1, h2, ?_, fun p hp => giveN hw A P hp (g1.append g2)⟩)
          rw [g1.length, g2.length]
          exact line_ok hl
        · exact hw.elim
      · exact hw.elim
    · exact hw.elim
theorem int2 {x y : D} {v w : V} {i j : Int} (r1 : RepN K S.length μ F H v (.t (.int i)) as) (r2 : RepN K S.length μ F H w (.t (.int j)) bs) : v = .int i ∧ w = .int j := ⟨rep_int (repT r1).1, rep_int (repT r2).1⟩
theorem op_subS : OpS X (binaryOp .Sub) (bop .sub) := by
  refine ⟨_, op_sub, ?_⟩
  intro er W L fr σ S0 S μ0 μ H0 F0 H F Q x y v w as bs A P r1 r2 o hw
  unfold bop at hw
  split at hw <;> first | (rename_i z; cases z; done) | skip
  all_goals first | exact hw.elim | skip
  · rw [rep_int (repT r1).1, rep_int (repT r2).1]
    exact ⟨_, _, rfl, rfl, giveT hw A P (.int _)⟩
theorem op_modS : OpS X (binaryOp .Mod) (bop .mod) := by
  refine ⟨_, op_mod, ?_⟩
  intro er W L fr σ S0 S μ0 μ H0 F0 H F Q x y v w as bs A P r1 r2 o hw
  unfold bop at hw
  split at hw <;> first | (rename_i z; cases z; done) | skip
  all_goals first | exact hw.elim | skip
  · rw [rep_int (repT r1).1, rep_int (repT r2).1]
    split at hw
    · rename_i h
      exact ⟨_, _, rfl, rfl, h, giveT hw A P (.int _)⟩
    · exact hw.elim
theorem op_fdivS : OpS X (binaryOp .FloorDiv) (bop .fdiv) := by
  refine ⟨_, opr_or op_fdiv op_fdivW, ?_⟩
  intro er W L fr σ S0 S μ0 μ H0 F0 H F Q x y v w as bs A P r1 r2 o hw
  unfold bop at hw
  split at hw <;> first | (rename_i z; cases z; done) | skip
  all_goals first | exact hw.elim | skip
  · rw [rep_int (repT r1).1, rep_int (repT r2).1]
    split at hw
    · rename_i h
      rcases h with h | h
      · exact .inl ⟨_, _, rfl, rfl, h, giveT hw A P (.int _)⟩
      · exact .inr ⟨_, _, rfl, rfl, h, giveT hw A P (.int _)⟩
    · exact hw.elim
def CPowW (i j : Int) : Prop := 0 ≤ j ∧ (Builtin.Int.intBits i : Int) * j ≤ 2 ^ 27
theorem op_powW : OpR X (binaryOp .Pow) (rI CPowW fun i j => .int (i ^ j.toNat)) := opI fun _ _ _ _ _ _ _ hc q => pow_int hc.1 hc.2 q
theorem op_powS : OpS X (binaryOp .Pow) (bop .pow) := by
  refine ⟨_, opr_or op_pow op_powW, ?_⟩
  intro er W L fr σ S0 S μ0 μ H0 F0 H F Q x y v w as bs A P r1 r2 o hw
  unfold bop at hw
  split at hw <;> first | (rename_i z; cases z; done) | skip
  all_goals first | exact hw.elim | skip
  · rw [rep_int (repT r1).1, rep_int (repT r2).1]
    split at hw
    · rename_i h
      rcases h with h | h
      · exact .inl ⟨_, _, rfl, rfl, h, giveT hw A P (.int _)⟩
      · exact .inr ⟨_, _, rfl, rfl, h, giveT hw A P (.int _)⟩
    · exact hw.elim
theorem op_shlS : OpS X (binaryOp .LShift) (bop .shl) := by
  refine ⟨_, op_shl, ?_⟩
  intro er W L fr σ S0 S μ0 μ H0 F0 H F Q x y v w as bs A P r1 r2 o hw
  unfold bop at hw
  split at hw <;> first | (rename_i z; cases z; done) | skip
  all_goals first | exact hw.elim | skip
  · rw [rep_int (repT r1).1, rep_int (repT r2).1]
    split at hw
    · rename_i h
      exact ⟨_, _, rfl, rfl, h, giveT hw A P (.int _)⟩
    · exact hw.elim
/-- what is owned is frozen -/
theorem Ab.frzd (A : Ab K fr S μ σ H F) (P : Stp L S0 μ0 H0 F0 S μ H F) (o : Own as H0 F μ S) : Ab K fr S μ σ H (frz F H as) ∧ Stp L S0 μ0 H0 F0 S μ H (frz F H as) :=
  ⟨⟨A.hs.frz o, A.len, fun i d e => let ⟨v, e1, r⟩ := A.sl i d e; ⟨v, e1, r.mono (Nat.le_refl _) (fun _ _ => rfl) (frz_same fun a ha => (o.fr a ha).2.1)⟩⟩, stp_frz P o⟩
theorem op_mulS : OpS X (binaryOp .Mult) (bop .mul) := by
  refine ⟨_, opr_or op_mul (opr_or op_mulW op_rep), ?_⟩
  intro er W L fr σ S0 S μ0 μ H0 F0 H F Q x y v w as bs A P r1 r2 o hw0
  have hw : WR X.K er W L fr σ S0 μ0 H0 F0 (mulD x y S) (KE X.K H0 Q) := hw0
  clear hw0
  unfold mulD at hw
  split at hw
  · rw [rep_int (repT r1).1, rep_int (repT r2).1]
    split at hw
    · rename_i h
      rcases h with h | h
      · exact .inl ⟨_, _, rfl, rfl, h, giveT hw A P (.int _)⟩
      · exact .inr (.inl ⟨_, _, rfl, rfl, h, giveT hw A P (.int _)⟩)
    · exact hw.elim
  · rename_i kk _
    rw [rep_int (repT r2).1]
    split at hw
    · rename_i xs e1
      split at hw
      · rename_i hk
        obtain ⟨k1, k2, k3⟩ := hk
        unfold fzL at e1
        split at e1
        · rename_i ds
          cases r1 with
          | c r1 => cases r1
          | newo h1 h2 =>
            obtain ⟨A2, P2⟩ := A.frzd P o.left
            have g := (fzs_rep (frz_same fun a ha => (o.left.fr a ha).2.1) h2 (fun a ha => List.mem_cons_of_mem _ ha) e1)
            refine .inr (.inr ⟨_, kk, _, rfl, rfl, h1, k1, k2, ?_, fun p hp => giveN hw A2 P2 hp (g.reps _)⟩)
            rw [g.length]
            exact line_ok k3
        · obtain ⟨a, vs, rfl, h1, g⟩ := sq_rep A.hs r1 e1
          refine .inr (.inr ⟨a, kk, vs, rfl, rfl, h1, k1, k2, ?_, fun p hp => giveN hw A P hp (g.reps _)⟩)
          rw [g.length]
          exact line_ok k3
      · exact hw.elim
    · exact hw.elim
  · exact hw.elim
end
end Mi

set_option Elab.async false
set_option linter.all false
set_option maxRecDepth 100000
set_option maxHeartbeats 4000000
/-! N8: comparisons, tests, subscripts, slices -/
namespace Mi
open PySem PySem.Spec PyProof.Rows L2
section
variable {X : Cx} {gi : GI} {k : Nat} {N : List Str} {sc : Scope} {pos p1 : Pos} {e a b c i : Expr} {es rest : List Expr} {f g h : XE} {fa ga : XA} {ft gt : XT}
variable {er : ER} {W : WX} {L : Nat} {fr : Frame} {σ : L2.St} {S S1 S2 S0 : Store} {μ μ1 μ2 μ0 : Nat → Addr} {H H1 H2 H0 F F1 F2 F0 : Hp} {as bs : List Addr} {K : PySem.W.Frag}

/-! ### dicts -/
theorem dct_rep (A : Hs K S μ H F) {v : V} {x : D} {kvs : List (Key × T)} (r : RepN K S.length μ F H v x as) (e : dct S x = some kvs) : ∃ a vs, v = .ref a ∧ Rd H a (.dK vs) ∧ RepK K (At F) vs kvs := by
  cases r with
  | c r =>
    cases r with
    | t r =>
      rename_i y
      cases y with
      | dic ys =>
        cases e
        obtain ⟨a, vs, rfl, h1, h2⟩ := rep_dic r
        exact ⟨a, vs, rfl, now_rd (A.sub _ _ h1), h2⟩
      | _ => cases e
    | cell hn =>
      rename_i n
      unfold dct at e
      simp only at e
      split at e
      · rename_i ys q
        cases e
        obtain ⟨u, _, hu, ho, h1, h2⟩ := rd_cell A q
        cases u with
        | dic zs =>
          cases hu
          cases ho <;> first | exact h2.elim | skip
          exact ⟨_, _, rfl, .inl h1, h2⟩
        | lck o =>
          cases hu
          cases ho <;> first | exact h2.elim | skip
          rename_i ob u
          cases u <;> first | exact h2.elim | skip
          exact ⟨_, _, rfl, .inr ⟨_, h1⟩, h2⟩
        | _ => cases hu
      · cases e
  | new _ _ => cases e
  | newd h1 h2 =>
    cases e
    exact ⟨_, _, rfl, .inl h1, h2⟩
  | newo _ _ => cases e
  | tupo _ _ => cases e
theorem look_rep {G : Lk} {kk : Key} : ∀ {vs : List (Key × V)} {kvs : List (Key × T)}, RepK K G vs kvs → (∀ x, lookK kk kvs = some x → ∃ v, valV vs kk = some v ∧ Rep K G v x) ∧ (lookK kk kvs = none → valV vs kk = none)
  | _, _, .nil => ⟨fun x e => (by cases e), fun _ => rfl⟩
  | (j, v) :: vs, _ :: kvs, .cons h t => by
    obtain ⟨i1, i2⟩ := look_rep (kk := kk) t
    by_cases e : j = kk
    · constructor
      · intro x q
        unfold lookK at q
        rw [if_pos e] at q
        cases q
        exact ⟨v, valV_pos e, h⟩
      · intro q
        unfold lookK at q
        rw [if_pos e] at q
        cases q
    · constructor
      · intro x q
        unfold lookK at q
        rw [if_neg e] at q
        rw [valV_neg (p := (j, v)) e]
        exact i1 x q
      · intro q
        unfold lookK at q
        rw [if_neg e] at q
        rw [valV_neg (p := (j, v)) e]
        exact i2 q
theorem has_look {α : Type} {kk : Key} : ∀ {kvs : List (Key × α)}, hasK kk kvs = (lookK kk kvs).isSome
  | [] => rfl
  | (j, v) :: kvs => by
    unfold hasK lookK
    by_cases e : j = kk
    · rw [if_pos e, decide_eq_true e]
      rfl
    · rw [if_neg e, decide_eq_false e, has_look]
      rfl
theorem has_rep {G : Lk} {kk : Key} {vs : List (Key × V)} {kvs : List (Key × T)} (r : RepK K G vs kvs) : (valV vs kk).isSome = hasK kk kvs := by
  rw [has_look]
  cases q : lookK kk kvs with
  | none =>
    rw [(look_rep r).2 q]
    rfl
  | some x =>
    obtain ⟨v, e, _⟩ := (look_rep r).1 x q
    rw [e]
    rfl
theorem kOf_rep {G : Lk} {v : V} {x : T} {kk : Key} (r : Rep K G v x) (e : kOf x = some kk) : v = kV kk := by
  cases x with
  | int i =>
    cases e
    rw [rep_int r]
    rfl
  | str i =>
    cases e
    rw [rep_str r]
    rfl
  | _ => cases e

/-! ### as it stands now -/
theorem mapO_get {α β : Type} {f : α → Option β} : ∀ {xs : List α} {ys : List β}, mapO f xs = some ys → xs.length = ys.length
  | [], ys, e => by cases e; rfl
  | x :: xs, ys, e => by
    unfold mapO at e
    split at e
    · cases q : mapO f xs with
      | none =>
        rw [q] at e
        cases e
      | some zs =>
        rw [q] at e
        cases e
        exact congrArg Nat.succ (mapO_get q)
    · cases e
def TrOk (K : PySem.W.Frag) (j : Nat) : Prop := ∀ {S : Store} {μ : Nat → Addr} {H F : Hp} {v : V} {d : D} {as : List Addr} {x : T}, Hs K S μ H F → RepN K S.length μ F H v d as → tr j S d = some x → Rep K (Now H) v x
theorem trs_ok {j : Nat} (TT : TrOk K j) (A : Hs K S μ H F) : ∀ {ds : List D} {vs : List V} {as : List Addr} {xs : List T}, RepNs K S.length μ F H vs ds as → mapO (tr j S) ds = some xs → RepL K (Now H) vs xs
  | _, _, _, xs, .nil, e => by
    cases e
    exact .nil
  | d :: ds, _, _, xs, .cons h1 h2, e => by
    unfold mapO at e
    split at e
    · rename_i y q1
      cases q : mapO (tr j S) ds with
      | none =>
        rw [q] at e
        cases e
      | some zs =>
        rw [q] at e
        cases e
        exact .cons (TT A h1 q1) (trs_ok TT A h2 q)
    · cases e
theorem tr_ok : ∀ j, TrOk K j
  | j, S, μ, H, F, v, .t y, as, x, A, r, e => by
    have e' : some y = some x := by cases j <;> exact e
    cases e'
    exact rep_rd A.sub (repT r).1
  | j, S, μ, H, F, v, .new ys, as, x, A, r, e => by
    have e' : some (T.lst ys) = some x := by cases j <;> exact e
    cases e'
    cases r with
    | c r => cases r
    | new h1 h2 => exact .lst (.inl h1) (repL_rd A.sub h2)
  | j, S, μ, H, F, v, .newd ys, as, x, A, r, e => by
    have e' : some (T.dic ys) = some x := by cases j <;> exact e
    cases e'
    cases r with
    | c r => cases r
    | newd h1 h2 => exact .dic (.inl h1) (RepK.mono A.sub h2)
  | 0, S, μ, H, F, v, .newo ys, as, x, A, r, e => by cases e
  | 0, S, μ, H, F, v, .tupo ys, as, x, A, r, e => by cases e
  | 0, S, μ, H, F, v, .cell n, as, x, A, r, e => by cases e
  | j + 1, S, μ, H, F, v, .newo ds, as, x, A, r, e => by
    have e' : (mapO (tr j S) ds).map T.lst = some x := e
    cases q : mapO (tr j S) ds with
    | none =>
      rw [q] at e'
      cases e'
    | some ys =>
      rw [q] at e'
      cases e'
      cases r with
      | c r => cases r
      | newo h1 h2 => exact .lst (.inl h1) (trs_ok (tr_ok j) A h2 q)
  | j + 1, S, μ, H, F, v, .tupo ds, as, x, A, r, e => by
    have e' : (mapO (tr j S) ds).map T.tup = some x := e
    cases q : mapO (tr j S) ds with
    | none =>
      rw [q] at e'
      cases e'
    | some ys =>
      rw [q] at e'
      cases e'
      cases r with
      | c r => cases r
      | tupo h1 h2 => exact .tup (.inl h1) (trs_ok (tr_ok j) A h2 q)
  | j + 1, S, μ, H, F, v, .cell n, as, x, A, r, e => by
    cases r with
    | c r =>
      cases r with
      | cell hn =>
        unfold tr at e
        split at e
        · rename_i xs q
          cases e
          obtain ⟨u, _, hu, ho, h1, h2⟩ := rd_cell A q
          cases u with
          | lst zs =>
            cases hu
            cases ho <;> first | exact h2.elim | exact .lst (.inl h1) (repL_rd A.sub h2)
          | lck o =>
            cases hu
            cases ho <;> first | exact h2.elim | exact .lst (.inl h1) (repL_rd A.sub h2)
          | _ => cases hu
        · rename_i xs q
          cases e
          obtain ⟨u, _, hu, ho, h1, h2⟩ := rd_cell A q
          cases u with
          | dic zs =>
            cases hu
            cases ho <;> first | exact h2.elim | exact .dic (.inl h1) (RepK.mono A.sub h2)
          | lck o =>
            cases hu
            cases ho <;> first | exact h2.elim | skip
            rename_i ob u
            cases u <;> first | exact h2.elim | exact .dic (.inr ⟨_, rfl, _, h1⟩) (RepK.mono A.sub h2)
          | _ => cases hu
        · rename_i ds q
          cases q2 : mapO (tr j S) ds with
          | none =>
            rw [q2] at e
            cases e
          | some ys =>
            rw [q2] at e
            cases e
            obtain ⟨u, _, hu, ho, h1, h2⟩ := rd_cell A q
            cases u with
            | lsto zs =>
              cases hu
              cases ho <;> first | exact h2.elim | exact .lst (.inl h1) (trs_ok (tr_ok j) A h2.toN q2)
            | lck o =>
              cases hu
              cases ho <;> first | exact h2.elim | exact .lst (.inl h1) (trs_ok (tr_ok j) A h2.toN q2)
            | _ => cases hu
        · rename_i ds q
          cases q2 : mapO (tr j S) ds with
          | none =>
            rw [q2] at e
            cases e
          | some ys =>
            rw [q2] at e
            cases e
            obtain ⟨u, _, hu, ho, h1, h2⟩ := rd_cell A q
            cases u with
            | tupo zs =>
              cases hu
              cases ho <;> first | exact h2.elim | exact .tup (.inl h1) (trs_ok (tr_ok j) A h2.toN q2)
            | lck o =>
              cases hu
              cases ho <;> first | exact h2.elim | exact .tup (.inl h1) (trs_ok (tr_ok j) A h2.toN q2)
            | _ => cases hu
        · cases e

/-! ### comparisons by values -/
def KB (Q : VK) : Bool → Store → (Nat → Addr) → Hp → Hp → Prop := fun b _ _ H' _ => Q (.bl b) H'
def CmpS (X : Cx) (fop : Value → Value → Sem Value) (g : D → D → Store → R Bool) : Prop := ∃ r : R2, OpR X fop r ∧ ∀ {er : ER} {W : WX} {L : Nat} {fr : Frame} {σ : L2.St} {S0 S : Store} {μ0 μ : Nat → Addr} {H0 F0 H F : Hp} {Q : VK} {x y : D} {v w : V} {as bs : List Addr},
  Ab X.K fr S μ σ H F → Stp L S0 μ0 H0 F0 S μ H F → RepN X.K S.length μ F H v x as → RepN X.K S.length μ F H w y bs → WR X.K er W L fr σ S0 μ0 H0 F0 (g x y S) (KB Q) → r v w H Q
theorem giveB {d : Bool} {Q : VK} (w : WR K er W L fr σ S0 μ0 H0 F0 (.ok d S) (KB Q)) (A : Ab K fr S μ σ H F) (P : Stp L S0 μ0 H0 F0 S μ H F) : Q (.bl d) H := w μ H F A P
theorem wr_boolD {r : R Bool} {Q : VK} (w : WR K er W L fr σ S0 μ0 H0 F0 (Z.boolD r) (KE K H0 Q)) : WR K er W L fr σ S0 μ0 H0 F0 r (KB Q) :=
  WR.bnd (S := S0) (μ := μ0) (H := H0) (F := F0) w .refl fun b S1 μ1 H1 F1 A1 P1 w1 => giveT w1 A1 P1 (.bl b)
theorem wr_notR {r : R Bool} {Q : VK} (w : WR K er W L fr σ S0 μ0 H0 F0 (notR r) (KB Q)) : WR K er W L fr σ S0 μ0 H0 F0 r (KB fun v H' => ∀ b, v = .bl b → Q (.bl (!b)) H') := by
  cases r with
  | no => exact w
  | ok b S1 =>
    intro μ1 H1 F1 A1 P1 c e
    have e' : b = c := V.bl.inj e
    rw [← e']
    exact w μ1 H1 F1 A1 P1
  | ex c x S1 => exact w
theorem wr_kt {r : R Bool} {Q : Bool → Hp → Prop} (w : WR K er W L fr σ S0 μ0 H0 F0 r (KT Q)) : WR K er W L fr σ S0 μ0 H0 F0 r (KB fun x H' => ∃ k, x = .bl k ∧ Q k H') := by
  cases r with
  | no => exact w
  | ok b S1 => exact fun μ1 H1 F1 A1 P1 => ⟨b, rfl, w μ1 H1 F1 A1 P1⟩
  | ex c x S1 => exact w
theorem sem_cmp {op : CmpOp} {o : CO} (ho : CmpS X (compareOp op) (cmpD o)) (h1 : SemE X gi k a f) (h2 : SemE X gi k b g) (hm : behindInMarks op b = false) : SemE X gi k (.Compare a [op] [b] pos) (Z.cmp o f g) := by
  intro er q lk W tk fr S μ σ H F A Q w
  obtain ⟨r, hr, hn⟩ := ho
  exact ⟨_, pe_cmpR hr pe_sem pe_sem hm, tOp_go h1 h2 lk tk A w fun A2 P2 r1 r2 o2 w2 => hn A2 P2 r1 r2 (wr_boolD w2)⟩
theorem semt_cmp {op : CmpOp} {o : CO} (ho : CmpS X (compareOp op) (cmpD o)) (h1 : SemE X gi k a f) (h2 : SemE X gi k b g) (hm : behindInMarks op b = false) : SemT X gi k (.Compare a [op] [b] pos) (Z.tcmp o f g) := by
  intro er q lk W tk fr S μ σ H F A Q w
  obtain ⟨r, hr, hn⟩ := ho
  refine ⟨_, pt_cmpR hr pe_sem pe_sem hm, ?_⟩
  exact h1.go lk tk A .refl w fun x S1 μ1 H1 F1 v as A1 P1 r1 o1 w1 => h2.go lk tk A1 P1 w1 fun y S2 μ2 H2 F2 u bs A2 P2 r2 o2 w2 => by
    obtain ⟨r1', o1'⟩ := r1.keep o1 P2
    exact hn A2 (P1.trans P2) r1' r2 (wr_kt w2)
theorem isNon_rep {G : Lk} {v : V} {x : T} (h : Rep K G v x) : decide (v = .non) = x.isNon := by
  cases h <;> first | rfl | exact decide_eq_false (by intro z; cases z)
theorem okEq_ok {K : PySem.W.Frag} {H : Hp} {v : V} {x : T} (h : okEq x = true) (r : Rep K (Now H) v x) : Dp K H v x.py ∧ SeqAt.shaped x.py = true := by
  unfold okEq at h
  rw [Bool.and_eq_true] at h
  obtain ⟨_, _, c1, e1, _⟩ := ok_show h.1
  refine ⟨ok_dp h.1 r, ?_⟩
  unfold SeqAt.shaped
  rw [c1, e1]
  have := of_decide_eq_true h.2
  exact decide_eq_true (by omega)
theorem eqC (hu : X.A.units + 64 < cLine) : CmpS X (compareOp .Eq) (cmpD .eq) := by
  refine ⟨_, opr_or op_eq (op_eqD hu), ?_⟩
  intro er W L fr σ S0 S μ0 μ H0 F0 H F Q x y v w as bs A P r1 r2 hw0
  have hw : WR X.K er W L fr σ S0 μ0 H0 F0 (eqD x y S) (KB Q) := hw0
  clear hw0
  unfold eqD at hw
  split at hw
  · rw [rep_int (repT r1).1, rep_int (repT r2).1]
    refine .inl ⟨rfl, ?_⟩
    rw [dec_int]
    exact giveB hw A P
  · rw [rep_str (repT r1).1, rep_str (repT r2).1]
    refine .inl ⟨rfl, ?_⟩
    rw [dec_str]
    exact giveB hw A P
  · split at hw
    · rename_i p e1
      split at hw
      · rename_i t e2
        split at hw
        · rename_i ok
          obtain ⟨d1, s1⟩ := okEq_ok ok.1 (tr_ok 6 A.hs r1 e1)
          obtain ⟨d2, s2⟩ := okEq_ok ok.2 (tr_ok 6 A.hs r2 e2)
          exact .inr ⟨p.py, t.py, d1, d2, s1, s2, giveB hw A P⟩
        · exact hw.elim
      · exact hw.elim
    · exact hw.elim
theorem neC (hu : X.A.units + 64 < cLine) : CmpS X (compareOp .NotEq) (cmpD .ne) := by
  refine ⟨_, opr_or op_ne (op_neD hu), ?_⟩
  intro er W L fr σ S0 S μ0 μ H0 F0 H F Q x y v w as bs A P r1 r2 hw0
  have hw := wr_notR (r := eqD x y S) hw0
  clear hw0
  unfold eqD at hw
  split at hw
  · rw [rep_int (repT r1).1, rep_int (repT r2).1]
    refine .inl ⟨rfl, ?_⟩
    rw [dec_int]
    exact giveB hw A P _ rfl
  · rw [rep_str (repT r1).1, rep_str (repT r2).1]
    refine .inl ⟨rfl, ?_⟩
    rw [dec_str]
    exact giveB hw A P _ rfl
  · split at hw
    · rename_i p e1
      split at hw
      · rename_i t e2
        split at hw
        · rename_i ok
          obtain ⟨d1, s1⟩ := okEq_ok ok.1 (tr_ok 6 A.hs r1 e1)
          obtain ⟨d2, s2⟩ := okEq_ok ok.2 (tr_ok 6 A.hs r2 e2)
          exact .inr ⟨p.py, t.py, d1, d2, s1, s2, giveB hw A P _ rfl⟩
        · exact hw.elim
      · exact hw.elim
    · exact hw.elim
theorem ltC : CmpS X (compareOp .Lt) (cmpD .lt) := by
  refine ⟨_, op_lt, ?_⟩
  intro er W L fr σ S0 S μ0 μ H0 F0 H F Q x y v w as bs A P r1 r2 hw
  unfold cmpD at hw
  split at hw <;> first | (rename_i z; cases z; done) | skip
  all_goals first | exact hw.elim | skip
  · rw [rep_int (repT r1).1, rep_int (repT r2).1]
    exact ⟨_, _, rfl, rfl, giveB hw A P⟩
theorem leC : CmpS X (compareOp .LtE) (cmpD .le) := by
  refine ⟨_, op_le, ?_⟩
  intro er W L fr σ S0 S μ0 μ H0 F0 H F Q x y v w as bs A P r1 r2 hw
  unfold cmpD at hw
  split at hw <;> first | (rename_i z; cases z; done) | skip
  all_goals first | exact hw.elim | skip
  · rw [rep_int (repT r1).1, rep_int (repT r2).1]
    exact ⟨_, _, rfl, rfl, giveB hw A P⟩
theorem gtC : CmpS X (compareOp .Gt) (cmpD .gt) := by
  refine ⟨_, op_gt, ?_⟩
  intro er W L fr σ S0 S μ0 μ H0 F0 H F Q x y v w as bs A P r1 r2 hw
  unfold cmpD at hw
  split at hw <;> first | (rename_i z; cases z; done) | skip
  all_goals first | exact hw.elim | skip
  · rw [rep_int (repT r1).1, rep_int (repT r2).1]
    exact ⟨_, _, rfl, rfl, giveB hw A P⟩
theorem geC : CmpS X (compareOp .GtE) (cmpD .ge) := by
  refine ⟨_, op_ge, ?_⟩
  intro er W L fr σ S0 S μ0 μ H0 F0 H F Q x y v w as bs A P r1 r2 hw
  unfold cmpD at hw
  split at hw <;> first | (rename_i z; cases z; done) | skip
  all_goals first | exact hw.elim | skip
  · rw [rep_int (repT r1).1, rep_int (repT r2).1]
    exact ⟨_, _, rfl, rfl, giveB hw A P⟩
/-- y in d -/
def rDIn (neg : Bool) : R2 := fun y x H Q => ∃ a o, x = .ref a ∧ DGet H a y o ∧ Q (.bl (if neg = true then !o.isSome else o.isSome)) H
theorem op_din (hu : X.A.units + 1 < cLine) : OpR X (compareOp .In) (rDIn false) := by
  intro pins s σ H y x u v Q I ry rx h
  obtain ⟨a, o, rfl, g, q⟩ := h
  obtain rfl : v = Value.ref a := rx
  exact d_in hu I g ry fun s3 I3 => ⟨.bl o.isSome, H, I3, rfl, q⟩
theorem op_dnin (hu : X.A.units + 1 < cLine) : OpR X (compareOp .NotIn) (rDIn true) := by
  intro pins s σ H y x u v Q I ry rx h
  obtain ⟨a, o, rfl, g, q⟩ := h
  obtain rfl : v = Value.ref a := rx
  exact d_notIn hu I g ry fun s3 I3 => ⟨.bl (!o.isSome), H, I3, rfl, q⟩
theorem inC (hu : X.A.units + 64 < cLine) : CmpS X (compareOp .In) (cmpD .in_) := by
  refine ⟨_, opr_or op_in_seq (op_din (by omega)), ?_⟩
  intro er W L fr σ S0 S μ0 μ H0 F0 H F Q x y v w as bs A P r1 r2 hw0
  have hw : WR X.K er W L fr σ S0 μ0 H0 F0 (inD x y S) (KB Q) := hw0
  clear hw0
  unfold inD at hw
  split at hw
  · rename_i f
    split at hw
    · rename_i xs e1
      split at hw
      · rename_i ok
        obtain ⟨a, vs, rfl, h1, g1⟩ := sq_rep A.hs r2 e1
        obtain ⟨i1, i2⟩ := inV_rep (repT r1).1 ok.1 g1 ok.2
        refine .inl ⟨a, vs, rfl, .inl (SqL.of h1), flat_rep (repT r1).1 ok.1, i2, ?_⟩
        rw [i1]
        exact giveB hw A P
      · exact hw.elim
    · split at hw
      · rename_i kvs kk e1 e2
        obtain ⟨a, vs, rfl, h1, g1⟩ := dct_rep A.hs r2 e1
        refine .inr ⟨a, _, rfl, .inl ⟨vs, kk, h1, kOf_rep (repT r1).1 e2, rfl⟩, ?_⟩
        rw [has_rep g1]
        exact giveB hw A P
      · exact hw.elim
  · exact hw.elim
theorem ninC (hu : X.A.units + 64 < cLine) : CmpS X (compareOp .NotIn) (cmpD .nin) := by
  refine ⟨_, opr_or op_notIn_seq (op_dnin (by omega)), ?_⟩
  intro er W L fr σ S0 S μ0 μ H0 F0 H F Q x y v w as bs A P r1 r2 hw0
  have hw := wr_notR (r := inD x y S) hw0
  clear hw0
  unfold inD at hw
  split at hw
  · rename_i f
    split at hw
    · rename_i xs e1
      split at hw
      · rename_i ok
        obtain ⟨a, vs, rfl, h1, g1⟩ := sq_rep A.hs r2 e1
        obtain ⟨i1, i2⟩ := inV_rep (repT r1).1 ok.1 g1 ok.2
        refine .inl ⟨a, vs, rfl, .inl (SqL.of h1), flat_rep (repT r1).1 ok.1, i2, ?_⟩
        rw [i1]
        exact giveB hw A P _ rfl
      · exact hw.elim
    · split at hw
      · rename_i kvs kk e1 e2
        obtain ⟨a, vs, rfl, h1, g1⟩ := dct_rep A.hs r2 e1
        refine .inr ⟨a, _, rfl, .inl ⟨vs, kk, h1, kOf_rep (repT r1).1 e2, rfl⟩, ?_⟩
        rw [has_rep g1]
        exact giveB hw A P _ rfl
      · exact hw.elim
  · exact hw.elim
/-- x is None -/
theorem ref_ne {v : V} {d : D} (r : RepN K S.length μ F H v d as) (n : ∀ x, d ≠ .t x) : decide (v = .non) = false := by
  cases r with
  | c r =>
    cases r with
    | t _ => exact absurd rfl (n _)
    | cell _ => exact decide_eq_false (by intro z; cases z)
  | _ => exact decide_eq_false (by intro z; cases z)
theorem sem_isN {j : Nat} {pp : Pos} (h1 : SemE X gi k a f) : SemE X gi k (.Compare a [.Is] [.Constant .none j pp] pos) (Z.cmp .is_ f (Z.k .non)) := by
  intro er q lk W tk fr S μ σ H F A Q w
  refine ⟨_, pe_cmp (pc_isN pe_sem) (nobehind _ (by decide) (by decide)), h1.go lk tk A .refl w fun d S1 μ1 H1 F1 v as A1 P1 r1 o1 w1 => ?_⟩
  have w2 := wr_boolD w1
  unfold cmpD at w2
  simp only at w2
  split at w2
  · rw [isNon_rep (repT r1).1]
    exact giveB w2 A1 P1
  · rename_i n
    rw [ref_ne r1 n]
    exact giveB w2 A1 P1
theorem sem_notN {j : Nat} {pp : Pos} (h1 : SemE X gi k a f) : SemE X gi k (.Compare a [.IsNot] [.Constant .none j pp] pos) (Z.cmp .isn f (Z.k .non)) := by
  intro er q lk W tk fr S μ σ H F A Q w
  refine ⟨_, pe_cmp (pc_notN pe_sem) (nobehind _ (by decide) (by decide)), h1.go lk tk A .refl w fun d S1 μ1 H1 F1 v as A1 P1 r1 o1 w1 => ?_⟩
  have w2 := wr_boolD w1
  unfold cmpD at w2
  simp only at w2
  split at w2
  · rw [isNon_rep (repT r1).1]
    exact giveB w2 A1 P1
  · rename_i n
    rw [ref_ne r1 n]
    exact giveB w2 A1 P1
end
end Mi

set_option Elab.async false
set_option linter.all false
set_option maxRecDepth 100000
set_option maxHeartbeats 4000000
/-! N9: tests, subscripts, slices -/
namespace Mi
open PySem PySem.Spec PyProof.Rows L2
section
variable {X : Cx} {gi : GI} {k : Nat} {N : List Str} {sc : Scope} {pos p1 : Pos} {e a b c i : Expr} {es rest : List Expr} {f g h : XE} {fa ga : XA} {ft gt : XT}
variable {er : ER} {W : WX} {L : Nat} {fr : Frame} {σ : L2.St} {S S1 S2 S0 : Store} {μ μ1 μ2 μ0 : Nat → Addr} {H H1 H2 H0 F F1 F2 F0 : Hp} {as bs : List Addr} {K : PySem.W.Frag}

/-! ### lists and tuples of anything -/
theorem RepNs.get {M : Nat} : ∀ {vs : List V} {ds : List D} {as : List Addr} {j : Nat} {d : D}, RepNs K M μ F H vs ds as → ds[j]? = some d → ∃ v bs, vs[j]? = some v ∧ RepN K M μ F H v d bs ∧ bs.Sublist as
  | _, _, _, j, d, .nil, e => by simp at e
  | _, _, _, 0, d, .cons (as := as) (bs := bs) h t, e => by
    cases e
    exact ⟨_, _, rfl, h, List.sublist_append_left ..⟩
  | _, _, _, j + 1, d, .cons (as := as) (bs := bs) h t, e => by
    obtain ⟨v, cs, e1, e2, e3⟩ := RepNs.get (j := j) t e
    exact ⟨v, cs, e1, e2, e3.trans (List.sublist_append_right ..)⟩
theorem Own.sub (o : Own as H0 F μ S) (h : bs.Sublist as) : Own bs H0 F μ S := ⟨o.nd.sublist h, fun a ha => o.fr a (h.subset ha)⟩
theorem RepL.toN {M : Nat} : ∀ {vs : List V} {xs : List T}, RepL K (At F) vs xs → RepNs K M μ F H vs (xs.map D.t) []
  | _, _, .nil => .nil
  | _, _, .cons h t => .cons (as := []) (bs := []) (.c (.t h)) (RepL.toN t)
theorem sqd_rep (A : Hs K S μ H F) {v : V} {x : D} {ds : List D} (r : RepN K S.length μ F H v x as) (e : sqd S x = some ds) : ∃ a vs bs, v = .ref a ∧ (H a = some (.lst vs) ∨ H a = some (.tup vs)) ∧ RepNs K S.length μ F H vs ds bs ∧ bs.Sublist as := by
  have viaT : ∀ {xs : List T}, sq S x = some xs → ds = xs.map D.t → ∃ a vs bs, v = .ref a ∧ (H a = some (.lst vs) ∨ H a = some (.tup vs)) ∧ RepNs K S.length μ F H vs ds bs ∧ bs.Sublist as := fun {xs} q1 q2 => by
    subst q2
    obtain ⟨a, vs, rfl, h1, h2⟩ := sq_rep A r q1
    exact ⟨a, vs, [], rfl, .inl h1, h2.toN, List.nil_sublist _⟩
  have fin : (sq S x).map (fun xs => xs.map D.t) = some ds → ∃ a vs bs, v = .ref a ∧ (H a = some (.lst vs) ∨ H a = some (.tup vs)) ∧ RepNs K S.length μ F H vs ds bs ∧ bs.Sublist as := fun q => by
    cases q1 : sq S x with
    | none =>
      rw [q1] at q
      cases q
    | some xs =>
      rw [q1] at q
      cases q
      exact viaT q1 rfl
  cases r with
  | c r =>
    cases r with
    | t r =>
      rename_i y
      cases y with
      | tup ys =>
        cases e
        obtain ⟨a, vs, rfl, h1, h2⟩ := rep_tup r
        exact ⟨a, vs, [], rfl, .inr (now_tup (A.sub _ _ h1)), h2.toN, List.nil_sublist _⟩
      | _ => exact fin e
    | cell hn =>
      rename_i n
      unfold sqd at e
      simp only at e
      split at e
      · rename_i ys q
        cases e
        refine viaT (xs := ys) ?_ rfl
        unfold sq
        simp only [q]
      · rename_i ys q
        cases e
        obtain ⟨u, _, hu, ho, h1, h2⟩ := rd_cell A q
        cases u with
        | lsto zs =>
          cases hu
          cases ho <;> first | exact h2.elim | skip
          exact ⟨_, _, [], rfl, .inl h1, h2.toN, List.nil_sublist _⟩
        | lck o =>
          cases hu
          cases ho <;> first | exact h2.elim | skip
          exact ⟨_, _, [], rfl, .inl h1, h2.toN, List.nil_sublist _⟩
        | _ => cases hu
      · rename_i ys q
        cases e
        obtain ⟨u, _, hu, ho, h1, h2⟩ := rd_cell A q
        cases u with
        | tupo zs =>
          cases hu
          cases ho <;> first | exact h2.elim | skip
          exact ⟨_, _, [], rfl, .inr h1, h2.toN, List.nil_sublist _⟩
        | lck o =>
          cases hu
          cases ho <;> first | exact h2.elim | skip
          exact ⟨_, _, [], rfl, .inr h1, h2.toN, List.nil_sublist _⟩
        | _ => cases hu
      · cases e
  | new h1 h2 =>
    cases e
    exact ⟨_, _, [], rfl, .inl h1, h2.toN, List.nil_sublist _⟩
  | newd _ _ => exact fin e
  | newo h1 h2 =>
    cases e
    exact ⟨_, _, _, rfl, .inl h1, h2, List.sublist_cons_self ..⟩
  | tupo h1 h2 =>
    cases e
    exact ⟨_, _, _, rfl, .inr h1, h2, List.sublist_cons_self ..⟩

/-! ### truth -/
theorem wr_bndB {r : R Bool} {γ : Type} {gg : Bool → Store → R γ} {j : γ → Store → (Nat → Addr) → Hp → Hp → Prop} (w : WR K er W L fr σ S0 μ0 H0 F0 (r.bnd gg) j) (P : Stp L S0 μ0 H0 F0 S μ H F) (A : Ab K fr S μ σ H F) (hr : ∃ b, r = .ok b S) : ∃ b, r = .ok b S ∧ WR K er W L fr σ S0 μ0 H0 F0 (gg b S) j := by
  obtain ⟨b, e⟩ := hr
  rw [e] at w
  exact ⟨b, e, w⟩
theorem isEmpty_len {α β : Type} {xs : List α} {ys : List β} (h : xs.length = ys.length) : xs.isEmpty = ys.isEmpty := by
  cases xs <;> cases ys <;> first | rfl | cases h
/-- the truth of a value -/
theorem tru_rep {x : D} {v : V} (A : Hs K S μ H F) (r : RepN K S.length μ F H v x as) : truD x S = .no ∨ ∃ b, truD x S = .ok b S ∧ TruV K v H b := by
  have seq : ∀ {ds : List D}, sqd S x = some ds → TruV K v H (!ds.isEmpty) := fun {ds} e => by
    obtain ⟨a, vs, bs, rfl, h1, h2, _⟩ := sqd_rep A r e
    rw [← isEmpty_len h2.length]
    rcases h1 with h1 | h1
    · exact .inl ⟨vs, SqL.of h1, rfl⟩
    · exact .inr (.inl ⟨vs, SqT.of h1, rfl⟩)
  unfold truD
  split
  · rw [rep_bl (repT r).1]
    exact .inr ⟨_, rfl, rfl⟩
  · rename_i i
    rw [rep_int (repT r).1]
    refine .inr ⟨_, rfl, ?_⟩
    show decide (i ≠ 0) = (i != 0)
    rw [Bool.eq_iff_iff, decide_eq_true_iff, bne_iff_ne]
  · rw [rep_non (repT r).1]
    exact .inr ⟨_, rfl, rfl⟩
  · split
    · rename_i ds e
      exact .inr ⟨_, rfl, seq e⟩
    · exact .inl rfl
theorem wr_tru {x : D} {v : V} {γ : Type} {gg : Bool → Store → R γ} {j : γ → Store → (Nat → Addr) → Hp → Hp → Prop} (A : Hs K S μ H F) (r : RepN K S.length μ F H v x as) (w : WR K er W L fr σ S0 μ0 H0 F0 ((truD x S).bnd gg) j) : ∃ b, TruV K v H b ∧ WR K er W L fr σ S0 μ0 H0 F0 (gg b S) j := by
  rcases tru_rep A r with e | ⟨b, e, t⟩
  · rw [e] at w
    exact w.elim
  · rw [e] at w
    exact ⟨b, t, w⟩
theorem bnd_id {β : Type} (r : R β) : (r.bnd fun b S => .ok b S) = r := by cases r <;> rfl
theorem semt_val (h1 : SemE X gi k a f) (he : ∀ whole, isTrue a X.env whole = (do let v ← whole; standAt a.pos; holding [v] (truthy v))) : SemT X gi k a (Z.tval f) := by
  intro er q lk W tk fr S μ σ H F A Q w
  refine ⟨_, pt_truth pe_sem he, h1.go lk tk A .refl w fun d S1 μ1 H1 F1 v as A1 P1 r1 o1 w1 => ?_⟩
  rw [← bnd_id (truD d S1)] at w1
  obtain ⟨b, t, w2⟩ := wr_tru A1.hs r1 w1
  exact ⟨b, t, w2 μ1 H1 F1 A1 P1⟩
theorem semt_not (h1 : SemT X gi k a ft) : SemT X gi k (.UnaryOp .Not a pos) (Z.tnot ft) := by
  intro er q lk W tk fr S μ σ H F A Q w
  exact ⟨_, pt_not pt_sem, h1.go lk tk A .refl w fun b S1 μ1 H1 F1 A1 P1 w1 => w1 μ1 H1 F1 A1 P1⟩
def SemW (X : Cx) (gi : GI) (k : Nat) (e : Expr) (f : XT) : Prop := ∀ er q, Lnk X gi k er q → ∀ W, Takes X W → ∀ fr S μ σ H F, Ab X.K fr S μ σ H F → ∀ Q, WR X.K er W q.L fr σ S μ H F (f q fr S) (KT Q) → semW X e σ H Q
theorem semt_w (h1 : SemW X gi k a ft) : SemT X gi k a ft := by
  intro er q lk W tk fr S μ σ H F A Q w
  exact ⟨_, PW.pt pw_sem, h1 er q lk W tk fr S μ σ H F A Q w⟩
theorem semw_and1 (h1 : SemT X gi k a ft) : SemW X gi k (.BoolOp .And [a] pos) ft := by
  intro er q lk W tk fr S μ σ H F A Q w
  exact ⟨_, pw_and1 pt_sem, h1 er q lk W tk fr S μ σ H F A Q w⟩
theorem semw_or1 (h1 : SemT X gi k a ft) : SemW X gi k (.BoolOp .Or [a] pos) ft := by
  intro er q lk W tk fr S μ σ H F A Q w
  exact ⟨_, pw_or1 pt_sem, h1 er q lk W tk fr S μ σ H F A Q w⟩
theorem semw_and (h1 : SemT X gi k a ft) (h2 : SemW X gi k (.BoolOp .And (b :: rest) pos) gt) : SemW X gi k (.BoolOp .And (a :: b :: rest) pos) (Z.tand ft gt) := by
  intro er q lk W tk fr S μ σ H F A Q w
  refine ⟨_, pw_and pt_sem pw_sem, h1.go lk tk A .refl w fun t S1 μ1 H1 F1 A1 P1 w1 => ?_⟩
  cases t with
  | true =>
    rw [if_pos rfl] at w1 ⊢
    refine h2 er q lk W tk fr S1 μ1 σ H1 F1 A1 Q ?_
    rw [← bnd_id (gt q fr S1)] at w1
    exact w1.bnd P1 fun t2 S2 μ2 H2 F2 A2 P2 w2 => w2 μ2 H2 F2 A2 (P1.trans P2)
  | false =>
    rw [if_neg Bool.false_ne_true] at w1 ⊢
    exact w1 μ1 H1 F1 A1 P1
theorem semw_or (h1 : SemT X gi k a ft) (h2 : SemW X gi k (.BoolOp .Or (b :: rest) pos) gt) : SemW X gi k (.BoolOp .Or (a :: b :: rest) pos) (Z.tor ft gt) := by
  intro er q lk W tk fr S μ σ H F A Q w
  refine ⟨_, pw_or pt_sem pw_sem, h1.go lk tk A .refl w fun t S1 μ1 H1 F1 A1 P1 w1 => ?_⟩
  cases t with
  | true =>
    rw [if_pos rfl] at w1 ⊢
    exact w1 μ1 H1 F1 A1 P1
  | false =>
    rw [if_neg Bool.false_ne_true] at w1 ⊢
    refine h2 er q lk W tk fr S1 μ1 σ H1 F1 A1 Q ?_
    rw [← bnd_id (gt q fr S1)] at w1
    exact w1.bnd P1 fun t2 S2 μ2 H2 F2 A2 P2 w2 => w2 μ2 H2 F2 A2 (P1.trans P2)
/-- a op b op c -/
theorem tch_go {op op' : CmpOp} {o o' : CO} {r r' : R2}
    (n1 : ∀ {er : ER} {W : WX} {L : Nat} {fr : Frame} {σ : L2.St} {S0 S : Store} {μ0 μ : Nat → Addr} {H0 F0 H F : Hp} {Q : VK} {x y : D} {v w : V} {as bs : List Addr}, Ab X.K fr S μ σ H F → Stp L S0 μ0 H0 F0 S μ H F → RepN X.K S.length μ F H v x as → RepN X.K S.length μ F H w y bs → WR X.K er W L fr σ S0 μ0 H0 F0 (cmpD o x y S) (KB Q) → r v w H Q)
    (n2 : ∀ {er : ER} {W : WX} {L : Nat} {fr : Frame} {σ : L2.St} {S0 S : Store} {μ0 μ : Nat → Addr} {H0 F0 H F : Hp} {Q : VK} {x y : D} {v w : V} {as bs : List Addr}, Ab X.K fr S μ σ H F → Stp L S0 μ0 H0 F0 S μ H F → RepN X.K S.length μ F H v x as → RepN X.K S.length μ F H w y bs → WR X.K er W L fr σ S0 μ0 H0 F0 (cmpD o' x y S) (KB Q) → r' v w H Q)
    (h1 : SemE X gi k a f) (h2 : SemE X gi k b g) (h3 : SemE X gi k c h) {q : Q} (lk : Lnk X gi k er q) (tk : Takes X W) (A : Ab X.K fr S μ σ H F) {Q : VK} (w : WR X.K er W q.L fr σ S μ H F (Z.tch o o' f g h q fr S) (KB Q)) :
    tChain r r' (semE X a) (semE X b) (semE X c) σ H Q := by
  refine h1.go lk tk A .refl w fun x S1 μ1 H1 F1 v as A1 P1 r1 o1 w1 => h2.go lk tk A1 P1 w1 fun y S2 μ2 H2 F2 u bs A2 P2 r2 o2 w2 => ?_
  obtain ⟨r1', o1'⟩ := r1.keep o1 P2
  have P12 := P1.trans P2
  refine n1 A2 (.refl (L := q.L)) r1' r2 (er := er) (W := fun cls dx σ H' => True) ?_
  cases e : cmpD o x y S2 with
  | no =>
    rw [e] at w2
    exact w2.elim
  | ex c x S3 => exact fun _ _ _ _ _ _ _ _ => trivial
  | ok t S3 =>
    rw [e] at w2
    intro μ3 H3 F3 A3 P3
    refine ⟨t, rfl, ?_⟩
    obtain ⟨r2', o2'⟩ := r2.keep o2 P3
    cases t with
    | true =>
      rw [bnd_ok, if_pos rfl] at w2
      rw [if_pos rfl]
      refine h3.go lk tk A3 (P12.trans P3) w2 fun z S4 μ4 H4 F4 w' cs A4 P4 r4 o4 w4 => ?_
      obtain ⟨r2'', _⟩ := r2'.keep o2' P4
      exact n2 A4 (P12.trans (P3.trans P4)) r2'' r4 w4
    | false =>
      rw [bnd_ok, if_neg Bool.false_ne_true] at w2
      rw [if_neg Bool.false_ne_true]
      exact w2 μ3 H3 F3 A3 (P12.trans P3)
theorem sem_ch {op op' : CmpOp} {o o' : CO} (ho : CmpS X (compareOp op) (cmpD o)) (ho' : CmpS X (compareOp op') (cmpD o')) (h1 : SemE X gi k a f) (h2 : SemE X gi k b g) (h3 : SemE X gi k c h) (hm : lastMarks [op, op'] [b, c] = false) : SemE X gi k (.Compare a [op, op'] [b, c] pos) (Z.ch o o' f g h) := by
  intro er q lk W tk fr S μ σ H F A Q w
  obtain ⟨r, hr, hn⟩ := ho
  obtain ⟨r', hr', hn'⟩ := ho'
  exact ⟨_, pe_chain hr hr' pe_sem pe_sem pe_sem hm, tch_go (op := op) (op' := op') hn hn' h1 h2 h3 lk tk A (wr_boolD w)⟩
theorem semt_ch {op op' : CmpOp} {o o' : CO} (ho : CmpS X (compareOp op) (cmpD o)) (ho' : CmpS X (compareOp op') (cmpD o')) (h1 : SemE X gi k a f) (h2 : SemE X gi k b g) (h3 : SemE X gi k c h) (hm : lastMarks [op, op'] [b, c] = false) : SemT X gi k (.Compare a [op, op'] [b, c] pos) (Z.tch o o' f g h) := by
  intro er q lk W tk fr S μ σ H F A Q w
  obtain ⟨r, hr, hn⟩ := ho
  obtain ⟨r', hr', hn'⟩ := ho'
  exact ⟨_, pt_chain hr hr' pe_sem pe_sem pe_sem hm, tch_go (op := op) (op' := op') hn hn' h1 h2 h3 lk tk A (wr_kt w)⟩

/-! ### not, and, or, if as values; minus -/
theorem sem_neg (h1 : SemE X gi k a f) : SemE X gi k (.UnaryOp .USub a pos) (Z.neg f) := by
  intro er q lk W tk fr S μ σ H F A Q w
  refine ⟨_, pe_un un_neg pe_sem, h1.go lk tk A .refl w fun d S1 μ1 H1 F1 v as A1 P1 r1 o1 w1 => ?_⟩
  split at w1
  · rw [rep_int (repT r1).1]
    exact ⟨_, rfl, giveT w1 A1 P1 (.int _)⟩
  · exact w1.elim
theorem sem_not (h1 : SemE X gi k a f) : SemE X gi k (.UnaryOp .Not a pos) (Z.not f) := by
  intro er q lk W tk fr S μ σ H F A Q w
  refine ⟨_, pe_notT pe_sem, h1.go lk tk A .refl w fun d S1 μ1 H1 F1 v as A1 P1 r1 o1 w1 => ?_⟩
  obtain ⟨b, t, w2⟩ := wr_tru A1.hs r1 w1
  exact ⟨b, t, giveT w2 A1 P1 (.bl _)⟩
theorem sem_one {op : BoolOp} (h1 : SemE X gi k a f) : SemE X gi k (.BoolOp op [a] pos) f := by
  intro er q lk W tk fr S μ σ H F A Q w
  exact ⟨_, pe_one pe_sem, h1 er q lk W tk fr S μ σ H F A Q w⟩
theorem wr_rest {r : R D} {Q : VK} (w : WR K er W L fr σ S0 μ0 H0 F0 r (KE K H0 Q)) (P : Stp L S0 μ0 H0 F0 S μ H F) : WR K er W L fr σ S μ H F r (KE K H Q) := by
  rw [← bnd_id r] at w
  exact w.bnd P fun d S1 μ1 H1 F1 A1 P1 w1 v as r o => w1 μ1 H1 F1 A1 (P.trans P1) v as r (o.start P.dom)
theorem sem_and (h1 : SemE X gi k a f) (h2 : SemE X gi k (.BoolOp .And (b :: rest) pos) g) : SemE X gi k (.BoolOp .And (a :: b :: rest) pos) (Z.and f g) := by
  intro er q lk W tk fr S μ σ H F A Q w
  refine ⟨_, pe_andT pe_sem pe_sem, h1.go lk tk A .refl w fun d S1 μ1 H1 F1 v as A1 P1 r1 o1 w1 => ?_⟩
  obtain ⟨t, tv, w2⟩ := wr_tru A1.hs r1 w1
  refine ⟨t, tv, ?_⟩
  cases t with
  | true =>
    rw [if_pos rfl] at w2 ⊢
    exact h2 er q lk W tk fr S1 μ1 σ H1 F1 A1 Q (wr_rest w2 P1)
  | false =>
    rw [if_neg Bool.false_ne_true] at w2 ⊢
    exact give w2 A1 P1 r1 o1
theorem sem_or (h1 : SemE X gi k a f) (h2 : SemE X gi k (.BoolOp .Or (b :: rest) pos) g) : SemE X gi k (.BoolOp .Or (a :: b :: rest) pos) (Z.or f g) := by
  intro er q lk W tk fr S μ σ H F A Q w
  refine ⟨_, pe_orT pe_sem pe_sem, h1.go lk tk A .refl w fun d S1 μ1 H1 F1 v as A1 P1 r1 o1 w1 => ?_⟩
  obtain ⟨t, tv, w2⟩ := wr_tru A1.hs r1 w1
  refine ⟨t, tv, ?_⟩
  cases t with
  | true =>
    rw [if_pos rfl] at w2 ⊢
    exact give w2 A1 P1 r1 o1
  | false =>
    rw [if_neg Bool.false_ne_true] at w2 ⊢
    exact h2 er q lk W tk fr S1 μ1 σ H1 F1 A1 Q (wr_rest w2 P1)
theorem sem_ife (h1 : SemT X gi k c ft) (h2 : SemE X gi k a f) (h3 : SemE X gi k b g) : SemE X gi k (.IfExp c a b pos) (Z.ife ft f g) := by
  intro er q lk W tk fr S μ σ H F A Q w
  refine ⟨_, pe_ifExp pt_sem pe_sem pe_sem, h1.go lk tk A .refl w fun t S1 μ1 H1 F1 A1 P1 w1 => ?_⟩
  cases t with
  | true =>
    rw [if_pos rfl] at w1 ⊢
    exact h2 er q lk W tk fr S1 μ1 σ H1 F1 A1 Q (wr_rest w1 P1)
  | false =>
    rw [if_neg Bool.false_ne_true] at w1 ⊢
    exact h3 er q lk W tk fr S1 μ1 σ H1 F1 A1 Q (wr_rest w1 P1)

/-! ### subscripts -/
def rIxD : R2 := fun x y H Q => ∃ a v, x = .ref a ∧ DGet H a y (some v) ∧ Q v H
theorem ix_dict (hu : X.A.units + 1 < cLine) : IxR X rIxD := by
  intro value slice pins s σ H x y v u Q I rx ry h hs
  obtain ⟨a, z, rfl, g, q⟩ := h
  obtain rfl : v = Value.ref a := rx
  have hT := dict_typeIs I g
  unfold subscriptTail
  refine wpAny_bind ?_
  rw [getitemInPython_of_ne hT.not_modules]
  refine wpAny_bind (wpAny_specialOf hT PySem.F.slot_dict_getitem.lookup ?_)
  have fin : wpAny (model X.prog X.w) X.A (subscripted slice false (.ref a) u) (fun r s₃ => wpAny (model X.prog X.w) X.A (letTemporaryGo value (.ref a) r >>= fun _ => pure r) (EP X pins σ Q) X.xe s₃) X.xe s := by
    rw [hs]
    exact wpAny_operating (d_getItem hu I g ry fun w' s3 I3 rw' => wpAny_bind (wpAny_letTemporaryGo (wpAny_pure ⟨z, H, I3, rw', q⟩)))
  first
    | exact wpAny_pure (wpAny_bind fin)
    | exact wpAny_bind (wpAny_pure (wpAny_bind fin))
    | exact wpAny_bind fin
theorem sem_ix (hu : X.A.units + 64 < cLine) (h1 : SemE X gi k a f) (h2 : SemE X gi k b g) (hs : PlainIx b) : SemE X gi k (.Subscript a b pos) (Z.ix f g) := by
  intro er q lk W tk fr S μ σ H F A Q w
  refine ⟨_, pe_ix (ix_list.or (ix_tup.or (ix_dict (by omega)))) pe_sem pe_sem hs, tOp_go h1 h2 lk tk A w ?_⟩
  intro S2 μ2 H2 F2 x y v u as bs A2 P2 r1 r2 o w2
  unfold ixD at w2
  split at w2
  · rename_i i
    rw [rep_int (repT r2).1]
    split at w2
    · rename_i ds e1
      split at w2
      · rename_i d e2
        obtain ⟨p, vs, cs, rfl, h1, h2, hsub⟩ := sqd_rep A2.hs r1 e1
        cases e3 : ixN ds.length i with
        | none =>
          rw [e3] at e2
          cases e2
        | some j =>
          rw [e3] at e2
          have e2' : ds[j]? = some d := e2
          obtain ⟨z, bs', g1, g2, g3⟩ := h2.get e2'
          have hz := give w2 A2 P2 g2 (o.left.sub (g3.trans hsub))
          have at1 : atI vs i = some z := by
            unfold atI
            rw [h2.length, e3]
            exact g1
          rcases h1 with h1 | h1
          · exact .inl ⟨p, vs, i, z, rfl, rfl, SqL.of h1, at1, hz⟩
          · exact .inr (.inl ⟨p, vs, i, z, rfl, rfl, SqT.of h1, at1, hz⟩)
      · exact w2.elim
    · split at w2
      · rename_i kvs e1
        split at w2
        · rename_i y e2
          obtain ⟨p, vs, rfl, h1, h2⟩ := dct_rep A2.hs r1 e1
          obtain ⟨z, e3, rz⟩ := (look_rep h2).1 _ e2
          exact .inr (.inr ⟨p, z, rfl, .inl ⟨vs, _, h1, rfl, e3.symm⟩, giveT w2 A2 P2 rz⟩)
        · exact w2.elim
      · split at w2
        · split at w2
          · rename_i kvs e1
            split at w2
            · rename_i d e2
              cases r1 with
              | c r1 =>
                cases r1 with
                | cell hn =>
                  obtain ⟨uo, _, hu, ho, g1, g2⟩ := rd_cell A2.hs e1
                  have core : ∀ {p : Addr} {vs : List (Key × V)}, Rd H2 p (.dK vs) → RepCK X.K S2.length μ2 F2 vs kvs → rIxD (.ref p) (.int i) H2 Q := fun {p vs} hr hc => by
                    have look : ∀ {vs : List (Key × V)} {kvs : List (Key × D)}, RepCK X.K S2.length μ2 F2 vs kvs → lookK (.inl i) kvs = some d → ∃ z, valV vs (.inl i) = some z ∧ RepC X.K S2.length μ2 F2 z d := by
                      intro vs kvs hc
                      induction hc with
                      | nil =>
                        intro z
                        cases z
                      | cons h t ih =>
                        rename_i kk v' vs' d' ds'
                        intro z
                        unfold lookK at z
                        by_cases ek : kk = .inl i
                        · rw [if_pos ek] at z
                          cases z
                          exact ⟨_, valV_pos ek, h⟩
                        · rw [if_neg ek] at z
                          rw [valV_neg (p := (kk, v')) ek]
                          exact ih z
                    obtain ⟨z, e3, rz⟩ := look hc e2
                    exact ⟨_, z, rfl, .inl ⟨vs, _, hr, rfl, e3.symm⟩, give w2 A2 P2 (.c rz) .nil⟩
                  cases uo with
                  | dico zs =>
                    cases hu
                    cases ho <;> first | exact g2.elim | exact .inr (.inr (core (.inl g1) g2))
                  | lck o =>
                    cases hu
                    cases ho <;> first | exact g2.elim | skip
                    rename_i ob u
                    cases u <;> first | exact g2.elim | exact .inr (.inr (core (.inr ⟨_, g1⟩) g2))
                  | _ => cases hu
            · exact w2.elim
          · exact w2.elim
        · exact w2.elim
  · rename_i kk
    rw [rep_str (repT r2).1]
    split at w2
    · rename_i kvs e1
      split at w2
      · rename_i y e2
        obtain ⟨p, vs, rfl, h1, h2⟩ := dct_rep A2.hs r1 e1
        obtain ⟨z, e3, rz⟩ := (look_rep h2).1 _ e2
        exact .inr (.inr ⟨p, z, rfl, .inl ⟨vs, _, h1, rfl, e3.symm⟩, giveT w2 A2 P2 rz⟩)
      · exact w2.elim
    · exact w2.elim
  · exact w2.elim
/-! slices -/
def SemO (X : Cx) (gi : GI) (k : Nat) (e : Option Expr) (f : Option XE) : Prop := match e, f with
  | none, none => True
  | some e, some f => SemE X gi k e f
  | _, _ => False
theorem SemO.go {e : Option Expr} {f : Option XE} (h : SemO X gi k e f) {q : Q} (lk : Lnk X gi k er q) (tk : Takes X W) (A : Ab X.K fr S μ σ H F) (P : Stp q.L S0 μ0 H0 F0 S μ H F) {γ : Type} {g : Option Int → Store → R γ} {j : γ → Store → (Nat → Addr) → Hp → Hp → Prop} (w : WR X.K er W q.L fr σ S0 μ0 H0 F0 ((Z.opt f q fr S).bnd g) j) {Q : Option Int → Hp → Prop}
    (n : ∀ b S1 μ1 H1 F1, Ab X.K fr S1 μ1 σ H1 F1 → Stp q.L S μ H F S1 μ1 H1 F1 → WR X.K er W q.L fr σ S0 μ0 H0 F0 (g b S1) j → Q b H1) : semO X e σ H Q := by
  cases e with
  | none =>
    cases f with
    | none => exact ⟨_, po_none, n none S μ H F A .refl w⟩
    | some f => exact h.elim
  | some e =>
    cases f with
    | none => exact h.elim
    | some f =>
      have h' : SemE X gi k e f := h
      have w' : WR X.K er W q.L fr σ S0 μ0 H0 F0 ((f q fr S).bnd fun x S1 => (match x with
        | .t (.int i) => R.ok (some i) S1
        | _ => .no).bnd g) j := by
        have w0 : WR X.K er W q.L fr σ S0 μ0 H0 F0 (((f q fr S).bnd fun x S1 => (match x with
          | .t (.int i) => R.ok (some i) S1
          | _ => .no)).bnd g) j := w
        clear w
        generalize f q fr S = r at w0 ⊢
        cases r with
        | no => exact w0
        | ok d S1 => exact w0
        | ex c x S1 => exact w0
      refine ⟨_, po_some pe_sem, h'.go lk tk A P w' fun d S1 μ1 H1 F1 v as A1 P1 r1 o1 w1 => ?_⟩
      split at w1
      · rw [rep_int (repT r1).1]
        exact ⟨_, rfl, n _ S1 μ1 H1 F1 A1 P1 w1⟩
      · exact w1.elim
theorem cut_rep {G : Lk} {vs : List V} {xs : List T} {lo hi : Option Int} (h : RepL K G vs xs) : RepL K G (cutV vs lo hi) (cut xs lo hi) := by
  unfold cutV cut
  rw [h.length]
  exact (h.drop _).take _
theorem sqS_rep (A : Hs K S μ H F) {v : V} {x : D} {xs : List T} (r : RepN K S.length μ F H v x as) (e : sqS S x = some xs) : ∃ a vs, v = .ref a ∧ SqL K H a vs ∧ RepL K (At F) vs xs := by
  unfold sqS at e
  split at e
  · cases e
    obtain ⟨a, rfl, h⟩ := rep_scr (repT r).1
    refine ⟨a, _, rfl, ?_, RepL.of_ints⟩
    rcases h with ⟨o, h⟩ | h
    · exact .inl (.inr ⟨o, now_ex (A.sub _ _ h) fun _ z => by cases z⟩)
    · exact h H
  · obtain ⟨a, vs, rfl, h1, h2⟩ := sq_rep A r e
    exact ⟨a, vs, rfl, SqL.of h1, h2⟩
theorem sem_sl {lo hi : Option Expr} {fl fh : Option XE} {q2 : Pos} (h1 : SemE X gi k a f) (h2 : SemO X gi k lo fl) (h3 : SemO X gi k hi fh) : SemE X gi k (.Subscript a (.Slice lo hi none q2) pos) (Z.sl f fl fh) := by
  intro er q lk W tk fr S μ σ H F A Q w
  refine ⟨_, pe_slice sl_list pe_sem po_sem po_sem, h1.go lk tk A .refl w fun x S1 μ1 H1 F1 v as A1 P1 r1 o1 w1 => h2.go lk tk A1 P1 w1 fun l S2 μ2 H2 F2 A2 P2 w2 => h3.go lk tk A2 (P1.trans P2) w2 fun hh S3 μ3 H3 F3 A3 P3 w3 => ?_⟩
  obtain ⟨r1, o1⟩ := r1.keep o1 P2
  obtain ⟨r1, o1⟩ := r1.keep o1 P3
  unfold slD at w3
  split at w3
  · rename_i xs e
    obtain ⟨p, vs, rfl, g1, g2⟩ := sqS_rep A3.hs r1 e
    exact ⟨p, vs, rfl, g1, fun m hm => giveN w3 A3 (P1.trans (P2.trans P3)) hm (cut_rep g2)⟩
  · exact w3.elim
theorem sem_rev {kk : Nat} {q1 q2 q3 : Pos} (h1 : SemE X gi k a f) : SemE X gi k (.Subscript a (.Slice none none (some (.UnaryOp .USub (.Constant (.int 1) kk q1) q2)) q3) pos) (Z.rev f) := by
  intro er q lk W tk fr S μ σ H F A Q w
  refine ⟨_, pe_revL pe_sem, h1.go lk tk A .refl w fun x S1 μ1 H1 F1 v as A1 P1 r1 o1 w1 => ?_⟩
  unfold revD at w1
  split at w1
  · rename_i xs e
    obtain ⟨p, vs, rfl, g1, g2⟩ := sq_rep A1.hs r1 e
    exact ⟨p, vs, rfl, SqL.of g1, fun m hm => giveN w1 A1 P1 hm g2.reverse⟩
  · exact w1.elim
end
end Mi

set_option Elab.async false
set_option linter.all false
set_option maxRecDepth 100000
set_option maxHeartbeats 4000000
/-! N10: built-ins, calls of defs -/
namespace Mi
open PySem PySem.Spec PyProof.Rows L2
section
variable {X : Cx} {gi : GI} {k : Nat} {N : List Str} {sc : Scope} {pos p1 p p2 : Pos} {e a b c i : Expr} {es rest : List Expr} {kws : List Keyword} {f g h : XE} {fa ga : XA} {ft gt : XT}
variable {er : ER} {W : WX} {L : Nat} {fr : Frame} {σ : L2.St} {S S1 S2 S0 : Store} {μ μ1 μ2 μ0 : Nat → Addr} {H H1 H2 H0 F F1 F2 F0 : Hp} {as bs : List Addr} {K : PySem.W.Frag}

/-- a built-in of one value does what g says -/
def CalS (X : Cx) (u : Value) (g : D → Store → R D) : Prop := ∃ r : List V → Hp → VK → Prop, CallR X u r ∧ ∀ {er : ER} {W : WX} {L : Nat} {fr : Frame} {σ : L2.St} {S0 S : Store} {μ0 μ : Nat → Addr} {H0 F0 H F : Hp} {Q : VK} {x : D} {v : V} {as : List Addr},
  Ab X.K fr S μ σ H F → Stp L S0 μ0 H0 F0 S μ H F → RepN X.K S.length μ F H v x as → Own as H0 F μ S → WR X.K er W L fr σ S0 μ0 H0 F0 (g x S) (KE X.K H0 Q) → r [v] H Q
theorem cal_or {u : Value} {r1 r2 : List V → Hp → VK → Prop} (h1 : CallR X u r1) (h2 : CallR X u r2) : CallR X u (fun xs H Q => r1 xs H Q ∨ r2 xs H Q) := by
  intro pins s σ H xs us Q I r h
  rcases h with h | h
  · exact h1 pins s σ H xs us Q I r h
  · exact h2 pins s σ H xs us Q I r h
theorem arg1 (h1 : SemE X gi k e f) {q : Q} (lk : Lnk X gi k er q) (tk : Takes X W) (A : Ab X.K fr S μ σ H F) {γ : Type} {g : D → Store → R γ} {j : γ → Store → (Nat → Addr) → Hp → Hp → Prop} (w : WR X.K er W q.L fr σ S μ H F ((f q fr S).bnd g) j) (hs : starEach [e] X.env = [(false, eval e X.env)]) {Q : List V → Hp → Prop}
    (n : ∀ d S1 μ1 H1 F1 v as, Ab X.K fr S1 μ1 σ H1 F1 → Stp q.L S μ H F S1 μ1 H1 F1 → RepN X.K S1.length μ1 F1 H1 v d as → Own as H F1 μ1 S1 → WR X.K er W q.L fr σ S μ H F (g d S1) j → Q [v] H1) : semA X [e] σ H Q :=
  ⟨_, pa_cons pe_sem pa_nil hs, h1.go lk tk A .refl w fun d S1 μ1 H1 F1 v as A1 P1 r1 o1 w1 => n d S1 μ1 H1 F1 v as A1 P1 r1 o1 w1⟩
theorem sem_b1 {x : Str} {id : String} {o : U1} (n : Bi X x (.builtin id)) (hc : CalS X (.builtin id) (f1D o)) (h1 : SemE X gi k e f) (hs : starEach [e] X.env = [(false, eval e X.env)]) : SemE X gi k (.Call (.Name x p) [e] [] pos) (Z.f1 o f) := by
  intro er q lk W tk fr S μ σ H F A Q w
  obtain ⟨r, hr, hn⟩ := hc
  exact ⟨_, pe_callB hr n.g n.m n.b pa_sem n.n n.d hs rfl, arg1 h1 lk tk A w hs fun d S1 μ1 H1 F1 v as A1 P1 r1 o1 w1 => hn A1 P1 r1 o1 w1⟩
theorem sem_t1 {x : Str} {id : String} {o : U1} (n : Bi X x (.type id)) (hc : CalS X (.type id) (f1D o)) (h1 : SemE X gi k e f) (hs : starEach [e] X.env = [(false, eval e X.env)]) : SemE X gi k (.Call (.Name x p) [e] [] pos) (Z.f1 o f) := by
  intro er q lk W tk fr S μ σ H F A Q w
  obtain ⟨r, hr, hn⟩ := hc
  exact ⟨_, pe_callTy hr n.g n.m n.b pa_sem n.n n.d hs rfl, arg1 h1 lk tk A w hs fun d S1 μ1 H1 F1 v as A1 P1 r1 o1 w1 => hn A1 P1 r1 o1 w1⟩
theorem intS : CalS X (.type "int") (f1D .int) := by
  refine ⟨_, call_int1, ?_⟩
  intro er W L fr σ S0 S μ0 μ H0 F0 H F Q x v as A P r1 o hw0
  have hw : WR X.K er W L fr σ S0 μ0 H0 F0 (intD x S) (KE X.K H0 Q) := hw0
  clear hw0
  unfold intD at hw
  split at hw
  · rw [rep_int (repT r1).1]
    exact .inl ⟨_, rfl, giveT hw A P (.int _)⟩
  · rw [rep_bl (repT r1).1]
    exact .inr ⟨_, rfl, giveT hw A P (.int _)⟩
  · exact hw.elim
theorem call_lenR : CallR X (.builtin "len") (fun xs H Q => ∃ a kvs, xs = [V.ref a] ∧ Rd H a (.dK kvs) ∧ Q (.int kvs.length) H) := by
  intro pins s σ H xs us Q I r h
  obtain ⟨a, kvs, rfl, e, q⟩ := h
  obtain ⟨u, rfl, rx⟩ := vals1 r
  cases rx
  exact d_len I e fun t s' I' => ⟨.int _, H, I', ⟨t, rfl⟩, q⟩
theorem lenS : CalS X (.builtin "len") (f1D .len) := by
  refine ⟨_, cal_or call_len_seq call_lenR, ?_⟩
  intro er W L fr σ S0 S μ0 μ H0 F0 H F Q x v as A P r1 o hw0
  have hw : WR X.K er W L fr σ S0 μ0 H0 F0 (lenD x S) (KE X.K H0 Q) := hw0
  clear hw0
  unfold lenD at hw
  split at hw
  · rename_i ds e
    obtain ⟨p, vs, bs, rfl, h1, h2, _⟩ := sqd_rep A.hs r1 e
    refine .inl ⟨p, vs, rfl, h1.imp SqL.of SqT.of, ?_⟩
    rw [h2.length]
    exact giveT hw A P (.int _)
  · split at hw
    · rename_i kvs e
      obtain ⟨p, vs, rfl, h1, h2⟩ := dct_rep A.hs r1 e
      refine .inr ⟨p, vs, rfl, h1, ?_⟩
      rw [h2.length]
      exact giveT hw A P (.int _)
    · exact hw.elim
theorem reprS (c : Cok X gi k N sc) : CalS X (.builtin "repr") (f1D .repr) := by
  refine ⟨fun xs H Q => ∃ v d, xs = [v] ∧ Rep X.K (Now H) v d ∧ d.ok = true ∧ d.wt ≤ 16000000 ∧ d.dp ≤ 60 ∧ Q (.str d.show) H, ?_, ?_⟩
  · intro pins s σ H xs us Q I r h
    obtain ⟨v, d, rfl, rp, ok, wt, dp, q⟩ := h
    obtain ⟨u, rfl, r1⟩ := vals1 r
    have hg := c.gd
    have hu := c.un
    obtain ⟨s1, s2, _, s4, s5⟩ := ok_show ok
    have sz : d.py.shown.length ≤ sizeLine := Nat.le_trans s5 (Nat.le_trans wt (by decide))
    unfold T.show at q
    have nested : ∀ a, v = .ref a → wpAny (model X.prog X.w) X.A (call (.builtin "repr") [u]) (EP X pins σ Q) X.xe s := fun a e => by
      subst e
      cases r1
      obtain ⟨as, rd⟩ := Dp.reads I d.py (.ref a) (.ref a) (ok_dp ok rp) rfl
      refine repr_of_reads' rd s1 (PyData.noDict_hsm s2) hg (by rw [s4]; omega) (fun _ _ e => e) (fun h' w tk k => ?_) sz
      exact ⟨.str _, H, I.kept (t' := tk) k, ⟨w, rfl⟩, q⟩
    cases d with
    | non =>
      rw [rep_non rp] at r1
      cases r1
      unfold T.py at q
      exact P.repr_of_none ⟨.str _, H, I.tok _, ⟨_, rfl⟩, by simpa only [PyData.shown] using q⟩
    | bl b =>
      rw [rep_bl rp] at r1
      cases r1
      unfold T.py at q
      exact P.repr_of_bool ⟨.str _, H, I.tok _, ⟨_, rfl⟩, by simpa only [PyData.shown] using q⟩
    | int i =>
      rw [rep_int rp] at r1
      obtain ⟨t, rfl⟩ := r1
      unfold T.ok at ok
      unfold T.py at q
      exact P.repr_of_int (of_decide_eq_true ok) ⟨.str _, H, I.tok _, ⟨_, rfl⟩, by simpa only [PyData.shown] using q⟩
    | str x =>
      rw [rep_str rp] at r1
      obtain ⟨t, rfl⟩ := r1
      unfold T.py at q sz
      refine P.repr_of_str ⟨.str _, H, I.tok _, ⟨_, rfl⟩, by simpa only [PyData.shown] using q⟩ (by simpa only [PyData.shown] using sz)
    | lst ds =>
      obtain ⟨a, xs, rfl, _⟩ := rep_lst rp
      exact nested a rfl
    | tup ds =>
      obtain ⟨a, xs, rfl, _⟩ := rep_tup rp
      exact nested a rfl
    | dic _ => unfold T.ok at ok; cases ok
    | fn _ _ => unfold T.ok at ok; cases ok
    | scr _ => unfold T.ok at ok; cases ok
    | exc _ _ _ _ => unfold T.ok at ok; cases ok
    | set _ => unfold T.ok at ok; cases ok
  · intro er W L fr σ S0 S μ0 μ H0 F0 H F Q x v as A P r1 o hw0
    have hw : WR X.K er W L fr σ S0 μ0 H0 F0 (reprD x S) (KE X.K H0 Q) := hw0
    clear hw0
    unfold reprD at hw
    split at hw
    · rename_i d e
      split at hw
      · rename_i ok
        exact ⟨v, d, rfl, tr_ok 6 A.hs r1 e, ok.1, ok.2.1, ok.2.2, giveT hw A P (.str _)⟩
      · exact hw.elim
    · exact hw.elim
theorem sqI_rep {x : D} {v : V} {ns : List Int} (A : Hs K S μ H F) (r : RepN K S.length μ F H v x as) (e : intsD S x = some ns) : ∃ a, v = .ref a ∧ H a = some (.lst (ns.map V.int)) := by
  unfold intsD at e
  cases q : sq S x with
  | none =>
    rw [q] at e
    cases e
  | some xs =>
    rw [q] at e
    have ex := asI_eq e
    obtain ⟨a, vs, rfl, h1, h2⟩ := sq_rep A r q
    rw [ex] at h2
    rw [RepL.ints h2] at h1
    exact ⟨a, rfl, h1⟩
theorem maxS (hc : X.calm = true) : CalS X (.builtin "max") (f1D .max) := by
  refine ⟨_, cr_max hc, ?_⟩
  intro er W L fr σ S0 S μ0 μ H0 F0 H F Q x v as A P r1 o hw0
  have hw : WR X.K er W L fr σ S0 μ0 H0 F0 (maxD x S) (KE X.K H0 Q) := hw0
  clear hw0
  unfold maxD at hw
  split at hw
  · rename_i ns e
    split at hw
    · exact hw.elim
    · rename_i hn
      obtain ⟨p, rfl, h1⟩ := sqI_rep A.hs r1 e
      refine ⟨p, ns, rfl, SqL.of h1, ?_, fun m k1 k2 => ?_⟩
      · cases ns with
        | nil => exact absurd rfl hn
        | cons _ _ => exact Nat.succ_pos _
      · rw [maxI_uniq hn k1 k2]
        exact giveT hw A P (.int _)
  · exact hw.elim
theorem minS (hc : X.calm = true) : CalS X (.builtin "min") (f1D .min) := by
  refine ⟨_, cr_min hc, ?_⟩
  intro er W L fr σ S0 S μ0 μ H0 F0 H F Q x v as A P r1 o hw0
  have hw : WR X.K er W L fr σ S0 μ0 H0 F0 (minD x S) (KE X.K H0 Q) := hw0
  clear hw0
  unfold minD at hw
  split at hw
  · rename_i ns e
    split at hw
    · exact hw.elim
    · rename_i hn
      obtain ⟨p, rfl, h1⟩ := sqI_rep A.hs r1 e
      refine ⟨p, ns, rfl, SqL.of h1, ?_, fun m k1 k2 => ?_⟩
      · cases ns with
        | nil => exact absurd rfl hn
        | cons _ _ => exact Nat.succ_pos _
      · have hn2 : ns.map (fun n => -n) ≠ [] := fun z => hn (List.map_eq_nil_iff.mp z)
        have em : -m = maxI (ns.map fun n => -n) := maxI_uniq hn2 (List.mem_map.mpr ⟨m, k1, rfl⟩) fun y hy => by
          obtain ⟨n, hn', rfl⟩ := List.mem_map.mp hy
          have := k2 n hn'
          omega
        have em2 : m = minI ns := by
          unfold minI
          omega
        rw [em2]
        exact giveT hw A P (.int _)
  · exact hw.elim
theorem sumS (hc : X.calm = true) : CalS X (.builtin "sum") (f1D .sum) := by
  refine ⟨_, cr_sum hc, ?_⟩
  intro er W L fr σ S0 S μ0 μ H0 F0 H F Q x v as A P r1 o hw0
  have hw : WR X.K er W L fr σ S0 μ0 H0 F0 (sumD x S) (KE X.K H0 Q) := hw0
  clear hw0
  unfold sumD at hw
  split at hw
  · rename_i ns e
    obtain ⟨p, rfl, h1⟩ := sqI_rep A.hs r1 e
    exact ⟨p, ns, rfl, SqL.of h1, giveT hw A P (.int _)⟩
  · exact hw.elim
theorem sortedS : CalS X (.builtin "sorted") (f1D .sorted) := by
  refine ⟨_, cr_sortedI, ?_⟩
  intro er W L fr σ S0 S μ0 μ H0 F0 H F Q x v as A P r1 o hw0
  have hw : WR X.K er W L fr σ S0 μ0 H0 F0 (sortedD x S) (KE X.K H0 Q) := hw0
  clear hw0
  unfold sortedD at hw
  simp only at hw
  split at hw
  · rename_i ns e
    obtain ⟨p, rfl, h1⟩ := sqI_rep A.hs r1 e
    refine ⟨p, ns, rfl, SqL.of h1, fun ns' m pm so hm => ?_⟩
    rw [sort_uniq (pm.trans (sortI_perm ns).symm) so (sortI_sorted ns)]
    exact giveN hw A P hm RepL.of_ints
  · exact hw.elim
theorem absS : CalS X (.builtin "abs") (f1D .abs) := by
  refine ⟨_, call_abs, ?_⟩
  intro er W L fr σ S0 S μ0 μ H0 F0 H F Q x v as A P r1 o hw0
  have hw : WR X.K er W L fr σ S0 μ0 H0 F0 (absD x S) (KE X.K H0 Q) := hw0
  clear hw0
  unfold absD at hw
  split at hw
  · rw [rep_int (repT r1).1]
    exact ⟨_, rfl, giveT hw A P (.int _)⟩
  · exact hw.elim
theorem keys_rep {G : Lk} : ∀ {vs : List (Key × V)} {kvs : List (Key × T)}, RepK K G vs kvs → RepL K G (vs.map fun kv => kV kv.1) (kvs.map fun p => keyT p.1)
  | _, _, .nil => .nil
  | _, _, .cons (k := kk) h t => .cons (by
      cases kk with
      | inl i => exact .int i
      | inr i => exact .str i) (keys_rep t)
theorem listS (hc : X.calm = true) : CalS X (.type "list") (f1D .list) := by
  refine ⟨_, cal_or call_list_of (call_listD hc), ?_⟩
  intro er W L fr σ S0 S μ0 μ H0 F0 H F Q x v as A P r1 o hw0
  have hw : WR X.K er W L fr σ S0 μ0 H0 F0 (listD x S) (KE X.K H0 Q) := hw0
  clear hw0
  unfold listD at hw
  split at hw
  · rename_i xs e
    obtain ⟨p, vs, rfl, h1, h2⟩ := sq_rep A.hs r1 e
    exact .inl ⟨p, vs, rfl, .inl (SqL.of h1), fun m hm => giveN hw A P hm h2⟩
  · split at hw
    · rename_i kvs e
      obtain ⟨p, vs, rfl, h1, h2⟩ := dct_rep A.hs r1 e
      exact .inr ⟨p, vs, rfl, h1, fun m hm => giveN hw A P hm (keys_rep h2)⟩
    · exact hw.elim
/-- isinstance(x, T) -/
theorem ty_rep {x : D} {v : V} {t : String} (A : Hs K S μ H F) (r : RepN K S.length μ F H v x as) (e : tyD S x = some t) : TyX K H v (.type t) := by
  cases r with
  | c r =>
    cases r with
    | t r =>
      rename_i y
      cases y with
      | non => cases e; rw [rep_non r]; exact .base .non
      | bl b => cases e; rw [rep_bl r]; exact .base (.bl _)
      | int i => cases e; rw [rep_int r]; exact .base (.int _)
      | str i => cases e; rw [rep_str r]; exact .base (.str _)
      | lst ys =>
        cases e
        obtain ⟨a, vs, rfl, h1, _⟩ := rep_lst r
        exact .base (.lst (now_lst (A.sub _ _ h1)))
      | tup ys =>
        cases e
        obtain ⟨a, vs, rfl, h1, _⟩ := rep_tup r
        exact .base (.tup (now_tup (A.sub _ _ h1)))
      | dic ys =>
        cases e
        obtain ⟨a, vs, rfl, h1, _⟩ := rep_dic r
        rcases A.sub _ _ h1 with h1 | ⟨_, _, ob, h1⟩
        · exact .base (.dK h1)
        · exact .fDict h1
      | fn _ _ => cases e
      | scr _ => cases e
      | exc _ _ _ _ => cases e
      | set _ => cases e
    | cell hn =>
      unfold tyD at e
      simp only at e
      have core : ∀ {o : Ob} {n : Nat}, rd S n = some o → (match o with
          | .lst _ => t = "list"
          | .lsto _ => t = "list"
          | .dic _ => t = "dict"
          | .dico _ => t = "dict"
          | .tupo _ => t = "tuple"
          | _ => False) → TyX K H (.ref (μ n)) (.type t) := fun {o n} q ht => by
        obtain ⟨u, _, hu, ho, h1, h2⟩ := rd_cell A q
        subst hu
        cases u with
        | lck w =>
          cases w <;> cases ho <;> first | exact h2.elim | skip
          · have e : t = "list" := ht
            subst e
            exact .base (.lst h1)
          · have e : t = "list" := ht
            subst e
            exact .base (.lst h1)
          · have e : t = "dict" := ht
            subst e
            rename_i ob w
            cases w <;> first | exact h2.elim | exact .fDict h1
          · have e : t = "dict" := ht
            subst e
            rename_i ob w
            cases w <;> first | exact h2.elim | exact .fDict h1
          · have e : t = "tuple" := ht
            subst e
            exact .base (.tup h1)
        | _ =>
          cases ho <;> first | exact h2.elim | skip
          all_goals first
            | exact (show False from ht).elim
            | (have e : t = "list" := ht; subst e; exact .base (.lst h1))
            | (have e : t = "dict" := ht; subst e; exact .base (.dK h1))
            | (have e : t = "tuple" := ht; subst e; exact .base (.tup h1))
      split at e <;> first | (cases e; done) | skip
      all_goals
        rename_i q
        cases e
        exact core q rfl
  | new h1 h2 => cases e; exact .base (.lst h1)
  | newd h1 h2 => cases e; exact .base (.dK h1)
  | newo h1 h2 => cases e; exact .base (.lst h1)
  | tupo h1 h2 => cases e; exact .base (.tup h1)
theorem sem_isi {x : Str} {T : String} (n : Bi X "isinstance" (.builtin "isinstance")) (nt : Bi X x (.type T)) (h1 : SemE X gi k e f)
    (he : starEach [e, .Name x p2] X.env = (false, eval e X.env) :: starEach [.Name x p2] X.env) (hs : starEach [.Name x p2] X.env = [(false, eval (.Name x p2) X.env)]) (hpl : (backTo pos (starEach [.Name x p2] X.env)).any (·.1) = false) :
    SemE X gi k (.Call (.Name "isinstance" p) [e, .Name x p2] [] pos) (Z.f1 (.isi T) f) := by
  intro er q lk W tk fr S μ σ H F A Q w
  refine ⟨_, pe_callB call_isi n.g n.m n.b (pa_cons pe_sem (pa_cons (pe_bltn (v := .ty T) nt.g nt.m nt.b rfl nt.n nt.d) pa_nil hs) he) n.n n.d he hpl, h1.go lk tk A .refl w fun d S1 μ1 H1 F1 v as A1 P1 r1 o1 w1 => ?_⟩
  have hw : WR X.K er W q.L fr σ S μ H F (isiD T d S1) (KE X.K H Q) := w1
  unfold isiD at hw
  split at hw
  · rename_i b e1
    cases e2 : tyD S1 d with
    | none =>
      rw [e2] at e1
      cases e1
    | some t =>
      rw [e2] at e1
      exact ⟨v, .ty T, .type t, .type T, b, rfl, .ty T, ty_rep A1.hs r1 e2, kit_ty e1, giveT hw A1 P1 (.bl b)⟩
  · exact hw.elim
theorem sem_bits {apos : Pos} (h1 : SemE X gi k a f) (hbase : attributeBase a "bit_length" X.env (eval a X.env) = eval a X.env) (hline : (apos.endLine == pos.line) = true) : SemE X gi k (.Call (.Attribute a "bit_length" apos) [] [] pos) (Z.f1 .bits f) := by
  intro er q lk W tk fr S μ σ H F A Q w
  refine ⟨_, pe_bits pe_sem hbase hline, h1.go lk tk A .refl w fun d S1 μ1 H1 F1 v as A1 P1 r1 o1 w1 => ?_⟩
  have hw : WR X.K er W q.L fr σ S μ H F (bitsD d S1) (KE X.K H Q) := w1
  unfold bitsD at hw
  split at hw
  · rw [rep_int (repT r1).1]
    exact ⟨_, rfl, giveT hw A1 P1 (.int _)⟩
  · exact hw.elim

/-! ### calls of defs -/
theorem mapO_arg {vs : List V} {ds es : List D} (A : Ab K fr S μ σ H F) (P : Stp L S0 μ0 H0 F0 S μ H F) (r : RepNs K S.length μ F H vs ds as) (o : Own as H0 F μ S) (e : mapO Z.arg ds = some es) :
    ∃ F', Same F F' ∧ Ab K fr S μ σ H F' ∧ Stp L S0 μ0 H0 F0 S μ H F' ∧ RepCs K S.length μ F' vs es := by
  -- all of them are frozen at once
  obtain ⟨A2, P2⟩ := A.frzd P o
  refine ⟨_, frz_same fun a ha => (o.fr a ha).2.1, A2, P2, ?_⟩
  have sf : Same F (frz F H as) := frz_same fun a ha => (o.fr a ha).2.1
  have one : ∀ {v : V} {d e : D} {bs : List Addr}, RepN K S.length μ F H v d bs → (∀ a ∈ bs, a ∈ as) → Z.arg d = some e → RepC K S.length μ (frz F H as) v e := fun {v d e bs} r m q => by
    have fzz : ∀ {x : T}, Mi.fz 6 d = some x → RepC K S.length μ (frz F H as) v (.t x) := fun {x} z => .t (fz_rep sf r m z)
    have via : (Mi.fz 6 d).map D.t = some e → RepC K S.length μ (frz F H as) v e := fun z => by
      cases z2 : Mi.fz 6 d with
      | none =>
        rw [z2] at z
        cases z
      | some x =>
        rw [z2] at z
        cases z
        exact fzz z2
    cases d with
    | t x =>
      cases q
      cases r with
      | c r => exact r.mono (Nat.le_refl _) (fun _ _ => rfl) sf
    | cell n =>
      cases q
      cases r with
      | c r => exact r.mono (Nat.le_refl _) (fun _ _ => rfl) sf
    | new xs => exact via q
    | newd xs => exact via q
    | newo xs => exact via q
    | tupo xs => exact via q
  have all : ∀ {ds es : List D} {vs : List V} {bs : List Addr}, RepNs K S.length μ F H vs ds bs → (∀ a ∈ bs, a ∈ as) → mapO Z.arg ds = some es → RepCs K S.length μ (frz F H as) vs es := by
    intro ds es vs bs r
    induction ds generalizing es vs bs with
    | nil =>
      intro m e
      cases r
      cases e
      exact .nil
    | cons d ds ih =>
      intro m e
      cases r with
      | cons r1 r2 =>
        unfold mapO at e
        split at e
        · rename_i y q1
          cases q : mapO Z.arg ds with
          | none =>
            rw [q] at e
            cases e
          | some zs =>
            rw [q] at e
            cases e
            exact .cons (one r1 (fun a ha => m a (List.mem_append_left _ ha)) q1) (ih r2 (fun a ha => m a (List.mem_append_right _ ha)) q)
        · cases e
  exact all r (fun _ h => h) e
theorem arr_rep {vs : List V} {es : List D} {M : Nat} (r : RepCs K M μ F vs es) : ∀ {ar : List (Sum Nat T)} {zs : List D}, (∀ x, Sum.inr x ∈ ar → x.scl = true) → Z.arr es ar = some zs → RepCs K M μ F (ar.filterMap (arV vs)) zs
  | [], zs, _, e => by
    cases e
    exact .nil
  | .inl j :: ar, zs, hs, e => by
    unfold Z.arr at e
    split at e
    · rename_i d e1
      cases q : Z.arr es ar with
      | none =>
        rw [q] at e
        cases e
      | some ws =>
        rw [q] at e
        cases e
        obtain ⟨v, e2, rv⟩ := r.get' e1
        rw [List.filterMap_cons_some (show arV vs (.inl j) = some v from e2)]
        exact .cons rv (arr_rep r (fun x hx => hs x (List.mem_cons_of_mem _ hx)) q)
    · cases e
  | .inr x :: ar, zs, hs, e => by
    have e' : (Z.arr es ar).map (.t x :: ·) = some zs := e
    cases q : Z.arr es ar with
    | none =>
      rw [q] at e'
      cases e'
    | some ws =>
      rw [q] at e'
      cases e'
      rw [List.filterMap_cons_some (show arV vs (.inr x) = some (tV x) from rfl)]
      exact .cons (.t (tV_rep (hs x List.mem_cons_self))) (arr_rep r (fun x hx => hs x (List.mem_cons_of_mem _ hx)) q)
theorem arr_len {es : List D} : ∀ {ar : List (Sum Nat T)} {zs : List D}, Z.arr es ar = some zs → zs.length = ar.length
  | [], zs, e => by cases e; rfl
  | .inl j :: ar, zs, e => by
    unfold Z.arr at e
    split at e
    · cases q : Z.arr es ar with
      | none =>
        rw [q] at e
        cases e
      | some ws =>
        rw [q] at e
        cases e
        exact congrArg Nat.succ (arr_len q)
    · cases e
  | .inr x :: ar, zs, e => by
    have e' : (Z.arr es ar).map (.t x :: ·) = some zs := e
    cases q : Z.arr es ar with
    | none =>
      rw [q] at e'
      cases e'
    | some ws =>
      rw [q] at e'
      cases e'
      exact congrArg Nat.succ (arr_len q)
/-- the callee's promise from the caller's want -/
theorem call_want {q : Q} {ds1 ds2 : List D} {vs zs : List V} {ar : List (Sum Nat T)} {n np : Nat} {Q : VK} (A : Ab K fr S μ σ H F) (P : Stp q.L S0 μ0 H0 F0 S μ H F) (r : RepNs K S.length μ F H (vs ++ zs) (ds1 ++ ds2) as) (o : Own as H0 F μ S)
    (hs : ∀ x, Sum.inr x ∈ ar → x.scl = true) (hn : ar.length = np) (w : WR K er W q.L fr σ S0 μ0 H0 F0 (Z.callA q n (ds1 ++ ds2) ar S) (KE K H0 Q)) : spC K er (q.call n) np (gV ar vs zs) H Q (WE W σ) := by
  unfold Z.callA at w
  split at w
  · rename_i es e1
    split at w
    · rename_i ws e2
      obtain ⟨F', _, A2, P2, rc⟩ := mapO_arg A P r o e1
      have rz := arr_rep rc hs e2
      refine ⟨by rw [← hn, ← arr_len e2]; exact rz.length, ws, S, μ, F', A2.hs, rz, ?_⟩
      unfold WC
      cases e3 : q.call n ws S with
      | no =>
        rw [e3] at w
        exact w.elim
      | ok d S' =>
        rw [e3] at w
        intro v μ' H' F2 as' hs' hl' P' r' o'
        have P3 := P'.any (L := q.L)
        exact w μ' H' F2 (A2.hsof P' hs') (P2.trans P3) v as' r' (o'.start P2.dom)
      | ex c x S' =>
        rw [e3] at w
        intro μ' H' F2 cls dx hs' hl' P' ee
        have P3 := P'.any (L := q.L)
        exact w μ' H' F2 cls dx (A2.hsof P' hs') (P2.trans P3) ee
    · exact w.elim
  · exact w.elim
theorem RepNs.app {M : Nat} : ∀ {vs ws : List V} {ds es : List D} {as bs : List Addr}, RepNs K M μ F H vs ds as → RepNs K M μ F H ws es bs → RepNs K M μ F H (vs ++ ws) (ds ++ es) (as ++ bs)
  | _, _, _, _, _, _, .nil, k => k
  | _, _, _, _, _, _, .cons h t, k => by
    rw [List.append_assoc]
    exact .cons h (RepNs.app t k)
/-- the arguments of a call: by position, then by name -/
def Z.args (fa fk : XA) : XA := fun q fr S => (fa q fr S).bnd fun ds S1 => (fk q fr S1).bnd fun es S2 => .ok (ds ++ es) S2
theorem sem_call {x : Str} {n m : Nat} {d : DI} {ar : List (Sum Nat T)} (c : Cok X gi k N sc) (hg : sc.names.lookup x = some .globalImplicit) (hm : gi.ds[n]? = some d) (hx : d.name = x) (hsh : (m, [], ar) ∈ d.shapes) (hs : ∀ y, Sum.inr y ∈ ar → y.scl = true) (har : ar.length = d.ps.length)
    (ha : SemA X gi k (e :: es) fa) (hl : (e :: es).length = m) (hdb : (x == ("__debug__" : Str)) = false) (he : starEach (e :: es) X.env = (false, eval e X.env) :: starEach es X.env) (hpl : (backTo pos (starEach es X.env)).any (·.1) = false) : SemE X gi k (.Call (.Name x p) (e :: es) [] pos) (Z.call n fa ar) := by
  intro er q lk W tk fr S μ σ H F A Q w
  obtain ⟨fd, F1, e1, e2, e3⟩ := lk.df n d hm
  obtain ⟨g, kb⟩ := e3 _ hsh
  rw [hx] at e1
  refine ⟨_, pe_go F1 e1 e2 kb tk c.gd c.rm (c.gl hg) pa_sem hdb he hpl, ha.go lk tk A .refl w fun ds S1 μ1 H1 G1 vs as A1 P1 r1 o1 l1 w1 => ⟨l1.trans hl, rfl, ?_⟩⟩
  have r1' : RepNs X.K S1.length μ1 G1 H1 (vs ++ []) (ds ++ []) as := by rw [List.append_nil, List.append_nil]; exact r1
  refine call_want A1 P1 r1' o1 hs har ?_
  rw [List.append_nil]
  exact w1
theorem sem_callK {x : Str} {n m : Nat} {ks : List Str} {d : DI} {ar : List (Sum Nat T)} {fk : XA} (c : Cok X gi k N sc) (hg : sc.names.lookup x = some .globalImplicit) (hm : gi.ds[n]? = some d) (hx : d.name = x) (hsh : (m, ks, ar) ∈ d.shapes) (hs : ∀ y, Sum.inr y ∈ ar → y.scl = true) (har : ar.length = d.ps.length)
    (ha : SemA X gi k (e :: es) fa) (hl : (e :: es).length = m) (hk : SemK X gi k kws fk) (hkl : kws.length = ks.length) (hdb : (x == ("__debug__" : Str)) = false) (he : starEach (e :: es) X.env = (false, eval e X.env) :: starEach es X.env)
    (hall : (backToKw pos (keywordEach kws X.env)).all (·.1.isSome) = true) (hks : (backToKw pos (keywordEach kws X.env)).filterMap (·.1) = ks) (hpl : ((backTo pos (starEach (e :: es) X.env)).any (·.1) || (backToKw pos (keywordEach kws X.env)).any (·.1.isNone)) = false) :
    SemE X gi k (.Call (.Name x p) (e :: es) kws pos) (Z.call n (Z.args fa fk) ar) := by
  intro er q lk W tk fr S μ σ H F A Q w
  obtain ⟨fd, F1, e1, e2, e3⟩ := lk.df n d hm
  obtain ⟨g, kb⟩ := e3 _ hsh
  rw [hx] at e1
  have w0 : WR X.K er W q.L fr σ S μ H F ((fa q fr S).bnd fun ds S1 => (fk q fr S1).bnd fun es S2 => Z.callA q n (ds ++ es) ar S2) (KE X.K H Q) := by
    have w1 : WR X.K er W q.L fr σ S μ H F ((Z.args fa fk q fr S).bnd fun ds S1 => Z.callA q n ds ar S1) (KE X.K H Q) := w
    unfold Z.args at w1
    generalize fa q fr S = ra at w1 ⊢
    cases ra with
    | no => exact w1
    | ex c x S1 => exact w1
    | ok ds S1 =>
      rw [bnd_ok] at w1 ⊢
      generalize fk q fr S1 = rb at w1 ⊢
      cases rb with
      | no => exact w1
      | ex c x S1 => exact w1
      | ok es S2 => exact w1
  refine ⟨_, pe_goKW F1 e1 e2 kb tk c.gd c.rm (c.gl hg) pa_sem pk_sem hdb he hall hks hpl, ha.go lk tk A .refl w0 fun ds S1 μ1 H1 G1 vs as A1 P1 r1 o1 l1 w1 => hk.go lk tk A1 P1 w1 fun es S2 μ2 H2 G2 zs bs A2 P2 r2 o2 l2 w2 => ⟨l1.trans hl, l2.trans hkl, ?_⟩⟩
  obtain ⟨r1', o1'⟩ := r1.keep o1 P2
  exact call_want A2 (P1.trans P2) (r1'.app r2) (o1'.app o2 P1.dom r1.there) hs har w2
theorem sem_callK0 {x : Str} {n : Nat} {ks : List Str} {d : DI} {ar : List (Sum Nat T)} {fk : XA} (c : Cok X gi k N sc) (hg : sc.names.lookup x = some .globalImplicit) (hm : gi.ds[n]? = some d) (hx : d.name = x) (hsh : (0, ks, ar) ∈ d.shapes) (hs : ∀ y, Sum.inr y ∈ ar → y.scl = true) (har : ar.length = d.ps.length)
    (hk : SemK X gi k kws fk) (hkl : kws.length = ks.length) (hdb : (x == ("__debug__" : Str)) = false)
    (hall : (backToKw pos (keywordEach kws X.env)).all (·.1.isSome) = true) (hks : (backToKw pos (keywordEach kws X.env)).filterMap (·.1) = ks) (hpl : ((backTo pos (starEach [] X.env)).any (·.1) || (backToKw pos (keywordEach kws X.env)).any (·.1.isNone)) = false) :
    SemE X gi k (.Call (.Name x p) [] kws pos) (Z.call n fk ar) := by
  intro er q lk W tk fr S μ σ H F A Q w
  obtain ⟨fd, F1, e1, e2, e3⟩ := lk.df n d hm
  obtain ⟨g, kb⟩ := e3 _ hsh
  rw [hx] at e1
  exact ⟨_, pe_goKW0 F1 e1 e2 kb tk c.gd c.rm (c.gl hg) pk_sem hdb hall hks hpl, hk.go lk tk A .refl w fun ds S1 μ1 H1 G1 vs as A1 P1 r1 o1 l1 w1 => ⟨rfl, l1.trans hkl, call_want (ds1 := []) (vs := []) A1 P1 r1 o1 hs har w1⟩⟩
theorem sem_call0 {x : Str} {n : Nat} {d : DI} (c : Cok X gi k N sc) (hg : sc.names.lookup x = some .globalImplicit) (hm : gi.ds[n]? = some d) (hx : d.name = x) (hsh : (0, [], []) ∈ d.shapes) (har : 0 = d.ps.length)
    (hdb : (x == ("__debug__" : Str)) = false) : SemE X gi k (.Call (.Name x p) [] [] pos) (Z.call n Z.nil []) := by
  intro er q lk W tk fr S μ σ H F A Q w
  obtain ⟨fd, F1, e1, e2, e3⟩ := lk.df n d hm
  obtain ⟨g, kb⟩ := e3 _ hsh
  rw [hx] at e1
  exact ⟨_, pe_go0 F1 e1 e2 kb tk c.gd c.rm (c.gl hg) hdb, rfl, rfl, call_want (ds1 := []) (vs := []) (zs := []) (ds2 := []) (as := []) A .refl .nil .nil (fun y z => by cases z) har w⟩
end
end Mi

set_option Elab.async false
set_option linter.all false
set_option maxRecDepth 100000
set_option maxHeartbeats 4000000
/-! N11: statements -/
namespace Mi
open PySem PySem.Spec PyProof.Rows L2
/-- a name that may be stored -/
structure Nl (X : Cx) (i : Nat) (x : Str) : Prop where
  nd : X.N.Nodup
  n : X.N[i]? = some x
  l : Loc X.env.scope x
  f : X.fn x = true ∨ X.env.scope.names.lookup x = some .local
section
variable {X : Cx} {gi : GI} {k : Nat} {N : List Str} {sc : Scope} {pos p1 p p2 pp : Pos} {e a b c i o tg : Expr} {es ts : List Expr} {st rest s1 s2 : List Stmt} {s : Stmt} {f g h : XE} {fa ga : XA} {ft gt : XT} {fb gb hb : XB}
variable {er : ER} {W : WX} {L : Nat} {fr fr1 fr2 : Frame} {σ σ1 σ2 : L2.St} {S S1 S2 S0 : Store} {μ μ1 μ2 μ0 : Nat → Addr} {H H1 H2 H0 F F1 F2 F0 : Hp} {as bs : List Addr} {K : PySem.W.Frag} {D : Ends}
theorem Cok.nl (c : Cok X gi k N sc) (hf : ∀ x, X.fn x = true) {i : Nat} {x : Str} (h : N[i]? = some x) (l : Loc sc x) : Nl X i x :=
  ⟨by rw [c.n]; exact c.nd, by rw [c.n]; exact h, by rw [c.s]; exact l, .inl (hf x)⟩
theorem Cok.nlB (c : Cok X gi k N sc) {i : Nat} {x : Str} (h : N[i]? = some x) (l : sc.names.lookup x = some .local) : Nl X i x :=
  ⟨by rw [c.n]; exact c.nd, by rw [c.n]; exact h, .inl (by rw [c.s]; exact l), .inr (by rw [c.s]; exact l)⟩
/-- what is wanted of a statement's result -/
def WS (K : PySem.W.Frag) (er : ER) (W : WX) (L : Nat) (S : Store) (μ : Nat → Addr) (H F : Hp) (r : R (Fl × Frame)) (D : Ends) : Prop := match r with
  | .no => False
  | .ok (.nx, fr') S' => ∀ σ' μ' H' F', Ab K fr' S' μ' σ' H' F' → Stp L S μ H F S' μ' H' F' → D.nx σ' H'
  | .ok (.bk, fr') S' => ∀ σ' μ' H' F', Ab K fr' S' μ' σ' H' F' → Stp L S μ H F S' μ' H' F' → D.bk σ' H'
  | .ok (.ct, fr') S' => ∀ σ' μ' H' F', Ab K fr' S' μ' σ' H' F' → Stp L S μ H F S' μ' H' F' → D.ct σ' H'
  | .ok (.rt d, fr') S' => ∀ σ' μ' H' F', Ab K fr' S' μ' σ' H' F' → Stp L S μ H F S' μ' H' F' → ∀ v as, RepN K S'.length μ' F' H' v d as → Own as H F' μ' S' → D.rt v H'
  | .ex c x S' => ∀ fr' σ' μ' H' F' cls dx, Ab K fr' S' μ' σ' H' F' → Stp L S μ H F S' μ' H' F' → er c x cls dx H' F' → W cls dx σ' H'
def SemS (X : Cx) (gi : GI) (k : Nat) (s : Stmt) (f : XB) : Prop := ∀ er q, Lnk X gi k er q → ∀ W, Takes X W → ∀ fr S μ σ H F, Ab X.K fr S μ σ H F → ∀ D : Ends, WS X.K er W q.L S μ H F (f q fr S) D → ∃ t, PS X s t ∧ t D σ H
def SemB (X : Cx) (gi : GI) (k : Nat) (st : List Stmt) (f : XB) : Prop := ∀ er q, Lnk X gi k er q → ∀ W, Takes X W → ∀ fr S μ σ H F, Ab X.K fr S μ σ H F → ∀ D : Ends, WS X.K er W q.L S μ H F (f q fr S) D → semSs X st D σ H
/-- the rest's want, from a later state -/
theorem WS.later {r : R (Fl × Frame)} (w : WS K er W L S0 μ0 H0 F0 r D) (P : Stp L S0 μ0 H0 F0 S μ H F) : WS K er W L S μ H F r D := by
  cases r with
  | no => exact w
  | ex c x S1 => exact fun fr1 σ1 μ1 H1 F1 cls dx A1 P1 ee => w fr1 σ1 μ1 H1 F1 cls dx A1 (P.trans P1) ee
  | ok p S1 =>
    obtain ⟨fl, fr1⟩ := p
    cases fl with
    | nx => exact fun σ1 μ1 H1 F1 A1 P1 => w σ1 μ1 H1 F1 A1 (P.trans P1)
    | bk => exact fun σ1 μ1 H1 F1 A1 P1 => w σ1 μ1 H1 F1 A1 (P.trans P1)
    | ct => exact fun σ1 μ1 H1 F1 A1 P1 => w σ1 μ1 H1 F1 A1 (P.trans P1)
    | rt d => exact fun σ1 μ1 H1 F1 A1 P1 v as r o => w σ1 μ1 H1 F1 A1 (P.trans P1) v as r (o.start P.dom)
/-- an expression's result, then g, as a statement wants it -/
theorem WS.bnd {β : Type} {r : R β} {g : β → Store → R (Fl × Frame)} (w : WS K er W L S0 μ0 H0 F0 (r.bnd g) D) (P : Stp L S0 μ0 H0 F0 S μ H F) {j : β → Store → (Nat → Addr) → Hp → Hp → Prop} (fr : Frame) (σ : L2.St)
    (n : ∀ b S1 μ1 H1 F1, Ab K fr S1 μ1 σ H1 F1 → Stp L S μ H F S1 μ1 H1 F1 → WS K er W L S0 μ0 H0 F0 (g b S1) D → j b S1 μ1 H1 F1) : WR K er W L fr σ S μ H F r j := by
  cases r with
  | no => exact w
  | ok b S1 => exact fun μ1 H1 F1 A1 P1 => n b S1 μ1 H1 F1 A1 P1 w
  | ex c x S1 => exact fun μ1 H1 F1 cls dx A1 P1 ee => w fr σ μ1 H1 F1 cls dx A1 (P.trans P1) ee
theorem SemE.runP (h : SemE X gi k e f) {q : Q} (lk : Lnk X gi k er q) (tk : Takes X W) (A : Ab X.K fr S μ σ H F) (P : Stp q.L S0 μ0 H0 F0 S μ H F) {g : Mi.D → Store → R (Fl × Frame)} (w : WS X.K er W q.L S0 μ0 H0 F0 ((f q fr S).bnd g) D) {Q : VK}
    (n : ∀ d S1 μ1 H1 F1 v as, Ab X.K fr S1 μ1 σ H1 F1 → Stp q.L S μ H F S1 μ1 H1 F1 → RepN X.K S1.length μ1 F1 H1 v d as → Own as H F1 μ1 S1 → WS X.K er W q.L S0 μ0 H0 F0 (g d S1) D → Q v H1) : semE X e σ H Q :=
  h er q lk W tk fr S μ σ H F A Q (w.bnd P fr σ fun d S1 μ1 H1 F1 A1 P1 w1 v as r o => n d S1 μ1 H1 F1 v as A1 P1 r o w1)
theorem SemE.run (h : SemE X gi k e f) {q : Q} (lk : Lnk X gi k er q) (tk : Takes X W) (A : Ab X.K fr S μ σ H F) {g : Mi.D → Store → R (Fl × Frame)} (w : WS X.K er W q.L S μ H F ((f q fr S).bnd g) D) {Q : VK}
    (n : ∀ d S1 μ1 H1 F1 v as, Ab X.K fr S1 μ1 σ H1 F1 → Stp q.L S μ H F S1 μ1 H1 F1 → RepN X.K S1.length μ1 F1 H1 v d as → Own as H F1 μ1 S1 → WS X.K er W q.L S μ H F (g d S1) D → Q v H1) : semE X e σ H Q := h.runP lk tk A .refl w n
theorem SemT.run {a : Expr} {f : XT} (h : SemT X gi k a f) {q : Q} (lk : Lnk X gi k er q) (tk : Takes X W) (A : Ab X.K fr S μ σ H F) {g : Bool → Store → R (Fl × Frame)} (w : WS X.K er W q.L S μ H F ((f q fr S).bnd g) D) {Q : Bool → Hp → Prop}
    (n : ∀ d S1 μ1 H1 F1, Ab X.K fr S1 μ1 σ H1 F1 → Stp q.L S μ H F S1 μ1 H1 F1 → WS X.K er W q.L S μ H F (g d S1) D → Q d H1) : semT X a σ H Q :=
  h er q lk W tk fr S μ σ H F A Q (w.bnd .refl fr σ fun d S1 μ1 H1 F1 A1 P1 w1 => n d S1 μ1 H1 F1 A1 P1 w1)
/-! blocks -/
theorem semb_nil : SemB X gi k [] Z.skip := by
  intro er q lk W tk fr S μ σ H F A D w
  exact ⟨_, pss_nil, w σ μ H F A .refl⟩
theorem semb_cons (h1 : SemS X gi k s fb) (h2 : SemB X gi k rest gb) : SemB X gi k (s :: rest) (Z.seq fb gb) := by
  intro er q lk W tk fr S μ σ H F A D w
  have w1 : WS X.K er W q.L S μ H F ((fb q fr S).bnd fun p S1 => match p.1 with
    | .nx => gb q p.2 S1
    | f => .ok (f, p.2) S1) D := w
  obtain ⟨t, ht, hq⟩ := h1 er q lk W tk fr S μ σ H F A { D with nx := semSs X rest D } (by
    cases e : fb q fr S with
    | no => rw [e] at w1; exact w1
    | ex c x S1 => rw [e] at w1; exact w1
    | ok p S1 =>
      rw [e] at w1
      obtain ⟨fl, fr1⟩ := p
      cases fl with
      | nx => exact fun σ1 μ1 H1 F1 A1 P1 => h2 er q lk W tk fr1 S1 μ1 σ1 H1 F1 A1 D (WS.later w1 P1)
      | bk => exact w1
      | ct => exact w1
      | rt d => exact w1)
  exact ⟨_, pss_cons ht pss_sem, hq⟩
theorem sems_pass : SemS X gi k (.Pass pos) Z.skip := by
  intro er q lk W tk fr S μ σ H F A D w
  exact ⟨_, ps_pass, w σ μ H F A .refl⟩
theorem sems_doc {x : Str} {j : Nat} : SemS X gi k (.Expr (.Constant (.str x) j pp) pos) Z.skip := by
  intro er q lk W tk fr S μ σ H F A D w
  exact ⟨_, ps_doc, w σ μ H F A .refl⟩
theorem sems_break : SemS X gi k (.Break pos) Z.brk := by
  intro er q lk W tk fr S μ σ H F A D w
  exact ⟨_, ps_break, w σ μ H F A .refl⟩
theorem sems_cont : SemS X gi k (.Continue pos) Z.cnt := by
  intro er q lk W tk fr S μ σ H F A D w
  exact ⟨_, ps_continue, w σ μ H F A .refl⟩
theorem sems_never : SemS X gi k s Z.never := by
  intro er q lk W tk fr S μ σ H F A D w
  exact w.elim
theorem sems_retn : SemS X gi k (.Return none pos) Z.retn := by
  intro er q lk W tk fr S μ σ H F A D w
  exact ⟨_, ps_retN, w σ μ H F A .refl _ _ (.c (.t .non)) .nil⟩
theorem sems_ret (h1 : SemE X gi k e f) : SemS X gi k (.Return (some e) pos) (Z.ret f) := by
  intro er q lk W tk fr S μ σ H F A D w
  exact ⟨_, ps_ret pe_sem, h1.run lk tk A w fun d S1 μ1 H1 F1 v as A1 P1 r1 o1 w1 => w1 σ μ1 H1 F1 A1 P1 v as r1 o1⟩
theorem sems_expr (h1 : SemE X gi k e f) (hs : swapsWith e none pos.line X.env = pure false) : SemS X gi k (.Expr e pos) (Z.expr f) := by
  intro er q lk W tk fr S μ σ H F A D w
  exact ⟨_, ps_expr pe_sem hs, h1.run lk tk A w fun d S1 μ1 H1 F1 v as A1 P1 r1 o1 w1 => w1 σ μ1 H1 F1 A1 P1⟩
theorem sems_if (h1 : SemT X gi k c ft) (h2 : SemB X gi k s1 fb) (h3 : SemB X gi k s2 gb) : SemS X gi k (.If c s1 s2 pos) (Z.ifs ft fb gb) := by
  intro er q lk W tk fr S μ σ H F A D w
  refine ⟨_, ps_if pt_sem pss_sem pss_sem, h1.run lk tk A w fun t S1 μ1 H1 F1 A1 P1 w1 => ?_⟩
  cases t with
  | true =>
    rw [if_pos rfl] at w1 ⊢
    exact h2 er q lk W tk fr S1 μ1 σ H1 F1 A1 D (w1.later P1)
  | false =>
    rw [if_neg Bool.false_ne_true] at w1 ⊢
    exact h3 er q lk W tk fr S1 μ1 σ H1 F1 A1 D (w1.later P1)

/-! stores -/
theorem Ab.set (A : Ab K fr S μ σ H F) {i : Nat} {v : V} {d : Mi.D} (r : RepC K S.length μ F v d) : Ab K (fr.set i (some d)) S μ (σ.set i (some v)) H F := by
  refine ⟨A.hs, by rw [List.length_set, List.length_set, A.len], fun j d' e => ?_⟩
  by_cases h : i = j
  · subst h
    have hl := (List.getElem?_eq_some_iff.mp e).1
    rw [List.length_set] at hl
    rw [List.getElem?_set_self hl] at e
    cases e
    exact ⟨v, List.getElem?_set_self (by rw [A.len]; exact hl), r⟩
  · rw [List.getElem?_set_ne h] at e
    obtain ⟨w, e1, r1⟩ := A.sl j d' e
    exact ⟨w, by rw [List.getElem?_set_ne h]; exact e1, r1⟩
theorem std_ok {m : Bool} {d d' : Mi.D} {v : V} (A : Ab K fr S μ σ H F) (P : Stp L S0 μ0 H0 F0 S μ H F) (r : RepN K S.length μ F H v d as) (o : Own as H0 F μ S) (e : Z.stD m d S = some (d', S2)) :
    ∃ μ2 F2, Ab K fr S2 μ2 σ H F2 ∧ Stp L S0 μ0 H0 F0 S2 μ2 H F2 ∧ RepC K S2.length μ2 F2 v d' := by
  unfold Z.stD at e
  split at e
  · cases e
    cases r with
    | c r => exact ⟨μ, F, A, P, r⟩
    | _ => rename_i h; cases h
  · split at e
    · obtain ⟨μ2, t, r2⟩ := thaw_ok 6 e A.hs r o
      refine ⟨μ2, F, ⟨t.hs, A.len, fun i d e => ?_⟩, t.stp P fun a ha => (o.fr a ha).1, r2⟩
      obtain ⟨w, e1, r1⟩ := A.sl i d e
      exact ⟨w, e1, r1.mono t.le t.mu sameF⟩
    · cases q : fz 6 d with
      | none =>
        rw [q] at e
        cases e
      | some x =>
        rw [q] at e
        cases e
        obtain ⟨A2, P2⟩ := A.frzd P o
        exact ⟨μ, _, A2, P2, .t (fz_rep (frz_same fun a ha => (o.fr a ha).2.1) r (fun _ h => h) q)⟩
theorem sems_set {i : Nat} {x : Str} {m : Bool} (n : Nl X i x) (h1 : SemE X gi k e f) (hs : swapsWith e (some (.Name x pp)) pos.line X.env = pure false) : SemS X gi k (.Assign [.Name x pp] e pos) (Z.set i m f) := by
  intro er q lk W tk fr S μ σ H F A D w
  refine ⟨_, ps_set n.nd n.n n.l pe_sem hs n.f, h1.run lk tk A w fun d S1 μ1 H1 F1 v as A1 P1 r1 o1 w1 => ?_⟩
  split at w1
  · rename_i d' S2 e1
    obtain ⟨μ2, F2, A2, P2, r2⟩ := std_ok A1 P1 r1 o1 e1
    exact w1 _ μ2 H1 F2 (A2.set r2) P2
  · exact w1.elim
/-! targets -/
/-- only these slots change -/
def Kp (is : List Nat) (σ σ' : L2.St) : Prop := σ'.length = σ.length ∧ ∀ j : Nat, j ∉ is → σ'[j]? = σ[j]?
theorem kp_set {i : Nat} {v : Option V} : Kp [i] σ (σ.set i v) := ⟨List.length_set .., fun j hj => List.getElem?_set_ne fun z => hj (List.mem_singleton.mpr z.symm)⟩
theorem Kp.trans {is js : List Nat} {σ3 : L2.St} (a : Kp is σ σ1) (b : Kp js σ1 σ3) : Kp (is ++ js) σ σ3 := ⟨b.1.trans a.1, fun j hj => (b.2 j fun z => hj (List.mem_append_right _ z)).trans (a.2 j fun z => hj (List.mem_append_left _ z))⟩
/-- the target stores what g says -/
def SemG (X : Cx) (tg : Expr) (g : Z.Tg) : Prop := ∀ {fr fr' : Frame} {S : Store} {μ : Nat → Addr} {σ : L2.St} {H F : Hp} {v : V} {d : Mi.D}, Ab X.K fr S μ σ H F → RepC X.K S.length μ F v d → asg S g d fr = some fr' → ∀ Q : L2.St → Hp → Prop, (∀ σ', Ab X.K fr' S μ σ' H F → Kp g.ix σ σ' → Q σ' H) → semG X tg v σ H Q
theorem asg1_ok {i : Nat} {d : Mi.D} {v : V} {fr' : Frame} (A : Ab K fr S μ σ H F) (r : RepC K S.length μ F v d) (e : asg1 i d fr = some fr') : Ab K fr' S μ (σ.set i (some v)) H F := by
  unfold asg1 at e
  split at e
  · cases e
    exact A.set r
  · cases e
theorem semg_nm {i : Nat} {x : Str} (n : Nl X i x) : SemG X (.Name x pos) (.nm i) := by
  intro fr fr' S μ σ H F v d A r e Q q
  exact ⟨_, pg_name n.nd n.n n.l n.f, q _ (asg1_ok A r e) kp_set⟩
/-- names, one after the other -/
def SemGs (X : Cx) (ts : List Expr) (is : List Nat) : Prop := ∀ {fr fr' : Frame} {S : Store} {μ : Nat → Addr} {σ : L2.St} {H F : Hp} {vs : List V} {ds : List Mi.D}, Ab X.K fr S μ σ H F → RepCs X.K S.length μ F vs ds → asgs is ds fr = some fr' → ∀ Q : L2.St → Hp → Prop, (∀ σ', Ab X.K fr' S μ σ' H F → Kp is σ σ' → Q σ' H) → semGs X ts vs σ H Q
theorem semgs_nil : SemGs X [] [] := by
  intro fr fr' S μ σ H F vs ds A r e Q q
  cases r with
  | nil =>
    cases e
    exact ⟨_, pgs_nil, rfl, q _ A ⟨rfl, fun _ _ => rfl⟩⟩
  | cons _ _ => cases e
theorem semgs_cons {i : Nat} {is : List Nat} {x : Str} (n : Nl X i x) (h : SemGs X ts is) (hs : (assignEach (.Name x pos :: ts) X.env).map (·.2) = assign (.Name x pos) X.env :: (assignEach ts X.env).map (·.2)) : SemGs X (.Name x pos :: ts) (i :: is) := by
  intro fr fr' S μ σ H F vs ds A r e Q q
  cases r with
  | nil => cases e
  | cons r1 r2 =>
    unfold asgs at e
    split at e
    · rename_i fr1 e1
      exact ⟨_, pgs_cons (pg_name n.nd n.n n.l n.f) pgs_sem hs, _, _, rfl, h (asg1_ok A r1 e1) r2 e Q fun σ' A2 k2 => q σ' A2 (kp_set.trans k2)⟩
    · cases e
theorem asgs_len : ∀ {is : List Nat} {ds : List Mi.D} {fr fr' : Frame}, asgs is ds fr = some fr' → is.length = ds.length
  | [], [], _, _, _ => rfl
  | [], _ :: _, _, _, e => by cases e
  | _ :: _, [], _, _, e => by cases e
  | i :: is, d :: ds, fr, fr', e => by
    unfold asgs at e
    split at e
    · exact congrArg Nat.succ (asgs_len e)
    · cases e
theorem tupD_rep {d : Mi.D} {v : V} {ds : List Mi.D} (A : Hs K S μ H F) (r : RepC K S.length μ F v d) (e : tupD S d = some ds) : ∃ a vs, v = .ref a ∧ H a = some (.tup vs) ∧ RepCs K S.length μ F vs ds := by
  have toC : ∀ {vs : List V} {xs : List T}, RepL K (At F) vs xs → RepCs K S.length μ F vs (xs.map D.t) := by
    intro vs xs r
    induction xs generalizing vs with
    | nil => cases r; exact .nil
    | cons x xs ih =>
      cases r with
      | cons h t => exact .cons (.t h) (ih t)
  cases r with
  | t r =>
    rename_i y
    cases y with
    | tup ys =>
      cases e
      obtain ⟨a, vs, rfl, h1, h2⟩ := rep_tup r
      exact ⟨a, vs, rfl, now_tup (A.sub _ _ h1), toC h2⟩
    | _ => cases e
  | cell hn =>
    unfold tupD at e
    simp only at e
    split at e
    · rename_i ys q
      cases e
      obtain ⟨u, _, hu, ho, h1, h2⟩ := rd_cell A q
      cases u with
      | tupo zs =>
        cases hu
        cases ho <;> first | exact h2.elim | exact ⟨_, _, rfl, h1, h2⟩
      | lck o =>
        cases hu
        cases ho <;> first | exact h2.elim | exact ⟨_, _, rfl, h1, h2⟩
      | _ => cases hu
    · cases e
theorem semg_tu {is : List Nat} {j : Nat} (hc : X.calm = true) (h : SemGs X ts is) (hn : (assignEach ts X.env).length = is.length) (hst : (assignEach ts X.env).findIdx? (·.1) = none) : SemG X (.Tuple ts j pos) (.tu is) := by
  intro fr fr' S μ σ H F v d A r e Q q
  unfold asg at e
  simp only at e
  split at e
  · rename_i ds e1
    obtain ⟨a, vs, rfl, h1, h2⟩ := tupD_rep A.hs r e1
    have hl : (assignEach ts X.env).length = vs.length := by
      rw [hn, asgs_len e, h2.length]
    exact ⟨_, pg_tup hc pgs_sem hl hst, a, vs, rfl, SqT.of h1, rfl, h A h2 e Q q⟩
  · cases e
/-- a, b = e -/
theorem sems_sett {is : List Nat} {m : Bool} (hg : SemG X tg (.tu is)) (h1 : SemE X gi k e f) (hs : swapsWithSole [tg] e pos.line X.env = pure false) (hw : swappedStores [tg] e X.env = pure none)
    (ha : (assignEach [tg] X.env).map (·.2) = [assign tg X.env]) : SemS X gi k (.Assign [tg] e pos) (Z.sett is m f) := by
  intro er q lk W tk fr S μ σ H F A D w
  refine ⟨_, ps_asg pe_sem pg_sem hs hw ha, h1.run lk tk A w fun d S1 μ1 H1 F1 v as A1 P1 r1 o1 w1 => ?_⟩
  split at w1
  · rename_i d' S2 e1
    obtain ⟨μ2, F2, A2, P2, r2⟩ := std_ok A1 P1 r1 o1 e1
    split at w1
    · rename_i fr2 e2
      exact hg A2 r2 e2 _ fun σ' A3 _ => w1 σ' μ2 H1 F2 A3 P2
    · exact w1.elim
  · exact w1.elim
/-- x op= e -/
theorem ip_mulC (C : Int → Int → Prop) (hC : ∀ i j, C i j → IntMulOk i j) : PIp X .Mult (fun x y H Q => ∃ i j, x = .int i ∧ y = .int j ∧ C i j ∧ Q (.int (i * j)) H) := by
  intro pins s σ H x y v u Q I r1 r2 h
  obtain ⟨i, j, rfl, rfl, hc, q⟩ := h
  obtain ⟨t, rfl⟩ := r1
  obtain ⟨t', rfl⟩ := r2
  exact imul_int ⟨.int _, H, I.tok _, ⟨_, rfl⟩, q⟩ (hC i j hc)
def AugS (X : Cx) (op : Operator) (o : BO) : Prop := ∃ r : TIp, PIp X op r ∧ ∀ {m n z : Int} {H : Hp} {Q : VK}, Z.augI o m n = some z → Q (.int z) H → r (.int m) (.int n) H Q
theorem aug_add : AugS X .Add .add := ⟨_, ip_add, fun e q => by cases e; exact ⟨_, _, rfl, rfl, q⟩⟩
theorem aug_sub : AugS X .Sub .sub := ⟨_, ip_sub, fun e q => by cases e; exact ⟨_, _, rfl, rfl, q⟩⟩
theorem aug_mul : AugS X .Mult .mul := ⟨_, ip_mulC mulOk fun i j h => h.elim CMul.ok CMulW.ok, fun {m n z H Q} e q => by
  have e' : (if mulOk m n then some (m * n) else none) = some z := e
  split at e'
  · rename_i h
    cases e'
    exact ⟨_, _, rfl, rfl, h, q⟩
  · cases e'⟩
theorem sems_aug {i : Nat} {x : Str} {op : Operator} {oo : BO} (n : Nl X i x) (ho : AugS X op oo) (h1 : SemE X gi k e f) : SemS X gi k (.AugAssign (.Name x pp) op e pos) (Z.aug i oo f) := by
  intro er q lk W tk fr S μ σ H F A D w
  obtain ⟨r, hr, hn⟩ := ho
  unfold Z.aug at w
  split at w
  · rename_i m e0
    obtain ⟨v, e1, rv⟩ := A.sl i _ e0
    cases rv with
    | t rv =>
      have ev := rep_int rv
      subst ev
      refine ⟨_, ps_aug n.nd n.n n.l pe_sem hr n.f, _, e1, h1.run lk tk A w fun d S1 μ1 H1 F1 u as A1 P1 r1 o1 w1 => ?_⟩
      split at w1
      · rename_i nn
        rw [rep_int (repT r1).1]
        split at w1
        · rename_i z e2
          exact hn e2 (w1 _ μ1 H1 F1 (A1.set (.t (.int z))) P1)
        · exact w1.elim
      · exact w1.elim
  · exact w.elim

/-! the store changes -/
/-- a thing of the store changes -/
theorem Hs.wr (A : Hs K S μ H F) {n : Nat} {o o' : Ob} {ho : HO} (e : S[n]? = some o) (c : Con K S.length μ F o' ho) (ht : ∀ P q, o' = .tbl P q → μ n = P := by intro _ _ z; cases z) : Hs K (S.set n o') μ (upd H (μ n) ho) F := by
  have hn := (List.getElem?_eq_some_iff.mp e).1
  refine ⟨fun a u q => ?_, fun m u q => ?_, fun m hm => A.out m (by rw [List.length_set] at hm; exact hm), fun m j hm hj => A.inj m j (by rw [List.length_set] at hm; exact hm) (by rw [List.length_set] at hj; exact hj), fun m P q e2 => ?_⟩
  · have ha : a ≠ μ n := fun z => by
      rw [z, A.out n hn] at q
      cases q
    exact now_keep (fun w z => by rw [upd_ne ha]; exact z) (A.sub a u q)
  · rw [List.length_set]
    by_cases h : n = m
    · subst h
      rw [List.getElem?_set_self hn] at q
      cases q
      exact ⟨ho, upd_same, c⟩
    · rw [List.getElem?_set_ne h] at q
      have hm := (List.getElem?_eq_some_iff.mp q).1
      obtain ⟨hu, h1, h2⟩ := A.ce m u q
      exact ⟨hu, by rw [upd_ne fun z => h (A.inj n m hn hm z.symm)]; exact h1, h2⟩
  · by_cases h : n = m
    · subst h
      rw [List.getElem?_set_self hn] at e2
      exact ht P q (Option.some.inj e2)
    · rw [List.getElem?_set_ne h] at e2
      exact A.tb m P q e2
theorem Stp.wr (P : Stp L S0 μ0 H0 F0 S μ H F) (A : Hs K S μ H F) {n : Nat} {o o' : Ob} {ho : HO} (e : S[n]? = some o) (hl : n < L → ∀ B, o.lt B → o'.lt B) (nl : ∀ u, o ≠ .lck u) : Stp L S0 μ0 H0 F0 (S.set n o') μ (upd H (μ n) ho) F := by
  have hn := (List.getElem?_eq_some_iff.mp e).1
  refine ⟨P.f, by rw [List.length_set]; exact P.le, P.mu, fun b u q h => ?_, P.nF, fun m h1 h2 => P.nC m h1 (by rw [List.length_set] at h2; exact h2), fun a q => ?_, fun m hm u u' e1 e2 B hB => ?_, fun m u q => ?_⟩
  · have hb : b ≠ μ n := fun z => by
      by_cases hs : n < S0.length
      · exact h n hs ((P.mu n hs).symm.trans z.symm)
      · have := P.nC n (Nat.le_of_not_lt hs) hn
        rw [← z, q] at this
        cases this
    rw [upd_ne hb]
    exact P.keep b u q h
  · by_cases h : a = μ n
    · subst h
      rw [upd_same] at q
      cases q
    · rw [upd_ne h] at q
      exact P.dom a q
  · by_cases h : n = m
    · subst h
      rw [List.getElem?_set_self hn] at e2
      cases e2
      exact hl hm B (P.cl n hm u o e1 e B hB)
    · rw [List.getElem?_set_ne h] at e2
      exact P.cl m hm u u' e1 e2 B hB
  · obtain ⟨q1, q2⟩ := P.lk m u q
    have hm : m < S0.length := (List.getElem?_eq_some_iff.mp q).1
    have hmn : m ≠ n := fun z => by
      subst z
      rw [e] at q1
      exact nl u (Option.some.inj q1)
    refine ⟨by rw [List.getElem?_set_ne (Ne.symm hmn)]; exact q1, fun w z => ?_⟩
    have ne : μ0 m ≠ μ n := fun z2 => hmn (A.inj m n (Nat.lt_of_lt_of_le hm P.le) hn ((P.mu m hm).trans z2))
    rw [upd_ne ne]
    exact q2 w z
theorem Ab.wr (A : Ab K fr S μ σ H F) {n : Nat} {o o' : Ob} {ho : HO} (e : S[n]? = some o) (c : Con K S.length μ F o' ho) (ht : ∀ P q, o' = .tbl P q → μ n = P := by intro _ _ z; cases z) : Ab K fr (S.set n o') μ σ (upd H (μ n) ho) F :=
  ⟨A.hs.wr e c ht, A.len, fun i d q => by rw [List.length_set]; exact A.sl i d q⟩
theorem arg_rep {v : V} {d e : Mi.D} (A : Ab K fr S μ σ H F) (P : Stp L S0 μ0 H0 F0 S μ H F) (r : RepN K S.length μ F H v d as) (o : Own as H0 F μ S) (q : Z.arg d = some e) : ∃ F', Same F F' ∧ Ab K fr S μ σ H F' ∧ Stp L S0 μ0 H0 F0 S μ H F' ∧ RepC K S.length μ F' v e := by
  have r1 : RepNs K S.length μ F H [v] [d] (as ++ []) := .cons r .nil
  rw [List.append_nil] at r1
  obtain ⟨F', sf, A3, P3, rc⟩ := mapO_arg A P r1 o (es := [e]) (by unfold mapO; rw [q]; rfl)
  cases rc with
  | cons rc _ => exact ⟨F', sf, A3, P3, rc⟩
theorem hasK_any {G : Lk} {kk : Key} : ∀ {vs : List (Key × V)} {kvs : List (Key × T)}, RepK K G vs kvs → (vs.any fun kv => decide (kv.1 = kk)) = hasK kk kvs
  | _, _, .nil => rfl
  | _, _, .cons h t => by
    unfold hasK
    rw [List.any_cons, hasK_any t]
theorem mapK_rep {G : Lk} {kk : Key} {v : V} {x : T} (hv : Rep K G v x) : ∀ {vs : List (Key × V)} {kvs : List (Key × T)}, RepK K G vs kvs → RepK K G (vs.map fun kv => if kv.1 = kk then (kv.1, v) else kv) (kvs.map fun p => if p.1 = kk then (p.1, x) else p)
  | _, _, .nil => .nil
  | (j, _) :: _, _, .cons h t => by
    rw [List.map_cons, List.map_cons]
    by_cases e : j = kk
    · rw [if_pos e, if_pos e]
      exact .cons hv (mapK_rep hv t)
    · rw [if_neg e, if_neg e]
      exact .cons h (mapK_rep hv t)
theorem putK_rep {G : Lk} {kk : Key} {v : V} {x : T} (hv : Rep K G v x) {vs : List (Key × V)} {kvs : List (Key × T)} (r : RepK K G vs kvs) : RepK K G (L2.putK vs kk v) (Mi.putK kk x kvs) := by
  unfold L2.putK Mi.putK
  rw [hasK_any r]
  by_cases hc : hasK kk kvs = true
  · rw [if_pos hc, if_pos hc]
    exact mapK_rep hv r
  · rw [if_neg hc, if_neg hc]
    exact r.append (.cons hv .nil)
def rSetD : V → V → V → Hp → (Hp → Prop) → Prop := fun o i v H Q => ∃ a H', o = .ref a ∧ DPut H a i v H' ∧ Q H'
theorem set_dict (hu : X.A.units + 1 < cLine) : PSet X rSetD := by
  intro pins s σ H o i v ov iv u Q I r1 r2 r3 h
  obtain ⟨a, H', rfl, g, q⟩ := h
  obtain rfl : ov = Value.ref a := r1
  exact d_setItem hu I g r2 r3 fun s' I' => ⟨H', I', q⟩
theorem pset_or {r1 r2 : TSet} (h1 : PSet X r1) (h2 : PSet X r2) : PSet X (fun o i v H Q => r1 o i v H Q ∨ r2 o i v H Q) := by
  intro pins s σ H o i v ov iv u Q I q1 q2 q3 h
  rcases h with h | h
  · exact h1 pins s σ H o i v ov iv u Q I q1 q2 q3 h
  · exact h2 pins s σ H o i v ov iv u Q I q1 q2 q3 h
/-- the store of a value at a place -/
theorem sti_ok {x j d : Mi.D} {v u w : V} {bs cs : List Addr} (A : Ab K fr S μ σ H F) (P : Stp L S0 μ0 H0 F0 S μ H F) (r1 : RepN K S.length μ F H v x as) (r2 : RepN K S.length μ F H u j bs) (r3 : RepN K S.length μ F H w d cs) (o3 : Own cs H0 F μ S) (e : Z.stiD x j d S = some S2) :
    ∃ H2 F2 μ2, Ab K fr S2 μ2 σ H2 F2 ∧ Stp L S0 μ0 H0 F0 S2 μ2 H2 F2 ∧ ∀ Q : Hp → Prop, Q H2 → rSetL v u w H Q ∨ rSetD v u w H Q := by
  unfold Z.stiD at e
  split at e
  · rename_i n
    cases r1 with
    | c r1 =>
      cases r1 with
      | cell hn =>
        split at e
        · rename_i xs e1
          split at e
          · rename_i j' y e2
            obtain ⟨F', sf, A2, P2, rc⟩ := arg_rep A P r3 o3 e2
            split at e
            · rename_i kk e3
              cases e
              obtain ⟨ho, h1, h2⟩ := A2.hs.ce n _ e1
              cases ho <;> first | exact h2.elim | skip
              rename_i vs
              have h2' : RepL K (At F') vs xs := h2
              cases rc with
              | t rc =>
                refine ⟨_, F', μ, A2.wr e1 (ho := .lst (vs.set kk w)) (h2'.set rc kk), P2.wr A2.hs e1 (fun _ _ _ => trivial) (fun _ z => by cases z), fun Q q => .inl ⟨_, vs, j', kk, rfl, rep_int (repT r2).1, h1, ?_, q⟩⟩
                rw [h2'.length]
                exact e3
            · cases e
          · cases e
        · rename_i kvs e1
          split at e
          · rename_i f y e2
            obtain ⟨F', sf, A2, P2, rc⟩ := arg_rep A P r3 o3 e2
            split at e
            · rename_i kk e3
              split at e
              · rename_i hl
                cases e
                obtain ⟨ho, h1, h2⟩ := A2.hs.ce n _ e1
                cases ho <;> first | exact h2.elim | skip
                rename_i vs
                have h2' : RepK K (At F') vs kvs := h2
                cases rc with
                | t rc =>
                  refine ⟨_, F', μ, A2.wr e1 (ho := .dK (L2.putK vs kk w)) (putK_rep rc h2'), P2.wr A2.hs e1 (fun _ _ _ => trivial) (fun _ z => by cases z), fun Q q => .inr ⟨_, _, rfl, .inl ⟨vs, kk, h1, kOf_rep (repT r2).1 e3, ?_, rfl⟩, q⟩⟩
                  rw [h2'.length]
                  exact Nat.lt_of_lt_of_le hl (by decide)
              · cases e
            · cases e
          · cases e
        · cases e
  · cases e
theorem sems_sti (hu : X.A.units + 64 < cLine) (h0 : SemE X gi k o f) (h1 : SemE X gi k i g) (h2 : SemE X gi k e h) (hs : swapsWithSole [.Subscript o i pp] e pos.line X.env = pure false) (hw : swappedStores [.Subscript o i pp] e X.env = pure none)
    (ha : (assignEach [.Subscript o i pp] X.env).map (·.2) = [assign (.Subscript o i pp) X.env]) (hd : ∀ v, assign (.Subscript o i pp) X.env v = (do
      let ov ← holding [v] (eval o X.env)
      let iv ← holding [v, ov] (eval i X.env)
      standAt pp
      holding [v, ov, iv] (setItem ov iv v)
      release [v, ov, iv] [])) : SemS X gi k (.Assign [.Subscript o i pp] e pos) (Z.sti f g h) := by
  intro er q lk W tk fr S μ σ H F A D w
  refine ⟨_, ps_asg pe_sem (pg_sub pe_sem pe_sem (pset_or set_list (set_dict (by omega))) hd) hs hw ha, ?_⟩
  have w0 : WS X.K er W q.L S μ H F ((h q fr S).bnd fun d S1 => (f q fr S1).bnd fun x S2 => (g q fr S2).bnd fun j S3 => match Z.stiD x j d S3 with
    | some S4 => .ok (.nx, fr) S4
    | none => .no) D := w
  refine h2.run lk tk A w0 fun d S1 μ1 H1 F1 v as A1 P1 r1 o1 w1 => ?_
  refine h0.runP lk tk A1 P1 w1 fun x S2 μ2 H2 F2 u bs A2 P2 r2 o2 w2 => ?_
  obtain ⟨r1, o1⟩ := r1.keep o1 P2
  refine h1.runP lk tk A2 (P1.trans P2) w2 fun j S3 μ3 H3 F3 t cs A3 P3 r3 o3 w3 => ?_
  obtain ⟨r1, o1⟩ := r1.keep o1 P3
  obtain ⟨r2, _⟩ := r2.keep o2 P3
  split at w3
  · rename_i S4 e4
    have P : Stp q.L S μ H F S3 μ3 H3 F3 := P1.trans (P2.trans P3)
    obtain ⟨H4, F4, μ4, A4, P4, z⟩ := sti_ok A3 P r2 r3 r1 o1 e4
    exact z _ (w3 σ μ4 H4 F4 A4 P4)
  · exact w3.elim
/-- del o[i] -/
theorem del_inv {x j : Mi.D} (e : Z.delD x j S = some S2) : ∃ n jj xs kk, x = .cell n ∧ j = .t (.int jj) ∧ S[n]? = some (.lst xs) ∧ ixN xs.length jj = some kk ∧ xs.length ≤ okL ∧ S2 = S.set n (.lst (xs.eraseIdx kk)) := by
  unfold Z.delD at e
  split at e
  · split at e
    · split at e
      · split at e
        · cases e
          exact ⟨_, _, _, _, rfl, rfl, ‹_›, ‹_›, ‹_›, rfl⟩
        · cases e
      · cases e
    · cases e
  · cases e
theorem sems_del (h0 : SemE X gi k o f) (h1 : SemE X gi k i g) : SemS X gi k (.Delete [.Subscript o i pp] pos) (Z.del f g) := by
  intro er q lk W tk fr S μ σ H F A D w
  refine ⟨_, ps_delL pe_sem pe_sem, h0.run lk tk A w fun x S1 μ1 H1 F1 v as A1 P1 r1 o1 w1 => h1.runP lk tk A1 P1 w1 fun j S2 μ2 H2 F2 u bs A2 P2 r2 o2 w2 => ?_⟩
  obtain ⟨q1, _⟩ := r1.keep o1 P2
  split at w2
  · rename_i S3 e3
    obtain ⟨n, jj, xs, kk, rfl, rfl, e1, e4, hl, rfl⟩ := del_inv e3
    cases q1 with
    | c q2 =>
      cases q2 with
      | cell hn =>
        obtain ⟨ho, h1, h2⟩ := A2.hs.ce _ _ e1
        cases ho <;> first | exact h2.elim | skip
        rename_i vs
        have h2' : RepL X.K (At F2) vs xs := h2
        obtain ⟨g1, g2, g3, g4⟩ := ixN_seq e4
        have big : (okL : Int) < 2 ^ 63 := by decide
        refine ⟨_, vs, jj, kk, rfl, rep_int (repT r2).1, h1, by omega, by omega, ?_, w2 σ μ2 _ F2 (A2.wr e1 (ho := .lst (vs.eraseIdx kk)) (h2'.eraseIdx kk)) ((P1.trans P2).wr A2.hs e1 (fun _ _ _ => trivial) (fun _ z => by cases z))⟩
        rw [h2'.length]
        exact g1
  · exact w2.elim
end
end Mi

set_option Elab.async false
set_option linter.all false
set_option maxRecDepth 100000
set_option maxHeartbeats 4000000
/-! N12: loops -/
namespace Mi
open PySem PySem.Spec PyProof.Rows L2
section
variable {X : Cx} {gi : GI} {k : Nat} {N : List Str} {sc : Scope} {pos p1 p p2 pp : Pos} {e a b c i o tg it : Expr} {es ts : List Expr} {st rest s1 s2 : List Stmt} {s : Stmt} {f g h : XE} {fa ga : XA} {ft gt : XT} {fb gb hb : XB} {fi : XI}
variable {er : ER} {W : WX} {L : Nat} {fr fr1 fr2 : Frame} {σ σ1 σ2 : L2.St} {S S1 S2 S0 : Store} {μ μ1 μ2 μ0 : Nat → Addr} {H H1 H2 H0 F F1 F2 F0 : Hp} {as bs : List Addr} {K : PySem.W.Frag} {D : Ends}
/-! ### locks -/
theorem upd_self {a : Addr} {o : HO} (h : H a = some o) : upd H a o = H := funext fun b => by
  by_cases e : b = a
  · subst e
    rw [upd_same, h]
  · rw [upd_ne e]
theorem Hs.re (A : Hs K S μ H F) {n : Nat} {o o' : Ob} (e : S[n]? = some o) (c : ∀ ho, Con K S.length μ F o ho → Con K S.length μ F o' ho) (ht : ∀ P q, o' = .tbl P q → μ n = P := by intro _ _ z; cases z) : Hs K (S.set n o') μ H F := by
  obtain ⟨ho, h1, h2⟩ := A.ce n o e
  have := A.wr e (c ho h2) ht
  rw [upd_self h1] at this
  exact this
theorem Ab.re (A : Ab K fr S μ σ H F) {n : Nat} {o o' : Ob} (e : S[n]? = some o) (c : ∀ ho, Con K S.length μ F o ho → Con K S.length μ F o' ho) (ht : ∀ P q, o' = .tbl P q → μ n = P := by intro _ _ z; cases z) : Ab K fr (S.set n o') μ σ H F :=
  ⟨A.hs.re e c ht, A.len, fun i d q => by rw [List.length_set]; exact A.sl i d q⟩
/-- a list of the store may be locked -/
def LkOk (S : Store) : Option Nat → Prop
  | none => True
  | some n => ∃ o, S[n]? = some o ∧ ((∃ xs, o = .lst xs) ∨ ∃ ds, o = .lsto ds)
theorem lck_eq {n : Nat} {o : Ob} (e : S[n]? = some o) (h : (∃ xs, o = .lst xs) ∨ ∃ ds, o = .lsto ds) : lckS S (some n) = S.set n (.lck o) := by
  unfold lckS
  simp only
  rw [e]
  rcases h with ⟨xs, rfl⟩ | ⟨xs, rfl⟩ <;> rfl
theorem lck_len {l : Option Nat} : (lckS S l).length = S.length := by
  unfold lckS
  split
  · rfl
  · split <;> first | exact List.length_set .. | rfl
theorem unl_len {l : Option Nat} : (unlS S l).length = S.length := by
  unfold unlS
  split
  · rfl
  · split <;> first | exact List.length_set .. | rfl
theorem Ab.lck (A : Ab K fr S μ σ H F) {l : Option Nat} (h : LkOk S l) : Ab K fr (lckS S l) μ σ H F := by
  cases l with
  | none => exact A
  | some n =>
    obtain ⟨o, e, z⟩ := h
    rw [lck_eq e z]
    refine A.re e fun ho c => ?_
    rcases z with ⟨xs, rfl⟩ | ⟨xs, rfl⟩
    · cases ho <;> first | exact c.elim | exact c
    · cases ho <;> first | exact c.elim | exact c
theorem stp_lck {l : Option Nat} (h : LkOk S l) : Stp L S μ H F (lckS S l) μ H F := by
  cases l with
  | none => exact .refl
  | some n =>
    obtain ⟨o, e, z⟩ := h
    rw [lck_eq e z]
    refine ⟨fun _ _ h => h, by rw [List.length_set]; exact Nat.le_refl _, fun _ _ => rfl, fun _ _ h _ => h, fun a u e q => (by rw [e] at q; cases q), fun m h1 h2 => absurd h2 (by rw [List.length_set]; exact Nat.not_lt.mpr h1), fun _ h => h, fun m _ u u' e1 e2 B hB => ?_, fun m u e1 => ⟨?_, fun _ z => z⟩⟩
    · by_cases hm : n = m
      · subst hm
        rw [List.getElem?_set_self (List.getElem?_eq_some_iff.mp e).1] at e2
        cases e2
        rw [e] at e1
        cases e1
        rcases z with ⟨xs, rfl⟩ | ⟨xs, rfl⟩
        · trivial
        · exact hB
      · rw [List.getElem?_set_ne hm] at e2
        rw [e1] at e2
        cases e2
        exact hB
    · have hm : n ≠ m := fun q => by
        subst q
        rw [e] at e1
        cases e1
        rcases z with ⟨xs, z⟩ | ⟨xs, z⟩ <;> cases z
      rw [List.getElem?_set_ne hm]
      exact e1
/-- the lock is taken off again -/
theorem unl_ok {l : Option Nat} (h : LkOk S l) (P : Stp L (lckS S l) μ H F S2 μ2 H2 F2) (A : Ab K fr S2 μ2 σ H2 F2) : Ab K fr (unlS S2 l) μ2 σ H2 F2 ∧ Stp L S μ H F (unlS S2 l) μ2 H2 F2 := by
  cases l with
  | none => exact ⟨A, P⟩
  | some n =>
    obtain ⟨o, e, z⟩ := h
    rw [lck_eq e z] at P
    have hn := (List.getElem?_eq_some_iff.mp e).1
    have e2 : S2[n]? = some (.lck o) := (P.lk n o (List.getElem?_set_self hn)).1
    have eu : unlS S2 (some n) = S2.set n o := by
      unfold unlS
      simp only
      rw [e2]
    rw [eu]
    refine ⟨A.re e2 (fun ho c => ?_) (fun P' q' z2 => by subst z2; rcases z with ⟨_, z⟩ | ⟨_, z⟩ <;> cases z), P.f, ?_, fun m hm => P.mu m (by rw [List.length_set]; exact hm), fun b u q nb => P.keep b u q fun m hm => nb m (by rw [List.length_set] at hm; exact hm), P.nF, fun m h1 h2 => P.nC m (by rw [List.length_set]; exact h1) (by rw [List.length_set] at h2; exact h2), P.dom, fun m hm u u' e1 e3 B hB => ?_, fun m u e1 => ?_⟩
    · rcases z with ⟨xs, rfl⟩ | ⟨xs, rfl⟩
      · cases ho <;> first | exact c.elim | exact c
      · cases ho <;> first | exact c.elim | exact c
    · have := P.le
      rw [List.length_set] at this ⊢
      exact this
    · by_cases hnm : n = m
      · subst hnm
        rw [List.getElem?_set_self (List.getElem?_eq_some_iff.mp e2).1] at e3
        cases e3
        rw [e] at e1
        cases e1
        exact hB
      · rw [List.getElem?_set_ne hnm] at e3
        exact P.cl m hm u u' (by rw [List.getElem?_set_ne hnm]; exact e1) e3 B hB
    · have hm : n ≠ m := fun q => by
        subst q
        rw [e] at e1
        cases e1
        rcases z with ⟨xs, z⟩ | ⟨xs, z⟩ <;> cases z
      obtain ⟨q1, q2⟩ := P.lk m u (by rw [List.getElem?_set_ne hm]; exact e1)
      exact ⟨by rw [List.getElem?_set_ne hm]; exact q1, q2⟩
/-! ### what is walked -/
/-- what a walk asks of the steps since: the frozen things, the slots' places and the locks stay -/
structure StpW (S : Store) (μ : Nat → Addr) (H F : Hp) (S' : Store) (μ' : Nat → Addr) (H' F' : Hp) : Prop where
  f : Same F F'
  le : S.length ≤ S'.length
  mu : ∀ n, n < S.length → μ' n = μ n
  lk : ∀ (n : Nat) o, S[n]? = some (.lck o) → S'[n]? = some (.lck o) ∧ ∀ u, H (μ n) = some u → H' (μ n) = some u
theorem Stp.w (P : Stp L S μ H F S2 μ2 H2 F2) : StpW S μ H F S2 μ2 H2 F2 := ⟨P.f, P.le, P.mu, P.lk⟩
theorem StpW.refl : StpW S μ H F S μ H F := ⟨fun _ _ h => h, Nat.le_refl _, fun _ _ => rfl, fun _ _ e => ⟨e, fun _ h => h⟩⟩
theorem StpW.step {S3 : Store} {μ3 : Nat → Addr} {H3 F3 : Hp} (P : StpW S μ H F S2 μ2 H2 F2) (Q : Stp L S2 μ2 H2 F2 S3 μ3 H3 F3) : StpW S μ H F S3 μ3 H3 F3 where
  f := fun a o h => Q.f _ _ (P.f _ _ h)
  le := Nat.le_trans P.le Q.le
  mu := fun n hn => (Q.mu n (Nat.lt_of_lt_of_le hn P.le)).trans (P.mu n hn)
  lk := fun n o e => by
    obtain ⟨q1, q2⟩ := P.lk n o e
    obtain ⟨q3, q4⟩ := Q.lk n o q1
    exact ⟨q3, fun u h => by
      have hn := (List.getElem?_eq_some_iff.mp e).1
      have := q4 u (by rw [P.mu n hn]; exact q2 u h)
      rw [P.mu n hn] at this
      exact this⟩
/-- at every later state the turns give these items -/
def ItOk (K : PySem.W.Frag) (S : Store) (μ : Nat → Addr) (H F : Hp) (J : It) (items : List Mi.D) : Prop := ∀ (fr' : Frame) (S' : Store) (μ' : Nat → Addr) (σ' : L2.St) (H' F' : Hp), Ab K fr' S' μ' σ' H' F' → StpW S μ H F S' μ' H' F' → ∀ i : Nat,
  (items.length ≤ i → J.stop i H') ∧ ∀ d, items[i]? = some d → J.go i H' ∧ ∀ x H2, J.yld i H' x H2 → ∃ F2, Ab K fr' S' μ' σ' H2 F2 ∧ (∀ L, Stp L S' μ' H' F' S' μ' H2 F2) ∧ RepC K S'.length μ' F2 x d
def KI (K : PySem.W.Frag) (R : It → Hp → Prop) : List Mi.D × Option Nat → Store → (Nat → Addr) → Hp → Hp → Prop := fun p S' μ' H' F' => LkOk S' p.2 → ∀ J, ItOk K (lckS S' p.2) μ' H' F' J p.1 → R J H'
def SemI (X : Cx) (gi : GI) (k : Nat) (tg it : Expr) (f : XI) : Prop := ∀ er q, Lnk X gi k er q → ∀ W, Takes X W → ∀ fr S μ σ H F, Ab X.K fr S μ σ H F → ∀ R, WR X.K er W q.L fr σ S μ H F (f q fr S) (KI X.K R) → semI X tg it σ H R
theorem toC {vs : List V} {xs : List T} {M : Nat} (r : RepL K (At F) vs xs) : RepCs K M μ F vs (xs.map Mi.D.t) := by
  induction xs generalizing vs with
  | nil => cases r; exact .nil
  | cons x xs ih =>
    cases r with
    | cons h t => exact .cons (.t h) (ih t)
/-- a list that stands still -/
theorem itok_list {a : Addr} {vs : List V} {ds : List Mi.D} (h : ∀ S' μ' H' F', Hs K S' μ' H' F' → StpW S μ H F S' μ' H' F' → H' a = some (.lst vs) ∧ RepCs K S'.length μ' F' vs ds) : ItOk K S μ H F (Itl K a) ds := by
  intro fr' S' μ' σ' H' F' A P i
  obtain ⟨h1, h2⟩ := h S' μ' H' F' A.hs P
  refine ⟨fun hi => ⟨vs, SqL.of h1, by rw [h2.length]; exact hi⟩, fun d hd => ?_⟩
  obtain ⟨v, e, r⟩ := h2.get' hd
  refine ⟨⟨vs, v, SqL.of h1, e⟩, fun x H2 hy => ?_⟩
  obtain ⟨rfl, hy⟩ := hy
  have e2 := hy vs (SqL.of h1)
  rw [e] at e2
  cases e2
  exact ⟨F', A, fun _ => .refl, r⟩
theorem itok_rev {a : Addr} {vs : List V} {ds : List Mi.D} (h : ∀ S' μ' H' F', Hs K S' μ' H' F' → StpW S μ H F S' μ' H' F' → H' a = some (.lst vs) ∧ RepCs K S'.length μ' F' vs ds) (hl : vs.length = ds.length) : ItOk K S μ H F (Itv K a vs.length) ds.reverse := by
  intro fr' S' μ' σ' H' F' A P i
  obtain ⟨h1, h2⟩ := h S' μ' H' F' A.hs P
  refine ⟨fun hi => by rw [List.length_reverse] at hi; rw [hl]; exact hi, fun d hd => ?_⟩
  have hi := (List.getElem?_eq_some_iff.mp hd).1
  rw [List.length_reverse] at hi
  rw [List.getElem?_reverse hi] at hd
  rw [← hl] at hd
  obtain ⟨v, e, r⟩ := h2.get' hd
  refine ⟨⟨by rw [hl]; exact hi, vs, v, SqL.of h1, e⟩, fun x H2 hy => ?_⟩
  obtain ⟨rfl, hy⟩ := hy
  have e2 := hy vs (SqL.of h1)
  rw [e] at e2
  cases e2
  exact ⟨F', A, fun _ => .refl, r⟩
/-- a frozen object that is new -/
theorem Ab.side (A : Ab K fr S μ σ H F) {p : Addr} {o : HO} (hp : H p = none) : Ab K fr S μ σ (upd H p o) (upd F p o) ∧ ∀ L, Stp L S μ H F S μ (upd H p o) (upd F p o) := by
  have hF := free_F A.hs.sub hp
  have nC := free_C A.hs hp
  have sf : Same F (upd F p o) := fun b u e => by
    rw [upd_ne (ne_of_none e hF)]
    exact e
  have hs : Hs K S μ (upd H p o) (upd F p o) := (A.hs.laid hp).more sf (fun b u e => by
    by_cases hb : b = p
    · subst hb
      rw [upd_same] at e
      cases e
      exact .inl upd_same
    · rw [upd_ne hb] at e
      exact now_keep (fun w z => by rw [upd_ne hb]; exact z) (A.hs.sub b u e)) fun m hm => by
        rw [upd_ne (nC m hm)]
        exact A.hs.out m hm
  have P : ∀ L, Stp L S μ H F S μ (upd H p o) (upd F p o) := fun L =>
    { stp_laid (L := L) (S := S) (μ := μ) (F := F) (o := o) hp with
      f := sf
      nF := fun a u e q => by
        by_cases hb : a = p
        · subst hb
          exact hp
        · rw [upd_ne hb, q] at e
          cases e }
  exact ⟨A.hsof (P 0) hs, P⟩
theorem enumT_get {xs : List T} {i : Nat} : (enumT xs)[i]? = (xs[i]?).map fun x => T.tup [.int (i : Nat), x] := by
  unfold enumT
  rw [List.getElem?_zipWith]
  by_cases h : i < xs.length
  · rw [List.getElem?_range h, List.getElem?_eq_getElem h]
    rfl
  · rw [List.getElem?_eq_none (by rw [List.length_range]; omega), List.getElem?_eq_none (by omega)]
    rfl
theorem enumT_len {xs : List T} : (enumT xs).length = xs.length := by
  unfold enumT
  rw [List.length_zipWith, List.length_range, Nat.min_self]
theorem itok_enum {a : Addr} {vs : List V} {xs : List T} (h : ∀ S' μ' H' F', Hs K S' μ' H' F' → StpW S μ H F S' μ' H' F' → H' a = some (.lst vs) ∧ RepL K (At F') vs xs) : ItOk K S μ H F (Ite K a) ((enumT xs).map Mi.D.t) := by
  intro fr' S' μ' σ' H' F' A P i
  obtain ⟨h1, h2⟩ := h S' μ' H' F' A.hs P
  refine ⟨fun hi => ⟨vs, SqL.of h1, by rw [List.length_map, enumT_len] at hi; rw [h2.length]; exact hi⟩, fun d hd => ?_⟩
  rw [List.getElem?_map, enumT_get] at hd
  cases q : xs[i]? with
  | none =>
    rw [q] at hd
    cases hd
  | some y =>
    rw [q] at hd
    cases hd
    obtain ⟨v, e, r⟩ := h2.get' q
    refine ⟨⟨vs, v, SqL.of h1, e⟩, fun x H2 hy => ?_⟩
    obtain ⟨T, x1, rfl, hT, rfl, hx⟩ := hy
    have e3 := hx vs (SqL.of h1)
    rw [e] at e3
    cases e3
    obtain ⟨A2, P2⟩ := A.side (o := .tup [V.int (i : Nat), v]) hT
    exact ⟨_, A2, P2, .t (.tup upd_same (.cons (.int _) (.cons (r.mono (at_mono (P2 0).f)) .nil)))⟩
/-- a list that may be walked: where it stands, what locks it -/
theorem still_t (A : Hs K S μ H F) {a : Addr} {vs : List V} {xs : List T} (h1 : F a = some (.lst vs)) (h2 : RepL K (At F) vs xs) : ∀ S' μ' H' F', Hs K S' μ' H' F' → StpW S μ H F S' μ' H' F' → H' a = some (.lst vs) ∧ RepL K (At F') vs xs := fun S' μ' H' F' A' P => ⟨now_lst (A'.sub _ _ (P.f _ _ h1)), h2.mono (at_mono P.f)⟩
theorem still_c (A : Hs K S μ H F) {n : Nat} {xs : List T} (e : S[n]? = some (.lck (.lst xs))) : ∃ vs, vs.length = xs.length ∧ ∀ S' μ' H' F', Hs K S' μ' H' F' → StpW S μ H F S' μ' H' F' → H' (μ n) = some (.lst vs) ∧ RepL K (At F') vs xs := by
  obtain ⟨ho, h1, h2⟩ := A.ce n _ e
  cases ho <;> first | exact h2.elim | skip
  rename_i vs
  have h2' : RepL K (At F) vs xs := h2
  exact ⟨vs, h2'.length, fun S' μ' H' F' A' P => ⟨(P.lk n _ e).2 _ h1, h2'.mono (at_mono P.f)⟩⟩
theorem still_o (A : Hs K S μ H F) {n : Nat} {ds : List Mi.D} (e : S[n]? = some (.lck (.lsto ds))) : ∃ vs, vs.length = ds.length ∧ ∀ S' μ' H' F', Hs K S' μ' H' F' → StpW S μ H F S' μ' H' F' → H' (μ n) = some (.lst vs) ∧ RepCs K S'.length μ' F' vs ds := by
  obtain ⟨ho, h1, h2⟩ := A.ce n _ e
  cases ho <;> first | exact h2.elim | skip
  rename_i vs
  have h2' : RepCs K S.length μ F vs ds := h2
  exact ⟨vs, h2'.length, fun S' μ' H' F' A' P => ⟨(P.lk n _ e).2 _ h1, h2'.mono P.le P.mu P.f⟩⟩
theorem lck_get {n : Nat} {o : Ob} (e : S[n]? = some o) (h : (∃ xs, o = .lst xs) ∨ ∃ ds, o = .lsto ds) : (lckS S (some n))[n]? = some (.lck o) := by
  rw [lck_eq e h]
  exact List.getElem?_set_self (List.getElem?_eq_some_iff.mp e).1
/-- what is frozen, or new and then frozen -/
theorem fz_still (A : Ab K fr S μ σ H F) (P : Stp L S0 μ0 H0 F0 S μ H F) {v : V} {x : Mi.D} {xs : List T} (r : RepN K S.length μ F H v x as) (o : Own as H0 F μ S) (hc : ∀ n, x ≠ .cell n) (e : sq S x = some xs) :
    ∃ F' a vs, Ab K fr S μ σ H F' ∧ Stp L S0 μ0 H0 F0 S μ H F' ∧ v = .ref a ∧ F' a = some (.lst vs) ∧ RepL K (At F') vs xs := by
  cases r with
  | c r =>
    cases r with
    | t r =>
      rename_i y
      cases y with
      | lst ys =>
        cases e
        obtain ⟨a, vs, rfl, h1, h2⟩ := rep_lst r
        exact ⟨F, a, vs, A, P, rfl, h1, h2⟩
      | _ => cases e
    | cell hn => exact absurd rfl (hc _)
  | new h1 h2 =>
    cases e
    obtain ⟨A2, P2⟩ := A.frzd P o
    exact ⟨_, _, _, A2, P2, rfl, (frz_in (List.mem_singleton.mpr rfl)).trans h1, h2.mono (at_mono (frz_same fun a ha => (o.fr a ha).2.1))⟩
  | newd _ _ => cases e
  | newo _ _ => cases e
  | tupo _ _ => cases e
theorem cell_ref {v : V} {n : Nat} (r : RepN K S.length μ F H v (.cell n) as) : v = .ref (μ n) := by
  cases r with
  | c r =>
    cases r with
    | cell _ => rfl
theorem KI.use {p : List Mi.D × Option Nat} {R : It → Hp → Prop} {q : Q} (w : WR K er W L fr σ S0 μ0 H0 F0 (.ok p S) (KI K R)) (A : Ab K fr S μ σ H F) (P : Stp L S0 μ0 H0 F0 S μ H F) (h : LkOk S p.2) {J : It} (ok : ItOk K (lckS S p.2) μ H F J p.1) : R J H := w μ H F A P h J ok
theorem semi_e (h1 : SemE X gi k it f) : SemI X gi k tg it (Z.itE f) := by
  intro er q lk W tk fr S μ σ H F A R w
  refine ⟨_, pi_list pe_sem, h1.go lk tk A .refl w fun x S1 μ1 H1 F1 v as A1 P1 r1 o1 w1 => ?_⟩

  split at w1
  · rename_i n
    have hv := cell_ref r1
    subst hv
    split at w1
    · rename_i xs e1
      obtain ⟨vs, hl, st⟩ := still_c (A1.lck (l := some n) ⟨_, e1, .inl ⟨_, rfl⟩⟩).hs (lck_get e1 (.inl ⟨_, rfl⟩))
      refine ⟨_, rfl, ⟨vs, SqL.of (st _ _ _ _ (A1.lck (l := some n) ⟨_, e1, .inl ⟨_, rfl⟩⟩).hs .refl).1⟩, w1 μ1 H1 F1 A1 P1 ⟨_, e1, .inl ⟨_, rfl⟩⟩ _ (itok_list fun S' μ' H' F' A' P => ⟨(st S' μ' H' F' A' P).1, toC (st S' μ' H' F' A' P).2⟩)⟩
    · rename_i ds e1
      obtain ⟨vs, hl, st⟩ := still_o (A1.lck (l := some n) ⟨_, e1, .inr ⟨_, rfl⟩⟩).hs (lck_get e1 (.inr ⟨_, rfl⟩))
      exact ⟨_, rfl, ⟨vs, SqL.of (st _ _ _ _ (A1.lck (l := some n) ⟨_, e1, .inr ⟨_, rfl⟩⟩).hs .refl).1⟩, w1 μ1 H1 F1 A1 P1 ⟨_, e1, .inr ⟨_, rfl⟩⟩ _ (itok_list st)⟩
    · rename_i xs e1
      obtain ⟨vs, hl, st⟩ := still_c A1.hs e1
      exact ⟨_, rfl, ⟨vs, SqL.of (st _ _ _ _ A1.hs .refl).1⟩, w1 μ1 H1 F1 A1 P1 trivial _ (itok_list fun S' μ' H' F' A' P => ⟨(st S' μ' H' F' A' P).1, toC (st S' μ' H' F' A' P).2⟩)⟩
    · rename_i ds e1
      obtain ⟨vs, hl, st⟩ := still_o A1.hs e1
      exact ⟨_, rfl, ⟨vs, SqL.of (st _ _ _ _ A1.hs .refl).1⟩, w1 μ1 H1 F1 A1 P1 trivial _ (itok_list st)⟩
    · exact w1.elim
  · rename_i ds
    split at w1
    · rename_i n S2 e0
      split at w1
      · rename_i es e1
        obtain ⟨μ2, t, r2⟩ := thaw_ok 6 e0 A1.hs r1 o1
        have A2 : Ab X.K fr S2 μ2 σ H1 F1 := ⟨t.hs, A1.len, fun i d e => by
          obtain ⟨w, e1, r1⟩ := A1.sl i d e
          exact ⟨w, e1, r1.mono t.le t.mu sameF⟩⟩
        have P2 := t.stp P1 fun a ha => (o1.fr a ha).1
        have hv := cell_ref (as := []) (H := H1) (.c r2)
        subst hv
        obtain ⟨vs, hl, st⟩ := still_o (A2.lck (l := some n) ⟨_, e1, .inr ⟨_, rfl⟩⟩).hs (lck_get e1 (.inr ⟨_, rfl⟩))
        exact ⟨_, rfl, ⟨vs, SqL.of (st _ _ _ _ (A2.lck (l := some n) ⟨_, e1, .inr ⟨_, rfl⟩⟩).hs .refl).1⟩, w1 μ2 H1 F1 A2 P2 ⟨_, e1, .inr ⟨_, rfl⟩⟩ _ (itok_list st)⟩
      · exact w1.elim
    · exact w1.elim
  · rename_i hc _
    split at w1
    · rename_i xs e1
      obtain ⟨F', a, vs, A2, P2, rfl, h1, h2⟩ := fz_still A1 P1 r1 o1 hc e1
      have st := still_t A2.hs h1 h2
      exact ⟨_, rfl, ⟨vs, SqL.of (st _ _ _ _ A2.hs .refl).1⟩, w1 μ1 H1 F' A2 P2 trivial _ (itok_list fun S' μ' H' F' A' P => ⟨(st S' μ' H' F' A' P).1, toC (st S' μ' H' F' A' P).2⟩)⟩
    · exact w1.elim
theorem range_get {m i : Nat} {f : Nat → Mi.D} : ((List.range m).map f)[i]? = if i < m then some (f i) else none := by
  rw [List.getElem?_map]
  by_cases h : i < m
  · rw [List.getElem?_range h, if_pos h]
    rfl
  · rw [List.getElem?_eq_none (by rw [List.length_range]; omega), if_neg h]
    rfl
theorem itok_range {lo : Int} {m : Nat} : ItOk K S μ H F (Itr lo m) ((List.range m).map fun k : Nat => .int (lo + (k : Int))) := by
  intro fr' S' μ' σ' H' F' A P i
  refine ⟨fun hi => by rw [List.length_map, List.length_range] at hi; exact hi, fun d hd => ?_⟩
  rw [range_get] at hd
  split at hd
  · rename_i h
    cases hd
    refine ⟨h, fun x H2 hy => ?_⟩
    obtain ⟨rfl, rfl⟩ := hy
    exact ⟨F', A, fun _ => .refl, .t (.int _)⟩
  · cases hd
theorem semi_r1 (g : Gl X "range") (m : X.mg "range" = none) (h1 : SemE X gi k a f) (hs : starEach [a] X.env = [(false, eval a X.env)]) : SemI X gi k tg (.Call (.Name "range" p) [a] [] pos) (Z.itR f) := by
  intro er q lk W tk fr S μ σ H F A R w
  refine ⟨_, pi_range1 g m (pa_cons pe_sem pa_nil hs) hs, h1.go lk tk A .refl w fun x S1 μ1 H1 F1 v as A1 P1 r1 o1 w1 => ?_⟩
  split at w1
  · rename_i n
    split at w1
    · rename_i hn
      refine ⟨n, by rw [rep_int (repT r1).1], hn.1, hn.2, w1 μ1 H1 F1 A1 P1 trivial _ ?_⟩
      have := itok_range (K := X.K) (S := S1) (μ := μ1) (H := H1) (F := F1) (lo := 0) (m := n.toNat)
      simp only [Int.zero_add] at this
      exact this
    · exact w1.elim
  · exact w1.elim
theorem semi_r2 (gl : Gl X "range") (m : X.mg "range" = none) (h1 : SemE X gi k a f) (h2 : SemE X gi k b g) (hs : starEach [a, b] X.env = [(false, eval a X.env), (false, eval b X.env)]) (hs2 : starEach [b] X.env = [(false, eval b X.env)]) : SemI X gi k tg (.Call (.Name "range" p) [a, b] [] pos) (Z.itR2 f g) := by
  intro er q lk W tk fr S μ σ H F A R w
  refine ⟨_, pi_range2 gl m (pa_cons pe_sem (pa_cons pe_sem pa_nil hs2) (by rw [hs, hs2])) hs hs2, h1.go lk tk A .refl w fun x S1 μ1 H1 F1 v as A1 P1 r1 o1 w1 => h2.go lk tk A1 P1 w1 fun y S2 μ2 H2 F2 u bs A2 P2 r2 o2 w2 => ?_⟩
  split at w2
  · rename_i i j
    split at w2
    · rename_i hn
      exact ⟨i, j, by rw [rep_int (repT r1).1, rep_int (repT r2).1], hn, w2 μ2 H2 F2 A2 (P1.trans P2) trivial _ itok_range⟩
    · exact w2.elim
  · exact w2.elim
theorem semi_en {elts : List Expr} {kk : Nat} {tp : Pos} (gl : Gl X "enumerate") (m : X.mg "enumerate" = none) (h1 : SemE X gi k a f) (hs : starEach [a] X.env = [(false, eval a X.env)]) : SemI X gi k (.Tuple elts kk tp) (.Call (.Name "enumerate" p) [a] [] pos) (Z.itEn f) := by
  intro er q lk W tk fr S μ σ H F A R w
  refine ⟨_, pi_enum gl m (pa_cons pe_sem pa_nil hs) hs, h1.go lk tk A .refl w fun x S1 μ1 H1 F1 v as A1 P1 r1 o1 w1 => ?_⟩
  split at w1
  · rename_i n
    have hv := cell_ref r1
    subst hv
    split at w1
    · rename_i xs e1
      obtain ⟨vs, hl, st⟩ := still_c (A1.lck (l := some n) ⟨_, e1, .inl ⟨_, rfl⟩⟩).hs (lck_get e1 (.inl ⟨_, rfl⟩))
      exact ⟨_, vs, rfl, SqL.of (st _ _ _ _ (A1.lck (l := some n) ⟨_, e1, .inl ⟨_, rfl⟩⟩).hs .refl).1, w1 μ1 H1 F1 A1 P1 ⟨_, e1, .inl ⟨_, rfl⟩⟩ _ (itok_enum st)⟩
    · rename_i xs e1
      obtain ⟨vs, hl, st⟩ := still_c A1.hs e1
      exact ⟨_, vs, rfl, SqL.of (st _ _ _ _ A1.hs .refl).1, w1 μ1 H1 F1 A1 P1 trivial _ (itok_enum st)⟩
    · exact w1.elim
  · rename_i hc
    split at w1
    · rename_i xs e1
      obtain ⟨F', a, vs, A2, P2, rfl, h1, h2⟩ := fz_still A1 P1 r1 o1 hc e1
      have st := still_t A2.hs h1 h2
      exact ⟨_, vs, rfl, SqL.of (st _ _ _ _ A2.hs .refl).1, w1 μ1 H1 F' A2 P2 trivial _ (itok_enum st)⟩
    · exact w1.elim
theorem semi_rv (gl : Gl X "reversed") (m : X.mg "reversed" = none) (h1 : SemE X gi k a f) (hs : starEach [a] X.env = [(false, eval a X.env)]) : SemI X gi k tg (.Call (.Name "reversed" p) [a] [] pos) (Z.itRv f) := by
  intro er q lk W tk fr S μ σ H F A R w
  refine ⟨_, pi_reversed gl m (pa_cons pe_sem pa_nil hs) hs, h1.go lk tk A .refl w fun x S1 μ1 H1 F1 v as A1 P1 r1 o1 w1 => ?_⟩
  have fin : ∀ {S0 : Store} {μ0 : Nat → Addr} {H0 F0 : Hp} {a : Addr} {vs : List V} {xs : List T}, vs.length = xs.length → (∀ S' μ' H' F', Hs X.K S' μ' H' F' → StpW S0 μ0 H0 F0 S' μ' H' F' → H' a = some (.lst vs) ∧ RepL X.K (At F') vs xs) → ItOk X.K S0 μ0 H0 F0 (Itv X.K a vs.length) (xs.reverse.map Mi.D.t) := fun {S0 μ0 H0 F0 a vs xs} hl st => by
    rw [List.map_reverse]
    exact itok_rev (fun S' μ' H' F' A' P => ⟨(st S' μ' H' F' A' P).1, toC (st S' μ' H' F' A' P).2⟩) (by rw [List.length_map]; exact hl)
  split at w1
  · rename_i n
    have hv := cell_ref r1
    subst hv
    split at w1
    · rename_i xs e1
      obtain ⟨vs, hl, st⟩ := still_c (A1.lck (l := some n) ⟨_, e1, .inl ⟨_, rfl⟩⟩).hs (lck_get e1 (.inl ⟨_, rfl⟩))
      exact ⟨_, vs, rfl, SqL.of (st _ _ _ _ (A1.lck (l := some n) ⟨_, e1, .inl ⟨_, rfl⟩⟩).hs .refl).1, w1 μ1 H1 F1 A1 P1 ⟨_, e1, .inl ⟨_, rfl⟩⟩ _ (fin hl st)⟩
    · rename_i xs e1
      obtain ⟨vs, hl, st⟩ := still_c A1.hs e1
      exact ⟨_, vs, rfl, SqL.of (st _ _ _ _ A1.hs .refl).1, w1 μ1 H1 F1 A1 P1 trivial _ (fin hl st)⟩
    · exact w1.elim
  · rename_i hc
    split at w1
    · rename_i xs e1
      obtain ⟨F', a, vs, A2, P2, rfl, h1, h2⟩ := fz_still A1 P1 r1 o1 hc e1
      have st := still_t A2.hs h1 h2
      exact ⟨_, vs, rfl, SqL.of (st _ _ _ _ A2.hs .refl).1, w1 μ1 H1 F' A2 P2 trivial _ (fin h2.length st)⟩
    · exact w1.elim
/-! ### for -/
theorem Lnk.qL {q : Q} {c : Bool} (lk : Lnk X gi k er q) : Lnk X gi k er (Z.qL c q S) := by
  unfold Z.qL
  split
  · exact ⟨lk.df, lk.xo, lk.ta⟩
  · exact lk
theorem Stp.qL {q : Q} {c : Bool} (P : Stp (Z.qL c q S).L S μ H F S1 μ1 H1 F1) : Stp q.L S μ H F S1 μ1 H1 F1 := by
  cases c with
  | true => exact Stp.any P
  | false => exact P
/-- what a turn made is forgotten -/
theorem cut_ok (A0 : Hs K S1 μ1 H1 F1) (A : Ab K fr S2 μ2 σ H2 F2) (P : Stp S1.length S1 μ1 H1 F1 S2 μ2 H2 F2) : Ab K (Z.hideF S1.length fr) (S2.take S1.length) μ2 σ H2 F2 ∧ Stp S1.length S1 μ1 H1 F1 (S2.take S1.length) μ2 H2 F2 := by
  refine ⟨⟨Hs.takeS A0 A.hs P, by unfold Z.hideF; rw [List.length_map]; exact A.len, fun i d e => ?_⟩, P.take⟩
  unfold Z.hideF at e
  rw [List.getElem?_map] at e
  cases q : fr[i]? with
  | none =>
    rw [q] at e
    cases e
  | some u =>
    rw [q] at e
    have hl : (S2.take S1.length).length = S1.length := by rw [List.length_take, Nat.min_eq_left P.le]
    rw [hl]
    cases u with
    | none => cases e
    | some d0 =>
      have e := Option.some.inj e
      obtain ⟨v, e1, r⟩ := A.sl i d0 q
      cases r with
      | t r =>
        cases e
        exact ⟨v, e1, .t r⟩
      | cell hn =>
        dsimp only at e
        split at e
        · rename_i h
          cases e
          exact ⟨_, e1, .cell h⟩
        · cases e
theorem WS.turn {c : Bool} {q : Q} {cont : Frame → Store → R (Fl × Frame)} {r : R (Fl × Frame)} {Nx : L2.St → Hp → Prop} (A1 : Hs K S1 μ1 H1 F1) (P : Stp (Z.qL c q S1).L S1 μ1 H1 F1 S μ H F)
    (w : WS K er W (Z.qL c q S1).L S1 μ1 H1 F1 ((Z.cutR c S1.length r).bnd fun p S2 => match p.1 with
      | .nx => cont p.2 S2
      | .ct => cont p.2 S2
      | .bk => .ok (.nx, p.2) S2
      | .rt e => .ok (.rt e, p.2) S2) D)
    (n : ∀ fr2 S2 μ2 σ2 H2 F2, Ab K fr2 S2 μ2 σ2 H2 F2 → Stp (Z.qL c q S1).L S1 μ1 H1 F1 S2 μ2 H2 F2 → WS K er W (Z.qL c q S1).L S1 μ1 H1 F1 (cont fr2 S2) D → Nx σ2 H2) :
    WS K er W (Z.qL c q S1).L S μ H F r { nx := Nx, rt := D.rt, bk := D.nx, ct := Nx } := by
  cases r with
  | no => exact w.elim
  | ex cc x S2 => exact fun fr2 σ2 μ2 H2 F2 cls dx A2 P2 ee => w fr2 σ2 μ2 H2 F2 cls dx A2 (P.trans P2) ee
  | ok p S2 =>
    obtain ⟨fl, fr2⟩ := p
    cases c with
    | true =>
      cases fl with
      | nx => exact fun σ2 μ2 H2 F2 A2 P2 => n _ _ μ2 σ2 H2 F2 (cut_ok A1 A2 (P.trans P2)).1 (cut_ok A1 A2 (P.trans P2)).2 w
      | ct => exact fun σ2 μ2 H2 F2 A2 P2 => n _ _ μ2 σ2 H2 F2 (cut_ok A1 A2 (P.trans P2)).1 (cut_ok A1 A2 (P.trans P2)).2 w
      | bk => exact fun σ2 μ2 H2 F2 A2 P2 => w σ2 μ2 H2 F2 (cut_ok A1 A2 (P.trans P2)).1 (cut_ok A1 A2 (P.trans P2)).2
      | rt d => exact fun σ2 μ2 H2 F2 A2 P2 v as r o => w σ2 μ2 H2 F2 A2 (P.trans P2) v as r (o.start P.dom)
    | false =>
      cases fl with
      | nx => exact fun σ2 μ2 H2 F2 A2 P2 => n _ _ μ2 σ2 H2 F2 A2 (P.trans P2) w
      | ct => exact fun σ2 μ2 H2 F2 A2 P2 => n _ _ μ2 σ2 H2 F2 A2 (P.trans P2) w
      | bk => exact fun σ2 μ2 H2 F2 A2 P2 => w σ2 μ2 H2 F2 A2 (P.trans P2)
      | rt d => exact fun σ2 μ2 H2 F2 A2 P2 v as r o => w σ2 μ2 H2 F2 A2 (P.trans P2) v as r (o.start P.dom)
theorem for_core {g : Z.Tg} {c : Bool} {J : It} {items : List Mi.D} (hg : SemG X tg g) (hb : SemB X gi k st fb) {q : Q} (lk : Lnk X gi k er q) (tk : Takes X W) (A1 : Ab X.K fr S1 μ1 σ H1 F1) (ok : ItOk X.K S1 μ1 H1 F1 J items)
    (w : WS X.K er W (Z.qL c q S1).L S1 μ1 H1 F1 (Z.forL g (fun fr2 S2 => Z.cutR c S1.length (fb (Z.qL c q S1) fr2 S2)) items fr S1) D) :
    ∃ Wv : Nat → Nat → L2.St → Hp → Prop, (∃ m, Wv 0 m σ H1) ∧ ∀ (i m : Nat) (σ : L2.St) (H : Hp), Wv i m σ H → J.stop i H ∧ D.nx σ H ∨ J.go i H ∧ ∃ Nx : L2.St → Hp → Prop, (∀ σ' H', Nx σ' H' → ∃ m', m' < m ∧ Wv (i + 1) m' σ' H') ∧
      ∀ x H', J.yld i H x H' → semG X tg x σ H' fun σ2 H2 => semSs X st { nx := Nx, rt := D.rt, bk := D.nx, ct := Nx } σ2 H2 := by
  refine ⟨fun i m σ' H' => m = items.length - i ∧ i ≤ items.length ∧ ∃ fr' S' μ' F', Ab X.K fr' S' μ' σ' H' F' ∧ Stp (Z.qL c q S1).L S1 μ1 H1 F1 S' μ' H' F' ∧ WS X.K er W (Z.qL c q S1).L S1 μ1 H1 F1 (Z.forL g (fun fr2 S2 => Z.cutR c S1.length (fb (Z.qL c q S1) fr2 S2)) (items.drop i) fr' S') D,
    ⟨_, rfl, Nat.zero_le _, fr, S1, μ1, F1, A1, .refl, by rw [List.drop_zero]; exact w⟩, ?_⟩
  rintro i m σ' H' ⟨rfl, hle, fr', S', μ', F', A', P', w'⟩
  obtain ⟨j1, j2⟩ := ok fr' S' μ' σ' H' F' A' P'.w i
  by_cases hlt : i < items.length
  · refine .inr ?_
    have e : items[i]? = some (items[i]) := List.getElem?_eq_getElem hlt
    obtain ⟨g1, g2⟩ := j2 _ e
    refine ⟨g1, fun σ2 H2 => ∃ fr2 S2 μ2 F2, Ab X.K fr2 S2 μ2 σ2 H2 F2 ∧ Stp (Z.qL c q S1).L S1 μ1 H1 F1 S2 μ2 H2 F2 ∧ WS X.K er W (Z.qL c q S1).L S1 μ1 H1 F1 (Z.forL g (fun fr2 S2 => Z.cutR c S1.length (fb (Z.qL c q S1) fr2 S2)) (items.drop (i + 1)) fr2 S2) D,
      fun σ2 H2 ⟨fr2, S2, μ2, F2, A2, P2, w2⟩ => ⟨items.length - (i + 1), by omega, rfl, hlt, fr2, S2, μ2, F2, A2, P2, w2⟩, fun x H2 hy => ?_⟩
    obtain ⟨F2, A2, P2, rc⟩ := g2 x H2 hy
    rw [List.drop_eq_getElem_cons hlt] at w'
    unfold Z.forL at w'
    split at w'
    · exact w'.elim
    · rename_i fr1 ea
      have P := P'.trans (P2 _)
      exact hg A2 rc ea _ fun σ3 A3 _ => hb er _ lk.qL W tk fr1 S' μ' σ3 H2 F2 A3 _ (WS.turn A1.hs P w' fun fr4 S4 μ4 σ4 H4 F4 A4 P4 w4 => ⟨fr4, S4, μ4, F4, A4, P4, w4⟩)
  · refine .inl ⟨j1 (by omega), ?_⟩
    rw [List.drop_eq_nil_of_le (by omega)] at w'
    exact w' σ' μ' H' F' A' P'
/-- the want within a locked loop -/
theorem WS.unl {l : Option Nat} {c : Bool} {q : Q} {r : R (Fl × Frame)} (h : LkOk S1 l) (P1 : Stp q.L S μ H F S1 μ1 H1 F1) (w : WS K er W q.L S μ H F (unlR l r) D) : WS K er W (Z.qL c q (lckS S1 l)).L (lckS S1 l) μ1 H1 F1 r D := by
  have main : ∀ {fr' : Frame} {S' : Store} {σ' : L2.St} {μ' : Nat → Addr} {H' F' : Hp}, Ab K fr' S' μ' σ' H' F' → Stp (Z.qL c q (lckS S1 l)).L (lckS S1 l) μ1 H1 F1 S' μ' H' F' → Ab K fr' (unlS S' l) μ' σ' H' F' ∧ Stp q.L S μ H F (unlS S' l) μ' H' F' := fun {fr' S' σ' μ' H' F'} A P => by
    obtain ⟨A2, P2⟩ := unl_ok h P.qL A
    exact ⟨A2, P1.trans P2⟩
  cases r with
  | no => exact w
  | ex cc x S2 => exact fun fr2 σ2 μ2 H2 F2 cls dx A2 P2 ee => w fr2 σ2 μ2 H2 F2 cls dx (main A2 P2).1 (main A2 P2).2 ee
  | ok p S2 =>
    obtain ⟨fl, fr2⟩ := p
    cases fl with
    | nx => exact fun σ2 μ2 H2 F2 A2 P2 => w σ2 μ2 H2 F2 (main A2 P2).1 (main A2 P2).2
    | ct => exact fun σ2 μ2 H2 F2 A2 P2 => w σ2 μ2 H2 F2 (main A2 P2).1 (main A2 P2).2
    | bk => exact fun σ2 μ2 H2 F2 A2 P2 => w σ2 μ2 H2 F2 (main A2 P2).1 (main A2 P2).2
    | rt d => exact fun σ2 μ2 H2 F2 A2 P2 v as r o => w σ2 μ2 H2 F2 (main A2 P2).1 (main A2 P2).2 v as (by rw [unl_len]; exact r) (by
        have o' := o.start P1.dom
        exact ⟨o'.nd, fun a ha => ⟨(o'.fr a ha).1, (o'.fr a ha).2.1, fun n hn => (o'.fr a ha).2.2 n (by rw [unl_len] at hn; exact hn)⟩⟩)
theorem sems_for {g : Z.Tg} {cc : Bool} (hp : PassesOwn (model X.prog X.w) X.A X.env X.xe) (hc : X.calm = true) (hi : SemI X gi k tg it fi) (hg : SemG X tg g) (hb : SemB X gi k st fb) (hfs : ∀ x, foldedSetIterable it X.env x = pure x) : SemS X gi k (.For tg it st [] pos) (Z.fors cc g fi fb) := by
  intro er q lk W tk fr S μ σ H F A D w
  refine ⟨_, ps_for hp hc pi_sem pg_sem pss_sem hfs, ?_⟩
  refine hi er q lk W tk fr S μ σ H F A _ (w.bnd .refl fr σ fun p S1 μ1 H1 F1 A1 P1 w1 lo J ok => ?_)
  exact for_core hg hb lk tk (A1.lck lo) ok (WS.unl lo P1 w1)
/-! ### while -/
theorem whN_lt {t : Frame → Store → R Bool} {b : Frame → Store → R (Fl × Frame)} {n : Nat} : Z.whN t b 0 fr S = .no := rfl
theorem sems_while {cc : Bool} (hp : PassesOwn (model X.prog X.w) X.A X.env X.xe) (ht : SemT X gi k c ft) (hb : SemB X gi k st fb) : SemS X gi k (.While c st [] pos) (Z.whs cc ft fb) := by
  intro er q lk W tk fr S μ σ H F A D w
  refine ⟨_, ps_while hp pt_sem pss_sem, ?_⟩
  have w0 : WS X.K er W q.L S μ H F (Z.wh (ft (Z.qL cc q S)) (fun fr2 S2 => Z.cutR cc S.length (fb (Z.qL cc q S) fr2 S2)) fr S) D := w
  have hne : Z.wh (ft (Z.qL cc q S)) (fun fr2 S2 => Z.cutR cc S.length (fb (Z.qL cc q S) fr2 S2)) fr S ≠ .no := fun z => by
    rw [z] at w0
    exact w0
  obtain ⟨n, hn⟩ := wh_some hne
  rw [hn] at w0
  clear hne hn w
  refine ⟨fun m σ' H' => ∃ fr' S' μ' F', Ab X.K fr' S' μ' σ' H' F' ∧ Stp (Z.qL cc q S).L S μ H F S' μ' H' F' ∧ WS X.K er W (Z.qL cc q S).L S μ H F (Z.whN (ft (Z.qL cc q S)) (fun fr2 S2 => Z.cutR cc S.length (fb (Z.qL cc q S) fr2 S2)) m fr' S') D, ⟨n, fr, S, μ, F, A, .refl, ?_⟩, ?_⟩
  · generalize Z.whN (ft (Z.qL cc q S)) (fun fr2 S2 => Z.cutR cc S.length (fb (Z.qL cc q S) fr2 S2)) n fr S = r at w0
    cases r with
    | no => exact w0
    | ex cc x S2 => exact fun fr2 σ2 μ2 H2 F2 cls dx A2 P2 ee => w0 fr2 σ2 μ2 H2 F2 cls dx A2 P2.qL ee
    | ok p S2 =>
      obtain ⟨fl, fr2⟩ := p
      cases fl with
      | nx => exact fun σ2 μ2 H2 F2 A2 P2 => w0 σ2 μ2 H2 F2 A2 P2.qL
      | ct => exact fun σ2 μ2 H2 F2 A2 P2 => w0 σ2 μ2 H2 F2 A2 P2.qL
      | bk => exact fun σ2 μ2 H2 F2 A2 P2 => w0 σ2 μ2 H2 F2 A2 P2.qL
      | rt d => exact fun σ2 μ2 H2 F2 A2 P2 v as r o => w0 σ2 μ2 H2 F2 A2 P2.qL v as r o
  rintro m σ' H' ⟨fr', S', μ', F', A', P', w'⟩
  cases m with
  | zero => exact w'.elim
  | succ m =>
    unfold Z.whN at w'
    refine ht er _ (lk.qL (c := cc) (S := S)) W tk fr' S' μ' σ' H' F' A' _ (w'.bnd P' fr' σ' fun kk S1 μ1 H1 F1 A1 P1 w1 => ?_)
    cases kk with
    | true =>
      rw [if_pos rfl] at w1
      unfold KT
      dsimp only
      rw [if_pos rfl]
      refine ⟨fun σ2 H2 => ∃ fr2 S2 μ2 F2, Ab X.K fr2 S2 μ2 σ2 H2 F2 ∧ Stp (Z.qL cc q S).L S μ H F S2 μ2 H2 F2 ∧ WS X.K er W (Z.qL cc q S).L S μ H F (Z.whN (ft (Z.qL cc q S)) (fun fr2 S2 => Z.cutR cc S.length (fb (Z.qL cc q S) fr2 S2)) m fr2 S2) D, fun σ2 H2 z => ⟨m, Nat.lt_succ_self m, z⟩, ?_⟩
      exact hb er _ lk.qL W tk fr' S1 μ1 σ' H1 F1 A1 _ (WS.turn A.hs (P'.trans P1) w1 fun fr4 S4 μ4 σ4 H4 F4 A4 P4 w4 => ⟨fr4, S4, μ4, F4, A4, P4, w4⟩)
    | false =>
      rw [if_neg Bool.false_ne_true] at w1
      unfold KT
      dsimp only
      rw [if_neg Bool.false_ne_true]
      exact w1 σ' μ1 H1 F1 A1 (P'.trans P1)
end
end Mi

set_option Elab.async false
set_option linter.all false
set_option maxRecDepth 100000
set_option maxHeartbeats 4000000
/-! N13: comprehensions -/
namespace Mi
open PySem PySem.Spec PyProof.Rows L2
abbrev bx (X : Cx) (scope : Scope) (s : Shared) (H : Hp) (C : Addr) (cl : List (Str × Addr)) (fp : List Addr) : Cx := X.blk s H scope (compEnvC scope cl C X.env) fp
section
variable {X : Cx} {gi : GI} {k : Nat} {N : List Str} {sc scope : Scope} {pos p1 p p2 pp : Pos} {e a b c i o tg it elt : Expr} {es ts ifs : List Expr} {f g h fe : XE} {ft gt : XT} {fi : XI}
variable {er : ER} {W : WX} {L : Nat} {fr fr1 fr2 : Frame} {σ σ1 σ2 : L2.St} {S S1 S2 S0 : Store} {μ μ1 μ2 μ0 : Nat → Addr} {H H1 H2 H0 F F1 F2 F0 : Hp} {as bs : List Addr} {K : PySem.W.Frag} {vs : List Nat}
/-! ### slots of the block -/
theorem wipeF_len (fr : Frame) : ∀ vs : List Nat, (wipeF fr vs).length = fr.length
  | [] => rfl
  | v :: vs => by
    unfold wipeF
    rw [List.length_set, wipeF_len fr vs]
theorem wipeF_out {fr : Frame} {j : Nat} : ∀ {vs : List Nat}, j ∉ vs → (wipeF fr vs)[j]? = fr[j]?
  | [], _ => rfl
  | v :: vs, h => by
    unfold wipeF
    rw [List.getElem?_set_ne (show v ≠ j from fun z => h (by rw [z]; exact List.mem_cons_self)), wipeF_out fun z => h (List.mem_cons_of_mem _ z)]
theorem wipeF_in {fr : Frame} {j : Nat} : ∀ {vs : List Nat}, j ∈ vs → j < fr.length → (wipeF fr vs)[j]? = some none
  | v :: vs, h, hl => by
    unfold wipeF
    by_cases e : v = j
    · subst e
      exact List.getElem?_set_self (by rw [wipeF_len]; exact hl)
    · rw [List.getElem?_set_ne e]
      exact wipeF_in ((List.mem_cons.mp h).resolve_left (Ne.symm e)) hl
theorem wipe_out {σ : L2.St} {j : Nat} : ∀ {vs : List Nat}, j ∉ vs → (wipe σ vs)[j]? = σ[j]?
  | [], _ => rfl
  | v :: vs, h => by
    unfold wipe
    rw [List.getElem?_set_ne (show v ≠ j from fun z => h (by rw [z]; exact List.mem_cons_self)), wipe_out fun z => h (List.mem_cons_of_mem _ z)]
theorem wipe_in {σ : L2.St} {j : Nat} : ∀ {vs : List Nat}, j ∈ vs → j < σ.length → (wipe σ vs)[j]? = some none
  | v :: vs, h, hl => by
    unfold wipe
    by_cases e : v = j
    · subst e
      exact List.getElem?_set_self (by rw [wipe_length]; exact hl)
    · rw [List.getElem?_set_ne e]
      exact wipe_in ((List.mem_cons.mp h).resolve_left (Ne.symm e)) hl
theorem wipe_eq {σ σ2 : L2.St} (hl : σ2.length = σ.length) (h : ∀ j : Nat, j ∉ vs → σ2[j]? = σ[j]?) : wipe σ2 vs = wipe σ vs := List.ext_getElem? fun j => by
  by_cases hj : j ∈ vs
  · by_cases h2 : j < σ.length
    · rw [wipe_in hj h2, wipe_in hj (by omega)]
    · rw [List.getElem?_eq_none (by rw [wipe_length]; omega), List.getElem?_eq_none (by rw [wipe_length]; omega)]
  · rw [wipe_out hj, wipe_out hj, h j hj]
theorem Ab.wipe (A : Ab K fr S μ σ H F) (vs : List Nat) : Ab K (wipeF fr vs) S μ (L2.wipe σ vs) H F := by
  refine ⟨A.hs, by rw [wipe_length, wipeF_len, A.len], fun i d e => ?_⟩
  have hl := (List.getElem?_eq_some_iff.mp e).1
  rw [wipeF_len] at hl
  by_cases hi : i ∈ vs
  · rw [wipeF_in hi hl] at e
    cases e
  · rw [wipeF_out hi] at e
    obtain ⟨v, e1, r⟩ := A.sl i d e
    exact ⟨v, by rw [wipe_out hi]; exact e1, r⟩
theorem wipe_kp {g : Z.Tg} {σ3 : L2.St} (h : ∀ i ∈ g.ix, i ∈ vs) (kp : Kp g.ix (L2.wipe σ vs) σ3) : L2.wipe σ3 vs = L2.wipe σ vs :=
  wipe_eq (kp.1.trans (wipe_length ..)) fun j hj => (kp.2 j fun z => hj (h j z)).trans (wipe_out hj)
/-! ### within the block -/
theorem Cok.blk (c : Cok X gi k N sc) (s : Shared) (H : Hp) (C : Addr) (cl : List (Str × Addr)) (fp : List Addr) : Cok (bx X scope s H C cl fp) gi k N (relS scope sc) :=
  ⟨c.n, by
    show relS scope X.env.scope = _
    rw [c.s], c.nd, c.calm, c.gd, c.rm, c.bi, c.cs⟩
theorem Lnk.blk {q : Q} (lk : Lnk X gi k er q) (s : Shared) (H : Hp) (C : Addr) (cl : List (Str × Addr)) (fp : List Addr) : Lnk (bx X scope s H C cl fp) gi k er q := ⟨lk.df, lk.xo, lk.ta⟩
abbrev noW : WX := fun _ _ _ _ => False
theorem takes_no {Y : Cx} : Takes Y noW := by
  intro u s' h
  obtain ⟨_, _, _, _, _, _, _, _, _, _, _, _, _, _, _, _, h⟩ := h
  exact h.elim
def blkE (X : Cx) (scope : Scope) (e : Expr) : TE := fun σ H Q => ∀ s H0 C cl fp, semE (bx X scope s H0 C cl fp) e σ H Q
theorem pe_blk (s : Shared) (H : Hp) (C : Addr) (cl : List (Str × Addr)) (fp : List Addr) : PE (bx X scope s H C cl fp) e (blkE X scope e) := ⟨fun pins s' σ H' Q I h => pe_sem.run pins s' σ H' Q I (h s H C cl fp)⟩
def blkG (X : Cx) (scope : Scope) (e : Expr) : TG := fun v σ H Q => ∀ s H0 C cl fp, semG (bx X scope s H0 C cl fp) e v σ H Q
theorem pg_blk (s : Shared) (H : Hp) (C : Addr) (cl : List (Str × Addr)) (fp : List Addr) : PG (bx X scope s H C cl fp) e (blkG X scope e) := ⟨fun pins s' σ H' v u Q I r h => pg_sem.run pins s' σ H' v u Q I r (h s H C cl fp)⟩
def semTs (X : Cx) (es : List Expr) : TT := fun σ H Q => ∃ t, PTs X es t ∧ t σ H Q
theorem pts_sem : PTs X es (semTs X es) := ⟨fun pins s σ H Q I ⟨t, h, q⟩ => h.run pins s σ H Q I q⟩
def blkT (X : Cx) (scope : Scope) (es : List Expr) : TT := fun σ H Q => ∀ s H0 C cl fp, semTs (bx X scope s H0 C cl fp) es σ H Q
theorem pt_blk (s : Shared) (H : Hp) (C : Addr) (cl : List (Str × Addr)) (fp : List Addr) : PTs (bx X scope s H C cl fp) es (blkT X scope es) := ⟨fun pins s' σ H' Q I h => pts_sem.run pins s' σ H' Q I (h s H C cl fp)⟩
/-- the conditions of a comprehension -/
def SemTs (X : Cx) (gi : GI) (k : Nat) (es : List Expr) (f : XT) : Prop := ∀ er q, Lnk X gi k er q → ∀ W, Takes X W → ∀ fr S μ σ H F, Ab X.K fr S μ σ H F → ∀ Q, WR X.K er W q.L fr σ S μ H F (f q fr S) (KT Q) → semTs X es σ H Q
theorem semts_nil : SemTs X gi k [] Z.tt := by
  intro er q lk W tk fr S μ σ H F A Q w
  exact ⟨_, pts_nil, w μ H F A .refl⟩
theorem semts_one (h : SemT X gi k c ft) : SemTs X gi k [c] ft := by
  intro er q lk W tk fr S μ σ H F A Q w
  exact ⟨_, pts_one pt_sem, h er q lk W tk fr S μ σ H F A Q w⟩
/-! ### the list under way -/
theorem Hs.mine (A : Hs K S μ H F) {p : Addr} {o : HO} (hF : F p = none) (hC : ∀ n, n < S.length → μ n ≠ p) : Hs K S μ (upd H p o) F where
  sub := sub_keep A.sub fun b u e nn => by
    rw [upd_ne fun z => nn (by rw [z]; exact hF)]
    exact e
  ce := fun n u e => by
    obtain ⟨ho, h1, h2⟩ := A.ce n u e
    exact ⟨ho, by rw [upd_ne (hC n (List.getElem?_eq_some_iff.mp e).1)]; exact h1, h2⟩
  out := A.out
  inj := A.inj
  tb := A.tb
theorem Stp.mine (P : Stp L S0 μ0 H0 F0 S μ H F) {p : Addr} {o : HO} (hp : H0 p = none) : Stp L S0 μ0 H0 F0 S μ (upd H p o) F where
  f := P.f
  le := P.le
  mu := P.mu
  keep := fun b u e n => by
    rw [upd_ne (ne_of_none e hp)]
    exact P.keep b u e n
  nF := P.nF
  nC := P.nC
  dom := fun a e => by
    by_cases h : a = p
    · rw [h]; exact hp
    · rw [upd_ne h] at e
      exact P.dom a e
  cl := P.cl
  lk := fun n o e => by
    obtain ⟨q1, q2⟩ := P.lk n o e
    exact ⟨q1, fun u z => by
      rw [upd_ne (ne_of_none z hp)]
      exact q2 u z⟩
theorem RepNs.upd {vs : List V} {ds : List D} {M : Nat} {p : Addr} {o : HO} (r : RepNs K M μ F H vs ds as) (h : p ∉ as) : RepNs K M μ F (upd H p o) vs ds as := r.mono (Nat.le_refl _) (fun _ _ => rfl) (fun _ _ h => h) fun b u hb e => by
  rw [upd_ne fun z => h (by rw [← z]; exact hb)]
  exact e
theorem RepN.upd {v : V} {d : D} {M : Nat} {p : Addr} {o : HO} (r : RepN K M μ F H v d as) (h : p ∉ as) : RepN K M μ F (upd H p o) v d as := r.mono (Nat.le_refl _) (fun _ _ => rfl) (fun _ _ h => h) fun b u hb e => by
  rw [upd_ne fun z => h (by rw [← z]; exact hb)]
  exact e
/-- the list at p so far -/
structure Acc (K : PySem.W.Frag) (p : Addr) (ds : List D) (H0 : Hp) (S : Store) (μ : Nat → Addr) (H F : Hp) (bs : List Addr) : Prop where
  r : ∃ acc, H p = some (.lst acc) ∧ RepNs K S.length μ F H acc ds bs
  o : Own (p :: bs) H0 F μ S
theorem Acc.keep {p : Addr} {ds : List D} (A : Acc K p ds H0 S μ H F bs) (P : Stp L S μ H F S1 μ1 H1 F1) : Acc K p ds H0 S1 μ1 H1 F1 bs := by
  obtain ⟨acc, h1, h2⟩ := A.r
  obtain ⟨r, o⟩ := (RepN.newo h1 h2).keep A.o P
  cases r with
  | newo h1 h2 => exact ⟨⟨_, h1, h2⟩, o⟩
theorem Acc.start {p : Addr} (A : Hs K S μ H0 F) (hp : H0 p = none) : Acc K p [] H0 S μ (upd H0 p (.lst [])) F [] := ⟨⟨[], upd_same, .nil⟩, own_new A hp⟩
theorem Acc.push {p : Addr} {ds : List D} (A : Acc K p ds H0 S μ H F bs) {v : V} {d : D} (r : RepN K S.length μ F H v d as) (o : Own as H1 F μ S) (dom : ∀ a, H1 a = none → H0 a = none) (th : ∀ x ∈ p :: bs, ∃ u, H1 x = some u) :
    ∃ acc, H p = some (.lst acc) ∧ acc.length = ds.length ∧ Acc K p (ds ++ [d]) H0 S μ (L2.upd H p (.lst (acc ++ [v]))) F (bs ++ as) := by
  obtain ⟨acc, h1, h2⟩ := A.r
  have oo := A.o.app o dom th
  have np : p ∉ bs ++ as := (List.nodup_cons.mp oo.nd).1
  exact ⟨acc, h1, h2.length, ⟨acc ++ [v], upd_same, RepNs.snoc (h2.upd fun z => np (List.mem_append_left _ z)) (r.upd fun z => np (List.mem_append_right _ z))⟩, oo⟩
theorem bnd_nil {r : R (List D)} : (r.bnd fun es S3 => .ok ([] ++ es) S3) = r := by cases r <;> rfl
theorem bnd_push {r : R (List D)} {ds : List D} {d : D} : ((r.bnd fun es S3 => .ok (d :: es) S3).bnd fun es S3 => .ok (ds ++ es) S3) = r.bnd fun es S3 => .ok ((ds ++ [d]) ++ es) S3 := by
  cases r with
  | ok es S3 => rw [bnd_ok, bnd_ok, bnd_ok, List.append_assoc]; rfl
  | _ => rfl
/-- the finished list -/
theorem Acc.done {p : Addr} {ds : List D} (A0 : Ab K fr S μ σ H F) (P : Stp L S0 μ0 H0 F0 S μ H F) (A : Acc K p ds H0 S μ H F bs) {Q : VK} (w : WR K er W L fr σ S0 μ0 H0 F0 (.ok (Z.mkL ds) S) (KE K H0 Q)) : Q (.ref p) H := by
  obtain ⟨acc, h1, h2⟩ := A.r
  unfold Z.mkL at w
  split at w
  · rename_i xs e
    exact give w A0 P (.new h1 (allT_rep e h2)) (Own.left (as := [p]) A.o)
  · exact give w A0 P (.newo h1 h2) A.o
/-- a turn's result within the block -/
theorem WR.blk {β γ : Type} {W' : WX} {q : Q} {σ3 : L2.St} {fr3 : Frame} {r : R β} {g : β → Store → R γ} {j : γ → Store → (Nat → Addr) → Hp → Hp → Prop} {l : β → Store → (Nat → Addr) → Hp → Hp → Prop}
    (w : WR K er W L fr σ S0 μ0 H0 F0 (match (generalizing := false) r with
      | .ok b S1 => g b S1
      | _ => .no) j) (n : ∀ b S1, r = .ok b S1 → WR K er W L fr σ S0 μ0 H0 F0 (g b S1) j → ∀ μ1 H1 F1, Ab K fr3 S1 μ1 σ3 H1 F1 → Stp q.L S μ H F S1 μ1 H1 F1 → l b S1 μ1 H1 F1) : WR K er noW q.L fr3 σ3 S μ H F r l := by
  cases r with
  | no => exact w.elim
  | ex c x S1 => exact w.elim
  | ok b S1 => exact fun μ1 H1 F1 A1 P1 => n b S1 rfl w μ1 H1 F1 A1 P1
theorem lc_core {own : List (Str × Nat)} {g : Z.Tg} (hv : own.map (·.2) = vs) (hi : SemI X gi k tg it fi) (hg : ∀ s H C cl fp, SemG (bx X scope s H C cl fp) tg g) (hgi : ∀ i ∈ g.ix, i ∈ vs)
    (ht : ∀ s H C cl fp, SemTs (bx X scope s H C cl fp) gi k ifs ft) (he : ∀ s H C cl fp, SemE (bx X scope s H C cl fp) gi k elt fe) {q : Q} (lk : Lnk X gi k er q) (tk : Takes X W) (A : Ab X.K fr S μ σ H F) {Q : VK} (w : WR X.K er W q.L fr σ S μ H F (Z.lc vs g fi ft fe q fr S) (KE X.K H Q)) :
    tLc (semI X tg it) (blkG X scope tg) (blkT X scope ifs) (blkE X scope elt) (own.map (·.2)) σ H Q := by
  subst hv
  refine hi er q lk W tk fr S μ σ H F A _ (w.bnd .refl fun p S1 μ1 H1 F1 A1 P1 w1 lo J iok Dl hD => ?_)
  split at w1
  case isFalse => exact w1.elim
  rename_i hlen
  generalize own.map (·.2) = vs at hgi w1 ⊢
  have A2 := A1.lck lo
  have P0 : Stp q.L (lckS S1 p.2) μ1 H1 F1 (lckS S1 p.2) μ1 (upd H1 Dl (.lst [])) F1 := stp_laid hD
  refine ⟨fun i m H' => m = p.1.length - i ∧ i ≤ p.1.length ∧ ∃ S' μ' F' ds bs, Ab X.K fr S' μ' σ H' F' ∧ Stp q.L (lckS S1 p.2) μ1 H1 F1 S' μ' H' F' ∧ Acc X.K Dl ds H1 S' μ' H' F' bs ∧ ds.length ≤ i ∧
      WR X.K er W q.L fr σ S μ H F ((unlR p.2 ((lcL g ft fe q (wipeF fr vs) (p.1.drop i) S').bnd fun es S3 => .ok (ds ++ es) S3)).bnd fun ds S2 => .ok (Z.mkL ds) S2) (KE X.K H Q),
    ⟨_, rfl, Nat.zero_le _, lckS S1 p.2, μ1, F1, [], [], A2.hsof P0 (A2.hs.laid hD), P0, .start A2.hs hD, Nat.le_refl _, ?_⟩, ?_⟩
  · rw [List.drop_zero, bnd_nil]
    exact w1
  rintro i m H' ⟨rfl, hle, S', μ', F', ds, bs, A', P', ac, hdl, w'⟩
  obtain ⟨j1, j2⟩ := iok fr S' μ' σ H' F' A' P'.w i
  by_cases hlt : i < p.1.length
  · refine .inr ?_
    have e : p.1[i]? = some (p.1[i]) := List.getElem?_eq_getElem hlt
    obtain ⟨g1, g2⟩ := j2 _ e
    refine ⟨g1, fun H2 => ∃ S2 μ2 F2 ds bs, Ab X.K fr S2 μ2 σ H2 F2 ∧ Stp q.L (lckS S1 p.2) μ1 H1 F1 S2 μ2 H2 F2 ∧ Acc X.K Dl ds H1 S2 μ2 H2 F2 bs ∧ ds.length ≤ i + 1 ∧
      WR X.K er W q.L fr σ S μ H F ((unlR p.2 ((lcL g ft fe q (wipeF fr vs) (p.1.drop (i + 1)) S2).bnd fun es S3 => .ok (ds ++ es) S3)).bnd fun ds S2 => .ok (Z.mkL ds) S2) (KE X.K H Q),
      fun H2 ⟨S2, μ2, F2, ds, bs, z⟩ => ⟨p.1.length - (i + 1), by omega, rfl, hlt, S2, μ2, F2, ds, bs, z⟩, fun x H2 hy => ?_⟩
    obtain ⟨F2, A3, P2, rc⟩ := g2 x H2 hy
    rw [List.drop_eq_getElem_cons hlt] at w'
    unfold lcL at w'
    cases ea : asg S' g p.1[i] (wipeF fr vs) with
    | none =>
      rw [ea] at w'
      exact w'.elim
    | some fr1 =>
      rw [ea] at w'
      dsimp only at w'
      intro s0 Hb C cl fp
      refine hg s0 Hb C cl fp (A3.wipe vs) rc ea _ fun σ3 A4 kp => ⟨wipe_kp hgi kp, fun s0 Hb C cl fp => ?_⟩
      refine ht s0 Hb C cl fp er q (lk.blk s0 Hb C cl fp) noW takes_no fr1 S' μ' σ3 H2 F2 A4 _ ?_
      cases et : ft q fr1 S' with
      | no =>
        rw [et] at w'
        exact w'.elim
      | ex c y S3 =>
        rw [et] at w'
        exact w'.elim
      | ok b S3 =>
        rw [et] at w'
        intro μ3 H3 F3 A5 P3
        unfold KT
        cases b with
        | false =>
          dsimp only at w' ⊢
          rw [if_neg Bool.false_ne_true]
          have P23 := (P2 q.L).trans P3
          exact ⟨S3, μ3, F3, ds, bs, A'.hsof P23 A5.hs, P'.trans P23, ac.keep P23, by omega, w'⟩
        | true =>
          dsimp only at w' ⊢
          rw [if_pos rfl]
          intro s0 Hb C cl fp
          refine he s0 Hb C cl fp er q (lk.blk s0 Hb C cl fp) noW takes_no fr1 S3 μ3 σ3 H3 F3 A5 _ ?_
          cases ee : fe q fr1 S3 with
          | no =>
            rw [ee] at w'
            exact w'.elim
          | ex c y S3 =>
            rw [ee] at w'
            exact w'.elim
          | ok d S4 =>
            rw [ee] at w'
            dsimp only at w'
            intro μ4 H4 F4 A6 P4 v as r o
            have P23 := (P2 q.L).trans P3
            have P24 := P23.trans P4
            have ac3 := ac.keep P23
            obtain ⟨acc3, h3, r3⟩ := ac3.r
            have ac4 := ac3.keep P4
            obtain ⟨acc, h4, hal, ac5⟩ := ac4.push r o (fun a z => P'.dom a (P23.dom a z)) (fun y hy => by
              rcases List.mem_cons.mp hy with rfl | hy
              · exact ⟨_, h3⟩
              · exact r3.there y hy)
            have hF := (ac4.o.fr Dl List.mem_cons_self).2.1
            have hC := (ac4.o.fr Dl List.mem_cons_self).2.2
            have P5 := (P'.trans P24).mine (o := .lst (acc ++ [v])) hD
            refine ⟨acc, h4, ?_, S4, μ4, F4, ds ++ [d], bs ++ as, ⟨A6.hs.mine hF hC, A'.len, fun jj dd q => let ⟨u, e1, r1⟩ := A'.sl jj dd q; ⟨u, e1, r1.mono P24.le P24.mu P24.f⟩⟩, P5, ac5, by rw [List.length_append, List.length_cons, List.length_nil]; omega, ?_⟩
            · rw [hal]
              exact Nat.lt_of_le_of_lt (Nat.le_trans hdl (Nat.le_of_lt (Nat.lt_of_lt_of_le hlt hlen))) (by decide)
            · rw [bnd_push] at w'
              exact w'
  · refine .inl ⟨j1 (by omega), ?_⟩
    rw [List.drop_eq_nil_of_le (by omega)] at w'
    obtain ⟨A7, P7⟩ := unl_ok lo P' A'
    have w2 : WR X.K er W q.L fr σ S μ H F (.ok (Z.mkL (ds ++ [])) (unlS S' p.2)) (KE X.K H Q) := w'
    rw [List.append_nil] at w2
    obtain ⟨acc, h1, h2⟩ := ac.r
    have ac2 : Acc X.K Dl ds H (unlS S' p.2) μ' H' F' bs := ⟨⟨acc, h1, by rw [unl_len]; exact h2⟩, ac.o.nd, fun a ha => ⟨P1.dom _ (ac.o.fr a ha).1, (ac.o.fr a ha).2.1, fun n hn => (ac.o.fr a ha).2.2 n (by rw [unl_len] at hn; exact hn)⟩⟩
    exact ac2.done A7 (P1.trans P7) w2
theorem sem_lc {own : List (Str × Nat)} {g : Z.Tg} (hc : X.calm = true) (hN : X.N.Nodup) (ok : BlkOk X.N X.env.scope scope own) (hv : own.map (·.2) = vs) (hi : SemI X gi k tg it fi) (hg : ∀ s H C cl fp, SemG (bx X scope s H C cl fp) tg g) (hgi : ∀ i ∈ g.ix, i ∈ vs)
    (ht : ∀ s H C cl fp, SemTs (bx X scope s H C cl fp) gi k ifs ft) (he : ∀ s H C cl fp, SemE (bx X scope s H C cl fp) gi k elt fe) (hfs : ∀ x, foldedSetIterable it X.env x = pure x) : SemE X gi k (.ListComp elt [⟨tg, it, ifs, 0⟩] scope pos) (Z.lc vs g fi ft fe) := by
  intro er q lk W tk fr S μ σ H F A Q w
  exact ⟨_, pe_lc hc hN pi_sem ok pg_blk pt_blk pe_blk hfs, lc_core hv hi hg hgi ht he lk tk A w⟩
/-- x = [..], x a local name -/
theorem sems_setLc {own : List (Str × Nat)} {g : Z.Tg} {i : Nat} {x : Str} {m : Bool} {spos : Pos} (hc : X.calm = true) (hN : X.N.Nodup) (hy : X.N[i]? = some x) (hyl : X.env.scope.names.lookup x = some .local)
    (hsw : swapsWith (.ListComp elt [⟨tg, it, ifs, 0⟩] scope pos) (some (.Name x pp)) spos.line X.env = pure true) (ok : BlkOk X.N X.env.scope scope own) (hv : own.map (·.2) = vs) (hi : SemI X gi k tg it fi) (hg : ∀ s H C cl fp, SemG (bx X scope s H C cl fp) tg g) (hgi : ∀ i ∈ g.ix, i ∈ vs)
    (ht : ∀ s H C cl fp, SemTs (bx X scope s H C cl fp) gi k ifs ft) (he : ∀ s H C cl fp, SemE (bx X scope s H C cl fp) gi k elt fe) (hfs : ∀ x, foldedSetIterable it X.env x = pure x) : SemS X gi k (.Assign [.Name x pp] (.ListComp elt [⟨tg, it, ifs, 0⟩] scope pos) spos) (Z.set i m (Z.lc vs g fi ft fe)) := by
  intro er q lk W tk fr S μ σ H F A D w
  refine ⟨_, ps_setLc hc hN hy hyl hsw pi_sem ok pg_blk pt_blk pe_blk hfs, ?_⟩
  have w0 : WS X.K er W q.L S μ H F ((Z.lc vs g fi ft fe q fr S).bnd fun d S1 => match Z.stD m d S1 with
    | some (e, S2) => .ok (.nx, fr.set i (some e)) S2
    | none => .no) D := w
  refine lc_core (Q := fun v H1 => gName i v σ H1 D.nx) hv hi hg hgi ht he lk tk A (w0.bnd .refl fr σ fun d S1 μ1 H1 F1 A1 P1 w1 v as r1 o1 => ?_)
  split at w1
  · rename_i d' S2 e1
    obtain ⟨μ2, F2, A2, P2, r2⟩ := std_ok A1 P1 r1 o1 e1
    exact w1 _ μ2 H1 F2 (A2.set r2) P2
  · exact w1.elim
end
end Mi

set_option Elab.async false
set_option linter.all false
set_option maxRecDepth 100000
set_option maxHeartbeats 4000000
/-! N14: methods of lists and dicts -/
namespace Mi
open PySem PySem.Spec PyProof.Rows L2
section
variable {X : Cx} {gi : GI} {k : Nat} {N : List Str} {sc : Scope} {pos p1 p p2 pp apos cpos : Pos} {e a b c i o : Expr} {es ts : List Expr} {f g h fe : XE} {fa : XA}
variable {er : ER} {W : WX} {L : Nat} {fr fr1 fr2 : Frame} {σ σ1 σ2 : L2.St} {S S1 S2 S0 : Store} {μ μ1 μ2 μ0 : Nat → Addr} {H H1 H2 H0 F F1 F2 F0 : Hp} {as bs : List Addr} {K : PySem.W.Frag}
theorem list_rep (A : Hs K S μ H F) {v : V} {x : D} (r : RepN K S.length μ F H v x as) (e : tyD S x = some "list") : ∃ a vs, v = .ref a ∧ H a = some (.lst vs) := by
  cases r with
  | c r =>
    cases r with
    | t r =>
      rename_i y
      cases y with
      | lst ys =>
        obtain ⟨a, vs, rfl, h1, _⟩ := rep_lst r
        exact ⟨a, vs, rfl, now_lst (A.sub _ _ h1)⟩
      | _ => first | (cases e; done) | exact absurd (Option.some.inj e) (by decide)
    | cell hn =>
      rename_i n
      have e' : (match rd S n with
        | some (.lst _) => some "list"
        | some (.lsto _) => some "list"
        | some (.dic _) => some "dict"
        | some (.dico _) => some "dict"
        | some (.tupo _) => some "tuple"
        | _ => none) = some "list" := e
      cases q : rd S n with
      | none =>
        rw [q] at e'
        cases e'
      | some ob =>
        rw [q] at e'
        obtain ⟨u, _, hu, ho, h1, h2⟩ := rd_cell A q
        subst hu
        cases u with
        | lst xs =>
          cases ho <;> first | exact h2.elim | exact ⟨_, _, rfl, h1⟩
        | lsto xs =>
          cases ho <;> first | exact h2.elim | exact ⟨_, _, rfl, h1⟩
        | lck w =>
          cases w with
          | lst xs => cases ho <;> first | exact h2.elim | exact ⟨_, _, rfl, h1⟩
          | lsto xs => cases ho <;> first | exact h2.elim | exact ⟨_, _, rfl, h1⟩
          | _ => first | (cases e'; done) | exact absurd (Option.some.inj e') (by decide)
        | _ => first | (cases e'; done) | exact absurd (Option.some.inj e') (by decide)
  | new h1 h2 => exact ⟨_, _, rfl, h1⟩
  | newd _ _ => exact absurd (Option.some.inj e) (by decide)
  | newo h1 _ => exact ⟨_, _, rfl, h1⟩
  | tupo _ _ => exact absurd (Option.some.inj e) (by decide)
/-- a method does what mD says -/
def MetS (X : Cx) (id : String) (m : Z.M) : Prop := ∃ r, MtR X id r ∧ ∀ {er : ER} {W : WX} {L : Nat} {fr : Frame} {σ : L2.St} {S0 S : Store} {μ0 μ : Nat → Addr} {H0 F0 H F : Hp} {Q : VK} {x : D} {v : V} {ds : List D} {vs : List V} {as bs : List Addr},
  Ab X.K fr S μ σ H F → Stp L S0 μ0 H0 F0 S μ H F → RepN X.K S.length μ F H v x as → RepNs X.K S.length μ F H vs ds bs → Own bs H0 F μ S → WR X.K er W L fr σ S0 μ0 H0 F0 (Z.mD m x ds S) (KE X.K H0 Q) → r v vs H Q
theorem sem_me {name : Str} {id : String} {m : Z.M} (hm : MetS X id m) (hsl : Slot "list" name id) (hty : typeOf (Value.builtin id) = pure (Value.type "method_descriptor")) (h1 : SemE X gi k o f) (h2 : SemA X gi k (e :: es) fa)
    (q1 : attributeBase o name X.env (eval o X.env) = eval o X.env)
    (q2 : ((backTo cpos (starEach (e :: es) X.env)).all (fun x => !x.1) && (backToKw cpos (keywordEach [] X.env)).all (fun x => x.1.isSome) && decide ((e :: es).length + ([] : List Keyword).length + (if ([] : List Keyword).isEmpty then 0 else 1) < 30)) = true)
    (q3 : (apos.endLine == cpos.line) = true) (q4 : starEach (e :: es) X.env = (false, eval e X.env) :: starEach es X.env) (q5 : (backTo cpos (starEach es X.env)).any (·.1) = false) :
    SemE X gi k (.Call (.Attribute o name apos) (e :: es) [] cpos) (Z.me m f fa) := by
  intro er q lk W tk fr S μ σ H F A Q w
  obtain ⟨r, hr, hn⟩ := hm
  refine ⟨_, pe_bm PySem.F.plainAttrs_list hsl hty hr pe_sem pa_sem q1 q2 q3 q4 q5, h1.go lk tk A .refl w fun x S1 μ1 H1 F1 v as A1 P1 r1 o1 w1 => ?_⟩
  split at w1
  · rename_i ht
    obtain ⟨a, vs, rfl, hl⟩ := list_rep A1.hs r1 ht
    refine ⟨.inl ⟨rfl, _, SqL.of hl⟩, h2.go lk tk A1 P1 w1 fun ds S2 μ2 H2 F2 vs bs A2 P2 r2 o2 l2 w2 => ?_⟩
    obtain ⟨r1', o1'⟩ := r1.keep o1 P2
    exact hn A2 (P1.trans P2) r1' r2 (o2.start P1.dom) w2
  · exact w1.elim
theorem sem_me0 {name : Str} {id : String} {m : Z.M} (hm : MetS X id m) (hsl : Slot "list" name id) (hty : typeOf (Value.builtin id) = pure (Value.type "method_descriptor")) (h1 : SemE X gi k o f)
    (q1 : attributeBase o name X.env (eval o X.env) = eval o X.env) (q3 : (apos.endLine == cpos.line) = true) : SemE X gi k (.Call (.Attribute o name apos) [] [] cpos) (Z.me m f Z.nil) := by
  intro er q lk W tk fr S μ σ H F A Q w
  obtain ⟨r, hr, hn⟩ := hm
  refine ⟨_, pe_bm0 PySem.F.plainAttrs_list hsl hty hr pe_sem q1 q3, h1.go lk tk A .refl w fun x S1 μ1 H1 F1 v as A1 P1 r1 o1 w1 => ?_⟩
  split at w1
  · rename_i ht
    obtain ⟨a, vs, rfl, hl⟩ := list_rep A1.hs r1 ht
    exact ⟨.inl ⟨rfl, _, SqL.of hl⟩, hn A1 P1 r1 .nil .nil w1⟩
  · exact w1.elim
theorem cell_lst (A : Hs K S μ H F) {n : Nat} {xs : List T} (e : S[n]? = some (.lst xs)) : ∃ vs, H (μ n) = some (.lst vs) ∧ RepL K (At F) vs xs := by
  obtain ⟨ho, h1, h2⟩ := A.ce n _ e
  cases ho <;> first | exact h2.elim | exact ⟨_, h1, h2⟩
theorem ns1 {vs : List V} {d : D} {M : Nat} (r : RepNs K M μ F H vs [d] bs) : ∃ v, vs = [v] ∧ RepN K M μ F H v d bs := by
  cases r with
  | cons r1 r2 =>
    cases r2 with
    | nil => exact ⟨_, rfl, by rw [List.append_nil]; exact r1⟩
theorem ns2 {vs : List V} {d d2 : D} {M : Nat} (r : RepNs K M μ F H vs [d, d2] bs) : ∃ v w cs ds, vs = [v, w] ∧ bs = cs ++ ds ∧ RepN K M μ F H v d cs ∧ RepN K M μ F H w d2 ds := by
  cases r with
  | cons r1 r2 =>
    obtain ⟨w, e, r3⟩ := ns1 r2
    subst e
    exact ⟨_, _, _, _, rfl, rfl, r1, r3⟩
theorem give1 {x : T} {Q : VK} {v : V} {n : Nat} {o' : Ob} {ob : Ob} {ho : HO} (w : WR K er W L fr σ S0 μ0 H0 F0 (.ok (.t x) (S.set n o')) (KE K H0 Q)) (A : Ab K fr S μ σ H F) (P : Stp L S0 μ0 H0 F0 S μ H F) (e : S[n]? = some ob) (nl : ∀ u, ob ≠ .lck u) (c : Con K S.length μ F o' ho) (hl : ∀ B, ob.lt B → o'.lt B) (r : Rep K (At F) v x) (ht : ∀ P q, o' = .tbl P q → μ n = P := by intro _ _ z; cases z) : Q v (upd H (μ n) ho) :=
  giveT w (A.wr e c ht) (P.wr A.hs e (fun _ => hl) nl) r
theorem met_append : MetS X "list.append" .append := by
  refine ⟨_, mt_append, ?_⟩
  intro er W L fr σ S0 S μ0 μ H0 F0 H F Q x v ds vs as bs A P r1 r2 o w
  unfold Z.mD at w
  split at w <;> first | (rename_i z _; cases z; done) | (rename_i z; cases z; done) | skip
  · rename_i d
    obtain ⟨u, rfl, q2⟩ := ns1 r2
    unfold Z.appD at w
    split at w
    · rename_i n
      have hv := cell_ref r1
      subst hv
      split at w
      · rename_i xs e1
        split at w
        · rename_i y e2
          obtain ⟨F', sf, A2, P2, rc⟩ := arg_rep A P q2 o e2
          split at w
          · rename_i hl
            obtain ⟨vs, h1, h2⟩ := cell_lst A2.hs e1
            cases rc with
            | t rc =>
              exact ⟨_, vs, u, rfl, rfl, h1, by rw [h2.length]; exact Nat.lt_of_lt_of_le hl (by decide), give1 w A2 P2 e1 (fun _ z => by cases z) (ho := .lst (vs ++ [u])) (h2.snoc rc) (fun _ _ => trivial) .non⟩
          · exact w.elim
        · exact w.elim
      · exact w.elim
    · exact w.elim
  all_goals first | exact w.elim | skip
theorem idx_at {ns : List Int} {i : Int} (h : i ∈ ns) : ns[ns.idxOf i]? = some i ∧ ∀ m : Nat, m < ns.idxOf i → ns[m]? ≠ some i := by
  have hl := List.idxOf_lt_length_iff.mpr h
  refine ⟨by rw [List.getElem?_eq_getElem hl, List.getElem_idxOf hl], fun m hm e => ?_⟩
  have h1 : m < ns.length := Nat.lt_trans hm hl
  have := List.not_of_lt_findIdx (p := (· == i)) (xs := ns) hm
  rw [List.getElem?_eq_getElem h1] at e
  have e := Option.some.inj e
  rw [e] at this
  simp at this
theorem cell_ints (A : Hs K S μ H F) {n : Nat} {xs : List T} {ns : List Int} (e : S[n]? = some (.lst xs)) (q : asI xs = some ns) : H (μ n) = some (.lst (ns.map V.int)) := by
  obtain ⟨vs, h1, h2⟩ := cell_lst A e
  have := asI_eq q
  subst this
  rw [RepL.ints h2] at h1
  exact h1
theorem ints_rep (A : Hs K S μ H F) {v : V} {x : D} {ns : List Int} (r : RepN K S.length μ F H v x as) (e : intsD S x = some ns) : ∃ a, v = .ref a ∧ H a = some (.lst (ns.map V.int)) := by
  unfold intsD at e
  cases q : sq S x with
  | none =>
    rw [q] at e
    cases e
  | some xs =>
    rw [q] at e
    obtain ⟨a, vs, rfl, h1, h2⟩ := sq_rep A r q
    have := asI_eq e
    subst this
    rw [RepL.ints h2] at h1
    exact ⟨a, rfl, h1⟩
theorem met_remove : MetS X "list.remove" .remove := by
  refine ⟨_, mt_remove, ?_⟩
  intro er W L fr σ S0 S μ0 μ H0 F0 H F Q x v ds vs as bs A P r1 r2 o w
  unfold Z.mD at w
  split at w <;> first | (rename_i z _; cases z; done) | (rename_i z; cases z; done) | skip
  all_goals first | exact w.elim | skip
  · rename_i d
    obtain ⟨u, rfl, q2⟩ := ns1 r2
    unfold Z.remD at w
    split at w
    · rename_i n i
      have hv := cell_ref r1
      subst hv
      split at w
      · rename_i xs e1
        split at w
        · rename_i ns e2
          split at w
          · rename_i hi
            have h1 := cell_ints A.hs e1 e2
            rw [rep_int (repT q2).1]
            refine ⟨_, ns, i, ns.idxOf i, rfl, rfl, h1, (idx_at hi).1, (idx_at hi).2, give1 w A P e1 (fun _ z => by cases z) (ho := .lst ((ns.eraseIdx (ns.idxOf i)).map V.int)) RepL.of_ints (fun _ _ => trivial) .non⟩
          · exact w.elim
        · exact w.elim
      · exact w.elim
    · exact w.elim
theorem met_pop : MetS X "list.pop" .pop := by
  refine ⟨_, mt_pop, ?_⟩
  intro er W L fr σ S0 S μ0 μ H0 F0 H F Q x v ds vs as bs A P r1 r2 o w
  unfold Z.mD at w
  split at w <;> first | (rename_i z _; cases z; done) | (rename_i z; cases z; done) | skip
  all_goals first | exact w.elim | skip
  · cases r2
    unfold Z.popD at w
    split at w
    · rename_i n
      have hv := cell_ref r1
      subst hv
      split at w
      · rename_i xs e1
        split at w
        · rename_i y e2
          obtain ⟨vs, h1, h2⟩ := cell_lst A.hs e1
          rw [List.getLast?_eq_getElem?] at e2
          obtain ⟨z, e3, rz⟩ := h2.get' e2
          rw [← h2.length] at e3
          refine ⟨_, vs, z, rfl, rfl, h1, e3, give1 w A P e1 (fun _ z => by cases z) (ho := .lst vs.dropLast) ?_ (fun _ _ => trivial) rz⟩
          show RepL X.K (At F) vs.dropLast xs.dropLast
          rw [List.dropLast_eq_take, List.dropLast_eq_take, h2.length]
          exact h2.take _
        · exact w.elim
      · exact w.elim
    · exact w.elim
theorem met_index : MetS X "list.index" .index := by
  refine ⟨_, mt_index, ?_⟩
  intro er W L fr σ S0 S μ0 μ H0 F0 H F Q x v ds vs as bs A P r1 r2 o w
  unfold Z.mD at w
  split at w <;> first | (rename_i z _; cases z; done) | (rename_i z; cases z; done) | skip
  all_goals first | exact w.elim | skip
  · rename_i d
    obtain ⟨u, rfl, q2⟩ := ns1 r2
    unfold Z.idxD at w
    split at w
    · rename_i i
      split at w
      · rename_i ns e2
        split at w
        · rename_i hi
          obtain ⟨a, rfl, h1⟩ := ints_rep A.hs r1 e2
          rw [rep_int (repT q2).1]
          have gm : ∀ m : Nat, (ns.map V.int)[m]? = (ns[m]?).map V.int := fun m => List.getElem?_map ..
          refine ⟨a, ns.map V.int, .int i, ns.idxOf i, .int i, rfl, rfl, SqL.of h1, rfl, ?_, ?_, ?_, fun m z hm hz => ?_, giveT w A P (.int _)⟩
          · rw [List.all_eq_true]
            intro y hy
            obtain ⟨j, _, rfl⟩ := List.mem_map.mp hy
            rfl
          · rw [gm, (idx_at hi).1]
            rfl
          · show (i == i) = true
            exact beq_self_eq_true i
          · rw [gm] at hz
            cases q : ns[m]? with
            | none =>
              rw [q] at hz
              cases hz
            | some j =>
              rw [q] at hz
              cases hz
              show (j == i) = false
              have := (idx_at hi).2 m hm
              rw [q] at this
              exact beq_eq_false_iff_ne.mpr fun z => this (congrArg some z)
        · exact w.elim
      · exact w.elim
    · exact w.elim
theorem met_count : MetS X "list.count" .count := by
  refine ⟨_, mt_lcount, ?_⟩
  intro er W L fr σ S0 S μ0 μ H0 F0 H F Q x v ds vs as bs A P r1 r2 o w
  unfold Z.mD at w
  split at w <;> first | (rename_i z _; cases z; done) | (rename_i z; cases z; done) | skip
  all_goals first | exact w.elim | skip
  · rename_i d
    obtain ⟨u, rfl, q2⟩ := ns1 r2
    unfold Z.cntD at w
    split at w
    · rename_i i
      split at w
      · rename_i ns e2
        obtain ⟨a, rfl, h1⟩ := ints_rep A.hs r1 e2
        rw [rep_int (repT q2).1]
        exact ⟨a, ns, i, rfl, rfl, SqL.of h1, giveT w A P (.int _)⟩
      · exact w.elim
    · exact w.elim
theorem met_extend : MetS X "list.extend" .extend := by
  refine ⟨_, mt_extend, ?_⟩
  intro er W L fr σ S0 S μ0 μ H0 F0 H F Q x v ds vs as bs A P r1 r2 o w
  unfold Z.mD at w
  split at w <;> first | (rename_i z _; cases z; done) | (rename_i z; cases z; done) | skip
  all_goals first | exact w.elim | skip
  · rename_i d
    obtain ⟨u, rfl, q2⟩ := ns1 r2
    unfold Z.extD at w
    split at w
    · rename_i n
      have hv := cell_ref r1
      subst hv
      split at w
      · rename_i xs e1
        split at w
        · rename_i ys e2
          split at w
          · rename_i hl
            obtain ⟨vs, h1, h2⟩ := cell_lst A.hs e1
            obtain ⟨a, ws, rfl, h3, h4⟩ := sq_rep A.hs q2 e2
            exact ⟨_, a, vs, ws, rfl, rfl, h1, h3, by rw [h2.length, h4.length]; exact line_ok hl, give1 w A P e1 (fun _ z => by cases z) (ho := .lst (vs ++ ws)) (h2.append h4) (fun _ _ => trivial) .non⟩
          · exact w.elim
        · exact w.elim
      · exact w.elim
    · exact w.elim
theorem met_insert : MetS X "list.insert" .insert := by
  refine ⟨_, mt_insert, ?_⟩
  intro er W L fr σ S0 S μ0 μ H0 F0 H F Q x v ds vs as bs A P r1 r2 o w
  unfold Z.mD at w
  split at w <;> first | (rename_i z _; cases z; done) | (rename_i z; cases z; done) | skip
  all_goals first | exact w.elim | skip
  · rename_i i d
    obtain ⟨u1, u, cs, ds, rfl, rfl, q2, r3⟩ := ns2 r2
    unfold Z.insD at w
    split at w
    · rename_i n j
      have hv := cell_ref r1
      subst hv
      split at w
      · rename_i xs e1
        split at w
        · rename_i y e2
          obtain ⟨F', sf, A2, P2, rc⟩ := arg_rep A P r3 o.right e2
          split at w
          · rename_i hl
            obtain ⟨vs, h1, h2⟩ := cell_lst A2.hs e1
            rw [rep_int (repT q2).1]
            cases rc with
            | t rc =>
              refine ⟨_, vs, j, u, rfl, rfl, h1, by rw [h2.length]; exact Nat.lt_of_lt_of_le hl.1 (by decide), hl.2.1, by omega, ?_⟩
              rw [List.append_assoc]
              exact give1 w A2 P2 e1 (fun _ z => by cases z) (ho := .lst (vs.take j.toNat ++ ([u] ++ vs.drop j.toNat))) ((h2.take _).append (.cons rc (h2.drop _))) (fun _ _ => trivial) .non
          · exact w.elim
        · exact w.elim
      · exact w.elim
    · exact w.elim
/-! ### d.get -/
theorem getO {v w : V} {x z : D} {y : D} {Q : VK} {u : V} {kvs : List (Key × T)} (A : Ab K fr S μ σ H F) (P : Stp L S0 μ0 H0 F0 S μ H F) (r1 : RepN K S.length μ F H v x as) (r2 : RepN K S.length μ F H u y bs) {cs : List Addr} (r3 : RepN K S.length μ F H w z cs) (o3 : Own cs H0 F μ S)
    (wt : WR K er W L fr σ S0 μ0 H0 F0 (Z.getD x y z S) (KE K H0 Q)) : ∃ a, v = .ref a ∧ ∃ o, DGet H a u o ∧ Q (o.getD w) H := by
  unfold Z.getD at wt
  split at wt
  · rename_i ff ww e1
    split at wt
    · rename_i kvs kk e2 e3
      obtain ⟨F', sf, A2, P2, rc⟩ := arg_rep A P r3 o3 e1
      obtain ⟨a, vs, rfl, h1, h2⟩ := dct_rep A.hs r1 e2
      cases rc with
      | t rc =>
        have h2' := h2.mono (at_mono sf)
        have ek := kOf_rep (repT r2).1 e3
        cases q : lookK kk kvs with
        | none =>
          rw [q] at wt
          exact ⟨a, rfl, none, .inl ⟨vs, kk, h1, ek, ((look_rep h2').2 q).symm⟩, giveT wt A2 P2 rc⟩
        | some d =>
          rw [q] at wt
          obtain ⟨z, e4, rz⟩ := (look_rep h2').1 _ q
          exact ⟨a, rfl, some z, .inl ⟨vs, kk, h1, ek, e4.symm⟩, giveT wt A2 P2 rz⟩
    · exact wt.elim
  · exact wt.elim
theorem isD_rep (A : Hs K S μ H F) {v : V} {x : D} (r : RepN K S.length μ F H v x as) (e : Z.isDict x S = true) : ∃ a, v = .ref a ∧ IsD H a := by
  unfold Z.isDict at e
  cases q : dct S x with
  | none =>
    rw [q] at e
    cases e
  | some kvs =>
    obtain ⟨a, vs, rfl, h1, _⟩ := dct_rep A r q
    exact ⟨a, rfl, .inl ⟨_, h1⟩⟩
theorem sem_get1 (hu : X.A.units + 64 < cLine) (h1 : SemE X gi k o f) (h2 : SemE X gi k e g) (m : M1 X o (Str.ofString "get") apos e cpos) : SemE X gi k (.Call (.Attribute o (Str.ofString "get") apos) [e] [] cpos) (Z.get1 f g) := by
  intro er q lk W tk fr S μ σ H F A Q w
  refine ⟨_, pe_dget1 (by omega) pe_sem pe_sem m, h1.go lk tk A .refl w fun x S1 μ1 H1 F1 v as A1 P1 r1 o1 w1 => ?_⟩
  split at w1
  · rename_i hd
    obtain ⟨a, rfl, isd⟩ := isD_rep A1.hs r1 hd
    refine ⟨a, rfl, isd, h2.go lk tk A1 P1 w1 fun y S2 μ2 H2 F2 u bs A2 P2 r2 o2 w2 => ?_⟩
    obtain ⟨r1', _⟩ := r1.keep o1 P2
    obtain ⟨a', e, z⟩ := getO (z := .non) (w := .non) A2 (P1.trans P2) r1' r2 (.c (.t .non)) .nil w2 (kvs := [])
    cases e
    exact z
  · exact w1.elim
theorem sem_get2 (hu : X.A.units + 64 < cLine) (h1 : SemE X gi k o f) (h2 : SemE X gi k e g) (h3 : SemE X gi k a h) (m : M2 X o (Str.ofString "get") apos e a cpos) : SemE X gi k (.Call (.Attribute o (Str.ofString "get") apos) [e, a] [] cpos) (Z.get2 f g h) := by
  intro er q lk W tk fr S μ σ H F A Q w
  refine ⟨_, pe_dget2 (by omega) pe_sem pe_sem pe_sem m, h1.go lk tk A .refl w fun x S1 μ1 H1 F1 v as A1 P1 r1 o1 w1 => ?_⟩
  split at w1
  · rename_i hd
    obtain ⟨a, rfl, isd⟩ := isD_rep A1.hs r1 hd
    refine ⟨a, rfl, isd, h2.go lk tk A1 P1 w1 fun y S2 μ2 H2 F2 u bs A2 P2 r2 o2 w2 => ?_⟩
    obtain ⟨r1', o1'⟩ := r1.keep o1 P2
    refine h3.go lk tk A2 (P1.trans P2) w2 fun z S3 μ3 H3 F3 t cs A3 P3 r3 o3 w3 => ?_
    obtain ⟨r1'', _⟩ := r1'.keep o1' P3
    obtain ⟨r2', _⟩ := r2.keep o2 P3
    obtain ⟨a', e, z⟩ := getO A3 (P1.trans (P2.trans P3)) r1'' r2' r3 (o3.start (P1.trans P2).dom) w3 (kvs := [])
    cases e
    exact z
  · exact w1.elim
end
end Mi

set_option Elab.async false
set_option linter.all false
set_option maxRecDepth 100000
set_option maxHeartbeats 4000000
/-! N15: calls with two arguments, calls of a local def; defs by their bodies -/
namespace Mi
open PySem PySem.Spec PyProof.Rows L2
section
variable {X : Cx} {gi : GI} {k : Nat} {N : List Str} {sc : Scope} {pos p1 p p2 pp apos cpos kp : Pos} {e a b c i o : Expr} {es ts : List Expr} {f g h fe : XE} {fa : XA}
variable {er : ER} {W : WX} {L : Nat} {fr fr1 fr2 : Frame} {σ σ1 σ2 : L2.St} {S S1 S2 S0 : Store} {μ μ1 μ2 μ0 : Nat → Addr} {H H1 H2 H0 F F1 F2 F0 : Hp} {as bs : List Addr} {K : PySem.W.Frag}
/-! ### two arguments -/
def CalS2 (X : Cx) (u : Value) (g : D → D → Store → R D) : Prop := ∃ r : List V → Hp → VK → Prop, CallR X u r ∧ ∀ {er : ER} {W : WX} {L : Nat} {fr : Frame} {σ : L2.St} {S0 S : Store} {μ0 μ : Nat → Addr} {H0 F0 H F : Hp} {Q : VK} {x y : D} {v w : V} {as bs : List Addr},
  Ab X.K fr S μ σ H F → Stp L S0 μ0 H0 F0 S μ H F → RepN X.K S.length μ F H v x as → RepN X.K S.length μ F H w y bs → WR X.K er W L fr σ S0 μ0 H0 F0 (g x y S) (KE X.K H0 Q) → r [v, w] H Q
theorem sem_b2 {x : Str} {id : String} {oo : U2} (n : Bi X x (.builtin id)) (hc : CalS2 X (.builtin id) (f2D oo)) (h1 : SemE X gi k e f) (h2 : SemE X gi k a g) (hs1 : starEach [e, a] X.env = (false, eval e X.env) :: starEach [a] X.env) (hs2 : starEach [a] X.env = [(false, eval a X.env)]) (hpl : (backTo pos (starEach [a] X.env)).any (·.1) = false) :
    SemE X gi k (.Call (.Name x p) [e, a] [] pos) (Z.f2 oo f g) := by
  intro er q lk W tk fr S μ σ H F A Q w
  obtain ⟨r, hr, hn⟩ := hc
  refine ⟨_, pe_callB hr n.g n.m n.b (pa_cons pe_sem (pa_cons pe_sem pa_nil hs2) hs1) n.n n.d hs1 hpl, h1.go lk tk A .refl w fun d S1 μ1 H1 F1 v as A1 P1 r1 o1 w1 => h2.go lk tk A1 P1 w1 fun d2 S2 μ2 H2 F2 u bs A2 P2 r2 o2 w2 => ?_⟩
  obtain ⟨r1', _⟩ := r1.keep o1 P2
  exact hn A2 (P1.trans P2) r1' r2 w2
theorem max2S (hc : X.calm = true) : CalS2 X (.builtin "max") (f2D .max2) := by
  refine ⟨_, call_max2 hc, ?_⟩
  intro er W L fr σ S0 S μ0 μ H0 F0 H F Q x y v w as bs A P r1 r2 hw0
  have hw : WR X.K er W L fr σ S0 μ0 H0 F0 (max2D x y S) (KE X.K H0 Q) := hw0
  clear hw0
  unfold max2D at hw
  split at hw
  · rw [rep_int (repT r1).1, rep_int (repT r2).1]
    exact ⟨_, _, rfl, giveT hw A P (.int _)⟩
  · exact hw.elim
theorem min2S (hc : X.calm = true) : CalS2 X (.builtin "min") (f2D .min2) := by
  refine ⟨_, call_min2 hc, ?_⟩
  intro er W L fr σ S0 S μ0 μ H0 F0 H F Q x y v w as bs A P r1 r2 hw0
  have hw : WR X.K er W L fr σ S0 μ0 H0 F0 (min2D x y S) (KE X.K H0 Q) := hw0
  clear hw0
  unfold min2D at hw
  split at hw
  · rw [rep_int (repT r1).1, rep_int (repT r2).1]
    exact ⟨_, _, rfl, giveT hw A P (.int _)⟩
  · exact hw.elim
def maxDf (d : Int) : List Int → Int
  | [] => d
  | y :: ys => ys.foldl max y
theorem foldl_max : ∀ (ys : List Int) (a b : Int), ys.foldl max (max a b) = max a (ys.foldl max b)
  | [], _, _ => rfl
  | y :: ys, a, b => by
    show ys.foldl max (max (max a b) y) = max a (ys.foldl max (max b y))
    rw [← foldl_max ys a (max b y)]
    congr 1
    omega
theorem maxI_foldl : ∀ (ys : List Int) (x : Int), ys.foldl max x = maxI (x :: ys)
  | [], _ => rfl
  | y :: ys, x => by
    show ys.foldl max (max x y) = max x (maxI (y :: ys))
    rw [foldl_max, maxI_foldl ys y]
theorem dp_intl : ∀ ns : List Int, PyData.depthAll (ns.map PyData.int) ≤ 1
  | [] => by decide
  | n :: ns => by
    have := dp_intl ns
    show max (PyData.depth (.int n)) (PyData.depthAll (ns.map PyData.int)) ≤ 1
    exact Nat.max_le.mpr ⟨by show (PyData.int n).depth ≤ 1; unfold PyData.depth; omega, this⟩
theorem cr_maxDf (hc : X.calm = true) (hu : X.A.units + 64 < cLine) : CallRK X (.builtin "max") ["default"] (fun xs zs H Q => ∃ (a : Addr) (ns : List Int) (d : Int), xs = [V.ref a] ∧ zs = [V.int d] ∧ SqL X.K H a (ns.map V.int) ∧ Q (.int (maxDf d ns)) H) := by
  intro pins s σ H xs zs us ws Q I r rz h
  obtain ⟨a, ns, d, rfl, rfl, hs, q⟩ := h
  obtain ⟨its, rv, hl, _⟩ := I.list hs
  obtain ⟨u, rfl, ⟨t, rfl⟩⟩ := vals1 rz
  rw [Vals.ref1 r]
  have hi : IntsAre its ns := rv.ints
  refine PySem.W.max_list_default (xs := ns.map PyData.int) (I.ok.hd hc) hl.isList (by simpa using IntsAre.reads s.heap hi) ?_ (by have := dp_intl ns; omega) ?_ ?_
  · refine ⟨fun x hx y hy => ?_, fun x hx => ?_⟩
    · obtain ⟨i, _, rfl⟩ := List.mem_map.mp hx
      obtain ⟨j, _, rfl⟩ := List.mem_map.mp hy
      rfl
    · obtain ⟨i, _, rfl⟩ := List.mem_map.mp hx
      intro z
      cases z
  · intro e h' tk hk
    have en : ns = [] := List.map_eq_nil_iff.mp e
    subst en
    exact ⟨.int d, H, I.kept hk, ⟨_, rfl⟩, q⟩
  · intro y ys i v h' tk bs e _ rd hk
    cases ns with
    | nil => cases e
    | cons n ns =>
      cases e
      rw [PySem.W.maxD_ints] at rd
      have ev : ∃ t, v = .int (ns.foldl max n) t := by
        cases rd
        exact ⟨_, rfl⟩
      obtain ⟨t2, rfl⟩ := ev
      exact ⟨.int _, H, I.kept hk, ⟨_, rfl⟩, q⟩
theorem sem_maxd (hc : X.calm = true) (hu : X.A.units + 64 < cLine) (n : Bi X "max" (.builtin "max")) (h1 : SemE X gi k a f) (h2 : SemE X gi k b g)
    (hs : starEach [a] X.env = [(false, eval a X.env)]) (he : backTo pos (starEach [a] X.env) = (false, eval a X.env) :: backTo pos (starEach [] X.env)) (hpl : (backTo pos (starEach [a] X.env)).any (·.1) = false)
    (hall : (backToKw pos (keywordEach [⟨some "default", b, kp⟩] X.env)).all (·.1.isSome) = true) (hnone : (backToKw pos (keywordEach [⟨some "default", b, kp⟩] X.env)).any (·.1.isNone) = false) (hks : (backToKw pos (keywordEach [⟨some "default", b, kp⟩] X.env)).filterMap (·.1) = [("default" : Str)]) :
    SemE X gi k (.Call (.Name "max" p) [a] [⟨some "default", b, kp⟩] pos) (Z.f2 .maxd f g) := by
  intro er q lk W tk fr S μ σ H F A Q w
  refine ⟨_, pe_callBK (cr_maxDf hc hu) n.g n.m n.b (pa_cons pe_sem pa_nil hs) (pk_cons pe_sem pk_nil) n.n n.d he hpl hall hnone hks, h1.go lk tk A .refl w fun d S1 μ1 H1 F1 v as A1 P1 r1 o1 w1 => h2.go lk tk A1 P1 w1 fun d2 S2 μ2 H2 F2 u bs A2 P2 r2 o2 w2 => ?_⟩
  obtain ⟨r1', _⟩ := r1.keep o1 P2
  have hw : WR X.K er W q.L fr σ S μ H F (maxdD d d2 S2) (KE X.K H Q) := w2
  unfold maxdD at hw
  split at hw
  · rename_i j
    split at hw
    · rename_i ns e1
      obtain ⟨m, rfl, h1⟩ := ints_rep A2.hs r1' e1
      rw [rep_int (repT r2).1]
      refine ⟨m, ns, j, rfl, rfl, SqL.of h1, ?_⟩
      have : maxDf j ns = if ns = [] then j else maxI ns := by
        cases ns with
        | nil => rfl
        | cons n ns =>
          rw [if_neg (by intro z; cases z)]
          exact maxI_foldl ns n
      rw [this]
      exact giveT hw A2 (P1.trans P2) (.int _)
    · exact hw.elim
  · exact hw.elim
/-! ### the def that a slot holds -/
theorem sem_callv {x : Str} {ii m : Nat} {ok : List Nat} {ar : List (Sum Nat T)} (c : Cok X gi k N sc) (n : Nm X ii x) (hsh : ∀ j ∈ ok, ∃ d, gi.ds[j]? = some d ∧ (m, [], ar) ∈ d.shapes ∧ ar.length = d.ps.length) (hs : ∀ y, Sum.inr y ∈ ar → y.scl = true)
    (ha : SemA X gi k (e :: es) fa) (hl : (e :: es).length = m) (he : starEach (e :: es) X.env = (false, eval e X.env) :: starEach es X.env) (hpl : (backTo pos (starEach es X.env)).any (·.1) = false) : SemE X gi k (.Call (.Name x p) (e :: es) [] pos) (Z.callv ii ok fa ar) := by
  intro er q lk W tk fr S μ σ H F A Q w
  unfold Z.callv at w
  split at w
  · rename_i j a e0
    split at w
    · rename_i hj
      obtain ⟨rfl, hj⟩ := hj
      obtain ⟨d, hd, h1, h2⟩ := hsh j hj
      obtain ⟨fd, F1, e1, e2, e3⟩ := lk.df j d hd
      obtain ⟨g, kb⟩ := e3 _ h1
      obtain ⟨v, ev, rv⟩ := A.sl ii _ e0
      cases rv with
      | t rv =>
        have hv := rep_fn rv
        subst hv
        have hpe : PE X (.Call (.Name x p) (e :: es) [] pos) (fun σ H Q => σ[ii]? = some (some (.ref (q.fa j))) ∧ tGo (spC X.K er (q.call j) d.ps.length) (gV ar) m 0 W (semA X (e :: es)) tNil σ H Q) := by
          refine ⟨fun pins s σ H Q I h => ?_⟩
          obtain ⟨hs, ht⟩ := h
          refine wpAny_Call_Name_kw (thn ((pe_var (pos := p) n.n n.v n.d n.c).run pins s σ H (fun v H1 => v = .ref (q.fa j) ∧ H1 = H) I ⟨.ref (q.fa j), hs, rfl, rfl⟩) fun u s1 ⟨v, H1, I1, r1, q1⟩ => ?_)
          obtain ⟨rfl, rfl⟩ := q1
          cases r1
          refine PySem.W.callWith_K (h₀ := X.base) I.ok.mod.kin e2 (thn (pa_sem (X := X) (es := e :: es) |>.run pos pins s1 σ _ _ I1 ht) ?_) he hpl
          rintro us s2 ⟨vs, H2, I2, r, l1, -, q⟩
          exact ⟨I2.kIn, run_g (ws := []) (zs := []) F1 c.gd c.rm kb (passAt tk σ) I2 r .nil (r.length.symm.trans l1) rfl q⟩
        refine ⟨_, hpe, ev, ha.go lk tk A .refl w fun ds S1 μ1 H1 G1 vs as A1 P1 r1 o1 l1 w1 => ⟨l1.trans hl, rfl, ?_⟩⟩
        have r1' : RepNs X.K S1.length μ1 G1 H1 (vs ++ []) (ds ++ []) as := by rw [List.append_nil, List.append_nil]; exact r1
        refine call_want A1 P1 r1' o1 hs h2 ?_
        rw [List.append_nil]
        exact w1
    · exact w.elim
  · exact w.elim
end
/-! ### a def by its body -/
structure LnkP (P : Program) (w : World) (K : PySem.W.Frag) (mg : Str → Option Value) (base : Heap) (gi : GI) (k : Nat) (er : ER) (q : Q) : Prop where
  df : ∀ n d, gi.ds[n]? = some d → ∃ fd, FnG P w K mg base (CX P w) (3 * k) (q.fa n) fd d.ps (spC K er (q.call n) d.ps.length) ∧ mg d.name = some (.ref (q.fa n)) ∧ PySem.W.keepIn K (.ref (q.fa n)) = true ∧
    ∀ s ∈ d.shapes, ∃ g, KBn K fd d.ps s.1 s.2.1 g (gV s.2.2)
  xo : XOk P K mg gi.xs q.fa er
  ta : ∀ t ∈ gi.ts, tabF K t.1 = q.fa t.2
section
variable {P : Program} {w : World} {K : PySem.W.Frag} {mg : Str → Option Value} {base : Heap} {gi : GI} {k : Nat} {er : ER}
theorem start_ab {vs : List V} {ds : List D} {S : Store} {μ : Nat → Addr} {H F : Hp} {N : List Str} {n : Nat} (A : Hs K S μ H F) (r : RepCs K S.length μ F vs ds) (hn : N.length = n) : Ab K (ds.map some ++ List.replicate (n - ds.length) none) S μ (L2.start N vs) H F := by
  refine ⟨A, ?_, fun i d e => ?_⟩
  · unfold L2.start
    rw [List.length_append, List.length_append, List.length_map, List.length_map, List.length_replicate, List.length_replicate, hn, r.length]
  · by_cases h : i < ds.length
    · rw [List.getElem?_append_left (by rw [List.length_map]; exact h), List.getElem?_map] at e
      cases q : ds[i]? with
      | none =>
        rw [q] at e
        cases e
      | some d' =>
        rw [q] at e
        cases e
        obtain ⟨v, e1, rv⟩ := r.get' q
        refine ⟨v, ?_, rv⟩
        unfold L2.start
        rw [List.getElem?_append_left (by rw [List.length_map, r.length]; exact h), List.getElem?_map, e1]
        rfl
    · rw [List.getElem?_append_right (by rw [List.length_map]; omega)] at e
      have := (List.getElem?_replicate ..).symm.trans e
      split at this <;> cases this
/-- what a def that makes lambdas knows of its context -/
structure Mk (X : Cx) (P : Program) (w : World) (K : PySem.W.Frag) (mg : Str → Option Value) (base : Heap) (k : Nat) (qual : Str) (fd : FuncData) : Prop where
  prog : X.prog = P
  w : X.w = w
  K : X.K = K
  mg : X.mg = mg
  base : X.base = base
  rm : Room (3 * k + 2) X.A
  code : X.env.code = fd.code
  qual : X.env.qual = qual ++ ".<locals>."
theorem room_le {m n : Nat} {A : Around} (h : n ≤ m) (r : Room m A) : Room n A := ⟨r.hd, by have := r.dp; omega, by have := r.un; omega⟩
theorem fng_def {prog : List Def} {fa : Nat → Addr} {n : Nat} {d : Def} {x qual : Str} {params : Arguments} {body : List Stmt} {scope : Scope} {dvs : List V} {kws : List (Str × V)} {f : Addr} {fd : FuncData} {N ps : List Str}
    (FD : FunD K x qual params body scope dvs kws f fd) (Sc : FnScope N ps scope) (hd : prog[n]? = some d) (hps : ps.length = d.pars) (hN : N.length = d.slots)
    (bi : ∀ x ∈ gi.bs, mg x = none) (cs : ∀ p ∈ gi.cs, ∃ u, mg p.1 = some u ∧ cV p.2 u)
    (hb : ∀ X, Cok X gi k N scope → (∀ x, X.fn x = true) → PassesOwn (model X.prog X.w) X.A X.env X.xe → (X.stack = X.env :: X.outer ∧ X.env.frame = some X.env.locals) → Mk X P w K mg base k qual fd → SemB X gi k body d.body)
    (lk : ∀ L, LnkP P w K mg base gi k er ⟨callD prog fa k, fa, L⟩) : FnG P w K mg base (CX P w) (3 * (k + 1)) f fd ps (spC K er (callD prog fa (k + 1) n) ps.length) := by
  show FnG P w K mg base (CX P w) ((3 * k + 2) + 1) f fd ps _
  refine fng_of FD Sc (fun vs H Q E h => h.1) ?_
  intro cdv A outer s H vs Q E hg hcd hr hsp
  obtain ⟨hv, ds, S, μ, F, hs, rc, wc⟩ := hsp
  have tk : Takes (cxOf (CX P w) P w K mg base N qual scope f cdv A outer s H E) fun cls d x H => E cls d H := takes_of rfl rfl rfl rfl
  have c : Cok (cxOf (CX P w) P w K mg base N qual scope f cdv A outer s H E) gi k N scope := ⟨rfl, rfl, Sc.nd, rfl, hg, room_le (by omega) hr, bi, cs⟩
  have lk' : Lnk (cxOf (CX P w) P w K mg base N qual scope f cdv A outer s H E) gi k er ⟨callD prog fa k, fa, S.length⟩ := ⟨(lk S.length).df, (lk S.length).xo, (lk S.length).ta⟩
  have hl : ds.length = d.pars := rc.length.symm.trans (hv.trans hps)
  have wc2 : WC K er S μ H F (runD d.body d.slots ⟨callD prog fa k, fa, S.length⟩ ds S) Q E := by
    have z : callD prog fa (k + 1) n ds S = runD d.body d.slots ⟨callD prog fa k, fa, S.length⟩ ds S := by
      show (match prog[n]? with
        | some d => if ds.length = d.pars then runD d.body d.slots ⟨callD prog fa k, fa, S.length⟩ ds S else .no
        | none => .no) = _
      rw [hd]
      exact if_pos hl
    rw [← z]
    exact wc
  have A0 : Ab K (ds.map some ++ List.replicate (d.slots - ds.length) none) S μ (L2.start N vs) H F := start_ab hs rc hN
  refine hb _ c (fun _ => rfl) PassesOwn.leaving ⟨rfl, rfl⟩ ⟨rfl, rfl, rfl, rfl, rfl, hr, hcd, rfl⟩ er _ lk' _ tk _ S μ _ H F A0 _ ?_
  unfold runD at wc2
  dsimp only at wc2
  generalize d.body ⟨callD prog fa k, fa, S.length⟩ (ds.map some ++ List.replicate (d.slots - ds.length) none) S = r at wc2
  have lt : ∀ {S1 : Store}, S.length ≤ S1.length → (S1.take S.length).length = S.length := fun h => by rw [List.length_take, Nat.min_eq_left h]
  cases r with
  | no => exact wc2
  | ex cc x S1 => exact fun fr1 σ1 μ1 H1 F1 cls dx A1 P1 ee => wc2 μ1 H1 F1 cls dx (hs.takeS A1.hs P1) (lt P1.le) P1.take ee
  | ok p S1 =>
    obtain ⟨fl, fr1⟩ := p
    cases fl with
    | nx => exact fun σ1 μ1 H1 F1 A1 P1 => wc2 .non μ1 H1 F1 [] (hs.takeS A1.hs P1) (lt P1.le) P1.take (.c (.t .non)) .nil
    | bk => exact wc2.elim
    | ct => exact wc2.elim
    | rt dd =>
      intro σ1 μ1 H1 F1 A1 P1 v as r o
      dsimp only at wc2
      split at wc2
      · rename_i e2 sn em
        obtain ⟨as', r', nd', -, mem'⟩ := mv_ok 6 em A1.hs r o
        refine wc2 v μ1 H1 F1 as' (hs.takeS A1.hs P1) (lt P1.le) P1.take (by rw [lt P1.le]; exact r') ⟨nd', fun a ha => ?_⟩
        rcases mem' a ha with z | ⟨m, _, _, hm1, hm2, rfl⟩
        · obtain ⟨z1, z2, z3⟩ := o.fr a z
          exact ⟨z1, z2, fun j hj => z3 j (by rw [lt P1.le] at hj; exact Nat.lt_of_lt_of_le hj P1.le)⟩
        · refine ⟨P1.nC m hm1 hm2, A1.hs.out m hm2, fun j hj z => ?_⟩
          rw [lt P1.le] at hj
          have := A1.hs.inj j m (Nat.lt_of_lt_of_le hj P1.le) hm2 z
          omega
      · exact wc2.elim
theorem fng_zero {f : Addr} {fd : FuncData} {ps : List Str} {prog : List Def} {fa : Nat → Addr} {n : Nat} : FnG P w K mg base (CX P w) 0 f fd ps (spC K er (callD prog fa 0 n) ps.length) where
  n := fun vs H Q E h => h.1
  go := fun A outer s H args us vs Q E _ _ _ _ _ hsp => by
    obtain ⟨_, ds, S, μ, F, _, _, wc⟩ := hsp
    exact wc.elim
/-- all defs of the module, at all levels -/
structure DefOk (P : Program) (w : World) (K : PySem.W.Frag) (mg : Str → Option Value) (base : Heap) (gi : GI) (er : ER) (prog : List Def) (fa : Nat → Addr) (n : Nat) (d : DI) : Prop where
  ex : ∃ fd, mg d.name = some (.ref (fa n)) ∧ PySem.W.keepIn K (.ref (fa n)) = true ∧ (∀ s ∈ d.shapes, ∃ g, KBn K fd d.ps s.1 s.2.1 g (gV s.2.2)) ∧
    ∀ k, (∀ L, LnkP P w K mg base gi k er ⟨callD prog fa k, fa, L⟩) → FnG P w K mg base (CX P w) (3 * (k + 1)) (fa n) fd d.ps (spC K er (callD prog fa (k + 1) n) d.ps.length)
theorem all_defs {prog : List Def} {fa : Nat → Addr} (ho : XOk P K mg gi.xs fa er) (ht : ∀ t ∈ gi.ts, tabF K t.1 = fa t.2) (h : ∀ n d, gi.ds[n]? = some d → DefOk P w K mg base gi er prog fa n d) : ∀ k L, LnkP P w K mg base gi k er ⟨callD prog fa k, fa, L⟩
  | 0, L => ⟨fun n d e => by
    obtain ⟨fd, h1, h2, h3, _⟩ := (h n d e).ex
    exact ⟨fd, fng_zero (prog := prog) (fa := fa) (n := n), h1, h2, h3⟩, ho, ht⟩
  | k + 1, L => ⟨fun n d e => by
    obtain ⟨fd, h1, h2, h3, h4⟩ := (h n d e).ex
    exact ⟨fd, h4 k (all_defs ho ht h k), h1, h2, h3⟩, ho, ht⟩
end
end Mi

set_option Elab.async false
set_option linter.all false
set_option maxRecDepth 100000
set_option maxHeartbeats 4000000
/-! N16: the end of a law: its def is called at the heap behind the top, where no repr is under way -/
namespace Mi
open PySem PySem.Spec PyProof.Rows L2
section
variable {P : Program} {w : World} {K : PySem.W.Frag} {mg mb : Str → Option Value} {k : Nat} {fa a : Addr} {fd : FuncData} {x : Str} {sp : Sp} {s1 : Shared} {vs : List Value} {ns : List Int}
/-- from one abstract heap that tracks the script at most -/
theorem call_core {H : Hp} (kx : K.In s1.heap) (gl : s1.heap.Ns mainGlobals mg) (bl : s1.heap.Ns builtinsNs mb) (bb : ∀ x : Str, x ≠ "__name__" → mb x = bootBuiltins x) (lim : s1.heap.NoLimit) (hg : s1.gens = #[])
    (ha : s1.heap.get? a = some { cls := .type "list", data := .seq vs.toArray }) (hr : Room k callerA) (F : ∀ base : Heap, K.In base → base.Ns mainGlobals mg → FnG P w K mg base (CX P w) k fa fd [x] sp) (bd : ∀ (s : Shared) (u : Value), BindsTo s fd ⟨[u], []⟩ [(x, u)])
    (hO : Only H) (hp : sp [.ref a] H (fun v _ => v = .bl true) fun _ _ _ => False) (ok : HOk P w H s1.heap) (only : ∀ b, H b ≠ none → b = a) (hK : H a ≠ none → K.lookup a = none) :
    codeAny (model P w) callerA (.call (.ref fa) ⟨[.ref a], []⟩) (fun r s' => r = .ok (.ret (.bool true)) ∧ OldK s1.heap s'.heap ∧ s'.os = s1.os ∧ AllBare s'.gens) s1 := by
  -- what is a dict is not the script
  have nodict : ∀ {b : Addr} {o : Obj} {es : Array DictEntry} {ep : Nat}, s1.heap.get? b = some o → o.data = .dict es ep → H b = none := by
    intro b o es ep e d
    cases q : H b with
    | none => rfl
    | some u =>
      have eb := only b (by rw [q]; intro z; cases z)
      rw [eb, ha] at e
      cases e
      cases d
  have ns_ : ∀ {b : Addr} {m : Str → Option Value}, s1.heap.Ns b m → (hidT s1.heap H).Ns b m := by
    rintro b m ⟨o, es, ep, e, d, r⟩
    exact ⟨o, es, ep, hidT_get e (nodict e d), d, r⟩
  have kin : K.In (hidT s1.heap H) := by
    intro b o e
    refine hidT_get (kx b o e) ?_
    cases q : H b with
    | none => rfl
    | some u =>
      have nn : H b ≠ none := by rw [q]; intro z; cases z
      have eb := only b nn
      subst eb
      rw [hK nn] at e
      cases e
  obtain ⟨mc, l1, l2⟩ := lim
  have M : Mod K mg (hidT s1.heap H) := { kin := kin, glob := ns_ gl, blt := ⟨mb, ns_ bl, bb⟩, nolimit := ⟨mc, ns_ l1, l2⟩ }
  have e0 : Env0 P w K mg (hidT s1.heap H) callerA [] s1 H :=
    { frames := rfl, mod := M, bs := fun b o e => of_hidT e, bsz := Nat.le_of_eq (hidT_size _ _), funs := trivial, frf := (fun b hb => by cases hb), hok := ok, bare := .of_eq hg }
  have run := (F _ kin (ns_ gl)).go callerA [] s1 H ⟨[.ref a], []⟩ [.ref a] [.ref a] _ _ rfl hr e0 (bd s1 (.ref a)) (.cons rfl .nil) hp
  refine codeAny_mono run ?_
  rintro (e | fl) s' h
  · obtain ⟨_, _, _, _, _, _, _, _, _, _, _, _, h⟩ := h
    exact h.elim
  cases fl with
  | next => exact h.elim
  | brk => exact h.elim
  | cont => exact h.elim
  | ret u =>
    obtain ⟨v, H', os, bare, un, ok', rv, q⟩ := h
    have ev : v = .bl true := q
    subst ev
    have eu : u = Value.bool true := rv
    subst eu
    refine ⟨rfl, OldK.of_keep ?_, os, bare⟩
    intro b o e
    cases q1 : H b with
    | none => exact un.keep b o e q1 (fun z => by cases z) (fun z => by cases z)
    | some u =>
      rcases hO b with z | ⟨ob, xs, z⟩
      · rw [q1] at z
        cases z
      · obtain ⟨y1, _⟩ := ok b _ z
        obtain ⟨y2, _⟩ := ok' b _ (un.frzs b ob _ z)
        rw [e] at y1
        cases y1
        exact y2
theorem law_callG (kx : K.In s1.heap) (gl : s1.heap.Ns mainGlobals mg) (bl : s1.heap.Ns builtinsNs mb) (bb : ∀ x : Str, x ≠ "__name__" → mb x = bootBuiltins x) (lim : s1.heap.NoLimit) (hg : s1.gens = #[])
    (ha : s1.heap.get? a = some { cls := .type "list", data := .seq vs.toArray }) (hi : IntsAre vs ns) (hl : ns.length ≤ sizeLine) (hr : Room k callerA) (F : ∀ base : Heap, K.In base → base.Ns mainGlobals mg → FnG P w K mg base (CX P w) k fa fd [x] sp) (bd : ∀ (s : Shared) (u : Value), BindsTo s fd ⟨[u], []⟩ [(x, u)])
    (hp : ∀ H : Hp, Only H → SqL K H a (ns.map V.int) → sp [.ref a] H (fun v _ => v = .bl true) fun _ _ _ => False) :
    codeAny (model P w) callerA (.call (.ref fa) ⟨[.ref a], []⟩) (fun r s' => r = .ok (.ret (.bool true)) ∧ OldK s1.heap s'.heap ∧ s'.os = s1.os ∧ AllBare s'.gens) s1 := by
  have lv := hi.length
  cases hk : K.lookup a with
  | some o =>
    have e := kx a o hk
    rw [ha] at e
    cases e
    have on : Only (fun _ => none) := fun _ => .inl rfl
    have sq : SqL K (fun _ => none) a (ns.map V.int) := .inr ⟨_, vs.toArray, _, hk, rfl, rfl, rfl, by rw [List.size_toArray, lv]; exact hl, by simpa using vals_ints hi⟩
    exact call_core kx gl bl bb lim hg ha hr F bd on (hp _ on sq) (fun b u z => by cases z) (fun b z => absurd rfl z) fun z => absurd rfl z
  | none =>
    generalize eo : ({ cls := .type "list", data := .seq vs.toArray } : Obj) = ob at ha
    let H : Hp := fun b => if b = a then some (.frz ob (.lst (ns.map V.int))) else none
    have Ha : H a = some (.frz ob (.lst (ns.map V.int))) := if_pos rfl
    have Hn : ∀ b, b ≠ a → H b = none := fun b z => if_neg z
    have on : Only H := by
      intro b
      by_cases z : b = a
      · exact .inr ⟨_, _, by rw [z]; exact Ha⟩
      · exact .inl (Hn b z)
    have only : ∀ b, H b ≠ none → b = a := by
      intro b z
      by_cases y : b = a
      · exact y
      · exact absurd (Hn b y) z
    refine call_core (H := H) kx gl bl bb lim hg (by rw [eo]; exact ha) hr F bd on (hp H on (.inl (.inr ⟨_, Ha⟩))) ?_ only fun _ => hk
    intro b u z
    have eb := only b (by rw [z]; intro y; cases y)
    subst eb
    rw [Ha] at z
    cases z
    refine ⟨ha, by rw [List.length_map]; exact hl, vs, 0, vals_ints hi, ?_⟩
    rw [eo]
    exact ha
end
/-- the goal that the head leaves -/
theorem walk_G {l : PySem.W.OpenLaw} {n k : Nat} {q : Program} {loose : List Str} {XP : (Str → Option Value) → Heap → Prop} {YP : World → Heap → Prop} {d : DefRec} {x : Str} (hn : l.most = some n) (hn2 : n ≤ sizeLine) (hdf : d.params.defaults = []) (hr : Room k callerA)
    (F : ∀ (w : World) (mg : Str → Option Value) (fa : Addr) (h : Heap), YP w h → h.Ns mainGlobals mg → mg d.name = some (.ref fa) → ∃ (K : PySem.W.Frag) (fd : FuncData) (sp : Sp), K.In h ∧ (∀ (s : Shared) (u : Value), BindsTo s fd ⟨[u], []⟩ [(x, u)]) ∧
      (∀ (H : Hp) (a : Addr) (ns : List Int), ns.length ≤ n → Only H → SqL K H a (ns.map V.int) → sp [.ref a] H (fun v _ => v = .bl true) fun _ _ _ => False) ∧ ∀ base : Heap, K.In base → base.Ns mainGlobals mg → FnG l.prog w K mg base (CX l.prog w) k fa fd [x] sp) :
    PySem.W.WalkO q loose XP YP l.row.toRowW d [] (fun f vs => PySem.call f vs) := by
  apply Att.attach_call hn hdf
  intro w s0 s1 mg mb fa o pm cd doc a vs ns G Y ho hd hcd hmg hobj hints hlen hg
  obtain ⟨K, fd, sp, kx, bd, hp, hF⟩ := F w mg fa _ Y G.T.g hmg
  exact law_callG kx G.T.g G.T.b G.T.builtins G.T.nolimit hg hobj hints (Nat.le_trans hlen hn2) hr hF bd fun H hO hS => hp H a ns hlen hO hS
/-- the law's promise, from what the small language says of it -/
theorem law_sp {K : PySem.W.Frag} {er : ER} {prog : List Def} {fa : Nat → Addr} {k n : Nat} (H : Hp) (a : Addr) (ns : List Int) (hO : Only H) (hS : SqL K H a (ns.map V.int)) (h : callD prog fa k n [.t (.scr ns)] [] = .ok (.bl true) []) :
    spC K er (callD prog fa k n) 1 [.ref a] H (fun v _ => v = .bl true) fun _ _ _ => False := by
  have hs : Hs K [] (fun _ => 0) H H := ⟨fun _ _ e => .inl e, fun m o e => (by cases e), fun m hm => absurd hm (Nat.not_lt_zero _), fun m j hm => absurd hm (Nat.not_lt_zero _), fun m P q e => by cases e⟩
  have go : Rep K (At H) (.ref a) (.scr ns) → spC K er (callD prog fa k n) 1 [.ref a] H (fun v _ => v = .bl true) fun _ _ _ => False := fun r => by
    refine ⟨rfl, [.t (.scr ns)], [], fun _ => 0, H, hs, .cons (.t r) .nil, ?_⟩
    rw [h]
    intro v μ' H' F' as _ _ _ r _
    exact rep_bl (repT r).1
  rcases hS with (h | ⟨o, h⟩) | h
  · rcases hO a with z | ⟨o, xs, z⟩
    · rw [z] at h
      cases h
    · rw [z] at h
      cases h
  · exact go (.scr (.inl ⟨o, h⟩))
  · exact go (.scr (.inr fun _ => .inr h))
end Mi

set_option Elab.async false
set_option linter.all false
set_option maxRecDepth 100000
set_option maxHeartbeats 4000000
/-! N17: what the generated text uses -/
namespace Mi
open PySem PySem.Spec PyProof.Rows L2
section
variable {X : Cx} {gi : GI} {k : Nat} {N : List Str} {sc : Scope}
theorem isC : CmpS X (compareOp .Is) (cmpD .is_) := by
  refine ⟨_, op_isN, ?_⟩
  intro er W L fr σ S0 S μ0 μ H0 F0 H F Q x y v w as bs A P r1 r2 hw
  unfold cmpD at hw
  split at hw <;> first | (rename_i z; cases z; done) | skip
  all_goals first | exact hw.elim | skip
  all_goals first
    | (refine ⟨rep_non (repT r2).1, ?_⟩
       split at hw
       · rw [isNon_rep (repT r1).1]
         exact giveB hw A P
       · rename_i n
         rw [ref_ne r1 n]
         exact giveB hw A P)
    | skip
theorem isnC : CmpS X (compareOp .IsNot) (cmpD .isn) := by
  refine ⟨_, op_notN, ?_⟩
  intro er W L fr σ S0 S μ0 μ H0 F0 H F Q x y v w as bs A P r1 r2 hw
  unfold cmpD at hw
  split at hw <;> first | (rename_i z; cases z; done) | skip
  all_goals first | exact hw.elim | skip
  all_goals first
    | (refine ⟨rep_non (repT r2).1, ?_⟩
       split at hw
       · rw [isNon_rep (repT r1).1]
         exact giveB hw A P
       · rename_i n
         rw [ref_ne r1 n]
         exact giveB hw A P)
    | skip
theorem swaps_of {v : Expr} {t : Option Expr} {l : Nat} {b : Bool} (hs : X.env.scope = sc) (h : swapsWith v t l { X.env with scope := sc } = pure b) : swapsWith v t l X.env = pure b := by
  subst hs
  exact h
theorem semo_none : SemO X gi k none none := trivial
theorem semo_some {e : Expr} {f : XE} (h : SemE X gi k e f) : SemO X gi k (some e) (some f) := h
/-! ### the arguments of a call -/
def sclA : List (Sum Nat T) → Bool
  | [] => true
  | .inl _ :: r => sclA r
  | .inr x :: r => x.scl && sclA r
theorem sclOk : ∀ {ar : List (Sum Nat T)}, sclA ar = true → ∀ y, Sum.inr y ∈ ar → y.scl = true
  | .inl _ :: r, h, y, hy => sclOk (ar := r) h y ((List.mem_cons.mp hy).resolve_left (by intro z; cases z))
  | .inr x :: r, h, y, hy => by
    have h' : (x.scl && sclA r) = true := h
    rw [Bool.and_eq_true] at h'
    rcases List.mem_cons.mp hy with z | z
    · cases z
      exact h'.1
    · exact sclOk h'.2 y z
/-- which argument, which default -/
def pick {α : Type} (ar : List (Sum Nat Nat)) (us mv ws : List α) : List α := ar.filterMap fun s => match s with
  | .inl k => (us ++ ws)[k]?
  | .inr j => mv[j]?
theorem vals_get {vs : List V} {us : List Value} (h : Vals vs us) : ∀ i : Nat, (∃ v u, vs[i]? = some v ∧ us[i]? = some u ∧ L2.RelV v u) ∨ (vs[i]? = none ∧ us[i]? = none) := by
  induction h with
  | nil => exact fun i => .inr ⟨rfl, rfl⟩
  | cons r _ ih =>
    intro i
    cases i with
    | zero => exact .inl ⟨_, _, rfl, rfl, r⟩
    | succ i => exact ih i
theorem pick_rel {ar : List (Sum Nat Nat)} {vs mz zs : List V} {us mv ws : List Value} (h1 : Vals vs us) (h2 : Vals mz mv) (h3 : Vals zs ws) : Vals (pick ar vs mz zs) (pick ar us mv ws) := by
  induction ar with
  | nil => exact .nil
  | cons s r ih =>
    unfold pick at ih ⊢
    have h13 : Vals (vs ++ zs) (us ++ ws) := h1.append h3
    cases s with
    | inl i =>
      rcases vals_get h13 i with ⟨v, u, e1, e2, r1⟩ | ⟨e1, e2⟩
      · rw [List.filterMap_cons_some (b := v) (by exact e1), List.filterMap_cons_some (b := u) (by exact e2)]
        exact .cons r1 ih
      · rw [List.filterMap_cons_none (by exact e1), List.filterMap_cons_none (by exact e2)]
        exact ih
    | inr i =>
      rcases vals_get h2 i with ⟨v, u, e1, e2, r1⟩ | ⟨e1, e2⟩
      · rw [List.filterMap_cons_some (b := v) (by exact e1), List.filterMap_cons_some (b := u) (by exact e2)]
        exact .cons r1 ih
      · rw [List.filterMap_cons_none (by exact e1), List.filterMap_cons_none (by exact e2)]
        exact ih
end
section
variable {K : PySem.W.Frag} {x qual : Str} {params : Arguments} {body : List Stmt} {scope : Scope} {kws : List (Str × V)} {f : Addr} {fd : FuncData} {ps ks : List Str} {n : Nat}
/-- a call that leaves nothing to a default -/
theorem kb_plain (ar : List (Sum Nat Nat)) (ar' : List (Sum Nat T)) (F : FunD K x qual params body scope [] kws f fd) (e : ∀ vs zs : List V, pick ar vs [] zs = gV ar' vs zs)
    (h : ∀ (kV doc pm : Value) (an : Option Addr) (cdv ct : Value) (us ws : List Value), us.length = n → ws.length = ks.length → bindArgs (PySem.W.fnOf x qual params body scope .none kV doc pm an cdv ct) ⟨us, ks.zip ws⟩ = pure (ps.zip (pick ar us [] ws))) : ∃ g, KBn K fd ps n ks g (gV ar') :=
  ⟨fun us ws => pick ar us [] ws, fun s us ws X l1 l2 => by
    obtain ⟨oc, od, dV, kV, doc, pm, an, cdv, ct, osl, rfl, lk, hcd, hD, hK⟩ := F.ex
    rcases hD with ⟨_, rfl⟩ | ⟨e, _⟩
    · exact .of_eq (h kV doc pm an cdv ct us ws l1 l2)
    · exact absurd rfl e, fun {vs us zs ws} r1 r2 => by rw [← e]; exact pick_rel r1 .nil r2⟩
/-- .. the keyword-only ones of ms are left to their defaults -/
theorem kb_dfl (ar : List (Sum Nat Nat)) (ar' : List (Sum Nat T)) (ms : List (Str × V)) (F : FunD K x qual params body scope [] kws f fd) (hk : kws ≠ []) (hms : ∀ q ∈ ms, q ∈ kws) (e : ∀ vs zs : List V, pick ar vs (ms.map (·.2)) zs = gV ar' vs zs)
    (h : ∀ (D : Addr) (doc pm : Value) (an : Option Addr) (cdv ct : Value) (us mv ws : List Value), us.length = n → mv.length = ms.length → ws.length = ks.length →
      KwChain D ((ms.map (·.1)).zip mv) (bindArgs (PySem.W.fnOf x qual params body scope .none (.ref D) doc pm an cdv ct) ⟨us, ks.zip ws⟩) (ps.zip (pick ar us mv ws))) : ∃ g, KBn K fd ps n ks g (gV ar') := by
  obtain ⟨mv, hb⟩ := F.kbinds0 n ks ms (fun us mv ws => pick ar us mv ws) hk hms pick_rel h
  exact ⟨_, hb.to, fun {vs us zs ws} r1 r2 => by rw [← e]; exact hb.rel r1 r2⟩
end
end Mi

set_option Elab.async false
set_option linter.all false
set_option maxRecDepth 100000
set_option maxHeartbeats 4000000
/-! N18: reckoning with the small language -/
namespace Mi
open PySem L2
section
variable {q : Q} {fr fr1 fr2 : Frame} {S S1 S2 : Store} {a b c e : XE} {ta tb : XT} {h hk : XA} {s t : XB} {it : XI} {d x y : D} {n : Nat}
theorem z_v {i : Nat} (h : fr[i]? = some (some d)) : Z.v i q fr S = .ok d S := by
  unfold Z.v
  rw [h]
theorem z_w {i : Nat} : Z.v i q fr S = (match fr[i]? with
  | some (some d) => .ok d S
  | _ => .no) := rfl
theorem z_k {x : T} : Z.k x q fr S = .ok (.t x) S := rfl
theorem z_g : Z.g n q fr S = .ok (.t (.fn n (q.fa n))) S := rfl
theorem z_nil : Z.nil q fr S = .ok [] S := rfl
theorem z_cons : Z.cons a h q fr S = (a q fr S).bnd fun d S1 => (h q fr S1).bnd fun ds S2 => .ok (d :: ds) S2 := rfl
theorem z_lst : Z.lst h q fr S = (h q fr S).bnd fun ds S1 => .ok (Z.mkL ds) S1 := rfl
theorem z_tup : Z.tup h q fr S = (h q fr S).bnd fun ds S1 => .ok (Z.mkT ds) S1 := rfl
theorem z_bin {o : BO} : Z.bin o a b q fr S = (a q fr S).bnd fun x S1 => (b q fr S1).bnd fun y S2 => bop o x y S2 := rfl
theorem z_cmp {o : CO} : Z.cmp o a b q fr S = (a q fr S).bnd fun x S1 => (b q fr S1).bnd fun y S2 => (cmpD o x y S2).bnd fun b S3 => .ok (.bl b) S3 := rfl
theorem z_tcmp {o : CO} : Z.tcmp o a b q fr S = (a q fr S).bnd fun x S1 => (b q fr S1).bnd fun y S2 => cmpD o x y S2 := rfl
theorem z_ch {o p : CO} : Z.ch o p a b c q fr S = (Z.tch o p a b c q fr S).bnd fun b S => .ok (.bl b) S := rfl
theorem z_tch {o p : CO} : Z.tch o p a b c q fr S = (a q fr S).bnd fun x S1 => (b q fr S1).bnd fun y S2 => (cmpD o x y S2).bnd fun t S3 => if t = true then (c q fr S3).bnd fun z S4 => cmpD p y z S4 else .ok false S3 := rfl
theorem z_tval : Z.tval a q fr S = (a q fr S).bnd fun x S1 => truD x S1 := rfl
theorem z_tnot : Z.tnot ta q fr S = (ta q fr S).bnd fun b S1 => .ok (!b) S1 := rfl
theorem z_tand : Z.tand ta tb q fr S = (ta q fr S).bnd fun x S1 => if x = true then tb q fr S1 else .ok false S1 := rfl
theorem z_tor : Z.tor ta tb q fr S = (ta q fr S).bnd fun x S1 => if x = true then .ok true S1 else tb q fr S1 := rfl
theorem z_neg : Z.neg a q fr S = (a q fr S).bnd fun x S1 => match x with
  | .t (.int i) => .ok (.int (-i)) S1
  | _ => .no := rfl
theorem z_not : Z.not a q fr S = (a q fr S).bnd fun x S1 => (truD x S1).bnd fun b S2 => .ok (.bl (!b)) S2 := rfl
theorem z_and : Z.and a b q fr S = (a q fr S).bnd fun x S1 => (truD x S1).bnd fun t S2 => if t = true then b q fr S2 else .ok x S2 := rfl
theorem z_or : Z.or a b q fr S = (a q fr S).bnd fun x S1 => (truD x S1).bnd fun t S2 => if t = true then .ok x S2 else b q fr S2 := rfl
theorem z_ife : Z.ife ta a b q fr S = (ta q fr S).bnd fun t S1 => if t = true then a q fr S1 else b q fr S1 := rfl
theorem z_ix : Z.ix a b q fr S = (a q fr S).bnd fun x S1 => (b q fr S1).bnd fun y S2 => ixD x y S2 := rfl
theorem z_oN : Z.opt none q fr S = .ok none S := rfl
theorem z_oS : Z.opt (some e) q fr S = (e q fr S).bnd fun x S1 => match x with
  | .t (.int i) => .ok (some i) S1
  | _ => .no := rfl
theorem z_sl {lo hi : Option XE} : Z.sl a lo hi q fr S = (a q fr S).bnd fun x S1 => (Z.opt lo q fr S1).bnd fun l S2 => (Z.opt hi q fr S2).bnd fun h S3 => slD x l h S3 := rfl
theorem z_rev : Z.rev a q fr S = (a q fr S).bnd fun x S1 => revD x S1 := rfl
theorem z_f1 {f : U1} : Z.f1 f a q fr S = (a q fr S).bnd fun x S1 => f1D f x S1 := rfl
theorem z_f2 {f : U2} : Z.f2 f a b q fr S = (a q fr S).bnd fun x S1 => (b q fr S1).bnd fun y S2 => f2D f x y S2 := rfl
theorem z_call {ar : List (Sum Nat T)} : Z.call n h ar q fr S = (h q fr S).bnd fun ds S1 => Z.callA q n ds ar S1 := rfl
theorem z_args : Z.args h hk q fr S = (h q fr S).bnd fun ds S1 => (hk q fr S1).bnd fun es S2 => .ok (ds ++ es) S2 := rfl
theorem z_me {m : Z.M} : Z.me m a h q fr S = (a q fr S).bnd fun x S1 => if tyD S1 x = some "list" then (h q fr S1).bnd fun ds S2 => Z.mD m x ds S2 else .no := rfl
theorem z_skip : Z.skip q fr S = .ok (.nx, fr) S := rfl
theorem z_seq : Z.seq s t q fr S = (s q fr S).bnd fun p S1 => match p.1 with
  | .nx => t q p.2 S1
  | f => .ok (f, p.2) S1 := rfl
theorem z_set {i : Nat} {m : Bool} : Z.set i m a q fr S = (a q fr S).bnd fun d S1 => match Z.stD m d S1 with
  | some (e, S2) => .ok (.nx, fr.set i (some e)) S2
  | none => .no := rfl
theorem z_sett {is : List Nat} {m : Bool} : Z.sett is m a q fr S = (a q fr S).bnd fun d S1 => match Z.stD m d S1 with
  | some (e, S2) => match asg S2 (.tu is) e fr with
    | some fr2 => .ok (.nx, fr2) S2
    | none => .no
  | none => .no := rfl
theorem z_expr : Z.expr a q fr S = (a q fr S).bnd fun _ S1 => .ok (.nx, fr) S1 := rfl
theorem z_ret : Z.ret a q fr S = (a q fr S).bnd fun d S1 => .ok (.rt d, fr) S1 := rfl
theorem z_retn : Z.retn q fr S = .ok (.rt .non, fr) S := rfl
theorem z_brk : Z.brk q fr S = .ok (.bk, fr) S := rfl
theorem z_cnt : Z.cnt q fr S = .ok (.ct, fr) S := rfl
theorem z_ifs : Z.ifs ta s t q fr S = (ta q fr S).bnd fun k S1 => if k = true then s q fr S1 else t q fr S1 := rfl
theorem z_aug {i : Nat} {o : BO} {m : Int} (h : fr[i]? = some (some (.t (.int m)))) : Z.aug i o a q fr S = (a q fr S).bnd fun y S1 => match y with
    | .t (.int n) => match Z.augI o m n with
      | some z => .ok (.nx, fr.set i (some (.int z))) S1
      | none => .no
    | _ => .no := by
  unfold Z.aug
  rw [h]
  try rfl
theorem z_sti : Z.sti a b c q fr S = (c q fr S).bnd fun d S1 => (a q fr S1).bnd fun x S2 => (b q fr S2).bnd fun j S3 => match Z.stiD x j d S3 with
  | some S4 => .ok (.nx, fr) S4
  | none => .no := rfl
theorem z_del : Z.del a b q fr S = (a q fr S).bnd fun x S1 => (b q fr S1).bnd fun j S2 => match Z.delD x j S2 with
  | some S3 => .ok (.nx, fr) S3
  | none => .no := rfl
theorem z_itR : Z.itR a q fr S = (a q fr S).bnd fun x S1 => match x with
  | .t (.int n) => if -(2 ^ 62) ≤ n ∧ n < 2 ^ 62 then .ok ((List.range n.toNat).map fun k : Nat => .int (k : Int), none) S1 else .no
  | _ => .no := rfl
theorem z_fors {cc : Bool} {tg : Z.Tg} : Z.fors cc tg it s q fr S = (it q fr S).bnd fun p S1 => unlR p.2 (Z.forL tg (fun fr2 S2 => Z.cutR cc (lckS S1 p.2).length (s (Z.qL cc q (lckS S1 p.2)) fr2 S2)) p.1 fr (lckS S1 p.2)) := rfl
theorem z_whs {cc : Bool} : Z.whs cc ta s q fr S = Z.wh (ta (Z.qL cc q S)) (fun fr2 S2 => Z.cutR cc S.length (s (Z.qL cc q S) fr2 S2)) fr S := rfl
/-! ### results -/
def post {α : Type} (r : R α) (P : α → Store → Prop) : Prop := match r with
  | .ok a S => P a S
  | _ => False
theorem post_ok {α : Type} {v : α} {P : α → Store → Prop} : post (.ok v S) P = P v S := rfl
theorem post_ex {α : Type} {r : R α} {P : α → Store → Prop} (h : post r P) : ∃ v S, r = .ok v S ∧ P v S := by
  cases r with
  | ok v S => exact ⟨v, S, rfl, h⟩
  | _ => exact h.elim
/-- a loop whose turns all go to their end -/
theorem for_ind {tg : Z.Tg} {b : Frame → Store → R (Fl × Frame)} (I : Nat → Frame → Store → Prop) {items : List D} {fr : Frame} {S : Store}
    (step : ∀ i d fr S, items[i]? = some d → I i fr S → ∃ fr1, asg S tg d fr = some fr1 ∧ ∃ fl fr2 S2, b fr1 S = .ok (fl, fr2) S2 ∧ (fl = .nx ∨ fl = .ct) ∧ I (i + 1) fr2 S2) (h0 : I 0 fr S) :
    ∃ fr2 S2, Z.forL tg b items fr S = .ok (.nx, fr2) S2 ∧ I items.length fr2 S2 := by
  have main : ∀ (m i : Nat) (fr : Frame) (S : Store), m = items.length - i → i ≤ items.length → I i fr S → ∃ fr2 S2, Z.forL tg b (items.drop i) fr S = .ok (.nx, fr2) S2 ∧ I items.length fr2 S2 := by
    intro m
    induction m with
    | zero =>
      intro i fr S hm hi h
      have e : i = items.length := by omega
      subst e
      rw [List.drop_length]
      exact ⟨fr, S, rfl, h⟩
    | succ m ih =>
      intro i fr S hm hi h
      have hlt : i < items.length := by omega
      obtain ⟨fr1, ea, fl, fr2, S2, eb, hf, h2⟩ := step i _ fr S (List.getElem?_eq_getElem hlt) h
      rw [List.drop_eq_getElem_cons hlt]
      unfold Z.forL
      rw [ea]
      dsimp only
      rw [eb, bnd_ok]
      rcases hf with rfl | rfl
      · exact ih (i + 1) fr2 S2 (by omega) hlt h2
      · exact ih (i + 1) fr2 S2 (by omega) hlt h2
  have := main _ 0 fr S rfl (Nat.zero_le _) h0
  rw [List.drop_zero] at this
  exact this
/-- a loop that may be left with a result: the first i at which r i is some -/
theorem for_find {tg : Z.Tg} {b : Frame → Store → R (Fl × Frame)} (I : Nat → Frame → Store → Prop) (E : Nat → Fl × Frame → Store → Prop) {items : List D} {fr : Frame} {S : Store}
    (step : ∀ i d fr S, items[i]? = some d → I i fr S → ∃ fr1, asg S tg d fr = some fr1 ∧ ∃ fl fr2 S2, b fr1 S = .ok (fl, fr2) S2 ∧ (((fl = .nx ∨ fl = .ct) ∧ I (i + 1) fr2 S2) ∨ (fl = .bk ∧ E i (.nx, fr2) S2) ∨ ∃ e, fl = .rt e ∧ E i (.rt e, fr2) S2)) (h0 : I 0 fr S) :
    ∃ p S2, Z.forL tg b items fr S = .ok p S2 ∧ ((p.1 = .nx ∧ I items.length p.2 S2) ∨ ∃ i, i < items.length ∧ E i p S2) := by
  have main : ∀ (m i : Nat) (fr : Frame) (S : Store), m = items.length - i → i ≤ items.length → I i fr S → ∃ p S2, Z.forL tg b (items.drop i) fr S = .ok p S2 ∧ ((p.1 = .nx ∧ I items.length p.2 S2) ∨ ∃ i, i < items.length ∧ E i p S2) := by
    intro m
    induction m with
    | zero =>
      intro i fr S hm hi h
      have e : i = items.length := by omega
      subst e
      rw [List.drop_length]
      exact ⟨(.nx, fr), S, rfl, .inl ⟨rfl, h⟩⟩
    | succ m ih =>
      intro i fr S hm hi h
      have hlt : i < items.length := by omega
      obtain ⟨fr1, ea, fl, fr2, S2, eb, hf⟩ := step i _ fr S (List.getElem?_eq_getElem hlt) h
      rw [List.drop_eq_getElem_cons hlt]
      unfold Z.forL
      rw [ea]
      dsimp only
      rw [eb, bnd_ok]
      rcases hf with ⟨rfl | rfl, h2⟩ | ⟨rfl, h2⟩ | ⟨e, rfl, h2⟩
      · exact ih (i + 1) fr2 S2 (by omega) hlt h2
      · exact ih (i + 1) fr2 S2 (by omega) hlt h2
      · exact ⟨_, _, rfl, .inr ⟨i, hlt, h2⟩⟩
      · exact ⟨_, _, rfl, .inr ⟨i, hlt, h2⟩⟩
  have := main _ 0 fr S rfl (Nat.zero_le _) h0
  rw [List.drop_zero] at this
  exact this
/-- while, with a measure -/
theorem wh_ind {t : Frame → Store → R Bool} {b : Frame → Store → R (Fl × Frame)} {α : Type} (I : α → Frame → Store → Prop) (m : α → Nat) (E : Fl × Frame → Store → Prop)
    (step : ∀ a fr S, I a fr S → ∃ k S1, t fr S = .ok k S1 ∧ (k = false → E (.nx, fr) S1) ∧ (k = true → ∃ fl fr2 S2, b fr S1 = .ok (fl, fr2) S2 ∧ (((fl = .nx ∨ fl = .ct) ∧ ∃ a', m a' < m a ∧ I a' fr2 S2) ∨ (fl = .bk ∧ E (.nx, fr2) S2) ∨ ∃ e, fl = .rt e ∧ E (.rt e, fr2) S2))) :
    ∀ {a : α} {fr : Frame} {S : Store}, I a fr S → ∃ p S2, Z.wh t b fr S = .ok p S2 ∧ E p S2 := by
  have main : ∀ (n : Nat) (a : α) (fr : Frame) (S : Store), m a ≤ n → I a fr S → ∃ p S2, Z.wh t b fr S = .ok p S2 ∧ E p S2 := by
    intro n
    induction n with
    | zero =>
      intro a fr S hn h
      obtain ⟨k, S1, et, h1, h2⟩ := step a fr S h
      rw [wh_eq, et, bnd_ok]
      cases k with
      | false => exact ⟨_, _, rfl, h1 rfl⟩
      | true =>
        rw [if_pos rfl]
        obtain ⟨fl, fr2, S2, eb, hf⟩ := h2 rfl
        rw [eb, bnd_ok]
        rcases hf with ⟨rfl | rfl, a', ha, _⟩ | ⟨rfl, h3⟩ | ⟨e, rfl, h3⟩
        · omega
        · omega
        · exact ⟨_, _, rfl, h3⟩
        · exact ⟨_, _, rfl, h3⟩
    | succ n ih =>
      intro a fr S hn h
      obtain ⟨k, S1, et, h1, h2⟩ := step a fr S h
      rw [wh_eq, et, bnd_ok]
      cases k with
      | false => exact ⟨_, _, rfl, h1 rfl⟩
      | true =>
        rw [if_pos rfl]
        obtain ⟨fl, fr2, S2, eb, hf⟩ := h2 rfl
        rw [eb, bnd_ok]
        rcases hf with ⟨rfl | rfl, a', ha, h3⟩ | ⟨rfl, h3⟩ | ⟨e, rfl, h3⟩
        · exact ih a' fr2 S2 (by omega) h3
        · exact ih a' fr2 S2 (by omega) h3
        · exact ⟨_, _, rfl, h3⟩
        · exact ⟨_, _, rfl, h3⟩
  exact fun {a fr S} h => main _ a fr S (Nat.le_refl _) h
/-- the end of a def -/
theorem run_rt {body : XB} {args : List D} {d e : D} {sn : List Nat} {m : Nat} (h : body { q with L := S.length } (args.map some ++ List.replicate (m - args.length) none) S = .ok (.rt d, fr1) S1) (hm : mv 6 S1 S.length [] d = some (e, sn)) : runD body m q args S = .ok e (S1.take S.length) := by
  unfold runD
  rw [h]
  dsimp only
  rw [hm]
theorem run_rtx {body : XB} {args : List D} {d e : D} {sn : List Nat} {m : Nat} {S1 : Store} (h : ∃ fr1, body { q with L := S.length } (args.map some ++ List.replicate (m - args.length) none) S = .ok (.rt d, fr1) S1) (hm : mv 6 S1 S.length [] d = some (e, sn)) : runD body m q args S = .ok e (S1.take S.length) := h.elim fun _ h => run_rt h hm
theorem run_nx {body : XB} {args : List D} {m : Nat} (h : body { q with L := S.length } (args.map some ++ List.replicate (m - args.length) none) S = .ok (.nx, fr1) S1) : runD body m q args S = .ok .non (S1.take S.length) := by
  unfold runD
  rw [h]
end
end Mi
namespace Mi
open PySem L2
section
variable {q : Q} {fr fr1 fr2 : Frame} {S S1 S2 : Store} {a b c e : XE} {ta tb : XT} {h hk : XA} {s t u : XB} {it : XI} {d x y : D} {n : Nat}
/-! ### statements -/
theorem q_nx (h1 : s q fr S = .ok (.nx, fr1) S1) : Z.seq s t q fr S = t q fr1 S1 := by
  rw [z_seq, h1]
  rfl
theorem q_rt (h1 : s q fr S = .ok (.rt d, fr1) S1) : Z.seq s t q fr S = .ok (.rt d, fr1) S1 := by
  rw [z_seq, h1]
  rfl
theorem q_bk (h1 : s q fr S = .ok (.bk, fr1) S1) : Z.seq s t q fr S = .ok (.bk, fr1) S1 := by
  rw [z_seq, h1]
  rfl
theorem q_ct (h1 : s q fr S = .ok (.ct, fr1) S1) : Z.seq s t q fr S = .ok (.ct, fr1) S1 := by
  rw [z_seq, h1]
  rfl
theorem s_setT {i : Nat} {m : Bool} {x : T} (h : a q fr S = .ok (.t x) S1) : Z.set i m a q fr S = .ok (.nx, fr.set i (some (.t x))) S1 := by
  rw [z_set, h]
  rfl
theorem s_setC {i j : Nat} {m : Bool} (h : a q fr S = .ok (.cell j) S1) : Z.set i m a q fr S = .ok (.nx, fr.set i (some (.cell j))) S1 := by
  rw [z_set, h]
  rfl
/-- a new list is frozen -/
theorem s_setF {i : Nat} {xs : List T} (h : a q fr S = .ok (.new xs) S1) : Z.set i false a q fr S = .ok (.nx, fr.set i (some (.t (.lst xs)))) S1 := by
  rw [z_set, h]
  rfl
/-- .. or laid into the store -/
theorem s_setM {i : Nat} {xs : List T} (h : a q fr S = .ok (.new xs) S1) : Z.set i true a q fr S = .ok (.nx, fr.set i (some (.cell S1.length))) (S1 ++ [.lst xs]) := by
  rw [z_set, h]
  rfl
theorem s_ret (h : a q fr S = .ok d S1) : Z.ret a q fr S = .ok (.rt d, fr) S1 := by
  rw [z_ret, h]
  rfl
theorem s_expr (h : a q fr S = .ok d S1) : Z.expr a q fr S = .ok (.nx, fr) S1 := by
  rw [z_expr, h]
  rfl
theorem s_ifT (h : ta q fr S = .ok true S1) : Z.ifs ta s t q fr S = s q fr S1 := by
  rw [z_ifs, h]
  rfl
theorem s_ifF (h : ta q fr S = .ok false S1) : Z.ifs ta s t q fr S = t q fr S1 := by
  rw [z_ifs, h]
  rfl
theorem s_if {k : Bool} (h : ta q fr S = .ok k S1) : Z.ifs ta s t q fr S = if k = true then s q fr S1 else t q fr S1 := by
  rw [z_ifs, h]
  rfl
theorem s_augI {i : Nat} {m j : Int} (h0 : fr[i]? = some (some (.t (.int m)))) (h : a q fr S = .ok (.t (.int j)) S1) : Z.aug i .add a q fr S = .ok (.nx, fr.set i (some (.int (m + j)))) S1 := by
  rw [z_aug h0, h]
  rfl
/-- xs[i] = x, a list of the store -/
theorem s_stiL {m : Nat} {xs : List T} {i : Int} {kk : Nat} {x : T} (h1 : c q fr S = .ok (.t x) S1) (h2 : a q fr S1 = .ok (.cell m) S1) (h3 : b q fr S1 = .ok (.t (.int i)) S1) (h4 : S1[m]? = some (.lst xs)) (h5 : ixN xs.length i = some kk) :
    Z.sti a b c q fr S = .ok (.nx, fr) (S1.set m (.lst (xs.set kk x))) := by
  rw [z_sti, h1, bnd_ok, h2, bnd_ok, h3, bnd_ok]
  have : Z.stiD (.cell m) (.t (.int i)) (.t x) S1 = some (S1.set m (.lst (xs.set kk x))) := by
    unfold Z.stiD
    dsimp only
    rw [h4]
    dsimp only [Z.arg]
    rw [h5]
  rw [this]
/-! ### values -/
theorem b_add {i j : Int} : bop .add (.t (.int i)) (.t (.int j)) S = .ok (.t (.int (i + j))) S := rfl
theorem b_sub {i j : Int} : bop .sub (.t (.int i)) (.t (.int j)) S = .ok (.t (.int (i - j))) S := rfl
theorem b_mul {i j : Int} (h : mulOk i j) : bop .mul (.t (.int i)) (.t (.int j)) S = .ok (.t (.int (i * j))) S := if_pos h
theorem b_mod {i j : Int} (h : 0 < j) : bop .mod (.t (.int i)) (.t (.int j)) S = .ok (.t (.int (i % j))) S := if_pos h
theorem b_fdiv {i j : Int} (h : divOk i j) : bop .fdiv (.t (.int i)) (.t (.int j)) S = .ok (.t (.int (i / j))) S := if_pos h
theorem b_pow {i j : Int} (h : powOk i j) : bop .pow (.t (.int i)) (.t (.int j)) S = .ok (.t (.int (i ^ j.toNat))) S := if_pos h
theorem b_modS {i j : Int} (h : 0 < j) : bop .mod (.t (.int i)) (.t (.int j)) S = .ok (.t (.int (i % j))) S := if_pos h
theorem b_mulR {i j : Int} (h : -2 ^ 64 < j ∧ j < 2 ^ 64) : bop .mul (.t (.int i)) (.t (.int j)) S = .ok (.t (.int (i * j))) S := if_pos (.inl (.inr h))
theorem b_mulL {i j : Int} (h : -2 ^ 64 < i ∧ i < 2 ^ 64) : bop .mul (.t (.int i)) (.t (.int j)) S = .ok (.t (.int (i * j))) S := if_pos (.inl (.inl h))
theorem b_fdivS {i j : Int} (h : 0 < j ∧ j < 1073741824) : bop .fdiv (.t (.int i)) (.t (.int j)) S = .ok (.t (.int (i / j))) S := if_pos (.inl h)
theorem b_powS {i j : Int} (h : 0 ≤ j ∧ j ≤ 1000000 ∧ -2 ^ 64 < i ∧ i < 2 ^ 64) : bop .pow (.t (.int i)) (.t (.int j)) S = .ok (.t (.int (i ^ j.toNat))) S := if_pos (.inl ⟨h.1, h.2.1, by omega⟩)
theorem c_eqI {i j : Int} : cmpD .eq (.t (.int i)) (.t (.int j)) S = .ok (decide (i = j)) S := rfl
theorem c_neI {i j : Int} : cmpD .ne (.t (.int i)) (.t (.int j)) S = .ok (!decide (i = j)) S := rfl
theorem c_lt {i j : Int} : cmpD .lt (.t (.int i)) (.t (.int j)) S = .ok (decide (i < j)) S := rfl
theorem c_le {i j : Int} : cmpD .le (.t (.int i)) (.t (.int j)) S = .ok (decide (i ≤ j)) S := rfl
theorem c_gt {i j : Int} : cmpD .gt (.t (.int i)) (.t (.int j)) S = .ok (decide (j < i)) S := rfl
theorem c_ge {i j : Int} : cmpD .ge (.t (.int i)) (.t (.int j)) S = .ok (decide (j ≤ i)) S := rfl
theorem tr_bl {k : Bool} : truD (.t (.bl k)) S = .ok k S := rfl
theorem tr_int {i : Int} : truD (.t (.int i)) S = .ok (decide (i ≠ 0)) S := rfl
theorem u_intI {i : Int} : f1D .int (.t (.int i)) S = .ok (.t (.int i)) S := rfl
theorem u_intB {k : Bool} : f1D .int (.t (.bl k)) S = .ok (.t (.int (b2n k))) S := rfl
/-- x[i], by the list of the things -/
theorem i_of {x : D} {ds : List D} {i : Int} {d : D} (h1 : sqd S x = some ds) (h2 : ((ixN ds.length i).bind fun k => ds[k]?) = some d) : ixD x (.t (.int i)) S = .ok d S := by
  unfold ixD
  dsimp only
  rw [h1]
  dsimp only
  rw [h2]
theorem rd_of {m : Nat} {xs : List T} (h : S[m]? = some (.lst xs)) : rd S m = some (.lst xs) := by
  unfold rd
  rw [h]
  rfl
theorem rd_lk {m : Nat} {o : Ob} (h : S[m]? = some (.lck o)) : rd S m = some o := by
  unfold rd
  rw [h]
  rfl
theorem sqd_c {m : Nat} {xs : List T} (h : rd S m = some (.lst xs)) : sqd S (.cell m) = some (xs.map D.t) := by
  unfold sqd
  dsimp only
  rw [h]
theorem sq_c {m : Nat} {xs : List T} (h : rd S m = some (.lst xs)) : sq S (.cell m) = some xs := by
  unfold sq
  dsimp only
  rw [h]
theorem i_cell {m : Nat} {xs : List T} {i : Int} {kk : Nat} {x : T} (h : rd S m = some (.lst xs)) (h1 : ixN xs.length i = some kk) (h2 : xs[kk]? = some x) : ixD (.cell m) (.t (.int i)) S = .ok (.t x) S := by
  refine i_of (sqd_c h) ?_
  rw [List.length_map, h1]
  show (xs.map D.t)[kk]? = _
  rw [List.getElem?_map, h2]
  rfl
/-! ### what is returned -/
def Rt (r : R (Fl × Frame)) (d : D) (S' : Store) : Prop := ∃ fr', r = .ok (.rt d, fr') S'
theorem rt_nx {S' : Store} (h1 : s q fr S = .ok (.nx, fr1) S1) (h2 : Rt (t q fr1 S1) d S') : Rt (Z.seq s t q fr S) d S' := by
  rw [q_nx h1]
  exact h2
theorem rt_st {S' : Store} (h1 : Rt (s q fr S) d S') : Rt (Z.seq s t q fr S) d S' := h1.elim fun _ h => ⟨_, q_rt h⟩
theorem rt_ret {S' : Store} (h : a q fr S = .ok d S') : Rt (Z.ret a q fr S) d S' := ⟨_, s_ret h⟩
theorem rt_ifT {S' : Store} (h : ta q fr S = .ok true S1) (h2 : Rt (s q fr S1) d S') : Rt (Z.ifs ta s t q fr S) d S' := by
  rw [s_ifT h]
  exact h2
theorem rt_ifF {S' : Store} (h : ta q fr S = .ok false S1) (h2 : Rt (t q fr S1) d S') : Rt (Z.ifs ta s t q fr S) d S' := by
  rw [s_ifF h]
  exact h2
theorem rt_of {r : R (Fl × Frame)} {S' : Store} {fr1 : Frame} (h : r = .ok (.rt d, fr1) S') : Rt r d S' := ⟨_, h⟩
theorem run_Rt {body : XB} {args : List D} {d e : D} {sn : List Nat} {m : Nat} {S1 : Store} (h : Rt (body { q with L := S.length } (args.map some ++ List.replicate (m - args.length) none) S) d S1) (hm : mv 6 S1 S.length [] d = some (e, sn)) : runD body m q args S = .ok e (S1.take S.length) := h.elim fun _ h => run_rt h hm
theorem mv_t {x : T} {L : Nat} : mv 6 S L [] (.t x) = some (.t x, []) := rfl
theorem mv_new {xs : List T} {L : Nat} : mv 6 S L [] (.new xs) = some (.new xs, []) := rfl
theorem mv_cell {xs : List T} {L m : Nat} (h : L ≤ m) (h1 : S[m]? = some (.lst xs)) : mv 6 S L [] (.cell m) = some (.new xs, [m]) := by
  unfold mv
  rw [if_neg (Nat.not_lt.mpr h), h1]
  rfl
/-! ### loops as statements -/
theorem s_forF {tg : Z.Tg} {items : List D} {fl : Fl} (hi : it q fr S = .ok (items, none) S1) (hl : Z.forL tg (fun fr2 S2 => Z.cutR false S1.length (s q fr2 S2)) items fr S1 = .ok (fl, fr2) S2) : Z.fors false tg it s q fr S = .ok (fl, fr2) S2 := by
  rw [z_fors, hi, bnd_ok]
  show unlR none (Z.forL tg (fun fr2 S2 => Z.cutR false S1.length (s q fr2 S2)) items fr S1) = _
  rw [hl]
  rfl
theorem cut_f {fl : Fl} {r : R (Fl × Frame)} {L : Nat} (h : r = .ok (fl, fr1) S1) : Z.cutR false L r = .ok (fl, fr1) S1 := by
  rw [h]
  cases fl <;> rfl
theorem i_range {e : XE} {n : Int} (h : e q fr S = .ok (.t (.int n)) S1) (hn : 0 ≤ n ∧ n ≤ 1000000) : Z.itR e q fr S = .ok ((List.range n.toNat).map (fun k : Nat => .int (k : Int)), none) S1 := by
  rw [z_itR, h, bnd_ok]
  exact if_pos ⟨by omega, by omega⟩
theorem range_at {n i : Nat} {d : D} (h : ((List.range n).map (fun k : Nat => D.int (k : Int)))[i]? = some d) : i < n ∧ d = .int (i : Int) := by
  rw [List.getElem?_map] at h
  by_cases hi : i < n
  · rw [List.getElem?_range hi] at h
    cases h
    exact ⟨hi, rfl⟩
  · rw [List.getElem?_eq_none (by rw [List.length_range]; omega)] at h
    cases h
end
end Mi

set_option Elab.async false
set_option linter.all false
set_option maxRecDepth 100000
set_option maxHeartbeats 4000000
/-! N19: == of what is the same; lists of whole numbers, of pairs -/
namespace Mi
open PySem L2
mutual
theorem eqv_self : ∀ {d : T}, d.ok = true → PyData.eqv d.py d.py = true
  | .non, _ => by
    unfold T.py
    simp [PyData.eqv]
  | .bl b, _ => by
    unfold T.py
    simp [PyData.eqv]
  | .int i, _ => by
    unfold T.py
    simp [PyData.eqv]
  | .str x, _ => by
    unfold T.py
    simp [PyData.eqv]
  | .lst ds, o => by
    unfold T.py
    unfold PyData.eqv
    unfold T.ok at o
    exact eqv_selfs o
  | .tup ds, o => by
    unfold T.py
    unfold PyData.eqv
    unfold T.ok at o
    exact eqv_selfs o
  | .dic _, o => by unfold T.ok at o; cases o
  | .fn _ _, o => by unfold T.ok at o; cases o
  | .set _, o => by unfold T.ok at o; cases o
  | .scr _, o => by unfold T.ok at o; cases o
  | .exc _ _ _ _, o => by unfold T.ok at o; cases o
theorem eqv_selfs : ∀ {ds : List T}, T.oks ds = true → PyData.eqvAll (T.pys ds) (T.pys ds) = true
  | [], _ => by
    unfold T.pys
    simp [PyData.eqvAll]
  | d :: ds, o => by
    unfold T.oks at o
    rw [Bool.and_eq_true] at o
    unfold T.pys
    unfold PyData.eqvAll
    rw [eqv_self o.1, eqv_selfs o.2]
    rfl
end
section
variable {S : Store} {x y : D} {a b : T}
def gen2 (x y : D) : Bool := match x, y with
  | .t (.int _), .t (.int _) => false
  | .t (.str _), .t (.str _) => false
  | _, _ => true
theorem eqD_gen (hx : tr 6 S x = some a) (hy : tr 6 S y = some b) (oa : okEq a = true) (ob : okEq b = true) (g : gen2 x y = true) : eqD x y S = .ok (a.eqv b) S := by
  unfold eqD
  split
  · cases g
  · cases g
  · rw [hx]
    dsimp only
    rw [hy]
    dsimp only
    rw [if_pos ⟨oa, ob⟩]
/-- the same on both sides -/
theorem eqD_same (hx : tr 6 S x = some a) (hy : tr 6 S y = some a) (o : okEq a = true) : eqD x y S = .ok true S := by
  have o2 := o
  unfold okEq at o2
  rw [Bool.and_eq_true] at o2
  have main : gen2 x y = true → eqD x y S = .ok true S := fun g => by
    rw [eqD_gen hx hy o o g]
    unfold T.eqv
    rw [eqv_self o2.1]
  cases hg : gen2 x y with
  | true => exact main hg
  | false =>
    unfold gen2 at hg
    split at hg
    · rename_i i j
      rw [show tr 6 S (.t (.int i)) = some (.int i) from rfl] at hx
      rw [show tr 6 S (.t (.int j)) = some (.int j) from rfl] at hy
      cases hx
      cases hy
      show R.ok (decide (i = i)) S = _
      rw [decide_eq_true rfl]
    · rename_i i j
      rw [show tr 6 S (.t (.str i)) = some (.str i) from rfl] at hx
      rw [show tr 6 S (.t (.str j)) = some (.str j) from rfl] at hy
      cases hx
      cases hy
      show R.ok (decide (i = i)) S = _
      rw [decide_eq_true rfl]
    · cases hg
theorem c_same (hx : tr 6 S x = some a) (hy : tr 6 S y = some a) (o : okEq a = true) : cmpD .eq x y S = .ok true S := eqD_same hx hy o
theorem c_sameN (hx : tr 6 S x = some a) (hy : tr 6 S y = some a) (o : okEq a = true) : cmpD .ne x y S = .ok false S := by
  show notR (eqD x y S) = _
  rw [eqD_same hx hy o]
  rfl
/-- whole numbers that are not too great -/
def Bd (ns : List Int) : Prop := ∀ n ∈ ns, n.natAbs < 2 ^ 1900
theorem okEq_ints {ns : List Int} (h : Bd ns) : okEq (dints ns) = true := by
  unfold okEq
  rw [ok_ints h, decide_eq_true (Nat.le_trans dp_ints (by decide))]
  rfl
theorem c_eqL {ns ms : List Int} (hx : tr 6 S x = some (dints ns)) (hy : tr 6 S y = some (dints ms)) (h1 : Bd ns) (h2 : Bd ms) : cmpD .eq x y S = .ok (decide (ns = ms)) S := by
  show eqD x y S = _
  have g : gen2 x y = true := by
    unfold gen2
    split
    · cases hx
    · cases hx
    · rfl
  rw [eqD_gen hx hy (okEq_ints h1) (okEq_ints h2) g, eqv_i]
theorem c_neL {ns ms : List Int} (hx : tr 6 S x = some (dints ns)) (hy : tr 6 S y = some (dints ms)) (h1 : Bd ns) (h2 : Bd ms) : cmpD .ne x y S = .ok (!decide (ns = ms)) S := by
  show notR (eqD x y S) = _
  rw [show eqD x y S = _ from c_eqL hx hy h1 h2]
  rfl
theorem c_eqB {p r : Bool} : cmpD .eq (.t (.bl p)) (.t (.bl r)) S = .ok (p == r) S := by
  cases p <;> cases r
  · exact c_same rfl rfl rfl
  · show eqD (.t (.bl false)) (.t (.bl true)) S = _
    rw [eqD_gen (a := .bl false) (b := .bl true) rfl rfl rfl rfl rfl]
    unfold T.eqv T.py
    simp [PyData.eqv]
  · show eqD (.t (.bl true)) (.t (.bl false)) S = _
    rw [eqD_gen (a := .bl true) (b := .bl false) rfl rfl rfl rfl rfl]
    unfold T.eqv T.py
    simp [PyData.eqv]
  · exact c_same rfl rfl rfl
theorem c_neB {p r : Bool} : cmpD .ne (.t (.bl p)) (.t (.bl r)) S = .ok (!(p == r)) S := by
  show notR (eqD (.t (.bl p)) (.t (.bl r)) S) = _
  rw [show eqD (.t (.bl p)) (.t (.bl r)) S = _ from c_eqB]
  rfl
def prT (q : Int × Int) : T := .tup [.int q.1, .int q.2]
theorem okEq_prs {ps : List (Int × Int)} (h : ∀ p ∈ ps, p.1.natAbs < 2 ^ 1900 ∧ p.2.natAbs < 2 ^ 1900) : okEq (.lst (ps.map prT)) = true := by
  have h1 : ∀ p ∈ ps, (prT p).ok = true := fun p hp => by
    unfold prT T.ok T.oks T.oks T.oks
    rw [ok_int (h p hp).1, ok_int (h p hp).2]
    rfl
  have h2 : ∀ p ∈ ps, (prT p).dp ≤ 1 := fun p hp => by
    unfold prT
    simp [T.dp, T.dps]
  unfold okEq
  have a : (T.lst (ps.map prT)).ok = true := by
    unfold T.ok
    rw [oks_all, List.all_eq_true]
    intro t ht
    obtain ⟨p, hp, rfl⟩ := List.mem_map.mp ht
    exact h1 p hp
  have b : (T.lst (ps.map prT)).dp ≤ 60 := by
    unfold T.dp
    have := dps_le (ds := ps.map prT) (n := 1) fun t ht => by
      obtain ⟨p, hp, rfl⟩ := List.mem_map.mp ht
      exact h2 p hp
    omega
  rw [a, decide_eq_true b]
  rfl
end
end Mi

set_option Elab.async false
set_option linter.all false
set_option maxRecDepth 100000
set_option maxHeartbeats 4000000
/-! N20: repr; loops that forget what their turns made -/
namespace Mi
open PySem L2
section
variable {S : Store} {x y : D} {a : T}
theorem allT_tr {S : Store} {f : Nat} : ∀ {ds : List D} {xs ys : List T}, allT ds = some xs → mapO (tr f S) ds = some ys → xs = ys
  | [], xs, ys, h1, h2 => by
    cases h1
    cases h2
    rfl
  | .t x :: ds, xs, ys, h1, h2 => by
    unfold allT at h1
    unfold mapO at h2
    rw [show tr f S (.t x) = some x by cases f <;> rfl] at h2
    dsimp only at h2
    cases q : allT ds with
    | none =>
      rw [q] at h1
      cases h1
    | some zs =>
      rw [q] at h1
      cases q2 : mapO (tr f S) ds with
      | none =>
        rw [q2] at h2
        cases h2
      | some ws =>
        rw [q2] at h2
        cases h1
        cases h2
        rw [allT_tr q q2]
  | .cell _ :: _, xs, ys, h1, h2 => by cases h1
  | .new _ :: _, xs, ys, h1, h2 => by cases h1
  | .newd _ :: _, xs, ys, h1, h2 => by cases h1
  | .newo _ :: _, xs, ys, h1, h2 => by cases h1
  | .tupo _ :: _, xs, ys, h1, h2 => by cases h1
theorem tr_mkL {ds : List D} {xs : List T} (h : mapO (tr 5 S) ds = some xs) : tr 6 S (Z.mkL ds) = some (.lst xs) := by
  unfold Z.mkL
  cases q : allT ds with
  | some zs =>
    dsimp only
    rw [allT_tr q h]
    rfl
  | none =>
    show (mapO (tr 5 S) ds).map T.lst = _
    rw [h]
    rfl
def rpOk (a : T) : Prop := a.ok = true ∧ a.wt ≤ okL ∧ a.dp ≤ 60
theorem u_repr (h : tr 6 S x = some a) (o : rpOk a) : f1D .repr x S = .ok (.t (.str a.show)) S := by
  show reprD x S = _
  unfold reprD
  rw [h]
  dsimp only
  exact if_pos o
theorem c_eqS {u v : Str} : cmpD .eq (.t (.str u)) (.t (.str v)) S = .ok (decide (u = v)) S := rfl
theorem c_neS {u v : Str} : cmpD .ne (.t (.str u)) (.t (.str v)) S = .ok (!decide (u = v)) S := rfl
theorem oks_cons {d : T} {ds : List T} (h : d.ok = true) (hs : T.oks ds = true) : T.oks (d :: ds) = true := by
  unfold T.oks
  rw [h, hs]
  rfl
theorem oks_nil : T.oks [] = true := by
  unfold T.oks
  rfl
theorem ok_lst {ds : List T} (h : T.oks ds = true) : (T.lst ds).ok = true := by
  unfold T.ok
  exact h
theorem ok_tup {ds : List T} (h : T.oks ds = true) : (T.tup ds).ok = true := by
  unfold T.ok
  exact h
/-- what may be shown, with a bound of its size and depth -/
def Rp (a : T) (n k : Nat) : Prop := a.ok = true ∧ a.wt ≤ n ∧ a.dp ≤ k
def Rps (xs : List T) (n k : Nat) : Prop := T.oks xs = true ∧ T.wts xs ≤ n ∧ T.dps xs ≤ k
theorem Rp.ok {a : T} {n k : Nat} (h : Rp a n k) (hn : n ≤ 16000000) (hk : k ≤ 60) : rpOk a := ⟨h.1, by have := h.2.1; have : (okL : Nat) = 16000000 := rfl; omega, by have := h.2.2; omega⟩
theorem Rp.eq {a : T} {n k : Nat} (h : Rp a n k) (hk : k ≤ 60) : okEq a = true := by
  unfold okEq
  rw [h.1, decide_eq_true (by have := h.2.2; omega)]
  rfl
theorem rps_nil {n k : Nat} : Rps [] n k := ⟨oks_nil, by unfold T.wts; omega, by unfold T.dps; omega⟩
theorem rps_cons {d : T} {ds : List T} {n m k : Nat} (h : Rp d n k) (hs : Rps ds m k) : Rps (d :: ds) (n + 2 + m) k := ⟨oks_cons h.1 hs.1, by unfold T.wts; have := h.2.1; have := hs.2.1; omega, by unfold T.dps; have := h.2.2; have := hs.2.2; omega⟩
theorem rp_lst {ds : List T} {n k : Nat} (h : Rps ds n k) : Rp (.lst ds) (n + 2) (k + 1) := ⟨ok_lst h.1, by unfold T.wt; have := h.2.1; omega, by unfold T.dp; have := h.2.2; omega⟩
theorem rp_tup {ds : List T} {n k : Nat} (h : Rps ds n k) : Rp (.tup ds) (n + 3) (k + 1) := ⟨ok_tup h.1, by unfold T.wt; have := h.2.1; omega, by unfold T.dp; have := h.2.2; omega⟩
theorem rp_ints {ns : List Int} {l k : Nat} (h : Bd ns) (hl : ns.length ≤ l) : Rp (dints ns) (l * 1923 + 2) (k + 1) := ⟨ok_ints h, Nat.le_trans wt_ints (by have := Nat.mul_le_mul_right 1923 hl; omega), Nat.le_trans dp_ints (by omega)⟩
theorem rp_int {i : Int} {k : Nat} (h : i.natAbs < 2 ^ 1900) : Rp (.int i) 1921 k := ⟨ok_int h, by unfold T.wt; exact Nat.le_refl _, by unfold T.dp; omega⟩
theorem rp_non {k : Nat} : Rp .non 4 k := ⟨by unfold T.ok; rfl, by unfold T.wt; exact Nat.le_refl _, by unfold T.dp; omega⟩
theorem rp_bl {b : Bool} {k : Nat} : Rp (.bl b) 5 k := ⟨by unfold T.ok; rfl, by unfold T.wt; exact Nat.le_refl _, by unfold T.dp; omega⟩
theorem Rp.mono {a : T} {n m k j : Nat} (h : Rp a n k) (hn : n ≤ m) (hk : k ≤ j) : Rp a m j := ⟨h.1, by have := h.2.1; omega, by have := h.2.2; omega⟩
end
/-! ### statements about what is shown -/
section
variable {q : Q} {fr : Frame} {S S1 S2 : Store} {e1 e2 : XE} {x y : D} {a : T}
theorem e_repr (h1 : e1 q fr S = .ok x S1) (h : tr 6 S1 x = some a) (o : rpOk a) : Z.f1 .repr e1 q fr S = .ok (.t (.str a.show)) S1 := by
  rw [z_f1, h1, bnd_ok, u_repr h o]
/-- repr(x) != repr(y), both the same -/
theorem tc_reprN (h1 : e1 q fr S = .ok x S1) (hx : tr 6 S1 x = some a) (h2 : e2 q fr S1 = .ok y S2) (hy : tr 6 S2 y = some a) (o : rpOk a) : Z.tcmp .ne (Z.f1 .repr e1) (Z.f1 .repr e2) q fr S = .ok false S2 := by
  rw [z_tcmp, e_repr h1 hx o, bnd_ok, e_repr h2 hy o, bnd_ok, c_neS, decide_eq_true rfl]
  rfl
/-- repr(x) != s -/
theorem tc_reprS {i : Nat} (h1 : e1 q fr S = .ok x S1) (hx : tr 6 S1 x = some a) (hi : fr[i]? = some (some (.t (.str a.show)))) (o : rpOk a) : Z.tcmp .ne (Z.f1 .repr e1) (Z.v i) q fr S = .ok false S1 := by
  rw [z_tcmp, e_repr h1 hx o, bnd_ok, z_v hi, bnd_ok, c_neS, decide_eq_true rfl]
  rfl
theorem e_reprS {i : Nat} (h1 : e1 q fr S = .ok x S1) (hx : tr 6 S1 x = some a) (hi : fr[i]? = some (some (.t (.str a.show)))) (o : rpOk a) : Z.cmp .eq (Z.f1 .repr e1) (Z.v i) q fr S = .ok (.bl true) S1 := by
  rw [z_cmp, e_repr h1 hx o, bnd_ok, z_v hi, bnd_ok, c_eqS, decide_eq_true rfl, bnd_ok]
theorem e_reprE (h1 : e1 q fr S = .ok x S1) (hx : tr 6 S1 x = some a) (h2 : e2 q fr S1 = .ok y S2) (hy : tr 6 S2 y = some a) (o : rpOk a) : Z.cmp .eq (Z.f1 .repr e1) (Z.f1 .repr e2) q fr S = .ok (.bl true) S2 := by
  rw [z_cmp, e_repr h1 hx o, bnd_ok, e_repr h2 hy o, bnd_ok, c_eqS, decide_eq_true rfl, bnd_ok]
/-- [x, y] -/
theorem e_lst2 (h1 : e1 q fr S = .ok x S1) (h2 : e2 q fr S1 = .ok y S2) : Z.lst (Z.cons e1 (Z.cons e2 Z.nil)) q fr S = .ok (Z.mkL [x, y]) S2 := by
  rw [z_lst, z_cons, h1, bnd_ok, z_cons, h2, bnd_ok, z_nil, bnd_ok, bnd_ok, bnd_ok]
theorem e_lst1 (h1 : e1 q fr S = .ok x S1) : Z.lst (Z.cons e1 Z.nil) q fr S = .ok (Z.mkL [x]) S1 := by
  rw [z_lst, z_cons, h1, bnd_ok, z_nil, bnd_ok, bnd_ok]
theorem e_lst3 {e3 : XE} {z : D} {S3 : Store} (h1 : e1 q fr S = .ok x S1) (h2 : e2 q fr S1 = .ok y S2) (h3 : e3 q fr S2 = .ok z S3) : Z.lst (Z.cons e1 (Z.cons e2 (Z.cons e3 Z.nil))) q fr S = .ok (Z.mkL [x, y, z]) S3 := by
  rw [z_lst, z_cons, h1, bnd_ok, z_cons, h2, bnd_ok, z_cons, h3, bnd_ok, z_nil, bnd_ok, bnd_ok, bnd_ok, bnd_ok]
theorem tr_L2 {a b : T} (h1 : tr 5 S x = some a) (h2 : tr 5 S y = some b) : tr 6 S (Z.mkL [x, y]) = some (.lst [a, b]) := tr_mkL (by
  unfold mapO
  rw [h1]
  dsimp only
  unfold mapO
  rw [h2]
  rfl)
theorem tr_L3 {z : D} {a b c : T} (h1 : tr 5 S x = some a) (h2 : tr 5 S y = some b) (h3 : tr 5 S z = some c) : tr 6 S (Z.mkL [x, y, z]) = some (.lst [a, b, c]) := tr_mkL (by
  unfold mapO
  rw [h1]
  dsimp only
  unfold mapO
  rw [h2]
  dsimp only
  unfold mapO
  rw [h3]
  rfl)
theorem qL_call {c : Bool} : (Z.qL c q S).call = q.call := by cases c <;> rfl
theorem qL_fa {c : Bool} : (Z.qL c q S).fa = q.fa := by cases c <;> rfl
end
/-! ### loops that forget -/
section
variable {q : Q} {fr fr1 fr2 : Frame} {S S1 S2 : Store} {s : XB} {it : XI}
theorem cut_t {fl : Fl} {r : R (Fl × Frame)} {L : Nat} (h : r = .ok (fl, fr1) S1) (hf : fl = .nx ∨ fl = .ct) : Z.cutR true L r = .ok (fl, Z.hideF L fr1) (S1.take L) := by
  rw [h]
  rcases hf with rfl | rfl <;> rfl
theorem s_forC {tg : Z.Tg} {items : List D} {fl : Fl} {c : Bool} (hi : it q fr S = .ok (items, none) S1) (hl : Z.forL tg (fun fr2 S2 => Z.cutR c S1.length (s (Z.qL c q S1) fr2 S2)) items fr S1 = .ok (fl, fr2) S2) : Z.fors c tg it s q fr S = .ok (fl, fr2) S2 := by
  rw [z_fors, hi, bnd_ok]
  show unlR none (Z.forL tg (fun fr2 S2 => Z.cutR c S1.length (s (Z.qL c q S1) fr2 S2)) items fr S1) = _
  rw [hl]
  rfl
end
end Mi

set_option Elab.async false
set_option linter.all false
set_option maxRecDepth 100000
set_option maxHeartbeats 4000000
/-! N21: the parts of laws that are the same for all: draws, lists, runs, what stays (from tp/, split by split.py) -/
namespace Lw
open PySem PySem.Spec PyProof.Rows L2 Mi
structure Dr where
  c : Int
  k : Int
  b : Bool
def Dr.ts (d : Dr) : List T := [.int d.c, .int d.k, .bl d.b]
def Dr.nx (d : Dr) : Dr := ⟨if d.b = true then d.c / 10 ^ 6 else d.c, d.k + 1, d.b⟩
def mixI (c k : Int) : Int :=
  let n1 := ((c % 1000003 + k * k * 7919 + k) * 48271) % 2147483629
  let n2 := (n1 * n1) % 2147483587
  (n2 * (n2 + 2)) % 2147483579 / 7
def Dr.val (d : Dr) : Int := if d.b = true then d.c % 10 ^ 6 else mixI d.c (d.k + 1)
def BIG : Int := (((10 : Int) ^ (60 : Int).toNat) ^ (60 : Int).toNat) ^ (4 : Int).toNat
def drOf (c : Int) : Dr := ⟨c % BIG, 0, decide ((10 : Int) ^ (18 : Int).toNat ≤ c)⟩
theorem pw1 : powOk 10 60 := .inr ⟨by decide, by decide +kernel⟩
theorem pw2 : powOk ((10 : Int) ^ (60 : Int).toNat) 60 := .inr ⟨by decide, by decide +kernel⟩
theorem pw3 : powOk (((10 : Int) ^ (60 : Int).toNat) ^ (60 : Int).toNat) 4 := .inr ⟨by decide, by decide +kernel⟩
theorem big_pos : 0 < BIG := by decide +kernel
theorem pw4 : powOk 10 18 := .inl (by decide +kernel)
theorem drOf_k {c : Int} : (drOf c).k = 0 := rfl
/-- the draws stand in m, what is made since stands behind -/
def St (S : Store) (m : Nat) (d : Dr) (R : Store) : Store := S.set m (.lst d.ts) ++ R
section
variable {S R : Store} {m : Nat} {d d2 : Dr}
theorem st_get (hm : m < S.length) : (St S m d R)[m]? = some (.lst d.ts) := by
  unfold St
  rw [List.getElem?_append_left (by rw [List.length_set]; exact hm), List.getElem?_set_self hm]
theorem st_set (hm : m < S.length) : (St S m d R).set m (.lst d2.ts) = St S m d2 R := by
  unfold St
  rw [List.set_append_left _ _ (by rw [List.length_set]; exact hm), List.set_set]
theorem st_top {j : Nat} : (St S m d R)[S.length + j]? = R[j]? := by
  unfold St
  rw [List.getElem?_append_right (by rw [List.length_set]; omega), List.length_set, Nat.add_sub_cancel_left]
theorem st_top0 : (St S m d R)[S.length]? = R[0]? := st_top (j := 0)
theorem st_setT {j : Nat} {o : Ob} : (St S m d R).set (S.length + j) o = St S m d (R.set j o) := by
  unfold St
  rw [List.set_append_right _ _ (by rw [List.length_set]; omega), List.length_set, Nat.add_sub_cancel_left]
theorem st_setT0 {o : Ob} : (St S m d R).set S.length o = St S m d (R.set 0 o) := st_setT (j := 0)
theorem st_len : (St S m d R).length = S.length + R.length := by
  unfold St
  rw [List.length_append, List.length_set]
theorem st_app {o : List Ob} : St S m d R ++ o = St S m d (R ++ o) := by
  unfold St
  rw [List.append_assoc]
theorem st_take : (St S m d R).take S.length = S.set m (.lst d.ts) := by
  unfold St
  rw [List.take_append_of_le_length (by rw [List.length_set]; exact Nat.le_refl _), List.take_of_length_le (by rw [List.length_set]; exact Nat.le_refl _)]
theorem st_nil : St S m d [] = S.set m (.lst d.ts) := by
  unfold St
  rw [List.append_nil]
end
/-- xs.append(e) -/
theorem s_app {q : Q} {fr : Mi.Frame} {S S1 : Store} {a : XE} {h : XA} {n : Nat} {xs ys : List T} {x : T} (h1 : a q fr S = .ok (.cell n) S) (h2 : S[n]? = some (.lst ys)) (h3 : h q fr S = .ok [.t x] S1) (h4 : S1[n]? = some (.lst xs)) (hl : xs.length < okL) :
    Z.expr (Z.me .append a h) q fr S = .ok (.nx, fr) (S1.set n (.lst (xs ++ [x]))) := by
  refine s_expr (d := .non) ?_
  rw [z_me, h1, bnd_ok]
  have ht : tyD S (.cell n) = some "list" := by
    unfold tyD
    dsimp only
    rw [rd_of h2]
  rw [if_pos ht, h3, bnd_ok]
  show Z.appD (.cell n) (.t x) S1 = _
  unfold Z.appD
  dsimp only
  rw [h4]
  dsimp only [Z.arg]
  rw [if_pos hl]
theorem st_of {S : Store} {m : Nat} {d : Dr} (h : S[m]? = some (.lst d.ts)) : S = St S m d [] := by
  rw [st_nil]
  have hm := (List.getElem?_eq_some_iff.mp h).1
  have e := (List.getElem?_eq_some_iff.mp h).2
  rw [← e, List.set_getElem_self]
section
variable {S : Store} {a b : List T} {x : T}
theorem b_catTN (h : a.length + b.length ≤ okL) : bop .add (.t (.lst a)) (.new b) S = .ok (.new (a ++ b)) S := if_pos h
theorem b_catTT (h : a.length + b.length ≤ okL) : bop .add (.t (.lst a)) (.t (.lst b)) S = .ok (.new (a ++ b)) S := if_pos h
theorem b_catNN (h : a.length + b.length ≤ okL) : bop .add (.new a) (.new b) S = .ok (.new (a ++ b)) S := if_pos h
theorem b_catNT (h : a.length + b.length ≤ okL) : bop .add (.new a) (.t (.lst b)) S = .ok (.new (a ++ b)) S := if_pos h
theorem b_repN {k : Int} (h : 0 ≤ k ∧ k ≤ 1000000) : bop .mul (.new [x]) (.t (.int k)) S = .ok (.new (List.replicate k.toNat x)) S := by
  have e : (List.replicate k.toNat [x]).flatten = List.replicate k.toNat x := List.flatten_replicate_singleton
  rw [← e]
  refine if_pos ⟨by omega, by omega, ?_⟩
  have : (okL : Nat) = 16000000 := rfl
  rw [List.length_singleton]
  omega
theorem cut_take {xs : List T} {j : Int} (h : 0 ≤ j) : cut xs none (some j) = xs.take j.toNat := by
  unfold cut
  rw [show HT.sIx xs.length 0 none = 0 from rfl, show HT.sIx xs.length xs.length (some j) = min j.toNat xs.length from if_neg (by omega), List.drop_zero, Nat.sub_zero]
  by_cases h2 : j.toNat ≤ xs.length
  · rw [Nat.min_eq_left h2]
  · rw [Nat.min_eq_right (by omega), List.take_of_length_le (Nat.le_refl _), List.take_of_length_le (by omega)]
theorem cut_drop {xs : List T} {j : Int} (h : 0 ≤ j) : cut xs (some j) none = xs.drop j.toNat := by
  unfold cut
  rw [show HT.sIx xs.length xs.length none = xs.length from rfl, show HT.sIx xs.length 0 (some j) = min j.toNat xs.length from if_neg (by omega)]
  by_cases h2 : j.toNat ≤ xs.length
  · rw [Nat.min_eq_left h2, List.take_of_length_le (by rw [List.length_drop]; omega)]
  · rw [Nat.min_eq_right (by omega), Nat.sub_self, List.take_zero, List.drop_of_length_le (by omega)]
theorem all_flat : ∀ ns : List Int, (ns.map T.int).all T.flat = true
  | [] => rfl
  | n :: ns => by
    rw [List.map_cons, List.all_cons, all_flat ns]
    rfl
theorem any_eqI {v : Int} : ∀ ns : List Int, ((ns.map T.int).any fun d => d.eqF (.int v)) = ns.contains v
  | [] => rfl
  | n :: ns => by
    rw [List.map_cons, List.any_cons, any_eqI ns, List.contains_cons]
    congr 1
    show decide (n = v) = (v == n)
    by_cases h : n = v
    · subst h
      rw [decide_eq_true rfl, beq_self_eq_true]
    · rw [decide_eq_false h, beq_eq_false_iff_ne.mpr (Ne.symm h)]
theorem c_inI {v : Int} {y : D} {ns : List Int} (h : sq S y = some (ns.map T.int)) : cmpD .in_ (.t (.int v)) y S = .ok (ns.contains v) S := by
  show inD (.t (.int v)) y S = _
  unfold inD
  dsimp only
  rw [h]
  dsimp only
  rw [if_pos ⟨rfl, all_flat ns⟩, any_eqI]
theorem c_ninI {v : Int} {y : D} {ns : List Int} (h : sq S y = some (ns.map T.int)) : cmpD .nin (.t (.int v)) y S = .ok (!ns.contains v) S := by
  have := c_inI (S := S) (v := v) h
  show notR (inD (.t (.int v)) y S) = _
  rw [show inD (.t (.int v)) y S = .ok (ns.contains v) S from this]
  rfl
/-- [c, ..][i], whole numbers -/
theorem ix_new {xs : List T} {i : Int} {kk : Nat} {x : T} (h1 : ixN xs.length i = some kk) (h2 : xs[kk]? = some x) : ixD (.new xs) (.t (.int i)) S = .ok (.t x) S := by
  refine i_of (ds := xs.map D.t) rfl ?_
  rw [List.length_map, h1]
  show (xs.map D.t)[kk]? = _
  rw [List.getElem?_map, h2]
  rfl
end
/-- a list of whole numbers: frozen, or in the store -/
inductive IsL (S : Store) : D → List Int → Prop
  | t {ns : List Int} : IsL S (.t (.lst (ns.map T.int))) ns
  | c {n : Nat} {ns : List Int} : S[n]? = some (.lst (ns.map T.int)) → IsL S (.cell n) ns
  | k {n : Nat} {ns : List Int} : S[n]? = some (.lck (.lst (ns.map T.int))) → IsL S (.cell n) ns
section
variable {S : Store} {x : D} {ns : List Int}
theorem IsL.sq (h : IsL S x ns) : sq S x = some (ns.map T.int) := by
  cases h with
  | t => rfl
  | c h => exact sq_c (rd_of h)
  | k h => exact sq_c (rd_lk h)
theorem IsL.sqd (h : IsL S x ns) : sqd S x = some ((ns.map T.int).map D.t) := by
  cases h with
  | t => rfl
  | c h => exact sqd_c (rd_of h)
  | k h => exact sqd_c (rd_lk h)
theorem IsL.len (h : IsL S x ns) : f1D .len x S = .ok (.int (ns.length : Nat)) S := by
  show lenD x S = _
  unfold lenD
  rw [h.sqd]
  dsimp only
  rw [List.length_map, List.length_map]
theorem IsL.isi (h : IsL S x ns) : f1D (.isi "list") x S = .ok (.bl true) S := by
  show isiD "list" x S = _
  unfold isiD
  have : tyD S x = some "list" := by
    cases h with
    | t => rfl
    | c h =>
      unfold tyD
      dsimp only
      rw [rd_of h]
    | k h =>
      unfold tyD
      dsimp only
      rw [rd_lk h]
  rw [this]
  rfl
theorem IsL.slot (h : IsL S x ns) : inSlot x = true := by cases h <;> rfl
theorem IsL.arg (h : IsL S x ns) : Z.arg x = some x := by cases h <;> rfl
theorem IsL.app {R : Store} (h : IsL S x ns) : IsL (S ++ R) x ns := by
  cases h with
  | t => exact .t
  | c h => exact .c (by rw [List.getElem?_append_left (List.getElem?_eq_some_iff.mp h).1]; exact h)
  | k h => exact .k (by rw [List.getElem?_append_left (List.getElem?_eq_some_iff.mp h).1]; exact h)
/-- it may be walked -/
theorem IsL.walk (h : IsL S x ns) : ∃ lk : Option Nat, (∀ (q : Q) (fr : Mi.Frame) (e : XE), e q fr S = .ok x S → Z.itEn e q fr S = .ok ((enumT (ns.map T.int)).map D.t, lk) S ∧ Z.itE e q fr S = .ok ((ns.map T.int).map D.t, lk) S) ∧
    (lckS S lk).length = S.length ∧ (∀ y ms, IsL S y ms → IsL (lckS S lk) y ms) ∧ ∀ R, unlS (lckS S lk ++ R) lk = S ++ R := by
  cases h with
  | t =>
    refine ⟨none, fun q fr e he => ⟨?_, ?_⟩, rfl, fun y ms h => h, fun R => rfl⟩
    · unfold Z.itEn
      rw [he]
      rfl
    · unfold Z.itE
      rw [he]
      rfl
  | @k n ns h =>
    refine ⟨none, fun q fr e he => ⟨?_, ?_⟩, rfl, fun y ms h => h, fun R => rfl⟩
    · unfold Z.itEn
      rw [he, bnd_ok]
      dsimp only
      rw [h]
    · unfold Z.itE
      rw [he, bnd_ok]
      dsimp only
      rw [h]
  | @c n ns h =>
    have hn := (List.getElem?_eq_some_iff.mp h).1
    have el := lck_eq h (.inl ⟨_, rfl⟩)
    refine ⟨some n, fun q fr e he => ⟨?_, ?_⟩, lck_len, fun y ms hy => ?_, fun R => ?_⟩
    · unfold Z.itEn
      rw [he, bnd_ok]
      dsimp only
      rw [h]
    · unfold Z.itE
      rw [he, bnd_ok]
      dsimp only
      rw [h]
    · rw [el]
      cases hy with
      | t => exact .t
      | @c j ms hj =>
        by_cases e : n = j
        · subst e
          rw [h] at hj
          have e2 := Ob.lst.inj (Option.some.inj hj)
          exact .k (by rw [List.getElem?_set_self hn, e2])
        · exact .c (by rw [List.getElem?_set_ne e]; exact hj)
      | @k j ms hj =>
        have e : n ≠ j := fun z => by
          subst z
          rw [h] at hj
          cases hj
        exact .k (by rw [List.getElem?_set_ne e]; exact hj)
    · rw [el]
      have e1 : (S.set n (.lck (.lst (ns.map T.int))) ++ R)[n]? = some (.lck (.lst (ns.map T.int))) := by
        rw [List.getElem?_append_left (by rw [List.length_set]; exact hn), List.getElem?_set_self hn]
      unfold unlS
      dsimp only
      rw [e1]
      dsimp only
      rw [List.set_append_left _ _ (by rw [List.length_set]; exact hn), List.set_set]
      have e2 := (List.getElem?_eq_some_iff.mp h).2
      rw [← e2, List.set_getElem_self]
end
theorem s_forLk {q : Q} {fr fr2 : Mi.Frame} {S R : Store} {it : XI} {s : XB} {tg : Z.Tg} {items : List D} {lk : Option Nat} {fl : Fl} (hi : it q fr S = .ok (items, lk) S) (hl : Z.forL tg (fun fr2 S2 => Z.cutR false (lckS S lk).length (s q fr2 S2)) items fr (lckS S lk) = .ok (fl, fr2) (lckS S lk ++ R)) (hu : unlS (lckS S lk ++ R) lk = S ++ R) :
    Z.fors false tg it s q fr S = .ok (fl, fr2) (S ++ R) := by
  rw [z_fors, hi, bnd_ok]
  show unlR lk (Z.forL tg (fun fr2 S2 => Z.cutR false (lckS S lk).length (s q fr2 S2)) items fr (lckS S lk)) = _
  rw [hl]
  show Mi.R.ok (fl, fr2) (unlS (lckS S lk ++ R) lk) = _
  rw [hu]
theorem enum_at {ns : List Int} {i : Nat} {d : D} (h : ((enumT (ns.map T.int)).map D.t)[i]? = some d) : ∃ v, ns[i]? = some v ∧ d = .t (.tup [.int (i : Nat), .int v]) := by
  rw [List.getElem?_map, enumT_get, List.getElem?_map] at h
  cases q : ns[i]? with
  | none =>
    rw [q] at h
    cases h
  | some v =>
    rw [q] at h
    cases h
    exact ⟨v, rfl, rfl⟩
theorem enum_len {ns : List Int} : ((enumT (ns.map T.int)).map D.t).length = ns.length := by
  rw [List.length_map, enumT_len, List.length_map]
theorem not_take {ns : List Int} {i : Nat} {v : Int} (nd : ns.Nodup) (h : ns[i]? = some v) : (ns.take i).contains v = false := by
  rw [Bool.eq_false_iff]
  intro z
  have hm := List.contains_iff_mem.mp z
  obtain ⟨j, hj, ej⟩ := List.getElem_of_mem hm
  rw [List.length_take] at hj
  rw [List.getElem_take] at ej
  obtain ⟨hi, ei⟩ := List.getElem?_eq_some_iff.mp h
  have := List.pairwise_iff_getElem.mp nd j i (by omega) hi (by omega)
  exact this (ej.trans ei.symm)
theorem q_ifF {q : Q} {fr : Mi.Frame} {S S1 : Store} {ta : XT} {s t : XB} (h : ta q fr S = .ok false S1) : Z.seq (Z.ifs ta s Z.skip) t q fr S = t q fr S1 := q_nx ((s_ifF h).trans rfl)
theorem rt_ifF0 {q : Q} {fr : Mi.Frame} {S S1 S' : Store} {ta : XT} {s t : XB} {d : D} (h : ta q fr S = .ok false S1) (h2 : Rt (t q fr S1) d S') : Rt (Z.seq (Z.ifs ta s Z.skip) t q fr S) d S' := by
  rw [q_ifF h]
  exact h2
theorem callA_id {q : Q} {n : Nat} {ds : List D} {ar : List (Sum Nat T)} {S : Store} {es zs : List D} (h1 : mapO Z.arg ds = some es) (h2 : Z.arr es ar = some zs) : Z.callA q n ds ar S = q.call n zs S := by
  unfold Z.callA
  rw [h1]
  dsimp only
  rw [h2]
theorem mapO1 {a b : D} (h : Z.arg a = some b) : mapO Z.arg [a] = some [b] := by
  unfold mapO
  rw [h]
  rfl
theorem mapO2 {a b c d : D} (h : Z.arg a = some b) (h2 : Z.arg c = some d) : mapO Z.arg [a, c] = some [b, d] := by
  unfold mapO
  rw [h, mapO1 h2]
  rfl
theorem mapO3 {a b c d e f : D} (h : Z.arg a = some b) (h2 : Z.arg c = some d) (h3 : Z.arg e = some f) : mapO Z.arg [a, c, e] = some [b, d, f] := by
  unfold mapO
  rw [h, mapO2 h2 h3]
  rfl
/-- f(x), f(x, y), f(x, y, z) -/
theorem e_call1 {q : Q} {n : Nat} {fr : Mi.Frame} {S S1 : Store} {a : XE} {x x' : D} (h : a q fr S = .ok x S1) (hx : Z.arg x = some x') : Z.call n (Z.cons a Z.nil) [.inl 0] q fr S = q.call n [x'] S1 := by
  rw [z_call, z_cons, h, bnd_ok, z_nil, bnd_ok, bnd_ok]
  exact callA_id (mapO1 hx) rfl
theorem e_call2 {q : Q} {n : Nat} {fr : Mi.Frame} {S S1 S2 : Store} {a b : XE} {x y x' y' : D} (h : a q fr S = .ok x S1) (h2 : b q fr S1 = .ok y S2) (hx : Z.arg x = some x') (hy : Z.arg y = some y') : Z.call n (Z.cons a (Z.cons b Z.nil)) [.inl 0, .inl 1] q fr S = q.call n [x', y'] S2 := by
  rw [z_call, z_cons, h, bnd_ok, z_cons, h2, bnd_ok, z_nil, bnd_ok, bnd_ok, bnd_ok]
  exact callA_id (mapO2 hx hy) rfl
theorem e_call3 {q : Q} {n : Nat} {fr : Mi.Frame} {S S1 S2 S3 : Store} {a b c : XE} {x y z x' y' z' : D} (h : a q fr S = .ok x S1) (h2 : b q fr S1 = .ok y S2) (h3 : c q fr S2 = .ok z S3) (hx : Z.arg x = some x') (hy : Z.arg y = some y') (hz : Z.arg z = some z') : Z.call n (Z.cons a (Z.cons b (Z.cons c Z.nil))) [.inl 0, .inl 1, .inl 2] q fr S = q.call n [x', y', z'] S3 := by
  rw [z_call, z_cons, h, bnd_ok, z_cons, h2, bnd_ok, z_cons, h3, bnd_ok, z_nil, bnd_ok, bnd_ok, bnd_ok, bnd_ok]
  exact callA_id (mapO3 hx hy hz) rfl
theorem ixN_at {n i : Nat} (h : i < n) : ixN n ((i : Nat) : Int) = some i := by
  unfold ixN
  rw [if_pos (by omega), if_pos (by omega), Int.toNat_natCast]
theorem map_erase {f : Int → T} : ∀ (xs : List Int) (i : Nat), (xs.map f).eraseIdx i = (xs.eraseIdx i).map f
  | [], _ => rfl
  | _ :: _, 0 => rfl
  | x :: xs, i + 1 => by
    rw [List.map_cons, List.eraseIdx_cons_succ, List.eraseIdx_cons_succ, List.map_cons, map_erase xs i]
/-- left_by, place by place -/
def lb (g : List Int → Nat → List Int) (ms : List Int) : Nat → Nat → List Int → List Int
  | 0, _, xs => xs
  | f + 1, p, xs => match xs[p]? with
    | some v => lb g ms f (p + 1) (if ms.contains v = true then g xs p else xs)
    | none => xs
theorem lb_more {g : List Int → Nat → List Int} (hg : ∀ xs p, (g xs p).length ≤ xs.length) {ms : List Int} : ∀ {f : Nat} {p : Nat} {xs : List Int}, xs.length ≤ p + f → lb g ms (f + 1) p xs = lb g ms f p xs
  | 0, p, xs, h => by
    unfold lb
    rw [List.getElem?_eq_none (by omega)]
  | f + 1, p, xs, h => by
    show (match xs[p]? with
      | some v => lb g ms (f + 1) (p + 1) (if ms.contains v = true then g xs p else xs)
      | none => xs) = match xs[p]? with
      | some v => lb g ms f (p + 1) (if ms.contains v = true then g xs p else xs)
      | none => xs
    cases xs[p]? with
    | none => rfl
    | some v =>
      dsimp only
      refine lb_more hg ?_
      split
      · have := hg xs p
        omega
      · omega
/-- what a dropping pass leaves -/
def pass (ms xs : List Int) : List Int := lb (fun zs i => zs.eraseIdx i) ms xs.length 0 xs
theorem erase_le (xs : List Int) (p : Nat) : (xs.eraseIdx p).length ≤ xs.length := by
  rw [List.length_eraseIdx]
  split <;> omega
theorem lb_le {g : List Int → Nat → List Int} (hg : ∀ xs p, (g xs p).length ≤ xs.length) {ms : List Int} : ∀ (f p : Nat) (xs : List Int), (lb g ms f p xs).length ≤ xs.length
  | 0, _, _ => Nat.le_refl _
  | f + 1, p, xs => by
    unfold lb
    split
    · rename_i v _
      have h2 := hg xs p
      refine Nat.le_trans (lb_le hg f (p + 1) _) ?_
      split <;> omega
    · exact Nat.le_refl _
theorem pass_le (ms xs : List Int) : (pass ms xs).length ≤ xs.length := lb_le erase_le _ _ _
def passN (ms : List Int) : Nat → List Int → List Int
  | 0, xs => xs
  | n + 1, xs => pass ms (passN ms n xs)
theorem passN_le (ms : List Int) : ∀ (n : Nat) (xs : List Int), (passN ms n xs).length ≤ xs.length
  | 0, _ => Nat.le_refl _
  | n + 1, xs => Nat.le_trans (pass_le ms _) (passN_le ms n xs)
/-- what stays: of each run each step-th value, all others -/
def stays (ms : List Int) (step : Int) : Int → List Int → List Int
  | _, [] => []
  | m, v :: r => (if (if ms.contains v = true then m + 1 else 0) % step = 0 then [v] else []) ++ stays ms step (if ms.contains v = true then m + 1 else 0) r
theorem list_at {ns : List Int} {i : Nat} {d : D} (h : ((ns.map T.int).map D.t)[i]? = some d) : ∃ v, ns[i]? = some v ∧ d = .t (.int v) := by
  rw [List.getElem?_map, List.getElem?_map] at h
  cases q : ns[i]? with
  | none =>
    rw [q] at h
    cases h
  | some v =>
    rw [q] at h
    cases h
    exact ⟨v, rfl, rfl⟩
/-! a pass leaves each second value of a run -/
def lv (ms : List Int) : List Int → List Int
  | [] => []
  | [v] => if ms.contains v = true then [] else [v]
  | v :: w :: r => if ms.contains v = true then w :: lv ms r else v :: lv ms (w :: r)
theorem lb_at {ms : List Int} : ∀ (f : Nat) (pre suf : List Int), suf.length ≤ f → lb (fun zs i => zs.eraseIdx i) ms f pre.length (pre ++ suf) = pre ++ lv ms suf
  | 0, pre, [], _ => by
    unfold lb lv
    rfl
  | f + 1, pre, [], _ => by
    unfold lb lv
    rw [List.append_nil, List.getElem?_eq_none (Nat.le_refl _)]
  | f + 1, pre, [v], h => by
    unfold lb lv
    rw [List.getElem?_append_right (Nat.le_refl _), Nat.sub_self]
    show lb _ ms f (pre.length + 1) (if ms.contains v = true then (pre ++ [v]).eraseIdx pre.length else pre ++ [v]) = _
    have e : (pre ++ [v]).eraseIdx pre.length = pre := by
      rw [List.eraseIdx_append_of_length_le (Nat.le_refl _), Nat.sub_self]
      exact List.append_nil _
    rw [e]
    split
    · cases f with
      | zero => exact (List.append_nil _).symm
      | succ f =>
        unfold lb
        rw [List.getElem?_eq_none (by omega)]
        exact (List.append_nil _).symm
    · have := lb_at (ms := ms) f (pre ++ [v]) [] (Nat.zero_le _)
      rw [List.append_nil, List.length_append, List.length_singleton] at this
      rw [this]
      unfold lv
      rw [List.append_nil]
  | f + 1, pre, v :: w :: r, h => by
    unfold lb
    rw [List.getElem?_append_right (Nat.le_refl _), Nat.sub_self]
    show lb _ ms f (pre.length + 1) (if ms.contains v = true then (pre ++ v :: w :: r).eraseIdx pre.length else pre ++ v :: w :: r) = pre ++ (if ms.contains v = true then w :: lv ms r else v :: lv ms (w :: r))
    have e : (pre ++ v :: w :: r).eraseIdx pre.length = (pre ++ [w]) ++ r := by
      rw [List.eraseIdx_append_of_length_le (Nat.le_refl _), Nat.sub_self, List.append_assoc]
      rfl
    have l : ∀ u : Int, pre.length + 1 = (pre ++ [u]).length := fun u => by
      rw [List.length_append]
      rfl
    rw [e]
    split
    · rw [l w, lb_at f (pre ++ [w]) r (by simp only [List.length_cons] at h; omega), List.append_assoc]
      rfl
    · rw [l v, show pre ++ v :: w :: r = (pre ++ [v]) ++ (w :: r) by rw [List.append_assoc]; rfl, lb_at f (pre ++ [v]) (w :: r) (by simp only [List.length_cons] at h ⊢; omega), List.append_assoc]
      rfl
theorem pass_lv (ms xs : List Int) : pass ms xs = lv ms xs := lb_at xs.length [] xs (Nat.le_refl _)
theorem stays_cons {ms : List Int} {s m v : Int} {r : List Int} : stays ms s m (v :: r) = (if (if ms.contains v = true then m + 1 else 0) % s = 0 then [v] else []) ++ stays ms s (if ms.contains v = true then m + 1 else 0) r := rfl
theorem stays_add {ms : List Int} {s : Int} : ∀ (xs : List Int) (m : Int), stays ms s (m + s) xs = stays ms s m xs
  | [], _ => rfl
  | v :: r, m => by
    rw [stays_cons, stays_cons]
    cases ms.contains v with
    | true =>
      rw [if_pos rfl, if_pos rfl, show m + s + 1 = (m + 1) + s by omega, Int.add_emod_right, stays_add r (m + 1)]
    | false => rfl
theorem lv_stays (ms : List Int) : ∀ xs : List Int, lv ms xs = stays ms 2 0 xs
  | [] => rfl
  | [v] => by
    unfold lv stays
    cases ms.contains v <;> rfl
  | v :: w :: r => by
    unfold lv
    cases hv : ms.contains v with
    | true =>
      rw [if_pos rfl, lv_stays ms r, stays_cons, hv, if_pos rfl, stays_cons]
      cases hw : ms.contains w with
      | true =>
        rw [if_pos rfl]
        show w :: stays ms 2 0 r = [w] ++ stays ms 2 (0 + 2) r
        rw [stays_add]
        rfl
      | false => rfl
    | false =>
      rw [if_neg Bool.false_ne_true, lv_stays ms (w :: r), stays_cons (v := v), hv]
      rfl
theorem stays_two {ms : List Int} {s : Int} (h0 : 0 < s) : ∀ (xs : List Int) (m : Int), 0 ≤ m → stays ms 2 (m / s) (stays ms s m xs) = stays ms (s * 2) m xs
  | [], _, _ => rfl
  | v :: r, m, hm => by
    have lhs : stays ms s m (v :: r) = (if (if ms.contains v = true then m + 1 else 0) % s = 0 then [v] else []) ++ stays ms s (if ms.contains v = true then m + 1 else 0) r := rfl
    have rhs : stays ms (s * 2) m (v :: r) = (if (if ms.contains v = true then m + 1 else 0) % (s * 2) = 0 then [v] else []) ++ stays ms (s * 2) (if ms.contains v = true then m + 1 else 0) r := rfl
    rw [lhs, rhs]
    cases hv : ms.contains v with
    | false =>
      rw [if_neg Bool.false_ne_true, Int.zero_emod, Int.zero_emod, if_pos rfl]
      show stays ms 2 (m / s) (v :: stays ms s 0 r) = _
      have ih := stays_two (ms := ms) h0 r 0 (Int.le_refl _)
      rw [Int.zero_ediv] at ih
      rw [stays_cons, hv, if_neg Bool.false_ne_true, ih]
      rfl
    | true =>
      rw [if_pos rfl]
      have ih := stays_two (ms := ms) h0 r (m + 1) (by omega)
      have em := Int.mul_ediv_add_emod m s
      have r1 := Int.emod_nonneg m (b := s) (by omega)
      have r2 := Int.emod_lt_of_pos m h0
      generalize m / s = q at em ih ⊢
      generalize m % s = t at em r1 r2
      by_cases ht : t + 1 = s
      · have u := (Int.ediv_emod_unique (a := m + 1) (r := 0) (q := q + 1) h0).mpr ⟨by rw [Int.mul_add]; omega, by omega, h0⟩
        have e1 : m + 1 = s * (q + 1) := by rw [Int.mul_add]; omega
        rw [u.1] at ih
        rw [if_pos u.2]
        show stays ms 2 q (v :: stays ms s (m + 1) r) = _
        rw [stays_cons, hv, if_pos rfl, ih]
        congr 1
        have e2 : (m + 1) % (s * 2) = s * ((q + 1) % 2) := by
          rw [e1]
          exact Int.mul_emod_mul_of_pos (q + 1) 2 h0
        rw [e2]
        by_cases hz : (q + 1) % 2 = 0
        · rw [hz, Int.mul_zero]
        · rw [if_neg hz, if_neg]
          intro z
          rcases Int.mul_eq_zero.mp z with z | z
          · omega
          · exact hz z
      · have u := (Int.ediv_emod_unique (a := m + 1) (r := t + 1) (q := q) h0).mpr ⟨by omega, by omega, by omega⟩
        rw [u.1] at ih
        have n1 : ¬ (m + 1) % s = 0 := by rw [u.2]; omega
        have n2 : ¬ (m + 1) % (s * 2) = 0 := fun z => n1 (by
          have := Int.emod_emod_of_dvd (m + 1) (Int.dvd_mul_right s 2)
          rw [z] at this
          rw [← this]
          exact Int.zero_emod _)
        rw [if_neg n1, if_neg n2, List.nil_append, List.nil_append]
        exact ih
theorem stays_one (ms : List Int) : ∀ (xs : List Int) (m : Int), stays ms 1 m xs = xs
  | [], _ => rfl
  | v :: r, m => by
    unfold stays
    rw [Int.emod_one, if_pos rfl, stays_one ms r]
    rfl
/-- so many passes -/
theorem passN_stays (ms xs : List Int) : ∀ n : Nat, passN ms n xs = stays ms (2 ^ n) 0 xs
  | 0 => (stays_one ms xs 0).symm
  | n + 1 => by
    show pass ms (passN ms n xs) = _
    rw [passN_stays ms xs n, pass_lv, lv_stays]
    have := stays_two (ms := ms) (s := 2 ^ n) (Int.pow_pos (by decide)) xs 0 (Int.le_refl _)
    rw [Int.zero_ediv] at this
    rw [this, Int.pow_succ]
/-- the places that a pass visits, from p on -/
def vis (ms xs : List Int) : Nat → Nat → List Int
  | 0, _ => []
  | f + 1, p => match xs[p]? with
    | some v => (p : Int) :: vis ms xs f (p + if ms.contains v = true then 2 else 1)
    | none => []
theorem vis_le (ms xs : List Int) : ∀ f p, (vis ms xs f p).length ≤ f
  | 0, _ => Nat.le_refl _
  | f + 1, p => by
    unfold vis
    split
    · rw [List.length_cons]
      exact Nat.succ_le_succ (vis_le ms xs f _)
    · exact Nat.zero_le _
theorem lck_app {S R : Store} {n : Nat} {o : Ob} (h : S[n]? = some o) (ho : (∃ xs, o = .lst xs) ∨ ∃ ds, o = .lsto ds) : lckS (S ++ R) (some n) = lckS S (some n) ++ R := by
  have hn := (List.getElem?_eq_some_iff.mp h).1
  rw [lck_eq h ho, lck_eq (S := S ++ R) (by rw [List.getElem?_append_left hn]; exact h) ho, List.set_append_left _ _ hn]
/-- it may be walked, with more behind the store -/
theorem IsL.walkR {S : Store} {x : D} {ns : List Int} (h : IsL S x ns) : ∃ lk : Option Nat, (∀ (R : Store) (q : Q) (fr : Mi.Frame) (e : XE), e q fr (S ++ R) = .ok x (S ++ R) → Z.itEn e q fr (S ++ R) = .ok ((enumT (ns.map T.int)).map D.t, lk) (S ++ R) ∧ Z.itE e q fr (S ++ R) = .ok ((ns.map T.int).map D.t, lk) (S ++ R)) ∧
    (∀ R, lckS (S ++ R) lk = lckS S lk ++ R) ∧ (lckS S lk).length = S.length ∧ (∀ y ms, IsL S y ms → IsL (lckS S lk) y ms) ∧ ∀ R, unlS (lckS S lk ++ R) lk = S ++ R := by
  obtain ⟨lk, h1, h2, h3, h4⟩ := h.walk
  cases h with
  | t => exact ⟨none, fun R q fr e he => ⟨by unfold Z.itEn; rw [he]; rfl, by unfold Z.itE; rw [he]; rfl⟩, fun _ => rfl, rfl, fun _ _ h => h, fun _ => rfl⟩
  | @k n ns h =>
    refine ⟨none, fun R q fr e he => ?_, fun _ => rfl, rfl, fun _ _ h => h, fun _ => rfl⟩
    have hR : (S ++ R)[n]? = some (.lck (.lst (ns.map T.int))) := by rw [List.getElem?_append_left (List.getElem?_eq_some_iff.mp h).1]; exact h
    constructor
    · unfold Z.itEn
      rw [he, bnd_ok]
      dsimp only
      rw [hR]
    · unfold Z.itE
      rw [he, bnd_ok]
      dsimp only
      rw [hR]
  | @c n ns h =>
    have e1 := (h1 ⟨fun _ _ _ => .no, fun _ => 0, 0⟩ [] (fun _ _ S => .ok (.cell n) S) rfl).2
    have elk : lk = some n := by
      unfold Z.itE at e1
      dsimp only [R.bnd] at e1
      rw [h] at e1
      cases e1
      rfl
    subst elk
    refine ⟨some n, fun R q fr e he => ?_, fun R => lck_app h (.inl ⟨_, rfl⟩), h2, h3, h4⟩
    have hR : (S ++ R)[n]? = some (.lst (ns.map T.int)) := by rw [List.getElem?_append_left (List.getElem?_eq_some_iff.mp h).1]; exact h
    constructor
    · unfold Z.itEn
      rw [he, bnd_ok]
      dsimp only
      rw [hR]
    · unfold Z.itE
      rw [he, bnd_ok]
      dsimp only
      rw [hR]
theorem s_forLkR {q : Q} {fr fr2 : Mi.Frame} {S R R2 : Store} {it : XI} {s : XB} {tg : Z.Tg} {items : List D} {lk : Option Nat} {fl : Fl} (hi : it q fr (S ++ R) = .ok (items, lk) (S ++ R)) (hL : lckS (S ++ R) lk = lckS S lk ++ R) (hl : Z.forL tg (fun fr2 S2 => Z.cutR false (lckS S lk ++ R).length (s q fr2 S2)) items fr (lckS S lk ++ R) = .ok (fl, fr2) (lckS S lk ++ R2)) (hu : unlS (lckS S lk ++ R2) lk = S ++ R2) :
    Z.fors false tg it s q fr (S ++ R) = .ok (fl, fr2) (S ++ R2) := by
  rw [z_fors, hi, bnd_ok]
  show unlR lk (Z.forL tg (fun fr2 S2 => Z.cutR false (lckS (S ++ R) lk).length (s q fr2 S2)) items fr (lckS (S ++ R) lk)) = _
  rw [hL, hl]
  show Mi.R.ok (fl, fr2) (unlS (lckS S lk ++ R2) lk) = _
  rw [hu]
/-- the runs: first place, length; m values of a run are behind us -/
def rn (ms : List Int) : Int → Int → List Int → List (Int × Int)
  | p, m, [] => if 0 < m then [(p - m, m)] else []
  | p, m, v :: r => if ms.contains v = true then rn ms (p + 1) (m + 1) r else if 0 < m then (p - m, m) :: rn ms (p + 1) 0 r else rn ms (p + 1) m r
def pr (q : Int × Int) : T := .tup [.int q.1, .int q.2]
/-- a comprehension of values by themselves -/
theorem lcL_map {α : Type} {q : Q} {fr : Mi.Frame} {S : Store} {tg : Z.Tg} {ts : XT} {el : XE} {enc : α → D} {p : α → Bool} {g : α → D} : ∀ {items : List α}, (∀ a ∈ items, ∃ fr1, asg S tg (enc a) fr = some fr1 ∧ ts q fr1 S = .ok (p a) S ∧ (p a = true → el q fr1 S = .ok (g a) S)) → lcL tg ts el q fr (items.map enc) S = .ok ((items.filter p).map g) S
  | [], _ => rfl
  | a :: items, h => by
    obtain ⟨fr1, e1, e2, e3⟩ := h a List.mem_cons_self
    have ih := lcL_map (items := items) fun b hb => h b (List.mem_cons_of_mem _ hb)
    rw [List.map_cons]
    unfold lcL
    rw [e1]
    dsimp only
    rw [e2]
    cases hp : p a with
    | true =>
      dsimp only
      rw [e3 hp]
      dsimp only
      rw [ih, bnd_ok, List.filter_cons_of_pos hp]
      rfl
    | false =>
      dsimp only
      rw [ih, List.filter_cons_of_neg (by rw [hp]; exact Bool.false_ne_true)]
theorem allT_map : ∀ xs : List T, allT (xs.map D.t) = some xs
  | [] => rfl
  | x :: xs => by
    show (allT (xs.map D.t)).map (x :: ·) = _
    rw [allT_map xs]
    rfl
theorem mkL_T (xs : List T) : Z.mkL (xs.map D.t) = .new xs := by
  unfold Z.mkL
  rw [allT_map]
/-- [.. for .. in e if ..], e not in the store -/
theorem e_lc {α : Type} {q : Q} {fr : Mi.Frame} {S S1 : Store} {vs : List Nat} {tg : Z.Tg} {it : XI} {ts : XT} {el : XE} {enc : α → D} {p : α → Bool} {g : α → T} {items : List α} (hi : it q fr S = .ok (items.map enc, none) S1) (hl : items.length ≤ okL)
    (h : ∀ a ∈ items, ∃ fr1, asg S1 tg (enc a) (wipeF fr vs) = some fr1 ∧ ts q fr1 S1 = .ok (p a) S1 ∧ (p a = true → el q fr1 S1 = .ok (.t (g a)) S1)) : Z.lc vs tg it ts el q fr S = .ok (.new ((items.filter p).map g)) S1 := by
  unfold Z.lc
  rw [hi, bnd_ok, if_pos (by rw [List.length_map]; exact hl)]
  show R.bnd (unlR none (lcL tg ts el q (wipeF fr vs) (items.map enc) S1)) _ = _
  rw [lcL_map (p := p) (g := fun a => .t (g a)) h]
  show Mi.R.ok (Z.mkL ((items.filter p).map fun a => D.t (g a))) S1 = _
  rw [show ((items.filter p).map fun a => D.t (g a)) = ((items.filter p).map g).map D.t by rw [List.map_map]; rfl, mkL_T]
/-- the most -/
def most (d : Int) (ns : List Int) : Int := if ns = [] then d else maxI ns
theorem rn_sum {ms : List Int} : ∀ (xs : List Int) (p m : Int), 0 ≤ m → ((rn ms p m xs).map (·.2)).sum = m + ((xs.filter fun v => ms.contains v).length : Nat)
  | [], p, m, h => by
    unfold rn
    split
    · show m + 0 = m + ((0 : Nat) : Int)
      rfl
    · show (0 : Int) = m + ((0 : Nat) : Int)
      omega
  | v :: r, p, m, h => by
    unfold rn
    cases hc : ms.contains v with
    | true =>
      rw [if_pos rfl, rn_sum r _ _ (by omega), List.filter_cons_of_pos (by exact hc), List.length_cons]
      omega
    | false =>
      rw [if_neg Bool.false_ne_true, List.filter_cons_of_neg (by rw [hc]; exact Bool.false_ne_true)]
      split
      · rw [List.map_cons, List.sum_cons, rn_sum r _ 0 (Int.le_refl _)]
        omega
      · exact rn_sum r _ m h
theorem rn_pos {ms : List Int} : ∀ (xs : List Int) (p m : Int), ∀ q ∈ rn ms p m xs, 0 < q.2
  | [], p, m, q, hq => by
    unfold rn at hq
    split at hq
    · rw [List.mem_singleton.mp hq]
      assumption
    · cases hq
  | v :: r, p, m, q, hq => by
    unfold rn at hq
    split at hq
    · exact rn_pos r _ _ q hq
    · split at hq
      · rcases List.mem_cons.mp hq with rfl | hq
        · assumption
        · exact rn_pos r _ _ q hq
      · exact rn_pos r _ _ q hq
theorem rn_len {ms : List Int} : ∀ (xs : List Int) (p m : Int), (rn ms p m xs).length ≤ xs.length + 1
  | [], p, m => by
    unfold rn
    split
    · exact Nat.le_refl _
    · exact Nat.zero_le _
  | v :: r, p, m => by
    unfold rn
    split
    · exact Nat.le_trans (rn_len r _ _) (Nat.le_succ _)
    · split
      · exact Nat.succ_le_succ (rn_len r _ _)
      · exact Nat.le_trans (rn_len r _ _) (Nat.le_succ _)
theorem bits_lt {l : Int} {a : Nat} (h : 0 ≤ l) : Builtin.Int.intBits l ≤ a ↔ l < 2 ^ a := by
  obtain ⟨n, rfl⟩ := Int.eq_ofNat_of_zero_le h
  unfold Builtin.Int.intBits
  cases n with
  | zero =>
    refine ⟨fun _ => Int.pow_pos (by decide), fun _ => ?_⟩
    show (0 : Nat) ≤ a
    exact Nat.zero_le _
  | succ n =>
    rw [if_neg (by simp; omega)]
    rw [Int.natAbs_natCast]
    have h1 := Nat.log2_lt (n := n + 1) (k := a) (by omega)
    constructor
    · intro z
      have := h1.mp (by omega)
      exact_mod_cast this
    · intro z
      have z2 : n + 1 < 2 ^ a := by exact_mod_cast z
      have := h1.mpr z2
      omega
theorem most_max {ns : List Int} (h : ∀ n ∈ ns, 0 < n) : maxI (0 :: ns) = most 0 ns := by
  unfold most
  cases ns with
  | nil => rfl
  | cons n ns =>
    rw [if_neg (by intro z; cases z)]
    show max 0 (maxI (n :: ns)) = maxI (n :: ns)
    have := h _ (maxI_mem (ns := n :: ns) (by intro z; cases z)).1
    omega
theorem stays_like {ms ns : List Int} {s : Int} : ∀ (xs : List Int) (m : Int), (∀ v ∈ xs, ms.contains v = ns.contains v) → stays ms s m xs = stays ns s m xs
  | [], _, _ => rfl
  | v :: r, m, h => by
    rw [stays_cons, stays_cons, h v List.mem_cons_self, stays_like r _ fun u hu => h u (List.mem_cons_of_mem _ hu)]
theorem rn_like {ms ns : List Int} : ∀ (xs : List Int) (p m : Int), (∀ v ∈ xs, ms.contains v = ns.contains v) → rn ms p m xs = rn ns p m xs
  | [], _, _, _ => rfl
  | v :: r, p, m, h => by
    unfold rn
    have ih : ∀ p m, rn ms p m r = rn ns p m r := fun p m => rn_like r p m fun u hu => h u (List.mem_cons_of_mem _ hu)
    rw [h v List.mem_cons_self, ih, ih, ih]
theorem vis_like {ms ns : List Int} {xs : List Int} (h : ∀ v ∈ xs, ms.contains v = ns.contains v) : ∀ f p, vis ms xs f p = vis ns xs f p
  | 0, _ => rfl
  | f + 1, p => by
    unfold vis
    cases q : xs[p]? with
    | none => rfl
    | some v =>
      dsimp only
      rw [h v (List.mem_of_getElem? q), vis_like h f]
theorem stays_mid {ms : List Int} {s u : Int} (hu : ms.contains u = false) : ∀ (xs ys : List Int) (m : Int), stays ms s m (xs ++ u :: ys) = stays ms s m xs ++ u :: stays ms s 0 ys
  | [], ys, m => by
    rw [List.nil_append, stays_cons, hu, if_neg Bool.false_ne_true, Int.zero_emod, if_pos rfl]
    rfl
  | v :: r, ys, m => by
    rw [List.cons_append, stays_cons, stays_cons, stays_mid hu r ys, List.append_assoc]
theorem pass_stays (ms xs : List Int) : pass ms xs = stays ms 2 0 xs := by rw [pass_lv, lv_stays]
/-- is p visited -/
def vz (ms xs : List Int) : Nat → Bool
  | 0 => true
  | p + 1 => !(vz ms xs p && match xs[p]? with
    | some v => ms.contains v
    | none => false)
/-- the visited places are these -/
theorem vis_at {ms xs : List Int} : ∀ (f p : Nat), xs.length ≤ p + f → vz ms xs p = true → vis ms xs f p = ((List.range' p (xs.length - p)).filter (vz ms xs)).map fun k : Nat => (k : Int)
  | 0, p, h, _ => by
    rw [show xs.length - p = 0 by omega]
    rfl
  | f + 1, p, h, hz => by
    unfold vis
    by_cases hp : p < xs.length
    · have ez : xs[p]? = some xs[p] := List.getElem?_eq_getElem hp
      rw [ez]
      dsimp only
      rw [show xs.length - p = (xs.length - (p + 1)) + 1 by omega, List.range'_succ, List.filter_cons_of_pos hz, List.map_cons]
      congr 1
      have z1 : vz ms xs (p + 1) = !ms.contains xs[p] := by
        show (!(vz ms xs p && match xs[p]? with
          | some v => ms.contains v
          | none => false)) = _
        rw [hz, ez, Bool.true_and]
      cases hc : ms.contains xs[p] with
      | false =>
        rw [hc] at z1
        rw [if_neg Bool.false_ne_true]
        exact vis_at f (p + 1) (by omega) z1
      | true =>
        rw [hc] at z1
        rw [if_pos rfl]
        have z2 : vz ms xs (p + 2) = true := by
          show (!(vz ms xs (p + 1) && _)) = true
          rw [z1]
          rfl
        rw [vis_at f (p + 2) (by omega) z2]
        by_cases h2 : p + 1 < xs.length
        · rw [show xs.length - (p + 1) = (xs.length - (p + 2)) + 1 by omega, List.range'_succ, List.filter_cons_of_neg (by rw [z1]; exact Bool.false_ne_true)]
        · rw [show xs.length - (p + 2) = 0 by omega, show xs.length - (p + 1) = 0 by omega]
          rfl
    · rw [List.getElem?_eq_none (by omega), show xs.length - p = 0 by omega]
      rfl
theorem vis_all (ms xs : List Int) : vis ms xs xs.length 0 = ((List.range xs.length).filter (vz ms xs)).map fun k : Nat => (k : Int) := by
  rw [vis_at xs.length 0 (by omega) rfl, Nat.sub_zero, List.range_eq_range']
section
variable {S : Store} {x : D} {ns : List Int}
theorem ts_ne {d : Dr} {ns : List Int} : d.ts ≠ ns.map T.int := fun h => by
  have h3 : (ns.map T.int)[2]? = some (.bl d.b) := by rw [← h]; rfl
  rw [List.getElem?_map] at h3
  cases q : ns[2]? with
  | none =>
    rw [q] at h3
    cases h3
  | some v =>
    rw [q] at h3
    cases h3
/-- the draws go on -/
theorem IsL.set {m : Nat} {d : Dr} {o : Ob} (h : IsL S x ns) (hm : S[m]? = some (.lst d.ts)) : IsL (S.set m o) x ns := by
  cases h with
  | t => exact .t
  | @c n ns h =>
    refine .c ?_
    by_cases e : m = n
    · subst e
      rw [h] at hm
      exact absurd (Ob.lst.inj (Option.some.inj hm)).symm ts_ne
    · rw [List.getElem?_set_ne e]
      exact h
  | @k n ns h =>
    refine .k ?_
    by_cases e : m = n
    · subst e
      rw [h] at hm
      cases hm
    · rw [List.getElem?_set_ne e]
      exact h
theorem IsL.tr (h : IsL S x ns) : tr 6 S x = some (dints ns) := by
  cases h with
  | t => rfl
  | c h =>
    unfold Mi.tr
    rw [rd_of h]
  | k h =>
    unfold Mi.tr
    rw [rd_lk h]
theorem tr_new {xs : List T} : Mi.tr 6 S (.new xs) = some (.lst xs) := rfl
theorem tr_t {x : T} : Mi.tr 6 S (.t x) = some x := rfl
/-- [.. for .. in x if ..], x a list of whole numbers -/
theorem e_lcI {q : Q} {fr : Mi.Frame} {vs : List Nat} {tg : Z.Tg} {e : XE} {ts : XT} {el : XE} {p : Int → Bool} {g : Int → T} (hx : IsL S x ns) (he : e q fr S = .ok x S) (hl : ns.length ≤ 1000000)
    (h : ∀ S', (∀ y ms, IsL S y ms → IsL S' y ms) → ∀ v ∈ ns, ∃ fr1, asg S' tg (.t (.int v)) (wipeF fr vs) = some fr1 ∧ ts q fr1 S' = .ok (p v) S' ∧ (p v = true → el q fr1 S' = .ok (.t (g v)) S')) :
    Z.lc vs tg (Z.itE e) ts el q fr S = .ok (.new ((ns.filter p).map g)) S := by
  obtain ⟨lk, hi, hlen, hk, hu⟩ := hx.walk
  have hok : (okL : Nat) = 16000000 := rfl
  unfold Z.lc
  rw [(hi q fr e he).2, bnd_ok, if_pos (by rw [List.length_map, List.length_map]; omega)]
  show R.bnd (unlR lk (lcL tg ts el q (wipeF fr vs) ((ns.map T.int).map D.t) (lckS S lk))) _ = _
  have := lcL_map (q := q) (fr := wipeF fr vs) (S := lckS S lk) (tg := tg) (ts := ts) (el := el) (enc := fun v : Int => D.t (.int v)) (p := p) (g := fun v => .t (g v)) (items := ns) fun a ha => h _ hk a ha
  rw [show (ns.map T.int).map D.t = ns.map fun v : Int => D.t (.int v) by rw [List.map_map]; rfl, this]
  show Mi.R.ok (Z.mkL ((ns.filter p).map fun a => D.t (g a))) (unlS (lckS S lk) lk) = _
  have hu0 := hu []
  rw [List.append_nil, List.append_nil] at hu0
  rw [hu0, show ((ns.filter p).map fun a => D.t (g a)) = ((ns.filter p).map g).map D.t by rw [List.map_map]; rfl, mkL_T]
theorem filter_tt {α : Type} {xs : List α} : (xs.filter fun _ => true) = xs := List.filter_eq_self.mpr fun _ _ => rfl
end
section
variable {q : Q} {fr : Mi.Frame} {S S1 S2 : Store} {e1 e2 : XE} {x y : D} {a : T}
theorem tc_sameN (h1 : e1 q fr S = .ok x S1) (h2 : e2 q fr S1 = .ok y S2) (hx : tr 6 S2 x = some a) (hy : tr 6 S2 y = some a) (o : okEq a = true) : Z.tcmp .ne e1 e2 q fr S = .ok false S2 := by
  rw [z_tcmp, h1, bnd_ok, h2, bnd_ok, c_sameN hx hy o]
theorem e_same (h1 : e1 q fr S = .ok x S1) (h2 : e2 q fr S1 = .ok y S2) (hx : tr 6 S2 x = some a) (hy : tr 6 S2 y = some a) (o : okEq a = true) : Z.cmp .eq e1 e2 q fr S = .ok (.bl true) S2 := by
  rw [z_cmp, h1, bnd_ok, h2, bnd_ok, c_same hx hy o, bnd_ok]
theorem tor_F {ta tb : XT} (h1 : ta q fr S = .ok false S1) (h2 : tb q fr S1 = .ok false S2) : Z.tor ta tb q fr S = .ok false S2 := by
  rw [z_tor, h1, bnd_ok, if_neg (by decide), h2]
theorem tand_F {ta tb : XT} {b : Bool} (h1 : ta q fr S = .ok b S1) (h2 : b = true → tb q fr S1 = .ok false S1) : Z.tand ta tb q fr S = .ok false S1 := by
  rw [z_tand, h1, bnd_ok]
  cases b with
  | true => rw [if_pos rfl, h2 rfl]
  | false => rw [if_neg (by decide)]
/-- f(x, y, k=z) -/
theorem e_call21 {n : Nat} {a b c : XE} {x y z x' y' z' : D} {S3 : Store} (h : a q fr S = .ok x S1) (h2 : b q fr S1 = .ok y S2) (h3 : c q fr S2 = .ok z S3) (hx : Z.arg x = some x') (hy : Z.arg y = some y') (hz : Z.arg z = some z') : Z.call n (Z.args (Z.cons a (Z.cons b Z.nil)) (Z.cons c Z.nil)) [.inl 0, .inl 1, .inl 2] q fr S = q.call n [x', y', z'] S3 := by
  rw [z_call, z_args, z_cons, h, bnd_ok, z_cons, h2, bnd_ok, z_nil, bnd_ok, bnd_ok, bnd_ok, z_cons, h3, bnd_ok, z_nil, bnd_ok, bnd_ok, bnd_ok]
  exact callA_id (mapO3 hx hy hz) rfl
end
theorem stays_mem {ms : List Int} {s : Int} : ∀ (xs : List Int) (m v : Int), v ∈ stays ms s m xs → v ∈ xs
  | [], _, _, h => h
  | u :: r, m, v, h => by
    rw [stays_cons] at h
    generalize (if ms.contains u = true then m + 1 else 0) = m2 at h
    rcases List.mem_append.mp h with h | h
    · split at h
      · rw [List.mem_singleton.mp h]
        exact List.mem_cons_self
      · cases h
    · exact List.mem_cons_of_mem _ (stays_mem r _ v h)
theorem bd_passN {ms xs : List Int} {n : Nat} (h : Bd xs) : Bd (passN ms n xs) := fun v hv => by
  rw [passN_stays] at hv
  exact h v (stays_mem _ _ _ hv)
theorem bd_pass {ms xs : List Int} (h : Bd xs) : Bd (pass ms xs) := bd_passN (n := 1) h
theorem step_at {i : Nat} {v : Int} (h : [(1 : Int), 2, 4, 8, 16, 32, 64, 128, 256][i]? = some v) : i ≤ 8 ∧ v = 2 ^ i := by
  match i, h with
  | 0, h => cases h; exact ⟨by omega, rfl⟩
  | 1, h => cases h; exact ⟨by omega, rfl⟩
  | 2, h => cases h; exact ⟨by omega, rfl⟩
  | 3, h => cases h; exact ⟨by omega, rfl⟩
  | 4, h => cases h; exact ⟨by omega, rfl⟩
  | 5, h => cases h; exact ⟨by omega, rfl⟩
  | 6, h => cases h; exact ⟨by omega, rfl⟩
  | 7, h => cases h; exact ⟨by omega, rfl⟩
  | 8, h => cases h; exact ⟨by omega, rfl⟩
def lens (ms xs : List Int) : List Int := (rn ms 0 0 xs).map (·.2)
def sh (far : Bool) (v : Int) : Int := if far = true then v * 10 ^ 18 - 7 else v
theorem sh_inj {far : Bool} {u v : Int} (h : sh far u = sh far v) : u = v := by
  unfold sh at h
  cases far with
  | true =>
    rw [if_pos rfl, if_pos rfl] at h
    omega
  | false => exact h
def Wd (far : Bool) (ns : List Int) : Prop := ∀ v ∈ ns, ∃ u : Int, (-1 ≤ u ∧ u < 15) ∧ v = sh far u
theorem Wd.of {far : Bool} {ns : List Int} (h : ∀ v ∈ ns, -1 ≤ v ∧ v < 15) : Wd far (ns.map (sh far)) := fun v hv => by
  obtain ⟨u, hu, rfl⟩ := List.mem_map.mp hv
  exact ⟨u, h u hu, rfl⟩
theorem Wd.no {far : Bool} {ns : List Int} (h : Wd far ns) {n : Int} (hn : 77 ≤ n ∧ n ≤ 99) : n ∉ ns := fun z => by
  obtain ⟨u, hu, e⟩ := h n z
  unfold sh at e
  cases far with
  | true =>
    rw [if_pos rfl] at e
    omega
  | false =>
    rw [if_neg (by decide)] at e
    omega
theorem big_lt {v : Int} (h : -(2 ^ 100) ≤ v ∧ v ≤ 2 ^ 100) : v.natAbs < 2 ^ 1900 := by
  have e : (2 : Int) ^ 100 = ((2 ^ 100 : Nat) : Int) := by decide
  rw [e] at h
  exact Nat.lt_of_le_of_lt (m := 2 ^ 100) (by omega) (Nat.pow_lt_pow_right (by decide) (by decide))
theorem Wd.bd {far : Bool} {ns : List Int} (h : Wd far ns) : Bd ns := fun v hv => by
  obtain ⟨u, hu, rfl⟩ := h v hv
  refine big_lt ?_
  unfold sh
  cases far with
  | true =>
    rw [if_pos rfl]
    omega
  | false =>
    rw [if_neg (by decide)]
    omega
theorem rn_bd {ms : List Int} : ∀ (xs : List Int) (p m : Int), 0 ≤ m → ∀ q ∈ rn ms p m xs, (p - m ≤ q.1 ∧ q.1 ≤ p + (xs.length : Nat)) ∧ 0 ≤ q.2 ∧ q.2 ≤ m + (xs.length : Nat)
  | [], p, m, h, q, hq => by
    unfold rn at hq
    split at hq
    · rw [List.mem_singleton.mp hq]
      show (p - m ≤ p - m ∧ p - m ≤ p + ((0 : Nat) : Int)) ∧ 0 ≤ m ∧ m ≤ m + ((0 : Nat) : Int)
      omega
    · cases hq
  | v :: r, p, m, h, q, hq => by
    unfold rn at hq
    rw [List.length_cons]
    split at hq
    · have := rn_bd r _ _ (by omega) q hq
      omega
    · split at hq
      · rcases List.mem_cons.mp hq with rfl | hq
        · show (p - m ≤ p - m ∧ p - m ≤ p + ((r.length + 1 : Nat) : Int)) ∧ 0 ≤ m ∧ m ≤ m + ((r.length + 1 : Nat) : Int)
          omega
        · have := rn_bd r _ _ (Int.le_refl _) q hq
          omega
      · have := rn_bd r _ _ h q hq
        omega
theorem okEq_rn {ms xs : List Int} (hl : xs.length ≤ 1000) : okEq (.lst ((rn ms 0 0 xs).map pr)) = true :=
  okEq_prs fun p hp => by
    have := rn_bd xs 0 0 (Int.le_refl _) p hp
    exact ⟨big_lt (by omega), big_lt (by omega)⟩
def more (ms : List Int) : List Int := (ms.reverse ++ [99, 98]).take 12
theorem more_like {ms xs : List Int} (hm : ms.length ≤ 12) (h1 : (99 : Int) ∉ xs) (h2 : (98 : Int) ∉ xs) : ∀ v ∈ xs, (more ms).contains v = ms.contains v := fun v hv => by
  unfold more
  rw [List.take_append, List.take_of_length_le (by rw [List.length_reverse]; exact hm)]
  have e1 : v ≠ 99 := fun z => h1 (z ▸ hv)
  have e2 : v ≠ 98 := fun z => h2 (z ▸ hv)
  have e3 : v ∉ [(99 : Int), 98].take (12 - ms.reverse.length) := fun z => by
    rcases List.mem_cons.mp (List.mem_of_mem_take z) with z | z
    · exact e1 z
    · exact e2 (List.mem_singleton.mp z)
  rw [Bool.eq_iff_iff, List.contains_iff_mem, List.contains_iff_mem, List.mem_append, List.mem_reverse]
  exact ⟨fun z => z.elim id fun z => absurd z e3, .inl⟩
theorem more_nd {ms : List Int} (nd : ms.Nodup) (h1 : (99 : Int) ∉ ms) (h2 : (98 : Int) ∉ ms) : (more ms).Nodup := by
  unfold more
  refine List.Pairwise.sublist (List.take_sublist _ _) ?_
  refine List.pairwise_append.mpr ⟨List.pairwise_reverse.mpr (nd.imp fun h => Ne.symm h), by decide, fun a ha b hb z => ?_⟩
  subst z
  have ha := List.mem_reverse.mp ha
  rcases List.mem_cons.mp hb with z | z
  · exact h1 (z ▸ ha)
  · exact h2 ((List.mem_singleton.mp z) ▸ ha)
theorem more_len {ms : List Int} : (more ms).length ≤ 12 := by
  unfold more
  rw [List.length_take]
  omega
theorem in_range {n p : Nat} {f : Nat → Bool} (h : p < n) : (((List.range n).filter f).map fun k : Nat => (k : Int)).contains (p : Int) = f p := by
  rw [Bool.eq_iff_iff, List.contains_iff_mem, List.mem_map]
  constructor
  · rintro ⟨a, ha, e⟩
    have : a = p := by omega
    subst this
    exact (List.mem_filter.mp ha).2
  · intro hf
    exact ⟨p, List.mem_filter.mpr ⟨List.mem_range.mpr h, hf⟩, rfl⟩
theorem vz_s {ms xs : List Int} {p : Nat} {v : Int} (h : xs[p]? = some v) : vz ms xs (p + 1) = !(vz ms xs p && ms.contains v) := by
  show (!(vz ms xs p && match xs[p]? with
    | some v => ms.contains v
    | none => false)) = _
  rw [h]
theorem b_cat {S : Store} {x y : D} {a b : List T} (hx : sq S x = some a) (hy : sq S y = some b) (h : a.length + b.length ≤ 1000000) : bop .add x y S = .ok (.new (a ++ b)) S := by
  have hok : (okL : Nat) = 16000000 := rfl
  show addD x y S = _
  unfold addD
  split
  · cases hx
  · cases hx
  · rw [hx]
    dsimp only
    rw [hy]
    dsimp only
    rw [if_pos (by omega)]
/-- what far does to a list -/
theorem e_far {q : Q} {fr : Mi.Frame} {S : Store} {x : D} {ns : List Int} {i : Nat} (hx : IsL S x ns) (hi : fr[i]? = some (some x)) (hf : fr.length = 15) (hl : ns.length ≤ 1000000) : Z.lc [12] (.nm 12) (Z.itE (Z.v i)) Z.tt (Z.bin .sub (Z.bin .mul (Z.v 12) (Z.bin .pow (Z.k (.int 10)) (Z.k (.int 18)))) (Z.k (.int 7))) q fr S = .ok (.new ((ns.map (sh true)).map T.int)) S := by
  have h := e_lcI (q := q) (fr := fr) (vs := [12]) (tg := .nm 12) (e := Z.v i) (ts := Z.tt) (el := Z.bin .sub (Z.bin .mul (Z.v 12) (Z.bin .pow (Z.k (.int 10)) (Z.k (.int 18)))) (Z.k (.int 7))) (p := fun _ => true) (g := fun v => .int (sh true v)) hx (z_v hi) hl fun S' _ v _ => by
    refine ⟨(wipeF fr [12]).set 12 (some (.t (.int v))), rfl, rfl, fun _ => ?_⟩
    have h12 : ((wipeF fr [12]).set 12 (some (.t (.int v))))[12]? = some (some (.t (.int v))) := List.getElem?_set_self (by show 12 < (fr.set 12 none).length; rw [List.length_set]; omega)
    rw [z_bin, z_bin, z_v h12, bnd_ok, z_bin, z_k, bnd_ok, z_k, bnd_ok, b_powS (by decide), bnd_ok, b_mulR (by decide), bnd_ok, z_k, bnd_ok, b_sub]
    rfl
  rw [h, filter_tt, List.map_map]
  rfl
/-! the loops of a law: over the draws of all cells, over lists made in place -/
theorem thaw_news : ∀ (xss : List (List T)) (S : Store), mapS (thaw 5) (xss.map D.new) S = some ((List.range' S.length xss.length).map D.cell, S ++ xss.map Ob.lst)
  | [], S => by
    show some (([] : List D), S) = some ([], S ++ [])
    rw [List.append_nil]
  | xs :: xss, S => by
    rw [List.map_cons]
    unfold mapS
    rw [show thaw 5 (.new xs) S = some (.cell S.length, S ++ [.lst xs]) from rfl]
    dsimp only
    rw [thaw_news xss]
    dsimp only
    rw [List.length_cons, List.range'_succ, List.map_cons, List.length_append, List.length_singleton, List.map_cons, List.append_assoc]
    rfl
theorem it_newo {q : Q} {fr : Mi.Frame} {S S1 : Store} {e : XE} {xss : List (List T)} (h : e q fr S = .ok (.newo (xss.map D.new)) S1) : Z.itE e q fr S = .ok ((List.range' S1.length xss.length).map D.cell, some (S1.length + xss.length)) (S1 ++ xss.map Ob.lst ++ [.lsto ((List.range' S1.length xss.length).map D.cell)]) := by
  unfold Z.itE
  rw [h, bnd_ok]
  dsimp only
  rw [show thaw 6 (.newo (xss.map D.new)) S1 = some (.cell (S1 ++ xss.map Ob.lst).length, S1 ++ xss.map Ob.lst ++ [.lsto ((List.range' S1.length xss.length).map D.cell)]) by
    unfold thaw
    rw [thaw_news]]
  dsimp only
  rw [List.getElem?_append_right (Nat.le_refl _), Nat.sub_self, List.length_append, List.length_map]
  rfl
theorem mkL_newo {xss : List (List T)} (h : xss ≠ []) : Z.mkL (xss.map D.new) = .newo (xss.map D.new) := by
  cases xss with
  | nil => exact absurd rfl h
  | cons => rfl
/-- over new lists: t names each of them in turn -/
theorem news_loop {q : Q} {fr : Mi.Frame} {t : Nat} {S S1 : Store} {e : XE} {b : XB} {xss : List (List T)} (J : Nat → Mi.Frame → Store → Prop) (he : e q fr S = .ok (.newo (xss.map D.new)) S1)
    (h0 : J 0 fr (S1 ++ xss.map Ob.lst ++ [.lck (.lsto ((List.range' S1.length xss.length).map D.cell))]))
    (step : ∀ j xs fr' S', xss[j]? = some xs → J j fr' S' → S'[S1.length + xss.length]? = some (.lck (.lsto ((List.range' S1.length xss.length).map D.cell))) → ∃ fr2 S2, b q (fr'.set t (some (.cell (S1.length + j)))) S' = .ok (.nx, fr2) S2 ∧ J (j + 1) fr2 S2 ∧ S2[S1.length + xss.length]? = some (.lck (.lsto ((List.range' S1.length xss.length).map D.cell)))) :
    ∃ fr2 S2, Z.fors false (.nm t) (Z.itE e) b q fr S = .ok (.nx, fr2) (S2.set (S1.length + xss.length) (.lsto ((List.range' S1.length xss.length).map D.cell))) ∧ J xss.length fr2 S2 := by
  generalize hes : (List.range' S1.length xss.length).map D.cell = es at *
  have hle : es.length = xss.length := by rw [← hes, List.length_map, List.length_range']
  have top : (S1 ++ xss.map Ob.lst ++ [Ob.lsto es])[S1.length + xss.length]? = some (.lsto es) := by
    rw [List.getElem?_append_right (by rw [List.length_append, List.length_map]; exact Nat.le_refl _), List.length_append, List.length_map, Nat.sub_self]
    rfl
  have elk : lckS (S1 ++ xss.map Ob.lst ++ [Ob.lsto es]) (some (S1.length + xss.length)) = S1 ++ xss.map Ob.lst ++ [.lck (.lsto es)] := by
    rw [lck_eq top (.inr ⟨_, rfl⟩), List.set_append_right _ _ (by rw [List.length_append, List.length_map]; exact Nat.le_refl _), List.length_append, List.length_map, Nat.sub_self]
    rfl
  have top2 : (S1 ++ xss.map Ob.lst ++ [Ob.lck (.lsto es)])[S1.length + xss.length]? = some (.lck (.lsto es)) := by
    rw [List.getElem?_append_right (by rw [List.length_append, List.length_map]; exact Nat.le_refl _), List.length_append, List.length_map, Nat.sub_self]
    rfl
  let I : Nat → Mi.Frame → Store → Prop := fun i fr' S' => J i fr' S' ∧ S'[S1.length + xss.length]? = some (.lck (.lsto es))
  obtain ⟨fr2, S2, hl, hJ, ht⟩ : ∃ fr2 S2, Z.forL (.nm t) (fun fr2 S2 => Z.cutR false (S1 ++ xss.map Ob.lst ++ [Ob.lck (.lsto es)]).length (b q fr2 S2)) es fr (S1 ++ xss.map Ob.lst ++ [.lck (.lsto es)]) = .ok (.nx, fr2) S2 ∧ I es.length fr2 S2 := by
    refine for_ind I ?_ ⟨h0, top2⟩
    rintro i d fr' S' hd ⟨hJ, hT⟩
    have hi := (List.getElem?_eq_some_iff.mp hd).1
    rw [hle] at hi
    have ed : d = .cell (S1.length + i) := by
      rw [← hes, List.getElem?_map, List.getElem?_range' hi] at hd
      cases hd
      rw [Nat.one_mul]
    subst ed
    refine ⟨_, rfl, ?_⟩
    obtain ⟨fr2, S2, eb, h1, h2⟩ := step i _ fr' S' (List.getElem?_eq_getElem hi) hJ hT
    exact ⟨.nx, fr2, S2, cut_f eb, .inl rfl, h1, h2⟩
  rw [hle] at hJ
  refine ⟨fr2, S2, ?_, hJ⟩
  have hit := it_newo he
  rw [hes] at hit
  rw [z_fors, hit, bnd_ok]
  dsimp only
  rw [elk]
  show unlR (some (S1.length + xss.length)) (Z.forL (.nm t) (fun fr2 S2 => Z.cutR false (S1 ++ xss.map Ob.lst ++ [Ob.lck (.lsto es)]).length (b q fr2 S2)) es fr (S1 ++ xss.map Ob.lst ++ [.lck (.lsto es)])) = _
  rw [hl]
  show Mi.R.ok (Fl.nx, fr2) (unlS S2 (some (S1.length + xss.length))) = _
  unfold unlS
  dsimp only
  rw [ht]
/-- over the draws of all cells -/
theorem cells_loop {q : Q} {fr : Mi.Frame} {t : Nat} {e : XE} {b : XB} {cs : List Int} {P : Mi.Frame → Prop} (he : e q fr [] = .ok (.newo (cs.map fun c => D.new (drOf c).ts)) []) (hP : P fr)
    (good : ∀ fr' S' i c, P fr' → S'[i]? = some (.lst (drOf c).ts) → ∃ fr2 S2, b q (fr'.set t (some (.cell i))) S' = .ok (.nx, fr2) S2 ∧ P fr2 ∧ ∀ j, j < S'.length → j ≠ i → S2[j]? = S'[j]?) :
    ∃ fr2 S2, Z.fors false (.nm t) (Z.itE e) b q fr [] = .ok (.nx, fr2) S2 ∧ P fr2 := by
  have hm : (cs.map fun c => D.new (drOf c).ts) = (cs.map fun c => (drOf c).ts).map D.new := by rw [List.map_map]; rfl
  rw [hm] at he
  obtain ⟨fr2, S2, h1, h2, _⟩ := news_loop (t := t) (b := b) (fun i fr' S' => P fr' ∧ ∀ j c, i ≤ j → cs[j]? = some c → S'[j]? = some (.lst (drOf c).ts)) he ⟨hP, fun j c _ hj => by
      have hl := (List.getElem?_eq_some_iff.mp hj).1
      rw [List.nil_append, List.getElem?_append_left (by rw [List.length_map, List.length_map]; exact hl), List.getElem?_map, List.getElem?_map, hj]
      rfl⟩ (by
    intro j xs fr' S' hx hJ hT
    rw [List.getElem?_map] at hx
    cases hc : cs[j]? with
    | none =>
      rw [hc] at hx
      cases hx
    | some c =>
      have hl := (List.getElem?_eq_some_iff.mp hc).1
      obtain ⟨fr2, S2, eb, hP2, hk⟩ := good fr' S' j c hJ.1 (hJ.2 j c (Nat.le_refl _) hc)
      have e0 : ([] : Store).length + j = j := Nat.zero_add j
      simp only [e0]
      have hl2 := (List.getElem?_eq_some_iff.mp hT).1
      refine ⟨fr2, S2, eb, ⟨hP2, fun i c2 hi h2 => ?_⟩, ?_⟩
      · have h3 := hJ.2 i c2 (by omega) h2
        rw [hk i (List.getElem?_eq_some_iff.mp h3).1 (by omega)]
        exact h3
      · rw [hk _ hl2 (by rw [List.length_map, List.length_nil]; omega)]
        exact hT)
  exact ⟨fr2, _, h1, h2⟩
end Lw

set_option Elab.async false
set_option linter.all false
set_option maxRecDepth 100000
set_option maxHeartbeats 4000000
/-! N22: more constructs: list(range(e)) -/
namespace Mi
open PySem PySem.Spec PyProof.Rows L2
section
variable {X : Cx} {gi : GI} {k : Nat} {N : List Str} {sc : Scope} {pos p1 p2 : Pos} {e a b c i : Expr} {es rest : List Expr} {f g h : XE} {fa ga : XA} {ft gt : XT}
theorem repL_range {K : PySem.W.Frag} {F : Hp} : ∀ (n lo : Nat), RepL K (At F) ((List.range' lo n).map fun i => V.int (0 + (i : Nat))) ((List.range' lo n).map fun k : Nat => T.int (k : Int))
  | 0, _ => .nil
  | n + 1, lo => by
    rw [List.range'_succ, List.map_cons, List.map_cons, show (0 : Int) + (lo : Nat) = (lo : Int) by omega]
    exact .cons (.int _) (repL_range n (lo + 1))
theorem sem_lrange (hc : X.calm = true) (n1 : Bi X "list" (.type "list")) (n2 : Bi X "range" (.type "range")) (h1 : SemE X gi k a f) (hs : starEach [a] X.env = [(false, eval a X.env)]) (hs2 : starEach [Expr.Call (.Name "range" p1) [a] [] p2] X.env = [(false, eval (Expr.Call (.Name "range" p1) [a] [] p2) X.env)]) : SemE X gi k (.Call (.Name "list" p) [.Call (.Name "range" p1) [a] [] p2] [] pos) (Z.f1 .lrange f) := by
  intro er q lk W tk fr S μ σ H F A Q w
  refine ⟨_, pe_listRg hc n1.g n1.m (prg_1 n2.g n2.m pe_sem hs) hs2, ?_⟩
  refine h1.go lk tk A .refl w fun x S1 μ1 H1 F1 v as A1 P1 r1 o1 w1 => ?_
  have w2 : WR X.K er W q.L fr σ S μ H F (lrangeD x S1) (KE X.K H Q) := w1
  unfold lrangeD at w2
  split at w2
  · rename_i n
    split at w2
    · rename_i hn
      refine ⟨n, by rw [rep_int (repT r1).1], ⟨by omega, by omega, by omega, by omega, by omega⟩, fun m hm => ?_⟩
      have hr := repL_range (K := X.K) (F := F1) n.toNat 0
      rw [← List.range_eq_range'] at hr
      have e1 : rgV 0 n = (List.range n.toNat).map fun i => V.int (0 + (i : Nat)) := by
        unfold rgV
        rw [Int.sub_zero]
      rw [e1]
      exact giveN w2 A1 P1 hm hr
    · exact w2.elim
  · exact w2.elim
end
end Mi

set_option Elab.async false
set_option linter.all false
set_option maxRecDepth 100000
set_option maxHeartbeats 4000000
/-! N23: reckoning by terms -/
namespace Mi
open PySem L2
section
variable {q : Q} {fr fr1 fr2 : Frame} {S S1 S2 S3 S4 : Store} {a b c e : XE} {ta tb : XT} {h hk : XA} {s t : XB} {d x y z : D} {n : Nat}
theorem e_bin {o : BO} (h1 : a q fr S = .ok x S1) (h2 : b q fr S1 = .ok y S2) (h3 : bop o x y S2 = .ok z S2) : Z.bin o a b q fr S = .ok z S2 := by rw [z_bin, h1, bnd_ok, h2, bnd_ok, h3]
theorem e_cmp {o : CO} {k : Bool} (h1 : a q fr S = .ok x S1) (h2 : b q fr S1 = .ok y S2) (h3 : cmpD o x y S2 = .ok k S2) : Z.cmp o a b q fr S = .ok (.t (.bl k)) S2 := by rw [z_cmp, h1, bnd_ok, h2, bnd_ok, h3, bnd_ok]
theorem tc {o : CO} {k : Bool} (h1 : a q fr S = .ok x S1) (h2 : b q fr S1 = .ok y S2) (h3 : cmpD o x y S2 = .ok k S2) : Z.tcmp o a b q fr S = .ok k S2 := by rw [z_tcmp, h1, bnd_ok, h2, bnd_ok, h3]
theorem t_val {k : Bool} (h1 : a q fr S = .ok x S1) (h2 : truD x S1 = .ok k S1) : Z.tval a q fr S = .ok k S1 := by rw [z_tval, h1, bnd_ok, h2]
theorem t_not {k : Bool} (h1 : ta q fr S = .ok k S1) : Z.tnot ta q fr S = .ok (!k) S1 := by rw [z_tnot, h1, bnd_ok]
theorem t_andT {k : Bool} (h1 : ta q fr S = .ok true S1) (h2 : tb q fr S1 = .ok k S2) : Z.tand ta tb q fr S = .ok k S2 := by rw [z_tand, h1, bnd_ok, if_pos rfl, h2]
theorem t_andF (h1 : ta q fr S = .ok false S1) : Z.tand ta tb q fr S = .ok false S1 := by rw [z_tand, h1, bnd_ok, if_neg (by decide)]
theorem t_orT (h1 : ta q fr S = .ok true S1) : Z.tor ta tb q fr S = .ok true S1 := by rw [z_tor, h1, bnd_ok, if_pos rfl]
theorem t_orF {k : Bool} (h1 : ta q fr S = .ok false S1) (h2 : tb q fr S1 = .ok k S2) : Z.tor ta tb q fr S = .ok k S2 := by rw [z_tor, h1, bnd_ok, if_neg (by decide), h2]
theorem e_andT (h1 : a q fr S = .ok (.t (.bl true)) S1) (h2 : b q fr S1 = .ok y S2) : Z.and a b q fr S = .ok y S2 := by rw [z_and, h1, bnd_ok, tr_bl, bnd_ok, if_pos rfl, h2]
theorem e_andF (h1 : a q fr S = .ok (.t (.bl false)) S1) : Z.and a b q fr S = .ok (.t (.bl false)) S1 := by rw [z_and, h1, bnd_ok, tr_bl, bnd_ok, if_neg (by decide)]
theorem e_ix (h1 : a q fr S = .ok x S1) (h2 : b q fr S1 = .ok y S2) (h3 : ixD x y S2 = .ok z S2) : Z.ix a b q fr S = .ok z S2 := by rw [z_ix, h1, bnd_ok, h2, bnd_ok, h3]
theorem e_slR {j : Int} (h1 : a q fr S = .ok x S1) (h2 : b q fr S1 = .ok (.t (.int j)) S2) (h3 : slD x none (some j) S2 = .ok z S2) : Z.sl a none (some b) q fr S = .ok z S2 := by rw [z_sl, h1, bnd_ok, z_oN, bnd_ok, z_oS, h2, bnd_ok, bnd_ok, h3]
theorem e_slL {i : Int} (h1 : a q fr S = .ok x S1) (h2 : b q fr S1 = .ok (.t (.int i)) S2) (h3 : slD x (some i) none S2 = .ok z S2) : Z.sl a (some b) none q fr S = .ok z S2 := by rw [z_sl, h1, bnd_ok, z_oS, h2, bnd_ok, bnd_ok, z_oN, bnd_ok, h3]
theorem e_f1 {f : U1} (h1 : a q fr S = .ok x S1) (h2 : f1D f x S1 = .ok z S1) : Z.f1 f a q fr S = .ok z S1 := by rw [z_f1, h1, bnd_ok, h2]
theorem e_f2 {f : U2} (h1 : a q fr S = .ok x S1) (h2 : b q fr S1 = .ok y S2) (h3 : f2D f x y S2 = .ok z S2) : Z.f2 f a b q fr S = .ok z S2 := by rw [z_f2, h1, bnd_ok, h2, bnd_ok, h3]
theorem e_neg {i : Int} (h1 : a q fr S = .ok (.t (.int i)) S1) : Z.neg a q fr S = .ok (.t (.int (-i))) S1 := by rw [z_neg, h1, bnd_ok]
theorem e_ifeT (h1 : ta q fr S = .ok true S1) (h2 : a q fr S1 = .ok x S2) : Z.ife ta a b q fr S = .ok x S2 := by rw [z_ife, h1, bnd_ok, if_pos rfl, h2]
theorem e_ifeF (h1 : ta q fr S = .ok false S1) (h2 : b q fr S1 = .ok x S2) : Z.ife ta a b q fr S = .ok x S2 := by rw [z_ife, h1, bnd_ok, if_neg (by decide), h2]
theorem e_tup2 (h1 : a q fr S = .ok x S1) (h2 : b q fr S1 = .ok y S2) : Z.tup (Z.cons a (Z.cons b Z.nil)) q fr S = .ok (Z.mkT [x, y]) S2 := by rw [z_tup, z_cons, h1, bnd_ok, z_cons, h2, bnd_ok, z_nil, bnd_ok, bnd_ok, bnd_ok]
theorem e_tup2z (h1 : a q fr S = .ok x S1) (h2 : b q fr S1 = .ok y S2) (h3 : Z.mkT [x, y] = z) : Z.tup (Z.cons a (Z.cons b Z.nil)) q fr S = .ok z S2 := by rw [e_tup2 h1 h2, h3]
theorem e_meL {m : Z.M} {ds : List D} (h1 : a q fr S = .ok x S1) (ht : tyD S1 x = some "list") (h2 : h q fr S1 = .ok ds S2) (h3 : Z.mD m x ds S2 = .ok z S3) : Z.me m a h q fr S = .ok z S3 := by rw [z_me, h1, bnd_ok, if_pos ht, h2, bnd_ok, h3]
theorem a_one (h1 : a q fr S = .ok x S1) : Z.cons a Z.nil q fr S = .ok [x] S1 := by rw [z_cons, h1, bnd_ok, z_nil, bnd_ok]
theorem tc_ne {u : T} (h1 : a q fr S = .ok x S1) (h2 : b q fr S1 = .ok y S2) (hx : tr 6 S2 x = some u) (hy : tr 6 S2 y = some u) (o : okEq u = true) : Z.tcmp .ne a b q fr S = .ok false S2 := by rw [z_tcmp, h1, bnd_ok, h2, bnd_ok, c_sameN hx hy o]
end
end Mi

set_option Elab.async false
set_option linter.all false
set_option maxRecDepth 100000
set_option maxHeartbeats 4000000
/-! N24: sum(x, []) of lists -/
namespace Mi
open PySem PySem.Spec PyProof.Rows L2
section
variable {prog : Program} {w : World} {A : Around} {R : Result → Shared → Prop} {I : Addr} {fp wr : List Addr} {n : Nat} {Pv : Nat → Value → Prop} {St : Nat → Shared → Prop}
abbrev GE : Array GenState → Array GenState → Prop := fun a b => b = a
/-- the lists that follow, laid behind what is there -/
def catV (val : Nat → List Value) : Nat → Nat → List Value → List Value
  | _, 0, acc => acc
  | i, k + 1, acc => catV val (i + 1) k (acc ++ val i)
theorem catV_len (val : Nat → List Value) : ∀ (k i : Nat) (acc : List Value), acc.length ≤ (catV val i k acc).length
  | 0, _, _ => Nat.le_refl _
  | k + 1, i, acc => by
    have := catV_len val k (i + 1) (acc ++ val i)
    rw [List.length_append] at this
    show acc.length ≤ (catV val (i + 1) k (acc ++ val i)).length
    omega
local macro_rules | `(tactic| walk_at "turn") => `(tactic| (
  refine codeAny_builtin F.entry_sum_loop ?_; rw [Around.under_plainId F.plain_sum_loop]
  change wpAny _ (Around.in1 _) (Bind.bind (seqItems? _) _) _ _ _; refine wpAny_bind (wpAny_seqItems (by assumption) rfl ?_)
  change wpAny _ (Around.in1 _) (Bind.bind (tryCatch (pyNext _) _) _) _ _ _; refine wpAny_bind (wpAny_tryCatch ?_)))
theorem sum_lists_loop (W : WalksS prog w A.in1 I fp wr GE n Pv St) (val : Nat → List Value) (adr : Nat → Addr) (cap : Nat → Nat) (hval : ∀ i v, Pv i v → v = Value.ref (adr i)) (S : Addr) (hSf : S ∉ fp) (hda : ∀ i, i < n → adr i ∉ S :: wr) (base : Heap) (hbw : ∀ b o, base.get? b = some o → b ∉ S :: wr) (hstl : ∀ i s, St i s → ∀ b ∈ fp, b < s.heap.objs.size) :
    ∀ (k i : Nat) (s : Shared) (acc : List Value) (p : Addr) (c d : Nat), n - i = k → i ≤ n → St i s → s.heap.get? S = some { cls := .type "list", dict := none, data := .seq #[.ref p] c, slots := #[] } → p ∉ S :: wr →
    PySem.IsL s.heap p acc.toArray d → (∀ j, j < n → PySem.IsL s.heap (adr j) (val j).toArray (cap j)) → (∀ b o, base.get? b = some o → s.heap.get? b = some o) → (catV val i k acc).length ≤ sizeLine →
    (∀ s' p', Moved (S :: wr) GE s s' → ((k = 0 ∧ p' = p) ∨ (p' ∉ S :: wr ∧ S < p')) → (∃ d, PySem.IsL s'.heap p' (catV val i k acc).toArray d) → R (.ok (.ret (.ref p'))) s') → codeAny (model prog w) A (.builtin "sum.loop" ⟨[.ref I, .ref S, rawInt 2, rawInt 0], []⟩) R s := by
  have nSw : S ∉ wr := fun z => absurd (W.sub S z) hSf
  have hsub : wr ⊆ S :: wr := List.subset_cons_of_subset S (List.Subset.refl wr)
  intro k
  induction k with
  | zero =>
    intro i s acc p c d hk hi hst hS hpS hp ha hB hlen hR
    have hin : i = n := by omega
    subst hin
    walk_at "turn"
    refine W.done s _ _ hst fun s' hm => ?_
    exact wpAny_pure (hR s' p (hm.mono fun _ h => hsub h) (.inl ⟨rfl, rfl⟩) ⟨d, hm.heap _ _ (fun h => hpS (hsub h)) hp⟩)
  | succ k ih =>
    intro i s acc p c d hk hi hst hS hpS hp ha hB hlen hR
    have hlt : i < n := by omega
    walk_at "turn"
    refine W.item i s _ _ hlt hst fun v s' hP hst' hm => ?_
    have ev := hval i v hP
    subst ev
    have hS' := hm.heap S _ nSw hS
    have hp' : PySem.IsL s'.heap p acc.toArray d := hm.heap _ _ (fun h => hpS (hsub h)) hp
    have ha' : ∀ j, j < n → PySem.IsL s'.heap (adr j) (val j).toArray (cap j) := fun j hj => hm.heap _ _ (fun h => hda j hj (hsub h)) (ha j hj)
    have hB' : ∀ b o, base.get? b = some o → s'.heap.get? b = some o := fun b o e => hm.heap b o (fun h => hbw b o e (hsub h)) (hB b o e)
    have hl3 : (acc ++ val i).length ≤ sizeLine := Nat.le_trans (catV_len val k (i + 1) (acc ++ val i)) hlen
    rw [List.length_append] at hl3
    show wpAny _ A.in1 ((holding [Value.ref (adr i)] (binaryOp .Add (.ref p) (.ref (adr i)))).attempt >>= _) _ _ _
    refine wpAny_bind (wpAny_attempt (wpAny_holding (PySem.P.add_list hp' (ha' i hlt) ?_ (by rw [List.size_toArray, List.size_toArray]; omega))))
    have hlS : S < s'.heap.objs.size := Heap.lt_size hS'
    have hfl := hstl _ _ hst'
    have hq : s'.heap.objs.size ∉ S :: wr := fun h => by
      rcases List.mem_cons.mp h with h | h
      · rw [← h] at hlS
        exact Nat.lt_irrefl _ hlS
      · exact Nat.lt_irrefl _ (hfl _ (W.sub _ h))
    have neq : S ≠ s'.heap.objs.size := fun z => by
      rw [← z] at hlS
      exact Nat.lt_irrefl _ hlS
    have ea : acc.toArray ++ (val i).toArray = (acc ++ val i).toArray := by simp
    rw [ea]
    show wpAny _ A.in1 (updateSeq S (fun _ => #[.ref s'.heap.objs.size]) >>= _) _ _ _
    have hS1 := Heap.get?_push_of_some { cls := .type "list", data := .seq (acc ++ val i).toArray } hS'
    have hq1 : PySem.IsL (s'.heap.push { cls := .type "list", data := .seq (acc ++ val i).toArray }) s'.heap.objs.size (acc ++ val i).toArray 0 := Heap.get?_push_size _ rfl
    generalize hh1 : s'.heap.push { cls := .type "list", data := .seq (acc ++ val i).toArray } = h1 at hS1 hq1
    have hk1 : ∀ b o, s'.heap.get? b = some o → h1.get? b = some o := fun b o e => by
      rw [← hh1]
      exact Heap.get?_push_of_some _ e
    refine wpAny_bind (wpAny_updateSeq hS1 rfl ?_)
    have hS₂ := Heap.get?_update_self (Obj.mapSeq fun _ => #[Value.ref s'.heap.objs.size]) hS1 rfl
    have hk2 : ∀ b o, b ≠ S → s'.heap.get? b = some o → (h1.update S (Obj.mapSeq fun _ => #[Value.ref s'.heap.objs.size])).get? b = some o := fun b o hb e => (Heap.get?_update_other _ _ (Ne.symm hb)).trans (hk1 b o e)
    have hq2 : PySem.IsL (h1.update S (Obj.mapSeq fun _ => #[Value.ref s'.heap.objs.size])) s'.heap.objs.size (acc ++ val i).toArray 0 := (Heap.get?_update_other _ _ neq).trans hq1
    generalize h1.update S (Obj.mapSeq fun _ => #[Value.ref s'.heap.objs.size]) = h2 at hS₂ hk2 hq2
    refine wpAny_bind (wpAny_letGo ?_)
    have hS3 := Heap.get?_update_self (Obj.mapSeq fun _ => #[Value.ref s'.heap.objs.size]) hS₂ rfl
    have hk3 : ∀ b o, b ≠ S → s'.heap.get? b = some o → (h2.update S (Obj.mapSeq fun _ => #[Value.ref s'.heap.objs.size])).get? b = some o := fun b o hb e => (Heap.get?_update_other _ _ (Ne.symm hb)).trans (hk2 b o hb e)
    have hq3 : PySem.IsL (h2.update S (Obj.mapSeq fun _ => #[Value.ref s'.heap.objs.size])) s'.heap.objs.size (acc ++ val i).toArray 0 := (Heap.get?_update_other _ _ neq).trans hq2
    refine wpAny_bind (wpAny_updateSeq hS₂ rfl (wpAny_pure ⟨plainId_quiet F.plain_sum_loop _, ?_⟩))
    generalize h2.update S (Obj.mapSeq fun _ => #[Value.ref s'.heap.objs.size]) = h3 at hS3 hk3 hq3
    have nS : ∀ b, b ∉ S :: wr → b ≠ S := fun b hb z => hb (z ▸ List.mem_cons_self)
    refine ih (i + 1) _ (acc ++ val i) s'.heap.objs.size _ 0 (by omega) hlt (W.frame _ s' _ _ hst' (Nat.le_refl _) fun b hb o e => hk3 b o (fun z => hSf (z ▸ hb)) e) hS3 hq hq3 (fun j hj => hk3 _ _ (nS _ (hda j hj)) (ha' j hj)) (fun b o e => hk3 b o (nS _ (hbw b o e)) (hB' b o e)) hlen ?_
    intro s'' p' hm'' hp'' hd
    refine hR s'' p' (Moved.trans W.gtrans ((hm.mono fun _ h => hsub h).then_heap (Nat.le_refl _) fun b o hb e => hk3 b o (nS _ hb) e) hm'') (.inr ?_) hd
    rcases hp'' with ⟨_, rfl⟩ | h
    · exact ⟨hq, hlS⟩
    · exact h
/-- sum(l, z): the lists of l, one behind the other -/
theorem call_sum_lists {E : Value → Shared → Prop} {s : Shared} {l z : Addr} {its : List Value} {val : Nat → List Value} {adr : Nat → Addr} {cap : Nat → Nat} {d : Nat} {Q : Value → Shared → Prop} (hh : A.handled = none) (hl : s.heap.IsList l its.toArray) (hits : ∀ i v, its[i]? = some v → v = Value.ref (adr i)) (hval : ∀ i, i < its.length → PySem.IsL s.heap (adr i) (val i).toArray (cap i)) (hz : PySem.IsL s.heap z (#[] : Array Value) d) (hlen : (catV val 0 its.length []).length ≤ sizeLine)
    (h : ∀ s' p', (∀ b o, s.heap.get? b = some o → s'.heap.get? b = some o) → s'.gens = s.gens → s'.os = s.os → s'.drawn = s.drawn → ((its = [] ∧ p' = z) ∨ s.heap.objs.size ≤ p') → (∃ d, PySem.IsL s'.heap p' (catV val 0 its.length []).toArray d) → Q (Value.ref p') s') :
    wpAny (model prog w) A (call (.builtin "sum") [.ref l, .ref z]) Q E s := by
  refine call_function_tree F.kind_sum F.plain_sum F.entry_sum (by unfold argsOk; kernel_rfl) ?_
  unfold Builtin.«sum»
  simp only [List.length_cons, List.length_nil]
  rw [if_neg (by decide)]
  refine wpAny_bind (wpAny_of_eq (show Builtin.Builtins.bindParams "sum" ["start"] 0 ⟨[Value.ref z], []⟩ = pure [some (Value.ref z)] from rfl) ?_)
  refine wpAny_bind (PySem.W.iter_listW (A := A.in1) hh hl fun s₂ e2 W st hfp hnew hold => ?_)
  refine wpAny_bind (wpAny_pure ?_)
  simp only [List.forIn_cons, List.forIn_nil]
  have hz2 : PySem.IsL s₂.heap z (#[] : Array Value) d := hold _ _ hz
  have hT : s₂.TypeIs (.ref z) "list" := ⟨_, hz2, rfl⟩
  refine wpAny_bind (wpAny_bind (wpAny_bind (wpAny_isInstance hT F.sub_list_str ?_))); rw [if_neg Bool.false_ne_true]
  refine wpAny_pure (wpAny_bind (wpAny_bind (wpAny_isInstance hT F.sub_list_bytes ?_))); rw [if_neg Bool.false_ne_true]
  refine wpAny_pure (wpAny_bind (wpAny_bind (wpAny_isInstance hT F.sub_list_bytearray ?_))); rw [if_neg Bool.false_ne_true]
  refine wpAny_pure (wpAny_pure (wpAny_bind (wpAny_newObj_type ?_)))
  have hsz2 : s₂.heap.objs.size = s.heap.objs.size + 1 := by
    rw [e2]
    exact Heap.size_push _ _
  have hSf : s₂.heap.objs.size ∉ [s.heap.objs.size, l] := fun hm => Nat.lt_irrefl _ (hfp _ hm)
  have hbw : ∀ b o, s.heap.get? b = some o → b ∉ s₂.heap.objs.size :: [s.heap.objs.size] := fun b o e hb => by
    have := Heap.lt_size e
    rcases List.mem_cons.mp hb with hb | hb
    · rw [hb, hsz2] at this
      exact absurd (Nat.lt_of_succ_lt this) (Nat.lt_irrefl _)
    · rw [List.mem_singleton.mp hb] at this
      exact Nat.lt_irrefl _ this
  have hkp : ∀ b o, s.heap.get? b = some o → (s₂.heap.push { cls := .type "list", data := .seq #[Value.ref z] }).get? b = some o := fun b o e => Heap.get?_push_of_some _ (hold b o e)
  refine wpAny_pure ⟨plainId_quiet F.plain_sum_loop _, sum_lists_loop W val adr cap (fun i v hv => hits i v (by simpa using hv)) s₂.heap.objs.size hSf (fun i hi => hbw _ _ (hval i (by simpa using hi))) s.heap hbw (fun i s hs b hb => ?_) its.length 0 _ [] z 0 d (by simp) (Nat.zero_le _)
    (W.frame 0 s₂ _ _ st (Nat.le_refl _) fun b _ o e => Heap.get?_push_of_some _ e) (Heap.get?_push_size _ rfl) (hbw _ _ hz) (hkp _ _ hz) (fun j hj => hkp _ _ (hval j (by simpa using hj))) hkp hlen fun s' p' hm hp hd => ?_⟩
  · rcases List.mem_cons.mp hb with rfl | hb
    · obtain ⟨_, e, _⟩ := hs.1
      exact Heap.lt_size e
    · rw [List.mem_singleton.mp hb]
      obtain ⟨_, e, _⟩ := hs.2
      exact Heap.lt_size e
  · have eg : s'.gens = s.gens := by
      have := hm.gens
      rw [this, e2]
    have eo : s'.os = s.os := by
      have := hm.os
      rw [this, e2]
    have ed : s'.drawn = s.drawn := by
      have := hm.drawn
      rw [this, e2]
    refine h s' p' (fun b o e => hm.heap b o (hbw b o e) (hkp b o e)) eg eo ed ?_ hd
    rcases hp with ⟨h0, rfl⟩ | ⟨_, h1⟩
    · exact .inl ⟨List.eq_nil_of_length_eq_zero h0, rfl⟩
    · refine .inr ?_
      rw [hsz2] at h1
      exact Nat.le_of_lt (Nat.lt_of_succ_lt h1)
end
/-! ### the layer's rule -/
def catX {α : Type} (val : Nat → List α) : Nat → Nat → List α → List α
  | _, 0, acc => acc
  | i, k + 1, acc => catX val (i + 1) k (acc ++ val i)
theorem catV_X (val : Nat → List Value) : ∀ (k i : Nat) (acc : List Value), catV val i k acc = catX val i k acc
  | 0, _, _ => rfl
  | k + 1, i, acc => catV_X val k (i + 1) (acc ++ val i)
theorem catX_vals {ys : Nat → List V} {val : Nat → List Value} : ∀ (k i : Nat) (acc : List V) (acc2 : List Value), (∀ j, i ≤ j → j < i + k → Vals (ys j) (val j)) → Vals acc acc2 → Vals (catX ys i k acc) (catX val i k acc2)
  | 0, _, _, _, _, h => h
  | k + 1, i, acc, acc2, hv, h => catX_vals k (i + 1) _ _ (fun j h1 h2 => hv j (by omega) (by omega)) (h.append (hv i (Nat.le_refl _) (by omega)))
theorem catX_rep {K : PySem.W.Frag} {G : Lk} {ys : Nat → List V} {zs : Nat → List T} : ∀ (k i : Nat) (acc : List V) (acc2 : List T), (∀ j, i ≤ j → j < i + k → RepL K G (ys j) (zs j)) → RepL K G acc acc2 → RepL K G (catX ys i k acc) (catX zs i k acc2)
  | 0, _, _, _, _, h => h
  | k + 1, i, acc, acc2, hv, h => catX_rep k (i + 1) _ _ (fun j h1 h2 => hv j (by omega) (by omega)) (h.append (hv i (Nat.le_refl _) (by omega)))
theorem catX_list {α : Type} {val : Nat → List α} : ∀ (xss : List (List α)) (i : Nat) (acc : List α), (∀ j, j < xss.length → xss[j]? = some (val (i + j))) → catX val i xss.length acc = acc ++ xss.flatten
  | [], _, acc, _ => (List.append_nil acc).symm
  | xs :: xss, i, acc, h => by
    have h0 := h 0 (Nat.zero_lt_succ _)
    have e0 : xs = val i := Option.some.inj h0
    show catX val (i + 1) xss.length (acc ++ val i) = _
    rw [catX_list xss (i + 1) (acc ++ val i) (fun j hj => by
      have := h (j + 1) (Nat.succ_lt_succ hj)
      rw [show i + 1 + j = i + (j + 1) by omega]
      exact this), List.flatten_cons, ← e0, List.append_assoc]
section
variable {X : Cx}
def rSumL (K : PySem.W.Frag) : List V → Hp → VK → Prop := fun vs H Q => ∃ (a z : Addr) (os : List V) (ys : Nat → List V), vs = [V.ref a, V.ref z] ∧ SqL K H a os ∧ H z = some (.lst []) ∧ (∀ i v, os[i]? = some v → ∃ b, v = .ref b ∧ H b = some (.lst (ys i))) ∧ (catX ys 0 os.length []).length ≤ sizeLine ∧
  (os = [] → Q (.ref z) H) ∧ ∀ p, H p = none → Q (.ref p) (upd H p (.lst (catX ys 0 os.length [])))
theorem cr_sumL (hc : X.calm = true) : CallR X (.builtin "sum") (rSumL X.K) := by
  intro pins s σ H vs us Q I r h
  obtain ⟨a, z, os, ys, rfl, hs, hz, hit, hlen, q0, q⟩ := h
  obtain ⟨its, rv, hl, _⟩ := I.list hs
  have hus : us = [.ref a, .ref z] := by
    cases r with
    | cons r1 r2 =>
      cases r2 with
      | cons r2 r3 =>
        cases r3
        cases r1
        cases r2
        rfl
  rw [hus]
  have hln := rv.length
  obtain ⟨_, zs, dz, rz, lz, ez⟩ := I.lstM hz
  have ezs : zs = [] := by cases rz; rfl
  subst ezs
  have ex : ∀ i, ∃ (b : Addr) (us : List Value) (n : Nat), i < its.length → its[i]? = some (.ref b) ∧ PySem.IsL s.heap b us.toArray n ∧ Vals (ys i) us := fun i => by
    by_cases hi : i < its.length
    · have ho : os[i]? = some (os[i]'(by omega)) := List.getElem?_eq_getElem (by omega)
      obtain ⟨b, eb, hb⟩ := hit i _ ho
      obtain ⟨u, hu, ru⟩ := rv.get ho
      rw [eb] at ru
      cases ru
      obtain ⟨_, ws, n, rw_, _, ew⟩ := I.lstM hb
      exact ⟨b, ws, n, fun _ => ⟨hu, ew, rw_⟩⟩
    · exact ⟨0, [], 0, fun h => absurd h hi⟩
  let adr : Nat → Addr := fun i => (ex i).choose
  let val : Nat → List Value := fun i => (ex i).choose_spec.choose
  let cap : Nat → Nat := fun i => (ex i).choose_spec.choose_spec.choose
  have hex : ∀ i, i < its.length → its[i]? = some (.ref (adr i)) ∧ PySem.IsL s.heap (adr i) (val i).toArray (cap i) ∧ Vals (ys i) (val i) := fun i => (ex i).choose_spec.choose_spec.choose_spec
  have hvv : Vals (catX ys 0 os.length []) (catX val 0 its.length []) := by
    rw [hln]
    exact catX_vals its.length 0 [] [] (fun j _ hj => (hex j (by omega)).2.2) .nil
  refine call_sum_lists (val := val) (adr := adr) (cap := cap) (I.ok.hd hc) hl.isList (fun i v hv => ?_) (fun i hi => (hex i hi).2.1) ez (by rw [catV_X, ← hvv.length]; exact hlen) fun s' p' hk eg eo ed hp hd => ?_
  · have hi := (List.getElem?_eq_some_iff.mp hv).1
    have := (hex i hi).1
    rw [hv] at this
    exact Option.some.inj this
  · have es : s' = { s with heap := s'.heap, toks := s'.toks } := by
      cases s'
      cases s
      simp only at eg eo ed
      subst eg
      subst eo
      subst ed
      rfl
    rcases hp with ⟨h0, rfl⟩ | hp
    · rw [es]
      refine ⟨.ref _, H, I.kept hk, rfl, q0 ?_⟩
      exact List.eq_nil_of_length_eq_zero (by rw [hln, h0]; rfl)
    · obtain ⟨d, hd⟩ := hd
      rw [catV_X] at hd
      rw [es]
      exact ⟨.ref _, _, I.laid (t' := s'.toks) (o := .lst (catX ys 0 os.length [])) hk hp ⟨hlen, _, d, hvv, hd⟩, rfl, q _ (I.hok.fresh hp)⟩
end
/-- a list of anything -/
def sqdL (S : Store) : D → Option (List D)
  | .newo ds => some ds
  | .cell n => match rd S n with
    | some (.lst xs) => some (xs.map D.t)
    | some (.lsto ds) => some ds
    | _ => none
  | .t (.lst xs) => some (xs.map D.t)
  | .new xs => some (xs.map D.t)
  | _ => none
def sumLD (x : D) (S : Store) : R D := match (sqdL S x).bind (catL S) with
  | some xs => if xs.length ≤ okL then .ok (.new xs) S else .no
  | none => .no
/-- sum(f, []) -/
def Z.suml (f : XE) : XE := fun q fr S => (f q fr S).bnd fun x S1 => sumLD x S1
section
variable {K : PySem.W.Frag} {S : Store} {μ : Nat → Addr} {H F : Hp} {as : List Addr}
theorem sqdL_rep (A : Hs K S μ H F) {v : V} {x : D} {ds : List D} (r : RepN K S.length μ F H v x as) (e : sqdL S x = some ds) : ∃ a vs bs, v = .ref a ∧ H a = some (.lst vs) ∧ RepNs K S.length μ F H vs ds bs ∧ bs.Sublist as := by
  have viaT : ∀ {xs : List T}, sq S x = some xs → ds = xs.map D.t → ∃ a vs bs, v = .ref a ∧ H a = some (.lst vs) ∧ RepNs K S.length μ F H vs ds bs ∧ bs.Sublist as := fun {xs} q1 q2 => by
    subst q2
    obtain ⟨a, vs, rfl, h1, h2⟩ := sq_rep A r q1
    exact ⟨a, vs, [], rfl, h1, h2.toN, List.nil_sublist _⟩
  cases r with
  | c r =>
    cases r with
    | t r =>
      rename_i y
      cases y with
      | lst ys =>
        cases e
        exact viaT rfl rfl
      | _ => cases e
    | cell hn =>
      rename_i n
      unfold sqdL at e
      simp only at e
      split at e
      · rename_i ys q
        cases e
        refine viaT (xs := ys) ?_ rfl
        unfold sq
        simp only [q]
      · rename_i ys q
        cases e
        obtain ⟨u, _, hu, ho, h1, h2⟩ := rd_cell A q
        cases u with
        | lsto zs =>
          cases hu
          cases ho <;> first | exact h2.elim | skip
          exact ⟨_, _, [], rfl, h1, h2.toN, List.nil_sublist _⟩
        | lck o =>
          cases hu
          cases ho <;> first | exact h2.elim | skip
          exact ⟨_, _, [], rfl, h1, h2.toN, List.nil_sublist _⟩
        | _ => cases hu
      · cases e
  | new h1 h2 =>
    cases e
    exact ⟨_, _, [], rfl, h1, h2.toN, List.nil_sublist _⟩
  | newd _ _ => cases e
  | newo h1 h2 =>
    cases e
    exact ⟨_, _, _, rfl, h1, h2, List.sublist_cons_self ..⟩
  | tupo h1 h2 => cases e
theorem catL_get {S : Store} : ∀ {ds : List D} {xs : List T}, catL S ds = some xs → ∃ xss : List (List T), xss.length = ds.length ∧ xss.flatten = xs ∧ ∀ (j : Nat) (d : D), ds[j]? = some d → ∃ ys, xss[j]? = some ys ∧ sq S d = some ys
  | [], xs, h => by
    cases h
    exact ⟨[], rfl, rfl, fun j d hd => by cases hd⟩
  | d :: ds, xs, h => by
    unfold catL at h
    cases q : sq S d with
    | none =>
      rw [q] at h
      cases h
    | some a =>
      rw [q] at h
      dsimp only at h
      cases q2 : catL S ds with
      | none =>
        rw [q2] at h
        cases h
      | some zs =>
        rw [q2] at h
        cases h
        obtain ⟨xss, h1, h2, h3⟩ := catL_get q2
        refine ⟨a :: xss, by rw [List.length_cons, List.length_cons, h1], by rw [List.flatten_cons, h2], fun j e he => ?_⟩
        cases j with
        | zero =>
          cases he
          exact ⟨a, rfl, q⟩
        | succ j => exact h3 j e he
end
section
variable {X : Cx} {gi : GI} {k : Nat} {pos p1 p2 : Pos} {e a : Expr} {f g : XE}
theorem sem_suml {x : Str} {p p3 : Pos} (hc : X.calm = true) (n : Bi X x (.builtin "sum")) (h1 : SemE X gi k e f) (hs1 : starEach [e, Expr.List [] p3] X.env = (false, eval e X.env) :: starEach [Expr.List [] p3] X.env) (hs2 : starEach [Expr.List [] p3] X.env = [(false, eval (Expr.List [] p3) X.env)]) (hpl : (backTo pos (starEach [Expr.List [] p3] X.env)).any (·.1) = false) :
    SemE X gi k (.Call (.Name x p) [e, .List [] p3] [] pos) (Z.suml f) := by
  intro er q lk W tk fr S μ σ H F A Q w
  have h2 : SemE X gi k (.List [] p3) (Z.lst Z.nil) := sem_lst sea_nil (Nat.zero_le _)
  refine ⟨_, pe_callB (cr_sumL hc) n.g n.m n.b (pa_cons pe_sem (pa_cons pe_sem pa_nil hs2) hs1) n.n n.d hs1 hpl, h1.go lk tk A .refl w fun d S1 μ1 H1 F1 v as A1 P1 r1 o1 w1 => ?_⟩
  have w1' : WR X.K er W q.L fr σ S μ H F ((Z.lst Z.nil q fr S1).bnd fun d2 S2 => match d2 with
    | .new [] => sumLD d S2
    | _ => .no) (KE X.K H Q) := w1
  refine h2.go lk tk A1 P1 w1' fun d2 S2 μ2 H2 F2 u bs A2 P2 r2 o2 w2 => ?_
  split at w2
  · obtain ⟨r1', _⟩ := r1.keep o1 P2
    cases r2 with
    | c r2 => cases r2
    | @new z zs _ hz rz =>
      have ezs : zs = [] := by cases rz; rfl
      subst ezs
      unfold sumLD at w2
      split at w2
      · rename_i xs ex
        split at w2
        · rename_i hxl
          cases q1 : sqdL S2 d with
          | none =>
            rw [q1] at ex
            cases ex
          | some ds =>
            rw [q1] at ex
            have ex : catL S2 ds = some xs := ex
            obtain ⟨a, vs, cs, rfl, ha, hvs, _⟩ := sqdL_rep A2.hs r1' q1
            obtain ⟨xss, e1, e2, e3⟩ := catL_get ex
            have hln := hvs.length
            have hit : ∀ i, ∃ ws : List V, i < vs.length → (∃ b, vs[i]? = some (.ref b) ∧ H2 b = some (.lst ws)) ∧ RepL X.K (At F2) ws ((xss[i]?).getD []) := fun i => by
              by_cases hi : i < vs.length
              · have hd : ds[i]? = some (ds[i]'(by omega)) := List.getElem?_eq_getElem (by omega)
                obtain ⟨v, cs2, hv, rv, _⟩ := hvs.get hd
                obtain ⟨ys, hy, hq⟩ := e3 i _ hd
                obtain ⟨b, ws, rfl, hb, hr⟩ := sq_rep A2.hs rv hq
                exact ⟨ws, fun _ => ⟨⟨b, hv, hb⟩, by rw [hy]; exact hr⟩⟩
              · exact ⟨[], fun h => absurd h hi⟩
            let ys : Nat → List V := fun i => (hit i).choose
            have hys := fun i => (hit i).choose_spec
            have ecat : catX (fun i => (xss[i]?).getD []) 0 vs.length [] = xs := by
              have := catX_list (val := fun i => (xss[i]?).getD []) xss 0 [] (fun j hj => by
                rw [Nat.zero_add, List.getElem?_eq_getElem hj]
                rfl)
              rw [hln, ← e1, this, e2]
              rfl
            have hrep : RepL X.K (At F2) (catX ys 0 vs.length []) xs := by
              rw [← ecat]
              exact catX_rep vs.length 0 [] [] (fun j _ hj => (hys j (by omega)).2) .nil
            refine ⟨a, z, vs, ys, rfl, SqL.of ha, hz, fun i v hv => ?_, ?_, fun h0 => ?_, fun p hp => giveN w2 A2 (P1.trans P2) hp hrep⟩
            · have hi := (List.getElem?_eq_some_iff.mp hv).1
              obtain ⟨b, hb1, hb2⟩ := (hys i hi).1
              rw [hv] at hb1
              exact ⟨b, Option.some.inj hb1, hb2⟩
            · rw [hrep.length, sizeLine_eq]
              have : (okL : Nat) = 16000000 := rfl
              omega
            · have hx0 : xs = [] := by
                rw [← ecat, h0]
                rfl
              subst hx0
              exact give w2 A2 (P1.trans P2) (.new hz .nil) (o2.start P1.dom)
        · exact w2.elim
      · exact w2.elim
  · exact w2.elim
end
end Mi

set_option Elab.async false
set_option linter.all false
set_option maxRecDepth 100000
set_option maxHeartbeats 4000000
/-! N25: set(a list of whole numbers), sorted(set(..)) -/
namespace Mi
open PySem PySem.Spec PyProof.Rows L2
local macro_rules | `(tactic| walk_at "st") => `(tactic| repeat (any_goals (first | assumption | wp_step)))
section
variable {P : Program} {w : World} {A : Around} {E : Value → Shared → Prop} {s : Shared}
abbrev setNew (w : World) : Obj := { cls := .type "set", dict := none, data := .set #[] 0 (.fresh 0 0 (!w.params.followText "set-order")) }
/-- what a set's __init__ is to do: fill it -/
theorem set_made {a : Value} {Q : Value → Shared → Prop}
    (fill : wpAny (model P w) A.in1.in1 (Builtin.«set.__init__» ⟨[.ref s.heap.objs.size, a], []⟩)
      (fun fin s' => match fin with | .done f => wants (fun r s₂ => r = .none ∧ Q (.ref s.heap.objs.size) s₂) E (.ok f) s' | .again c' => c'.quiet = true ∧ codeAny (model P w) A.in1 c' (wants (fun r s₂ => r = .none ∧ Q (.ref s.heap.objs.size) s₂) E) s')
      (fun e s' => wants (fun r s₂ => r = .none ∧ Q (.ref s.heap.objs.size) s₂) E (.error e) s') { s with heap := s.heap.push (setNew w) }) :
    wpAny (model P w) A (call (.type "set") [a]) Q E s := by
  have mro := F.called_set.mro
  obtain ⟨mc, mt, mro⟩ := mro
  have made := F.called_set.made; have sub := F.called_set.sub; have nt := F.called_set.notType; have cc := F.called_set.canCreate; have tc := F.typeCall_set_1 a
  have isset : Shared.TypeIs { s with heap := s.heap.push (setNew w) } (.ref s.heap.objs.size) "set" := ⟨_, Heap.get?_push_size _ rfl, rfl⟩
  have look := F.called_set.init.lookup; have bnd := F.called_set.init.bind (.ref s.heap.objs.size)
  refine wpAny_call (codeAny_of_tree (wpAny_pure ⟨Code.quiet_builtin _ (by decide +kernel), codeAny_builtin F.entry_type_call ?_⟩))
  rw [Around.under_plain (weight_type_call_type "set" [a] []) rfl]
  walk_at "st"
  refine codeAny_mono (code_set_led1 a (E := E) (Q₁ := fun o s₁ => o = .ref s.heap.objs.size ∧ s₁ = { s with heap := s.heap.push (setNew w) }) ⟨rfl, rfl⟩) ?_
  rintro (e | fl) s₁ hr
  · exact hr
  cases fl with
  | ret o =>
    obtain ⟨rfl, rfl⟩ := hr
    walk_at "st"
    refine codeAny_mono (codeAny_call_builtin F.called_set.init.plain F.entry_set_init (check_set_init_1 isset fill)) ?_
    rintro (e | fl2) s₂ h2
    · exact h2
    cases fl2 with
    | ret r =>
      obtain ⟨rfl, h2⟩ := h2
      walk_at "st"
    | _ => exact h2.elim
  | _ => exact hr.elim
theorem call_set_R {l : Addr} {items : Array Value} (ns : List Int) {Q : Value → Shared → Prop} (hh : A.handled = none) (hl : s.heap.IsList l items) (hit : IntsAre items.toList ns) (hb : ns.length + 1 < scanBound)
    (h : ∀ (h' : Heap) (tk c : Nat), SetR w h' s.heap.objs.size (fun j => decide (j ∈ ns)) c → (∀ b o, s.heap.get? b = some o → h'.get? b = some o) → Q (.ref s.heap.objs.size) { s with heap := h', toks := tk }) :
    wpAny (model P w) A (call (.type "set") [.ref l]) Q E s := by
  have hisz : ns.length = items.size := (IntsAre.length hit).symm.trans Array.length_toList
  have hS : (s.heap.push (setNew w)).get? s.heap.objs.size = some (setNew w) := Heap.get?_push_size _ rfl
  have hl1 := hl.push (setNew w)
  have hlt : l < s.heap.objs.size := by
    obtain ⟨o, e, _⟩ := hl
    exact Heap.lt_size e
  obtain ⟨ol, hol, hcl, nl, hdl⟩ := hl1
  obtain ⟨ocls, odict, odata, oslots⟩ := ol
  have hcl : ocls = .type "list" := hcl
  have hdl : odata = .seq items nl := hdl
  subst hcl
  subst hdl
  have hl1 : (s.heap.push (setNew w)).IsList l items := ⟨_, hol, rfl, nl, rfl⟩
  refine set_made ?_
  have k1 := F.sub_list_set; have k2 := F.sub_list_frozenset
  have k3 : (Value.type "list" == Value.type "dict") = false := by decide
  unfold Builtin.«set.__init__» noKeywords Builtin.Frozenset.updateFrom
  generalize hPI : pyIter = PI
  wp_walk
  subst hPI
  have hh3 : A.in1.in1.in1.handled = none := by simp [hh]
  refine wpAny_pyIter_list hl1 (wpAny_bind (wpAny_runValue ?_))
  have zsz : (s.heap.push (setNew w)).objs.size = s.heap.objs.size + 1 := Heap.size_push ..
  have nl1 : l ≠ (s.heap.push (setNew w)).objs.size := fun z => by
    rw [zsz] at z
    rw [z] at hlt
    exact absurd (Nat.lt_of_succ_lt hlt) (Nat.lt_irrefl _)
  have nS : s.heap.objs.size ∉ [(s.heap.push (setNew w)).objs.size, l] := fun z => by
    rcases List.mem_cons.mp z with z | z
    · rw [zsz] at z
      exact absurd z (Nat.ne_of_lt (Nat.lt_succ_self _))
    · rw [← List.mem_singleton.mp z] at hlt
      exact Nat.lt_irrefl _ hlt
  have kept : ∀ b o, s.heap.get? b = some o → b ∉ s.heap.objs.size :: [(s.heap.push (setNew w)).objs.size] := fun b o e z => by
    have hb := Heap.lt_size e
    rcases List.mem_cons.mp z with z | z
    · rw [z] at hb
      exact Nat.lt_irrefl _ hb
    · rw [List.mem_singleton.mp z, zsz] at hb
      exact absurd (Nat.lt_of_succ_lt hb) (Nat.lt_irrefl _)
  refine set_update_ints (Walks.list hh3 _ l nl1 items).toS s.heap.objs.size nS ns hisz.symm hb (fun i v hv => ?_) (items.size - 0) 0 _ (by omega) (Nat.zero_le _) ⟨⟨_, Heap.get?_push_size _ rfl, rfl, rfl⟩, hl1.push _⟩ ⟨0, Nat.le_refl 0, setR_new_at (Heap.get?_push_of_some _ hS)⟩ fun s' c hm hc hR => ?_
  · have hi : i < ns.length := by rw [hisz]; exact (Array.getElem?_eq_some_iff.mp hv).1
    obtain ⟨t, e⟩ := PyProof.Rows.IntsAre.int_at hit i v (by rw [Array.getElem?_toList]; exact hv)
    have en : ns[i]? = some ns[i] := List.getElem?_eq_getElem hi
    refine ⟨ns[i], t, en, ?_⟩
    rw [e, List.getD_eq_getElem?_getD, en]
    rfl
  · obtain ⟨h', g', d', tk', os'⟩ := s'
    have eg : g' = s.gens := hm.gens
    have ed : d' = s.drawn := hm.drawn
    have eo : os' = s.os := hm.os
    subst eg
    subst ed
    subst eo
    exact wpAny_pure (wpAny_pure ⟨rfl, h h' tk' c hR fun b o e => hm.heap b o (kept b o e) (Heap.get?_push_of_some _ (Heap.get?_push_of_some _ e))⟩)
/-! the layer's rules -/
def rSetL (K : PySem.W.Frag) (w : World) : List V → Hp → VK → Prop := fun vs H Q => ∃ (a : Addr) (ns : List Int), vs = [V.ref a] ∧ SqL K H a (ns.map V.int) ∧ ns.length + 1 < scanBound ∧ ∀ p, H p = none → Q (.ref p) (upd H p (SetO w p (fun j => decide (j ∈ ns)) (dedup ns).length))
theorem dedup_mem {k : Int} : ∀ {ns : List Int}, k ∈ dedup ns ↔ k ∈ ns
  | [] => Iff.rfl
  | n :: ns => by
    unfold dedup
    split
    · rename_i h
      rw [dedup_mem, List.mem_cons]
      exact ⟨.inr, fun z => z.elim (fun e => e ▸ List.contains_iff_mem.mp h) id⟩
    · rw [List.mem_cons, List.mem_cons, dedup_mem]
theorem dedup_nd : ∀ ns : List Int, (dedup ns).Nodup
  | [] => List.nodup_nil
  | n :: ns => by
    unfold dedup
    split
    · exact dedup_nd ns
    · rename_i h
      exact List.nodup_cons.mpr ⟨fun z => h (List.contains_iff_mem.mpr (dedup_mem.mp z)), dedup_nd ns⟩
theorem nd_perm {l k : List Int} (h1 : l.Nodup) (h2 : k.Nodup) (h : ∀ x, x ∈ l ↔ x ∈ k) : l.Perm k := (List.perm_ext_iff_of_nodup h1 h2).mpr h
theorem setR_size {h : Heap} {a : Addr} {ns : List Int} {c : Nat} (R : SetR w h a (fun j => decide (j ∈ ns)) c) : c = (dedup ns).length := by
  obtain ⟨o, es, ep, t, _, _, _, _, nd, hm, _, _, hn, _⟩ := R
  have hp := nd_perm nd (dedup_nd ns) fun x => by
    rw [← hm x, dedup_mem]
    exact ⟨of_decide_eq_true, decide_eq_true⟩
  rw [← hp.length_eq, List.length_map, Array.length_toList]
  exact hn.symm
theorem cr_setL {X : Cx} (hc : X.calm = true) : CallR X (.type "set") (rSetL X.K X.w) := by
  rintro pins s σ H _ us Q I r ⟨a, ns, rfl, hs, hb, q⟩
  obtain ⟨its, rv, hl, _⟩ := I.list hs
  rw [Vals.ref1 r]
  refine call_set_R ns (I.ok.hd hc) hl.isList rv.ints hb fun h' tk c hR hk => ?_
  have ec := setR_size hR
  subst ec
  exact ⟨.ref _, _, I.laid (t' := tk) hk (Nat.le_refl _) (setO_new hR), rfl, q _ (I.hok.fresh (Nat.le_refl _))⟩
theorem cr_lenSet {X : Cx} : CallR X (.builtin "len") (fun vs H Q => ∃ (a : Addr) (S : Int → Bool) (n : Nat), vs = [V.ref a] ∧ H a = some (SetO X.w a S n) ∧ Q (.int (n : Nat)) H) := by
  rintro pins s σ H _ us Q I r ⟨a, S, n, rfl, ha, q⟩
  obtain ⟨o, es, ep, t, ho, hex, hd, _, _, _, hb, hf, hn, _⟩ := setO_get I ha
  rw [Vals.ref1 r]
  have hb : es.size < 4096 := hb
  refine call_len_set ho hex hd hf (by omega) ?_
  exact ⟨.int _, H, I.tok _, ⟨_, by rw [← hn]⟩, q⟩
end
/-- sorted(set(f)), fewer than 64 -/
def Z.ssort (f : XE) : XE := fun q fr S => (f q fr S).bnd fun x S1 => match intsD S1 x with
  | some ns => if ns.length ≤ 4000 ∧ (dedup ns).length < 64 then .ok (.new ((sortI (dedup ns)).map T.int)) S1 else .no
  | none => .no
/-- len(set(f)) -/
def Z.slen (f : XE) : XE := fun q fr S => (f q fr S).bnd fun x S1 => match intsD S1 x with
  | some ns => if ns.length ≤ 4000 then .ok (.t (.int ((dedup ns).length : Nat))) S1 else .no
  | none => .no
section
variable {X : Cx} {gi : GI} {k : Nat} {pos p1 p2 : Pos} {e a : Expr} {f g : XE}
theorem sem_ssort {p p3 p4 : Pos} (hc : X.calm = true) (n1 : Bi X "sorted" (.builtin "sorted")) (n2 : Bi X "set" (.type "set")) (h1 : SemE X gi k e f) (hs : starEach [e] X.env = [(false, eval e X.env)]) (hs2 : starEach [Expr.Call (.Name "set" p3) [e] [] p4] X.env = [(false, eval (Expr.Call (.Name "set" p3) [e] [] p4) X.env)]) :
    SemE X gi k (.Call (.Name "sorted" p) [.Call (.Name "set" p3) [e] [] p4] [] pos) (Z.ssort f) := by
  intro er q lk W tk fr S μ σ H F A Q w
  refine ⟨_, pe_callB (cr_sortedSet hc) n1.g n1.m n1.b (pa_cons (pe_callTy (cr_setL hc) n2.g n2.m n2.b (pa_cons pe_sem pa_nil hs) n2.n n2.d hs rfl) pa_nil hs2) n1.n n1.d hs2 rfl, h1.go lk tk A .refl w fun d S1 μ1 H1 F1 v as A1 P1 r1 o1 w1 => ?_⟩
  cases hi : intsD S1 d with
  | none =>
    rw [hi] at w1
    exact w1.elim
  | some ns =>
    rw [hi] at w1
    dsimp only at w1
    split at w1
    · rename_i hn
      obtain ⟨a, rfl, h2⟩ := sqI_rep A1.hs r1 hi
      refine ⟨a, ns, rfl, SqL.of h2, by show ns.length + 1 < 4096; omega, fun p hp => ⟨p, _, _, rfl, upd_same, hn.2, fun ms m so hm hl hq => ?_⟩⟩
      have P2 := stp_laid (L := q.L) (S := S1) (μ := μ1) (F := F1) (o := SetO X.w p (fun j => decide (j ∈ ns)) (dedup ns).length) hp
      have em : ms = sortI (dedup ns) := by
        refine sort_uniq ?_ (so.imp fun h => Int.le_of_lt h) (sortI_sorted _)
        refine (nd_perm (so.imp fun h => Int.ne_of_lt h) (dedup_nd ns) fun x => ?_).trans (sortI_perm _).symm
        rw [hm x, dedup_mem]
        exact ⟨of_decide_eq_true, decide_eq_true⟩
      rw [em]
      exact giveN w1 (A1.hsof P2 (A1.hs.laid hp)) (P1.trans P2) hq RepL.of_ints
    · exact w1.elim
theorem sem_slen {p p3 p4 : Pos} (hc : X.calm = true) (n1 : Bi X "len" (.builtin "len")) (n2 : Bi X "set" (.type "set")) (h1 : SemE X gi k e f) (hs : starEach [e] X.env = [(false, eval e X.env)]) (hs2 : starEach [Expr.Call (.Name "set" p3) [e] [] p4] X.env = [(false, eval (Expr.Call (.Name "set" p3) [e] [] p4) X.env)]) :
    SemE X gi k (.Call (.Name "len" p) [.Call (.Name "set" p3) [e] [] p4] [] pos) (Z.slen f) := by
  intro er q lk W tk fr S μ σ H F A Q w
  refine ⟨_, pe_callB cr_lenSet n1.g n1.m n1.b (pa_cons (pe_callTy (cr_setL hc) n2.g n2.m n2.b (pa_cons pe_sem pa_nil hs) n2.n n2.d hs rfl) pa_nil hs2) n1.n n1.d hs2 rfl, h1.go lk tk A .refl w fun d S1 μ1 H1 F1 v as A1 P1 r1 o1 w1 => ?_⟩
  cases hi : intsD S1 d with
  | none =>
    rw [hi] at w1
    exact w1.elim
  | some ns =>
    rw [hi] at w1
    dsimp only at w1
    split at w1
    · rename_i hn
      obtain ⟨a, rfl, h2⟩ := sqI_rep A1.hs r1 hi
      refine ⟨a, ns, rfl, SqL.of h2, by show ns.length + 1 < 4096; omega, fun p hp => ⟨p, _, _, rfl, upd_same, ?_⟩⟩
      have P2 := stp_laid (L := q.L) (S := S1) (μ := μ1) (F := F1) (o := SetO X.w p (fun j => decide (j ∈ ns)) (dedup ns).length) hp
      exact giveT w1 (A1.hsof P2 (A1.hs.laid hp)) (P1.trans P2) (.int _)
    · exact w1.elim
end
end Mi

set_option Elab.async false
set_option linter.all false
set_option maxRecDepth 100000
set_option maxHeartbeats 4000000
/-! N26: list(enumerate(a list)) -/
namespace Mi
open PySem PySem.Spec PyProof.Rows L2
theorem en_no_len : typeLookup (.type "enumerate") "__len__" = pure none := am_miss_of_fast (by decide +kernel)
theorem en_no_hint : typeLookup (.type "enumerate") "__length_hint__" = pure none := am_miss_of_fast (by decide +kernel)
abbrev lstO (its : Array Value) (c : Nat) : Obj := { cls := .type "list", dict := none, data := .seq its c, slots := #[] }
abbrev prO (j : Nat) (t : Tok) (x : Value) : Obj := { cls := .type "tuple", data := .seq #[.int j t, x] }
/-- the pairs at Ts, all from B on -/
def Got (h : Heap) (B : Addr) (items : Array Value) (Ts : List Addr) : Prop := Ts.Nodup ∧ ∀ (j : Nat) T, Ts[j]? = some T → B ≤ T ∧ ∃ t x, items[j]? = some x ∧ h.get? T = some (prO j t x)
/-- where the enumerate stands; its last pair is held -/
def EnAt (h : Heap) (e it l : Addr) (i : Nat) (items : Array Value) (B : Addr) : Prop :=
  h.IsListIter it l i ∧ h.IsList l items ∧ ((∃ old, IsEnum h e it i old) ∨ ∃ old T f oT, IsEnumHeld h e it i old T f ∧ h.get? T = some oT ∧ B ≤ T)
structure Low (e it l S B : Addr) : Prop where
  ei : e ≠ it
  le : l ≠ e
  li : l ≠ it
  se : S ≠ e
  si : S ≠ it
  sl : S ≠ l
  eB : e < B
  iB : it < B
  lB : l < B
  sB : S < B
section
variable {P : Program} {w : World} {A : Around} {s : Shared} {R : Result → Shared → Prop} {e it l S B : Addr} {items : Array Value}
theorem Got.at {h h' : Heap} {Ts : List Addr} (g : Got h B items Ts) (k : ∀ b o, B ≤ b → h.get? b = some o → h'.get? b = some o) : Got h' B items Ts :=
  ⟨g.1, fun j T q => let ⟨z, t, x, a, b⟩ := g.2 j T q; ⟨z, t, x, a, k T _ z b⟩⟩
theorem Got.more {h : Heap} {Ts : List Addr} (g : Got h B items Ts) {T : Addr} {t : Tok} {x : Value} (hT : T ∉ Ts) (hB : B ≤ T) (hx : items[Ts.length]? = some x) (ho : h.get? T = some (prO Ts.length t x)) : Got h B items (Ts ++ [T]) := by
  refine ⟨List.nodup_append.mpr ⟨g.1, List.nodup_cons.mpr ⟨(fun z => nomatch z), List.nodup_nil⟩, fun a ha b hb => ?_⟩, fun j U q => ?_⟩
  · rw [List.mem_singleton.mp hb]
    intro z
    rw [z] at ha
    exact hT ha
  · rcases Nat.lt_trichotomy j Ts.length with c | c | c
    · rw [List.getElem?_append_left c] at q
      exact g.2 j U q
    · subst c
      rw [List.getElem?_append_right (Nat.le_refl _), Nat.sub_self] at q
      cases q
      exact ⟨hB, t, x, hx, ho⟩
    · rw [List.getElem?_eq_none (by rw [List.length_append, List.length_singleton]; omega)] at q
      cases q
theorem Got.lt {h : Heap} {Ts : List Addr} (g : Got h B items Ts) {T : Addr} (m : T ∈ Ts) : T < h.objs.size := by
  obtain ⟨j, q⟩ := List.getElem?_of_mem m
  obtain ⟨_, _, _, _, z⟩ := g.2 j T q
  exact Heap.lt_size z
/-- one turn -/
theorem en_next (O : Low e it l S B) {i : Nat} {x : Value} (hst : EnAt s.heap e it l i items B) (hB : B ≤ s.heap.objs.size) (hx : items[i]? = some x) {Q : Option Value → Shared → Prop} {E : Value → Shared → Prop}
    (hQ : ∀ h', EnAt h' e it l (i + 1) items B → h'.get? s.heap.objs.size = some (prO i s.toks x) → (∀ b o, b ≠ e → b ≠ it → s.heap.get? b = some o → h'.get? b = some o) → B ≤ h'.objs.size → Q (some (.ref s.heap.objs.size)) { s with heap := h', toks := s.toks + 1 }) :
    wpAny (model P w) A (pyNext (.ref e)) Q E s := by
  obtain ⟨hit, hl, ⟨old, he⟩ | ⟨old, T, f, oT, he, hT, hTB⟩⟩ := hst
  · refine wpAny_pyNext_enum_item he hit hl hx O.ei fun h' a1 a2 a3 a4 k => ?_
    refine hQ h' ⟨a2, hl.at fun o q => k l o O.le O.li q, .inr ⟨x, s.heap.objs.size, false, _, a1, a3, hB⟩⟩ a3 k ?_
    rw [a4]
    exact Nat.le_succ_of_le hB
  · refine wpAny_pyNext_enum_item_held he hT (Nat.ne_of_gt (Nat.lt_of_lt_of_le O.eB hTB)) (Nat.ne_of_gt (Nat.lt_of_lt_of_le O.iB hTB)) hit hl hx O.ei fun h' a1 a2 a3 a4 k => ?_
    refine hQ h' ⟨a2, hl.at fun o q => k l o O.le O.li q, .inr ⟨old, T, true, oT, a1, k T oT (Nat.ne_of_gt (Nat.lt_of_lt_of_le O.eB hTB)) (Nat.ne_of_gt (Nat.lt_of_lt_of_le O.iB hTB)) hT, hTB⟩⟩ a3 k ?_
    rw [a4]
    exact Nat.le_succ_of_le hB
theorem en_done (O : Low e it l S B) (hh : A.handled = none) (hst : EnAt s.heap e it l items.size items B) {Q : Option Value → Shared → Prop} {E : Value → Shared → Prop}
    (hQ : ∀ h', (∀ b o, b ≠ it → s.heap.get? b = some o → h'.get? b = some o) → Q none { s with heap := h' }) : wpAny (model P w) A (pyNext (.ref e)) Q E s := by
  have hx : items[items.size]? = none := Array.getElem?_eq_none (Nat.le_refl _)
  obtain ⟨hit, hl, ⟨old, he⟩ | ⟨old, T, f, oT, he, hT, hTB⟩⟩ := hst
  · exact wpAny_pyNext_enum_end hh he hit hl hx fun h' k => hQ h' fun b o hb q => k b o hb q
  · exact wpAny_pyNext_enum_end_held hh he hit hl hx fun h' k => hQ h' fun b o hb q => k b o hb q
/-- the list grows by the pairs -/
theorem en_loop (O : Low e it l S B) (hh : A.handled = none) (hn : items.size ≤ sizeLine) (res : Value) : ∀ (k i : Nat) (s : Shared) (Ts : List Addr) (c : Nat), items.size - i = k → i ≤ items.size → EnAt s.heap e it l i items B → s.heap.get? S = some (lstO (Ts.map Value.ref).toArray c) → Ts.length = i → Got s.heap B items Ts → B ≤ s.heap.objs.size →
    (∀ h' tk Ts' c', (∀ b o, b < B → b ≠ e → b ≠ it → b ≠ S → s.heap.get? b = some o → h'.get? b = some o) → h'.get? S = some (lstO (Ts'.map Value.ref).toArray c') → Ts'.length = items.size → Got h' B items Ts' → R (.ok (.ret res)) { s with heap := h', toks := tk }) →
    codeAny (model P w) A (.builtin "list.extend.loop" ⟨[.ref S, .ref e, res], []⟩) R s := by
  intro k
  induction k with
  | zero =>
    intro i s Ts c hk hi hst hS hT hg hB hR
    have ei : i = items.size := by omega
    subst ei
    refine codeAny_builtin F.entry_extend_loop ?_
    rw [Around.under_plainId F.plain_extend_loop _]
    show wpAny _ A.in1 (pyNext (.ref e) >>= _) _ _ s
    refine wpAny_bind (en_done O (A := A.in1) (by simp [hh]) hst fun h' q => ?_)
    exact wpAny_pure (hR h' s.toks Ts c (fun b o _ _ hb _ z => q b o hb z) (q S _ O.si hS) hT (hg.at fun b o hb z => q b o (Nat.ne_of_gt (Nat.lt_of_lt_of_le O.iB hb)) z))
  | succ k ih =>
    intro i s Ts c hk hi hst hS hT hg hB hR
    have hlt : i < items.size := by omega
    have hx : items[i]? = some items[i] := Array.getElem?_eq_getElem hlt
    refine codeAny_builtin F.entry_extend_loop ?_
    rw [Around.under_plainId F.plain_extend_loop _]
    show wpAny _ A.in1 (pyNext (.ref e) >>= _) _ _ s
    refine wpAny_bind (en_next O hst hB hx fun h' st' hp q hB' => ?_)
    have hS' := q S _ O.se O.si hS
    have up : ∀ b o, B ≤ b → s.heap.get? b = some o → h'.get? b = some o := fun b o hb z => q b o (Nat.ne_of_gt (Nat.lt_of_lt_of_le O.eB hb)) (Nat.ne_of_gt (Nat.lt_of_lt_of_le O.iB hb)) z
    have zsz : (Ts.map Value.ref).toArray.size = i := by rw [List.size_toArray, List.length_map, hT]
    have oth : ∀ b o, b ≠ S → h'.get? b = some o → (h'.update S (Obj.mapSeq (·.push (Value.ref s.heap.objs.size)))).get? b = some o := fun b o hb z => (Heap.get?_update_other _ _ (Ne.symm hb)).trans z
    have hS2 := Heap.get?_update_self (Obj.mapSeq (·.push (Value.ref s.heap.objs.size))) hS' rfl
    have nS : ∀ b, B ≤ b → b ≠ S := fun b hb => Nat.ne_of_gt (Nat.lt_of_lt_of_le O.sB hb)
    show wpAny _ A.in1 (updateSeq S (·.push (Value.ref s.heap.objs.size)) >>= _) _ _ _
    refine wpAny_bind ?_
    refine wpAny_updateSeq hS' rfl (wpAny_pure ⟨plainId_quiet F.plain_extend_loop _, ?_⟩) (by rw [zsz]; omega) (by show ((Ts.map Value.ref).toArray.push _).size ≤ sizeLine + 1; rw [Array.size_push, zsz]; omega)
    have e2 : ∃ c2, (h'.update S (Obj.mapSeq (·.push (Value.ref s.heap.objs.size)))).get? S = some (lstO ((Ts ++ [s.heap.objs.size]).map Value.ref).toArray c2) := by
      have ea : ((Ts ++ [s.heap.objs.size]).map Value.ref).toArray = (Ts.map Value.ref).toArray.push (Value.ref s.heap.objs.size) := by
        rw [List.map_append, List.push_toArray]
        rfl
      rw [ea]
      exact ⟨_, hS2⟩
    obtain ⟨c2, e2⟩ := e2
    refine ih (i + 1) { s with heap := h'.update S (Obj.mapSeq (·.push (Value.ref s.heap.objs.size))), toks := s.toks + 1 } (Ts ++ [s.heap.objs.size]) c2 (by omega) hlt ⟨st'.1.at fun o z => oth it o (Ne.symm O.si) z, st'.2.1.at fun o z => oth l o (Ne.symm O.sl) z, ?_⟩ e2 (by rw [List.length_append, hT]; rfl) ?_ ?_ ?_
    · rcases st'.2.2 with ⟨old, z⟩ | ⟨old, T, f, oT, z, y, u⟩
      · exact .inl ⟨old, oth e _ (Ne.symm O.se) z⟩
      · exact .inr ⟨old, T, f, oT, oth e _ (Ne.symm O.se) z, oth T _ (nS T u) y, u⟩
    · have g1 : Got (h'.update S (Obj.mapSeq (·.push (Value.ref s.heap.objs.size)))) B items Ts := hg.at fun b o hb z => oth b o (nS b hb) (up b o hb z)
      refine g1.more (fun m => Nat.lt_irrefl _ (hg.lt m)) hB (by rw [hT]; exact hx) (t := s.toks) ?_
      rw [hT]
      exact oth _ _ (nS _ hB) hp
    · rw [Heap.size_update]
      exact hB'
    · intro h2 tk Ts' c' q2 a b g
      exact hR h2 tk Ts' c' (fun b o h1 h3 h4 h5 z => q2 b o h1 h3 h4 h5 (oth b o h5 (q b o h3 h4 z))) a b g

/-- a list taken from an enumerate -/
theorem en_extend (O : Low e it l S B) (hh : A.handled = none) (hn : items.size ≤ sizeLine) (res : Value) (c₀ : Nat) (hst : EnAt s.heap e it l 0 items B) (hS : s.heap.get? S = some (lstO #[] c₀)) (hB : B ≤ s.heap.objs.size)
    (hR : ∀ h' tk Ts' c', (∀ b o, b < B → b ≠ e → b ≠ it → b ≠ S → s.heap.get? b = some o → h'.get? b = some o) → h'.get? S = some (lstO (Ts'.map Value.ref).toArray c') → Ts'.length = items.size → Got h' B items Ts' → R (.ok (.ret res)) { s with heap := h', toks := tk }) :
    wpAny (model P w) A.in1 (Builtin.List.listExtendWith (.ref S) (.ref e) res)
      (fun fin s' => match fin with | .done f => R (.ok f) s' | .again c' => c'.quiet = true ∧ codeAny (model P w) A c' R s') (fun e s' => R (.error e) s') s := by
  have hty : s.TypeIs (.ref e) "enumerate" := by
    rcases hst.2.2 with ⟨old, z⟩ | ⟨old, T, f, oT, z, _⟩
    · exact ⟨_, z, rfl⟩
    · exact ⟨_, z, rfl⟩
  have nsame : Builtin.List.listSameRef (.ref S) (.ref e) = false := by simp [Builtin.List.listSameRef, O.se]
  have k1 : (Value.type "enumerate" == Value.type "list") = false := by decide
  have k2 : (Value.type "enumerate" == Value.type "tuple") = false := by decide
  unfold Builtin.List.listExtendWith
  refine wpAny_bind (wpAny_typeOf hty ?_)
  simp only [nsame, k1, k2, Bool.or_false, Bool.false_eq_true, if_false]
  have self : ∀ {Q : Value → Shared → Prop} {E : Value → Shared → Prop}, Q (.ref e) s → wpAny (model P w) A.in1 (pyIter (.ref e)) Q E s := fun h => by
    rcases hst.2.2 with ⟨old, z⟩ | ⟨old, T, f, oT, z, _⟩
    · exact wpAny_pyIter_enum z h
    · refine wpAny_pyIter_slot hty F.slot_enumerate_iter (wpAny_call_entry F.slot_enumerate_iter hty F.entry_enumerate_iter ?_ (F.args_enumerate_iter_1 _))
      exact wpAny_pure ⟨_, rfl, "enumerate", _, hty, F.slot_enumerate_next.lookup, h⟩
  refine wpAny_bind (self (wpAny_bind (wpAny_holding ?_)))
  unfold Builtin.List.listLengthHint
  refine wpAny_bind (wpAny_specialOf hty en_no_len ?_)
  refine wpAny_bind (wpAny_specialOf hty en_no_hint (wpAny_pure (wpAny_bind (wpAny_rule (wpAny_bind ?_)))))
  refine wpAny_bind (wpAny_updateSeq hS rfl ?_)
  have h2 := Heap.get?_update_self (Obj.mapSeq (·.push Value.none)) hS rfl
  refine wpAny_updateSeq (hz := by seq_fits) h2 rfl ?_
  have h3 := Heap.get?_update_self (Obj.mapSeq (·.pop)) h2 rfl
  have oth : ∀ b o, b ≠ S → s.heap.get? b = some o → ((s.heap.update S (Obj.mapSeq (·.push Value.none))).update S (Obj.mapSeq (·.pop))).get? b = some o := fun b o hb z => by
    rw [Heap.get?_update_other _ _ (Ne.symm hb), Heap.get?_update_other _ _ (Ne.symm hb)]
    exact z
  refine wpAny_pure ⟨plainId_quiet F.plain_extend_loop _, en_loop O hh hn res items.size 0 { s with heap := (s.heap.update S (Obj.mapSeq (·.push Value.none))).update S (Obj.mapSeq (·.pop)) } [] _ rfl (Nat.zero_le _) ⟨hst.1.at fun o z => oth it o (Ne.symm O.si) z, hst.2.1.at fun o z => oth l o (Ne.symm O.sl) z, ?_⟩ h3 rfl ⟨List.nodup_nil, fun j T q => nomatch q⟩ ?_ ?_⟩
  · rcases hst.2.2 with ⟨old, z⟩ | ⟨old, T, f, oT, z, y, u⟩
    · exact .inl ⟨old, oth e _ (Ne.symm O.se) z⟩
    · exact .inr ⟨old, T, f, oT, oth e _ (Ne.symm O.se) z, oth T _ (Nat.ne_of_gt (Nat.lt_of_lt_of_le O.sB u)) y, u⟩
  · rw [Heap.size_update, Heap.size_update]
    exact hB
  · intro h' tk Ts' c' k a b g
    exact hR h' tk Ts' c' (fun b o q1 q2 q3 q4 z => k b o q1 q2 q3 q4 (oth b o q4 z)) a b g
theorem call_list_en {E : Value → Shared → Prop} {Q : Value → Shared → Prop} (hh : A.handled = none) (hn : items.size ≤ sizeLine) (O : Low e it l s.heap.objs.size (s.heap.objs.size + 1)) (hst : EnAt s.heap e it l 0 items (s.heap.objs.size + 1))
    (hQ : ∀ h' tk Ts c, (∀ b o, b ≠ e → b ≠ it → s.heap.get? b = some o → h'.get? b = some o) → h'.get? s.heap.objs.size = some (lstO (Ts.map Value.ref).toArray c) → Ts.length = items.size → Got h' (s.heap.objs.size + 1) items Ts → Q (.ref s.heap.objs.size) { s with heap := h', toks := tk }) :
    wpAny (model P w) A (call (.type "list") [.ref e]) Q E s := by
  refine callType_codes (Q₁ := fun obj s₁ => obj = .ref s.heap.objs.size ∧ s₁ = { s with heap := s.heap.push (lstO #[] 0) }) F.called_list (F.typeCall_list_1 _) F.entry_list_init (code_list_new _ ⟨rfl, rfl⟩) ?_
  rintro _ _ ⟨rfl, rfl⟩
  have hS : (s.heap.push (lstO #[] 0)).get? s.heap.objs.size = some (lstO #[] 0) := Heap.get?_push_size _ rfl
  refine ⟨⟨_, hS, rfl⟩, F.args_list_init_2 _ _, ?_⟩
  show wpAny _ A.in1.in1 (do let old ← Builtin.List.listItems (.ref s.heap.objs.size); Builtin.List.listUpdate (.ref s.heap.objs.size) (fun _ => #[]); letGo old.toList.reverse; Builtin.List.listExtendWith (.ref s.heap.objs.size) (.ref e) .none) _ _ _
  refine wpAny_bind (wpAny_bind (wpAny_seqItems hS rfl (wpAny_pure ?_)))
  refine wpAny_bind (wpAny_updateSeq hS rfl ?_)
  have h2 := Heap.get?_update_self (Obj.mapSeq (fun _ => (#[] : Array Value))) hS rfl
  have oth : ∀ b o, b ≠ s.heap.objs.size → s.heap.get? b = some o → ((s.heap.push (lstO #[] 0)).update s.heap.objs.size (Obj.mapSeq (fun _ => (#[] : Array Value)))).get? b = some o := fun b o hb z => (Heap.get?_update_other _ _ (Ne.symm hb)).trans (Heap.get?_push_of_some _ z)
  have lt : ∀ b o, s.heap.get? b = some o → b ≠ s.heap.objs.size := fun b o z => Nat.ne_of_lt (Heap.lt_size z)
  refine wpAny_bind (wpAny_letGo ?_)
  refine en_extend (s := { s with heap := (s.heap.push (lstO #[] 0)).update s.heap.objs.size (Obj.mapSeq (fun _ => (#[] : Array Value))) }) O (A := A.in1) (by simp [hh]) hn .none _ ⟨hst.1.at fun o z => oth it o (Ne.symm O.si) z, hst.2.1.at fun o z => oth l o (Ne.symm O.sl) z, ?_⟩ h2 ?_ ?_
  · rcases hst.2.2 with ⟨old, z⟩ | ⟨old, T, f, oT, z, y, u⟩
    · exact .inl ⟨old, oth e _ (Ne.symm O.se) z⟩
    · exact .inr ⟨old, T, f, oT, oth e _ (Ne.symm O.se) z, oth T _ (lt T _ y) y, u⟩
  · rw [Heap.size_update, Heap.size_push]
    exact Nat.le_refl _
  · intro h' tk Ts c k a b g
    exact ⟨rfl, hQ h' tk Ts c (fun b o q1 q2 z => k b o (Nat.lt_succ_of_lt (Heap.lt_size z)) q1 q2 (lt b o z) (oth b o (lt b o z) z)) a b g⟩
end
/-! the layer's rule -/
def layT (H : Hp) : Nat → List Addr → List V → Hp
  | i, a :: as, v :: vs => layT (upd H a (.tup [.int (i : Int), v])) (i + 1) as vs
  | _, _, _ => H
section
variable {X : Cx} {pins : List (Addr × Obj)} {σ : L2.St}
theorem inv_lay {hF : Heap} : ∀ (Ts : List Addr) (vs : List V) (i : Nat) {H : Hp} {s : Shared}, Inv X pins σ H s → (∀ b o, s.heap.get? b = some o → hF.get? b = some o) → Ts.length = vs.length → Ts.Nodup → (∀ a ∈ Ts, s.heap.get? a = none ∧ H a = none) →
    (∀ (j : Nat) a v, Ts[j]? = some a → vs[j]? = some v → ∃ t u, RelV v u ∧ hF.get? a = some (prO (i + j) t u)) → Inv X pins σ (layT H i Ts vs) { s with heap := hF }
  | [], vs, i, H, s, I, k, hl, nd, fr, g => by
    unfold layT
    exact I.kept (t' := s.toks) k
  | a :: as, [], i, H, s, I, k, hl, nd, fr, g => by cases hl
  | a :: as, v :: vs, i, H, s, I, k, hl, nd, fr, g => by
    obtain ⟨na, nd⟩ := List.nodup_cons.mp nd
    obtain ⟨G, g1, g2⟩ := restrict hF fun b => decide (b ∉ as)
    obtain ⟨fa, ha⟩ := fr a (List.mem_cons_self ..)
    have keep : ∀ b o, s.heap.get? b = some o → G.get? b = some o := fun b o z => by
      rw [g1 b (decide_eq_true fun m => by rw [(fr b (List.mem_cons_of_mem _ m)).1] at z; cases z)]
      exact k b o z
    obtain ⟨t, u, ru, hu⟩ := g 0 a v rfl rfl
    have hG : G.get? a = some (prO i t u) := (g1 a (decide_eq_true na)).trans hu
    have I2 : Inv X pins σ (upd H a (.tup [.int (i : Int), v])) { s with heap := G } := I.laidN (t' := s.toks) keep fa ha
      (show ObjOk X.prog X.w _ _ _ (.tup [.int (i : Int), v]) from ⟨(by rw [sizeLine_eq]; show 2 ≤ _; omega), [.int i t, u], .cons ⟨t, rfl⟩ (.cons ru .nil), ⟨_, hG, rfl, _, rfl⟩⟩)
    unfold layT
    refine inv_lay as vs (i + 1) (s := { s with heap := G }) I2 (fun b o z => ?_) (Nat.succ.inj hl) nd (fun b m => ⟨g2 b (decide_eq_false fun z => z m), ?_⟩) fun j b y e1 e2 => ?_
    · by_cases hb : b ∈ as
      · rw [show G.get? b = none from g2 b (decide_eq_false fun z => z hb)] at z
        cases z
      · rw [← g1 b (decide_eq_true hb)]
        exact z
    · rw [upd_ne (show b ≠ a from fun z => na (z ▸ m))]
      exact (fr b (List.mem_cons_of_mem _ m)).2
    · obtain ⟨t, u, r, z⟩ := g (j + 1) b y e1 e2
      exact ⟨t, u, r, by rw [Nat.add_right_comm]; exact z⟩
theorem low_nat (n c z : Nat) (h1 : c < n) (h2 : z = n + 2) : n + 1 ≠ n ∧ c ≠ n + 1 ∧ c ≠ n ∧ z ≠ n + 1 ∧ z ≠ n ∧ z ≠ c ∧ n + 1 < z + 1 ∧ n < z + 1 ∧ c < z + 1 ∧ z < z + 1 := by omega
theorem far_nat (n z b : Nat) (h1 : z + 1 ≤ b) (h2 : z = n + 2) : n ≤ b := by omega
/-- what list(enumerate(e)) asks -/
def tLenum (K : PySem.W.Frag) (ta : TE) : TE := fun σ H Q => ta σ H fun x H1 => ∃ a xs, x = V.ref a ∧ SqL K H1 a xs ∧ ∀ Ts p, Ts.length = xs.length → Ts.Nodup → (∀ b ∈ Ts, H1 b = none) → p ∉ Ts → H1 p = none → Q (.ref p) (upd (layT H1 0 Ts xs) p (.lst (Ts.map V.ref)))
theorem layT_out : ∀ (Ts : List Addr) (vs : List V) (i : Nat) {H : Hp} {b : Addr}, b ∉ Ts → layT H i Ts vs b = H b
  | [], _, _, _, _, _ => rfl
  | _ :: _, [], _, _, _, _ => rfl
  | a :: as, v :: vs, i, H, b, h => by
    unfold layT
    rw [layT_out as vs (i + 1) fun m => h (List.mem_cons_of_mem _ m), upd_ne (show b ≠ a from fun z => h (z ▸ List.mem_cons_self ..))]
theorem pe_lenum {a : Expr} {ta : TE} {p p1 p2 pos : Pos} (hc : X.calm = true) (n1 : Bi X "list" (.type "list")) (n2 : Bi X "enumerate" (.type "enumerate")) (ha : PE X a ta) (hs : starEach [a] X.env = [(false, eval a X.env)])
    (hs2 : starEach [Expr.Call (.Name "enumerate" p1) [a] [] p2] X.env = [(false, eval (Expr.Call (.Name "enumerate" p1) [a] [] p2) X.env)]) : PE X (.Call (.Name "list" p) [.Call (.Name "enumerate" p1) [a] [] p2] [] pos) (tLenum X.K ta) := by
  refine ⟨fun pins s σ H Q I h => ?_⟩
  have en : wpAny (model X.prog X.w) X.A (eval (Expr.Call (.Name "enumerate" p1) [a] [] p2) X.env) (fun x s2 => ∃ s1 h' c xs H1, x = .ref (s1.heap.objs.size + 1) ∧ s2 = { s1 with heap := h' } ∧ Inv X pins σ H1 s1 ∧ (∀ b o, s1.heap.get? b = some o → h'.get? b = some o) ∧
      IsEnum h' (s1.heap.objs.size + 1) s1.heap.objs.size 0 .none ∧ h'.IsListIter s1.heap.objs.size c 0 ∧ h'.objs.size = s1.heap.objs.size + 2 ∧ SqL X.K H1 c xs ∧
      ∀ Ts p, Ts.length = xs.length → Ts.Nodup → (∀ b ∈ Ts, H1 b = none) → p ∉ Ts → H1 p = none → Q (.ref p) (upd (layT H1 0 Ts xs) p (.lst (Ts.map V.ref)))) X.xe s := by
    refine Call_ (ld_blt I n2.g n2.m n2.b (PyProof.Rows.callWith_type1 (one_arg ha I h (fun v s1 x H1 I1 r q => ?_) hs) hs))
    obtain ⟨c, xs, rfl, hq, q⟩ := q
    obtain rfl : v = Value.ref c := r
    obtain ⟨its, rv, pl, hz⟩ := I1.list hq
    exact call_enumerate_list pl.isList fun h' he hit hsz hk => ⟨s1, h', c, xs, H1, rfl, rfl, I1, hk, he, hit, hsz, hq, q⟩
  refine Call_ (ld_blt I n1.g n1.m n1.b (PyProof.Rows.callWith_type1 (args_cons (thn en fun x s2 ⟨s1, h', c, xs, H1, ex, es, I1, hk, he, hit, hsz, hq, q⟩ => args_nil ?_) hs2) hs2))
  subst ex
  subst es
  obtain ⟨its, rv, pl, hz⟩ := I1.list hq
  have hcl : c < s1.heap.objs.size := by
    obtain ⟨o, z, _⟩ := pl.isList
    exact Heap.lt_size z
  have hn : its.toArray.size = xs.length := by rw [List.size_toArray, rv.length]
  have O : Low (s1.heap.objs.size + 1) s1.heap.objs.size c h'.objs.size (h'.objs.size + 1) := by
    obtain ⟨a1, a2, a3, a4, a5, a6, a7, a8, a9, a10⟩ := low_nat _ _ _ hcl hsz
    exact ⟨a1, a2, a3, a4, a5, a6, a7, a8, a9, a10⟩
  refine call_list_en (s := { s1 with heap := h' }) (items := its.toArray) (I1.ok.hd hc) (by rw [hn]; exact hz) O ⟨hit, pl.isList.at fun o z => hk _ _ z, .inl ⟨_, he⟩⟩ fun hF tk Ts k hkF hS hTs hG => ?_
  have hkF : ∀ b o, b ≠ s1.heap.objs.size + 1 → b ≠ s1.heap.objs.size → h'.get? b = some o → hF.get? b = some o := hkF
  have hS : hF.get? h'.objs.size = some (lstO (Ts.map Value.ref).toArray k) := hS
  have hG : Got hF (h'.objs.size + 1) its.toArray Ts := hG
  have hi : ∀ b ∈ Ts, h'.objs.size + 1 ≤ b := fun b m => by
    obtain ⟨j, z⟩ := List.getElem?_of_mem m
    exact (hG.2 j b z).1
  have nS : h'.objs.size ∉ Ts := fun m => Nat.not_succ_le_self _ (hi _ m)
  have old : ∀ b o, s1.heap.get? b = some o → hF.get? b = some o := fun b o z => hkF b o (Nat.ne_of_lt (Nat.lt_succ_of_lt (Heap.lt_size z))) (Nat.ne_of_lt (Heap.lt_size z)) (hk b o z)
  obtain ⟨G, g1, g2⟩ := restrict hF fun b => decide (b ≠ h'.objs.size)
  have I3 : Inv X pins σ (layT H1 0 Ts xs) { s1 with heap := G } := by
    refine inv_lay Ts xs 0 I1 (fun b o z => ?_) (by rw [hTs, hn]) hG.1 (fun b m => ?_) fun j b v e1 e2 => ?_
    · rw [g1 b (decide_eq_true (Nat.ne_of_lt (hsz ▸ Nat.lt_of_lt_of_le (Heap.lt_size z) (Nat.le_add_right _ 2))))]
      exact old b o z
    · have z : s1.heap.objs.size ≤ b := by
        exact far_nat _ _ _ (hi b m) hsz
      exact ⟨Heap.get?_none_of_le z, I1.hok.fresh z⟩
    · obtain ⟨_, t, y, hy, ho⟩ := hG.2 j b e1
      obtain ⟨u, hu, ru⟩ := rv.get e2
      have hy : its[j]? = some y := by rw [← hy]; simp
      have eu : u = y := Option.some.inj (hu.symm.trans hy)
      refine ⟨t, y, eu ▸ ru, ?_⟩
      rw [g1 b (decide_eq_true fun z => nS (z ▸ List.mem_of_getElem? e1)), Nat.zero_add]
      exact ho
  have fS : H1 h'.objs.size = none := I1.hok.fresh (hsz ▸ Nat.le_add_right _ 2)
  refine ⟨.ref h'.objs.size, _, I3.laidN (t' := tk) (h' := hF) (a := h'.objs.size) (o := .lst (Ts.map V.ref)) (fun b o z => ?_) (g2 _ (decide_eq_false fun z => z rfl)) ?_ (show ObjOk X.prog X.w _ _ _ (.lst (Ts.map V.ref)) from ⟨?_, Ts.map Value.ref, k, vals_refs Ts, hS⟩), rfl, q Ts _ (by rw [hTs, hn]) hG.1 (fun b m => I1.hok.fresh (far_nat _ _ _ (hi b m) hsz)) nS fS⟩
  · by_cases hb : b = h'.objs.size
    · rw [hb, g2 _ (decide_eq_false fun z => z rfl)] at z
      cases z
    · rw [← g1 b (decide_eq_true hb)]
      exact z
  · rw [layT_out Ts xs 0 nS]
    exact fS
  · rw [List.length_map, hTs, hn]
    exact hz
end
/-- i, x for the items in order, from i on -/
def enumL : Nat → List T → List T
  | _, [] => []
  | i, x :: xs => .tup [.int (i : Int), x] :: enumL (i + 1) xs
/-- list(enumerate(f)) -/
def Z.lenum (f : XE) : XE := fun q fr S => (f q fr S).bnd fun x S1 => match sq S1 x with
  | some xs => if xs.length ≤ okL then .ok (.new (enumL 0 xs)) S1 else .no
  | none => .no
section
variable {K : PySem.W.Frag} {fr : Frame} {S : Store} {μ : Nat → Addr} {σ : L2.St} {L : Nat}
theorem lay_tups : ∀ (Ts : List Addr) (vs : List V) (xs : List T) (i : Nat) {H F : Hp}, Ab K fr S μ σ H F → RepL K (At F) vs xs → Ts.length = vs.length → Ts.Nodup → (∀ b ∈ Ts, H b = none) →
    ∃ F', Ab K fr S μ σ (layT H i Ts vs) F' ∧ Stp L S μ H F S μ (layT H i Ts vs) F' ∧ RepL K (At F') (Ts.map V.ref) (enumL i xs)
  | [], vs, xs, i, H, F, A, r, hl, nd, fre => by
    cases r with
    | nil => exact ⟨F, A, .refl, .nil⟩
    | cons _ _ => cases hl
  | b :: bs, vs, xs, i, H, F, A, r, hl, nd, fre => by
    cases r with
    | nil => cases hl
    | @cons v vs x xs r1 r2 =>
      obtain ⟨nb, nd⟩ := List.nodup_cons.mp nd
      have hb := fre b (List.mem_cons_self ..)
      have on := own_new A.hs hb
      have P2 := stp_laid (L := L) (S := S) (μ := μ) (F := F) (o := .tup [.int (i : Int), v]) hb
      have P3 := stp_frz P2 on
      have A3 := A.hsof P3 ((A.hs.laid hb).frz on)
      have s3 := frz_same (H := upd H b (.tup [.int (i : Int), v])) fun c hc => (on.fr c hc).2.1
      obtain ⟨F', A4, P4, r4⟩ := lay_tups bs vs xs (i + 1) A3 (r2.mono (at_mono s3)) (Nat.succ.inj hl) nd fun c m => by
        rw [upd_ne (show c ≠ b from fun z => nb (z ▸ m))]
        exact fre c (List.mem_cons_of_mem _ m)
      refine ⟨F', A4, P3.trans P4, .cons (Rep.mono (at_mono P4.f) (.tup ((frz_in (List.mem_singleton.mpr rfl)).trans upd_same) ?_)) r4⟩
      exact .cons (.int _) (.cons (r1.mono (at_mono s3)) .nil)
end
section
variable {X : Cx} {gi : GI} {k : Nat} {p p1 p2 pos : Pos} {a : Expr} {f : XE}
theorem sem_lenum (hc : X.calm = true) (n1 : Bi X "list" (.type "list")) (n2 : Bi X "enumerate" (.type "enumerate")) (h1 : SemE X gi k a f) (hs : starEach [a] X.env = [(false, eval a X.env)]) (hs2 : starEach [Expr.Call (.Name "enumerate" p1) [a] [] p2] X.env = [(false, eval (Expr.Call (.Name "enumerate" p1) [a] [] p2) X.env)]) :
    SemE X gi k (.Call (.Name "list" p) [.Call (.Name "enumerate" p1) [a] [] p2] [] pos) (Z.lenum f) := by
  intro er q lk W tk fr S μ σ H F A Q w
  refine ⟨_, pe_lenum hc n1 n2 pe_sem hs hs2, h1.go lk tk A .refl w fun d S1 μ1 H1 F1 v as A1 P1 r1 o1 w1 => ?_⟩
  split at w1
  · rename_i xs e
    split at w1
    · obtain ⟨c, vs, rfl, hv, rv⟩ := sq_rep A1.hs r1 e
      refine ⟨c, vs, rfl, SqL.of hv, fun Ts p hl nd fre np hp => ?_⟩
      obtain ⟨F', A2, P2, r2⟩ := lay_tups (L := q.L) Ts vs xs 0 A1 rv hl nd fre
      exact giveN w1 A2 (P1.trans P2) (by rw [layT_out Ts vs 0 np]; exact hp) r2
    · exact w1.elim
  · exact w1.elim
end
end Mi

set_option Elab.async false
set_option linter.all false
set_option maxRecDepth 100000
set_option maxHeartbeats 4000000
/-! N27: a, b = x, y with plain names; what is put into the slots is frozen -/
namespace Mi
open PySem PySem.Spec PyProof.Rows L2
def slF (d : Mi.D) : Option Mi.D := if inSlot d = true then some d else (fz 6 d).map D.t
def Z.par (i j : Nat) (h : XA) : XB := fun q fr S => (h q fr S).bnd fun ds S1 => match ds with
  | [d, e] => match slF d, slF e with
    | some d', some e' => .ok (.nx, (fr.set i (some d')).set j (some e')) S1
    | _, _ => .no
  | _ => .no
section
variable {K : PySem.W.Frag} {S : Store} {μ : Nat → Addr} {H F : Hp}
theorem slF_ok {cs as : List Addr} {v : V} {d d' : Mi.D} (sf : Same F (frz F H cs)) (r : RepN K S.length μ F H v d as) (m : ∀ a ∈ as, a ∈ cs) (e : slF d = some d') : RepC K S.length μ (frz F H cs) v d' := by
  unfold slF at e
  split at e
  · cases e
    cases r with
    | c r => exact r.mono (Nat.le_refl _) (fun _ _ => rfl) sf
    | _ => rename_i h; cases h
  · cases q : fz 6 d with
    | none =>
      rw [q] at e
      cases e
    | some x =>
      rw [q] at e
      cases e
      exact .t (fz_rep sf r m q)
end
theorem par_of {X : Cx} {sc : Scope} {ts : List Expr} {v : Expr} {r : Option (List Str)} (hs : X.env.scope = sc) (h : swappedStores ts v { X.env with scope := sc } = pure r) : swappedStores ts v X.env = pure r := by
  subst hs
  exact h
section
variable {X : Cx} {gi : GI} {k : Nat} {a b : Expr} {fa : XA} {pos px py pt pt2 : Pos} {kt k2 : Nat}
theorem sems_par {i j : Nat} {x y : Str} (hc : X.calm = true) (hij : i ≠ j) (nx : Nl X i x) (ny : Nl X j y) (lx : X.env.scope.names.lookup x = some .local) (ly : X.env.scope.names.lookup y = some .local) (h : SemA X gi k [a, b] fa)
    (hw : swappedStores [.Tuple [.Name x px, .Name y py] kt pt] (.Tuple [a, b] k2 pt2) X.env = pure (some [x, y])) (hs : swapsWithSole [.Tuple [.Name x px, .Name y py] kt pt] (.Tuple [a, b] k2 pt2) pos.line X.env = pure false) :
    SemS X gi k (.Assign [.Tuple [.Name x px, .Name y py] kt pt] (.Tuple [a, b] k2 pt2) pos) (Z.par i j fa) := by
  intro er q lk W tk fr S μ σ H F A D w
  refine ⟨_, ps_par hc nx.nd nx.n ny.n hij lx ly pa_sem hw hs, h er q lk W tk fr S μ σ H F A _ (w.bnd .refl fr σ fun ds S1 μ1 H1 F1 A1 P1 w1 vs as r o l => ?_)⟩
  split at w1
  · rename_i d e
    split at w1
    · rename_i d' e' ed ee
      cases r with
      | cons r1 rr =>
        cases rr with
        | cons r2 rr2 =>
          cases rr2 with
          | nil =>
            have sf := frz_same (H := H1) fun c hc => (o.fr c hc).2.1
            have P3 := stp_frz P1 o
            have A3 := A.hsof P3 (A1.hs.frz o)
            have q1 := slF_ok sf r1 (fun c hc => List.mem_append_left _ hc) ed
            have q2 := slF_ok sf r2 (fun c hc => List.mem_append_right _ (List.mem_append_left _ hc)) ee
            exact ⟨_, _, rfl, w1 _ μ1 H1 _ ((A3.set q1).set q2) P3⟩
    · exact w1.elim
  · exact w1.elim
end
end Mi

set_option Elab.async false
set_option linter.all false
set_option maxRecDepth 100000
set_option maxHeartbeats 4000000
/-! N28: a + b of lists of which one may be new and hold new things: what they hold is frozen -/
namespace Mi
open PySem PySem.Spec PyProof.Rows L2
def addfD (x y : Mi.D) (S : Store) : R Mi.D := match fzL S x with
  | some a => match fzL S y with
    | some b => if a.length + b.length ≤ okL then .ok (.new (a ++ b)) S else .no
    | none => .no
  | none => .no
def Z.addf (f g : XE) : XE := fun q fr S => (f q fr S).bnd fun x S1 => (g q fr S1).bnd fun y S2 => addfD x y S2
section
variable {K : PySem.W.Frag} {S : Store} {μ : Nat → Addr} {H F : Hp}
theorem fzL_rep {cs as : List Addr} {v : V} {x : Mi.D} {xs : List T} (A : Hs K S μ H F) (sf : Same F (frz F H cs)) (r : RepN K S.length μ F H v x as) (m : ∀ a ∈ as, a ∈ cs) (e : fzL S x = some xs) : ∃ a vs, v = .ref a ∧ H a = some (.lst vs) ∧ RepL K (At (frz F H cs)) vs xs := by
  unfold fzL at e
  split at e
  · cases r with
    | c r => cases r
    | newo h1 h2 => exact ⟨_, _, rfl, h1, fzs_rep sf h2 (fun a ha => m a (List.mem_cons_of_mem _ ha)) e⟩
  · obtain ⟨a, vs, rfl, h1, g⟩ := sq_rep A r e
    exact ⟨a, vs, rfl, h1, g.mono (at_mono sf)⟩
end
section
variable {X : Cx} {gi : GI} {k : Nat} {a b : Expr} {f g : XE} {pos : Pos}
theorem sem_addf (h1 : SemE X gi k a f) (h2 : SemE X gi k b g) : SemE X gi k (.BinOp a .Add b pos) (Z.addf f g) := by
  intro er q lk W tk fr S μ σ H F A Q w
  refine ⟨_, pe_op op_cat pe_sem pe_sem, tOp_go (D1 := addfD) h1 h2 lk tk A w ?_⟩
  intro S2 μ2 H2 F2 x y v u as bs A1 P1 r1 r2 o w1
  unfold addfD at w1
  split at w1
  · rename_i xs e1
    split at w1
    · rename_i ys e2
      split at w1
      · rename_i hl
        have sf := frz_same (H := H2) fun c hc => (o.fr c hc).2.1
        obtain ⟨A2, P2⟩ := A1.frzd P1 o
        obtain ⟨p, vs, rfl, g1, q1⟩ := fzL_rep A1.hs sf r1 (fun c hc => List.mem_append_left _ hc) e1
        obtain ⟨p', ws, rfl, g2, q2⟩ := fzL_rep A1.hs sf r2 (fun c hc => List.mem_append_right _ hc) e2
        refine ⟨p, p', vs, ws, rfl, rfl, g1, g2, ?_, fun c hc => giveN w1 A2 P2 hc (q1.append q2)⟩
        rw [q1.length, q2.length]
        exact line_ok hl
      · exact w1.elim
    · exact w1.elim
  · exact w1.elim
end
end Mi

set_option Elab.async false
set_option linter.all false
set_option maxRecDepth 100000
set_option maxHeartbeats 4000000
/-! N29: raise C(e); try: e except C as n: v = n; err.f; isinstance(err, C) -/
namespace Mi
open PySem PySem.Spec PyProof.Rows L2
namespace Z
def raise (c : Nat) (f : XE) : XB := fun q fr S => (f q fr S).bnd fun d S1 => match fz 6 d with
  | some x => .ex c x S1
  | none => .no
/-- i: the clause's name, j: where the error is kept; cs: the classes caught and their fields -/
def tryx (f : XE) (cs : List (Nat × Str)) (i j : Nat) : XB := fun q fr S => match f q fr S with
  | .ok _ S1 => .ok (.nx, fr) S1
  | .ex c x S1 => match cs.lookup c with
    | some y => .ok (.nx, ((fr.set i (some (.t (.exc c (q.fa c) y x)))).set j (some (.t (.exc c (q.fa c) y x)))).set i none) S1
    | none => .no
  | .no => .no
def attr (j : Nat) (y : Str) (ns : List Nat) : XE := fun q fr S => match fr[j]? with
  | some (some (.t (.exc c C g x))) => if C = q.fa c ∧ g = y ∧ c ∈ ns then .ok (.t x) S else .no
  | _ => .no
def isx (j : Nat) (ns ys : List Nat) : XE := fun q fr S => match fr[j]? with
  | some (some (.t (.exc c C _ _))) => if C = q.fa c ∧ c ∈ ns then .ok (.bl (ys.contains c)) S else .no
  | _ => .no
end Z
section
variable {K : PySem.W.Frag} {L : Nat} {fr : Frame} {S : Store} {μ : Nat → Addr} {σ : L2.St} {H F : Hp}
/-- something new and frozen -/
theorem laidF (A : Ab K fr S μ σ H F) {p : Addr} {o : HO} (hp : H p = none) : Ab K fr S μ σ (upd H p o) (upd F p o) ∧ Stp L S μ H F S μ (upd H p o) (upd F p o) := by
  have Fp : F p = none := by
    cases q : F p with
    | none => rfl
    | some u =>
      obtain ⟨w, hw⟩ := now_some (A.hs.sub p u q)
      rw [hp] at hw
      cases hw
  have sf : Same F (upd F p o) := fun a u e => by
    rw [upd_ne (ne_of_none e Fp)]
    exact e
  have hs : Hs K S μ (upd H p o) (upd F p o) := by
    refine ⟨fun a u e => ?_, fun n u e => ?_, fun n hn => ?_, A.hs.inj, A.hs.tb⟩
    · by_cases ha : a = p
      · subst ha
        rw [upd_same] at e
        cases e
        exact .inl upd_same
      · rw [upd_ne ha] at e
        exact now_keep (fun w z => by rw [upd_ne ha]; exact z) (A.hs.sub a u e)
    · obtain ⟨ho, h1, h2⟩ := A.hs.ce n u e
      exact ⟨ho, by rw [upd_ne (ne_of_none h1 hp)]; exact h1, h2.mono (Nat.le_refl _) (fun _ _ => rfl) sf⟩
    · obtain ⟨ho, h1, h2⟩ := A.hs.ce n _ (List.getElem?_eq_getElem hn)
      rw [upd_ne (ne_of_none h1 hp)]
      exact A.hs.out n hn
  refine ⟨⟨hs, A.len, fun i d e => ?_⟩, ⟨sf, Nat.le_refl _, fun _ _ => rfl, fun b u e _ => ?_, fun a u e n => ?_, fun n h1 h2 => absurd h2 (Nat.not_lt.mpr h1), fun a e => ?_, fun n _ u u' e1 e2 B h => ?_, fun n u e => ⟨e, fun w z => ?_⟩⟩⟩
  · obtain ⟨v, e1, r⟩ := A.sl i d e
    exact ⟨v, e1, r.mono (Nat.le_refl _) (fun _ _ => rfl) sf⟩
  · rw [upd_ne (ne_of_none e hp)]
    exact e
  · by_cases ha : a = p
    · rw [ha]
      exact hp
    · rw [upd_ne ha] at e
      rw [n] at e
      cases e
  · by_cases ha : a = p
    · rw [ha, upd_same] at e
      cases e
    · rw [upd_ne ha] at e
      exact e
  · rw [e1] at e2
    cases e2
    exact h
  · rw [upd_ne (ne_of_none z hp)]
    exact z
theorem Ab.unset (A : Ab K fr S μ σ H F) {i : Nat} : Ab K (fr.set i none) S μ (σ.set i none) H F := by
  refine ⟨A.hs, by rw [List.length_set, List.length_set, A.len], fun j d e => ?_⟩
  by_cases h : i = j
  · subst h
    have hl := (List.getElem?_eq_some_iff.mp e).1
    rw [List.length_set] at hl
    rw [List.getElem?_set_self hl] at e
    cases e
  · rw [List.getElem?_set_ne h] at e
    obtain ⟨w, e1, r1⟩ := A.sl j d e
    exact ⟨w, by rw [List.getElem?_set_ne h]; exact e1, r1⟩
end
section
variable {X : Cx} {gi : GI} {k : Nat} {N : List Str} {sc : Scope} {pos p p' p2 pe pv pn pa pc : Pos} {e : Expr} {f : XE}
theorem sems_raise {x : XN} (c : Cok X gi k N sc) (hx : x ∈ gi.xs) (hg : sc.names.lookup x.name = some .globalImplicit) (hd : (x.name == ("__debug__" : Str)) = false) (h1 : SemE X gi k e f)
    (hs : starEach [e] X.env = (false, eval e X.env) :: starEach [] X.env) (hpl : (backTo pos (starEach [] X.env)).any (·.1) = false) : SemS X gi k (.Raise (some (.Call (.Name x.name p) [e] [] pos)) none p2) (Z.raise x.c f) := by
  intro er q lk W tk fr S μ σ H F A D w
  obtain ⟨fI, T, hm⟩ := lk.xo.own x hx
  refine ⟨_, ps_raise c.calm tk (pmk_x T hm (lk.xo.sup fun z => by rw [z] at hx; cases hx) c.rm (pa_cons pe_sem pa_nil hs) (c.gl hg) hd hs hpl), h1.run lk tk A w fun d S1 μ1 H1 F1 v as A1 P1 r1 o1 w1 => ?_⟩
  cases ex : fz 6 d with
  | none =>
    rw [ex] at w1
    exact w1.elim
  | some y =>
    rw [ex] at w1
    refine ⟨v, rfl, fun dd hdd => ?_⟩
    obtain ⟨A2, P2⟩ := A1.frzd P1 o1
    have ry := fz_rep (frz_same (H := H1) fun a ha => (o1.fr a ha).2.1) r1 (fun _ h => h) ex
    obtain ⟨A3, P3⟩ := laidF (L := q.L) (o := .xd [(x.f, v)]) A2 hdd
    refine w1 fr σ μ1 _ _ (.ref (q.fa x.c)) (some dd) A3 (P2.trans P3) ?_
    rw [lk.xo.er]
    exact ⟨x.name, x.f, dd, v, hx, rfl, rfl, upd_same, ry.mono (at_mono P3.f)⟩
theorem Cok.tr (c : Cok X gi k N sc) (pn : List (Addr × Obj)) (xe : Value → Shared → Prop) : Cok (X.tr pn xe) gi k N sc := ⟨c.n, c.s, c.nd, c.calm, c.gd, c.rm, c.bi, c.cs⟩
/-- what the clauses catch -/
theorem try_core {cs : List (Nat × Str)} {i j : Nat} {n v : Str} {test : Expr} {er : ER} {q : Q} {W : WX} {fr : Frame} {S : Store} {μ : Nat → Addr} {σ : L2.St} {H F : Hp} {D : Ends} (c : Cok X gi k N sc) (hz : X.stack = X.env :: X.outer ∧ X.env.frame = some X.env.locals) (hi : N[i]? = some n) (hj : N[j]? = some v) (hn : sc.names.lookup n = some .local) (hv : sc.names.lookup v = some .local) (hdn : (n == ("__debug__" : Str)) = false) (hcn : (n == ("__classdict__" : Str)) = false)
    (lk : Lnk X gi k er q) (hcs : ∀ y ∈ cs, ∃ nm, XN.mk y.1 nm y.2 ∈ gi.xs) (ht : TestR X test (cs.map fun y => .ref (q.fa y.1))) (h1 : ∀ pn xe W Q, Takes (X.tr pn xe) W → WR X.K er W q.L fr σ S μ H F (f q fr S) (KE X.K H Q) → semE (X.tr pn xe) e σ H Q) (hsw : ∀ pn xe, swapsWith e none pe.line (X.tr pn xe).env = pure false) (A : Ab X.K fr S μ σ H F) (w : WS X.K er W q.L S μ H F (Z.tryx f cs i j q fr S) D) :
    ∃ t, PS X (.Try [.Expr e pe] [.ExceptHandler (some test) (some n) [.Assign [.Name v pv] (.Name n pn) pa] pc] [] [] pos) t ∧ t D σ H := by
  have kn : X.env.kindOf n = some .local := by
    show X.env.scope.names.lookup n = _
    rw [c.s]
    exact hn
  have kv : X.env.kindOf v = some .local := by
    show X.env.scope.names.lookup v = _
    rw [c.s]
    exact hv
  refine ⟨_, ps_try_put hz.1 hz.2 (by rw [c.n]; exact c.nd) (by rw [c.n]; exact hi) kn (by rw [c.n]; exact hj) kv hdn hcn ht, fun pn' xe tk2 hp2 => ?_⟩
  have lk2 : Lnk (X.tr pn' xe) gi k er q := ⟨lk.df, lk.xo, lk.ta⟩
  refine ⟨_, pss_cons (ps_expr pe_sem (hsw pn' xe)) pss_nil, h1 pn' xe _ _ tk2 ?_⟩
  unfold Z.tryx at w
  cases ef : f q fr S with
  | no =>
    rw [ef] at w
    exact w.elim
  | ok d S1 =>
    rw [ef] at w
    exact fun μ1 H1 F1 A1 P1 u as r o => w σ μ1 H1 F1 A1 P1
  | ex c' x S1 =>
    rw [ef] at w
    intro μ1 H1 F1 cls dx A1 P1 ee
    rw [lk.xo.er] at ee
    obtain ⟨nm, fd, dd, u, hmem, rfl, rfl, hF, ru⟩ := ee
    dsimp only at w
    split at w
    · rename_i y ey
      obtain ⟨l1, l2, el⟩ : ∃ l1 l2, cs = l1 ++ (c', y) :: l2 := List.append_of_mem (by
        have : ∀ l : List (Nat × Str), l.lookup c' = some y → (c', y) ∈ l := fun l => by
          induction l with
          | nil => intro z; cases z
          | cons a l ih =>
            intro z
            obtain ⟨a1, a2⟩ := a
            rw [List.lookup_cons] at z
            split at z
            · rename_i hb
              cases z
              rw [beq_iff_eq.mp hb]
              exact List.mem_cons_self
            · exact List.mem_cons_of_mem _ (ih z)
        exact this cs ey)
      have hy : (c', y) ∈ cs := by
        rw [el]
        exact List.mem_append_right _ List.mem_cons_self
      obtain ⟨nm2, hm2⟩ := hcs _ hy
      have ef2 : fd = y := lk.xo.uq _ hmem _ hm2 rfl
      subst ef2
      have any : ∀ l : List (Nat × Str), (∀ y ∈ l, ∃ nm, XN.mk y.1 nm y.2 ∈ gi.xs) → PySem.W.exmAny X.K (.ref (q.fa c')) (l.map fun y => .ref (q.fa y.1)) = some (l.any fun y => c' == y.1) := fun l => by
        induction l with
        | nil => intro _; rfl
        | cons a l ih =>
          intro hl
          obtain ⟨nm3, hm3⟩ := hl a List.mem_cons_self
          have e1 := lk.xo.exm _ hmem _ hm3
          have e2 := ih fun y hy => hl y (List.mem_cons_of_mem _ hy)
          rw [List.map_cons, List.any_cons]
          unfold PySem.W.exmAny
          rw [e1, e2]
      refine ⟨?_, q.fa c', dd, rfl, rfl, fun a ha => ?_⟩
      · show PySem.W.exmAny X.K _ _ = _
        rw [any cs hcs]
        exact congrArg some (List.any_eq_true.mpr ⟨_, hy, beq_self_eq_true c'⟩)
      · obtain ⟨A2, P2⟩ := laidF (L := q.L) (o := exv a (q.fa c') dd) A1 ha
        have rx : Rep X.K (At (upd F1 a (exv a (q.fa c') dd))) (.ref a) (.exc c' (q.fa c') fd x) := by
          refine .exc (d := dd) (v := u) upd_same ?_ (ru.mono (at_mono P2.f))
          exact P2.f _ _ hF
        exact w _ μ1 _ _ (((A2.set (i := i) (.t rx)).set (i := j) (.t rx)).unset (i := i)) (P1.trans P2)
    · exact w.elim
/-- except C as n -/
theorem sems_try1 {i j : Nat} {n v nm : Str} {y : Nat × Str} {pt : Pos} (c : Cok X gi k N sc) (hz : X.stack = X.env :: X.outer ∧ X.env.frame = some X.env.locals) (hi : N[i]? = some n) (hj : N[j]? = some v) (hn : sc.names.lookup n = some .local) (hv : sc.names.lookup v = some .local) (hdn : (n == ("__debug__" : Str)) = false) (hcn : (n == ("__classdict__" : Str)) = false)
    (h : XN.mk y.1 nm y.2 ∈ gi.xs) (hg : sc.names.lookup nm = some .globalImplicit) (hd : (nm == ("__debug__" : Str)) = false) (h1 : ∀ pn xe, SemE (X.tr pn xe) gi k e f) (hsw : ∀ pn xe, swapsWith e none pe.line (X.tr pn xe).env = pure false) :
    SemS X gi k (.Try [.Expr e pe] [.ExceptHandler (some (.Name nm pt)) (some n) [.Assign [.Name v pv] (.Name n pn) pa] pc] [] [] pos) (Z.tryx f [y] i j) := by
  intro er q lk W tk fr S μ σ H F A D w
  obtain ⟨fI, T, hm⟩ := lk.xo.own _ h
  exact try_core c hz hi hj hn hv hdn hcn lk (fun z hz => by rw [List.mem_singleton.mp hz]; exact ⟨nm, h⟩) (test_one (c.gl hg) hd hm) (fun pn xe W Q tk w => h1 pn xe er q ⟨lk.df, lk.xo, lk.ta⟩ W tk fr S μ σ H F A Q w) hsw A w
/-- except (C, D) as n -/
theorem sems_try2 {i j : Nat} {n v nm nm2 : Str} {y z : Nat × Str} {jt : Nat} {pt pt2 pt3 : Pos} (c : Cok X gi k N sc) (hz : X.stack = X.env :: X.outer ∧ X.env.frame = some X.env.locals) (hi : N[i]? = some n) (hj : N[j]? = some v) (hn : sc.names.lookup n = some .local) (hv : sc.names.lookup v = some .local) (hdn : (n == ("__debug__" : Str)) = false) (hcn : (n == ("__classdict__" : Str)) = false)
    (h : XN.mk y.1 nm y.2 ∈ gi.xs) (hg : sc.names.lookup nm = some .globalImplicit) (hd : (nm == ("__debug__" : Str)) = false) (h2 : XN.mk z.1 nm2 z.2 ∈ gi.xs) (hg2 : sc.names.lookup nm2 = some .globalImplicit) (hd2 : (nm2 == ("__debug__" : Str)) = false) (h1 : ∀ pn xe, SemE (X.tr pn xe) gi k e f) (hsw : ∀ pn xe, swapsWith e none pe.line (X.tr pn xe).env = pure false) :
    SemS X gi k (.Try [.Expr e pe] [.ExceptHandler (some (.Tuple [.Name nm pt, .Name nm2 pt2] jt pt3)) (some n) [.Assign [.Name v pv] (.Name n pn) pa] pc] [] [] pos) (Z.tryx f [y, z] i j) := by
  intro er q lk W tk fr S μ σ H F A D w
  obtain ⟨fI, T, hm⟩ := lk.xo.own _ h
  obtain ⟨fI2, T2, hm2⟩ := lk.xo.own _ h2
  refine try_core c hz hi hj hn hv hdn hcn lk (fun u hu => ?_) (test_two (c.gl hg) hd hm (c.gl hg2) hd2 hm2) (fun pn xe W Q tk w => h1 pn xe er q ⟨lk.df, lk.xo, lk.ta⟩ W tk fr S μ σ H F A Q w) hsw A w
  rcases List.mem_cons.mp hu with rfl | hu
  · exact ⟨nm, h⟩
  · rw [List.mem_singleton.mp hu]
    exact ⟨nm2, h2⟩
theorem exc_slot {j c : Nat} {C : Addr} {y : Str} {x : T} {fr : Frame} {S : Store} {μ : Nat → Addr} {σ : L2.St} {H F : Hp} {K : PySem.W.Frag} (A : Ab K fr S μ σ H F) (h : fr[j]? = some (some (.t (.exc c C y x)))) :
    ∃ a d u, σ[j]? = some (some (.ref a)) ∧ H a = some (exv a C d) ∧ H d = some (.xd [(y, u)]) ∧ Rep K (At F) u x := by
  obtain ⟨v, e1, r⟩ := A.sl j _ h
  cases r with
  | t r =>
    obtain ⟨a, d, u, rfl, h1, h2, h3⟩ := rep_exc r
    exact ⟨a, d, u, e1, now_ex (A.hs.sub _ _ h1) (fun _ z => by have z' : HO.ext _ = HO.dK _ := z; cases z'), now_ex (A.hs.sub _ _ h2) (fun _ z => by cases z), h3⟩
/-- err.f -/
theorem sem_attr {j : Nat} {x y : Str} {ns : List Nat} (n : Nm X j x) (hn : ∀ c ∈ ns, ∃ nm, XN.mk c nm y ∈ gi.xs) (hb : attributeBase (.Name x p) y X.env (eval (.Name x p) X.env) = eval (.Name x p) X.env) : SemE X gi k (.Attribute (.Name x p) y pos) (Z.attr j y ns) := by
  intro er q lk W tk fr S μ σ H F A Q w
  unfold Z.attr at w
  split at w
  · rename_i c C g u e0
    split at w
    · rename_i hc
      obtain ⟨rfl, rfl, hc⟩ := hc
      obtain ⟨nm, hm⟩ := hn c hc
      obtain ⟨fI, T, -⟩ := lk.xo.own _ hm
      obtain ⟨a, d, z, e1, h1, h2, h3⟩ := exc_slot A e0
      exact ⟨_, pe_exa T (pe_var n.n n.v n.d n.c) hb, .ref a, e1, a, d, z, rfl, h1, h2, giveT w A .refl h3⟩
    · exact w.elim
  · exact w.elim
theorem isx_core {j c : Nat} {x y : Str} {u : T} {cl : Expr} {fr : Frame} {S : Store} {μ : Nat → Addr} {σ : L2.St} {H F : Hp} {er : ER} {q : Q} {W : WX} {Q : VK} {b : Bool} {vc : V} {uc : Value} (n : Nm X j x) (lk : Lnk X gi k er q) (A : Ab X.K fr S μ σ H F) (h0 : fr[j]? = some (some (.t (.exc c (q.fa c) y u)))) {nm : Str} (hm : XN.mk c nm y ∈ gi.xs)
    (ni : Bi X "isinstance" (.builtin "isinstance")) (hcl : PE X cl (tC vc)) (hv : ∀ u, RelV vc u → u = uc) (hk : PySem.W.kitOne X.K (.ref (q.fa c)) uc = some b) (he : starEach [.Name x p, cl] X.env = (false, eval (.Name x p) X.env) :: starEach [cl] X.env) (hs : starEach [cl] X.env = [(false, eval cl X.env)]) (hpl : (backTo pos (starEach [cl] X.env)).any (·.1) = false)
    (w : WR X.K er W q.L fr σ S μ H F (.ok (.bl b) S) (KE X.K H Q)) : semE X (.Call (.Name "isinstance" p') [.Name x p, cl] [] pos) σ H Q := by
  obtain ⟨fI, T, -⟩ := lk.xo.own _ hm
  obtain ⟨a, d, z, e1, h1, h2, h3⟩ := exc_slot A h0
  exact ⟨_, pe_callB (call_isX T hk) ni.g ni.m ni.b (pa_cons (pe_var n.n n.v n.d n.c) (pa_cons hcl pa_nil hs) he) ni.n ni.d he hpl, .ref a, e1, a, d, vc, y, z, rfl, hv, h1, h2, giveT w A .refl (.bl b)⟩
/-- isinstance(err, ValueError) -/
theorem sem_isxV {j : Nat} {x : Str} {ns : List Nat} (n : Nm X j x) (ni : Bi X "isinstance" (.builtin "isinstance")) (nv : Bi X "ValueError" (.type "ValueError")) (hn : ∀ c ∈ ns, ∃ nm y, XN.mk c nm y ∈ gi.xs)
    (he : starEach [.Name x p, .Name "ValueError" p2] X.env = (false, eval (.Name x p) X.env) :: starEach [.Name "ValueError" p2] X.env) (hs : starEach [.Name "ValueError" p2] X.env = [(false, eval (.Name "ValueError" p2) X.env)]) (hpl : (backTo pos (starEach [.Name "ValueError" p2] X.env)).any (·.1) = false) :
    SemE X gi k (.Call (.Name "isinstance" p') [.Name x p, .Name "ValueError" p2] [] pos) (Z.isx j ns ns) := by
  intro er q lk W tk fr S μ σ H F A Q w
  unfold Z.isx at w
  split at w
  · rename_i c C g u e0
    split at w
    · rename_i hc
      obtain ⟨rfl, hc⟩ := hc
      obtain ⟨nm, y, hm⟩ := hn c hc
      obtain ⟨a, d, z, e1, h1, h2, h3⟩ := exc_slot A e0
      obtain ⟨fI, T, -⟩ := lk.xo.own _ hm
      rw [List.contains_iff_mem.mpr hc] at w
      exact ⟨_, pe_callB (call_isX T (lk.xo.kve _ hm)) ni.g ni.m ni.b (pa_cons (pe_var n.n n.v n.d n.c) (pa_cons (pe_bltn (v := .ty "ValueError") nv.g nv.m nv.b rfl nv.n nv.d) pa_nil hs) he) ni.n ni.d he hpl, .ref a, e1, a, d, .ty "ValueError", g, z, rfl, fun u r => r, h1, h2, giveT w A .refl (.bl true)⟩
    · exact w.elim
  · exact w.elim
/-- isinstance(err, C) -/
theorem sem_isxO {j : Nat} {x : Str} {ns : List Nat} {t : XN} (n : Nm X j x) (ni : Bi X "isinstance" (.builtin "isinstance")) (ht : t ∈ gi.xs) (c0 : Cok X gi k N sc) (hg : sc.names.lookup t.name = some .globalImplicit) (hd : (t.name == ("__debug__" : Str)) = false) (hn : ∀ c ∈ ns, ∃ nm y, XN.mk c nm y ∈ gi.xs)
    (he : starEach [.Name x p, .Name t.name p2] X.env = (false, eval (.Name x p) X.env) :: starEach [.Name t.name p2] X.env) (hs : starEach [.Name t.name p2] X.env = [(false, eval (.Name t.name p2) X.env)]) (hpl : (backTo pos (starEach [.Name t.name p2] X.env)).any (·.1) = false) :
    SemE X gi k (.Call (.Name "isinstance" p') [.Name x p, .Name t.name p2] [] pos) (Z.isx j ns [t.c]) := by
  intro er q lk W tk fr S μ σ H F A Q w
  unfold Z.isx at w
  split at w
  · rename_i c C g u e0
    split at w
    · rename_i hc
      obtain ⟨rfl, hc⟩ := hc
      obtain ⟨nm, y, hm⟩ := hn c hc
      obtain ⟨a, d, z, e1, h1, h2, h3⟩ := exc_slot A e0
      obtain ⟨fI, T, -⟩ := lk.xo.own _ hm
      obtain ⟨fI2, T2, hm2⟩ := lk.xo.own _ ht
      have ek : [t.c].contains c = (c == t.c) := by
        rw [List.contains_cons, List.contains_nil, Bool.or_false]
      rw [ek] at w
      exact ⟨_, pe_callB (call_isX T (lk.xo.kit _ hm _ ht)) ni.g ni.m ni.b (pa_cons (pe_var n.n n.v n.d n.c) (pa_cons (pe_glob (v := .ref (q.fa t.c)) (c0.gl hg) hm2 rfl hd) pa_nil hs) he) ni.n ni.d he hpl, .ref a, e1, a, d, .ref (q.fa t.c), g, z, rfl, fun u r => r, h1, h2, giveT w A .refl (.bl _)⟩
    · exact w.elim
  · exact w.elim
end
end Mi

set_option Elab.async false
set_option linter.all false
set_option maxRecDepth 100000
set_option maxHeartbeats 4000000
/-! N30: what the module's top leaves of its error classes -/
namespace Mi
open PySem PySem.W PySem.Calls PyProof.Rows PySem.HandSPX PySem.Spec
/-- an error class by its text: its name, its field, its __init__ -/
structure XD where
  nm : Str
  f : Str
  qual : Str
  params : Arguments
  body : List Stmt
  scope : Scope
abbrev FnI : Type := Option (Str × Str × Arguments × FuncBody × Scope × Addr × Addr × List Str)
def fnI (K : Frag) (nm : Str) : FnI := match K.lookup (He.ma K (He.ga K nm) "__init__") with
  | some ⟨_, _, .func fd, _⟩ => some (fd.name, fd.qualname, fd.params, fd.body, fd.scope, fd.globals, fd.builtins, fd.closure.map (·.1))
  | _ => none
def XD.val (d : XD) : FnI := some ("__init__", d.qual, d.params, .stmts d.body, d.scope, mainGlobals, builtinsNs, ["__class__"])
def codeB (K : Frag) (file q : Str) (v : Value) : Bool := match v with
  | .ref cda => codeIn K (.ref cda) q && (match K.lookup cda with
    | some ⟨_, _, .fields vs, _⟩ => (match (vs[2]? : Option Value) with
      | some (.str fl _) => (file == fl)
      | _ => false)
    | _ => false)
  | _ => false
def cellB (K : Frag) (C : Addr) (l : List (Str × Addr)) : Bool := match l with
  | [(_, cc)] => (match K.lookup cc with
    | some ⟨_, _, .cell (some v), _⟩ => decide (v = .ref C)
    | _ => false)
  | _ => false
def initB (K : Frag) (file : Str) (C fI : Addr) : Bool := match K.lookup fI with
  | some ⟨_, _, .func fd, _⟩ => codeB K file fd.qualname fd.code && (decide (fd.defaults = .none) && (decide (fd.kwdefaults = .none) && cellB K C fd.closure))
  | _ => false
def clsB (K : Frag) (C : Addr) : Bool := match clsIn K C with
  | some cd => decide (cd.mro = .ref C :: veTail) && cd.hasDict
  | none => false
def xcB (K : Frag) (file : Str) (xs : List XD) (d : XD) : Bool :=
  initB K file (He.ga K d.nm) (He.ma K (He.ga K d.nm) "__init__") && (clsB K (He.ga K d.nm) && (excInitIn K (He.ga K d.nm) veTail "ValueError.__new__" && (
  decide (findIn K (.ref (He.ga K d.nm)) "__setattr__" = some (some (.builtin "object.__setattr__"))) && (
  decide (findIn K (.ref (He.ga K d.nm)) d.f = some none) && (
  decide (findIn K (.ref (He.ga K d.nm)) "__init__" = some (some (.ref (He.ma K (He.ga K d.nm) "__init__")))) && (
  decide (typeIn K (.ref (He.ma K (He.ga K d.nm) "__init__")) = some (.type "function")) && (
  keepIn K (.ref (He.ga K d.nm)) && (
  decide (mroIn K (He.ga K d.nm) (.ref (He.ga K d.nm)) = some true) && (
  decide (subIn K (.ref (He.ga K d.nm)) (.type "ValueError") = some true) && (
  decide (subIn K (.ref (He.ga K d.nm)) (.type "BaseException") = some true) && (
  decide (typeIn K (.ref (He.ga K d.nm)) = some (.type "type")) && (
  decide (nsIn K cStatics "thirdparty.any" = some none) && (
  decide (findIn K (.ref (He.ga K d.nm)) "__getattribute__" = some (some (.builtin "BaseException.__getattribute__"))) && (
  decide (findIn K (.ref (He.ga K d.nm)) "__getattr__" = some none) && (
  hasDictIn K (He.ga K d.nm) && (
  decide (findIn K (.ref (He.ga K d.nm)) "__class__" = some (some (.builtin "object.__class__"))) && (
  decide (specialIn K (.builtin "object.__class__") "__get__" = some (some (.builtin "getset_descriptor.__get__"))) && (
  decide (takesIn K (.builtin "object.__class__") = some true) && (
  decide (mroIn K (He.ga K d.nm) (.type "object") = some true) && (
  decide (kitOne K (.ref (He.ga K d.nm)) (.type "ValueError") = some true) && (
  xs.all fun y => decide (exmOne K (.ref (He.ga K d.nm)) (.ref (He.ga K y.nm)) = some (decide (d.nm = y.nm))) && decide (kitOne K (.ref (He.ga K d.nm)) (.ref (He.ga K y.nm)) = some (decide (d.nm = y.nm)))
  )))))))))))))))))))))
/-- its text -/
structure XTxt (d : XD) : Prop where
  body : ∃ (msg : Str) (j : Nat) (p0 p1 p2 p3 p4 p5 q1 q2 q3 q4 : Pos), d.body = iB d.f msg j p0 p1 p2 p3 p4 p5 q1 q2 q3 q4 ∧ (p2.endLine == p4.line) = true
  binds : ∀ (doc pm : Value) (an : Option Addr) (cda cc : Addr) (ct : Value) (s : Shared) (u v : Value), BindsTo s (ksFn "__init__" d.qual d.params d.body d.scope .none .none doc pm an (.ref cda) ct cc) ⟨[u, v], []⟩ [("self", u), (d.f, v)]
  ar : ∃ ar, (d.params.posonlyargs ++ d.params.args).head? = some ar ∧ ar.arg = "self"
  k : d.scope.kind = .function
  co : d.scope.isCoroutine = false
  gen : d.scope.isGenerator = false
  nc : ∀ x ∈ d.scope.names, x.2 ≠ .cell
  ks : d.scope.names.lookup ("super" : Str) = some .globalImplicit
  kc : d.scope.names.lookup ("__class__" : Str) = some .free
  ka : d.scope.names.lookup ("self" : Str) = some .local
  kf : d.scope.names.lookup d.f = some .local
  fs : d.f ≠ "self"
  df : (d.f == ("__debug__" : Str)) = false
section
variable {K : Frag} {file : Str} {xs : List XD} {d : XD} {P : Program}
theorem own_of (c : xcB K file xs d = true) (e : fnI K d.nm = d.val) (t : XTxt d) (hf : P.main.file = file) (ht : (P.main.scope.names.lookup ("super" : Str)).isSome = false) :
    OwnX P K (He.ga K d.nm) (He.ma K (He.ga K d.nm) "__init__") d.f := by
  unfold xcB at c
  obtain ⟨c1, c⟩ := He.ba c
  obtain ⟨c2, c⟩ := He.ba c
  obtain ⟨c3, c⟩ := He.ba c
  obtain ⟨c4, c⟩ := He.ba c
  obtain ⟨c5, c⟩ := He.ba c
  obtain ⟨c6, c⟩ := He.ba c
  obtain ⟨c7, c⟩ := He.ba c
  obtain ⟨c8, c⟩ := He.ba c
  obtain ⟨c9, c⟩ := He.ba c
  obtain ⟨c10, c⟩ := He.ba c
  obtain ⟨c11, c⟩ := He.ba c
  obtain ⟨c12, c⟩ := He.ba c
  obtain ⟨c13, c⟩ := He.ba c
  obtain ⟨c14, c⟩ := He.ba c
  obtain ⟨c15, c⟩ := He.ba c
  obtain ⟨c16, c⟩ := He.ba c
  obtain ⟨c17, c⟩ := He.ba c
  obtain ⟨c18, c⟩ := He.ba c
  obtain ⟨c19, c⟩ := He.ba c
  obtain ⟨c20, c⟩ := He.ba c
  obtain ⟨c21, c⟩ := He.ba c
  have hcls : ∃ cd, clsIn K (He.ga K d.nm) = some cd ∧ cd.mro = .ref (He.ga K d.nm) :: veTail ∧ cd.hasDict = true := by
    unfold clsB at c2
    split at c2
    · rename_i cd hcd
      obtain ⟨a1, a2⟩ := He.ba c2
      exact ⟨cd, hcd, of_decide_eq_true a1, a2⟩
    · cases c2
  refine ⟨hcls, c3, of_decide_eq_true c4, of_decide_eq_true c5, of_decide_eq_true c6, of_decide_eq_true c7, c8, of_decide_eq_true c9, of_decide_eq_true c10, of_decide_eq_true c11, of_decide_eq_true c12, of_decide_eq_true c13, of_decide_eq_true c14, of_decide_eq_true c15, c16, of_decide_eq_true c17, of_decide_eq_true c18, of_decide_eq_true c19, of_decide_eq_true c20, ⟨?_⟩, ht⟩
  unfold initB at c1
  unfold fnI at e
  generalize He.ma K (He.ga K d.nm) "__init__" = fI at c1 e
  split at c1
  · rename_i oc od fd osl ho
    rw [ho] at e
    have e := Option.some.inj e
    obtain ⟨a1, k1⟩ := He.ba c1
    obtain ⟨a2, k2⟩ := He.ba k1
    obtain ⟨a3, a4⟩ := He.ba k2
    clear c1 k1 k2
    replace a2 := of_decide_eq_true a2
    replace a3 := of_decide_eq_true a3
    obtain ⟨name, qualname, params, fbody, scope, globals, closure, defaults, kwdefaults, doc, pyModule, annotations, code, closureTuple, builtins⟩ := fd
    dsimp only at a1 a2 a3 a4 e ho
    simp only [Prod.mk.injEq] at e
    obtain ⟨rfl, rfl, rfl, rfl, rfl, rfl, rfl, e8⟩ := e
    subst a2 a3
    unfold cellB at a4
    split at a4
    · rename_i nm cc
      rw [List.map_cons, List.map_nil] at e8
      have e9 : nm = ("__class__" : Str) := (List.cons.injEq _ _ _ _ ▸ e8 : _ ∧ _).1
      subst e9
      split at a4
      · rename_i cl cld v csl hcell
        have a4 := of_decide_eq_true a4
        subst a4
        unfold codeB at a1
        split at a1
        · rename_i cda
          obtain ⟨b1, b2⟩ := He.ba a1
          split at b2
          · rename_i ccl cdd vs ccs hcode
            split at b2
            · rename_i fl tf hvs
              obtain ⟨msg, j, p0, p1, p2, p3, p4, p5, q1, q2, q3, q4, hbody, hpl⟩ := t.body
              obtain ⟨ar, har, har2⟩ := t.ar
              have tb := t.binds
              rw [hbody] at ho tb
              exact ⟨oc, od, osl, d.qual, msg, d.params, d.scope, doc, pyModule, annotations, cda, cc, closureTuple, ar, j, p0, p1, p2, p3, p4, p5, q1, q2, q3, q4, ho, b1, ⟨ccl, cdd, vs, ccs, fl, tf, hcode, hvs, by rw [hf]; exact b2⟩, ⟨cl, cld, csl, hcell⟩, fun s u v => tb doc pyModule annotations cda cc closureTuple s u v, har, har2, t.k, t.co, t.gen, t.nc, t.ks, t.kc, t.ka, t.kf, t.fs, t.df, hpl⟩
            · cases b2
          · cases b2
        · cases a1
      · cases a4
    · cases a4
  · cases c1
/-! ### the hook -/
abbrev AlX : Type := He.AlD × Bool × List FnI
def obsX (fa : List He.Fa) (fn : List He.DefD) (xs : List XD) (file : Str) (K : Frag) : AlX := (He.obsD fa fn K, xs.all (fun d => xcB K file xs d), xs.map fun d => fnI K d.nm)
def valX (fn : List He.DefD) (xs : List XD) : AlX := (He.valD fn, true, xs.map XD.val)
def SaysX (fa : List He.Fa) (fn : List He.DefD) (xs : List XD) (file : Str) (K : Frag) : Prop := obsX fa fn xs file K = valX fn xs
def obsXG (n : Nat) (fa : List He.Fa) (fn : List He.DefD) (xs : List XD) (file : Str) (g : Addr → Option Obj) : AlX := obsX fa fn xs file (He.frG g (cStatics :: He.asD g n))
def hookX (n : Nat) (fa : List He.Fa) (fn : List He.DefD) (xs : List XD) (file : Str) : Hook where
  α := AlX
  obs := fun s => obsXG n fa fn xs file s.heap.get?
  val := fun _ => valX fn xs
  says := fun _ h => ∃ K : Frag, K.In h ∧ SaysX fa fn xs file K
  of := fun _ _ e => ⟨_, He.frG_in, e⟩
  keeps := fun _ _ _ ⟨K, hK, c⟩ k => ⟨K, Frag.In.keeps hK k, c⟩
theorem obsXG_eq {n : Nat} {fa : List He.Fa} {fn : List He.DefD} {xs : List XD} {file : Str} {g : Addr → Option Obj} {s : Shared} (h : ∀ a, g a = s.heap.get? a) : obsXG n fa fn xs file g = (hookX n fa fn xs file).obs s := by
  have e : g = s.heap.get? := funext h
  rw [e] <;> rfl
variable {fa : List He.Fa} {fn : List He.DefD} {mg : Str → Option Value} {ns : List XN} {faf : Nat → Addr}
theorem SaysX.dd (c : SaysX fa fn xs file K) : He.SaysD fa fn K := congrArg (fun z : AlX => z.1) c
theorem SaysX.x (c : SaysX fa fn xs file K) (h : d ∈ xs) : xcB K file xs d = true := List.all_eq_true.mp (show (xs.all fun d => xcB K file xs d) = true from congrArg (fun z : AlX => z.2.1) c) d h
theorem SaysX.v (c : SaysX fa fn xs file K) (h : d ∈ xs) : fnI K d.nm = d.val := by
  have e : xs.map (fun d => fnI K d.nm) = xs.map XD.val := congrArg (fun z : AlX => z.2.2) c
  obtain ⟨i, hi⟩ := List.getElem?_of_mem h
  have := congrArg (fun l : List FnI => l[i]?) e
  rw [List.getElem?_map, List.getElem?_map, hi] at this
  exact Option.some.inj this
/-- the classes are as the layer wants them -/
theorem xok_of (c : SaysX fa fn xs file K) (hf : P.main.file = file) (ht : (P.main.scope.names.lookup ("super" : Str)).isSome = false) (hs : mg "super" = none) (hm : ∀ x ∈ ns, mg x.name = some (.ref (He.ga K x.name)) ∧ faf x.c = He.ga K x.name)
    (hd : ∀ x ∈ ns, ∃ d ∈ xs, d.nm = x.name ∧ d.f = x.f ∧ XTxt d) (inj : ∀ x ∈ ns, ∀ y ∈ ns, decide (x.name = y.name) = (x.c == y.c)) (uq : ∀ x ∈ ns, ∀ y ∈ ns, x.c = y.c → x.f = y.f) : XOk P K mg ns faf (erX K ns faf) := by
  have all : ∀ x ∈ ns, ∀ y ∈ ns, exmOne K (.ref (faf x.c)) (.ref (faf y.c)) = some (x.c == y.c) ∧ kitOne K (.ref (faf x.c)) (.ref (faf y.c)) = some (x.c == y.c) ∧ kitOne K (.ref (faf x.c)) (.type "ValueError") = some true := fun x hx y hy => by
    obtain ⟨d, hdx, e1, e2, t⟩ := hd x hx
    obtain ⟨d2, hdy, f1, f2, t2⟩ := hd y hy
    have c := c.x hdx
    unfold xcB at c
    obtain ⟨c1, c⟩ := He.ba c
    obtain ⟨c2, c⟩ := He.ba c
    obtain ⟨c3, c⟩ := He.ba c
    obtain ⟨c4, c⟩ := He.ba c
    obtain ⟨c5, c⟩ := He.ba c
    obtain ⟨c6, c⟩ := He.ba c
    obtain ⟨c7, c⟩ := He.ba c
    obtain ⟨c8, c⟩ := He.ba c
    obtain ⟨c9, c⟩ := He.ba c
    obtain ⟨c10, c⟩ := He.ba c
    obtain ⟨c11, c⟩ := He.ba c
    obtain ⟨c12, c⟩ := He.ba c
    obtain ⟨c13, c⟩ := He.ba c
    obtain ⟨c14, c⟩ := He.ba c
    obtain ⟨c15, c⟩ := He.ba c
    obtain ⟨c16, c⟩ := He.ba c
    obtain ⟨c17, c⟩ := He.ba c
    obtain ⟨c18, c⟩ := He.ba c
    obtain ⟨c19, c⟩ := He.ba c
    obtain ⟨c20, c⟩ := He.ba c
    obtain ⟨c21, c⟩ := He.ba c
    have z := List.all_eq_true.mp c d2 hdy
    obtain ⟨z1, z2⟩ := He.ba z
    have z1 := of_decide_eq_true z1
    have z2 := of_decide_eq_true z2
    have z3 := of_decide_eq_true c21
    rw [e1, f1, inj x hx y hy] at z1 z2
    rw [e1] at z3
    rw [(hm x hx).2, (hm y hy).2]
    exact ⟨z1, z2, z3⟩
  refine ⟨rfl, fun x hx => ?_, fun _ => hs, fun x hx y hy => (all x hx y hy).1, fun x hx y hy => (all x hx y hy).2.1, fun x hx => (all x hx x hx).2.2, uq⟩
  obtain ⟨d, hdx, e1, e2, t⟩ := hd x hx
  have o := own_of (c.x hdx) (c.v hdx) t hf ht
  rw [e1, e2] at o
  rw [(hm x hx).2]
  exact ⟨_, o, (hm x hx).1⟩
end
/-- the __init__ of a class's text -/
def initOf (s : Stmt) : Stmt := match s with
  | .ClassDef _ _ _ (m :: _) _ _ _ _ _ _ _ => m
  | _ => .Pass ⟨0, 0, 0, 0⟩
end Mi

set_option Elab.async false
set_option linter.all false
set_option maxRecDepth 100000
set_option maxHeartbeats 4000000
/-! N31: what is made is frozen at once; {}; tuple(e); t + u of tuples -/
namespace Mi
open PySem PySem.Spec PyProof.Rows L2
namespace Z
def fzE (f : XE) : XE := fun q fr S => (f q fr S).bnd fun d S1 => match fz 6 d with
  | some x => .ok (.t x) S1
  | none => .no
def dict0 : XE := fun _ _ S => .ok (.newd []) S
def tupl (f : XE) : XE := fun q fr S => (f q fr S).bnd fun d S1 => match sq S1 d with
  | some xs => .ok (.t (.tup xs)) S1
  | none => .no
def tcat (f g : XE) : XE := fun q fr S => (f q fr S).bnd fun x S1 => (g q fr S1).bnd fun y S2 => match x, y with
  | .t (.tup xs), .t (.tup ys) => if xs.length + ys.length ≤ okL then .ok (.t (.tup (xs ++ ys))) S2 else .no
  | _, _ => .no
end Z
section
variable {X : Cx} {gi : GI} {k : Nat} {e a b : Expr} {f g : XE} {p pos : Pos}
theorem sem_fzE (h1 : SemE X gi k e f) : SemE X gi k e (Z.fzE f) := by
  intro er q lk W tk fr S μ σ H F A Q w
  have w' : WR X.K er W q.L fr σ S μ H F ((f q fr S).bnd fun d S1 => match fz 6 d with
    | some x => .ok (.t x) S1
    | none => .no) (KE X.K H Q) := w
  refine h1 er q lk W tk fr S μ σ H F A Q (w'.bnd .refl fun d S1 μ1 H1 F1 A1 P1 w1 v as r o => ?_)
  cases ex : fz 6 d with
  | none =>
    rw [ex] at w1
    exact w1.elim
  | some x =>
    rw [ex] at w1
    obtain ⟨A2, P2⟩ := A1.frzd P1 o
    exact giveT w1 A2 P2 (fz_rep (frz_same (H := H1) fun a ha => (o.fr a ha).2.1) r (fun _ h => h) ex)
theorem sem_dict0 : SemE X gi k (.Dict [] [] pos) Z.dict0 := by
  intro er q lk W tk fr S μ σ H F A Q w
  refine ⟨_, pe_dnewK, fun d hd => ?_⟩
  have P2 := stp_laid (L := q.L) (S := S) (μ := μ) (F := F) (o := .dK []) hd
  refine give w (A.hsof P2 (A.hs.laid hd)) P2 (.newd upd_same .nil) ?_
  exact own_new A.hs hd
theorem sem_tupl (n : Bi X "tuple" (.type "tuple")) (h1 : SemE X gi k e f) (hs : starEach [e] X.env = [(false, eval e X.env)]) : SemE X gi k (.Call (.Name "tuple" p) [e] [] pos) (Z.tupl f) := by
  intro er q lk W tk fr S μ σ H F A Q w
  refine ⟨_, pe_callTy call_tuple_of n.g n.m n.b pa_sem n.n n.d hs rfl, arg1 h1 lk tk A w hs fun d S1 μ1 H1 F1 v as A1 P1 r1 o1 w1 => ?_⟩
  cases ex : sq S1 d with
  | none =>
    rw [ex] at w1
    exact w1.elim
  | some xs =>
    rw [ex] at w1
    obtain ⟨p, vs, rfl, h1, h2⟩ := sq_rep A1.hs r1 ex
    refine ⟨p, vs, rfl, .inl ⟨SqL.of h1, fun l hl => ?_⟩⟩
    obtain ⟨A2, P2⟩ := laidF (L := q.L) (o := .tup vs) A1 hl
    exact giveT w1 A2 (P1.trans P2) (.tup upd_same (h2.mono (at_mono P2.f)))
theorem sem_tcat (h1 : SemE X gi k a f) (h2 : SemE X gi k b g) : SemE X gi k (.BinOp a .Add b pos) (Z.tcat f g) := by
  intro er q lk W tk fr S μ σ H F A Q w
  let D1 : Mi.D → Mi.D → Store → R Mi.D := fun x y S2 => match x, y with
    | .t (.tup xs), .t (.tup ys) => if xs.length + ys.length ≤ okL then .ok (.t (.tup (xs ++ ys))) S2 else .no
    | _, _ => .no
  refine ⟨_, pe_op op_catA pe_sem pe_sem, tOp_go (D1 := D1) h1 h2 lk tk A w ?_⟩
  intro S2 μ2 H2 F2 x y v u as bs A1 P1 r1 r2 o w1
  replace w1 : WR X.K er W q.L fr σ S μ H F (match x, y with
    | .t (.tup xs), .t (.tup ys) => if xs.length + ys.length ≤ okL then .ok (.t (.tup (xs ++ ys))) S2 else .no
    | _, _ => .no) (KE X.K H Q) := w1
  split at w1
  · rename_i xs ys
    split at w1
    · rename_i hl
      obtain ⟨p1, vs, rfl, g1, q1⟩ := rep_tup (repT r1).1
      obtain ⟨p2, ws, rfl, g2, q2⟩ := rep_tup (repT r2).1
      have k1 := now_tup (A1.hs.sub _ _ g1)
      have k2 := now_tup (A1.hs.sub _ _ g2)
      refine ⟨p1, p2, vs, ws, rfl, rfl, SqT.of k1, SqT.of k2, by rw [q1.length, q2.length]; exact line_ok hl, fun hv => ?_, fun hv hw => ?_, fun hv hw c hc => ?_⟩
      · subst hv
        have := q1.length
        have hx : xs = [] := List.length_eq_zero_iff.mp this.symm
        subst hx
        exact giveT w1 A1 P1 (.tup g2 q2)
      · subst hw
        have := q2.length
        have hx : ys = [] := List.length_eq_zero_iff.mp this.symm
        subst hx
        rw [List.append_nil] at w1
        exact giveT w1 A1 P1 (.tup g1 q1)
      · obtain ⟨A2, P2⟩ := laidF (L := q.L) (o := .tup (vs ++ ws)) A1 hc
        exact giveT w1 A2 (P1.trans P2) (.tup upd_same ((q1.append q2).mono (at_mono P2.f)))
    · exact w1.elim
  · exact w1.elim
end
end Mi

set_option Elab.async false
set_option linter.all false
set_option maxRecDepth 100000
set_option maxHeartbeats 4000000
/-! N32: reckoning with errors -/
namespace Mi
open PySem L2
section
variable {q : Q} {fr fr1 fr2 : Frame} {S S1 S2 : Store} {a b e : XE} {ta : XT} {s t : XB} {it : XI} {d : D} {n c : Nat} {x : T}
theorem run_ex {body : XB} {args : List D} {m : Nat} (h : body { q with L := S.length } (args.map some ++ List.replicate (m - args.length) none) S = .ex c x S1) : runD body m q args S = .ex c x (S1.take S.length) := by
  unfold runD
  rw [h]
theorem q_ex (h1 : s q fr S = .ex c x S1) : Z.seq s t q fr S = .ex c x S1 := by
  rw [z_seq, h1]
  rfl
theorem s_rz (h : a q fr S = .ok d S1) (hf : fz 6 d = some x) : Z.raise c a q fr S = .ex c x S1 := by
  unfold Z.raise
  rw [h, bnd_ok, hf]
theorem s_exprX (h : a q fr S = .ex c x S1) : Z.expr a q fr S = .ex c x S1 := by
  rw [z_expr, h]
  rfl
theorem q_ifX (h : ta q fr S = .ok true S1) (h2 : s q fr S1 = .ex c x S2) : Z.seq (Z.ifs ta s Z.skip) t q fr S = .ex c x S2 := q_ex ((s_ifT h).trans h2)
theorem s_forX {tg : Z.Tg} {items : List D} (hi : it q fr S = .ok (items, none) S1) (hl : Z.forL tg (fun fr2 S2 => Z.cutR false S1.length (s q fr2 S2)) items fr S1 = .ex c x S2) : Z.fors false tg it s q fr S = .ex c x S2 := by
  rw [z_fors, hi, bnd_ok]
  show unlR none (Z.forL tg (fun fr2 S2 => Z.cutR false S1.length (s q fr2 S2)) items fr S1) = _
  rw [hl]
  rfl
theorem fl_nx {tg : Z.Tg} {b : Frame → Store → R (Fl × Frame)} {ds : List D} (ha : asg S tg d fr = some fr1) (hb : b fr1 S = .ok (.nx, fr2) S2) : Z.forL tg b (d :: ds) fr S = Z.forL tg b ds fr2 S2 := by
  rw [Z.forL, ha]
  dsimp only
  rw [hb, bnd_ok]
theorem fl_rt {tg : Z.Tg} {b : Frame → Store → R (Fl × Frame)} {ds : List D} {y : D} (ha : asg S tg d fr = some fr1) (hb : b fr1 S = .ok (.rt y, fr2) S2) : Z.forL tg b (d :: ds) fr S = .ok (.rt y, fr2) S2 := by
  rw [Z.forL, ha]
  dsimp only
  rw [hb, bnd_ok]
theorem fl_ex {tg : Z.Tg} {b : Frame → Store → R (Fl × Frame)} {ds : List D} (ha : asg S tg d fr = some fr1) (hb : b fr1 S = .ex c x S2) : Z.forL tg b (d :: ds) fr S = .ex c x S2 := by
  rw [Z.forL, ha]
  dsimp only
  rw [hb]
  rfl
theorem cut_x {r : R (Fl × Frame)} {L : Nat} (h : r = .ex c x S1) : Z.cutR false L r = .ex c x S1 := by
  rw [h]
  rfl
theorem s_try {cs : List (Nat × Str)} {i j : Nat} {y : Str} (h : a q fr S = .ex c x S1) (hc : cs.lookup c = some y) : Z.tryx a cs i j q fr S = .ok (.nx, ((fr.set i (some (.t (.exc c (q.fa c) y x)))).set j (some (.t (.exc c (q.fa c) y x)))).set i none) S1 := by
  unfold Z.tryx
  rw [h]
  dsimp only
  rw [hc]
theorem z_isx {j : Nat} {ns ys : List Nat} {y : Str} (h : fr[j]? = some (some (.t (.exc c (q.fa c) y x)))) (hn : c ∈ ns) : Z.isx j ns ys q fr S = .ok (.bl (ys.contains c)) S := by
  unfold Z.isx
  rw [h]
  exact if_pos ⟨rfl, hn⟩
theorem z_attr {j : Nat} {ns : List Nat} {y : Str} (h : fr[j]? = some (some (.t (.exc c (q.fa c) y x)))) (hn : c ∈ ns) : Z.attr j y ns q fr S = .ok (.t x) S := by
  unfold Z.attr
  rw [h]
  exact if_pos ⟨rfl, rfl, hn⟩
/-- numbered from p on -/
def eT (p : Nat) : List T → List T
  | [] => []
  | x :: xs => .tup [.int (p : Nat), x] :: eT (p + 1) xs
theorem eT_get : ∀ (xs : List T) (p i : Nat), (eT p xs)[i]? = (xs[i]?).map fun x => T.tup [.int ((p + i : Nat) : Int), x]
  | [], _, _ => rfl
  | x :: xs, p, 0 => rfl
  | x :: xs, p, i + 1 => by
    show (eT (p + 1) xs)[i]? = _
    rw [eT_get xs (p + 1) i, show p + 1 + i = p + (i + 1) by omega]
    rfl
theorem enumT_eT (xs : List T) : enumT xs = eT 0 xs := by
  refine List.ext_getElem? fun i => ?_
  rw [enumT_get, eT_get, Nat.zero_add]
/-! whole numbers and marks among things -/
def wh : T → Bool
  | .int _ => true
  | _ => false
def T.pl (x : T) : Bool := x.tyS.isSome
def optT : Option Nat → T
  | none => .non
  | some i => .int (i : Nat)
/-- the first that is no whole number -/
def fnw : Nat → List T → Option Nat
  | _, [] => none
  | p, .int _ :: r => fnw (p + 1) r
  | p, _ :: _ => some p
/-- .. or stood before -/
def fwm : List Int → List T → Option Nat
  | _, [] => none
  | pre, .int v :: r => if pre.contains v = true then some pre.length else fwm (pre ++ [v]) r
  | pre, _ :: _ => some pre.length
theorem fnw_ints : ∀ (ns : List Int) (p : Nat) (r : List T), fnw p (ns.map T.int ++ r) = fnw (p + ns.length) r
  | [], _, _ => rfl
  | n :: ns, p, r => by
    show fnw (p + 1) (ns.map T.int ++ r) = _
    rw [fnw_ints ns (p + 1) r, List.length_cons, show p + 1 + ns.length = p + (ns.length + 1) by omega]
theorem fwm_ints : ∀ (ns pre : List Int), (pre ++ ns).Nodup → fwm pre (ns.map T.int) = none
  | [], _, _ => rfl
  | n :: ns, pre, h => by
    show (if pre.contains n = true then _ else fwm (pre ++ [n]) (ns.map T.int)) = none
    have hn : n ∉ pre := fun z => by
      rw [List.nodup_append] at h
      exact h.2.2 n z n List.mem_cons_self rfl
    rw [if_neg (fun z => hn (List.contains_iff_mem.mp z))]
    exact fwm_ints ns (pre ++ [n]) (by rw [List.append_assoc]; exact h)
/-- not marks -/
def badM : T → Bool
  | .lst ts => decide (12 < ts.length) || (fwm [] ts).isSome
  | _ => true
def fbm : Nat → List T → Option Nat
  | _, [] => none
  | p, x :: r => if badM x = true then some p else fbm (p + 1) r
/-- what is wrong with a row, with values, with marks -/
def rErr : T → Option T
  | .lst ts => if 8 < ts.length then some .non else (fbm 0 ts).map fun i => .int (i : Nat)
  | _ => some .non
def vErr : T → Option T
  | .lst ts => if 120 < ts.length then some .non else (fnw 0 ts).map fun i => .int (i : Nat)
  | _ => some .non
def mErr : T → Option T
  | .lst ts => if 12 < ts.length then some .non else (fwm [] ts).map fun i => .int (i : Nat)
  | _ => some .non
end
end Mi

set_option Elab.async false
set_option linter.all false
set_option maxRecDepth 100000
set_option maxHeartbeats 4000000
/-! Dm: the doublet pass -/
namespace Mi
def dstep (A : List Int) (v : Int) (B : List Int) : List Int := if 1 < (A ++ v :: B).count v then (A ++ v :: B).erase v else A ++ v :: B
/-- what is left, the places visited; A: gone through, B: to come -/
def dv (n0 : Nat) : Nat → List Int → List Int → List Int × List Int
  | 0, A, B => (A ++ B, [])
  | _ + 1, A, [] => (A, [])
  | f + 1, A, v :: B => ((dv n0 f ((dstep A v B).take (A.length + 1)) ((dstep A v B).drop (A.length + 1))).1, (((A.length : Nat) : Int) + ((n0 : Nat) : Int) - ((A.length + B.length + 1 : Nat) : Int)) :: (dv n0 f ((dstep A v B).take (A.length + 1)) ((dstep A v B).drop (A.length + 1))).2)
def dpass (xs : List Int) : List Int := (dv xs.length xs.length [] xs).1
def dvis (xs : List Int) : List Int := (dv xs.length xs.length [] xs).2
/-- at how many places values stand that occur more than once -/
def dbl (xs : List Int) : Nat := xs.countP fun w => decide (1 < xs.count w)
theorem dstep_stay {A B : List Int} {v : Int} (h : ¬ 1 < (A ++ v :: B).count v) : (dstep A v B).take (A.length + 1) = A ++ [v] ∧ (dstep A v B).drop (A.length + 1) = B := by
  unfold dstep
  rw [if_neg h]
  have e : A ++ v :: B = (A ++ [v]) ++ B := by rw [List.append_assoc]; rfl
  have l : A.length + 1 = (A ++ [v]).length := by rw [List.length_append]; rfl
  rw [e, l]
  exact ⟨List.take_left, List.drop_left⟩
theorem dstep_drop {A B : List Int} {v : Int} (h : 1 < (A ++ v :: B).count v) : ((dstep A v B).take (A.length + 1)).Perm (A ++ B.take 1) ∧ (dstep A v B).drop (A.length + 1) = B.drop 1 ∧ (dstep A v B).length = A.length + B.length := by
  unfold dstep
  rw [if_pos h]
  by_cases hv : v ∈ A
  · have lA : 0 < A.length := List.length_pos_of_mem hv
    have le : (A.erase v).length = A.length - 1 := List.length_erase_of_mem hv
    rw [List.erase_append_left _ hv]
    have e : A.erase v ++ v :: B = (A.erase v ++ [v]) ++ B := by rw [List.append_assoc]; rfl
    have l : (A.erase v ++ [v]).length = A.length := by rw [List.length_append, le]; show A.length - 1 + 1 = _; omega
    rw [e]
    refine ⟨?_, ?_, ?_⟩
    · rw [List.take_append, l, List.take_of_length_le (by omega), show A.length + 1 - A.length = 1 by omega]
      refine List.Perm.append_right _ ?_
      exact List.perm_append_comm.trans (List.perm_cons_erase hv).symm
    · rw [List.drop_append, l, List.drop_of_length_le (by omega), show A.length + 1 - A.length = 1 by omega]
      rfl
    · rw [List.length_append, l]
  · rw [List.erase_append_right _ hv]
    have e : (v :: B).erase v = B := List.erase_cons_head v B
    rw [e]
    refine ⟨?_, ?_, ?_⟩
    · rw [List.take_append, List.take_of_length_le (by omega), show A.length + 1 - A.length = 1 by omega]
    · rw [List.drop_append, List.drop_of_length_le (by omega), show A.length + 1 - A.length = 1 by omega]
      rfl
    · rw [List.length_append]
theorem dstep_count {A B : List Int} {v : Int} (w : Int) : (dstep A v B).count w = if 1 < (A ++ v :: B).count v ∧ v = w then (A ++ v :: B).count w - 1 else (A ++ v :: B).count w := by
  unfold dstep
  by_cases h : 1 < (A ++ v :: B).count v
  · rw [if_pos h, List.count_erase]
    by_cases e : v = w
    · subst e
      rw [if_pos (show (v == v) = true by simp), if_pos ⟨h, rfl⟩]
    · rw [if_neg (show ¬ (v == w) = true by simpa using e), if_neg (fun z => e z.2), Nat.sub_zero]
  · rw [if_neg h, if_neg fun z => h z.1]
theorem dstep_both {A B : List Int} {v : Int} : (dstep A v B).take (A.length + 1) ++ (dstep A v B).drop (A.length + 1) = dstep A v B := List.take_append_drop _ _
theorem dstep_len {A B : List Int} {v : Int} : ((dstep A v B).drop (A.length + 1)).length ≤ B.length := by
  by_cases h : 1 < (A ++ v :: B).count v
  · rw [(dstep_drop h).2.1, List.length_drop]
    omega
  · rw [(dstep_stay h).2]
    exact Nat.le_refl _
/-- counts get less, but not to nothing -/
theorem dv_count {n0 : Nat} : ∀ (f : Nat) (A B : List Int), B.length ≤ f → ∀ w, (dv n0 f A B).1.count w ≤ (A ++ B).count w ∧ (0 < (A ++ B).count w → 0 < (dv n0 f A B).1.count w)
  | 0, A, B, _, w => ⟨Nat.le_refl _, id⟩
  | f + 1, A, [], _, w => by
    show A.count w ≤ (A ++ []).count w ∧ _
    rw [List.append_nil]
    exact ⟨Nat.le_refl _, id⟩
  | f + 1, A, v :: B, h, w => by
    have hl : ((dstep A v B).drop (A.length + 1)).length ≤ f := Nat.le_trans dstep_len (Nat.le_of_succ_le_succ h)
    obtain ⟨h1, h2⟩ := dv_count (n0 := n0) f _ _ hl w
    rw [dstep_both, dstep_count] at h1 h2
    show (dv n0 f ((dstep A v B).take (A.length + 1)) ((dstep A v B).drop (A.length + 1))).1.count w ≤ _ ∧ (_ → 0 < (dv n0 f ((dstep A v B).take (A.length + 1)) ((dstep A v B).drop (A.length + 1))).1.count w)
    split at h1
    · rename_i e
      rw [if_pos e] at h2
      obtain ⟨e1, rfl⟩ := e
      exact ⟨by omega, fun _ => h2 (by omega)⟩
    · rename_i e
      rw [if_neg e] at h2
      exact ⟨h1, h2⟩
theorem dpass_count (xs : List Int) (w : Int) : (dpass xs).count w ≤ xs.count w ∧ (0 < xs.count w → 0 < (dpass xs).count w) := dv_count xs.length [] xs (Nat.le_refl _) w
theorem dpass_mem {xs : List Int} {w : Int} : w ∈ dpass xs ↔ w ∈ xs := by
  obtain ⟨h1, h2⟩ := dpass_count xs w
  rw [← List.count_pos_iff, ← List.count_pos_iff]
  exact ⟨fun h => by omega, h2⟩
/-- of what occurs more than once at most half is left -/
theorem half_core {xs : List Int} {n0 k : Nat} : ∀ (f : Nat) (A B N U : List Int), B.length ≤ f → A.Perm (N ++ U) → (∀ v ∈ N, (A ++ B).count v = 1) → 2 * U.countP (fun w => decide (1 < xs.count w)) + B.countP (fun w => decide (1 < xs.count w)) ≤ k → (∀ w, (A ++ B).count w ≤ xs.count w) → 2 * dbl (dv n0 f A B).1 ≤ k := by
  have fin : ∀ (A N U : List Int), A.Perm (N ++ U) → (∀ v ∈ N, A.count v = 1) → 2 * U.countP (fun w => decide (1 < xs.count w)) ≤ k → (∀ w, A.count w ≤ xs.count w) → 2 * dbl A ≤ k := fun A N U hp hN hk hc => by
    unfold dbl
    rw [hp.countP_eq, List.countP_append]
    have h1 : N.countP (fun w => decide (1 < A.count w)) = 0 := List.countP_eq_zero.mpr fun w hw => by
      rw [hN w hw]
      decide
    have h2 : U.countP (fun w => decide (1 < A.count w)) ≤ U.countP (fun w => decide (1 < xs.count w)) := List.countP_mono_left fun w _ h => by
      have := hc w
      have h := of_decide_eq_true h
      exact decide_eq_true (by omega)
    omega
  intro f
  induction f with
  | zero =>
    intro A B N U hl hp hN hk hc
    have hB : B = [] := List.length_eq_zero_iff.mp (by omega)
    subst hB
    show 2 * dbl (A ++ []) ≤ k
    rw [List.append_nil] at hN hc ⊢
    exact fin A N U hp hN (by omega) hc
  | succ f ih =>
    intro A B N U hl hp hN hk hc
    cases B with
    | nil =>
      rw [List.append_nil] at hN hc
      exact fin A N U hp hN (by omega) hc
    | cons v B =>
      have hl2 : ((dstep A v B).drop (A.length + 1)).length ≤ f := Nat.le_trans dstep_len (Nat.le_of_succ_le_succ hl)
      have hc2 : ∀ w, ((dstep A v B).take (A.length + 1) ++ (dstep A v B).drop (A.length + 1)).count w ≤ xs.count w := fun w => by
        rw [dstep_both, dstep_count]
        have := hc w
        split <;> omega
      show 2 * dbl (dv n0 f ((dstep A v B).take (A.length + 1)) ((dstep A v B).drop (A.length + 1))).1 ≤ k
      rw [List.countP_cons] at hk
      by_cases h : 1 < (A ++ v :: B).count v
      · obtain ⟨p1, p2, -⟩ := dstep_drop h
        have hv : (decide (1 < xs.count v)) = true := decide_eq_true (by have := hc v; omega)
        rw [if_pos hv] at hk
        refine ih _ _ N (U ++ B.take 1) hl2 (p1.trans ((hp.append_right _).trans (by rw [List.append_assoc]))) (fun w hw => ?_) ?_ hc2
        · rw [dstep_both, dstep_count, if_neg]
          · exact hN w hw
          · rintro ⟨_, rfl⟩
            have := hN v hw
            omega
        · rw [p2, List.countP_append]
          cases B with
          | nil =>
            show 2 * (_ + 0) + 0 ≤ k
            omega
          | cons u B =>
            show 2 * (_ + [u].countP _) + B.countP _ ≤ k
            rw [List.countP_cons] at hk ⊢
            rw [List.countP_nil]
            split at hk <;> rename_i hu
            · rw [if_pos hu]
              omega
            · rw [if_neg hu]
              omega
      · obtain ⟨p1, p2⟩ := dstep_stay h
        have hv1 : (A ++ v :: B).count v = 1 := by
          have : 0 < (A ++ v :: B).count v := List.count_pos_iff.mpr (List.mem_append_right _ List.mem_cons_self)
          omega
        have ed : dstep A v B = A ++ v :: B := if_neg h
        refine ih _ _ (N ++ [v]) U hl2 ?_ (fun w hw => ?_) ?_ hc2
        · rw [p1]
          refine (hp.append_right _).trans ?_
          rw [List.append_assoc, List.append_assoc]
          exact List.Perm.append_left _ List.perm_append_comm
        · rw [dstep_both, ed]
          rcases List.mem_append.mp hw with hw | hw
          · exact hN w hw
          · rw [List.mem_singleton.mp hw]
            exact hv1
        · rw [p2]
          omega
theorem dpass_half (xs : List Int) : 2 * dbl (dpass xs) ≤ dbl xs := half_core (xs := xs) xs.length [] xs [] [] (Nat.le_refl _) .nil (fun v h => by cases h) (by show 2 * 0 + xs.countP _ ≤ xs.countP _; omega) fun w => Nat.le_refl _
theorem dbl_zero {xs : List Int} : dbl xs = 0 ↔ xs.Nodup := by
  unfold dbl
  rw [List.countP_eq_zero, List.nodup_iff_count]
  constructor
  · intro h a
    by_cases ha : a ∈ xs
    · have := h a ha
      rw [decide_eq_true_iff] at this
      omega
    · rw [List.count_eq_zero.mpr ha]
      omega
  · intro h a _ z
    have := h a
    have := of_decide_eq_true z
    omega
theorem dbl_two {xs : List Int} (h : 0 < dbl xs) : 2 ≤ dbl xs := by
  unfold dbl at h ⊢
  obtain ⟨w, hw, hp⟩ := List.countP_pos_iff.mp h
  have hp := of_decide_eq_true hp
  have : xs.countP (· == w) ≤ xs.countP fun w => decide (1 < xs.count w) := List.countP_mono_left fun x _ hx => by
    rw [beq_iff_eq.mp hx]
    exact decide_eq_true hp
  have e : xs.count w = xs.countP (· == w) := rfl
  omega
theorem dbl_le (xs : List Int) : dbl xs ≤ xs.length := List.countP_le_length
/-- how many passes -/
def need : Nat → List Int → Nat
  | 0, _ => 0
  | f + 1, xs => if 0 < dbl xs then need f (dpass xs) + 1 else 0
def dfin : Nat → List Int → List Int
  | 0, xs => xs
  | f + 1, xs => if 0 < dbl xs then dfin f (dpass xs) else xs
theorem need_le : ∀ (f t : Nat) (xs : List Int), dbl xs < 2 ^ (t + 1) → need f xs ≤ t
  | 0, _, _, _ => Nat.zero_le _
  | f + 1, t, xs, h => by
    unfold need
    split
    · rename_i hp
      have h2 := dbl_two hp
      cases t with
      | zero => omega
      | succ t =>
        have hh := dpass_half xs
        have := need_le f t (dpass xs) (by rw [Nat.pow_succ] at h; omega)
        omega
    · exact Nat.zero_le _
theorem dfin_dbl : ∀ (f : Nat) (xs : List Int), dbl xs ≤ f → dbl (dfin f xs) = 0
  | 0, xs, h => by
    show dbl xs = 0
    omega
  | f + 1, xs, h => by
    unfold dfin
    split
    · rename_i hp
      have hh := dpass_half xs
      exact dfin_dbl f (dpass xs) (by omega)
    · omega
theorem dfin_mem : ∀ (f : Nat) (xs : List Int) (w : Int), w ∈ dfin f xs ↔ w ∈ xs
  | 0, xs, w => Iff.rfl
  | f + 1, xs, w => by
    unfold dfin
    split
    · exact (dfin_mem f (dpass xs) w).trans dpass_mem
    · exact Iff.rfl
theorem dv_len {n0 : Nat} : ∀ (f : Nat) (A B : List Int), (dv n0 f A B).1.length ≤ A.length + B.length
  | 0, A, B => by
    show (A ++ B).length ≤ _
    rw [List.length_append]
    exact Nat.le_refl _
  | f + 1, A, [] => Nat.le_add_right _ _
  | f + 1, A, v :: B => by
    have ih := dv_len (n0 := n0) f ((dstep A v B).take (A.length + 1)) ((dstep A v B).drop (A.length + 1))
    rw [← List.length_append, dstep_both] at ih
    refine Nat.le_trans ih ?_
    rw [List.length_cons]
    by_cases h : 1 < (A ++ v :: B).count v
    · rw [(dstep_drop h).2.2]
      omega
    · unfold dstep
      rw [if_neg h, List.length_append, List.length_cons]
      omega
theorem dpass_len (xs : List Int) : (dpass xs).length ≤ xs.length := by
  have := dv_len (n0 := xs.length) xs.length [] xs
  rw [List.length_nil, Nat.zero_add] at this
  exact this
/-- equal values -/
theorem dv_equal {n0 : Nat} {v : Int} : ∀ (f a b : Nat), b ≤ f → 2 ≤ a + b ∨ b = 0 → (dv n0 f (List.replicate a v) (List.replicate b v)).1 = List.replicate (a + b / 2) v
  | 0, a, b, h, _ => by
    have : b = 0 := by omega
    subst this
    show List.replicate a v ++ [] = _
    rw [List.append_nil]
    rfl
  | f + 1, a, 0, _, _ => rfl
  | f + 1, a, b + 1, h, h2 => by
    have h2 : 2 ≤ a + (b + 1) := h2.elim id fun z => by omega
    have e : List.replicate a v ++ v :: List.replicate b v = List.replicate (a + (b + 1)) v := by
      rw [show v :: List.replicate b v = List.replicate (b + 1) v from rfl, List.replicate_append_replicate]
    have ed : dstep (List.replicate a v) v (List.replicate b v) = List.replicate (a + b) v := by
      unfold dstep
      rw [e, List.count_replicate_self, if_pos (by omega), show a + (b + 1) = (a + b) + 1 by omega, List.replicate_succ, List.erase_cons_head]
    show (dv n0 f ((dstep (List.replicate a v) v (List.replicate b v)).take ((List.replicate a v).length + 1)) ((dstep (List.replicate a v) v (List.replicate b v)).drop ((List.replicate a v).length + 1))).1 = _
    rw [ed, List.length_replicate, List.take_replicate, List.drop_replicate]
    rw [dv_equal f (min (a + 1) (a + b)) (a + b - (a + 1)) (by omega) (by omega)]
    congr 1
    omega
theorem dpass_equal {v : Int} {m : Nat} (h : 2 ≤ m) : dpass (List.replicate m v) = List.replicate (m / 2) v := by
  have := dv_equal (n0 := m) (v := v) m 0 m (Nat.le_refl _) (.inl (by omega))
  unfold dpass
  rw [List.length_replicate]
  rw [Nat.zero_add] at this
  exact this
theorem dbl_equal {v : Int} (m : Nat) : dbl (List.replicate m v) = if 2 ≤ m then m else 0 := by
  unfold dbl
  rw [List.countP_replicate, List.count_replicate_self]
  by_cases h : 1 < m
  · rw [if_pos (decide_eq_true h), if_pos (by omega)]
  · rw [if_neg (by rw [decide_eq_false h]; decide), if_neg (by omega)]
def nlog : Nat → Nat → Nat
  | 0, _ => 0
  | f + 1, m => if 2 ≤ m then nlog f (m / 2) + 1 else 0
theorem need_equal {v : Int} : ∀ (f m : Nat), need f (List.replicate m v) = nlog f m
  | 0, _ => rfl
  | f + 1, m => by
    unfold need nlog
    rw [dbl_equal]
    by_cases h : 2 ≤ m
    · rw [if_pos h, if_pos (by omega), if_pos h, dpass_equal h, need_equal f]
    · rw [if_neg h, if_neg (by omega), if_neg h]
end Mi

set_option Elab.async false
set_option linter.all false
set_option maxRecDepth 100000
set_option maxHeartbeats 4000000
/-! N33: comprehensions of two sources -/
namespace Mi
open PySem PySem.Spec PyProof.Rows L2
/-- the second source's turns for each thing of the first -/
def lcL2 (vs1 : List Nat) (g : Z.Tg) (ft : XT) (fi1 : XI) (g1 : Z.Tg) (ft1 : XT) (fe : XE) (q : Q) (fr : Frame) : List D → Store → R (List D)
  | [], S => .ok [] S
  | d :: ds, S => match asg S g d fr with
    | none => .no
    | some fr1 => match ft q fr1 S with
      | .ok true S1 => match fi1 q fr1 S1 with
        | .ok p S2 => if p.1.length ≤ 4000 then match unlR p.2 (lcL g1 ft1 fe q (wipeF fr1 vs1) p.1 (lckS S2 p.2)) with
            | .ok es S3 => (lcL2 vs1 g ft fi1 g1 ft1 fe q fr ds S3).bnd fun es2 S4 => .ok (es ++ es2) S4
            | _ => .no
          else .no
        | _ => .no
      | .ok false S1 => lcL2 vs1 g ft fi1 g1 ft1 fe q fr ds S1
      | _ => .no
def Z.lc2 (vs : List Nat) (g : Z.Tg) (fi : XI) (ft : XT) (vs1 : List Nat) (g1 : Z.Tg) (fi1 : XI) (ft1 : XT) (fe : XE) : XE := fun q fr S => (fi q fr S).bnd fun p S1 => if p.1.length ≤ 4000 then (unlR p.2 (lcL2 vs1 g ft fi1 g1 ft1 fe q (wipeF fr vs) p.1 (lckS S1 p.2))).bnd fun ds S2 => .ok (Z.mkL ds) S2 else .no
section
variable {X : Cx} {gi : GI} {k : Nat} {scope : Scope} {pos p1 p pp : Pos} {tg it tg1 it1 elt : Expr} {ifs ifs1 : List Expr} {fe : XE} {ft ft1 : XT} {fi fi1 : XI}
variable {er : ER} {W : WX} {fr : Frame} {σ : L2.St} {S : Store} {μ : Nat → Addr} {H F : Hp} {vs vs1 : List Nat}
def blkI (X : Cx) (scope : Scope) (tg it : Expr) : TI := fun σ H R => ∀ s H0 C cl fp, semI (bx X scope s H0 C cl fp) tg it σ H R
theorem pi_blk (s : Shared) (H : Hp) (C : Addr) (cl : List (Str × Addr)) (fp : List Addr) : PI (bx X scope s H C cl fp) tg it (blkI X scope tg it) := ⟨fun pins s' σ H' R I h => pi_sem.run pins s' σ H' R I (h s H C cl fp)⟩
/-- a name of the block's own that an inner block captures -/
theorem Cok.nlC {N : List Str} {sc : Scope} {s : Shared} {C : Addr} {cl : List (Str × Addr)} {fp : List Addr} (c : Cok (bx X scope s H C cl fp) gi k N sc) {i : Nat} {x : Str} (h : N[i]? = some x) (l : sc.names.lookup x = some .cell) (f : (scope.names.lookup x == some .cell) = true) : Nl (bx X scope s H C cl fp) i x :=
  ⟨by rw [c.n]; exact c.nd, by rw [c.n]; exact h, .inr (by rw [c.s]; exact l), .inl f⟩
/-- what is done with the inner turns -/
def inR (l l1 : Option Nat) (ds : List D) (rest : Store → R (List D)) (r : R (List D)) : R D :=
  (unlR l ((match unlR l1 r with
    | .ok es S3 => (rest S3).bnd fun es2 S4 => .ok (es ++ es2) S4
    | _ => .no : R (List D)).bnd fun es S3 => .ok (ds ++ es) S3)).bnd fun ds S2 => .ok (Z.mkL ds) S2
theorem inR_push {l l1 : Option Nat} {ds : List D} {rest : Store → R (List D)} {d : D} {r : R (List D)} : inR l l1 ds rest (r.bnd fun es S => .ok (d :: es) S) = inR l l1 (ds ++ [d]) rest r := by
  cases r with
  | ok es S3 =>
    rw [bnd_ok]
    unfold inR
    show (unlR l (((rest (unlS S3 l1)).bnd fun es2 S4 => .ok ((d :: es) ++ es2) S4).bnd fun es S3 => .ok (ds ++ es) S3)).bnd _ = (unlR l (((rest (unlS S3 l1)).bnd fun es2 S4 => .ok (es ++ es2) S4).bnd fun es S3 => .ok ((ds ++ [d]) ++ es) S3)).bnd _
    cases rest (unlS S3 l1) with
    | ok es2 S4 =>
      rw [bnd_ok, bnd_ok, bnd_ok, bnd_ok, List.append_assoc]
      rfl
    | _ => rfl
  | _ => rfl
theorem inR_end {l l1 : Option Nat} {ds : List D} {rest : Store → R (List D)} {S : Store} : inR l l1 ds rest (.ok [] S) = (unlR l ((rest (unlS S l1)).bnd fun es S3 => .ok (ds ++ es) S3)).bnd fun ds S2 => .ok (Z.mkL ds) S2 := by
  unfold inR
  show (unlR l (((rest (unlS S l1)).bnd fun es2 S4 => .ok ([] ++ es2) S4).bnd fun es S3 => .ok (ds ++ es) S3)).bnd _ = _
  rw [bnd_nil]
theorem StpW.mine {S0 : Store} {μ0 : Nat → Addr} {H0 F0 : Hp} (P : StpW S0 μ0 H0 F0 S μ H F) {p : Addr} {o : HO} (hp : ∀ n, n < S0.length → μ0 n ≠ p) : StpW S0 μ0 H0 F0 S μ (upd H p o) F where
  f := P.f
  le := P.le
  mu := P.mu
  lk := fun n o e => by
    obtain ⟨q1, q2⟩ := P.lk n o e
    exact ⟨q1, fun u z => by
      rw [upd_ne (hp n (List.getElem?_eq_some_iff.mp e).1)]
      exact q2 u z⟩
/-- a lock taken on the way is taken off again -/
theorem unl_ok2 {K : PySem.W.Frag} {L : Nat} {l : Option Nat} {S0 S4 : Store} {μ0 μ4 : Nat → Addr} {H0 F0 H4 F4 : Hp} (h : LkOk S4 l) (P0 : Stp L S0 μ0 H0 F0 S4 μ4 H4 F4) (Pw : StpW (lckS S4 l) μ4 H4 F4 S μ H F) (P : Stp L S0 μ0 H0 F0 S μ H F) (A : Ab K fr S μ σ H F) : Ab K fr (unlS S l) μ σ H F ∧ Stp L S0 μ0 H0 F0 (unlS S l) μ H F := by
  cases l with
  | none => exact ⟨A, P⟩
  | some n =>
    obtain ⟨o, e, z⟩ := h
    rw [lck_eq e z] at Pw
    have hn := (List.getElem?_eq_some_iff.mp e).1
    have e2 : S[n]? = some (.lck o) := (Pw.lk n o (List.getElem?_set_self hn)).1
    have eu : unlS S (some n) = S.set n o := by
      unfold unlS
      simp only
      rw [e2]
    rw [eu]
    refine ⟨A.re e2 (fun ho c => ?_) (fun P' q' z2 => by subst z2; rcases z with ⟨_, z⟩ | ⟨_, z⟩ <;> cases z), P.f, ?_, P.mu, P.keep, P.nF, fun m h1 h2 => P.nC m h1 (by rw [List.length_set] at h2; exact h2), P.dom, fun m hm u u' e1 e3 B hB => ?_, fun m u e1 => ?_⟩
    · rcases z with ⟨xs, rfl⟩ | ⟨xs, rfl⟩
      · cases ho <;> first | exact c.elim | exact c
      · cases ho <;> first | exact c.elim | exact c
    · rw [List.length_set]
      exact P.le
    · by_cases hnm : n = m
      · subst hnm
        rw [List.getElem?_set_self (List.getElem?_eq_some_iff.mp e2).1] at e3
        cases e3
        have z2 := P.cl n hm u _ e1 e2 B hB
        rcases z with ⟨xs, rfl⟩ | ⟨xs, rfl⟩
        · trivial
        · exact z2
      · exact P.cl m hm u u' e1 (by rw [List.getElem?_set_ne hnm] at e3; exact e3) B hB
    · have hm : n ≠ m := fun q => by
        subst q
        have := (P0.lk n u e1).1
        rw [e] at this
        cases this
        rcases z with ⟨xs, z⟩ | ⟨xs, z⟩ <;> cases z
      obtain ⟨q1, q2⟩ := P.lk m u e1
      exact ⟨by rw [List.getElem?_set_ne hm]; exact q1, q2⟩
theorem lc2_core {own : List (Str × Nat)} {g g1 : Z.Tg} (hv : own.map (·.2) = vs) (hi : SemI X gi k tg it fi) (hg : ∀ s H C cl fp, SemG (bx X scope s H C cl fp) tg g) (hgi : ∀ i ∈ g.ix, i ∈ vs)
    (ht : ∀ s H C cl fp, SemTs (bx X scope s H C cl fp) gi k ifs ft) (hi1 : ∀ s H C cl fp, SemI (bx X scope s H C cl fp) gi k tg1 it1 fi1) (hg1 : ∀ s H C cl fp, SemG (bx X scope s H C cl fp) tg1 g1) (hgi1 : ∀ i ∈ g1.ix, i ∈ vs1)
    (ht1 : ∀ s H C cl fp, SemTs (bx X scope s H C cl fp) gi k ifs1 ft1) (he : ∀ s H C cl fp, SemE (bx X scope s H C cl fp) gi k elt fe) {q : Q} (lk : Lnk X gi k er q) (tk : Takes X W) (A : Ab X.K fr S μ σ H F) {Q : VK} (w : WR X.K er W q.L fr σ S μ H F (Z.lc2 vs g fi ft vs1 g1 fi1 ft1 fe q fr S) (KE X.K H Q)) :
    tLc2 (semI X tg it) (blkG X scope tg) (blkT X scope ifs) (blkI X scope tg1 it1) (blkG X scope tg1) (blkT X scope ifs1) (blkE X scope elt) (own.map (·.2)) vs1 σ H Q := by
  subst hv
  refine hi er q lk W tk fr S μ σ H F A _ (w.bnd .refl fun p S1 μ1 H1 F1 A1 P1 w1 lo J iok Dl hD => ?_)
  split at w1
  case isFalse => exact w1.elim
  rename_i hlen
  generalize own.map (·.2) = vs at hgi w1 ⊢
  have A2 := A1.lck lo
  have P0 : Stp q.L (lckS S1 p.2) μ1 H1 F1 (lckS S1 p.2) μ1 (upd H1 Dl (.lst [])) F1 := stp_laid hD
  refine ⟨fun i m H' => m = p.1.length - i ∧ i ≤ p.1.length ∧ ∃ S' μ' F' ds bs, Ab X.K fr S' μ' σ H' F' ∧ Stp q.L (lckS S1 p.2) μ1 H1 F1 S' μ' H' F' ∧ Acc X.K Dl ds H1 S' μ' H' F' bs ∧ ds.length ≤ i * 4000 ∧
      WR X.K er W q.L fr σ S μ H F ((unlR p.2 ((lcL2 vs1 g ft fi1 g1 ft1 fe q (wipeF fr vs) (p.1.drop i) S').bnd fun es S3 => .ok (ds ++ es) S3)).bnd fun ds S2 => .ok (Z.mkL ds) S2) (KE X.K H Q),
    ⟨_, rfl, Nat.zero_le _, lckS S1 p.2, μ1, F1, [], [], A2.hsof P0 (A2.hs.laid hD), P0, .start A2.hs hD, Nat.le_refl _, ?_⟩, ?_⟩
  · rw [List.drop_zero, bnd_nil]
    exact w1
  rintro i m H' ⟨rfl, hle, S', μ', F', ds, bs, A', P', ac, hdl, w'⟩
  obtain ⟨j1, j2⟩ := iok fr S' μ' σ H' F' A' P'.w i
  by_cases hlt : i < p.1.length
  · refine .inr ?_
    have e : p.1[i]? = some (p.1[i]) := List.getElem?_eq_getElem hlt
    obtain ⟨gg1, gg2⟩ := j2 _ e
    have step : ∀ S2 μ2 H2 F2 ds bs, Ab X.K fr S2 μ2 σ H2 F2 → Stp q.L (lckS S1 p.2) μ1 H1 F1 S2 μ2 H2 F2 → Acc X.K Dl ds H1 S2 μ2 H2 F2 bs → ds.length ≤ (i + 1) * 4000 →
        WR X.K er W q.L fr σ S μ H F ((unlR p.2 ((lcL2 vs1 g ft fi1 g1 ft1 fe q (wipeF fr vs) (p.1.drop (i + 1)) S2).bnd fun es S3 => .ok (ds ++ es) S3)).bnd fun ds S2 => .ok (Z.mkL ds) S2) (KE X.K H Q) →
        ∃ S2 μ2 F2 ds bs, Ab X.K fr S2 μ2 σ H2 F2 ∧ Stp q.L (lckS S1 p.2) μ1 H1 F1 S2 μ2 H2 F2 ∧ Acc X.K Dl ds H1 S2 μ2 H2 F2 bs ∧ ds.length ≤ (i + 1) * 4000 ∧
      WR X.K er W q.L fr σ S μ H F ((unlR p.2 ((lcL2 vs1 g ft fi1 g1 ft1 fe q (wipeF fr vs) (p.1.drop (i + 1)) S2).bnd fun es S3 => .ok (ds ++ es) S3)).bnd fun ds S2 => .ok (Z.mkL ds) S2) (KE X.K H Q) := fun S2 μ2 H2 F2 ds bs a b c d e => ⟨S2, μ2, F2, ds, bs, a, b, c, d, e⟩
    refine ⟨gg1, fun H2 => ∃ S2 μ2 F2 ds bs, Ab X.K fr S2 μ2 σ H2 F2 ∧ Stp q.L (lckS S1 p.2) μ1 H1 F1 S2 μ2 H2 F2 ∧ Acc X.K Dl ds H1 S2 μ2 H2 F2 bs ∧ ds.length ≤ (i + 1) * 4000 ∧
      WR X.K er W q.L fr σ S μ H F ((unlR p.2 ((lcL2 vs1 g ft fi1 g1 ft1 fe q (wipeF fr vs) (p.1.drop (i + 1)) S2).bnd fun es S3 => .ok (ds ++ es) S3)).bnd fun ds S2 => .ok (Z.mkL ds) S2) (KE X.K H Q),
      fun H2 ⟨S2, μ2, F2, ds, bs, z⟩ => ⟨p.1.length - (i + 1), by omega, rfl, hlt, S2, μ2, F2, ds, bs, z⟩, fun x H2 hy => ?_⟩
    obtain ⟨F2, A3, P2, rc⟩ := gg2 x H2 hy
    rw [List.drop_eq_getElem_cons hlt] at w'
    unfold lcL2 at w'
    cases ea : asg S' g p.1[i] (wipeF fr vs) with
    | none =>
      rw [ea] at w'
      exact w'.elim
    | some fr1 =>
      rw [ea] at w'
      dsimp only at w'
      intro s0 Hb C cl fp
      refine hg s0 Hb C cl fp (A3.wipe vs) rc ea _ fun σ3 A4 kp => ⟨wipe_kp hgi kp, fun s0 Hb C cl fp => ?_⟩
      refine ht s0 Hb C cl fp er q (lk.blk s0 Hb C cl fp) noW takes_no fr1 S' μ' σ3 H2 F2 A4 _ ?_
      cases et : ft q fr1 S' with
      | no =>
        rw [et] at w'
        exact w'.elim
      | ex c y S3 =>
        rw [et] at w'
        exact w'.elim
      | ok b S3 =>
        rw [et] at w'
        intro μ3 H3 F3 A5 P3
        unfold KT
        cases b with
        | false =>
          dsimp only at w' ⊢
          rw [if_neg Bool.false_ne_true]
          have P23 := (P2 q.L).trans P3
          exact step S3 μ3 H3 F3 ds bs (A'.hsof P23 A5.hs) (P'.trans P23) (ac.keep P23) (by omega) w'
        | true =>
          dsimp only at w' ⊢
          rw [if_pos rfl]
          intro s0 Hb C cl fp
          refine hi1 s0 Hb C cl fp er q (lk.blk s0 Hb C cl fp) noW takes_no fr1 S3 μ3 σ3 H3 F3 A5 _ ?_
          cases ei : fi1 q fr1 S3 with
          | no =>
            rw [ei] at w'
            exact w'.elim
          | ex c y S4 =>
            rw [ei] at w'
            exact w'.elim
          | ok r S4 =>
            rw [ei] at w'
            dsimp only at w'
            intro μ4 H4 F4 A6 P4 lo1 J1 iok1
            split at w'
            case isFalse => exact w'.elim
            rename_i hlen1
            have P24 := ((P2 q.L).trans P3).trans P4
            have A7 := A6.lck lo1
            have ac4 := ac.keep P24
            have hM : ∀ n, n < (lckS S4 r.2).length → μ4 n ≠ Dl := fun n hn => (ac4.o.fr Dl List.mem_cons_self).2.2 n (by rw [lck_len] at hn; exact hn)
            have w0 : WR X.K er W q.L fr σ S μ H F (inR p.2 r.2 ds (lcL2 vs1 g ft fi1 g1 ft1 fe q (wipeF fr vs) (p.1.drop (i + 1))) (lcL g1 ft1 fe q (wipeF fr1 vs1) r.1 (lckS S4 r.2))) (KE X.K H Q) := w'
            refine ⟨fun j m H' => m = r.1.length - j ∧ j ≤ r.1.length ∧ ∃ S' μ' F' ds bs, Ab X.K fr1 S' μ' σ3 H' F' ∧ Stp q.L (lckS S1 p.2) μ1 H1 F1 S' μ' H' F' ∧ StpW (lckS S4 r.2) μ4 H4 F4 S' μ' H' F' ∧ Acc X.K Dl ds H1 S' μ' H' F' bs ∧ ds.length ≤ i * 4000 + j ∧
                WR X.K er W q.L fr σ S μ H F (inR p.2 r.2 ds (lcL2 vs1 g ft fi1 g1 ft1 fe q (wipeF fr vs) (p.1.drop (i + 1))) (lcL g1 ft1 fe q (wipeF fr1 vs1) (r.1.drop j) S')) (KE X.K H Q),
              ⟨_, rfl, Nat.zero_le _, lckS S4 r.2, μ4, F4, ds, bs, A7, (P'.trans P24).trans (stp_lck lo1), .refl, ?_, by omega, by rw [List.drop_zero]; exact w0⟩, ?_⟩
            · obtain ⟨acc, h1, h2⟩ := ac4.r
              exact ⟨⟨acc, h1, by rw [lck_len]; exact h2⟩, ac4.o.nd, fun a ha => ⟨(ac4.o.fr a ha).1, (ac4.o.fr a ha).2.1, fun n hn => (ac4.o.fr a ha).2.2 n (by rw [lck_len] at hn; exact hn)⟩⟩
            rintro j m H5 ⟨rfl, hle1, S5, μ5, F5, ds, bs, A8, P8, P8w, ac, hdl, w'⟩
            obtain ⟨j3, j4⟩ := iok1 fr1 S5 μ5 σ3 H5 F5 A8 P8w j
            by_cases hlt1 : j < r.1.length
            · refine .inr ?_
              have e : r.1[j]? = some (r.1[j]) := List.getElem?_eq_getElem hlt1
              obtain ⟨g3, g4⟩ := j4 _ e
              refine ⟨g3, fun H6 => ∃ S' μ' F' ds bs, Ab X.K fr1 S' μ' σ3 H6 F' ∧ Stp q.L (lckS S1 p.2) μ1 H1 F1 S' μ' H6 F' ∧ StpW (lckS S4 r.2) μ4 H4 F4 S' μ' H6 F' ∧ Acc X.K Dl ds H1 S' μ' H6 F' bs ∧ ds.length ≤ i * 4000 + (j + 1) ∧
                  WR X.K er W q.L fr σ S μ H F (inR p.2 r.2 ds (lcL2 vs1 g ft fi1 g1 ft1 fe q (wipeF fr vs) (p.1.drop (i + 1))) (lcL g1 ft1 fe q (wipeF fr1 vs1) (r.1.drop (j + 1)) S')) (KE X.K H Q),
                fun H6 ⟨S', μ', F', ds, bs, z⟩ => ⟨r.1.length - (j + 1), by omega, rfl, hlt1, S', μ', F', ds, bs, z⟩, fun x H6 hy => ?_⟩
              obtain ⟨F6, A9, P9, rc⟩ := g4 x H6 hy
              rw [List.drop_eq_getElem_cons hlt1] at w'
              unfold lcL at w'
              cases ea : asg S5 g1 r.1[j] (wipeF fr1 vs1) with
              | none =>
                rw [ea] at w'
                exact w'.elim
              | some fr2 =>
                rw [ea] at w'
                dsimp only at w'
                intro s0 Hb C cl fp
                refine hg1 s0 Hb C cl fp (A9.wipe vs1) rc ea _ fun σ4 A10 kp1 => ⟨wipe_kp hgi1 kp1, fun s0 Hb C cl fp => ?_⟩
                refine ht1 s0 Hb C cl fp er q (lk.blk s0 Hb C cl fp) noW takes_no fr2 S5 μ5 σ4 H6 F6 A10 _ ?_
                cases et : ft1 q fr2 S5 with
                | no =>
                  rw [et] at w'
                  exact w'.elim
                | ex c y S3 =>
                  rw [et] at w'
                  exact w'.elim
                | ok b S7 =>
                  rw [et] at w'
                  intro μ7 H7 F7 A11 P11
                  unfold KT
                  cases b with
                  | false =>
                    dsimp only at w' ⊢
                    rw [if_neg Bool.false_ne_true]
                    have P23 := (P9 q.L).trans P11
                    exact ⟨S7, μ7, F7, ds, bs, A8.hsof P23 A11.hs, P8.trans P23, P8w.step P23, ac.keep P23, by omega, w'⟩
                  | true =>
                    dsimp only at w' ⊢
                    rw [if_pos rfl]
                    intro s0 Hb C cl fp
                    refine he s0 Hb C cl fp er q (lk.blk s0 Hb C cl fp) noW takes_no fr2 S7 μ7 σ4 H7 F7 A11 _ ?_
                    cases ee : fe q fr2 S7 with
                    | no =>
                      rw [ee] at w'
                      exact w'.elim
                    | ex c y S3 =>
                      rw [ee] at w'
                      exact w'.elim
                    | ok d S9 =>
                      rw [ee] at w'
                      dsimp only at w'
                      intro μ9 H9 F9 A12 P12 v as rr o
                      have P23 := (P9 q.L).trans P11
                      have P24' := P23.trans P12
                      have ac3 := ac.keep P23
                      obtain ⟨acc3, h3, r3⟩ := ac3.r
                      have ac5 := ac3.keep P12
                      have domA : ∀ a, H7 a = none → H1 a = none := fun a z => P8.dom a (P23.dom a z)
                      obtain ⟨acc, h4, hal, ac6⟩ := ac5.push rr o domA (fun y hy => by
                        rcases List.mem_cons.mp hy with rfl | hy
                        · exact ⟨_, h3⟩
                        · exact r3.there y hy)
                      have hF := (ac5.o.fr Dl List.mem_cons_self).2.1
                      have hC := (ac5.o.fr Dl List.mem_cons_self).2.2
                      refine ⟨acc, h4, ?_, S9, μ9, F9, ds ++ [d], bs ++ as, ⟨A12.hs.mine hF hC, A8.len, fun jj dd q => let ⟨u, e1, r1⟩ := A8.sl jj dd q; ⟨u, e1, r1.mono P24'.le P24'.mu P24'.f⟩⟩, (P8.trans P24').mine hD, (P8w.step P24').mine hM, ac6, by rw [List.length_append, List.length_cons, List.length_nil]; omega, ?_⟩
                      · rw [hal]
                        refine Nat.lt_of_lt_of_le (m := 4000 * 4000) ?_ (by decide)
                        have : i < 4000 := Nat.lt_of_lt_of_le hlt hlen
                        have : j < 4000 := Nat.lt_of_lt_of_le hlt1 hlen1
                        omega
                      · rw [inR_push] at w'
                        exact w'
            · refine .inl ⟨j3 (by omega), ?_⟩
              rw [List.drop_eq_nil_of_le (show r.1.length ≤ j by omega)] at w'
              have w2 : WR X.K er W q.L fr σ S μ H F (inR p.2 r.2 ds (lcL2 vs1 g ft fi1 g1 ft1 fe q (wipeF fr vs) (p.1.drop (i + 1))) (.ok [] S5)) (KE X.K H Q) := w'
              rw [inR_end] at w2
              obtain ⟨A13, P14⟩ := unl_ok2 lo1 (P'.trans P24) P8w P8 A8
              obtain ⟨acc, h1, h2⟩ := ac.r
              have ac2 : Acc X.K Dl ds H1 (unlS S5 r.2) μ5 H5 F5 bs := ⟨⟨acc, h1, by rw [unl_len]; exact h2⟩, ac.o.nd, fun a ha => ⟨(ac.o.fr a ha).1, (ac.o.fr a ha).2.1, fun n hn => (ac.o.fr a ha).2.2 n (by rw [unl_len] at hn; exact hn)⟩⟩
              exact step (unlS S5 r.2) μ5 H5 F5 ds bs (A2.hsof P14 A13.hs) P14 ac2 (by have : j ≤ 4000 := Nat.le_trans hle1 hlen1; omega) w2
  · refine .inl ⟨j1 (by omega), ?_⟩
    rw [List.drop_eq_nil_of_le (by omega)] at w'
    obtain ⟨A7, P7⟩ := unl_ok lo P' A'
    have w2 : WR X.K er W q.L fr σ S μ H F (.ok (Z.mkL (ds ++ [])) (unlS S' p.2)) (KE X.K H Q) := w'
    rw [List.append_nil] at w2
    obtain ⟨acc, h1, h2⟩ := ac.r
    have ac2 : Acc X.K Dl ds H (unlS S' p.2) μ' H' F' bs := ⟨⟨acc, h1, by rw [unl_len]; exact h2⟩, ac.o.nd, fun a ha => ⟨P1.dom _ (ac.o.fr a ha).1, (ac.o.fr a ha).2.1, fun n hn => (ac.o.fr a ha).2.2 n (by rw [unl_len] at hn; exact hn)⟩⟩
    exact ac2.done A7 (P1.trans P7) w2
theorem sem_lc2 {own : List (Str × Nat)} {g g1 : Z.Tg} (hc : X.calm = true) (hN : X.N.Nodup) (ok : BlkOk X.N X.env.scope scope own) (hv : own.map (·.2) = vs) (hv1 : ∀ i ∈ vs1, i ∈ vs) (hi : SemI X gi k tg it fi) (hg : ∀ s H C cl fp, SemG (bx X scope s H C cl fp) tg g) (hgi : ∀ i ∈ g.ix, i ∈ vs)
    (ht : ∀ s H C cl fp, SemTs (bx X scope s H C cl fp) gi k ifs ft) (hi1 : ∀ s H C cl fp, SemI (bx X scope s H C cl fp) gi k tg1 it1 fi1) (hg1 : ∀ s H C cl fp, SemG (bx X scope s H C cl fp) tg1 g1) (hgi1 : ∀ i ∈ g1.ix, i ∈ vs1)
    (ht1 : ∀ s H C cl fp, SemTs (bx X scope s H C cl fp) gi k ifs1 ft1) (he : ∀ s H C cl fp, SemE (bx X scope s H C cl fp) gi k elt fe) (hfs : ∀ x, foldedSetIterable it X.env x = pure x) (hfs1 : ∀ env x, foldedSetIterable it1 env x = pure x) :
    SemE X gi k (.ListComp elt [⟨tg, it, ifs, 0⟩, ⟨tg1, it1, ifs1, 0⟩] scope pos) (Z.lc2 vs g fi ft vs1 g1 fi1 ft1 fe) := by
  intro er q lk W tk fr S μ σ H F A Q w
  exact ⟨_, pe_lc2 hc hN pi_sem ok (by rw [hv]; exact hv1) pg_blk pt_blk pi_blk pg_blk pt_blk pe_blk hfs hfs1, lc2_core hv hi hg hgi ht hi1 hg1 hgi1 ht1 he lk tk A w⟩
theorem sems_setLc2 {own : List (Str × Nat)} {g g1 : Z.Tg} {i : Nat} {x : Str} {m : Bool} {spos : Pos} (hc : X.calm = true) (hN : X.N.Nodup) (hy : X.N[i]? = some x) (hyl : X.env.scope.names.lookup x = some .local)
    (hsw : swapsWith (.ListComp elt [⟨tg, it, ifs, 0⟩, ⟨tg1, it1, ifs1, 0⟩] scope pos) (some (.Name x pp)) spos.line X.env = pure true) (ok : BlkOk X.N X.env.scope scope own) (hv : own.map (·.2) = vs) (hv1 : ∀ i ∈ vs1, i ∈ vs) (hi : SemI X gi k tg it fi) (hg : ∀ s H C cl fp, SemG (bx X scope s H C cl fp) tg g) (hgi : ∀ i ∈ g.ix, i ∈ vs)
    (ht : ∀ s H C cl fp, SemTs (bx X scope s H C cl fp) gi k ifs ft) (hi1 : ∀ s H C cl fp, SemI (bx X scope s H C cl fp) gi k tg1 it1 fi1) (hg1 : ∀ s H C cl fp, SemG (bx X scope s H C cl fp) tg1 g1) (hgi1 : ∀ i ∈ g1.ix, i ∈ vs1)
    (ht1 : ∀ s H C cl fp, SemTs (bx X scope s H C cl fp) gi k ifs1 ft1) (he : ∀ s H C cl fp, SemE (bx X scope s H C cl fp) gi k elt fe) (hfs : ∀ x, foldedSetIterable it X.env x = pure x) (hfs1 : ∀ env x, foldedSetIterable it1 env x = pure x) :
    SemS X gi k (.Assign [.Name x pp] (.ListComp elt [⟨tg, it, ifs, 0⟩, ⟨tg1, it1, ifs1, 0⟩] scope pos) spos) (Z.set i m (Z.lc2 vs g fi ft vs1 g1 fi1 ft1 fe)) := by
  intro er q lk W tk fr S μ σ H F A D w
  refine ⟨_, ps_setLc2 hc hN hy hyl hsw pi_sem ok (by rw [hv]; exact hv1) pg_blk pt_blk pi_blk pg_blk pt_blk pe_blk hfs hfs1, ?_⟩
  have w0 : WS X.K er W q.L S μ H F ((Z.lc2 vs g fi ft vs1 g1 fi1 ft1 fe q fr S).bnd fun d S1 => match Z.stD m d S1 with
    | some (e, S2) => .ok (.nx, fr.set i (some e)) S2
    | none => .no) D := w
  refine lc2_core (Q := fun v H1 => gName i v σ H1 D.nx) hv hi hg hgi ht hi1 hg1 hgi1 ht1 he lk tk A (w0.bnd .refl fr σ fun d S1 μ1 H1 F1 A1 P1 w1 v as r1 o1 => ?_)
  split at w1
  · rename_i d' S2 e1
    obtain ⟨μ2, F2, A2, P2, r2⟩ := std_ok A1 P1 r1 o1 e1
    exact w1 _ μ2 H1 F2 (A2.set r2) P2
  · exact w1.elim
end
end Mi

set_option Elab.async false
set_option linter.all false
set_option maxRecDepth 100000
set_option maxHeartbeats 4000000
/-! Dt: a doublet pass, told by what it visits -/
namespace Mi
/-- of each value the first d are left out -/
def dec1 (d : Int → Nat) (v : Int) : Int → Nat := fun w => if v = w then d w - 1 else d w
def inc1 (d : Int → Nat) (v : Int) : Int → Nat := fun w => if v = w then d w + 1 else d w
def rmv : (Int → Nat) → List Int → List Int
  | _, [] => []
  | d, x :: r => if 0 < d x then rmv (dec1 d x) r else x :: rmv d r
theorem dec_inc {d : Int → Nat} {x v : Int} (h : 0 < d x) : dec1 (inc1 d v) x = inc1 (dec1 d x) v := by
  funext w
  unfold dec1 inc1
  dsimp only
  by_cases h1 : x = w
  · subst h1
    by_cases h2 : v = x
    · rw [if_pos rfl, if_pos h2, if_pos h2, if_pos rfl]
      omega
    · rw [if_pos rfl, if_neg h2, if_neg h2, if_pos rfl]
  · rw [if_neg h1, if_neg h1]
theorem dec_inc0 {d : Int → Nat} {v : Int} : dec1 (inc1 d v) v = d := by
  funext w
  unfold dec1 inc1
  by_cases h2 : v = w
  · rw [if_pos h2, if_pos h2]
    omega
  · rw [if_neg h2, if_neg h2]
theorem rmv_inc {v : Int} : ∀ (L : List Int) (d : Int → Nat), v ∈ rmv d L → rmv (inc1 d v) L = (rmv d L).erase v
  | [], _, h => by cases h
  | x :: r, d, h => by
    have ei : inc1 d v x = if v = x then d x + 1 else d x := rfl
    by_cases h0 : 0 < d x
    · have e1 : rmv d (x :: r) = rmv (dec1 d x) r := if_pos h0
      have e2 : rmv (inc1 d v) (x :: r) = rmv (dec1 (inc1 d v) x) r := if_pos (by rw [ei]; split <;> omega)
      rw [e1] at h
      rw [e1, e2, dec_inc h0]
      exact rmv_inc r _ h
    · have e1 : rmv d (x :: r) = x :: rmv d r := if_neg h0
      rw [e1] at h
      by_cases hv : v = x
      · subst hv
        have e2 : rmv (inc1 d v) (v :: r) = rmv (dec1 (inc1 d v) v) r := if_pos (by rw [ei, if_pos rfl]; omega)
        rw [e1, e2, dec_inc0, List.erase_cons_head]
      · have e2 : rmv (inc1 d v) (x :: r) = x :: rmv (inc1 d v) r := if_neg (by rw [ei, if_neg hv]; exact h0)
        rw [e1, e2, List.erase_cons_tail (by simpa using fun z : x = v => hv z.symm), rmv_inc r d ((List.mem_cons.mp h).resolve_left hv)]
theorem rmv_snoc : ∀ (L : List Int) (d : Int → Nat) (x : Int), d x ≤ L.count x → rmv d (L ++ [x]) = rmv d L ++ [x]
  | [], d, x, h => by
    have h : d x ≤ 0 := h
    show (if 0 < d x then _ else _) = _
    rw [if_neg (by omega)]
    rfl
  | y :: r, d, x, h => by
    rw [List.count_cons] at h
    show (if 0 < d y then rmv (dec1 d y) (r ++ [x]) else y :: rmv d (r ++ [x])) = (if 0 < d y then rmv (dec1 d y) r else y :: rmv d r) ++ [x]
    by_cases h0 : 0 < d y
    · rw [if_pos h0, if_pos h0]
      refine rmv_snoc r _ x ?_
      unfold dec1
      by_cases hy : y = x
      · rw [if_pos (by simpa using hy)] at h
        rw [if_pos hy]
        omega
      · rw [if_neg (by simpa using hy)] at h
        rw [if_neg hy]
        exact h
    · rw [if_neg h0, if_neg h0, rmv_snoc r d x ?_]
      · rfl
      · by_cases hy : y = x
        · subst hy
          omega
        · rw [if_neg (by simpa using hy)] at h
          exact h
theorem rmv_count (w : Int) : ∀ (L : List Int) (d : Int → Nat), (rmv d L).count w = L.count w - d w
  | [], d => by
    show 0 = 0 - d w
    omega
  | y :: r, d => by
    show (if 0 < d y then rmv (dec1 d y) r else y :: rmv d r).count w = _
    rw [List.count_cons]
    by_cases h0 : 0 < d y
    · rw [if_pos h0, rmv_count w r (dec1 d y)]
      unfold dec1
      by_cases hy : y = w
      · subst hy
        rw [if_pos rfl, if_pos (by simp)]
        omega
      · rw [if_neg hy, if_neg (by simpa using hy)]
        omega
    · rw [if_neg h0, List.count_cons, rmv_count w r d]
      by_cases hy : y = w
      · subst hy
        rw [if_pos (by simp)]
        omega
      · rw [if_neg (by simpa using hy)]
        omega
theorem rmv_zero : ∀ L : List Int, rmv (fun _ => 0) L = L
  | [] => rfl
  | x :: r => by
    show (if 0 < 0 then _ else x :: rmv (fun _ => 0) r) = _
    rw [if_neg (by decide), rmv_zero r]
/-- the places visited -/
def stp (c : Int → Nat) : Nat → (Int → Nat) → Nat → List Int → List Nat
  | 0, _, _, _ => []
  | _ + 1, _, _, [] => []
  | f + 1, d, p, v :: B => p :: (if d v + 1 < c v then stp c f (inc1 d v) (p + 2) (B.drop 1) else stp c f d (p + 1) B)
/-- the places not visited -/
def skp (c : Int → Nat) : Nat → (Int → Nat) → Nat → List Int → List Nat
  | 0, _, _, _ => []
  | _ + 1, _, _, [] => []
  | f + 1, d, p, v :: B => if d v + 1 < c v then (B.take 1).map (fun _ => p + 1) ++ skp c f (inc1 d v) (p + 2) (B.drop 1) else skp c f d (p + 1) B
/-- .. their values -/
def lost (c : Int → Nat) : Nat → (Int → Nat) → List Int → List Int
  | 0, _, _ => []
  | _ + 1, _, [] => []
  | f + 1, d, v :: B => if d v + 1 < c v then B.take 1 ++ lost c f (inc1 d v) (B.drop 1) else lost c f d B
/-- how many of each value are dropped -/
def dfn (c : Int → Nat) : Nat → (Int → Nat) → List Int → Int → Nat
  | 0, d, _ => d
  | _ + 1, d, [] => d
  | f + 1, d, v :: B => if d v + 1 < c v then dfn c f (inc1 d v) (B.drop 1) else dfn c f d B
/-- .. at all -/
def gn (c : Int → Nat) : Nat → (Int → Nat) → List Int → Nat
  | 0, _, _ => 0
  | _ + 1, _, [] => 0
  | f + 1, d, v :: B => if d v + 1 < c v then gn c f (inc1 d v) (B.drop 1) + 1 else gn c f d B
theorem take_one {p : Nat} {B : List Int} : ∀ w, (B.take 1).count w + (B.drop 1).count w = B.count w := fun w => by
  rw [← List.count_append, List.take_append_drop]
theorem dv_rmv {xs : List Int} : ∀ (f : Nat) (L B : List Int) (d : Int → Nat), L ++ B = xs → B.length ≤ f → (∀ w, d w ≤ L.count w) →
    (dv xs.length f (rmv d L) B).1 = rmv (dfn xs.count f d B) xs ∧ (dv xs.length f (rmv d L) B).2 = (stp xs.count f d L.length B).map (fun n : Nat => (n : Int)) ∧ (dv xs.length f (rmv d L) B).1.length + gn xs.count f d B = (rmv d L).length + B.length
  | 0, L, B, d, e, hl, hd => by
    have hB : B = [] := List.length_eq_zero_iff.mp (by omega)
    subst hB
    rw [List.append_nil] at e
    subst e
    show rmv d L ++ [] = _ ∧ _ ∧ (rmv d L ++ []).length + 0 = _
    rw [List.append_nil]
    exact ⟨rfl, rfl, rfl⟩
  | f + 1, L, [], d, e, hl, hd => by
    rw [List.append_nil] at e
    subst e
    exact ⟨rfl, rfl, rfl⟩
  | f + 1, L, v :: B, d, e, hl, hd => by
    have hl : B.length ≤ f := Nat.le_of_succ_le_succ hl
    have hlen : xs.length = L.length + (B.length + 1) := by rw [← e, List.length_append, List.length_cons]
    have hc : (rmv d L ++ v :: B).count v = xs.count v - d v := by
      rw [List.count_append, rmv_count, ← e, List.count_append]
      have := hd v
      omega
    have e1 : L ++ [v] ++ B = xs := by rw [List.append_assoc]; exact e
    have es : rmv d (L ++ [v]) = rmv d L ++ [v] := rmv_snoc L d v (hd v)
    have hplace : ((((rmv d L).length : Nat) : Int) + ((xs.length : Nat) : Int) - (((rmv d L).length + B.length + 1 : Nat) : Int)) = ((L.length : Nat) : Int) := by omega
    by_cases h : d v + 1 < xs.count v
    · have hdrop : 1 < (rmv d L ++ v :: B).count v := by omega
      have hv : v ∈ rmv d (L ++ [v]) := by rw [es]; exact List.mem_append_right _ List.mem_cons_self
      have ei := rmv_inc (L ++ [v]) d hv
      obtain ⟨p1, p2, p3⟩ := dstep_drop hdrop
      have hA : (dstep (rmv d L) v B).take ((rmv d L).length + 1) = rmv (inc1 d v) (L ++ [v] ++ B.take 1) := by
        have et : rmv (inc1 d v) (L ++ [v] ++ B.take 1) = rmv (inc1 d v) (L ++ [v]) ++ B.take 1 := by
          cases B with
          | nil => rw [List.take_nil, List.append_nil, List.append_nil]
          | cons b B =>
            refine rmv_snoc _ _ b ?_
            unfold inc1
            rw [List.count_append]
            have := hd b
            by_cases hb : v = b
            · subst hb
              rw [if_pos rfl, List.count_singleton_self]
              omega
            · rw [if_neg hb]
              omega
        rw [et, ei, es]
        have ed : dstep (rmv d L) v B = (rmv d L ++ [v]).erase v ++ B := by
          unfold dstep
          rw [if_pos hdrop, show rmv d L ++ v :: B = (rmv d L ++ [v]) ++ B by rw [List.append_assoc]; rfl, List.erase_append_left _ (List.mem_append_right _ List.mem_cons_self)]
        have ll : ((rmv d L ++ [v]).erase v).length = (rmv d L).length := by
          rw [List.length_erase_of_mem (List.mem_append_right _ List.mem_cons_self), List.length_append]
          rfl
        rw [ed, List.take_append, ll, List.take_of_length_le (by omega), show (rmv d L).length + 1 - (rmv d L).length = 1 by omega]
      have hd2 : ∀ w, inc1 d v w ≤ (L ++ [v] ++ B.take 1).count w := fun w => by
        unfold inc1
        rw [List.count_append, List.count_append]
        have := hd w
        by_cases hw : v = w
        · subst hw
          rw [if_pos rfl, List.count_singleton_self]
          omega
        · rw [if_neg hw]
          omega
      have ex : L ++ [v] ++ B.take 1 ++ B.drop 1 = xs := by rw [List.append_assoc (L ++ [v]), List.take_append_drop]; exact e1
      obtain ⟨i1, i2, i3⟩ := dv_rmv (xs := xs) f (L ++ [v] ++ B.take 1) (B.drop 1) (inc1 d v) ex (by rw [List.length_drop]; omega) hd2
      have el : (rmv (inc1 d v) (L ++ [v] ++ B.take 1)).length = ((dstep (rmv d L) v B).take ((rmv d L).length + 1)).length := by rw [hA]
      have s1 : stp xs.count (f + 1) d L.length (v :: B) = L.length :: stp xs.count f (inc1 d v) (L.length + 2) (B.drop 1) := congrArg _ (if_pos h)
      have s2 : dfn xs.count (f + 1) d (v :: B) = dfn xs.count f (inc1 d v) (B.drop 1) := if_pos h
      have s3 : gn xs.count (f + 1) d (v :: B) = gn xs.count f (inc1 d v) (B.drop 1) + 1 := if_pos h
      have e5 : stp xs.count f (inc1 d v) (L ++ [v] ++ B.take 1).length (B.drop 1) = stp xs.count f (inc1 d v) (L.length + 2) (B.drop 1) := by
        cases B with
        | nil => cases f <;> rfl
        | cons b B =>
          congr 1
          rw [List.length_append, List.length_append]
          rfl
      rw [s1, s2, s3]
      show (dv xs.length f ((dstep (rmv d L) v B).take ((rmv d L).length + 1)) ((dstep (rmv d L) v B).drop ((rmv d L).length + 1))).1 = _ ∧ ((((rmv d L).length : Nat) : Int) + ((xs.length : Nat) : Int) - (((rmv d L).length + B.length + 1 : Nat) : Int)) :: (dv xs.length f ((dstep (rmv d L) v B).take ((rmv d L).length + 1)) ((dstep (rmv d L) v B).drop ((rmv d L).length + 1))).2 = _ ∧ (dv xs.length f ((dstep (rmv d L) v B).take ((rmv d L).length + 1)) ((dstep (rmv d L) v B).drop ((rmv d L).length + 1))).1.length + _ = _
      rw [hA, p2, i1, i2, hplace, e5]
      refine ⟨rfl, rfl, ?_⟩
      rw [i1] at i3
      have q : ((dstep (rmv d L) v B).take ((rmv d L).length + 1)).length + ((dstep (rmv d L) v B).drop ((rmv d L).length + 1)).length = (dstep (rmv d L) v B).length := by rw [← List.length_append, List.take_append_drop]
      rw [p2, p3] at q
      rw [el] at i3
      rw [List.length_cons]
      omega
    · have hstay : ¬ 1 < (rmv d L ++ v :: B).count v := by omega
      obtain ⟨p1, p2⟩ := dstep_stay hstay
      have hd2 : ∀ w, d w ≤ (L ++ [v]).count w := fun w => by
        rw [List.count_append]
        have := hd w
        omega
      obtain ⟨i1, i2, i3⟩ := dv_rmv (xs := xs) f (L ++ [v]) B d e1 hl hd2
      have s1 : stp xs.count (f + 1) d L.length (v :: B) = L.length :: stp xs.count f d (L.length + 1) B := congrArg _ (if_neg h)
      have s2 : dfn xs.count (f + 1) d (v :: B) = dfn xs.count f d B := if_neg h
      have s3 : gn xs.count (f + 1) d (v :: B) = gn xs.count f d B := if_neg h
      have e5 : (L ++ [v]).length = L.length + 1 := by rw [List.length_append]; rfl
      rw [s1, s2, s3]
      show (dv xs.length f ((dstep (rmv d L) v B).take ((rmv d L).length + 1)) ((dstep (rmv d L) v B).drop ((rmv d L).length + 1))).1 = _ ∧ ((((rmv d L).length : Nat) : Int) + ((xs.length : Nat) : Int) - (((rmv d L).length + B.length + 1 : Nat) : Int)) :: (dv xs.length f ((dstep (rmv d L) v B).take ((rmv d L).length + 1)) ((dstep (rmv d L) v B).drop ((rmv d L).length + 1))).2 = _ ∧ (dv xs.length f ((dstep (rmv d L) v B).take ((rmv d L).length + 1)) ((dstep (rmv d L) v B).drop ((rmv d L).length + 1))).1.length + _ = _
      rw [p1, p2, ← es, i1, i2, hplace, e5]
      refine ⟨rfl, rfl, ?_⟩
      rw [i1, es, List.length_append, List.length_singleton] at i3
      rw [List.length_cons]
      omega
theorem stp_ge {c : Int → Nat} : ∀ (f : Nat) (d : Int → Nat) (p : Nat) (B : List Int), ∀ q ∈ stp c f d p B, p ≤ q ∧ q < p + B.length
  | 0, _, _, _, _, h => by cases h
  | _ + 1, _, _, [], _, h => by cases h
  | f + 1, d, p, v :: B, q, h => by
    rw [List.length_cons]
    rcases List.mem_cons.mp h with rfl | h
    · omega
    · split at h
      · have := stp_ge f _ _ _ q h
        rw [List.length_drop] at this
        omega
      · have := stp_ge f _ _ _ q h
        omega
theorem filt_ge {S : List Nat} {p q n : Nat} (h : p < q) : (List.range' q n).filter (fun x => !(p :: S).contains x) = (List.range' q n).filter (fun x => !S.contains x) := List.filter_congr fun x hx => by
  have := (List.mem_range'_1.mp hx).1
  rw [List.contains_cons]
  have : (x == p) = false := by simpa using (by omega : x ≠ p)
  rw [this, Bool.false_or]
/-- the places that are not visited -/
theorem skp_filter {c : Int → Nat} : ∀ (f : Nat) (d : Int → Nat) (p : Nat) (B : List Int), B.length ≤ f → (List.range' p B.length).filter (fun x => !(stp c f d p B).contains x) = skp c f d p B
  | 0, _, _, B, h => by
    have : B = [] := List.length_eq_zero_iff.mp (by omega)
    subst this
    rfl
  | f + 1, _, _, [], _ => rfl
  | f + 1, d, p, v :: B, h => by
    have h : B.length ≤ f := Nat.le_of_succ_le_succ h
    show (List.range' p (B.length + 1)).filter _ = _
    rw [List.range'_succ, List.filter_cons]
    have e0 : (!(stp c (f + 1) d p (v :: B)).contains p) = false := by
      show (!(p :: _).contains p) = false
      rw [List.contains_cons, beq_self_eq_true]
      rfl
    rw [e0]
    show (List.range' (p + 1) B.length).filter (fun x => !(p :: (if d v + 1 < c v then stp c f (inc1 d v) (p + 2) (B.drop 1) else stp c f d (p + 1) B)).contains x) = if d v + 1 < c v then (B.take 1).map (fun _ => p + 1) ++ skp c f (inc1 d v) (p + 2) (B.drop 1) else skp c f d (p + 1) B
    rw [filt_ge (by omega)]
    split
    · cases B with
      | nil => cases f <;> rfl
      | cons b B =>
        have ih := skp_filter (c := c) f (inc1 d v) (p + 2) B (by have : B.length + 1 ≤ f := h; omega)
        show (List.range' (p + 1) (B.length + 1)).filter (fun x => !(stp c f (inc1 d v) (p + 2) B).contains x) = (p + 1) :: skp c f (inc1 d v) (p + 2) B
        rw [List.range'_succ, List.filter_cons]
        have e1 : (!(stp c f (inc1 d v) (p + 2) B).contains (p + 1)) = true := by
          rw [Bool.not_eq_true', Bool.eq_false_iff]
          intro z
          have := stp_ge f _ _ _ _ (List.contains_iff_mem.mp z)
          omega
        rw [e1, if_pos rfl]
        exact congrArg _ ih
    · exact skp_filter f d (p + 1) B h
/-- their values -/
theorem skp_lost {c : Int → Nat} {g : Nat → Int} : ∀ (f : Nat) (d : Int → Nat) (p : Nat) (B : List Int), (∀ i, i < B.length → B[i]? = some (g (p + i))) → (skp c f d p B).map g = lost c f d B
  | 0, _, _, _, _ => rfl
  | _ + 1, _, _, [], _ => rfl
  | f + 1, d, p, v :: B, h => by
    have h1 : ∀ i, i < B.length → B[i]? = some (g (p + 1 + i)) := fun i hi => by
      have := h (i + 1) (by rw [List.length_cons]; omega)
      rw [List.getElem?_cons_succ, show p + (i + 1) = p + 1 + i by omega] at this
      exact this
    show (if d v + 1 < c v then (B.take 1).map (fun _ => p + 1) ++ skp c f (inc1 d v) (p + 2) (B.drop 1) else skp c f d (p + 1) B).map g = if d v + 1 < c v then B.take 1 ++ lost c f (inc1 d v) (B.drop 1) else lost c f d B
    split
    · rw [List.map_append]
      congr 1
      · cases B with
        | nil => rfl
        | cons b B =>
          have := h1 0 (by rw [List.length_cons]; omega)
          rw [List.getElem?_cons_zero] at this
          have := Option.some.inj this
          show [g (p + 1)] = [b]
          rw [this]
      · refine skp_lost f _ (p + 2) _ fun i hi => ?_
        rw [List.length_drop] at hi
        rw [List.getElem?_drop]
        have := h1 (1 + i) (by omega)
        rw [show p + 1 + (1 + i) = p + 2 + i by omega] at this
        exact this
    · exact skp_lost f d (p + 1) B h1
theorem dfn_min {c : Int → Nat} (w : Int) : ∀ (f : Nat) (d : Int → Nat) (B : List Int), B.length ≤ f → d w ≤ c w - 1 → (lost c f d B).count w ≤ B.count w ∧ dfn c f d B w = min (d w + (B.count w - (lost c f d B).count w)) (c w - 1)
  | 0, d, B, hl, h => by
    have : B = [] := List.length_eq_zero_iff.mp (by omega)
    subst this
    show 0 ≤ 0 ∧ d w = min (d w + (0 - 0)) (c w - 1)
    omega
  | f + 1, d, [], hl, h => by
    show 0 ≤ 0 ∧ d w = min (d w + (0 - 0)) (c w - 1)
    omega
  | f + 1, d, v :: B, hl, h => by
    have hl : B.length ≤ f := Nat.le_of_succ_le_succ hl
    show (if d v + 1 < c v then B.take 1 ++ lost c f (inc1 d v) (B.drop 1) else lost c f d B).count w ≤ _ ∧ (if d v + 1 < c v then dfn c f (inc1 d v) (B.drop 1) else dfn c f d B) w = min (d w + ((v :: B).count w - (if d v + 1 < c v then B.take 1 ++ lost c f (inc1 d v) (B.drop 1) else lost c f d B).count w)) (c w - 1)
    rw [List.count_cons]
    have ht := take_one (p := 0) (B := B) w
    by_cases h0 : d v + 1 < c v
    · rw [if_pos h0, if_pos h0, List.count_append]
      have ei : inc1 d v w = if v = w then d w + 1 else d w := rfl
      by_cases hv : v = w
      · subst hv
        rw [if_pos rfl] at ei
        obtain ⟨i1, i2⟩ := dfn_min (c := c) v f (inc1 d v) (B.drop 1) (by rw [List.length_drop]; omega) (by rw [ei]; omega)
        rw [ei] at i2
        rw [if_pos (by simp), i2]
        omega
      · rw [if_neg hv] at ei
        obtain ⟨i1, i2⟩ := dfn_min (c := c) w f (inc1 d v) (B.drop 1) (by rw [List.length_drop]; omega) (by rw [ei]; omega)
        rw [ei] at i2
        rw [if_neg (by simpa using hv), i2]
        omega
    · rw [if_neg h0, if_neg h0]
      obtain ⟨i1, i2⟩ := dfn_min (c := c) w f d B hl h
      rw [i2]
      by_cases hv : v = w
      · subst hv
        rw [if_pos (by simp)]
        omega
      · rw [if_neg (by simpa using hv)]
        omega
/-! places -/
def pl : Nat → Int → List Int → List Nat
  | _, _, [] => []
  | p, v, x :: r => if x = v then p :: pl (p + 1) v r else pl (p + 1) v r
/-- places kept -/
def kp : Nat → (Int → Nat) → List Int → List Nat
  | _, _, [] => []
  | p, d, x :: r => if 0 < d x then kp (p + 1) (dec1 d x) r else p :: kp (p + 1) d r
theorem kp_rmv {g : Nat → Int} : ∀ (xs : List Int) (p : Nat) (d : Int → Nat), (∀ i, i < xs.length → xs[i]? = some (g (p + i))) → (kp p d xs).map g = rmv d xs
  | [], _, _, _ => rfl
  | x :: r, p, d, h => by
    have h1 : ∀ i, i < r.length → r[i]? = some (g (p + 1 + i)) := fun i hi => by
      have := h (i + 1) (by rw [List.length_cons]; omega)
      rw [List.getElem?_cons_succ, show p + (i + 1) = p + 1 + i by omega] at this
      exact this
    show (if 0 < d x then kp (p + 1) (dec1 d x) r else p :: kp (p + 1) d r).map g = if 0 < d x then rmv (dec1 d x) r else x :: rmv d r
    split
    · exact kp_rmv r _ _ h1
    · have h0 := h 0 (by rw [List.length_cons]; omega)
      rw [List.getElem?_cons_zero] at h0
      have h0 := Option.some.inj h0
      show g p :: (kp (p + 1) d r).map g = _
      rw [kp_rmv r _ _ h1, h0]
      rfl
theorem kp_ge : ∀ (xs : List Int) (p : Nat) (d : Int → Nat), ∀ q ∈ kp p d xs, p ≤ q ∧ q < p + xs.length
  | [], _, _, _, h => by cases h
  | x :: r, p, d, q, h => by
    rw [List.length_cons]
    have h : q ∈ if 0 < d x then kp (p + 1) (dec1 d x) r else p :: kp (p + 1) d r := h
    split at h
    · have := kp_ge r _ _ q h
      omega
    · rcases List.mem_cons.mp h with rfl | h
      · omega
      · have := kp_ge r _ _ q h
        omega
theorem kp_sorted : ∀ (xs : List Int) (p : Nat) (d : Int → Nat), (kp p d xs).Pairwise (· < ·)
  | [], _, _ => .nil
  | x :: r, p, d => by
    show (if 0 < d x then kp (p + 1) (dec1 d x) r else p :: kp (p + 1) d r).Pairwise (· < ·)
    split
    · exact kp_sorted r _ _
    · exact .cons (fun q hq => by have := kp_ge r _ _ q hq; omega) (kp_sorted r _ _)
theorem pl_ge : ∀ (xs : List Int) (p : Nat) (v : Int), ∀ q ∈ pl p v xs, p ≤ q ∧ q < p + xs.length ∧ xs[q - p]? = some v
  | [], _, _, _, h => by cases h
  | x :: r, p, v, q, h => by
    rw [List.length_cons]
    have h : q ∈ if x = v then p :: pl (p + 1) v r else pl (p + 1) v r := h
    have go : q ∈ pl (p + 1) v r → p ≤ q ∧ q < p + (r.length + 1) ∧ (x :: r)[q - p]? = some v := fun h => by
      obtain ⟨a, b, c⟩ := pl_ge r _ _ q h
      refine ⟨by omega, by omega, ?_⟩
      rw [show q - p = (q - (p + 1)) + 1 by omega, List.getElem?_cons_succ]
      exact c
    split at h
    · rename_i e
      rcases List.mem_cons.mp h with rfl | h
      · refine ⟨by omega, by omega, ?_⟩
        rw [Nat.sub_self, e]
        rfl
      · exact go h
    · exact go h
theorem pl_sorted : ∀ (xs : List Int) (p : Nat) (v : Int), (pl p v xs).Pairwise (· < ·)
  | [], _, _ => .nil
  | x :: r, p, v => by
    show (if x = v then p :: pl (p + 1) v r else pl (p + 1) v r).Pairwise (· < ·)
    split
    · exact .cons (fun q hq => by have := pl_ge r _ _ q hq; omega) (pl_sorted r _ _)
    · exact pl_sorted r _ _
theorem pl_len : ∀ (xs : List Int) (p : Nat) (v : Int), (pl p v xs).length = xs.count v
  | [], _, _ => rfl
  | x :: r, p, v => by
    show (if x = v then p :: pl (p + 1) v r else pl (p + 1) v r).length = _
    rw [List.count_cons]
    split
    · rename_i e
      rw [List.length_cons, pl_len r, if_pos (by simpa using e)]
    · rename_i e
      rw [pl_len r, if_neg (by simpa using e)]
      rfl
theorem kp_pl (q : Nat) : ∀ (xs : List Int) (p : Nat) (d : Int → Nat), q ∈ kp p d xs ↔ ∃ v, q ∈ (pl p v xs).drop (d v)
  | [], _, d => by
    constructor
    · intro h
      cases h
    · rintro ⟨v, h⟩
      have h : q ∈ ([] : List Nat).drop (d v) := h
      rw [List.drop_nil] at h
      cases h
  | x :: r, p, d => by
    show (q ∈ if 0 < d x then kp (p + 1) (dec1 d x) r else p :: kp (p + 1) d r) ↔ ∃ v, q ∈ (if x = v then p :: pl (p + 1) v r else pl (p + 1) v r).drop (d v)
    by_cases h0 : 0 < d x
    · rw [if_pos h0, kp_pl q r (p + 1) (dec1 d x)]
      have e : ∀ v, (if x = v then p :: pl (p + 1) v r else pl (p + 1) v r).drop (d v) = (pl (p + 1) v r).drop (dec1 d x v) := fun v => by
        unfold dec1
        by_cases hv : x = v
        · subst hv
          rw [if_pos rfl, if_pos rfl]
          obtain ⟨m, hm⟩ : ∃ m, d x = m + 1 := ⟨d x - 1, by omega⟩
          rw [hm]
          rfl
        · rw [if_neg hv, if_neg hv]
      constructor
      · rintro ⟨v, h⟩
        exact ⟨v, by rw [e]; exact h⟩
      · rintro ⟨v, h⟩
        rw [e] at h
        exact ⟨v, h⟩
    · rw [if_neg h0, List.mem_cons, kp_pl q r (p + 1) d]
      have d0 : d x = 0 := by omega
      constructor
      · rintro (rfl | ⟨v, h⟩)
        · exact ⟨x, by rw [if_pos rfl, d0]; exact List.mem_cons_self⟩
        · refine ⟨v, ?_⟩
          split
          · rename_i hv
            subst hv
            rw [d0] at h ⊢
            exact List.mem_cons_of_mem _ h
          · exact h
      · rintro ⟨v, h⟩
        split at h
        · rename_i hv
          subst hv
          rw [d0] at h
          rcases List.mem_cons.mp h with rfl | h
          · exact .inl rfl
          · exact .inr ⟨x, by rw [d0]; exact h⟩
        · exact .inr ⟨v, h⟩
theorem pl_filter {g : Nat → Int} {v : Int} : ∀ (xs : List Int) (p : Nat), (∀ i, i < xs.length → xs[i]? = some (g (p + i))) → pl p v xs = (List.range' p xs.length).filter fun i => decide (g i = v)
  | [], _, _ => rfl
  | x :: r, p, h => by
    have h1 : ∀ i, i < r.length → r[i]? = some (g (p + 1 + i)) := fun i hi => by
      have := h (i + 1) (by rw [List.length_cons]; omega)
      rw [List.getElem?_cons_succ, show p + (i + 1) = p + 1 + i by omega] at this
      exact this
    have h0 := h 0 (by rw [List.length_cons]; omega)
    rw [List.getElem?_cons_zero] at h0
    have h0 : x = g p := Option.some.inj h0
    show (if x = v then p :: pl (p + 1) v r else pl (p + 1) v r) = (List.range' p (r.length + 1)).filter _
    rw [List.range'_succ, List.filter_cons, ← h0, pl_filter r (p + 1) h1]
    by_cases e : x = v
    · rw [if_pos e, decide_eq_true e, if_pos rfl]
    · rw [if_neg e, decide_eq_false e, if_neg (by decide)]
/-! of a list -/
def d0 : Int → Nat := fun _ => 0
def ST (xs : List Int) : List Nat := stp xs.count xs.length d0 0 xs
def SK (xs : List Int) : List Nat := skp xs.count xs.length d0 0 xs
def LO (xs : List Int) : List Int := lost xs.count xs.length d0 xs
def DS (xs : List Int) : Int → Nat := dfn xs.count xs.length d0 xs
def GN (xs : List Int) : Nat := gn xs.count xs.length d0 xs
def gx (xs : List Int) (i : Nat) : Int := (xs[i]?).getD 0
theorem gx_at {xs : List Int} (i : Nat) (h : i < xs.length) : xs[i]? = some (gx xs i) := by
  unfold gx
  rw [List.getElem?_eq_getElem h]
  rfl
theorem gx_at0 {xs : List Int} (i : Nat) (h : i < xs.length) : xs[i]? = some (gx xs (0 + i)) := by
  rw [Nat.zero_add]
  exact gx_at i h
theorem dpass_all (xs : List Int) : dpass xs = rmv (DS xs) xs ∧ dvis xs = (ST xs).map (fun n : Nat => (n : Int)) ∧ (dpass xs).length + GN xs = xs.length := by
  have := dv_rmv (xs := xs) xs.length [] xs d0 rfl (Nat.le_refl _) fun w => Nat.zero_le _
  obtain ⟨h1, h2, h3⟩ := this
  have h3 : (dpass xs).length + GN xs = 0 + xs.length := h3
  exact ⟨h1, h2, by omega⟩
theorem DS_eq (xs : List Int) (w : Int) : (LO xs).count w ≤ xs.count w ∧ DS xs w = xs.count w - max ((LO xs).count w) 1 := by
  obtain ⟨h1, h2⟩ := dfn_min (c := xs.count) w xs.length d0 xs (Nat.le_refl _) (Nat.zero_le _)
  have h2 : DS xs w = min (0 + (xs.count w - (LO xs).count w)) (xs.count w - 1) := h2
  have h1 : (LO xs).count w ≤ xs.count w := h1
  exact ⟨h1, by omega⟩
theorem unseen_all (xs : List Int) : (List.range' 0 xs.length).filter (fun q => !(ST xs).contains q) = SK xs := skp_filter xs.length d0 0 xs (Nat.le_refl _)
theorem lost_all (xs : List Int) : (SK xs).map (gx xs) = LO xs := skp_lost xs.length d0 0 xs fun i h => gx_at0 i h
theorem unseen_len (xs : List Int) (v : Int) : ((pl 0 v xs).filter (fun q => !(ST xs).contains q)).length = (LO xs).count v := by
  rw [pl_filter (g := gx xs) xs 0 (fun i h => gx_at0 i h), List.filter_filter, ← lost_all, ← unseen_all, List.count_eq_countP, List.countP_map, List.countP_filter, List.countP_eq_length_filter]
  congr 1
  refine List.filter_congr fun q _ => ?_
  show ((!(ST xs).contains q) && decide (gx xs q = v)) = (((gx xs q == v)) && (!(ST xs).contains q))
  rw [Bool.and_comm]
  congr 1
theorem kept_len (xs : List Int) (v : Int) (h : v ∈ xs) : ((pl 0 v xs).length : Int) - (if ((((pl 0 v xs).filter (fun q => !(ST xs).contains q)).length : Nat) : Int) < 1 then 1 else ((((pl 0 v xs).filter (fun q => !(ST xs).contains q)).length : Nat) : Int)) = ((DS xs v : Nat) : Int) := by
  obtain ⟨h1, h2⟩ := DS_eq xs v
  have hp : 0 < xs.count v := List.count_pos_iff.mpr h
  rw [unseen_len, pl_len]
  split <;> omega
def tld (xs vs : List Int) : List Nat := vs.flatMap fun v => (pl 0 v xs).drop (DS xs v)
theorem told_all (xs : List Int) : sortI ((tld xs (sortI (dedup xs))).map fun n : Nat => (n : Int)) = (kp 0 (DS xs) xs).map fun n : Nat => (n : Int) := by
  have hnd : (sortI (dedup xs)).Nodup := (sortI_perm _).nodup_iff.mpr (dedup_nd xs)
  have hm : ∀ v, v ∈ sortI (dedup xs) ↔ v ∈ xs := fun v => by rw [(sortI_perm _).mem_iff, dedup_mem]
  have n1 : (tld xs (sortI (dedup xs))).Nodup := by
    unfold tld
    rw [List.nodup_iff_pairwise_ne, List.pairwise_flatMap]
    refine ⟨fun v _ => ((pl_sorted xs 0 v).drop).imp fun h => Nat.ne_of_lt h, ?_⟩
    refine (List.nodup_iff_pairwise_ne.mp hnd).imp fun {a b} hab x hx y hy e => ?_
    subst e
    have ha := (pl_ge xs 0 a x (List.mem_of_mem_drop hx)).2.2
    have hb := (pl_ge xs 0 b x (List.mem_of_mem_drop hy)).2.2
    rw [ha] at hb
    exact hab (Option.some.inj hb)
  have n2 : (kp 0 (DS xs) xs).Nodup := List.nodup_iff_pairwise_ne.mpr ((kp_sorted xs 0 _).imp fun h => Nat.ne_of_lt h)
  have hp : (tld xs (sortI (dedup xs))).Perm (kp 0 (DS xs) xs) := (List.perm_ext_iff_of_nodup n1 n2).mpr fun q => by
    rw [kp_pl]
    unfold tld
    rw [List.mem_flatMap]
    constructor
    · rintro ⟨v, _, h⟩
      exact ⟨v, h⟩
    · rintro ⟨v, h⟩
      refine ⟨v, (hm v).mpr ?_, h⟩
      exact List.mem_of_getElem? (pl_ge xs 0 v q (List.mem_of_mem_drop h)).2.2
  refine sort_uniq ((sortI_perm _).trans (hp.map _)) (sortI_sorted _) ?_
  exact List.pairwise_map.mpr ((kp_sorted xs 0 _).imp fun h => by omega)
theorem kept_all (xs : List Int) : (kp 0 (DS xs) xs).map (gx xs) = dpass xs := by
  rw [(dpass_all xs).1]
  exact kp_rmv xs 0 _ fun i h => gx_at0 i h
theorem right_all (xs : List Int) : (dpass xs).Nodup ↔ (LO xs).Nodup := by
  have e : ∀ w, (dpass xs).count w = xs.count w - DS xs w := fun w => by rw [(dpass_all xs).1, rmv_count]
  rw [List.nodup_iff_count, List.nodup_iff_count]
  constructor
  · intro h w
    have := h w
    rw [e] at this
    obtain ⟨h1, h2⟩ := DS_eq xs w
    omega
  · intro h w
    have := h w
    rw [e]
    obtain ⟨h1, h2⟩ := DS_eq xs w
    omega
theorem cont_cast {S : List Nat} {q : Nat} : (S.map fun n : Nat => (n : Int)).contains (q : Int) = S.contains q := by
  rw [Bool.eq_iff_iff, List.contains_iff_mem, List.contains_iff_mem, List.mem_map]
  constructor
  · rintro ⟨a, h, e⟩
    rw [show q = a by omega]
    exact h
  · intro h
    exact ⟨q, h, rfl⟩
/-! the loop over the visits -/
theorem lookK_put {k j : L2.Key} {x : T} : ∀ kvs : List (L2.Key × T), lookK j (putK k x kvs) = if k = j then some x else lookK j kvs := by
  have main : ∀ kvs : List (L2.Key × T), lookK j (kvs.map fun p => if p.1 = k then (p.1, x) else p) = if k = j ∧ hasK k kvs = true then some x else lookK j kvs := by
    intro kvs
    induction kvs with
    | nil =>
      rw [if_neg (fun z => by cases z.2)]
      rfl
    | cons p r ih =>
      obtain ⟨i, y⟩ := p
      rw [List.map_cons]
      show lookK j ((if i = k then (i, x) else (i, y)) :: _) = if k = j ∧ (decide (i = k) || hasK k r) = true then some x else (if i = j then some y else lookK j r)
      by_cases h1 : i = k
      · subst h1
        rw [if_pos rfl]
        show (if i = j then some x else lookK j _) = _
        by_cases h2 : i = j
        · subst h2
          rw [if_pos rfl, if_pos ⟨rfl, by rw [decide_eq_true rfl]; rfl⟩]
        · rw [if_neg h2, ih, if_neg (fun z => h2 z.1), if_neg (fun z => h2 z.1), if_neg h2]
      · rw [if_neg h1]
        show (if i = j then some y else lookK j _) = _
        rw [ih, decide_eq_false h1, Bool.false_or]
        by_cases h2 : i = j
        · subst h2
          rw [if_pos rfl, if_neg (fun z => h1 z.1.symm), if_pos rfl]
        · rw [if_neg h2, if_neg h2]
  have snoc : ∀ kvs : List (L2.Key × T), hasK k kvs = false → lookK j (kvs ++ [(k, x)]) = if k = j then some x else lookK j kvs := by
    intro kvs
    induction kvs with
    | nil =>
      intro _
      show (if k = j then some x else none) = _
      rfl
    | cons p r ih =>
      obtain ⟨i, y⟩ := p
      intro h
      have h : (decide (i = k) || hasK k r) = false := h
      rw [Bool.or_eq_false_iff] at h
      show (if i = j then some y else lookK j (r ++ [(k, x)])) = if k = j then some x else (if i = j then some y else lookK j r)
      rw [ih h.2]
      by_cases h2 : i = j
      · subst h2
        rw [if_pos rfl, if_neg (fun z => of_decide_eq_false h.1 z.symm), if_pos rfl]
      · rw [if_neg h2, if_neg h2]
  intro kvs
  unfold putK
  split
  · rename_i h
    rw [main]
    by_cases e : k = j
    · rw [if_pos ⟨e, h⟩, if_pos e]
    · rw [if_neg (fun z => e z.1), if_neg e]
  · rename_i h
    exact snoc kvs (by rw [Bool.eq_false_iff]; exact h)
theorem put_len {k : L2.Key} {x : T} (kvs : List (L2.Key × T)) : (putK k x kvs).length ≤ kvs.length + 1 := by
  unfold putK
  split
  · rw [List.length_map]
    omega
  · rw [List.length_append, List.length_singleton]
    omega
end Mi

set_option Elab.async false
set_option linter.all false
set_option maxRecDepth 100000
set_option maxHeartbeats 4000000
/-! Lm: a lambda without parameters, handed to a def that calls it under try -/
namespace Mi
open PySem PySem.Spec PyProof.Rows L2
section
variable {X : Cx} {pins : List (Addr × Obj)} {σ : L2.St} {H : Hp} {s : Shared}
/-- only the table is written -/
def KpT (P : Addr) (H H1 : Hp) : Prop := (∀ b o, H b = some o → b ≠ P → H1 b = some o) ∧ ∀ b, H1 b = none → H b = none
theorem KpT.refl {P : Addr} : KpT P H H := ⟨fun _ _ e _ => e, fun _ e => e⟩
/-- what is new in the table -/
def NewT (P d : Addr) (H H1 : Hp) : Prop := ∀ ps, H P = some (.tbl ps) → ((∃ pos, codeAmong pos ps.toList = some (.ref d)) ∨ H d = none) ∧ ∀ ps1, H1 P = some (.tbl ps1) → TriplesOk ps1.toList ∧ ∀ pos cv, codeAmong pos ps1.toList = some cv → (∃ p2, codeAmong p2 ps.toList = some cv) ∨ cv = .ref d
abbrev lamQ (X : Cx) : Str := X.env.qual ++ "<lambda>"
abbrev lamO (X : Cx) (params : Arguments) (body : Expr) (scope : Scope) (pm : Value) (d : Addr) (ct : Value) : Obj := PySem.W.kla_obj "<lambda>" (lamQ X) params body scope (cloFrom X.env.cells scope.names []) pm d ct
/-- a lambda is made -/
theorem lam_new {c P : Addr} {params : Arguments} {body : Expr} {scope : Scope} {pos : Pos} {E Q : Value → Shared → Prop} (I : Inv X pins σ H s) (tb : LamX.TabB X.base X.mg c P) (hc : X.env.code = .ref c) (ht : LamX.TabS H P (lamQ X)) (hd : defaultsOf params X.env = ([], [])) (L : LamX.LamS X.env.scope scope)
    (go : ∀ (f d : Addr) (pm ct : Value) (H1 : Hp) (s1 : Shared), Inv X pins σ H1 s1 → KpT P H H1 → (∃ ps1, H1 P = some (.tbl ps1)) → NewT P d H H1 → s1.heap.get? f = some (lamO X params body scope pm d ct) → H1 f = none → f ∉ frs X.stack → H1 d = some (LamX.CodeO d (lamQ X)) → Q (.ref f) s1) :
    wpAny (model X.prog X.w) X.A (eval (.Lambda params body scope pos) X.env) Q E s := by
  obtain ⟨ps, atP, tri, ok⟩ := ht
  have cl := closure_ok (L.has I.ok)
  have inP := I.hok P _ atP
  have fresh : ∀ f : Addr, s.heap.objs.size ≤ f → f ∉ frs X.stack := fun f big mem => by
    rcases List.mem_cons.mp (I.stkSub _ mem) with same | old
    · have lt := I.lt
      rw [← same] at lt
      exact absurd (Nat.lt_of_lt_of_le lt big) (Nat.lt_irrefl _)
    · exact absurd old (I.nofs big)
  apply PySem.W.kla_eval hd
  cases look : codeAmong pos ps.toList with
  | some cv =>
    obtain ⟨d, rfl, hd2⟩ := ok pos cv look
    refine PySem.W.kla_makeFunctionHit cl I.ok.glob (I.mod.glob.keeps I.bk) hc (tb.code.keeps I.bk) inP tri look (tb.bm.keeps I.bk) ?_
    intro ct h1 tk more big
    exact go h1.objs.size d _ ct H _ (I.kept fun b o e => Heap.get?_push_of_some _ (more b o e)) .refl ⟨ps, atP⟩ (fun ps2 e2 => by
      rw [atP] at e2
      cases e2
      refine ⟨.inl ⟨pos, look⟩, fun ps1 e1 => ?_⟩
      rw [atP] at e1
      cases e1
      exact ⟨tri, fun p2 cv h => .inl ⟨p2, h⟩⟩) (Heap.get?_push_size _ rfl) (I.hok.fresh big) (fresh _ big) hd2
  | none =>
    refine PySem.W.kla_makeFunction cl I.ok.glob (I.mod.glob.keeps I.bk) hc (tb.code.keeps I.bk) inP tri look tb.gP (tb.bm.keeps I.bk) ?_
    intro d ct h1 tk more dbig dlt rec tab
    obtain ⟨d2, oc, vs, t, same, gd, fl, nm⟩ := rec
    cases same
    have big := Nat.le_trans dbig (Nat.le_of_lt dlt)
    have noD : H d = none := I.hok.fresh dbig
    have PD : P ≠ d := ne_of_none atP noD
    have J := LamX.inv_table (t' := tk) (more := #[rawInt pos.line, rawInt pos.col, .ref d]) (h' := h1.push (lamO X params body scope ((X.mg "__name__").getD .none) d ct)) I atP (fun b o nb e => Heap.get?_push_of_some _ (more b o nb e)) (Heap.get?_push_of_some _ tab) dbig ⟨oc, vs, t, Heap.get?_push_of_some _ gd, fl, nm⟩
    have kp : KpT P H (upd (upd H P (.tbl (ps ++ #[rawInt pos.line, rawInt pos.col, .ref d]))) d (LamX.CodeO d (lamQ X))) := by
      refine ⟨fun b o e nb => ?_, fun b e => ?_⟩
      · rw [upd_ne (ne_of_none e noD), upd_ne nb]
        exact e
      · by_cases bd : b = d
        · rw [bd, upd_same] at e
          cases e
        · rw [upd_ne bd] at e
          by_cases bP : b = P
          · rw [bP, upd_same] at e
            cases e
          · rw [upd_ne bP] at e
            exact e
    have lst : (ps ++ #[rawInt pos.line, rawInt pos.col, .ref d]).toList = ps.toList ++ [rawInt pos.line, rawInt pos.col, .ref d] := by simp
    refine go h1.objs.size d _ ct _ _ J kp ⟨_, by rw [upd_ne PD, upd_same]⟩ (fun ps2 e2 => ?_) (Heap.get?_push_size _ rfl) ?_ (fresh _ big) upd_same
    · rw [atP] at e2
      cases e2
      refine ⟨.inr noD, fun ps1 e1 => ?_⟩
      rw [upd_ne PD, upd_same] at e1
      cases e1
      rw [lst]
      exact ⟨PySem.TriplesOk_snoc _ _ _ _ tri, fun p2 cv hcv => (LamX.among_app _ tri hcv).imp (fun z => ⟨p2, z⟩) id⟩
    · have n1 : h1.objs.size ≠ d := fun z => by rw [z] at dlt; exact Nat.lt_irrefl _ dlt
      have n2 : h1.objs.size ≠ P := fun z => by
        have := Heap.lt_size inP
        rw [← z] at this
        exact Nat.lt_irrefl _ (Nat.lt_of_lt_of_le this big)
      rw [upd_ne n1, upd_ne n2]
      exact I.hok.fresh big
/-- it is called, in the def that got it; what it raises reaches that def's own handler -/
theorem lam_act {W : WX} {Eg : XK} {Ng : List Str} {qg : Str} {sg : Scope} {g f d : Addr} {cdg pm ct : Value} {params : Arguments} {body : Expr} {scope : Scope} {k : Nat} {a : Str} {pn : List (Addr × Obj)} {xe : Value → Shared → Prop} {tb : XK → TE} {p1 p2 : Pos}
    (I : Inv X pins σ H s) (L : LamX.LamS X.env.scope scope) (hf : s.heap.get? f = some (lamO X params body scope pm d ct)) (nf : H f = none) (nfr : f ∉ frs X.stack)
    (hb : bindArgs (PySem.W.kla_fn "<lambda>" (lamQ X) params body scope (cloFrom X.env.cells scope.names []) pm (.ref d) ct) ⟨[], []⟩ = pure [])
    (tk : Takes ((cxOf (CX X.prog X.w) X.prog X.w X.K X.mg X.base Ng qg sg g cdg X.A X.stack s H Eg).tr pn xe) W) (hr : Room (k + 1) (X.A.deeper (envOfC qg sg s.heap.objs.size g cdg)))
    (hgd : X.A.guards = some []) (hbody : ∀ (A : Around) (outer : List Env) (s : Shared) (H : Hp) (E : XK), A.guards = some [] → Room k (A.deeper (LamX.lamEnv X scope s.heap.objs.size f d)) → PE (LamX.lamCx X A outer s H E scope f d) body (tb E))
    (hN : Ng[0]? = some a) (hv : Vis sg a) (h1 : (a == ("__debug__" : Str)) = false) (h2 : (a == ("__classdict__" : Str)) = false) :
    PE ((cxOf (CX X.prog X.w) X.prog X.w X.K X.mg X.base Ng qg sg g cdg X.A X.stack s H Eg).tr pn xe) (.Call (.Name a p1) [] [] p2)
      (fun τ G Q => τ[0]? = some (some (.ref f)) ∧ G d = some (LamX.CodeO d (lamQ X)) ∧ tb (fun cls dx G' => W cls dx τ G') σ G Q) := by
  refine ⟨fun pinz sz τ G Q Iz ⟨g1, g2, g3⟩ => ?_⟩
  apply wpAny_Call_Name_kw
  refine thn ((pe_var (pos := p1) (i := 0) hN hv h1 h2).run pinz sz τ G (fun v G1 => v = .ref f ∧ G1 = G) Iz ⟨.ref f, g1, rfl, rfl⟩) ?_
  rintro u s1 ⟨v, G1, J, rv, rfl, rfl⟩
  obtain rfl : u = Value.ref f := rv
  have at1 := J.base.keep f _ hf nf nfr (fun z => by cases z)
  refine PySem.W.callWith_F0 ⟨_, _, _, _, at1⟩ ?_
  obtain ⟨⟨oc, vs, t, c1, c2, c3⟩, _, _⟩ := J.hok d _ g2
  have run : codeAny (model X.prog X.w) (X.A.deeper (envOfC qg sg s.heap.objs.size g cdg)) (.call (.ref f) ⟨[], []⟩) (CR (CX X.prog X.w) (envOfC qg sg s.heap.objs.size g cdg :: X.stack) X.prog X.w G1 s1 Q fun cls dx G' => W cls dx τ G') s1 := by
    refine PySem.W.kla_callFunE hr.depth at1 rfl L.co L.gen rfl ⟨d, oc, vs, t, rfl, c1, c2, c3⟩ ?_
    rw [hb]
    apply wpAny_pure
    refine wpAny_newFunctionEnv (fun y hy => (L.own y hy).2) (fun y hy => by cases hy) ?_ L.kind
    intro h3 ns sb
    refine ⟨J.nolimit.fresh _ sb, ?_⟩
    show codeAny _ _ (.expr body (LamX.lamEnv X scope s1.heap.objs.size f d)) _ _
    have kp3 : ∀ b o, s1.heap.get? b = some o → h3.get? b = some o := fun b o e => sb.extBut b o (fun z => by rw [z] at e; exact Nat.lt_irrefl _ (Heap.lt_size e)) (Heap.get?_push_of_some _ e)
    have start := LamX.lam_start2 (A := X.A.deeper (envOfC qg sg s.heap.objs.size g cdg)) (outer := envOfC qg sg s.heap.objs.size g cdg :: X.stack) (E := fun cls dx G' => W cls dx τ G') (f := f) (c' := d) (tk := s1.toks + ([] : List (Str × Value)).length) I L J.env0 hr.hd J.base ns kp3
    apply PySem.W.kla_codeExpr
    refine wpAny_mono ((hbody (X.A.deeper (envOfC qg sg s.heap.objs.size g cdg)) _ s1 G1 _ hgd (hr.deeper _)).run [] _ _ G1 Q start g3) ?_ fun _ _ z => z
    rintro r s4 ⟨w, G4, J4, rr, q4⟩
    exact ⟨w, G4, J4.os, J4.bare, J4.base, J4.hok, rr, q4⟩
  apply wpAny_call
  refine codeAny_mono run ?_
  intro r s5 q5
  cases r with
  | error e => exact tk e s5 (XE.of_call J (fun _ _ _ z => z) q5)
  | ok fl =>
    cases fl with
    | ret u => exact J.after q5
    | next => exact (show False from q5).elim
    | brk => exact (show False from q5).elim
    | cont => exact (show False from q5).elim
/-- what is asked of x(lambda: body) -/
def tLamX (X : Cx) (P g : Addr) (fd : FuncData) (x a : Str) (Ng : List Str) (sg : Scope) (bg : List Stmt) (tb : XK → TE) : TE := fun σ H Q => LamX.TabS H P (lamQ X) ∧ ∀ (H1 : Hp) (f d : Addr), KpT P H H1 → (∃ ps1, H1 P = some (.tbl ps1)) → NewT P d H H1 → H1 f = none → H1 d = some (LamX.CodeO d (lamQ X)) →
  ∀ (s : Shared) (cdg : Value), (∀ (W : WX) (pn : List (Addr × Obj)) (xe : Value → Shared → Prop) (p1 p2 : Pos), Takes ((cxOf (CX X.prog X.w) X.prog X.w X.K X.mg X.base Ng x sg g cdg X.A X.stack s H1 (fun _ _ _ => False)).tr pn xe) W →
      PE ((cxOf (CX X.prog X.w) X.prog X.w X.K X.mg X.base Ng x sg g cdg X.A X.stack s H1 (fun _ _ _ => False)).tr pn xe) (.Call (.Name a p1) [] [] p2) (fun τ G Q => τ[0]? = some (some (.ref f)) ∧ G d = some (LamX.CodeO d (lamQ X)) ∧ tb (fun cls dx G' => W cls dx τ G') σ G Q)) →
    ∃ t, PSs (cxOf (CX X.prog X.w) X.prog X.w X.K X.mg X.base Ng x sg g cdg X.A X.stack s H1 (fun _ _ _ => False)) bg t ∧ t { nx := fun _ G => Q .non G, rt := Q } (L2.start Ng [.ref f]) H1
theorem pe_lamX {c P g : Addr} {fd : FuncData} {k : Nat} {x a : Str} {Ng : List Str} {sg : Scope} {pg params : Arguments} {bg : List Stmt} {body : Expr} {scope : Scope} {tb : XK → TE} {p lpos pos : Pos} (gl : Gl X x) (hm : X.mg x = some (.ref g)) (hk : PySem.W.keepIn X.K (.ref g) = true)
    (F : FunD X.K x x pg bg sg [] [] g fd) (Sg : FnScope Ng [a] sg) (hN : Ng[0]? = some a) (hv : Vis sg a) (TB : LamX.TabB X.base X.mg c P) (hc : X.env.code = .ref c) (hr : Room (k + 2) X.A) (L : LamX.LamS X.env.scope scope) (hd : defaultsOf params X.env = ([], []))
    (hb : ∀ (q : Str) (cl : List (Str × Addr)) (pm cv ctv : Value), bindArgs (PySem.W.kla_fn "<lambda>" q params body scope cl pm cv ctv) ⟨[], []⟩ = pure []) (bd : ∀ (s : Shared) (u : Value), BindsTo s fd ⟨[u], []⟩ [(a, u)])
    (hgd : X.A.guards = some []) (hbody : ∀ (A : Around) (outer : List Env) (s : Shared) (H : Hp) (E : XK) (f d : Addr), A.guards = some [] → Room k (A.deeper (LamX.lamEnv X scope s.heap.objs.size f d)) → PE (LamX.lamCx X A outer s H E scope f d) body (tb E))
    (hx : (x == ("__debug__" : Str)) = false) (h1 : (a == ("__debug__" : Str)) = false) (h2 : (a == ("__classdict__" : Str)) = false) :
    PE X (.Call (.Name x p) [.Lambda params body scope lpos] [] pos) (tLamX X P g fd x a Ng sg bg tb) := by
  refine ⟨fun pins s σ H Q I ⟨tab, want⟩ => ?_⟩
  refine wpAny_Call_Name_kw (ld_glob I gl hm ?_ hx)
  refine PySem.W.callWith_K (h₀ := X.base) I.ok.mod.kin hk ?_ (by rfl) (by rfl)
  show wpAny _ _ (spliced ((false, eval (.Lambda params body scope lpos) X.env) :: backTo pos (starEach [] X.env))) _ _ s
  apply Calls.spliced_cons
  refine lam_new I TB hc tab hd L fun f d pm ct H1 s1 J kp tab1 new atf nf nfr co => ?_
  refine Calls.spliced_nil ⟨J.kIn, ?_⟩
  have run : codeAny (model X.prog X.w) X.A (.call (.ref g) ⟨[.ref f], []⟩) (CR (CX X.prog X.w) X.stack X.prog X.w H1 s1 Q fun _ _ _ => False) s1 :=
    go_of (N := Ng) (ps := [a]) (us := [.ref f]) (vs := [.ref f]) F Sg hr J.env0 (bd s1 (.ref f)) (.cons rfl .nil) rfl fun cdg ec room => want H1 f d kp tab1 new nf co s1 cdg fun W pn xe p1 p2 tk =>
      lam_act J L atf nf nfr (hb _ _ _ _ _) tk room hgd (fun A outer s H E gd r => hbody A outer s H E f d gd r) hN hv h1 h2
  apply wpAny_call
  refine codeAny_mono run ?_
  intro r s5 q5
  cases r with
  | error e =>
    obtain ⟨_, _, _, _, _, _, _, _, _, _, _, _, z⟩ := q5
    exact z.elim
  | ok fl =>
    cases fl with
    | ret u => exact J.after q5
    | next => exact (show False from q5).elim
    | brk => exact (show False from q5).elim
    | cont => exact (show False from q5).elim
end
section
variable {K : PySem.W.Frag} {fr : Frame} {S : Store} {μ : Nat → Addr} {σ : L2.St} {H F : Hp}
theorem Ab.forget (A : Ab K fr S μ σ H F) (i : Nat) : Ab K (fr.set i none) S μ σ H F := by
  refine ⟨A.hs, by rw [List.length_set]; exact A.len, fun j d e => ?_⟩
  by_cases h : i = j
  · subst h
    have hl := (List.getElem?_eq_some_iff.mp e).1
    rw [List.length_set] at hl
    rw [List.getElem?_set_self hl] at e
    cases e
  · rw [List.getElem?_set_ne h] at e
    exact A.sl j d e
/-- the state behind the making of a lambda -/
theorem lam_state {P d : Addr} {qn : Str} {j : Nat} {H1 : Hp} (A : Ab K fr S μ σ H F) (hS : S[j]? = some (.tbl P qn)) (kp : KpT P H H1) (hp : ∃ ps1, H1 P = some (.tbl ps1)) (nt : NewT P d H H1) (hd : H1 d = some (LamX.CodeO d qn)) :
    Ab K fr S μ σ H1 (upd F d (LamX.CodeO d qn)) ∧ ∀ L, Stp L S μ H F S μ H1 (upd F d (LamX.CodeO d qn)) := by
  have jl := (List.getElem?_eq_some_iff.mp hS).1
  have hμ : μ j = P := A.hs.tb j P qn hS
  obtain ⟨ho, e1, e2⟩ := A.hs.ce j _ hS
  rw [hμ] at e1
  cases ho <;> first | exact e2.elim | skip
  rename_i ps
  have e2 : PySem.TriplesOk ps.toList ∧ ∀ (pos : Pos) (cv : Value), PySem.codeAmong pos ps.toList = some cv → ∃ c, cv = .ref c ∧ F c = some (LamX.CodeO c qn) := e2
  obtain ⟨od, n1⟩ := nt ps e1
  have FP : F P = none := by rw [← hμ]; exact A.hs.out j jl
  have Fd : F d = some (LamX.CodeO d qn) ∨ H d = none := by
    rcases od with ⟨pos, z⟩ | z
    · obtain ⟨c, h1, h2⟩ := e2.2 pos _ z
      cases h1
      exact .inl h2
    · exact .inr z
  have sf : Same F (upd F d (LamX.CodeO d qn)) := fun a o e => by
    by_cases ha : a = d
    · subst ha
      rcases Fd with z | z
      · rw [z] at e
        cases e
        exact upd_same
      · rw [free_F A.hs.sub z] at e
        cases e
    · rw [upd_ne ha]
      exact e
  have nμ : ∀ n, n < S.length → μ n ≠ d := fun n hn z => by
    rcases Fd with y | y
    · rw [← z, A.hs.out n hn] at y
      cases y
    · exact free_C A.hs y n hn z
  have only : ∀ n, n < S.length → μ n = P → n = j := fun n hn z => A.hs.inj n j hn jl (by rw [z, hμ])
  have hs : Hs K S μ H1 (upd F d (LamX.CodeO d qn)) := by
    refine ⟨fun a u e => ?_, fun n o e => ?_, fun n hn => by rw [upd_ne (nμ n hn)]; exact A.hs.out n hn, A.hs.inj, A.hs.tb⟩
    · by_cases ha : a = d
      · subst ha
        rw [upd_same] at e
        cases e
        exact .inl hd
      · rw [upd_ne ha] at e
        exact now_keep (fun w z => kp.1 a w z fun aP => by rw [aP, FP] at e; cases e) (A.hs.sub a u e)
    · by_cases hn : n = j
      · subst hn
        rw [hS] at e
        cases e
        obtain ⟨ps1, h⟩ := hp
        refine ⟨.tbl ps1, by rw [hμ]; exact h, (n1 ps1 h).1, fun pos cv hcv => ?_⟩
        rcases (n1 ps1 h).2 pos cv hcv with ⟨p2, z⟩ | rfl
        · obtain ⟨c, h1, h2⟩ := e2.2 p2 cv z
          exact ⟨c, h1, sf _ _ h2⟩
        · exact ⟨d, rfl, upd_same⟩
      · obtain ⟨ho, z1, z2⟩ := A.hs.ce n o e
        exact ⟨ho, kp.1 _ _ z1 (fun z => hn (only n (List.getElem?_eq_some_iff.mp e).1 z)), z2.mono (Nat.le_refl _) (fun _ _ => rfl) sf⟩
  have P2 : ∀ L, Stp L S μ H F S μ H1 (upd F d (LamX.CodeO d qn)) := fun L =>
    { f := sf
      le := Nat.le_refl _
      mu := fun _ _ => rfl
      keep := fun b o e nb => kp.1 b o e fun z => nb j jl (by rw [hμ, z])
      nF := fun a o e q => by
        by_cases ha : a = d
        · subst ha
          rcases Fd with z | z
          · rw [z] at q
            cases q
          · exact z
        · rw [upd_ne ha, q] at e
          cases e
      nC := fun n h1 h2 => absurd h2 (Nat.not_lt.mpr h1)
      dom := kp.2
      cl := fun n _ o o' h1 h2 B hB => by
        rw [h1] at h2
        cases h2
        exact hB
      lk := fun n o e => ⟨e, fun u z => kp.1 _ _ z fun y => by
        have := only n (List.getElem?_eq_some_iff.mp e).1 y
        subst this
        rw [hS] at e
        cases e⟩ }
  exact ⟨A.hsof (P2 0) hs, P2⟩
end
end Mi

set_option Elab.async false
set_option linter.all false
set_option maxRecDepth 100000
set_option maxHeartbeats 4000000
/-! Lm2: x(lambda: e) in the small language -/
namespace Mi
open PySem PySem.Spec PyProof.Rows L2
/-- x(lambda: e), x a def whose body begins: v = None; try: a() except .. as n: v = n; the table of this def's lambdas stands at j -/
def Z.lamc (nT j : Nat) (qn : Str) (cs : List (Nat × Str)) (i1 j1 m : Nat) (rest : XB) (eL : XE) : XE := fun q fr S => match S[j]? with
  | some (.tbl P qq) => if P = q.fa nT ∧ qq = qn then match runD (Z.seq (Z.set j1 false (Z.k .non)) (Z.seq (Z.tryx (fun q2 _ S2 => eL q2 fr S2) cs i1 j1) rest)) m q [] S with
      | .ok d S1 => .ok d S1
      | _ => .no
    else .no
  | _ => .no
section
variable {X : Cx} {gi : GI} {k : Nat} {N : List Str} {sc : Scope}
theorem WR.frame {β : Type} {K : PySem.W.Frag} {er : ER} {W W2 : WX} {L : Nat} {fr fr2 : Frame} {σ σ2 : L2.St} {S : Store} {μ : Nat → Addr} {H F : Hp} {r : R β} {kk : β → Store → (Nat → Addr) → Hp → Hp → Prop} (w : WR K er W L fr σ S μ H F r kk) (A : Ab K fr S μ σ H F) (hw : ∀ cls d H', W cls d σ H' → W2 cls d σ2 H') : WR K er W2 L fr2 σ2 S μ H F r kk := by
  cases r with
  | no => exact w
  | ok b S1 => exact fun μ1 H1 F1 A1 P1 => w μ1 H1 F1 (A.hsof P1 A1.hs) P1
  | ex c x S1 => exact fun μ1 H1 F1 cls dx A1 P1 e => hw _ _ _ (w μ1 H1 F1 cls dx (A.hsof P1 A1.hs) P1 e)
theorem frame_back {m j1 : Nat} {y z : Option D} (h : j1 ≠ 0) : (((List.replicate m none : Frame).set 0 y).set j1 z).set 0 none = (List.replicate m none : Frame).set j1 z := by
  refine List.ext_getElem? fun i => ?_
  by_cases h0 : i = 0
  · subst h0
    by_cases hm : 0 < m
    · rw [List.getElem?_set_self (by rw [List.length_set, List.length_set, List.length_replicate]; exact hm), List.getElem?_set_ne h, List.getElem?_replicate, if_pos hm]
    · rw [List.getElem?_eq_none (by simp only [List.length_set, List.length_replicate]; omega), List.getElem?_eq_none (by simp only [List.length_set, List.length_replicate]; omega)]
  · rw [List.getElem?_set_ne (Ne.symm h0)]
    by_cases hj : i = j1
    · subst hj
      by_cases hm : i < m
      · rw [List.getElem?_set_self (by rw [List.length_set, List.length_replicate]; exact hm), List.getElem?_set_self (by rw [List.length_replicate]; exact hm)]
      · rw [List.getElem?_eq_none (by simp only [List.length_set, List.length_replicate]; omega), List.getElem?_eq_none (by simp only [List.length_set, List.length_replicate]; omega)]
    · rw [List.getElem?_set_ne (Ne.symm hj), List.getElem?_set_ne (Ne.symm h0), List.getElem?_set_ne (Ne.symm hj)]
/-- the lambda's own context -/
theorem Cok.lam (c : Cok X gi k N sc) {A : Around} {outer : List Env} {s : Shared} {H : Hp} {E : XK} {scope : Scope} {f d : Addr} (hg : A.guards = some []) (hr : Room (3 * k) (A.deeper (LamX.lamEnv X scope s.heap.objs.size f d))) : Cok (LamX.lamCx X A outer s H E scope f d) gi k N scope :=
  ⟨c.n, rfl, c.nd, rfl, hg, hr, c.bi, c.cs⟩
theorem sem_lam {x a n v mk qn : Str} {g cc : Addr} {fd : FuncData} {pg params : Arguments} {bg rest : List Stmt} {sg scope : Scope} {Ng : List Str} {body test : Expr} {nT j i1 j1 m jn : Nat} {cs : List (Nat × Str)} {eL : XE} {restb : XB} {p lpos pos pv0 pcn pa0 pc1 pc2 pe pv pn pa pc pt : Pos}
    (c : Cok X gi k N sc) (hr2 : Room (3 * k + 2) X.A) (hx : sc.names.lookup x = some .globalImplicit) (hm : X.mg x = some (.ref g)) (hk : PySem.W.keepIn X.K (.ref g) = true) (FD : FunD X.K x x pg bg sg [] [] g fd) (Sg : FnScope Ng [a] sg) (hN0 : Ng[0]? = some a) (hva : Vis sg a)
    (hcode : X.env.code = .ref cc) (TB : LamX.TabB X.base X.mg cc (tabF X.K mk)) (hts : (mk, nT) ∈ gi.ts) (hq : lamQ X = qn) (L : LamX.LamS sc scope) (hd : defaultsOf params X.env = ([], []))
    (hb : ∀ (q : Str) (cl : List (Str × Addr)) (pm cv ctv : Value), bindArgs (PySem.W.kla_fn "<lambda>" q params body scope cl pm cv ctv) ⟨[], []⟩ = pure []) (bd : ∀ (s : Shared) (u : Value), BindsTo s fd ⟨[u], []⟩ [(a, u)])
    (hbg : bg = .Assign [.Name v pv0] (.Constant .none jn pcn) pa0 :: .Try [.Expr (.Call (.Name a pc1) [] [] pc2) pe] [.ExceptHandler (some test) (some n) [.Assign [.Name v pv] (.Name n pn) pa] pc] [] [] pt :: rest)
    (hi : Ng[i1]? = some n) (hj : Ng[j1]? = some v) (hn : sg.names.lookup n = some .local) (hv : sg.names.lookup v = some .local) (hdn : (n == ("__debug__" : Str)) = false) (hcn : (n == ("__classdict__" : Str)) = false) (hj0 : j1 ≠ 0) (hml : Ng.length = m)
    (hdx : (x == ("__debug__" : Str)) = false) (hda : (a == ("__debug__" : Str)) = false) (hca : (a == ("__classdict__" : Str)) = false)
    (hcs : ∀ y ∈ cs, ∃ nm, XN.mk y.1 nm y.2 ∈ gi.xs) (htest : ∀ (Y : Cx) (q : Q) (er : ER), Cok Y gi k Ng sg → Lnk Y gi k er q → TestR Y test (cs.map fun y => .ref (q.fa y.1)))
    (hrest : ∀ Y, Cok Y gi k Ng sg → (∀ x, Y.fn x = true) → PassesOwn (model Y.prog Y.w) Y.A Y.env Y.xe → (Y.stack = Y.env :: Y.outer ∧ Y.env.frame = some Y.env.locals) → SemB Y gi k rest restb)
    (hlam : ∀ Y, Cok Y gi k N scope → SemE Y gi k body eL) : SemE X gi k (.Call (.Name x p) [.Lambda params body scope lpos] [] pos) (Z.lamc nT j qn cs i1 j1 m restb eL) := by
  intro er q lk W tk fr S μ σ H F A Q w
  unfold Z.lamc at w
  split at w
  case h_2 => exact w.elim
  rename_i P' qq hS
  split at w
  case isFalse => exact w.elim
  rename_i hP
  obtain ⟨rfl, hqq⟩ := hP
  rw [hqq] at hS
  clear hqq
  have hPf : tabF X.K mk = q.fa nT := lk.ta _ hts
  have jl := (List.getElem?_eq_some_iff.mp hS).1
  have hμ := A.hs.tb j _ _ hS
  have TS : LamX.TabS H (tabF X.K mk) (lamQ X) := by
    obtain ⟨ho, e1, e2⟩ := A.hs.ce j _ hS
    rw [hμ] at e1
    cases ho <;> first | exact e2.elim | skip
    rename_i ps
    have e2 : PySem.TriplesOk ps.toList ∧ ∀ (pos : Pos) (cv : Value), PySem.codeAmong pos ps.toList = some cv → ∃ c, cv = .ref c ∧ F c = some (LamX.CodeO c qn) := e2
    refine ⟨ps, by rw [hPf]; exact e1, e2.1, fun p2 cv hcv => ?_⟩
    obtain ⟨d, h1, h2⟩ := e2.2 p2 cv hcv
    exact ⟨d, h1, by rw [hq]; exact now_ex (A.hs.sub _ _ h2) fun _ z => by unfold LamX.CodeO at z; cases z⟩
  refine ⟨_, pe_lamX (k := 3 * k) (Ng := Ng) (a := a) (tb := fun E σ G Q => ∀ (A : Around) (outer : List Env) (s : Shared) (H : Hp) (f d : Addr), A.guards = some [] → Room (3 * k) (A.deeper (LamX.lamEnv X scope s.heap.objs.size f d)) → semE (LamX.lamCx X A outer s H E scope f d) body σ G Q)
    (c.gl hx) hm hk FD Sg hN0 hva TB hcode hr2 (by rw [c.s]; exact L) hd hb bd c.gd (fun A outer s H E f d gd r => ⟨fun pins s' σ H' Q I h => pe_sem.run pins s' σ H' Q I (h A outer s H f d gd r)⟩) hdx hda hca, TS, ?_⟩
  intro H1 f d kp hp nt nf co s1 cdg act
  rw [hq] at co
  rw [hPf] at kp hp nt
  obtain ⟨AM, PM⟩ := lam_state A hS kp hp nt co
  generalize hF1 : upd F d (LamX.CodeO d qn) = F1 at AM PM
  have Fd : F1 d = some (LamX.CodeO d qn) := by rw [← hF1]; exact upd_same
  let Y : Cx := cxOf (CX X.prog X.w) X.prog X.w X.K X.mg X.base Ng x sg g cdg X.A X.stack s1 H1 (fun _ _ _ => False)
  let q2 : Mi.Q := ⟨q.call, q.fa, S.length⟩
  let D0 : Ends := { nx := fun _ G => Q .non G, rt := Q }
  have cY : Cok Y gi k Ng sg := ⟨rfl, rfl, Sg.nd, rfl, c.gd, room_le (by omega) (Room.deeper (k := 3 * k + 1) hr2 _), c.bi, c.cs⟩
  have lkY : Lnk Y gi k er q2 := ⟨lk.df, lk.xo, lk.ta⟩
  have tkY : Takes Y noW := takes_no
  have A0 : Ab X.K ((List.replicate m none : Frame).set 0 (some (.t (.fn 0 f)))) S μ (L2.start Ng [.ref f]) H1 F1 := by
    have z := start_ab (vs := [.ref f]) (ds := [.t (.fn 0 f)]) (N := Ng) (n := m) AM.hs (.cons (.t (.fn 0 f)) .nil) hml
    have hl := (List.getElem?_eq_some_iff.mp hN0).1
    cases m with
    | zero => omega
    | succ m => exact z
  have wB : WS X.K er noW S.length S μ H1 F1 ((Z.seq (Z.set j1 false (Z.k .non)) (Z.seq (Z.tryx (fun q2 _ S2 => eL q2 fr S2) cs i1 j1) restb)) q2 (List.replicate m none) S) D0 := by
    unfold runD at w
    have w : WR X.K er W q.L fr σ S μ H F (match (match (Z.seq (Z.set j1 false (Z.k .non)) (Z.seq (Z.tryx (fun q2 _ S2 => eL q2 fr S2) cs i1 j1) restb)) q2 (List.replicate m none) S with
      | .ok (.nx, _) S1 => R.ok D.non (S1.take S.length)
      | .ok (.rt d, _) S1 => match mv 6 S1 S.length [] d with
        | some (e, _) => .ok e (S1.take S.length)
        | none => .no
      | .ok _ _ => .no
      | .no => .no
      | .ex c x S1 => .ex c x (S1.take S.length)) with
      | .ok d S1 => R.ok d S1
      | _ => .no) (KE X.K H Q) := w
    generalize (Z.seq (Z.set j1 false (Z.k .non)) (Z.seq (Z.tryx (fun q2 _ S2 => eL q2 fr S2) cs i1 j1) restb)) q2 (List.replicate m none) S = r at w ⊢
    have lt : ∀ {S1 : Store}, S.length ≤ S1.length → (S1.take S.length).length = S.length := fun h => by rw [List.length_take, Nat.min_eq_left h]
    cases r with
    | no => exact w
    | ex c' x' S1 => exact w.elim
    | ok pr S1 =>
      obtain ⟨fl, fr1⟩ := pr
      cases fl with
      | bk => exact w.elim
      | ct => exact w.elim
      | nx => exact fun σ1 μ1 H2 F2 A2 P2 => w μ1 H2 F2 (AM.hsof P2.take (AM.hs.takeS A2.hs P2)) ((PM S.length).trans P2.take).any .non [] (.c (.t .non)) .nil
      | rt dd =>
        intro σ1 μ1 H2 F2 A2 P2 v as r o
        dsimp only at w
        cases em : mv 6 S1 S.length [] dd with
        | none =>
          rw [em] at w
          exact w.elim
        | some pe3 =>
          obtain ⟨e3, sn⟩ := pe3
          rw [em] at w
          obtain ⟨as', r', nd', -, mem'⟩ := mv_ok 6 em A2.hs r o
          refine w μ1 H2 F2 (AM.hsof P2.take (AM.hs.takeS A2.hs P2)) ((PM S.length).trans P2.take).any v as' (by rw [lt P2.le]; exact r') ⟨nd', fun a ha => ?_⟩
          rcases mem' a ha with z | ⟨mm, _, _, hm1, hm2, rfl⟩
          · obtain ⟨z1, z2, z3⟩ := o.fr a z
            exact ⟨kp.2 _ z1, z2, fun j hj => z3 j (by rw [lt P2.le] at hj; exact Nat.lt_of_lt_of_le hj P2.le)⟩
          · refine ⟨kp.2 _ (P2.nC mm hm1 hm2), A2.hs.out mm hm2, fun j hj z => ?_⟩
            rw [lt P2.le] at hj
            have := A2.hs.inj j mm (Nat.lt_of_lt_of_le hj P2.le) hm2 z
            omega
  have wT : WS X.K er noW S.length S μ H1 F1 ((Z.seq (Z.tryx (fun q2 _ S2 => eL q2 fr S2) cs i1 j1) restb) q2 ((List.replicate m none : Frame).set j1 (some (.t .non))) S) D0 := by
    rw [show (Z.seq (Z.set j1 false (Z.k .non)) (Z.seq (Z.tryx (fun q2 _ S2 => eL q2 fr S2) cs i1 j1) restb)) q2 (List.replicate m none) S = _ from q_nx (s_setT (x := .non) z_k)] at wB
    exact wB
  have first : WS Y.K er noW q2.L S μ H1 F1 (Z.set j1 false (Z.k .non) q2 ((List.replicate m none : Frame).set 0 (some (.t (.fn 0 f)))) S) { D0 with nx := semSs Y (.Try [.Expr (.Call (.Name a pc1) [] [] pc2) pe] [.ExceptHandler (some test) (some n) [.Assign [.Name v pv] (.Name n pn) pa] pc] [] [] pt :: rest) D0 } := by
    rw [s_setT (x := .non) z_k]
    intro σ1 μ1 H2 F2 A2 P2
    have hσ : σ1[0]? = some (some (V.ref f)) := by
      have hl := (List.getElem?_eq_some_iff.mp hN0).1
      obtain ⟨v', e1, r⟩ := A2.sl 0 (.t (.fn 0 f)) (by rw [List.getElem?_set_ne hj0, List.getElem?_set_self (by rw [List.length_replicate]; omega)])
      cases r with
      | t r =>
        cases r
        exact e1
    have A3 := A2.forget 0
    rw [frame_back hj0] at A3
    have w3 : WS Y.K er noW q2.L S μ1 H2 F2 ((Z.seq (Z.tryx (fun q2 _ S2 => eL q2 fr S2) cs i1 j1) restb) q2 ((List.replicate m none : Frame).set j1 (some (.t .non))) S) D0 := wT.later P2
    obtain ⟨t2, ht2, hq2⟩ := try_core (X := Y) (gi := gi) (k := k) (f := fun q2 _ S2 => eL q2 fr S2) (D := { D0 with nx := semSs Y rest D0 }) (pv := pv) (pn := pn) (pa := pa) (pc := pc) (pos := pt) (pe := pe) cY ⟨rfl, rfl⟩ hi hj hn hv hdn hcn lkY hcs (htest Y q2 er cY lkY)
      (fun pn' xe W' Q' tk' w' => ⟨_, act W' pn' xe pc1 pc2 tk', hσ, (by rw [hq]; exact now_ex (A3.hs.sub _ _ (P2.f _ _ Fd)) fun _ z => by unfold LamX.CodeO at z; cases z), fun A4 outer s4 H4 f4 d4 gd r4 => hlam _ (c.lam gd r4) er q2 ⟨lk.df, lk.xo, lk.ta⟩ (fun cls dx _ G' => W' cls dx σ1 G') (takes_of rfl rfl rfl rfl) fr S μ1 σ H2 F2 (AM.hsof P2 A3.hs) Q' (w'.frame A3 fun _ _ _ z => z)⟩)
      (fun pn' xe => rfl) A3 (by
        have w4 : WS X.K er noW q2.L S μ1 H2 F2 ((Z.tryx (fun q2 _ S2 => eL q2 fr S2) cs i1 j1 q2 ((List.replicate m none : Frame).set j1 (some (.t .non))) S).bnd fun p S1 => match p.1 with
          | .nx => restb q2 p.2 S1
          | f => .ok (f, p.2) S1) D0 := w3
        show WS X.K er noW q2.L S μ1 H2 F2 _ _
        cases e : Z.tryx (fun q2 _ S2 => eL q2 fr S2) cs i1 j1 q2 ((List.replicate m none : Frame).set j1 (some (.t .non))) S with
        | no => rw [e] at w4; exact w4
        | ex c x S1 => rw [e] at w4; exact w4
        | ok p S1 =>
          rw [e] at w4
          obtain ⟨fl, fr1⟩ := p
          cases fl with
          | nx => exact fun σ5 μ5 H5 F5 A5 P5 => hrest Y cY (fun _ => rfl) PassesOwn.leaving ⟨rfl, rfl⟩ er q2 lkY _ tkY fr1 S1 μ5 σ5 H5 F5 A5 D0 (WS.later w4 P5)
          | bk => exact w4
          | ct => exact w4
          | rt d => exact w4)
    exact ⟨_, pss_cons ht2 pss_sem, hq2⟩
  obtain ⟨t1, ht1, hq1⟩ := (sems_set (X := Y) (gi := gi) (k := k) (i := j1) (m := false) (pp := pv0) (pos := pa0) (cY.nl (fun _ => rfl) hj (.inl hv)) sem_non rfl : SemS Y gi k (.Assign [.Name v pv0] (.Constant .none jn pcn) pa0) _) er q2 lkY _ tkY _ S μ _ H1 F1 A0 _ first
  subst hbg
  exact ⟨_, pss_cons ht1 pss_sem, hq1⟩
end
end Mi

set_option Elab.async false
set_option linter.all false
set_option maxRecDepth 100000
set_option maxHeartbeats 4000000
/-! Lm3: the end of a law in which lambdas are made; what the top leaves of their tables -/
namespace Mi
open PySem PySem.Spec PyProof.Rows L2
/-- the script and the tables alone may be tracked -/
def OnlyT (cs : List (Addr × Addr)) (H : Hp) : Prop := (∀ b, H b = none ∨ (∃ p ∈ cs, b = p.2) ∨ ∃ ob xs, H b = some (.frz ob (.lst xs))) ∧ ∀ p ∈ cs, H p.2 = some (.tbl #[])
section
variable {P : Program} {w : World} {K : PySem.W.Frag} {mg mb : Str → Option Value} {k : Nat} {fa a : Addr} {fd : FuncData} {x : Str} {sp : Sp} {s1 : Shared} {vs : List Value} {ns : List Int} {cs : List (Addr × Addr)}
theorem call_coreT {H : Hp} (kx : K.In s1.heap) (gl : s1.heap.Ns mainGlobals mg) (bl : s1.heap.Ns builtinsNs mb) (bb : ∀ x : Str, x ≠ "__name__" → mb x = bootBuiltins x) (lim : s1.heap.NoLimit) (hg : s1.gens = #[])
    (hT : ∀ p ∈ cs, s1.heap.get? p.2 = some { cls := .none, data := .fields #[] }) (nT : ∀ p ∈ cs, K.lookup p.2 = none) (hC : ∀ p ∈ cs, PySem.W.CodeHd s1.heap p.1 p.2)
    (bm : ∃ (bm : Addr) (ob : Obj), mg "__builtins__" = some (.ref bm) ∧ bm ≠ builtinsNs ∧ s1.heap.get? bm = some ob ∧ ob.cls = .type "module" ∧ ob.dict = some builtinsNs ∧ ob.data = .plain)
    (ha : s1.heap.get? a = some { cls := .type "list", data := .seq vs.toArray }) (hr : Room k callerA) (F : ∀ base : Heap, K.In base → base.Ns mainGlobals mg → (∀ p ∈ cs, LamX.TabB base mg p.1 p.2) → FnG P w K mg base (CX P w) k fa fd [x] sp) (bd : ∀ (s : Shared) (u : Value), BindsTo s fd ⟨[u], []⟩ [(x, u)])
    (hO : OnlyT cs H) (hp : sp [.ref a] H (fun v _ => v = .bl true) fun _ _ _ => False) (ok : HOk P w H s1.heap) (only : ∀ b, H b ≠ none → b = a ∨ ∃ p ∈ cs, b = p.2) (hK : H a ≠ none → K.lookup a = none) :
    codeAny (model P w) callerA (.call (.ref fa) ⟨[.ref a], []⟩) (fun r s' => r = .ok (.ret (.bool true)) ∧ OldK s1.heap s'.heap ∧ s'.os = s1.os ∧ AllBare s'.gens) s1 := by
  -- neither a list nor an empty table: not tracked
  have plain : ∀ {b : Addr} {o : Obj}, s1.heap.get? b = some o → (∀ us n, o.data ≠ .seq us n) → o.data ≠ .fields #[] → H b = none := by
    intro b o e n1 n2
    cases q : H b with
    | none => rfl
    | some u =>
      rcases only b (by rw [q]; intro z; cases z) with rfl | ⟨p, hp, rfl⟩
      · rw [ha] at e
        cases e
        exact absurd rfl (n1 _ _)
      · rw [hT p hp] at e
        cases e
        exact absurd rfl n2
  have ns_ : ∀ {b : Addr} {m : Str → Option Value}, s1.heap.Ns b m → (hidT s1.heap H).Ns b m := by
    rintro b m ⟨o, es, ep, e, d, r⟩
    exact ⟨o, es, ep, hidT_get e (plain e (by rw [d]; intro _ _ z; cases z) (by rw [d]; intro z; cases z)), d, r⟩
  have kin : K.In (hidT s1.heap H) := by
    intro b o e
    refine hidT_get (kx b o e) ?_
    cases q : H b with
    | none => rfl
    | some u =>
      have nn : H b ≠ none := by rw [q]; intro z; cases z
      rcases only b nn with rfl | ⟨p, hp, rfl⟩
      · rw [hK nn] at e
        cases e
      · rw [nT p hp] at e
        cases e
  obtain ⟨mc, l1, l2⟩ := lim
  have M : Mod K mg (hidT s1.heap H) := { kin := kin, glob := ns_ gl, blt := ⟨mb, ns_ bl, bb⟩, nolimit := ⟨mc, ns_ l1, l2⟩ }
  have tabs : ∀ p ∈ cs, LamX.TabB (hidT s1.heap H) mg p.1 p.2 := by
    intro p hp
    have e0 := hT p hp
    constructor
    · obtain ⟨o, us, fl, tf, fg, tg, inF, tx, tt, e1, r1, r2, r3, rest⟩ := hC p hp
      refine ⟨o, us, fl, tf, fg, tg, inF, tx, tt, hidT_get e1 (plain e1 (by rw [r2]; intro _ _ z; cases z) (by
        rw [r2]
        intro z
        cases z
        cases r3)), r1, r2, r3, rest⟩
    · obtain ⟨b, ob, b1, b2, b3, b4, b5, b6⟩ := bm
      refine ⟨b, ob, b1, b2, fun z => ?_, fun z => ?_, hidT_get b3 (plain b3 (by rw [b6]; intro _ _ z; cases z) (by rw [b6]; intro z; cases z)), b4, b5, b6⟩
      · obtain ⟨o, es, ep, e, d, _⟩ := gl
        rw [z, e] at b3
        cases b3
        rw [d] at b6
        cases b6
      · rw [z, e0] at b3
        cases b3
        cases b6
    · intro z
      obtain ⟨o, es, ep, e, d, _⟩ := gl
      rw [z, e0] at e
      cases e
      cases d
  have e0 : Env0 P w K mg (hidT s1.heap H) callerA [] s1 H :=
    { frames := rfl, mod := M, bs := fun b o e => of_hidT e, bsz := Nat.le_of_eq (hidT_size _ _), funs := trivial, frf := (fun b hb => by cases hb), hok := ok, bare := .of_eq hg }
  have run := (F _ kin (ns_ gl) tabs).go callerA [] s1 H ⟨[.ref a], []⟩ [.ref a] [.ref a] _ _ rfl hr e0 (bd s1 (.ref a)) (.cons rfl .nil) hp
  refine codeAny_mono run ?_
  rintro (e | fl) s' h
  · obtain ⟨_, _, _, _, _, _, _, _, _, _, _, _, h⟩ := h
    exact h.elim
  cases fl with
  | next => exact h.elim
  | brk => exact h.elim
  | cont => exact h.elim
  | ret u =>
    obtain ⟨v, H', os, bare, un, ok', rv, q⟩ := h
    have ev : v = .bl true := q
    subst ev
    have eu : u = Value.bool true := rv
    subst eu
    have same : ∀ b o, (¬ ∃ p ∈ cs, b = p.2) → s1.heap.get? b = some o → s'.heap.get? b = some o := by
      intro b o nb e
      cases q1 : H b with
      | none => exact un.keep b o e q1 (fun z => by cases z) (fun z => by cases z)
      | some u =>
        rcases hO.1 b with z | z | ⟨ob, xs, z⟩
        · rw [q1] at z
          cases z
        · exact absurd z nb
        · obtain ⟨y1, _⟩ := ok b _ z
          obtain ⟨y2, _⟩ := ok' b _ (un.frzs b ob _ z)
          rw [e] at y1
          cases y1
          exact y2
    have more : ∀ p ∈ cs, ∃ us : Array Value, s'.heap.get? p.2 = some { cls := .none, data := .fields us } := fun p hp => by
      obtain ⟨us, z⟩ := un.tbls p.2 #[] (hO.2 p hp)
      exact ⟨_, ok' p.2 _ z⟩
    refine ⟨rfl, ⟨fun b o e => ?_, fun b o e => ?_⟩, os, bare⟩
    · by_cases hb : ∃ p ∈ cs, b = p.2
      · obtain ⟨p, hp, rfl⟩ := hb
        obtain ⟨us, hm⟩ := more p hp
        rw [hT p hp] at e
        cases e
        exact .inr (.inl ⟨((hC p hp).tab (hT p hp)).isCodeTable, rfl, #[], us, rfl, by rw [Array.empty_append]; exact hm⟩)
      · exact .inl (same b o hb e)
    · by_cases hb : ∃ p ∈ cs, b = p.2
      · obtain ⟨p, hp, rfl⟩ := hb
        obtain ⟨us, hm⟩ := more p hp
        exact ⟨_, hm⟩
      · exact ⟨o, same b o hb e⟩
theorem law_callT (kx : K.In s1.heap) (gl : s1.heap.Ns mainGlobals mg) (bl : s1.heap.Ns builtinsNs mb) (bb : ∀ x : Str, x ≠ "__name__" → mb x = bootBuiltins x) (lim : s1.heap.NoLimit) (hg : s1.gens = #[])
    (hT : ∀ p ∈ cs, s1.heap.get? p.2 = some { cls := .none, data := .fields #[] }) (nT : ∀ p ∈ cs, K.lookup p.2 = none) (hC : ∀ p ∈ cs, PySem.W.CodeHd s1.heap p.1 p.2)
    (bm : ∃ (bm : Addr) (ob : Obj), mg "__builtins__" = some (.ref bm) ∧ bm ≠ builtinsNs ∧ s1.heap.get? bm = some ob ∧ ob.cls = .type "module" ∧ ob.dict = some builtinsNs ∧ ob.data = .plain)
    (ha : s1.heap.get? a = some { cls := .type "list", data := .seq vs.toArray }) (hi : IntsAre vs ns) (hl : ns.length ≤ sizeLine) (hr : Room k callerA) (F : ∀ base : Heap, K.In base → base.Ns mainGlobals mg → (∀ p ∈ cs, LamX.TabB base mg p.1 p.2) → FnG P w K mg base (CX P w) k fa fd [x] sp) (bd : ∀ (s : Shared) (u : Value), BindsTo s fd ⟨[u], []⟩ [(x, u)])
    (hp : ∀ H : Hp, OnlyT cs H → SqL K H a (ns.map V.int) → sp [.ref a] H (fun v _ => v = .bl true) fun _ _ _ => False) :
    codeAny (model P w) callerA (.call (.ref fa) ⟨[.ref a], []⟩) (fun r s' => r = .ok (.ret (.bool true)) ∧ OldK s1.heap s'.heap ∧ s'.os = s1.os ∧ AllBare s'.gens) s1 := by
  have lv := hi.length
  have aT : ∀ p ∈ cs, a ≠ p.2 := fun p hp z => by
    have := hT p hp
    rw [← z, ha] at this
    cases this
  let G : Hp := fun b => if cs.any (fun p => b == p.2) = true then some (.tbl #[]) else none
  have inG : ∀ b, cs.any (fun p => b == p.2) = true ↔ ∃ p ∈ cs, b = p.2 := fun b => by
    rw [List.any_eq_true]
    constructor
    · rintro ⟨p, hp, e⟩
      exact ⟨p, hp, beq_iff_eq.mp e⟩
    · rintro ⟨p, hp, e⟩
      exact ⟨p, hp, beq_iff_eq.mpr e⟩
  have Gy : ∀ p ∈ cs, G p.2 = some (.tbl #[]) := fun p hp => if_pos ((inG _).mpr ⟨p, hp, rfl⟩)
  have Gn : ∀ b, (¬ ∃ p ∈ cs, b = p.2) → G b = none := fun b nb => if_neg fun z => nb ((inG b).mp z)
  have Ga : G a = none := Gn a fun ⟨p, hp, z⟩ => aT p hp z
  cases hk : K.lookup a with
  | some o =>
    have e := kx a o hk
    rw [ha] at e
    cases e
    have on : OnlyT cs G := ⟨fun b => by
      by_cases hb : ∃ p ∈ cs, b = p.2
      · exact .inr (.inl hb)
      · exact .inl (Gn b hb), Gy⟩
    have sq : SqL K G a (ns.map V.int) := .inr ⟨_, vs.toArray, _, hk, rfl, rfl, rfl, by rw [List.size_toArray, lv]; exact hl, by simpa using vals_ints hi⟩
    refine call_coreT kx gl bl bb lim hg hT nT hC bm ha hr F bd on (hp _ on sq) (fun b u z => ?_) (fun b z => ?_) fun z => absurd Ga z
    · by_cases hb : ∃ p ∈ cs, b = p.2
      · obtain ⟨p, hp, rfl⟩ := hb
        rw [Gy p hp] at z
        cases z
        exact hT p hp
      · rw [Gn b hb] at z
        cases z
    · by_cases hb : ∃ p ∈ cs, b = p.2
      · exact .inr hb
      · exact absurd (Gn b hb) z
  | none =>
    generalize eo : ({ cls := .type "list", data := .seq vs.toArray } : Obj) = ob at ha
    let H : Hp := fun b => if b = a then some (.frz ob (.lst (ns.map V.int))) else G b
    have Ha : H a = some (.frz ob (.lst (ns.map V.int))) := if_pos rfl
    have Hn : ∀ b, b ≠ a → H b = G b := fun b z => if_neg z
    have on : OnlyT cs H := ⟨fun b => by
      by_cases z : b = a
      · exact .inr (.inr ⟨_, _, by rw [z]; exact Ha⟩)
      · by_cases hb : ∃ p ∈ cs, b = p.2
        · exact .inr (.inl hb)
        · exact .inl ((Hn b z).trans (Gn b hb)), fun p hp => (Hn _ (fun z => aT p hp z.symm)).trans (Gy p hp)⟩
    have only : ∀ b, H b ≠ none → b = a ∨ ∃ p ∈ cs, b = p.2 := by
      intro b z
      by_cases y : b = a
      · exact .inl y
      · by_cases hb : ∃ p ∈ cs, b = p.2
        · exact .inr hb
        · exact absurd ((Hn b y).trans (Gn b hb)) z
    refine call_coreT (H := H) kx gl bl bb lim hg hT nT hC bm (by rw [eo]; exact ha) hr F bd on (hp H on (.inl (.inr ⟨_, Ha⟩))) ?_ only fun _ => hk
    intro b u z
    by_cases y : b = a
    · subst y
      rw [Ha] at z
      cases z
      refine ⟨ha, by rw [List.length_map]; exact hl, vs, 0, vals_ints hi, ?_⟩
      rw [eo]
      exact ha
    · rw [Hn b y] at z
      by_cases hb : ∃ p ∈ cs, b = p.2
      · obtain ⟨p, hp, rfl⟩ := hb
        rw [Gy p hp] at z
        cases z
        exact hT p hp
      · rw [Gn b hb] at z
        cases z
end
/-- the goal that the head leaves, with tables -/
theorem walk_T {l : PySem.W.OpenLaw} {n k : Nat} {q : Program} {loose : List Str} {XP : (Str → Option Value) → Heap → Prop} {YP : World → Heap → Prop} {d : DefRec} {x : Str} (hn : l.most = some n) (hn2 : n ≤ sizeLine) (hdf : d.params.defaults = []) (hr : Room k callerA)
    (F : ∀ (w : World) (mg : Str → Option Value) (fa : Addr) (h : Heap), YP w h → h.Ns mainGlobals mg → mg d.name = some (.ref fa) → ∃ (K : PySem.W.Frag) (fd : FuncData) (cs : List (Addr × Addr)) (sp : Sp), K.In h ∧ (∀ p ∈ cs, h.get? p.2 = some { cls := .none, data := .fields #[] }) ∧ (∀ p ∈ cs, K.lookup p.2 = none) ∧ (∀ p ∈ cs, PySem.W.CodeHd h p.1 p.2) ∧ (∀ (s : Shared) (u : Value), BindsTo s fd ⟨[u], []⟩ [(x, u)]) ∧
      (∀ (H : Hp) (a : Addr) (ns : List Int), ns.length ≤ n → OnlyT cs H → SqL K H a (ns.map V.int) → sp [.ref a] H (fun v _ => v = .bl true) fun _ _ _ => False) ∧ ∀ base : Heap, K.In base → base.Ns mainGlobals mg → (∀ p ∈ cs, LamX.TabB base mg p.1 p.2) → FnG l.prog w K mg base (CX l.prog w) k fa fd [x] sp) :
    PySem.W.WalkO q loose XP YP l.row.toRowW d [] (fun f vs => PySem.call f vs) := by
  apply Att.attach_call hn hdf
  intro w s0 s1 mg mb fa o pm cd doc a vs ns G Y ho hd hcd hmg hobj hints hlen hg
  obtain ⟨K, fd, cs, sp, kx, hT, nT, hC, bd, hp, hF⟩ := F w mg fa _ Y G.T.g hmg
  exact law_callT kx G.T.g G.T.b G.T.builtins G.T.nolimit hg hT nT hC G.T.bmain hobj hints (Nat.le_trans hlen hn2) hr hF bd fun H hO hS => hp H a ns hlen hO hS
/-- the store at the law's start: the tables -/
abbrev tabS (ts : List (Addr × Str)) : Store := ts.map fun t => Ob.tbl t.1 t.2
theorem law_spT {K : PySem.W.Frag} {er : ER} {prog : List Def} {fa : Nat → Addr} {k n : Nat} {cs : List (Addr × Addr)} {ts : List (Addr × Str)} {S1 : Store} (H : Hp) (a : Addr) (ns : List Int) (hO : OnlyT cs H) (hS : SqL K H a (ns.map V.int)) (hts : ts.map (·.1) = cs.map (·.2)) (nd : (ts.map (·.1)).Nodup) (h : callD prog fa k n [.t (.scr ns)] (tabS ts) = .ok (.bl true) S1) :
    spC K er (callD prog fa k n) 1 [.ref a] H (fun v _ => v = .bl true) fun _ _ _ => False := by
  let F : Hp := fun b => match H b with
    | some (.tbl _) => none
    | u => u
  let μ : Nat → Addr := fun n => ((ts.map (·.1))[n]?).getD 0
  have at_ : ∀ n o, (tabS ts)[n]? = some o → ∃ t, ts[n]? = some t ∧ o = .tbl t.1 t.2 ∧ μ n = t.1 ∧ H t.1 = some (.tbl #[]) := fun n o e => by
    rw [List.getElem?_map] at e
    cases ht : ts[n]? with
    | none =>
      rw [ht] at e
      cases e
    | some t =>
      rw [ht] at e
      cases e
      refine ⟨t, rfl, rfl, ?_, ?_⟩
      · show ((ts.map (·.1))[n]?).getD 0 = _
        rw [List.getElem?_map, ht]
        rfl
      · have hm : t.1 ∈ ts.map (·.1) := List.mem_map.mpr ⟨t, List.mem_of_getElem? ht, rfl⟩
        rw [hts] at hm
        obtain ⟨p, hp, e⟩ := List.mem_map.mp hm
        rw [← e]
        exact hO.2 p hp
  have hs : Hs K (tabS ts) μ H F := by
    refine ⟨fun b u e => .inl ?_, fun n o e => ?_, fun n hn => ?_, fun n m hn hm e => ?_, fun n P q e => ?_⟩
    · have e : (match H b with
        | some (.tbl _) => none
        | u => u) = some u := e
      split at e
      · cases e
      · exact e
    · obtain ⟨t, h1, rfl, h3, h4⟩ := at_ n o e
      refine ⟨.tbl #[], by rw [h3]; exact h4, True.intro, fun pos cv hc => ?_⟩
      have z : codeAmong pos [] = some cv := hc
      simp [codeAmong] at z
    · obtain ⟨t, h1, _, h3, h4⟩ := at_ n _ (List.getElem?_eq_getElem hn)
      show (match H (μ n) with
        | some (.tbl _) => none
        | u => u) = none
      rw [h3, h4]
    · have hn' : n < (ts.map (·.1)).length := by rw [List.length_map] at hn ⊢; exact hn
      have hm' : m < (ts.map (·.1)).length := by rw [List.length_map] at hm ⊢; exact hm
      have e : ((ts.map (·.1))[n]?).getD 0 = ((ts.map (·.1))[m]?).getD 0 := e
      rw [List.getElem?_eq_getElem hn', List.getElem?_eq_getElem hm'] at e
      exact (List.getElem_inj nd).mp e
    · obtain ⟨t, h1, h2, h3, h4⟩ := at_ n _ e
      cases h2
      exact h3
  have go : Rep K (At F) (.ref a) (.scr ns) → spC K er (callD prog fa k n) 1 [.ref a] H (fun v _ => v = .bl true) fun _ _ _ => False := fun r => by
    refine ⟨rfl, [.t (.scr ns)], tabS ts, μ, F, hs, .cons (.t r) .nil, ?_⟩
    rw [h]
    intro v μ' H' F' as _ _ _ r _
    exact rep_bl (repT r).1
  rcases hS with (h | ⟨o, h⟩) | h
  · rcases hO.1 a with z | ⟨p, hp, z⟩ | ⟨o, xs, z⟩
    · rw [z] at h
      cases h
    · rw [z, hO.2 p hp] at h
      cases h
    · rw [z] at h
      cases h
  · exact go (.scr (.inl ⟨o, by
      show (match H a with
        | some (.tbl _) => none
        | u => u) = _
      rw [h]⟩))
  · exact go (.scr (.inr fun _ => .inr h))
end Mi

set_option Elab.async false
set_option linter.all false
set_option maxRecDepth 100000
set_option maxHeartbeats 4000000
/-! Lm4: the hook with error classes and tables; what a maker of lambdas is handed -/
namespace Mi
open PySem PySem.W PySem.Calls PyProof.Rows PySem.HandSPX PySem.Spec
abbrev AlY : Type := AlX × Bool
/-- the tables: empty, not in K, no two the same -/
def tabY (g : Addr → Option Obj) (tf : List He.Defn) (K : Frag) : Bool := He.tabsB g tf K && decide ((tf.map fun p => (He.cT K p).2).Nodup)
def obsYG (n : Nat) (fa : List He.Fa) (fn : List He.DefD) (xs : List XD) (file : Str) (tf : List He.Defn) (g : Addr → Option Obj) : AlY := (obsX fa fn xs file (He.frT g (cStatics :: He.asD g n)), tabY g tf (He.frT g (cStatics :: He.asD g n)))
structure SaysY (fa : List He.Fa) (fn : List He.DefD) (xs : List XD) (file : Str) (tf : List He.Defn) (h : Heap) (K : Frag) : Prop where
  x : SaysX fa fn xs file K
  hd : ∀ p ∈ tf, codeHdIn K (He.cT K p).1 (He.cT K p).2 = true
  out : ∀ p ∈ tf, K.lookup (He.cT K p).2 = none
  empty : ∀ p ∈ tf, h.get? (He.cT K p).2 = some { cls := .none, data := .fields #[] }
  nd : (tf.map fun p => (He.cT K p).2).Nodup
theorem saysY_of {n : Nat} {fa : List He.Fa} {fn : List He.DefD} {xs : List XD} {file : Str} {tf : List He.Defn} {h : Heap} (e : obsYG n fa fn xs file tf h.get? = (valX fn xs, true)) : SaysY fa fn xs file tf h (He.frT h.get? (cStatics :: He.asD h.get? n)) := by
  have e1 : obsX fa fn xs file (He.frT h.get? (cStatics :: He.asD h.get? n)) = valX fn xs := congrArg Prod.fst e
  have e2 : tabY h.get? tf (He.frT h.get? (cStatics :: He.asD h.get? n)) = true := congrArg Prod.snd e
  unfold tabY at e2
  obtain ⟨e3, e4⟩ := He.ba e2
  generalize hK : He.frT h.get? (cStatics :: He.asD h.get? n) = K at e1 e3 e4 ⊢
  have each : ∀ p ∈ tf, codeHdIn K (He.cT K p).1 (He.cT K p).2 = true ∧ ∃ o, h.get? (He.cT K p).2 = some o ∧ He.emptyTab o = true := fun p hp => by
    obtain ⟨z1, z2⟩ := He.ba (List.all_eq_true.mp e3 p hp)
    refine ⟨z1, ?_⟩
    split at z2
    · rename_i o ho
      exact ⟨o, ho, z2⟩
    · cases z2
  refine ⟨e1, fun p hp => (each p hp).1, fun p hp => ?_, fun p hp => ?_, of_decide_eq_true e4⟩
  · obtain ⟨_, o, a1, a2⟩ := each p hp
    rw [← hK] at a1 ⊢
    exact He.frT_none a1 a2
  · obtain ⟨_, o, a1, a2⟩ := each p hp
    rw [a1, He.emptyTab_eq a2]
def hookY (n : Nat) (fa : List He.Fa) (fn : List He.DefD) (xs : List XD) (file : Str) (tf : List He.Defn) : Hook where
  α := AlY
  obs := fun s => obsYG n fa fn xs file tf s.heap.get?
  val := fun _ => (valX fn xs, true)
  says := fun _ h => ∃ K : Frag, K.In h ∧ SaysY fa fn xs file tf h K
  of := fun _ _ e => ⟨_, He.frT_in, saysY_of e⟩
  keeps := fun _ _ _ ⟨K, hK, c⟩ k => ⟨K, Frag.In.keeps hK k, ⟨c.x, c.hd, c.out, fun p hp => k _ _ (c.empty p hp), c.nd⟩⟩
theorem obsYG_eq {n : Nat} {fa : List He.Fa} {fn : List He.DefD} {xs : List XD} {file : Str} {tf : List He.Defn} {g : Addr → Option Obj} {s : Shared} (h : ∀ a, g a = s.heap.get? a) : obsYG n fa fn xs file tf g = (hookY n fa fn xs file tf).obs s := by
  have e : g = s.heap.get? := funext h
  rw [e] <;> rfl
/-- a def's code object -/
theorem code_of {K : Frag} {x qual : Str} {params : Arguments} {body : List Stmt} {scope : Scope} {dvs : List L2.V} {kws : List (Str × L2.V)} {fd : FuncData} {p : He.Defn} (F : L2.FunD K x qual params body scope dvs kws (He.fAd K p) fd) : fd.code = .ref (He.cT K p).1 := by
  obtain ⟨oc, od, dV, kV, doc, pm, an, cdv, ct, osl, rfl, lk, hcd, -, -⟩ := F.ex
  obtain ⟨c, rfl⟩ := He.codeIn_ref hcd
  exact congrArg Value.ref (He.codeOf_eq lk rfl).symm
open L2 in
section
variable {Y : Cx} {gi : GI} {k : Nat} {N : List Str} {sc : Scope} {er : ER} {q : Mi.Q}
theorem test1 {nm : Str} {y : Nat × Str} {pt : Pos} (c : Cok Y gi k N sc) (lk : Lnk Y gi k er q) (h : XN.mk y.1 nm y.2 ∈ gi.xs) (hg : sc.names.lookup nm = some .globalImplicit) (hd : (nm == ("__debug__" : Str)) = false) : TestR Y (.Name nm pt) ([y].map fun z => .ref (q.fa z.1)) := by
  obtain ⟨fI, T, hm⟩ := lk.xo.own _ h
  exact test_one (c.gl hg) hd hm
theorem test2 {nm nm2 : Str} {y z : Nat × Str} {j : Nat} {pt pt2 pt3 : Pos} (c : Cok Y gi k N sc) (lk : Lnk Y gi k er q) (h : XN.mk y.1 nm y.2 ∈ gi.xs) (hg : sc.names.lookup nm = some .globalImplicit) (hd : (nm == ("__debug__" : Str)) = false) (h2 : XN.mk z.1 nm2 z.2 ∈ gi.xs) (hg2 : sc.names.lookup nm2 = some .globalImplicit) (hd2 : (nm2 == ("__debug__" : Str)) = false) :
    TestR Y (.Tuple [.Name nm pt, .Name nm2 pt2] j pt3) ([y, z].map fun u => .ref (q.fa u.1)) := by
  obtain ⟨fI, T, hm⟩ := lk.xo.own _ h
  obtain ⟨fI2, T2, hm2⟩ := lk.xo.own _ h2
  exact test_two (c.gl hg) hd hm (c.gl hg2) hd2 hm2
end
/-- what a maker of lambdas is handed: its code object and its table -/
structure MkD (X : L2.Cx) (k : Nat) (mk qn : Str) : Prop where
  rm : L2.Room (3 * k + 2) X.A
  tb : ∃ cc, X.env.code = .ref cc ∧ LamX.TabB X.base X.mg cc (tabF X.K mk)
  q : lamQ X = qn
theorem mkd_of {X : L2.Cx} {P : Program} {w : World} {K : Frag} {mg : Str → Option Value} {base : Heap} {k : Nat} {mk qual qn : Str} {fd : FuncData} (m : Mk X P w K mg base k qual fd) (hc : fd.code = .ref (He.cT K (mk, none)).1) (tb : LamX.TabB base mg (He.cT K (mk, none)).1 (He.cT K (mk, none)).2) (hq : qual ++ ".<locals>." ++ "<lambda>" = qn) : MkD X k mk qn := by
  refine ⟨m.rm, ⟨_, m.code.trans hc, ?_⟩, ?_⟩
  · rw [m.base, m.mg, m.K]
    exact tb
  · show X.env.qual ++ "<lambda>" = qn
    rw [m.qual, hq]
/-- the def that a lambda is handed to -/
structure KtD (X : L2.Cx) (x : Str) (pg : Arguments) (bg : List Stmt) (sg : Scope) : Prop where
  ex : ∃ g fd, L2.FunD X.K x x pg bg sg [] [] g fd ∧ X.mg x = some (.ref g) ∧ keepIn X.K (.ref g) = true
theorem ktd_of {X : L2.Cx} {P : Program} {w : World} {K : Frag} {mg : Str → Option Value} {base : Heap} {k : Nat} {x qual : Str} {pg : Arguments} {bg : List Stmt} {sg : Scope} {fd fd2 : FuncData} {g : Addr} (m : Mk X P w K mg base k qual fd) (F : L2.FunD K x x pg bg sg [] [] g fd2) (e : mg x = some (.ref g)) : KtD X x pg bg sg :=
  ⟨g, fd2, by rw [m.K]; exact F, by rw [m.mg]; exact e, by rw [m.K]; exact F.kp⟩
open L2 in
theorem sem_lamK {X : Cx} {gi : GI} {k : Nat} {N : List Str} {sc : Scope} {x a n v mk qn : Str} {pg params : Arguments} {bg rest : List Stmt} {sg scope : Scope} {Ng : List Str} {body test : Expr} {nT j i1 j1 m jn : Nat} {cs : List (Nat × Str)} {eL : XE} {restb : XB} {p lpos pos pv0 pcn pa0 pc1 pc2 pe pv pn pa pc pt : Pos}
    (c : Cok X gi k N sc) (hM : MkD X k mk qn) (hK : KtD X x pg bg sg) (hx : sc.names.lookup x = some .globalImplicit) (Sg : FnScope Ng [a] sg) (hN0 : Ng[0]? = some a) (hva : Vis sg a)
    (hts : (mk, nT) ∈ gi.ts) (L : LamX.LamS sc scope) (hd : defaultsOf params X.env = ([], []))
    (hb : ∀ (q : Str) (cl : List (Str × Addr)) (pm cv ctv : Value), bindArgs (PySem.W.kla_fn "<lambda>" q params body scope cl pm cv ctv) ⟨[], []⟩ = pure []) (bd : ∀ (g : Addr) (fd : FuncData), FunD X.K x x pg bg sg [] [] g fd → ∀ (s : Shared) (u : Value), BindsTo s fd ⟨[u], []⟩ [(a, u)])
    (hbg : bg = .Assign [.Name v pv0] (.Constant .none jn pcn) pa0 :: .Try [.Expr (.Call (.Name a pc1) [] [] pc2) pe] [.ExceptHandler (some test) (some n) [.Assign [.Name v pv] (.Name n pn) pa] pc] [] [] pt :: rest)
    (hi : Ng[i1]? = some n) (hj : Ng[j1]? = some v) (hn : sg.names.lookup n = some .local) (hv : sg.names.lookup v = some .local) (hdn : (n == ("__debug__" : Str)) = false) (hcn : (n == ("__classdict__" : Str)) = false) (hj0 : j1 ≠ 0) (hml : Ng.length = m)
    (hdx : (x == ("__debug__" : Str)) = false) (hda : (a == ("__debug__" : Str)) = false) (hca : (a == ("__classdict__" : Str)) = false)
    (hcs : ∀ y ∈ cs, ∃ nm, XN.mk y.1 nm y.2 ∈ gi.xs) (htest : ∀ (Y : Cx) (q : Mi.Q) (er : ER), Cok Y gi k Ng sg → Lnk Y gi k er q → TestR Y test (cs.map fun y => .ref (q.fa y.1)))
    (hrest : ∀ Y, Cok Y gi k Ng sg → (∀ x, Y.fn x = true) → PassesOwn (model Y.prog Y.w) Y.A Y.env Y.xe → (Y.stack = Y.env :: Y.outer ∧ Y.env.frame = some Y.env.locals) → SemB Y gi k rest restb)
    (hlam : ∀ Y, Cok Y gi k N scope → SemE Y gi k body eL) : SemE X gi k (.Call (.Name x p) [.Lambda params body scope lpos] [] pos) (Z.lamc nT j qn cs i1 j1 m restb eL) := by
  obtain ⟨cc, h1, h2⟩ := hM.tb
  obtain ⟨g, fd, F, e1, e2⟩ := hK.ex
  exact sem_lam c hM.rm hx e1 e2 F Sg hN0 hva h1 h2 hts hM.q L hd hb (bd g fd F) hbg hi hj hn hv hdn hcn hj0 hml hdx hda hca hcs htest hrest hlam
theorem bd_one {K : Frag} {x qual a : Str} {pg : Arguments} {bg : List Stmt} {sg : Scope} {g : Addr} {fd : FuncData} (F : L2.FunD K x qual pg bg sg [] [] g fd) (b : ∀ (s : Shared) (us : List Value), us.length = [a].length → BindsTo s fd ⟨us, []⟩ ([a].zip us)) (s : Shared) (u : Value) : BindsTo s fd ⟨[u], []⟩ [(a, u)] := b s [u] rfl
end Mi

set_option Elab.async false
set_option linter.all false
set_option maxRecDepth 100000
set_option maxHeartbeats 4000000
/-! Lm5: the script + a list -/
namespace Mi
open PySem PySem.Spec PyProof.Rows L2
/-- two lists, whatever stands in their slots -/
theorem cat_any (l b : Addr) (its its2 : Array Value) (n n2 : Nat) (sl sl2 : Array (Option Value)) (hz : its.size + its2.size ≤ sizeLine) :
    Meets (Builtin.«list.__add__» ⟨[.ref l, .ref b], []⟩) (fun _ R s => s.heap.get? l = some ⟨.type "list", none, .seq its n, sl⟩ ∧ s.heap.get? b = some ⟨.type "list", none, .seq its2 n2, sl2⟩ ∧
      R (.ok (.ret (Value.ref s.heap.objs.size))) { s with heap := s.heap.push { cls := Value.type "list", data := Data.seq (its ++ its2) }, toks := s.toks }) := by
  apply Meets.of_wp
  rintro prog w A R ⟨hp, g, d, tk, os⟩ ⟨e1, e2, h⟩
  have z2 := F.sub_tuple_tuple
  have z3 := F.sub_list_list
  have z4 := F.sub_tuple_list
  have z5 := F.sub_list_tuple
  wp_walk using wpAny_loadPart' e1, wpAny_loadPart' e2
  exact ⟨_, rfl, h⟩
theorem op_catS {X : Cx} : OpR X (binaryOp .Add) (fun x y H Q => ∃ a b xs zs, x = .ref a ∧ y = .ref b ∧ SqL X.K H a xs ∧ SqL X.K H b zs ∧ xs.length + zs.length ≤ sizeLine ∧ ∀ p, H p = none → Q (.ref p) (upd H p (.lst (xs ++ zs)))) := by
  intro pins s σ H x y v u Q I rx ry ⟨a, b, xs, zs, e1, e2, ha, hb, hz, q⟩
  subst e1 e2
  cases rx
  cases ry
  obtain ⟨its, r1, pl1, l1⟩ := I.list ha
  obtain ⟨its2, r2, pl2, l2⟩ := I.list hb
  obtain ⟨o1, n1, g1, c1, d1, k1⟩ := pl1
  obtain ⟨o2, n2, g2, c2, d2, k2⟩ := pl2
  obtain ⟨cl1, di1, da1, sl1⟩ := o1
  obtain ⟨cl2, di2, da2, sl2⟩ := o2
  dsimp only at c1 d1 k1 c2 d2 k2
  subst c1 c2
  subst d1 d2
  subst k1 k2
  refine concat_meets ⟨_, g1, rfl⟩ ⟨_, g2, rfl⟩ noFill_list_add seq_list_add F.slot_list_add F.entry_list_add (F.args_list_add_2 _ _) (cat_any a b its.toArray its2.toArray n1 n2 sl1 sl2 (by rw [List.size_toArray, List.size_toArray, ← r1.length, ← r2.length]; exact hz)) ⟨g1, g2, ?_⟩
  rw [show its.toArray ++ its2.toArray = (its ++ its2).toArray by simp]
  exact ⟨.ref _, _, I.lnew (t' := s.toks) (r1.append r2) (by rw [List.length_append]; exact hz), rfl, q _ I.fresh⟩
/-- x + y, x the script or a list -/
def Z.adds (f g : XE) : XE := fun q fr S => (f q fr S).bnd fun x S1 => (g q fr S1).bnd fun y S2 => match sqS S2 x with
  | some a => match sq S2 y with
    | some b => if a.length + b.length ≤ okL then .ok (.new (a ++ b)) S2 else .no
    | none => .no
  | none => .no
section
variable {X : Cx} {gi : GI} {k : Nat} {a b : Expr} {f g : XE} {pos : Pos}
theorem sem_adds (h1 : SemE X gi k a f) (h2 : SemE X gi k b g) : SemE X gi k (.BinOp a .Add b pos) (Z.adds f g) := by
  intro er q lk W tk fr S μ σ H F A Q w
  refine ⟨_, pe_op op_catS pe_sem pe_sem, tOp_go (D1 := fun x y S2 => match sqS S2 x with
    | some a => match sq S2 y with
      | some b => if a.length + b.length ≤ okL then .ok (.new (a ++ b)) S2 else .no
      | none => .no
    | none => .no) h1 h2 lk tk A w ?_⟩
  intro S2 μ2 H2 F2 x y v u as bs A1 P1 r1 r2 o w1
  split at w1
  · rename_i xs e1
    split at w1
    · rename_i ys e2
      split at w1
      · rename_i hl
        obtain ⟨p, vs, rfl, g1, q1⟩ := sqS_rep A1.hs r1 e1
        obtain ⟨p', ws, rfl, g2, q2⟩ := sq_rep A1.hs r2 e2
        refine ⟨p, p', vs, ws, rfl, rfl, g1, SqL.of g2, ?_, fun c hc => giveN w1 A1 P1 hc (q1.append q2)⟩
        rw [q1.length, q2.length]
        exact line_ok hl
      · exact w1.elim
    · exact w1.elim
  · exact w1.elim
end
end Mi

set_option Elab.async false
set_option linter.all false
set_option maxRecDepth 100000
set_option maxHeartbeats 4000000
/-! Lm6: a, b, c = a list -/
namespace Mi
open PySem PySem.Spec PyProof.Rows L2
def lstD (S : Store) : Mi.D → Option (List Mi.D)
  | .t (.lst xs) => some (xs.map D.t)
  | .cell n => match rd S n with
    | some (.lst xs) => some (xs.map D.t)
    | some (.lsto ds) => some ds
    | _ => none
  | _ => none
/-- a, b, .. = e, a list -/
def Z.settl (is : List Nat) (m : Bool) (f : XE) : XB := fun q fr S => (f q fr S).bnd fun d S1 => match Z.stD m d S1 with
  | some (e, S2) => match lstD S2 e with
    | some ds => match asgs is ds fr with
      | some fr2 => .ok (.nx, fr2) S2
      | none => .no
    | none => .no
  | none => .no
section
variable {X : Cx} {gi : GI} {k : Nat} {K : PySem.W.Frag} {S : Store} {μ : Nat → Addr} {H F : Hp} {e : Expr} {f : XE} {ts : List Expr} {pos tpos : Pos}
theorem lstD_rep {d : Mi.D} {v : V} {ds : List Mi.D} (A : Hs K S μ H F) (r : RepC K S.length μ F v d) (e : lstD S d = some ds) : ∃ a vs, v = .ref a ∧ H a = some (.lst vs) ∧ RepCs K S.length μ F vs ds := by
  have toC : ∀ {vs : List V} {xs : List T}, RepL K (At F) vs xs → RepCs K S.length μ F vs (xs.map D.t) := by
    intro vs xs r
    induction xs generalizing vs with
    | nil => cases r; exact .nil
    | cons x xs ih =>
      cases r with
      | cons h t => exact .cons (.t h) (ih t)
  cases r with
  | t r =>
    rename_i y
    cases y with
    | lst ys =>
      cases e
      obtain ⟨a, vs, rfl, h1, h2⟩ := rep_lst r
      exact ⟨a, vs, rfl, now_lst (A.sub _ _ h1), toC h2⟩
    | _ => cases e
  | cell hn =>
    unfold lstD at e
    simp only at e
    split at e
    · rename_i ys q
      cases e
      obtain ⟨u, _, hu, ho, h1, h2⟩ := rd_cell A q
      cases u with
      | lst zs =>
        cases hu
        cases ho <;> first | exact h2.elim | exact ⟨_, _, rfl, h1, toC h2⟩
      | lck o =>
        cases hu
        cases ho <;> first | exact h2.elim | exact ⟨_, _, rfl, h1, toC h2⟩
      | _ => cases hu
    · rename_i ys q
      cases e
      obtain ⟨u, _, hu, ho, h1, h2⟩ := rd_cell A q
      cases u with
      | lsto zs =>
        cases hu
        cases ho <;> first | exact h2.elim | exact ⟨_, _, rfl, h1, h2⟩
      | lck o =>
        cases hu
        cases ho <;> first | exact h2.elim | exact ⟨_, _, rfl, h1, h2⟩
      | _ => cases hu
    · cases e
theorem sems_settl {is : List Nat} {m : Bool} {j : Nat} (hc : X.calm = true) (hg : SemGs X ts is) (hn : (assignEach ts X.env).length = is.length) (hst : (assignEach ts X.env).findIdx? (·.1) = none) (h1 : SemE X gi k e f) (hs : swapsWithSole [.Tuple ts j tpos] e pos.line X.env = pure false) (hw : swappedStores [.Tuple ts j tpos] e X.env = pure none)
    (ha : (assignEach [.Tuple ts j tpos] X.env).map (·.2) = [assign (.Tuple ts j tpos) X.env]) : SemS X gi k (.Assign [.Tuple ts j tpos] e pos) (Z.settl is m f) := by
  intro er q lk W tk fr S μ σ H F A D w
  refine ⟨_, ps_asg pe_sem (pg_unl hc pgs_sem rfl hst) hs hw ha, h1.run lk tk A w fun d S1 μ1 H1 F1 v as A1 P1 r1 o1 w1 => ?_⟩
  split at w1
  · rename_i d' S2 e1
    obtain ⟨μ2, F2, A2, P2, r2⟩ := std_ok A1 P1 r1 o1 e1
    split at w1
    · rename_i ds e2
      split at w1
      · rename_i fr2 e3
        obtain ⟨a, vs, rfl, g1, g2⟩ := lstD_rep A2.hs r2 e2
        have hl : vs.length = (assignEach ts X.env).length := by rw [hn, asgs_len e3, g2.length]
        exact ⟨a, vs, rfl, SqL.of g1, hl, hg A2 g2 e3 _ fun σ' A3 _ => w1 σ' μ2 H1 F2 A3 P2⟩
      · exact w1.elim
    · exact w1.elim
  · exact w1.elim
end
end Mi

set_option Elab.async false
set_option linter.all false
set_option maxRecDepth 100000
set_option maxHeartbeats 4000000
/-! Rd: repr of data with dicts in it -/
namespace Mi
open PySem PySem.Spec PyProof.Rows L2
def kPy : Key → PyData
  | .inl i => .int i
  | .inr x => .str x
mutual
def T.dy : T → PyData
  | .non => .none
  | .bl b => .bool b
  | .int i => .int i
  | .str x => .str x
  | .lst xs => .list (T.dys xs)
  | .tup xs => .tuple (T.dys xs)
  | .dic kvs => .dict (T.dyk kvs)
  | .fn _ _ => .none
  | .set _ => .none
  | .scr _ => .none
  | .exc _ _ _ _ => .none
def T.dys : List T → List PyData
  | [] => []
  | d :: ds => d.dy :: T.dys ds
def T.dyk : List (Key × T) → List (PyData × PyData)
  | [] => []
  | (k, d) :: r => (kPy k, d.dy) :: T.dyk r
end
def kOk : Key → Bool
  | .inl i => decide (i.natAbs.log2 < 1920)
  | .inr x => decide ((reprText x).length ≤ 10000)
mutual
def T.okd : T → Bool
  | .non => true
  | .bl _ => true
  | .int i => decide (i.natAbs.log2 < 1920)
  | .str x => decide ((reprText x).length ≤ 10000)
  | .lst xs => T.okds xs
  | .tup xs => T.okds xs
  | .dic kvs => T.okdk kvs
  | .fn _ _ => false
  | .set _ => false
  | .scr _ => false
  | .exc _ _ _ _ => false
def T.okds : List T → Bool
  | [] => true
  | d :: ds => d.okd && T.okds ds
def T.okdk : List (Key × T) → Bool
  | [] => true
  | (k, d) :: r => kOk k && d.okd && T.okdk r
end
mutual
/-- no longer than this when shown -/
def T.wd : T → Nat
  | .non => 4
  | .bl _ => 5
  | .int _ => 1921
  | .str _ => 10000
  | .lst xs => 2 + T.wds xs
  | .tup xs => 3 + T.wds xs
  | .dic kvs => 2 + T.wdk kvs
  | .fn _ _ => 0
  | .set _ => 0
  | .scr _ => 0
  | .exc _ _ _ _ => 0
def T.wds : List T → Nat
  | [] => 0
  | d :: ds => d.wd + 2 + T.wds ds
def T.wdk : List (Key × T) → Nat
  | [] => 0
  | (_, d) :: r => 10004 + d.wd + T.wdk r
end
mutual
def T.dd : T → Nat
  | .lst xs => T.dds xs + 1
  | .tup xs => T.dds xs + 1
  | .dic kvs => T.ddk kvs + 1
  | _ => 0
def T.dds : List T → Nat
  | [] => 0
  | d :: ds => max d.dd (T.dds ds)
def T.ddk : List (Key × T) → Nat
  | [] => 0
  | (_, d) :: r => max d.dd (T.ddk r)
end
def T.showd (d : T) : Str := d.dy.shown
theorem join_piled (ts : List Str) : (Str.join ", " ts).length ≤ piled ts := by
  by_cases e : ts = []
  · subst e
    decide
  · have := join_length_add ts e
    omega
theorem kPy_ok {k : Key} (h : kOk k = true) : (kPy k).showable = true ∧ (kPy k).depth = 0 ∧ (kPy k).shown.length ≤ 10000 := by
  cases k with
  | inl i =>
    have h := of_decide_eq_true h
    refine ⟨?_, ?_, ?_⟩
    · show (PyData.int i).showable = true
      simp [PyData.showable, h]
    · show (PyData.int i).depth = 0
      simp [PyData.depth]
    · show (PyData.int i).shown.length ≤ 10000
      simp only [PyData.shown]
      exact Nat.le_trans (PyProof.Rows.int_text_len_1921 h) (by decide)
  | inr x =>
    have h := of_decide_eq_true h
    refine ⟨?_, ?_, ?_⟩
    · show (PyData.str x).showable = true
      simp [PyData.showable]
    · show (PyData.str x).depth = 0
      simp [PyData.depth]
    · show (PyData.str x).shown.length ≤ 10000
      simp only [PyData.shown]
      exact h
mutual
theorem okd_show : ∀ {d : T}, d.okd = true → d.dy.depth = d.dd ∧ d.dy.shown.length ≤ d.wd
  | .non, _ => by
    unfold T.dy T.dd T.wd
    exact ⟨by simp [PyData.depth], by simp only [PyData.shown]; decide⟩
  | .bl b, _ => by
    unfold T.dy T.dd T.wd
    refine ⟨by simp [PyData.depth], ?_⟩
    simp only [PyData.shown]
    cases b <;> decide
  | .int i, o => by
    unfold T.okd at o
    have h := of_decide_eq_true o
    unfold T.dy T.dd T.wd
    refine ⟨by simp [PyData.depth], ?_⟩
    simp only [PyData.shown]
    exact PyProof.Rows.int_text_len_1921 h
  | .str x, o => by
    unfold T.okd at o
    have h := of_decide_eq_true o
    unfold T.dy T.dd T.wd
    refine ⟨by simp [PyData.depth], ?_⟩
    simp only [PyData.shown]
    exact h
  | .lst ds, o => by
    unfold T.okd at o
    obtain ⟨h4, h5⟩ := okds_show o
    unfold T.dy T.dd T.wd
    refine ⟨by simp only [PyData.depth, h4], ?_⟩
    simp only [PyData.shown]
    have e : (listText (PyData.shownAll (T.dys ds))).length = (textFrom 0 "[" (PyData.shownAll (T.dys ds))).length + 1 := by
      unfold listText
      rw [strLen_append]
      rfl
    have := from_len (PyData.shownAll (T.dys ds)) 0 "["
    have e2 : ((("[" : String) : Str)).length = 1 := by decide
    omega
  | .tup ds, o => by
    unfold T.okd at o
    obtain ⟨h4, h5⟩ := okds_show o
    unfold T.dy T.dd T.wd
    refine ⟨by simp only [PyData.depth, h4], ?_⟩
    simp only [PyData.shown]
    have j := join_piled (PyData.shownAll (T.dys ds))
    have e1 : ((("(" : String) : Str)).length = 1 := by decide
    have e2 : (((if (PyData.shownAll (T.dys ds)).length == 1 then ",)" else ")" : String) : Str)).length ≤ 2 := by
      split <;> decide
    unfold tupleText
    rw [strLen_append, strLen_append]
    omega
  | .dic kvs, o => by
    unfold T.okd at o
    obtain ⟨h4, h5⟩ := okdk_show o
    unfold T.dy T.dd T.wd
    refine ⟨by simp only [PyData.depth, h4], ?_⟩
    simp only [PyData.shown]
    have j := join_piled (PyData.shownKv (T.dyk kvs))
    have e1 : ((("{" : String) : Str)).length = 1 := by decide
    have e2 : ((("}" : String) : Str)).length = 1 := by decide
    unfold dictText
    rw [strLen_append, strLen_append]
    omega
  | .fn _ _, o => by unfold T.okd at o; cases o
  | .set _, o => by unfold T.okd at o; cases o
  | .scr _, o => by unfold T.okd at o; cases o
  | .exc _ _ _ _, o => by unfold T.okd at o; cases o
theorem okds_show : ∀ {ds : List T}, T.okds ds = true → PyData.depthAll (T.dys ds) = T.dds ds ∧ piled (PyData.shownAll (T.dys ds)) ≤ T.wds ds
  | [], _ => by
    unfold T.dys T.dds T.wds
    exact ⟨by simp [PyData.depthAll], by simp [PyData.shownAll, piled]⟩
  | d :: ds, o => by
    unfold T.okds at o
    rw [Bool.and_eq_true] at o
    obtain ⟨h4, h5⟩ := okd_show o.1
    obtain ⟨k4, k5⟩ := okds_show o.2
    unfold T.dys T.dds T.wds
    refine ⟨by simp only [PyData.depthAll, h4, k4], ?_⟩
    simp only [PyData.shownAll]
    rw [piled_cons]
    omega
theorem okdk_show : ∀ {r : List (Key × T)}, T.okdk r = true → PyData.depthKv (T.dyk r) = T.ddk r ∧ piled (PyData.shownKv (T.dyk r)) ≤ T.wdk r
  | [], _ => by
    unfold T.dyk T.ddk T.wdk
    exact ⟨by simp [PyData.depthKv], by simp [PyData.shownKv, piled]⟩
  | (k, d) :: r, o => by
    unfold T.okdk at o
    rw [Bool.and_eq_true, Bool.and_eq_true] at o
    obtain ⟨h4, h5⟩ := okd_show o.1.2
    obtain ⟨k4, k5⟩ := okdk_show o.2
    obtain ⟨_, p2, p3⟩ := kPy_ok o.1.1
    unfold T.dyk T.ddk T.wdk
    refine ⟨by simp only [PyData.depthKv, h4, k4, p2, Nat.zero_max], ?_⟩
    simp only [PyData.shownKv]
    have e1 : (((": " : String) : Str)).length = 2 := by decide
    rw [piled_cons, strLen_append, strLen_append]
    omega
end
end Mi

set_option Elab.async false
set_option linter.all false
set_option maxRecDepth 100000
set_option maxHeartbeats 4000000
/-! Rd2: repr of data with dicts: as it stands in the heap -/
namespace Mi
open PySem PySem.Spec PyProof.Rows L2
section
variable {X : Cx} {pins : List (Addr × Obj)} {σ : L2.St} {H : Hp} {s : Shared}
/-- what is shown of one thing: it reads, no address again in it -/
structure Sh1 (X : Cx) (h : Heap) (u : Value) (d : T) (as bs : List Addr) : Prop where
  rd : Reads h u d.dy as
  am : ReadAtMost h d.dy.depth bs
  rk : ReprK X.prog X.w bs h d.dy.depth u d.dy.shown
structure ShL (X : Cx) (h : Heap) (us : List Value) (ds : List T) (as bs : List Addr) : Prop where
  rd : ReadsAll h us (T.dys ds) as
  am : ReadAtMost h (PyData.depthAll (T.dys ds)) bs
  rk : ReprAllK X.prog X.w bs h (PyData.depthAll (T.dys ds)) us (PyData.shownAll (T.dys ds))
structure ShK (X : Cx) (h : Heap) (es : List DictEntry) (r : List (Key × T)) (as bs : List Addr) : Prop where
  rdk : ReadsAll h (es.map (·.key)) ((T.dyk r).map (·.1)) []
  rdv : ReadsAll h (es.map (·.val)) ((T.dyk r).map (·.2)) as
  am : ReadAtMost h (PyData.depthKv (T.dyk r)) bs
  rk : ReprEntriesK X.prog X.w bs h (PyData.depthKv (T.dyk r)) es (PyData.shownKv (T.dyk r))
theorem entries_le {prog : Program} {w : World} {as cs : List Addr} {h : Heap} {d e : Nat} (hs : ∀ b ∈ as, b ∈ cs) (hd : d ≤ e) : ∀ {es : List DictEntry} {ps : List Str}, ReprEntriesK prog w as h d es ps → ReprEntriesK prog w cs h e es ps
  | _, _, .nil => .nil
  | _, _, .cons a b r => .cons ((a.more hs).level_le hd) ((b.more hs).level_le hd) (entries_le hs hd r)
theorem wd_le {d : T} (o : d.okd = true) (h : d.wd ≤ 16000000) : d.dy.shown.length ≤ sizeLine := Nat.le_trans (okd_show o).2 (Nat.le_trans h (by decide))
theorem key_rk {prog : Program} {w : World} {h : Heap} {k : Key} {key : Value} (hk : keyIs k key = true) (o : kOk k = true) : Reads h key (kPy k) [] ∧ ReprK prog w [] h 0 key (kPy k).shown := by
  obtain ⟨o1, o2, o3⟩ := kPy_ok o
  rcases keyIs_shape hk with ⟨i, t, rfl, rfl⟩ | ⟨x, t, rfl, rfl⟩
  · refine ⟨Reads.int i t, ?_⟩
    show ReprK prog w [] h 0 (.int i t) (PyData.int i).shown
    simp only [PyData.shown]
    have o1 : (PyData.int i).showable = true := o1
    exact .of_is (ReprIs.int t (by simpa [PyData.showable] using o1)) _ _ _
  · refine ⟨Reads.str x t, ?_⟩
    show ReprK prog w [] h 0 (.str x t) (PyData.str x).shown
    have o3 : (PyData.str x).shown.length ≤ 10000 := o3
    simp only [PyData.shown] at o3 ⊢
    exact .of_is (ReprIs.str x t (Nat.le_trans o3 (by decide))) _ _ _
theorem none_am {h : Heap} {n : Nat} : ReadAtMost h n [] := fun _ z => nomatch z
mutual
theorem sh_T (I : Inv X pins σ H s) : ∀ (d : T) (v : V) (u : Value), d.okd = true → d.wd ≤ 16000000 → Rep X.K (Now H) v d → RelV v u → ∃ as bs, Sh1 X s.heap u d as bs
  | .non, _, _, _, _, h, r => by
    cases h
    cases r
    refine ⟨[], [], ?_, ?_, ?_⟩
    · unfold T.dy
      exact Reads.none
    · exact none_am
    · unfold T.dy
      simp only [PyData.shown]
      exact .of_is ReprIs.none _ _ _
  | .bl b, _, _, _, _, h, r => by
    cases h
    cases r
    refine ⟨[], [], ?_, ?_, ?_⟩
    · unfold T.dy
      exact Reads.bool b
    · exact none_am
    · unfold T.dy
      simp only [PyData.shown]
      exact .of_is (ReprIs.bool b) _ _ _
  | .int i, _, _, o, _, h, r => by
    cases h
    obtain ⟨t, rfl⟩ := r
    unfold T.okd at o
    have o := of_decide_eq_true o
    refine ⟨[], [], ?_, ?_, ?_⟩
    · unfold T.dy
      exact Reads.int i t
    · exact none_am
    · unfold T.dy
      simp only [PyData.shown]
      exact .of_is (ReprIs.int t o) _ _ _
  | .str x, _, _, o, _, h, r => by
    cases h
    obtain ⟨t, rfl⟩ := r
    unfold T.okd at o
    have o := of_decide_eq_true o
    refine ⟨[], [], ?_, ?_, ?_⟩
    · unfold T.dy
      exact Reads.str x t
    · exact none_am
    · unfold T.dy
      simp only [PyData.shown]
      exact .of_is (ReprIs.str x t (Nat.le_trans o (by decide))) _ _ _
  | .lst ds, _, _, o, z, h, r => by
    cases h with
    | lst h1 h2 =>
      cases r
      rename_i a xs
      have o : T.okds ds = true := by unfold T.okd at o; exact o
      unfold T.wd at z
      obtain ⟨its, rv, ⟨ob, n, ho, hc, _, hd⟩, _⟩ := I.list (sqL_rd h1)
      obtain ⟨as, bs, w⟩ := sh_Ts I ds _ its o (by omega) h2 rv
      have rr : Reads s.heap (.ref a) (.list (T.dys ds)) (a :: as) := Reads.list ho hc hd w.rd
      have na : a ∉ bs := not_mem_of_deeper rr (by simp only [PyData.depth]; omega) w.am
      refine ⟨a :: as, a :: bs, ?_, ?_, ?_⟩
      · unfold T.dy
        exact rr
      · unfold T.dy
        exact ReadAtMost.cons rr (by simp only [PyData.depth]; omega) w.am
      · unfold T.dy
        simp only [PyData.shown, PyData.depth]
        cases its with
        | nil =>
          have e : PyData.shownAll (T.dys ds) = [] := by
            have := w.rk.length_eq
            exact List.length_eq_zero_iff.mp this
          rw [e, listText_nil]
          exact ReprK.listEmpty ho hc hd
        | cons y l => exact ReprK.list ho hc hd na (by simpa using w.rk.length_eq) fun i q e => w.rk.item i q (by simpa using e)
  | .tup ds, _, _, o, z, h, r => by
    cases h with
    | tup h1 h2 =>
      cases r
      rename_i a xs
      have o : T.okds ds = true := by unfold T.okd at o; exact o
      unfold T.wd at z
      obtain ⟨its, rv, ⟨ob, ho, hc, n, hd⟩, _⟩ := I.tuple (sqT_rd h1)
      obtain ⟨as, bs, w⟩ := sh_Ts I ds _ its o (by omega) h2 rv
      have rr : Reads s.heap (.ref a) (.tuple (T.dys ds)) as := Reads.tuple ho hc hd w.rd
      have na : a ∉ bs := not_mem_of_deeper rr (by simp only [PyData.depth]; omega) w.am
      refine ⟨as, a :: bs, ?_, ?_, ?_⟩
      · unfold T.dy
        exact rr
      · unfold T.dy
        exact ReadAtMost.cons rr (by simp only [PyData.depth]; omega) w.am
      · unfold T.dy
        simp only [PyData.shown, PyData.depth]
        exact ReprK.tuple ho hc hd na (by simpa using w.rk)
  | .dic kvs, _, _, o, z, h, r => by
    cases h with
    | dic h1 h2 =>
      cases r
      rename_i a xs
      have o : T.okdk kvs = true := by unfold T.okd at o; exact o
      unfold T.wd at z
      obtain ⟨_, hsm, vs, kv, ob, es, ep, ho, hx, hd, _, hp, _⟩ := dk_rd I.hok (now_rd h1)
      obtain ⟨as, bs, w⟩ := sh_Tk I kvs _ _ es.toList o (by omega) h2 kv hp
      have rr : Reads s.heap (.ref a) (.dict (T.dyk kvs)) (a :: [] ++ as) := Reads.dict ho hx.1 hd w.rdk w.rdv
      have na : a ∉ bs := not_mem_of_deeper rr (by simp only [PyData.depth]; omega) w.am
      refine ⟨a :: [] ++ as, a :: bs, ?_, ?_, ?_⟩
      · unfold T.dy
        exact rr
      · unfold T.dy
        exact ReadAtMost.cons rr (by simp only [PyData.depth]; omega) w.am
      · unfold T.dy
        simp only [PyData.shown, PyData.depth]
        exact ReprK.dict ho hx.1 hd hsm na w.rk
  | .fn _ _, _, _, o, _, _, _ => by unfold T.okd at o; cases o
  | .set _, _, _, o, _, _, _ => by unfold T.okd at o; cases o
  | .scr _, _, _, o, _, _, _ => by unfold T.okd at o; cases o
  | .exc _ _ _ _, _, _, o, _, _, _ => by unfold T.okd at o; cases o
theorem sh_Ts (I : Inv X pins σ H s) : ∀ (ds : List T) (vs : List V) (us : List Value), T.okds ds = true → T.wds ds ≤ 16000000 → RepL X.K (Now H) vs ds → Vals vs us → ∃ as bs, ShL X s.heap us ds as bs
  | [], _, _, _, _, h, r => by
    cases h
    cases r
    refine ⟨[], [], ?_, none_am, ?_⟩
    · unfold T.dys
      exact ReadsAll.nil
    · unfold T.dys
      simp only [PyData.shownAll]
      exact .nil
  | d :: ds, _, _, o, z, h, r => by
    unfold T.okds at o
    rw [Bool.and_eq_true] at o
    unfold T.wds at z
    cases h with
    | cons h1 h2 =>
      cases r with
      | cons r1 r2 =>
        obtain ⟨as1, bs1, w1⟩ := sh_T I d _ _ o.1 (by omega) h1 r1
        obtain ⟨as2, bs2, w2⟩ := sh_Ts I ds _ _ o.2 (by omega) h2 r2
        refine ⟨as1 ++ as2, bs1 ++ bs2, ?_, ?_, ?_⟩
        · unfold T.dys
          exact ReadsAll.cons w1.rd w2.rd
        · unfold T.dys
          simp only [PyData.depthAll]
          exact (w1.am.mono (Nat.le_max_left _ _)).append (w2.am.mono (Nat.le_max_right _ _))
        · unfold T.dys
          simp only [PyData.depthAll, PyData.shownAll]
          exact .cons ((w1.rk.more fun b hb => List.mem_append_left _ hb).level_le (Nat.le_max_left _ _)) (w2.rk.more_le (fun b hb => List.mem_append_right _ hb) (Nat.le_max_right _ _))
theorem sh_Tk (I : Inv X pins σ H s) : ∀ (r : List (Key × T)) (xs : List (Key × V)) (vs : List (Key × Value)) (es : List DictEntry), T.okdk r = true → T.wdk r ≤ 16000000 → RepK X.K (Now H) xs r → KV xs vs → Pairs (mixKind X.prog X.w) es vs → ∃ as bs, ShK X s.heap es r as bs
  | [], _, _, _, _, _, h, kv, p => by
    cases h
    cases kv
    cases p
    refine ⟨[], [], ?_, ?_, none_am, ?_⟩
    · unfold T.dyk
      exact ReadsAll.nil
    · unfold T.dyk
      exact ReadsAll.nil
    · unfold T.dyk
      simp only [PyData.shownKv]
      exact .nil
  | (k, d) :: r, _, _, _, o, z, h, kv, p => by
    unfold T.okdk at o
    rw [Bool.and_eq_true, Bool.and_eq_true] at o
    unfold T.wdk at z
    cases h with
    | cons h1 h2 =>
      cases kv with
      | cons q1 q2 =>
        cases p with
        | cons p1 p2 p3 =>
          rename_i v0 vs0 kv1 vs1 e0 es0
          obtain ⟨q1a, q1b⟩ := q1
          have hk : keyIs k e0.key = true := by
            have z1 : k = kv1.1 := q1a
            rw [z1]
            exact p1
          obtain ⟨rk1, rk2⟩ := key_rk (prog := X.prog) (w := X.w) (h := s.heap) hk o.1.1
          obtain ⟨as1, bs1, w1⟩ := sh_T I d _ e0.val o.1.2 (by omega) h1 (by rw [p2]; exact q1b)
          obtain ⟨as2, bs2, w2⟩ := sh_Tk I r _ _ _ o.2 (by omega) h2 q2 p3
          have dk := (kPy_ok o.1.1).2.1
          refine ⟨as1 ++ as2, bs1 ++ bs2, ?_, ?_, ?_, ?_⟩
          · unfold T.dyk
            exact ReadsAll.cons rk1 w2.rdk
          · unfold T.dyk
            exact ReadsAll.cons w1.rd w2.rdv
          · unfold T.dyk
            simp only [PyData.depthKv]
            exact (w1.am.mono (by omega)).append (w2.am.mono (by omega))
          · unfold T.dyk
            simp only [PyData.depthKv, PyData.shownKv]
            exact .cons ((rk2.more fun b hb => nomatch hb).level_le (Nat.zero_le _)) ((w1.rk.more fun b hb => List.mem_append_left _ hb).level_le (by omega)) (entries_le (fun b hb => List.mem_append_right _ hb) (by omega) w2.rk)
end
end
end Mi

set_option Elab.async false
set_option linter.all false
set_option maxRecDepth 100000
set_option maxHeartbeats 4000000
/-! Rd3: repr(e), e with dicts -/
namespace Mi
open PySem PySem.Spec PyProof.Rows L2
section
variable {X : Cx} {pins : List (Addr × Obj)} {σ : L2.St} {H : Hp} {s : Shared}
theorem repr_top (I : Inv X pins σ H s) {d : T} {v : V} {u : Value} {Q : VK} (o : d.okd = true) (z : d.wd ≤ 16000000) (dp : d.dd ≤ 60) (rp : Rep X.K (Now H) v d) (rv : L2.RelV v u) (hg : X.A.guards = some []) (hu : X.A.units + 64 < cLine) (q : Q (.str d.showd) H) :
    wpAny (model X.prog X.w) X.A (call (.builtin "repr") [u]) (EP X pins σ Q) X.xe s := by
  have dep := (okd_show o).1
  have sz := wd_le o z
  unfold T.showd at q
  cases d with
  | non =>
    rw [rep_non rp] at rv
    cases rv
    unfold T.dy at q
    exact P.repr_of_none ⟨.str _, H, I.tok _, ⟨_, rfl⟩, by simpa only [PyData.shown] using q⟩
  | bl b =>
    rw [rep_bl rp] at rv
    cases rv
    unfold T.dy at q
    exact P.repr_of_bool ⟨.str _, H, I.tok _, ⟨_, rfl⟩, by simpa only [PyData.shown] using q⟩
  | int i =>
    rw [rep_int rp] at rv
    obtain ⟨t, rfl⟩ := rv
    unfold T.okd at o
    unfold T.dy at q
    exact P.repr_of_int (of_decide_eq_true o) ⟨.str _, H, I.tok _, ⟨_, rfl⟩, by simpa only [PyData.shown] using q⟩
  | str x =>
    rw [rep_str rp] at rv
    obtain ⟨t, rfl⟩ := rv
    unfold T.dy at q sz
    refine P.repr_of_str ⟨.str _, H, I.tok _, ⟨_, rfl⟩, by simpa only [PyData.shown] using q⟩ (by simpa only [PyData.shown] using sz)
  | lst ds =>
    obtain ⟨a, xs, rfl, h1, h2⟩ := rep_lst rp
    cases rv
    have o : T.okds ds = true := by unfold T.okd at o; exact o
    unfold T.wd at z
    unfold T.dy at q sz dep
    simp only [PyData.depth] at dep
    simp only [PyData.shown] at q sz
    obtain ⟨its, rv, ⟨ob, n, ho, hc, _, hd⟩, _⟩ := I.list (sqL_rd h1)
    obtain ⟨as, bs, w⟩ := sh_Ts I ds _ its o (by omega) h2 rv
    have rr : Reads s.heap (.ref a) (.list (T.dys ds)) (a :: as) := Reads.list ho hc hd w.rd
    have na : a ∉ bs := not_mem_of_deeper rr (by simp only [PyData.depth]; omega) w.am
    refine call_repr_slot (idr := "list.__repr__") (by omega) ⟨ob, ho, hc⟩ F.slot_list_repr.toG ?_
    cases its with
    | nil =>
      have e : PyData.shownAll (T.dys ds) = [] := List.length_eq_zero_iff.mp w.rk.length_eq
      rw [e, listText_nil] at q
      exact call_list_repr_empty ⟨ob, ho, hc⟩ ho hd ⟨_, _, rfl, .str _, H, I.tok _, ⟨_, rfl⟩, q⟩
    | cons y l =>
      refine call_list_reprK (h₀ := s.heap) ho hc hd na (by simpa using w.rk.length_eq) (fun i p e => w.rk.item i p (by simpa using e)) (g := []) hg (fun b _ => Clear.nil b) (by show X.A.units + 1 + _ < _; omega) (fun _ _ e => e) (fun h' u tk k => ⟨_, _, rfl, .str _, H, I.kept (t' := tk) k, ⟨u, rfl⟩, q⟩) sz
  | tup ds =>
    obtain ⟨a, xs, rfl, h1, h2⟩ := rep_tup rp
    cases rv
    have o : T.okds ds = true := by unfold T.okd at o; exact o
    unfold T.wd at z
    unfold T.dy at q sz dep
    simp only [PyData.depth] at dep
    simp only [PyData.shown] at q sz
    obtain ⟨its, rv, ⟨ob, ho, hc, n, hd⟩, _⟩ := I.tuple (sqT_rd h1)
    obtain ⟨as, bs, w⟩ := sh_Ts I ds _ its o (by omega) h2 rv
    have rr : Reads s.heap (.ref a) (.tuple (T.dys ds)) as := Reads.tuple ho hc hd w.rd
    have na : a ∉ bs := not_mem_of_deeper rr (by simp only [PyData.depth]; omega) w.am
    refine call_repr_slot (idr := "tuple.__repr__") (by omega) ⟨ob, ho, hc⟩ F.slot_tuple_repr ?_
    exact call_tuple_reprK (h₀ := s.heap) ho hc hd na (by simpa using w.rk) (g := []) hg (fun b _ => Clear.nil b) (by show X.A.units + 1 + _ < _; omega) (fun _ _ e => e) (fun h' u tk k => ⟨_, _, rfl, .str _, H, I.kept (t' := tk) k, ⟨u, rfl⟩, q⟩) sz
  | dic kvs =>
    obtain ⟨a, xs, rfl, h1, h2⟩ := rep_dic rp
    cases rv
    have o : T.okdk kvs = true := by unfold T.okd at o; exact o
    unfold T.wd at z
    unfold T.dy at q sz dep
    simp only [PyData.depth] at dep
    simp only [PyData.shown] at q sz
    obtain ⟨_, hsm, vs, kv, ob, es, ep, ho, hx, hd, _, hp, _⟩ := dk_rd I.hok (now_rd h1)
    obtain ⟨as, bs, w⟩ := sh_Tk I kvs _ _ es.toList o (by omega) h2 kv hp
    have rr : Reads s.heap (.ref a) (.dict (T.dyk kvs)) (a :: [] ++ as) := Reads.dict ho hx.1 hd w.rdk w.rdv
    have na : a ∉ bs := not_mem_of_deeper rr (by simp only [PyData.depth]; omega) w.am
    refine call_repr_slot (idr := "dict.__repr__") (by omega) ⟨ob, ho, hx.1⟩ F.slot_dict_repr ?_
    exact call_dict_reprK (h₀ := s.heap) ho hx.1 hd hsm na w.rk (g := []) hg (fun b _ => Clear.nil b) (by show X.A.units + 1 + _ < _; omega) (fun _ _ e => e) (fun h' u tk k => ⟨_, _, rfl, .str _, H, I.kept (t' := tk) k, ⟨u, rfl⟩, q⟩) sz
  | fn _ _ => unfold T.okd at o; cases o
  | scr _ => unfold T.okd at o; cases o
  | exc _ _ _ _ => unfold T.okd at o; cases o
  | set _ => unfold T.okd at o; cases o
end
def rdD (x : Mi.D) (S : Store) : R Mi.D := match tr 6 S x with
  | some a => if a.okd = true ∧ a.wd ≤ okL ∧ a.dd ≤ 60 then .ok (.str a.showd) S else .no
  | none => .no
def Z.rd (f : XE) : XE := fun q fr S => (f q fr S).bnd fun x S1 => rdD x S1
section
variable {X : Cx} {gi : GI} {k : Nat} {N : List Str} {sc : Scope} {e : Expr} {f : XE} {p pos : Pos}
theorem sem_rd (c : Cok X gi k N sc) (n : Bi X "repr" (.builtin "repr")) (h1 : SemE X gi k e f) (hs : starEach [e] X.env = [(false, eval e X.env)]) : SemE X gi k (.Call (.Name "repr" p) [e] [] pos) (Z.rd f) := by
  intro er q lk W tk fr S μ σ H F A Q w
  have hr : CallR X (.builtin "repr") (fun xs H Q => ∃ v d, xs = [v] ∧ Rep X.K (Now H) v d ∧ d.okd = true ∧ d.wd ≤ 16000000 ∧ d.dd ≤ 60 ∧ Q (.str d.showd) H) := by
    intro pins s σ H xs us Q I r h
    obtain ⟨v, d, rfl, rp, ok, wt, dp, q⟩ := h
    obtain ⟨u, rfl, r1⟩ := vals1 r
    exact repr_top I ok wt dp rp r1 c.gd c.un q
  refine ⟨_, pe_callB hr n.g n.m n.b pa_sem n.n n.d hs rfl, arg1 h1 lk tk A w hs fun d S1 μ1 H1 F1 v as A1 P1 r1 o1 w1 => ?_⟩
  unfold rdD at w1
  split at w1
  · rename_i a e1
    split at w1
    · rename_i ok
      exact ⟨v, a, rfl, tr_ok 6 A1.hs r1 e1, ok.1, ok.2.1, ok.2.2, giveT w1 A1 P1 (.str _)⟩
    · exact w1.elim
  · exact w1.elim
end
end Mi

set_option Elab.async false
set_option linter.all false
set_option maxRecDepth 100000
set_option maxHeartbeats 4000000
/-! Rd4: reckoning with what is shown, dicts among it -/
namespace Mi
open PySem L2
def rdOk (a : T) : Prop := a.okd = true ∧ a.wd ≤ okL ∧ a.dd ≤ 60
def Rq (a : T) (n k : Nat) : Prop := a.okd = true ∧ a.wd ≤ n ∧ a.dd ≤ k
def Rqs (xs : List T) (n k : Nat) : Prop := T.okds xs = true ∧ T.wds xs ≤ n ∧ T.dds xs ≤ k
def Rqk (xs : List (Key × T)) (n k : Nat) : Prop := T.okdk xs = true ∧ T.wdk xs ≤ n ∧ T.ddk xs ≤ k
theorem Rq.ok {a : T} {n k : Nat} (h : Rq a n k) (hn : n ≤ 16000000) (hk : k ≤ 60) : rdOk a := ⟨h.1, by have := h.2.1; have : (okL : Nat) = 16000000 := rfl; omega, by have := h.2.2; omega⟩
theorem Rq.mono {a : T} {n m k j : Nat} (h : Rq a n k) (hn : n ≤ m) (hk : k ≤ j) : Rq a m j := ⟨h.1, by have := h.2.1; omega, by have := h.2.2; omega⟩
theorem rqs_nil {n k : Nat} : Rqs [] n k := ⟨by unfold T.okds; rfl, by unfold T.wds; omega, by unfold T.dds; omega⟩
theorem rqs_cons {d : T} {ds : List T} {n m k : Nat} (h : Rq d n k) (hs : Rqs ds m k) : Rqs (d :: ds) (n + 2 + m) k := ⟨by unfold T.okds; rw [h.1, hs.1]; rfl, by unfold T.wds; have := h.2.1; have := hs.2.1; omega, by unfold T.dds; have := h.2.2; have := hs.2.2; omega⟩
theorem rq_lst {ds : List T} {n k : Nat} (h : Rqs ds n k) : Rq (.lst ds) (n + 2) (k + 1) := ⟨by unfold T.okd; exact h.1, by unfold T.wd; have := h.2.1; omega, by unfold T.dd; have := h.2.2; omega⟩
theorem rq_tup {ds : List T} {n k : Nat} (h : Rqs ds n k) : Rq (.tup ds) (n + 3) (k + 1) := ⟨by unfold T.okd; exact h.1, by unfold T.wd; have := h.2.1; omega, by unfold T.dd; have := h.2.2; omega⟩
theorem rqk_nil {n k : Nat} : Rqk [] n k := ⟨by unfold T.okdk; rfl, by unfold T.wdk; omega, by unfold T.ddk; omega⟩
theorem rqk_cons {key : Key} {d : T} {ds : List (Key × T)} {n m k : Nat} (hk : kOk key = true) (h : Rq d n k) (hs : Rqk ds m k) : Rqk ((key, d) :: ds) (10004 + n + m) k := ⟨by unfold T.okdk; rw [hk, h.1, hs.1]; rfl, by unfold T.wdk; have := h.2.1; have := hs.2.1; omega, by unfold T.ddk; have := h.2.2; have := hs.2.2; omega⟩
theorem rq_dic {ds : List (Key × T)} {n k : Nat} (h : Rqk ds n k) : Rq (.dic ds) (n + 2) (k + 1) := ⟨by unfold T.okd; exact h.1, by unfold T.wd; have := h.2.1; omega, by unfold T.dd; have := h.2.2; omega⟩
theorem kOk_int {i : Int} (h : i.natAbs < 2 ^ 1900) : kOk (.inl i) = true := decide_eq_true (small_log h)
mutual
theorem ok_okd : ∀ {d : T}, d.ok = true → d.dy = d.py ∧ d.okd = true ∧ d.wd = d.wt ∧ d.dd = d.dp
  | .non, _ => by unfold T.dy T.py T.okd T.wd T.wt T.dd T.dp; exact ⟨rfl, rfl, rfl, rfl⟩
  | .bl _, _ => by unfold T.dy T.py T.okd T.wd T.wt T.dd T.dp; exact ⟨rfl, rfl, rfl, rfl⟩
  | .int _, o => by
    unfold T.ok at o
    unfold T.dy T.py T.okd T.wd T.wt T.dd T.dp
    exact ⟨rfl, o, rfl, rfl⟩
  | .str _, o => by
    unfold T.ok at o
    rw [Bool.and_eq_true] at o
    unfold T.dy T.py T.okd T.wd T.wt T.dd T.dp
    exact ⟨rfl, o.1, rfl, rfl⟩
  | .lst ds, o => by
    unfold T.ok at o
    obtain ⟨h1, h2, h3, h4⟩ := oks_okds o
    unfold T.dy T.py T.okd T.wd T.wt T.dd T.dp
    rw [h1, h2, h3, h4]
    exact ⟨rfl, rfl, rfl, rfl⟩
  | .tup ds, o => by
    unfold T.ok at o
    obtain ⟨h1, h2, h3, h4⟩ := oks_okds o
    unfold T.dy T.py T.okd T.wd T.wt T.dd T.dp
    rw [h1, h2, h3, h4]
    exact ⟨rfl, rfl, rfl, rfl⟩
  | .dic _, o => by unfold T.ok at o; cases o
  | .fn _ _, o => by unfold T.ok at o; cases o
  | .set _, o => by unfold T.ok at o; cases o
  | .scr _, o => by unfold T.ok at o; cases o
  | .exc _ _ _ _, o => by unfold T.ok at o; cases o
theorem oks_okds : ∀ {ds : List T}, T.oks ds = true → T.dys ds = T.pys ds ∧ T.okds ds = true ∧ T.wds ds = T.wts ds ∧ T.dds ds = T.dps ds
  | [], _ => by unfold T.dys T.pys T.okds T.wds T.wts T.dds T.dps; exact ⟨rfl, rfl, rfl, rfl⟩
  | d :: ds, o => by
    unfold T.oks at o
    rw [Bool.and_eq_true] at o
    obtain ⟨h1, h2, h3, h4⟩ := ok_okd o.1
    obtain ⟨k1, k2, k3, k4⟩ := oks_okds o.2
    unfold T.dys T.pys T.okds T.wds T.wts T.dds T.dps
    rw [h1, h2, h3, h4, k1, k2, k3, k4]
    exact ⟨rfl, rfl, rfl, rfl⟩
end
theorem Rp.q {a : T} {n k : Nat} (h : Rp a n k) : Rq a n k := by
  obtain ⟨_, h2, h3, h4⟩ := ok_okd h.1
  exact ⟨h2, by rw [h3]; exact h.2.1, by rw [h4]; exact h.2.2⟩
theorem show_d {a : T} (h : a.ok = true) : a.showd = a.show := by
  unfold T.showd T.show
  rw [(ok_okd h).1]
section
variable {q : Q} {fr : Frame} {S S1 S2 : Store} {e1 e2 : XE} {x y : D} {a : T}
theorem e_rd (h1 : e1 q fr S = .ok x S1) (h : tr 6 S1 x = some a) (o : rdOk a) : Z.rd e1 q fr S = .ok (.t (.str a.showd)) S1 := by
  unfold Z.rd
  rw [h1, bnd_ok]
  unfold rdD
  rw [h]
  exact if_pos o
theorem tc_rdN (h1 : e1 q fr S = .ok x S1) (hx : tr 6 S1 x = some a) (h2 : e2 q fr S1 = .ok y S2) (hy : tr 6 S2 y = some a) (o : rdOk a) : Z.tcmp .ne (Z.rd e1) (Z.rd e2) q fr S = .ok false S2 := by
  rw [z_tcmp, e_rd h1 hx o, bnd_ok, e_rd h2 hy o, bnd_ok, c_neS, decide_eq_true rfl]
  rfl
/-- repr(e) != s -/
theorem tc_rdS {i : Nat} (h1 : e1 q fr S = .ok x S1) (hx : tr 6 S1 x = some a) (hi : fr[i]? = some (some (.t (.str a.showd)))) (o : rdOk a) : Z.tcmp .ne (Z.rd e1) (Z.v i) q fr S = .ok false S1 := by
  rw [z_tcmp, e_rd h1 hx o, bnd_ok, z_v hi, bnd_ok, c_neS, decide_eq_true rfl]
  rfl
theorem e_rdS {i : Nat} (h1 : e1 q fr S = .ok x S1) (hx : tr 6 S1 x = some a) (hi : fr[i]? = some (some (.t (.str a.showd)))) (o : rdOk a) : Z.cmp .eq (Z.rd e1) (Z.v i) q fr S = .ok (.bl true) S1 := by
  rw [z_cmp, e_rd h1 hx o, bnd_ok, z_v hi, bnd_ok, c_eqS, decide_eq_true rfl]
  rfl
theorem e_rdE (h1 : e1 q fr S = .ok x S1) (hx : tr 6 S1 x = some a) (h2 : e2 q fr S1 = .ok y S2) (hy : tr 6 S2 y = some a) (o : rdOk a) : Z.cmp .eq (Z.rd e1) (Z.rd e2) q fr S = .ok (.bl true) S2 := by
  rw [z_cmp, e_rd h1 hx o, bnd_ok, e_rd h2 hy o, bnd_ok, c_eqS, decide_eq_true rfl]
  rfl
end
end Mi

set_option Elab.async false
set_option linter.all false
set_option maxRecDepth 100000
set_option maxHeartbeats 4000000
namespace Lw
open PySem PySem.Spec PyProof.Rows L2 Mi
abbrev pw : Program := PySem.Challenge.pw_midwalk_k50_doublet_passes
def top (i : Nat) : Stmt := pw.main.body.getD i (.Pass ⟨0, 0, 0, 0⟩)
abbrev s_InvalidValues : Stmt := initOf (top 1)
def xd_InvalidValues : XD := ⟨"InvalidValues", "index", "InvalidValues.__init__", defArgs s_InvalidValues, defBody s_InvalidValues, defScope s_InvalidValues⟩
theorem xt_InvalidValues : XTxt xd_InvalidValues := ⟨⟨_, _, _, _, _, _, _, _, _, _, _, _, rfl, rfl⟩, fun doc pm an cda cc ct s u v => BindsTo.of_eq (by first | rfl | with_unfolding_all rfl), ⟨_, rfl, rfl⟩, rfl, rfl, rfl, by decide +kernel, rfl, rfl, rfl, rfl, by decide +kernel, rfl⟩
def xd : List XD := [xd_InvalidValues]
abbrev s_is_whole : Stmt := top 4
abbrev N_is_whole : List Str := [("thing" : Str)]
abbrev P_is_whole : List Str := [("thing" : Str)]
abbrev sc_is_whole : Scope := defScope s_is_whole
theorem fs_is_whole : FnScope N_is_whole P_is_whole sc_is_whole := ⟨rfl, rfl, rfl, by decide +kernel, rfl, by decide +kernel, by decide +kernel⟩
abbrev F_is_whole (K : PySem.W.Frag) (f : Addr) (fd : FuncData) : Prop := FunD K "is_whole" "is_whole" (defArgs s_is_whole) (defBody s_is_whole) sc_is_whole [] [] f fd
abbrev s_is_list_up_to : Stmt := top 5
abbrev N_is_list_up_to : List Str := [("thing" : Str), ("most" : Str)]
abbrev P_is_list_up_to : List Str := [("thing" : Str), ("most" : Str)]
abbrev sc_is_list_up_to : Scope := defScope s_is_list_up_to
theorem fs_is_list_up_to : FnScope N_is_list_up_to P_is_list_up_to sc_is_list_up_to := ⟨rfl, rfl, rfl, by decide +kernel, rfl, by decide +kernel, by decide +kernel⟩
abbrev F_is_list_up_to (K : PySem.W.Frag) (f : Addr) (fd : FuncData) : Prop := FunD K "is_list_up_to" "is_list_up_to" (defArgs s_is_list_up_to) (defBody s_is_list_up_to) sc_is_list_up_to [] [] f fd
abbrev s_first_not_whole : Stmt := top 6
abbrev N_first_not_whole : List Str := [("things" : Str), ("index" : Str), ("thing" : Str)]
abbrev P_first_not_whole : List Str := [("things" : Str)]
abbrev sc_first_not_whole : Scope := defScope s_first_not_whole
theorem fs_first_not_whole : FnScope N_first_not_whole P_first_not_whole sc_first_not_whole := ⟨rfl, rfl, rfl, by decide +kernel, rfl, by decide +kernel, by decide +kernel⟩
abbrev F_first_not_whole (K : PySem.W.Frag) (f : Addr) (fd : FuncData) : Prop := FunD K "first_not_whole" "first_not_whole" (defArgs s_first_not_whole) (defBody s_first_not_whole) sc_first_not_whole [] [] f fd
abbrev s_check_values : Stmt := top 7
abbrev N_check_values : List Str := [("values" : Str), ("wrong" : Str)]
abbrev P_check_values : List Str := [("values" : Str)]
abbrev sc_check_values : Scope := defScope s_check_values
theorem fs_check_values : FnScope N_check_values P_check_values sc_check_values := ⟨rfl, rfl, rfl, by decide +kernel, rfl, by decide +kernel, by decide +kernel⟩
abbrev F_check_values (K : PySem.W.Frag) (f : Addr) (fd : FuncData) : Prop := FunD K "check_values" "check_values" (defArgs s_check_values) (defBody s_check_values) sc_check_values [] [] f fd
abbrev s_after_doublet_pass : Stmt := top 9
abbrev N_after_doublet_pass : List Str := [("values" : Str), ("rest" : Str), ("_" : Str)]
abbrev P_after_doublet_pass : List Str := [("values" : Str)]
abbrev sc_after_doublet_pass : Scope := defScope s_after_doublet_pass
theorem fs_after_doublet_pass : FnScope N_after_doublet_pass P_after_doublet_pass sc_after_doublet_pass := ⟨rfl, rfl, rfl, by decide +kernel, rfl, by decide +kernel, by decide +kernel⟩
abbrev F_after_doublet_pass (K : PySem.W.Frag) (f : Addr) (fd : FuncData) : Prop := FunD K "after_doublet_pass" "after_doublet_pass" (defArgs s_after_doublet_pass) (defBody s_after_doublet_pass) sc_after_doublet_pass [] [] f fd
abbrev s_doublet_visits : Stmt := top 10
abbrev N_doublet_visits : List Str := [("values" : Str), ("_" : Str), ("visits" : Str)]
abbrev P_doublet_visits : List Str := [("values" : Str)]
abbrev sc_doublet_visits : Scope := defScope s_doublet_visits
theorem fs_doublet_visits : FnScope N_doublet_visits P_doublet_visits sc_doublet_visits := ⟨rfl, rfl, rfl, by decide +kernel, rfl, by decide +kernel, by decide +kernel⟩
abbrev F_doublet_visits (K : PySem.W.Frag) (f : Addr) (fd : FuncData) : Prop := FunD K "doublet_visits" "doublet_visits" (defArgs s_doublet_visits) (defBody s_doublet_visits) sc_doublet_visits [] [] f fd
abbrev s_comes_out_right : Stmt := top 11
abbrev N_comes_out_right : List Str := [("values" : Str)]
abbrev P_comes_out_right : List Str := [("values" : Str)]
abbrev sc_comes_out_right : Scope := defScope s_comes_out_right
theorem fs_comes_out_right : FnScope N_comes_out_right P_comes_out_right sc_comes_out_right := ⟨rfl, rfl, rfl, by decide +kernel, rfl, by decide +kernel, by decide +kernel⟩
abbrev F_comes_out_right (K : PySem.W.Frag) (f : Addr) (fd : FuncData) : Prop := FunD K "comes_out_right" "comes_out_right" (defArgs s_comes_out_right) (defBody s_comes_out_right) sc_comes_out_right [] [] f fd
abbrev s_rest_and_visits : Stmt := top 12
abbrev N_rest_and_visits : List Str := [("values" : Str), ("rest" : Str), ("visits" : Str), ("place" : Str), ("value" : Str)]
abbrev P_rest_and_visits : List Str := [("values" : Str)]
abbrev sc_rest_and_visits : Scope := defScope s_rest_and_visits
theorem fs_rest_and_visits : FnScope N_rest_and_visits P_rest_and_visits sc_rest_and_visits := ⟨rfl, rfl, rfl, by decide +kernel, rfl, by decide +kernel, by decide +kernel⟩
abbrev F_rest_and_visits (K : PySem.W.Frag) (f : Addr) (fd : FuncData) : Prop := FunD K "rest_and_visits" "rest_and_visits" (defArgs s_rest_and_visits) (defBody s_rest_and_visits) sc_rest_and_visits [] [] f fd
abbrev s_has_doublets : Stmt := top 13
abbrev N_has_doublets : List Str := [("values" : Str)]
abbrev P_has_doublets : List Str := [("values" : Str)]
abbrev sc_has_doublets : Scope := defScope s_has_doublets
theorem fs_has_doublets : FnScope N_has_doublets P_has_doublets sc_has_doublets := ⟨rfl, rfl, rfl, by decide +kernel, rfl, by decide +kernel, by decide +kernel⟩
abbrev F_has_doublets (K : PySem.W.Frag) (f : Addr) (fd : FuncData) : Prop := FunD K "has_doublets" "has_doublets" (defArgs s_has_doublets) (defBody s_has_doublets) sc_has_doublets [] [] f fd
abbrev s_is_right : Stmt := top 14
abbrev N_is_right : List Str := [("values" : Str), ("rest" : Str), ("_" : Str)]
abbrev P_is_right : List Str := [("values" : Str)]
abbrev sc_is_right : Scope := defScope s_is_right
theorem fs_is_right : FnScope N_is_right P_is_right sc_is_right := ⟨rfl, rfl, rfl, by decide +kernel, rfl, by decide +kernel, by decide +kernel⟩
abbrev F_is_right (K : PySem.W.Frag) (f : Addr) (fd : FuncData) : Prop := FunD K "is_right" "is_right" (defArgs s_is_right) (defBody s_is_right) sc_is_right [] [] f fd
abbrev s_draws : Stmt := top 16
abbrev N_draws : List Str := [("_law_cell" : Str)]
abbrev P_draws : List Str := [("_law_cell" : Str)]
abbrev sc_draws : Scope := defScope s_draws
theorem fs_draws : FnScope N_draws P_draws sc_draws := ⟨rfl, rfl, rfl, by decide +kernel, rfl, by decide +kernel, by decide +kernel⟩
abbrev F_draws (K : PySem.W.Frag) (f : Addr) (fd : FuncData) : Prop := FunD K "_law_draws" "_law_draws" (defArgs s_draws) (defBody s_draws) sc_draws [] [] f fd
abbrev s_next : Stmt := top 17
abbrev N_next : List Str := [("_law_draws_here" : Str), ("_law_k" : Str), ("_law_number" : Str)]
abbrev P_next : List Str := [("_law_draws_here" : Str)]
abbrev sc_next : Scope := defScope s_next
theorem fs_next : FnScope N_next P_next sc_next := ⟨rfl, rfl, rfl, by decide +kernel, rfl, by decide +kernel, by decide +kernel⟩
abbrev F_next (K : PySem.W.Frag) (f : Addr) (fd : FuncData) : Prop := FunD K "_law_next" "_law_next" (defArgs s_next) (defBody s_next) sc_next [] [] f fd
abbrev s_walked : Stmt := top 18
abbrev N_walked : List Str := [("_law_a_values" : Str), ("_law_row" : Str), ("_law_stops" : Str), ("_law_at" : Str), ("_law_value" : Str), ("_law_first" : Str), ("_law_place" : Str), ("_law_one" : Str), ("_law_spot" : Str), ("_law_pair" : Str)]
abbrev P_walked : List Str := [("_law_a_values" : Str)]
abbrev sc_walked : Scope := defScope s_walked
theorem fs_walked : FnScope N_walked P_walked sc_walked := ⟨rfl, rfl, rfl, by decide +kernel, rfl, by decide +kernel, by decide +kernel⟩
abbrev F_walked (K : PySem.W.Frag) (f : Addr) (fd : FuncData) : Prop := FunD K "_law_walked" "_law_walked" (defArgs s_walked) (defBody s_walked) sc_walked [] [] f fd
abbrev s_values : Stmt := top 19
abbrev N_values : List Str := [("_law_draws_here" : Str), ("_law_kinds" : Str), ("_law_far" : Str), ("_law_most" : Str), ("_law_turn" : Str)]
abbrev P_values : List Str := [("_law_draws_here" : Str)]
abbrev sc_values : Scope := defScope s_values
theorem fs_values : FnScope N_values P_values sc_values := ⟨rfl, rfl, rfl, by decide +kernel, rfl, by decide +kernel, by decide +kernel⟩
abbrev F_values (K : PySem.W.Frag) (f : Addr) (fd : FuncData) : Prop := FunD K "_law_values" "_law_values" (defArgs s_values) (defBody s_values) sc_values [] [] f fd
abbrev s_kept : Stmt := top 20
abbrev N_kept : List Str := [("_law_ask" : Str), ("_law_error" : Str), ("caught" : Str)]
abbrev P_kept : List Str := [("_law_ask" : Str)]
abbrev sc_kept : Scope := defScope s_kept
theorem fs_kept : FnScope N_kept P_kept sc_kept := ⟨rfl, rfl, rfl, by decide +kernel, rfl, by decide +kernel, by decide +kernel⟩
abbrev F_kept (K : PySem.W.Frag) (f : Addr) (fd : FuncData) : Prop := FunD K "_law_kept" "_law_kept" (defArgs s_kept) (defBody s_kept) sc_kept [] [] f fd
abbrev s_right : Stmt := top 21
abbrev N_right : List Str := [("_law_a_values" : Str), ("_law_kept_here" : Str), ("_law_stops" : Str), ("_law_left" : Str), ("_law_due" : Str), ("_law_turn" : Str), ("_law_told" : Str), ("_law_first" : Str), ("_law_second" : Str), ("_law_third" : Str), ("_law_named" : Str)]
abbrev P_right : List Str := [("_law_a_values" : Str)]
abbrev sc_right : Scope := defScope s_right
theorem fs_right : FnScope N_right P_right sc_right := ⟨rfl, rfl, rfl, by decide +kernel, rfl, by decide +kernel, by decide +kernel⟩
abbrev F_right (K : PySem.W.Frag) (f : Addr) (fd : FuncData) : Prop := FunD K "_law_right" "_law_right" (defArgs s_right) (defBody s_right) sc_right [] [] f fd
abbrev s_refusals_right : Stmt := top 22
abbrev N_refusals_right : List Str := [("_law_draws_here" : Str), ("_law_a_values" : Str), ("_law_some" : Str), ("_law_wrong" : Str), ("_law_at" : Str), ("_law_thing" : Str), ("_law_bad" : Str), ("_law_index" : Str), ("_law_before" : Str), ("_law_ask" : Str)]
abbrev P_refusals_right : List Str := [("_law_draws_here" : Str), ("_law_a_values" : Str)]
abbrev sc_refusals_right : Scope := defScope s_refusals_right
theorem fs_refusals_right : FnScope N_refusals_right P_refusals_right sc_refusals_right := ⟨rfl, rfl, rfl, by decide +kernel, rfl, by decide +kernel, by decide +kernel⟩
abbrev F_refusals_right (K : PySem.W.Frag) (f : Addr) (fd : FuncData) : Prop := FunD K "_law_refusals_right" "_law_refusals_right" (defArgs s_refusals_right) (defBody s_refusals_right) sc_refusals_right [] [] f fd
abbrev s_law : Stmt := top 23
abbrev N_law : List Str := [("_law_script" : Str), ("_law_draws_here" : Str), ("_law_turn" : Str), ("_law_a_values" : Str), ("_law_cell" : Str)]
abbrev P_law : List Str := [("_law_script" : Str)]
abbrev sc_law : Scope := defScope s_law
theorem fs_law : FnScope N_law P_law sc_law := ⟨rfl, rfl, rfl, by decide +kernel, rfl, by decide +kernel, by decide +kernel⟩
abbrev F_law (K : PySem.W.Frag) (f : Addr) (fd : FuncData) : Prop := FunD K "law" "law" (defArgs s_law) (defBody s_law) sc_law [] [] f fd
abbrev n_is_whole : Nat := 0
abbrev n_is_list_up_to : Nat := 1
abbrev n_first_not_whole : Nat := 2
abbrev n_check_values : Nat := 3
abbrev n_after_doublet_pass : Nat := 4
abbrev n_doublet_visits : Nat := 5
abbrev n_comes_out_right : Nat := 6
abbrev n_rest_and_visits : Nat := 7
abbrev n_has_doublets : Nat := 8
abbrev n_is_right : Nat := 9
abbrev n_draws : Nat := 10
abbrev n_next : Nat := 11
abbrev n_walked : Nat := 12
abbrev n_values : Nat := 13
abbrev n_kept : Nat := 14
abbrev n_right : Nat := 15
abbrev n_refusals_right : Nat := 16
abbrev n_law : Nat := 17
abbrev n_InvalidValues : Nat := 18
abbrev okv_1 : List Nat := [n_after_doublet_pass, n_doublet_visits, n_comes_out_right]
abbrev di_is_whole : DI := ⟨"is_whole", P_is_whole, [(1, [], [.inl 0])]⟩
abbrev di_is_list_up_to : DI := ⟨"is_list_up_to", P_is_list_up_to, [(2, [], [.inl 0, .inl 1])]⟩
abbrev di_first_not_whole : DI := ⟨"first_not_whole", P_first_not_whole, [(1, [], [.inl 0])]⟩
abbrev di_check_values : DI := ⟨"check_values", P_check_values, [(1, [], [.inl 0])]⟩
abbrev di_after_doublet_pass : DI := ⟨"after_doublet_pass", P_after_doublet_pass, [(1, [], [.inl 0]), (0, [("values" : Str)], [.inl 0])]⟩
abbrev di_doublet_visits : DI := ⟨"doublet_visits", P_doublet_visits, [(1, [], [.inl 0]), (0, [("values" : Str)], [.inl 0])]⟩
abbrev di_comes_out_right : DI := ⟨"comes_out_right", P_comes_out_right, [(1, [], [.inl 0]), (0, [("values" : Str)], [.inl 0])]⟩
abbrev di_rest_and_visits : DI := ⟨"rest_and_visits", P_rest_and_visits, [(1, [], [.inl 0])]⟩
abbrev di_has_doublets : DI := ⟨"has_doublets", P_has_doublets, [(1, [], [.inl 0])]⟩
abbrev di_is_right : DI := ⟨"is_right", P_is_right, [(1, [], [.inl 0])]⟩
abbrev di_draws : DI := ⟨"_law_draws", P_draws, [(1, [], [.inl 0])]⟩
abbrev di_next : DI := ⟨"_law_next", P_next, [(1, [], [.inl 0])]⟩
abbrev di_walked : DI := ⟨"_law_walked", P_walked, [(1, [], [.inl 0])]⟩
abbrev di_values : DI := ⟨"_law_values", P_values, [(1, [], [.inl 0])]⟩
abbrev di_kept : DI := ⟨"_law_kept", P_kept, []⟩
abbrev di_right : DI := ⟨"_law_right", P_right, [(1, [], [.inl 0])]⟩
abbrev di_refusals_right : DI := ⟨"_law_refusals_right", P_refusals_right, [(2, [], [.inl 0, .inl 1])]⟩
abbrev di_law : DI := ⟨"law", P_law, []⟩
def gi : GI := ⟨[("ValueError" : Str), ("bool" : Str), ("enumerate" : Str), ("int" : Str), ("isinstance" : Str), ("len" : Str), ("list" : Str), ("range" : Str), ("repr" : Str), ("set" : Str), ("tuple" : Str)], [("MOST_VALUES", (.int 120))], [di_is_whole, di_is_list_up_to, di_first_not_whole, di_check_values, di_after_doublet_pass, di_doublet_visits, di_comes_out_right, di_rest_and_visits, di_has_doublets, di_is_right, di_draws, di_next, di_walked, di_values, di_kept, di_right, di_refusals_right, di_law], [⟨n_InvalidValues, "InvalidValues", "index"⟩], [("_law_refusals_right", 19)]⟩
noncomputable def br_kept : XB := (Z.seq (Z.ret (Z.ife (Z.tor (Z.tcmp .is_ (Z.v 1) (Z.k .non)) (Z.tnot (Z.tval (Z.isx 1 [n_InvalidValues] [n_InvalidValues])))) (Z.k (.str "told")) (Z.rd (Z.attr 1 "index" [n_InvalidValues])))) Z.skip)
noncomputable def b_is_whole : XB := (Z.seq (Z.ret (Z.and (Z.f1 (.isi "int") (Z.v 0)) (Z.not (Z.f1 (.isi "bool") (Z.v 0))))) Z.skip)
noncomputable def b_is_list_up_to : XB := (Z.seq (Z.ret (Z.and (Z.f1 (.isi "list") (Z.v 0)) (Z.cmp .le (Z.f1 .len (Z.v 0)) (Z.v 1)))) Z.skip)
noncomputable def b_first_not_whole_0 : XB := (Z.seq (Z.ifs (Z.tnot (Z.tval (Z.call n_is_whole (Z.cons (Z.v 2) Z.nil) [.inl 0]))) (Z.seq (Z.ret (Z.v 1)) Z.skip) Z.skip) Z.skip)
noncomputable def b_first_not_whole : XB := (Z.seq (Z.fors false (.tu [1, 2]) (Z.itEn (Z.v 0)) b_first_not_whole_0) (Z.seq (Z.ret (Z.k .non)) Z.skip))
noncomputable def b_check_values : XB := (Z.seq (Z.ifs (Z.tnot (Z.tval (Z.call n_is_list_up_to (Z.cons (Z.v 0) (Z.cons (Z.k (.int 120)) Z.nil)) [.inl 0, .inl 1]))) (Z.seq (Z.raise n_InvalidValues (Z.k .non)) Z.skip) Z.skip) (Z.seq (Z.set 1 false (Z.call n_first_not_whole (Z.cons (Z.v 0) Z.nil) [.inl 0])) (Z.seq (Z.ifs (Z.tcmp .isn (Z.v 1) (Z.k .non)) (Z.seq (Z.raise n_InvalidValues (Z.v 1)) Z.skip) Z.skip) Z.skip)))
noncomputable def b_after_doublet_pass : XB := (Z.seq (Z.expr (Z.call n_check_values (Z.cons (Z.v 0) Z.nil) [.inl 0])) (Z.seq (Z.sett [1, 2] true (Z.call n_rest_and_visits (Z.cons (Z.v 0) Z.nil) [.inl 0])) (Z.seq (Z.ret (Z.v 1)) Z.skip)))
noncomputable def b_doublet_visits : XB := (Z.seq (Z.expr (Z.call n_check_values (Z.cons (Z.v 0) Z.nil) [.inl 0])) (Z.seq (Z.sett [1, 2] true (Z.call n_rest_and_visits (Z.cons (Z.v 0) Z.nil) [.inl 0])) (Z.seq (Z.ret (Z.v 2)) Z.skip)))
noncomputable def b_comes_out_right : XB := (Z.seq (Z.expr (Z.call n_check_values (Z.cons (Z.v 0) Z.nil) [.inl 0])) (Z.seq (Z.ret (Z.call n_is_right (Z.cons (Z.v 0) Z.nil) [.inl 0])) Z.skip))
noncomputable def b_rest_and_visits_0 : XB := (Z.seq (Z.expr (Z.me .append (Z.v 2) (Z.cons (Z.bin .sub (Z.bin .add (Z.v 3) (Z.f1 .len (Z.v 0))) (Z.f1 .len (Z.v 1))) Z.nil))) (Z.seq (Z.set 4 false (Z.ix (Z.v 1) (Z.v 3))) (Z.seq (Z.ifs (Z.tcmp .gt (Z.me .count (Z.v 1) (Z.cons (Z.v 4) Z.nil)) (Z.k (.int 1))) (Z.seq (Z.expr (Z.me .remove (Z.v 1) (Z.cons (Z.v 4) Z.nil))) Z.skip) Z.skip) (Z.seq (Z.aug 3 .add (Z.k (.int 1))) Z.skip))))
noncomputable def t_rest_and_visits_0 : XT := (Z.tcmp .lt (Z.v 3) (Z.f1 .len (Z.v 1)))
noncomputable def b_rest_and_visits : XB := (Z.seq (Z.set 1 true (Z.f1 .list (Z.v 0))) (Z.seq (Z.set 2 true (Z.lst Z.nil)) (Z.seq (Z.set 3 false (Z.k (.int 0))) (Z.seq (Z.whs false t_rest_and_visits_0 b_rest_and_visits_0) (Z.seq (Z.ret (Z.tup (Z.cons (Z.v 1) (Z.cons (Z.v 2) Z.nil)))) Z.skip)))))
noncomputable def b_has_doublets : XB := (Z.seq (Z.ret (Z.cmp .lt (Z.slen (Z.v 0)) (Z.f1 .len (Z.v 0)))) Z.skip)
noncomputable def b_is_right : XB := (Z.seq (Z.sett [1, 2] false (Z.call n_rest_and_visits (Z.cons (Z.v 0) Z.nil) [.inl 0])) (Z.seq (Z.ret (Z.not (Z.call n_has_doublets (Z.cons (Z.v 1) Z.nil) [.inl 0]))) Z.skip))
noncomputable def b_draws : XB := (Z.seq (Z.ret (Z.lst (Z.cons (Z.bin .mod (Z.f1 .int (Z.v 0)) (Z.bin .pow (Z.bin .pow (Z.bin .pow (Z.k (.int 10)) (Z.k (.int 60))) (Z.k (.int 60))) (Z.k (.int 4)))) (Z.cons (Z.k (.int 0)) (Z.cons (Z.cmp .ge (Z.v 0) (Z.bin .pow (Z.k (.int 10)) (Z.k (.int 18)))) Z.nil))))) Z.skip)
noncomputable def b_next : XB := (Z.seq (Z.sti (Z.v 0) (Z.k (.int 1)) (Z.bin .add (Z.ix (Z.v 0) (Z.k (.int 1))) (Z.k (.int 1)))) (Z.seq (Z.set 1 false (Z.ix (Z.v 0) (Z.k (.int 1)))) (Z.seq (Z.ifs (Z.tval (Z.ix (Z.v 0) (Z.k (.int 2)))) (Z.seq (Z.set 2 false (Z.bin .mod (Z.f1 .int (Z.ix (Z.v 0) (Z.k (.int 0)))) (Z.bin .pow (Z.k (.int 10)) (Z.k (.int 6))))) (Z.seq (Z.sti (Z.v 0) (Z.k (.int 0)) (Z.bin .fdiv (Z.ix (Z.v 0) (Z.k (.int 0))) (Z.bin .pow (Z.k (.int 10)) (Z.k (.int 6))))) (Z.seq (Z.ret (Z.v 2)) Z.skip))) Z.skip) (Z.seq (Z.set 2 false (Z.bin .mod (Z.f1 .int (Z.bin .mul (Z.bin .add (Z.bin .add (Z.bin .mod (Z.f1 .int (Z.ix (Z.v 0) (Z.k (.int 0)))) (Z.k (.int 1000003))) (Z.bin .mul (Z.bin .mul (Z.v 1) (Z.v 1)) (Z.k (.int 7919)))) (Z.v 1)) (Z.k (.int 48271)))) (Z.k (.int 2147483629)))) (Z.seq (Z.set 2 false (Z.bin .mod (Z.f1 .int (Z.bin .mul (Z.v 2) (Z.v 2))) (Z.k (.int 2147483587)))) (Z.seq (Z.ret (Z.bin .fdiv (Z.bin .mod (Z.f1 .int (Z.bin .mul (Z.v 2) (Z.bin .add (Z.v 2) (Z.k (.int 2))))) (Z.k (.int 2147483579))) (Z.k (.int 7)))) Z.skip))))))
noncomputable def b_walked_0 : XB := (Z.seq (Z.set 4 false (Z.ix (Z.ix (Z.v 1) (Z.v 3)) (Z.k (.int 0)))) (Z.seq (Z.expr (Z.me .append (Z.v 2) (Z.cons (Z.ix (Z.ix (Z.v 1) (Z.v 3)) (Z.k (.int 1))) Z.nil))) (Z.seq (Z.set 3 false (Z.bin .add (Z.v 3) (Z.k (.int 1)))) (Z.seq (Z.ifs (Z.tcmp .gt (Z.f1 .len (Z.lc [7, 6] (.tu [7, 6]) (Z.itE (Z.v 1)) (Z.tcmp .eq (Z.v 7) (Z.v 4)) (Z.v 7))) (Z.k (.int 1))) (Z.seq (Z.set 5 false (Z.ix (Z.lc [8, 9] (.tu [8, 9]) (Z.itEn (Z.v 1)) (Z.tcmp .eq (Z.ix (Z.v 9) (Z.k (.int 0))) (Z.v 4)) (Z.v 8)) (Z.k (.int 0)))) (Z.seq (Z.set 1 false (Z.bin .add (Z.sl (Z.v 1) none (some (Z.v 5))) (Z.sl (Z.v 1) (some (Z.bin .add (Z.v 5) (Z.k (.int 1)))) none))) Z.skip)) Z.skip) Z.skip))))
noncomputable def t_walked_0 : XT := (Z.tcmp .lt (Z.v 3) (Z.f1 .len (Z.v 1)))
noncomputable def b_walked : XB := (Z.seq (Z.set 1 false (Z.lc [6, 4] (.tu [6, 4]) (Z.itEn (Z.v 0)) Z.tt (Z.tup (Z.cons (Z.v 4) (Z.cons (Z.v 6) Z.nil))))) (Z.seq (Z.set 2 true (Z.lst Z.nil)) (Z.seq (Z.set 3 false (Z.k (.int 0))) (Z.seq (Z.whs false t_walked_0 b_walked_0) (Z.seq (Z.ret (Z.tup (Z.cons (Z.v 2) (Z.cons (Z.lc [4, 6] (.tu [4, 6]) (Z.itE (Z.v 1)) Z.tt (Z.v 4)) Z.nil)))) Z.skip)))))
noncomputable def b_values : XB := (Z.seq (Z.set 1 false (Z.ix (Z.lst (Z.cons (Z.k (.int 1)) (Z.cons (Z.k (.int 2)) (Z.cons (Z.k (.int 3)) (Z.cons (Z.k (.int 5)) (Z.cons (Z.k (.int 40)) Z.nil)))))) (Z.bin .mod (Z.f1 .int (Z.call n_next (Z.cons (Z.v 0) Z.nil) [.inl 0])) (Z.k (.int 5))))) (Z.seq (Z.set 2 false (Z.ix (Z.lst (Z.cons (Z.k (.int 1)) (Z.cons (Z.k (.int 1)) (Z.cons (Z.bin .pow (Z.k (.int 10)) (Z.k (.int 18))) Z.nil)))) (Z.bin .mod (Z.f1 .int (Z.call n_next (Z.cons (Z.v 0) Z.nil) [.inl 0])) (Z.k (.int 3))))) (Z.seq (Z.set 3 false (Z.ix (Z.lst (Z.cons (Z.k (.int 7)) (Z.cons (Z.k (.int 20)) (Z.cons (Z.k (.int 120)) Z.nil)))) (Z.bin .mod (Z.f1 .int (Z.call n_next (Z.cons (Z.v 0) Z.nil) [.inl 0])) (Z.k (.int 3))))) (Z.seq (Z.ret (Z.lc [4] (.nm 4) (Z.itR (Z.bin .mod (Z.f1 .int (Z.call n_next (Z.cons (Z.v 0) Z.nil) [.inl 0])) (Z.bin .add (Z.v 3) (Z.k (.int 1))))) Z.tt (Z.bin .mul (Z.bin .sub (Z.bin .mod (Z.f1 .int (Z.call n_next (Z.cons (Z.v 0) Z.nil) [.inl 0])) (Z.v 1)) (Z.k (.int 1))) (Z.v 2)))) Z.skip))))
noncomputable def b_kept : XB := (Z.seq (Z.set 1 false (Z.k .non)) (Z.seq Z.never (Z.seq (Z.ret (Z.ife (Z.tor (Z.tcmp .is_ (Z.v 1) (Z.k .non)) (Z.tnot (Z.tval (Z.isx 1 [n_InvalidValues] [n_InvalidValues])))) (Z.k (.str "told")) (Z.rd (Z.attr 1 "index" [n_InvalidValues])))) Z.skip)))
noncomputable def b_right_0 : XB := (Z.seq (Z.set 6 true (Z.lst (Z.cons (Z.call n_after_doublet_pass (Z.cons (Z.v 0) Z.nil) [.inl 0]) (Z.cons (Z.call n_doublet_visits (Z.cons (Z.v 0) Z.nil) [.inl 0]) (Z.cons (Z.call n_comes_out_right (Z.cons (Z.v 0) Z.nil) [.inl 0]) Z.nil))))) (Z.seq (Z.ifs (Z.tor (Z.tcmp .ne (Z.rd (Z.v 6)) (Z.rd (Z.v 4))) (Z.tcmp .ne (Z.rd (Z.v 0)) (Z.v 1))) (Z.seq (Z.ret (Z.k (.bl false))) Z.skip) Z.skip) (Z.seq (Z.settl [7, 8, 9] true (Z.v 6)) (Z.seq (Z.expr (Z.me .append (Z.v 7) (Z.cons (Z.k .non) Z.nil))) (Z.seq (Z.expr (Z.me .append (Z.v 8) (Z.cons (Z.k .non) Z.nil))) Z.skip)))))
noncomputable def b_right : XB := (Z.seq (Z.set 1 false (Z.rd (Z.v 0))) (Z.seq (Z.sett [2, 3] false (Z.call n_walked (Z.cons (Z.v 0) Z.nil) [.inl 0])) (Z.seq (Z.set 4 false (Z.lst (Z.cons (Z.v 3) (Z.cons (Z.v 2) (Z.cons (Z.cmp .eq (Z.slen (Z.v 3)) (Z.f1 .len (Z.v 3))) Z.nil))))) (Z.seq (Z.fors true (.nm 5) (Z.itR (Z.k (.int 2))) b_right_0) (Z.seq (Z.set 10 false (Z.lst (Z.cons (Z.call n_after_doublet_pass (Z.cons (Z.v 0) Z.nil) [.inl 0]) (Z.cons (Z.call n_doublet_visits (Z.cons (Z.v 0) Z.nil) [.inl 0]) (Z.cons (Z.call n_comes_out_right (Z.cons (Z.v 0) Z.nil) [.inl 0]) Z.nil))))) (Z.seq (Z.ret (Z.and (Z.cmp .eq (Z.v 10) (Z.v 4)) (Z.cmp .eq (Z.rd (Z.v 0)) (Z.v 1)))) Z.skip))))))
noncomputable def b_refusals_right_0 : XB := (Z.seq (Z.expr (Z.me .append (Z.v 3) (Z.cons (Z.tup (Z.cons (Z.bin .add (Z.bin .add (Z.sl (Z.v 2) none (some (Z.v 4))) (Z.lst (Z.cons (Z.v 5) (Z.cons (Z.k .non) Z.nil)))) (Z.sl (Z.v 2) (some (Z.v 4)) none)) (Z.cons (Z.v 4) Z.nil))) Z.nil))) Z.skip)
noncomputable def b_refusals_right_2 : XB := (Z.seq (Z.ifs (Z.tor (Z.tcmp .ne (Z.lamc 19 0 "_law_refusals_right.<locals>.<lambda>" [(n_InvalidValues, "index")] 2 1 3 br_kept (Z.callv 9 okv_1 (Z.cons (Z.v 6) Z.nil) [.inl 0])) (Z.rd (Z.v 7))) (Z.tcmp .ne (Z.rd (Z.v 6)) (Z.v 8))) (Z.seq (Z.ret (Z.k (.bl false))) Z.skip) Z.skip) Z.skip)
noncomputable def b_refusals_right_1 : XB := (Z.seq (Z.set 8 false (Z.rd (Z.v 6))) (Z.seq (Z.fors false (.nm 9) (Z.itE (Z.lst (Z.cons (Z.g n_after_doublet_pass) (Z.cons (Z.g n_doublet_visits) (Z.cons (Z.g n_comes_out_right) Z.nil))))) b_refusals_right_2) Z.skip))
noncomputable def b_refusals_right : XB := (Z.seq (Z.set 2 false (Z.sl (Z.v 1) none (some (Z.k (.int 100))))) (Z.seq (Z.set 3 true (Z.lc [5] (.nm 5) (Z.itE (Z.fzE (Z.lst (Z.cons (Z.k .non) (Z.cons (Z.tup Z.nil) (Z.cons (Z.k (.str "")) (Z.cons (Z.k (.str "11")) (Z.cons Z.dict0 (Z.cons (Z.k (.int 5)) (Z.cons (Z.tupl (Z.v 1)) (Z.cons (Z.bin .mul (Z.lst (Z.cons (Z.k (.int 0)) Z.nil)) (Z.k (.int 121))) (Z.cons (Z.bin .mul (Z.lst (Z.cons (Z.k .non) Z.nil)) (Z.k (.int 121))) Z.nil)))))))))))) Z.tt (Z.tup (Z.cons (Z.v 5) (Z.cons (Z.k .non) Z.nil))))) (Z.seq (Z.set 4 false (Z.bin .mod (Z.f1 .int (Z.call n_next (Z.cons (Z.v 0) Z.nil) [.inl 0])) (Z.bin .add (Z.f1 .len (Z.v 2)) (Z.k (.int 1))))) (Z.seq (Z.fors false (.nm 5) (Z.itE (Z.fzE (Z.lst (Z.cons (Z.k .non) (Z.cons (Z.k (.bl true)) (Z.cons (Z.k (.bl false)) (Z.cons (Z.k (.str "1")) (Z.cons (Z.lst (Z.cons (Z.k (.int 1)) Z.nil)) (Z.cons (Z.tup (Z.cons (Z.k (.int 1)) Z.nil)) (Z.cons Z.dict0 Z.nil)))))))))) b_refusals_right_0) (Z.seq (Z.fors false (.tu [6, 7]) (Z.itE (Z.v 3)) b_refusals_right_1) (Z.seq (Z.ret (Z.k (.bl true))) Z.skip))))))
noncomputable def b_law_1 : XB := (Z.seq (Z.set 3 false (Z.call n_values (Z.cons (Z.v 1) Z.nil) [.inl 0])) (Z.seq (Z.ifs (Z.tnot (Z.tval (Z.call n_right (Z.cons (Z.v 3) Z.nil) [.inl 0]))) (Z.seq (Z.ret (Z.k (.bl false))) Z.skip) Z.skip) Z.skip))
noncomputable def b_law_0 : XB := (Z.seq (Z.fors false (.nm 2) (Z.itR (Z.k (.int 6))) b_law_1) (Z.seq (Z.ifs (Z.tnot (Z.tval (Z.call n_refusals_right (Z.cons (Z.v 1) (Z.cons (Z.v 3) Z.nil)) [.inl 0, .inl 1]))) (Z.seq (Z.ret (Z.k (.bl false))) Z.skip) Z.skip) Z.skip))
noncomputable def b_law : XB := (Z.seq (Z.fors false (.nm 1) (Z.itE (Z.lc [4] (.nm 4) (Z.itE (Z.bin .add (Z.sl (Z.v 0) none (some (Z.k (.int 6)))) (Z.lst (Z.cons (Z.k (.int 0)) Z.nil)))) Z.tt (Z.call n_draws (Z.cons (Z.v 4) Z.nil) [.inl 0]))) b_law_0) (Z.seq (Z.ret (Z.and (Z.call n_right (Z.cons (Z.bin .mul (Z.lst (Z.cons (Z.k (.int 3)) Z.nil)) (Z.k (.int 120))) Z.nil) [.inl 0]) (Z.and (Z.call n_right (Z.cons (Z.f1 .lrange (Z.k (.int 120))) Z.nil) [.inl 0]) (Z.and (Z.call n_right (Z.cons (Z.lst Z.nil) Z.nil) [.inl 0]) (Z.call n_right (Z.cons (Z.lst (Z.cons (Z.k (.int 1)) (Z.cons (Z.k (.int 1)) Z.nil))) Z.nil) [.inl 0]))))) Z.skip))
noncomputable def prog : List Def := [⟨b_is_whole, 1, 1⟩, ⟨b_is_list_up_to, 2, 2⟩, ⟨b_first_not_whole, 3, 1⟩, ⟨b_check_values, 2, 1⟩, ⟨b_after_doublet_pass, 3, 1⟩, ⟨b_doublet_visits, 3, 1⟩, ⟨b_comes_out_right, 1, 1⟩, ⟨b_rest_and_visits, 5, 1⟩, ⟨b_has_doublets, 1, 1⟩, ⟨b_is_right, 3, 1⟩, ⟨b_draws, 1, 1⟩, ⟨b_next, 3, 1⟩, ⟨b_walked, 10, 1⟩, ⟨b_values, 5, 1⟩, ⟨b_kept, 3, 1⟩, ⟨b_right, 11, 1⟩, ⟨b_refusals_right, 10, 2⟩, ⟨b_law, 5, 1⟩]
theorem cd_is_whole {fa : Nat → Addr} {k : Nat} {S : Store} {a0 : D} : callD prog fa (k + 1) n_is_whole [a0] S = runD b_is_whole 1 ⟨callD prog fa k, fa, S.length⟩ [a0] S := rfl
theorem cd_is_list_up_to {fa : Nat → Addr} {k : Nat} {S : Store} {a0 : D} {a1 : D} : callD prog fa (k + 1) n_is_list_up_to [a0, a1] S = runD b_is_list_up_to 2 ⟨callD prog fa k, fa, S.length⟩ [a0, a1] S := rfl
theorem cd_first_not_whole {fa : Nat → Addr} {k : Nat} {S : Store} {a0 : D} : callD prog fa (k + 1) n_first_not_whole [a0] S = runD b_first_not_whole 3 ⟨callD prog fa k, fa, S.length⟩ [a0] S := rfl
theorem cd_check_values {fa : Nat → Addr} {k : Nat} {S : Store} {a0 : D} : callD prog fa (k + 1) n_check_values [a0] S = runD b_check_values 2 ⟨callD prog fa k, fa, S.length⟩ [a0] S := rfl
theorem cd_after_doublet_pass {fa : Nat → Addr} {k : Nat} {S : Store} {a0 : D} : callD prog fa (k + 1) n_after_doublet_pass [a0] S = runD b_after_doublet_pass 3 ⟨callD prog fa k, fa, S.length⟩ [a0] S := rfl
theorem cd_doublet_visits {fa : Nat → Addr} {k : Nat} {S : Store} {a0 : D} : callD prog fa (k + 1) n_doublet_visits [a0] S = runD b_doublet_visits 3 ⟨callD prog fa k, fa, S.length⟩ [a0] S := rfl
theorem cd_comes_out_right {fa : Nat → Addr} {k : Nat} {S : Store} {a0 : D} : callD prog fa (k + 1) n_comes_out_right [a0] S = runD b_comes_out_right 1 ⟨callD prog fa k, fa, S.length⟩ [a0] S := rfl
theorem cd_rest_and_visits {fa : Nat → Addr} {k : Nat} {S : Store} {a0 : D} : callD prog fa (k + 1) n_rest_and_visits [a0] S = runD b_rest_and_visits 5 ⟨callD prog fa k, fa, S.length⟩ [a0] S := rfl
theorem cd_has_doublets {fa : Nat → Addr} {k : Nat} {S : Store} {a0 : D} : callD prog fa (k + 1) n_has_doublets [a0] S = runD b_has_doublets 1 ⟨callD prog fa k, fa, S.length⟩ [a0] S := rfl
theorem cd_is_right {fa : Nat → Addr} {k : Nat} {S : Store} {a0 : D} : callD prog fa (k + 1) n_is_right [a0] S = runD b_is_right 3 ⟨callD prog fa k, fa, S.length⟩ [a0] S := rfl
theorem cd_draws {fa : Nat → Addr} {k : Nat} {S : Store} {a0 : D} : callD prog fa (k + 1) n_draws [a0] S = runD b_draws 1 ⟨callD prog fa k, fa, S.length⟩ [a0] S := rfl
theorem cd_next {fa : Nat → Addr} {k : Nat} {S : Store} {a0 : D} : callD prog fa (k + 1) n_next [a0] S = runD b_next 3 ⟨callD prog fa k, fa, S.length⟩ [a0] S := rfl
theorem cd_walked {fa : Nat → Addr} {k : Nat} {S : Store} {a0 : D} : callD prog fa (k + 1) n_walked [a0] S = runD b_walked 10 ⟨callD prog fa k, fa, S.length⟩ [a0] S := rfl
theorem cd_values {fa : Nat → Addr} {k : Nat} {S : Store} {a0 : D} : callD prog fa (k + 1) n_values [a0] S = runD b_values 5 ⟨callD prog fa k, fa, S.length⟩ [a0] S := rfl
theorem cd_kept {fa : Nat → Addr} {k : Nat} {S : Store} {a0 : D} : callD prog fa (k + 1) n_kept [a0] S = runD b_kept 3 ⟨callD prog fa k, fa, S.length⟩ [a0] S := rfl
theorem cd_right {fa : Nat → Addr} {k : Nat} {S : Store} {a0 : D} : callD prog fa (k + 1) n_right [a0] S = runD b_right 11 ⟨callD prog fa k, fa, S.length⟩ [a0] S := rfl
theorem cd_refusals_right {fa : Nat → Addr} {k : Nat} {S : Store} {a0 : D} {a1 : D} : callD prog fa (k + 1) n_refusals_right [a0, a1] S = runD b_refusals_right 10 ⟨callD prog fa k, fa, S.length⟩ [a0, a1] S := rfl
theorem cd_law {fa : Nat → Addr} {k : Nat} {S : Store} {a0 : D} : callD prog fa (k + 1) n_law [a0] S = runD b_law 5 ⟨callD prog fa k, fa, S.length⟩ [a0] S := rfl
end Lw

set_option Elab.async false
set_option linter.all false
set_option maxRecDepth 100000
set_option maxHeartbeats 4000000
namespace Lw
open PySem PySem.Spec PyProof.Rows L2 Mi
local macro_rules | `(tactic| walk_at "vi") => `(tactic| first | exact .inl rfl | exact .inr (.inl rfl) | exact .inr (.inr rfl) | exact .inr rfl)
local macro_rules | `(tactic| walk_at "sub") => `(tactic| (repeat (first | assumption | exact List.mem_cons_self | (rcases List.mem_cons.mp (by assumption) with rfl | h; exact List.mem_cons_self))))
theorem sbr_kept {X : Cx} {k : Nat} (c : Cok X gi k N_kept sc_kept) (hf : ∀ x, X.fn x = true) (hp : PassesOwn (model X.prog X.w) X.A X.env X.xe) (hz : X.stack = X.env :: X.outer ∧ X.env.frame = some X.env.locals) : SemB X gi k ((defBody s_kept).drop 2) br_kept := (semb_cons (sems_ret (sem_ife (semt_w (semw_or (semt_cmp isC (sem_v (c.nm (i := 1) rfl (by walk_at "vi"))) sem_non rfl) (semw_or1 (semt_not (semt_val (sem_isxV (ns := [n_InvalidValues]) (c.nm (i := 1) rfl (by walk_at "vi")) (c.b rfl (List.mem_of_getElem? (i := 4) rfl)) (c.b rfl (List.mem_of_getElem? (i := 0) rfl)) (List.forall_mem_cons.mpr ⟨⟨"InvalidValues", "index", (List.mem_of_getElem? (i := 0) rfl)⟩, (fun _ h => nomatch h)⟩) rfl rfl rfl) (fun _ => rfl)))))) sem_str (sem_rd c (c.b rfl (List.mem_of_getElem? (i := 8) rfl)) (sem_attr (ns := [n_InvalidValues]) (c.nm (i := 1) rfl (by walk_at "vi")) (List.forall_mem_cons.mpr ⟨⟨"InvalidValues", (List.mem_of_getElem? (i := 0) rfl)⟩, (fun _ h => nomatch h)⟩) rfl) rfl))) semb_nil)
theorem sb_is_whole {X : Cx} {k : Nat} (c : Cok X gi k N_is_whole sc_is_whole) (hf : ∀ x, X.fn x = true) (hp : PassesOwn (model X.prog X.w) X.A X.env X.xe) (hz : X.stack = X.env :: X.outer ∧ X.env.frame = some X.env.locals) : SemB X gi k (defBody s_is_whole) b_is_whole := (semb_cons (sems_ret (sem_and (sem_isi (c.b rfl (List.mem_of_getElem? (i := 4) rfl)) (c.b rfl (List.mem_of_getElem? (i := 3) rfl)) (sem_v (c.nm (i := 0) rfl (by walk_at "vi"))) rfl rfl rfl) (sem_one (sem_not (sem_isi (c.b rfl (List.mem_of_getElem? (i := 4) rfl)) (c.b rfl (List.mem_of_getElem? (i := 1) rfl)) (sem_v (c.nm (i := 0) rfl (by walk_at "vi"))) rfl rfl rfl))))) semb_nil)
theorem sb_is_list_up_to {X : Cx} {k : Nat} (c : Cok X gi k N_is_list_up_to sc_is_list_up_to) (hf : ∀ x, X.fn x = true) (hp : PassesOwn (model X.prog X.w) X.A X.env X.xe) (hz : X.stack = X.env :: X.outer ∧ X.env.frame = some X.env.locals) : SemB X gi k (defBody s_is_list_up_to) b_is_list_up_to := (semb_cons (sems_ret (sem_and (sem_isi (c.b rfl (List.mem_of_getElem? (i := 4) rfl)) (c.b rfl (List.mem_of_getElem? (i := 6) rfl)) (sem_v (c.nm (i := 0) rfl (by walk_at "vi"))) rfl rfl rfl) (sem_one (sem_cmp leC (sem_b1 (c.b rfl (List.mem_of_getElem? (i := 5) rfl)) lenS (sem_v (c.nm (i := 0) rfl (by walk_at "vi"))) rfl) (sem_v (c.nm (i := 1) rfl (by walk_at "vi"))) rfl)))) semb_nil)
theorem sb_first_not_whole {X : Cx} {k : Nat} (c : Cok X gi k N_first_not_whole sc_first_not_whole) (hf : ∀ x, X.fn x = true) (hp : PassesOwn (model X.prog X.w) X.A X.env X.xe) (hz : X.stack = X.env :: X.outer ∧ X.env.frame = some X.env.locals) : SemB X gi k (defBody s_first_not_whole) b_first_not_whole := (semb_cons (sems_for (cc := false) hp c.calm (semi_en (c.gl rfl) (c.bi _ (List.mem_of_getElem? (i := 2) rfl)) (sem_v (c.nm (i := 0) rfl (by walk_at "vi"))) rfl) (semg_tu c.calm (semgs_cons (c.nl hf (i := 1) rfl (by walk_at "vi")) (semgs_cons (c.nl hf (i := 2) rfl (by walk_at "vi")) semgs_nil rfl) rfl) rfl rfl) (show SemB X gi k _ b_first_not_whole_0 from (semb_cons (sems_if (semt_not (semt_val (sem_call (n := n_is_whole) (ar := [.inl 0]) c rfl rfl rfl (List.mem_of_getElem? (i := 0) rfl) (sclOk rfl) rfl (sea_cons (sem_v (c.nm (i := 2) rfl (by walk_at "vi"))) sea_nil rfl) rfl rfl rfl rfl) (fun _ => rfl))) (semb_cons (sems_ret (sem_v (c.nm (i := 1) rfl (by walk_at "vi")))) semb_nil) semb_nil) semb_nil)) (fun _ => rfl)) (semb_cons (sems_ret sem_non) semb_nil))
theorem sb_check_values {X : Cx} {k : Nat} (c : Cok X gi k N_check_values sc_check_values) (hf : ∀ x, X.fn x = true) (hp : PassesOwn (model X.prog X.w) X.A X.env X.xe) (hz : X.stack = X.env :: X.outer ∧ X.env.frame = some X.env.locals) : SemB X gi k (defBody s_check_values) b_check_values := (semb_cons (sems_if (semt_not (semt_val (sem_call (n := n_is_list_up_to) (ar := [.inl 0, .inl 1]) c rfl rfl rfl (List.mem_of_getElem? (i := 0) rfl) (sclOk rfl) rfl (sea_cons (sem_v (c.nm (i := 0) rfl (by walk_at "vi"))) (sea_cons (sem_gk c rfl (List.mem_of_getElem? (i := 0) rfl)) sea_nil rfl) rfl) rfl rfl rfl rfl) (fun _ => rfl))) (semb_cons (sems_raise (x := ⟨n_InvalidValues, "InvalidValues", "index"⟩) c (List.mem_of_getElem? (i := 0) rfl) rfl rfl sem_non rfl rfl) semb_nil) semb_nil) (semb_cons (sems_set (c.nl hf (i := 1) rfl (by walk_at "vi")) (sem_call (n := n_first_not_whole) (ar := [.inl 0]) c rfl rfl rfl (List.mem_of_getElem? (i := 0) rfl) (sclOk rfl) rfl (sea_cons (sem_v (c.nm (i := 0) rfl (by walk_at "vi"))) sea_nil rfl) rfl rfl rfl rfl) rfl) (semb_cons (sems_if (semt_cmp isnC (sem_v (c.nm (i := 1) rfl (by walk_at "vi"))) sem_non rfl) (semb_cons (sems_raise (x := ⟨n_InvalidValues, "InvalidValues", "index"⟩) c (List.mem_of_getElem? (i := 0) rfl) rfl rfl (sem_v (c.nm (i := 1) rfl (by walk_at "vi"))) rfl rfl) semb_nil) semb_nil) semb_nil)))
theorem sb_after_doublet_pass {X : Cx} {k : Nat} (c : Cok X gi k N_after_doublet_pass sc_after_doublet_pass) (hf : ∀ x, X.fn x = true) (hp : PassesOwn (model X.prog X.w) X.A X.env X.xe) (hz : X.stack = X.env :: X.outer ∧ X.env.frame = some X.env.locals) : SemB X gi k (defBody s_after_doublet_pass) b_after_doublet_pass := (semb_cons (sems_expr (sem_call (n := n_check_values) (ar := [.inl 0]) c rfl rfl rfl (List.mem_of_getElem? (i := 0) rfl) (sclOk rfl) rfl (sea_cons (sem_v (c.nm (i := 0) rfl (by walk_at "vi"))) sea_nil rfl) rfl rfl rfl rfl) rfl) (semb_cons (sems_sett (semg_tu c.calm (semgs_cons (c.nl hf (i := 1) rfl (by walk_at "vi")) (semgs_cons (c.nl hf (i := 2) rfl (by walk_at "vi")) semgs_nil rfl) rfl) rfl rfl) (sem_call (n := n_rest_and_visits) (ar := [.inl 0]) c rfl rfl rfl (List.mem_of_getElem? (i := 0) rfl) (sclOk rfl) rfl (sea_cons (sem_v (c.nm (i := 0) rfl (by walk_at "vi"))) sea_nil rfl) rfl rfl rfl rfl) rfl rfl rfl) (semb_cons (sems_ret (sem_v (c.nm (i := 1) rfl (by walk_at "vi")))) semb_nil)))
theorem sb_doublet_visits {X : Cx} {k : Nat} (c : Cok X gi k N_doublet_visits sc_doublet_visits) (hf : ∀ x, X.fn x = true) (hp : PassesOwn (model X.prog X.w) X.A X.env X.xe) (hz : X.stack = X.env :: X.outer ∧ X.env.frame = some X.env.locals) : SemB X gi k (defBody s_doublet_visits) b_doublet_visits := (semb_cons (sems_expr (sem_call (n := n_check_values) (ar := [.inl 0]) c rfl rfl rfl (List.mem_of_getElem? (i := 0) rfl) (sclOk rfl) rfl (sea_cons (sem_v (c.nm (i := 0) rfl (by walk_at "vi"))) sea_nil rfl) rfl rfl rfl rfl) rfl) (semb_cons (sems_sett (semg_tu c.calm (semgs_cons (c.nl hf (i := 1) rfl (by walk_at "vi")) (semgs_cons (c.nl hf (i := 2) rfl (by walk_at "vi")) semgs_nil rfl) rfl) rfl rfl) (sem_call (n := n_rest_and_visits) (ar := [.inl 0]) c rfl rfl rfl (List.mem_of_getElem? (i := 0) rfl) (sclOk rfl) rfl (sea_cons (sem_v (c.nm (i := 0) rfl (by walk_at "vi"))) sea_nil rfl) rfl rfl rfl rfl) rfl rfl rfl) (semb_cons (sems_ret (sem_v (c.nm (i := 2) rfl (by walk_at "vi")))) semb_nil)))
theorem sb_comes_out_right {X : Cx} {k : Nat} (c : Cok X gi k N_comes_out_right sc_comes_out_right) (hf : ∀ x, X.fn x = true) (hp : PassesOwn (model X.prog X.w) X.A X.env X.xe) (hz : X.stack = X.env :: X.outer ∧ X.env.frame = some X.env.locals) : SemB X gi k (defBody s_comes_out_right) b_comes_out_right := (semb_cons (sems_expr (sem_call (n := n_check_values) (ar := [.inl 0]) c rfl rfl rfl (List.mem_of_getElem? (i := 0) rfl) (sclOk rfl) rfl (sea_cons (sem_v (c.nm (i := 0) rfl (by walk_at "vi"))) sea_nil rfl) rfl rfl rfl rfl) rfl) (semb_cons (sems_ret (sem_call (n := n_is_right) (ar := [.inl 0]) c rfl rfl rfl (List.mem_of_getElem? (i := 0) rfl) (sclOk rfl) rfl (sea_cons (sem_v (c.nm (i := 0) rfl (by walk_at "vi"))) sea_nil rfl) rfl rfl rfl rfl)) semb_nil))
theorem sb_rest_and_visits {X : Cx} {k : Nat} (c : Cok X gi k N_rest_and_visits sc_rest_and_visits) (hf : ∀ x, X.fn x = true) (hp : PassesOwn (model X.prog X.w) X.A X.env X.xe) (hz : X.stack = X.env :: X.outer ∧ X.env.frame = some X.env.locals) : SemB X gi k (defBody s_rest_and_visits) b_rest_and_visits := (semb_cons (sems_set (c.nl hf (i := 1) rfl (by walk_at "vi")) (sem_t1 (c.b rfl (List.mem_of_getElem? (i := 6) rfl)) (listS c.calm) (sem_v (c.nm (i := 0) rfl (by walk_at "vi"))) rfl) rfl) (semb_cons (sems_set (c.nl hf (i := 2) rfl (by walk_at "vi")) (sem_lst sea_nil (Nat.le_of_ble_eq_true rfl)) rfl) (semb_cons (sems_set (c.nl hf (i := 3) rfl (by walk_at "vi")) sem_int rfl) (semb_cons (sems_while (cc := false) hp (show SemT X gi k _ t_rest_and_visits_0 from (semt_cmp ltC (sem_v (c.nm (i := 3) rfl (by walk_at "vi"))) (sem_b1 (c.b rfl (List.mem_of_getElem? (i := 5) rfl)) lenS (sem_v (c.nm (i := 1) rfl (by walk_at "vi"))) rfl) rfl)) (show SemB X gi k _ b_rest_and_visits_0 from (semb_cons (sems_expr (sem_me met_append PySem.F.slot_list_append PySem.F.type_list_append (sem_v (c.nm (i := 2) rfl (by walk_at "vi"))) (sea_cons (sem_bin op_subS (sem_bin op_addS (sem_v (c.nm (i := 3) rfl (by walk_at "vi"))) (sem_b1 (c.b rfl (List.mem_of_getElem? (i := 5) rfl)) lenS (sem_v (c.nm (i := 0) rfl (by walk_at "vi"))) rfl)) (sem_b1 (c.b rfl (List.mem_of_getElem? (i := 5) rfl)) lenS (sem_v (c.nm (i := 1) rfl (by walk_at "vi"))) rfl)) sea_nil rfl) rfl rfl rfl rfl rfl) rfl) (semb_cons (sems_set (c.nl hf (i := 4) rfl (by walk_at "vi")) (sem_ix c.un (sem_v (c.nm (i := 1) rfl (by walk_at "vi"))) (sem_v (c.nm (i := 3) rfl (by walk_at "vi"))) (fun _ _ => rfl)) rfl) (semb_cons (sems_if (semt_cmp gtC (sem_me met_count PySem.F.slot_list_count PySem.F.type_list_count (sem_v (c.nm (i := 1) rfl (by walk_at "vi"))) (sea_cons (sem_v (c.nm (i := 4) rfl (by walk_at "vi"))) sea_nil rfl) rfl rfl rfl rfl rfl) sem_int rfl) (semb_cons (sems_expr (sem_me met_remove PySem.F.slot_list_remove PySem.F.type_list_remove (sem_v (c.nm (i := 1) rfl (by walk_at "vi"))) (sea_cons (sem_v (c.nm (i := 4) rfl (by walk_at "vi"))) sea_nil rfl) rfl rfl rfl rfl rfl) rfl) semb_nil) semb_nil) (semb_cons (sems_aug (c.nl hf (i := 3) rfl (by walk_at "vi")) aug_add sem_int) semb_nil)))))) (semb_cons (sems_ret (sem_tup (sea_cons (sem_v (c.nm (i := 1) rfl (by walk_at "vi"))) (sea_cons (sem_v (c.nm (i := 2) rfl (by walk_at "vi"))) sea_nil rfl) rfl) (Nat.le_of_ble_eq_true rfl))) semb_nil)))))
theorem sb_has_doublets {X : Cx} {k : Nat} (c : Cok X gi k N_has_doublets sc_has_doublets) (hf : ∀ x, X.fn x = true) (hp : PassesOwn (model X.prog X.w) X.A X.env X.xe) (hz : X.stack = X.env :: X.outer ∧ X.env.frame = some X.env.locals) : SemB X gi k (defBody s_has_doublets) b_has_doublets := (semb_cons (sems_ret (sem_cmp ltC (sem_slen c.calm (c.b rfl (List.mem_of_getElem? (i := 5) rfl)) (c.b rfl (List.mem_of_getElem? (i := 9) rfl)) (sem_v (c.nm (i := 0) rfl (by walk_at "vi"))) rfl rfl) (sem_b1 (c.b rfl (List.mem_of_getElem? (i := 5) rfl)) lenS (sem_v (c.nm (i := 0) rfl (by walk_at "vi"))) rfl) rfl)) semb_nil)
theorem sb_is_right {X : Cx} {k : Nat} (c : Cok X gi k N_is_right sc_is_right) (hf : ∀ x, X.fn x = true) (hp : PassesOwn (model X.prog X.w) X.A X.env X.xe) (hz : X.stack = X.env :: X.outer ∧ X.env.frame = some X.env.locals) : SemB X gi k (defBody s_is_right) b_is_right := (semb_cons (sems_sett (semg_tu c.calm (semgs_cons (c.nl hf (i := 1) rfl (by walk_at "vi")) (semgs_cons (c.nl hf (i := 2) rfl (by walk_at "vi")) semgs_nil rfl) rfl) rfl rfl) (sem_call (n := n_rest_and_visits) (ar := [.inl 0]) c rfl rfl rfl (List.mem_of_getElem? (i := 0) rfl) (sclOk rfl) rfl (sea_cons (sem_v (c.nm (i := 0) rfl (by walk_at "vi"))) sea_nil rfl) rfl rfl rfl rfl) rfl rfl rfl) (semb_cons (sems_ret (sem_not (sem_call (n := n_has_doublets) (ar := [.inl 0]) c rfl rfl rfl (List.mem_of_getElem? (i := 0) rfl) (sclOk rfl) rfl (sea_cons (sem_v (c.nm (i := 1) rfl (by walk_at "vi"))) sea_nil rfl) rfl rfl rfl rfl))) semb_nil))
theorem sb_draws {X : Cx} {k : Nat} (c : Cok X gi k N_draws sc_draws) (hf : ∀ x, X.fn x = true) (hp : PassesOwn (model X.prog X.w) X.A X.env X.xe) (hz : X.stack = X.env :: X.outer ∧ X.env.frame = some X.env.locals) : SemB X gi k (defBody s_draws) b_draws := (semb_cons (sems_ret (sem_lst (sea_cons (sem_bin op_modS (sem_t1 (c.b rfl (List.mem_of_getElem? (i := 3) rfl)) intS (sem_v (c.nm (i := 0) rfl (by walk_at "vi"))) rfl) (sem_bin op_powS (sem_bin op_powS (sem_bin op_powS sem_int sem_int) sem_int) sem_int)) (sea_cons sem_int (sea_cons (sem_cmp geC (sem_v (c.nm (i := 0) rfl (by walk_at "vi"))) (sem_bin op_powS sem_int sem_int) rfl) sea_nil rfl) rfl) rfl) (Nat.le_of_ble_eq_true rfl))) semb_nil)
theorem sb_next {X : Cx} {k : Nat} (c : Cok X gi k N_next sc_next) (hf : ∀ x, X.fn x = true) (hp : PassesOwn (model X.prog X.w) X.A X.env X.xe) (hz : X.stack = X.env :: X.outer ∧ X.env.frame = some X.env.locals) : SemB X gi k (defBody s_next) b_next := (semb_cons (sems_sti c.un (sem_v (c.nm (i := 0) rfl (by walk_at "vi"))) sem_int (sem_bin op_addS (sem_ix c.un (sem_v (c.nm (i := 0) rfl (by walk_at "vi"))) sem_int (fun _ _ => rfl)) sem_int) rfl rfl rfl (fun _ => rfl)) (semb_cons (sems_set (c.nl hf (i := 1) rfl (by walk_at "vi")) (sem_ix c.un (sem_v (c.nm (i := 0) rfl (by walk_at "vi"))) sem_int (fun _ _ => rfl)) rfl) (semb_cons (sems_if (semt_val (sem_ix c.un (sem_v (c.nm (i := 0) rfl (by walk_at "vi"))) sem_int (fun _ _ => rfl)) (fun _ => rfl)) (semb_cons (sems_set (c.nl hf (i := 2) rfl (by walk_at "vi")) (sem_bin op_modS (sem_t1 (c.b rfl (List.mem_of_getElem? (i := 3) rfl)) intS (sem_ix c.un (sem_v (c.nm (i := 0) rfl (by walk_at "vi"))) sem_int (fun _ _ => rfl)) rfl) (sem_bin op_powS sem_int sem_int)) rfl) (semb_cons (sems_sti c.un (sem_v (c.nm (i := 0) rfl (by walk_at "vi"))) sem_int (sem_bin op_fdivS (sem_ix c.un (sem_v (c.nm (i := 0) rfl (by walk_at "vi"))) sem_int (fun _ _ => rfl)) (sem_bin op_powS sem_int sem_int)) rfl rfl rfl (fun _ => rfl)) (semb_cons (sems_ret (sem_v (c.nm (i := 2) rfl (by walk_at "vi")))) semb_nil))) semb_nil) (semb_cons (sems_set (c.nl hf (i := 2) rfl (by walk_at "vi")) (sem_bin op_modS (sem_t1 (c.b rfl (List.mem_of_getElem? (i := 3) rfl)) intS (sem_bin op_mulS (sem_bin op_addS (sem_bin op_addS (sem_bin op_modS (sem_t1 (c.b rfl (List.mem_of_getElem? (i := 3) rfl)) intS (sem_ix c.un (sem_v (c.nm (i := 0) rfl (by walk_at "vi"))) sem_int (fun _ _ => rfl)) rfl) sem_int) (sem_bin op_mulS (sem_bin op_mulS (sem_v (c.nm (i := 1) rfl (by walk_at "vi"))) (sem_v (c.nm (i := 1) rfl (by walk_at "vi")))) sem_int)) (sem_v (c.nm (i := 1) rfl (by walk_at "vi")))) sem_int) rfl) sem_int) rfl) (semb_cons (sems_set (c.nl hf (i := 2) rfl (by walk_at "vi")) (sem_bin op_modS (sem_t1 (c.b rfl (List.mem_of_getElem? (i := 3) rfl)) intS (sem_bin op_mulS (sem_v (c.nm (i := 2) rfl (by walk_at "vi"))) (sem_v (c.nm (i := 2) rfl (by walk_at "vi")))) rfl) sem_int) rfl) (semb_cons (sems_ret (sem_bin op_fdivS (sem_bin op_modS (sem_t1 (c.b rfl (List.mem_of_getElem? (i := 3) rfl)) intS (sem_bin op_mulS (sem_v (c.nm (i := 2) rfl (by walk_at "vi"))) (sem_bin op_addS (sem_v (c.nm (i := 2) rfl (by walk_at "vi"))) sem_int)) rfl) sem_int) sem_int)) semb_nil))))))
theorem sb_walked {X : Cx} {k : Nat} (c : Cok X gi k N_walked sc_walked) (hf : ∀ x, X.fn x = true) (hp : PassesOwn (model X.prog X.w) X.A X.env X.xe) (hz : X.stack = X.env :: X.outer ∧ X.env.frame = some X.env.locals) : SemB X gi k (defBody s_walked) b_walked := (semb_cons (sems_setLc (own := [("_law_place", 6), ("_law_value", 4)]) c.calm (by show X.N.Nodup; rw [c.n]; exact c.nd) (by rw [c.n]; rfl) (by rw [c.s]; rfl) (swaps_of c.s rfl) (by rw [c.n, c.s]; exact blkOk_by rfl) rfl (semi_en (c.gl rfl) (c.bi _ (List.mem_of_getElem? (i := 2) rfl)) (sem_v (c.nm (i := 0) rfl (by walk_at "vi"))) rfl) (fun s1 h1 c1 l1 p1 => (semg_tu (c.blk s1 h1 c1 l1 p1).calm (semgs_cons ((c.blk s1 h1 c1 l1 p1).nlB (i := 6) rfl rfl) (semgs_cons ((c.blk s1 h1 c1 l1 p1).nlB (i := 4) rfl rfl) semgs_nil rfl) rfl) rfl rfl)) (by decide) (fun s1 h1 c1 l1 p1 => semts_nil) (fun s1 h1 c1 l1 p1 => (sem_tup (sea_cons (sem_v ((c.blk s1 h1 c1 l1 p1).nm (i := 4) rfl (by walk_at "vi"))) (sea_cons (sem_v ((c.blk s1 h1 c1 l1 p1).nm (i := 6) rfl (by walk_at "vi"))) sea_nil rfl) rfl) (Nat.le_of_ble_eq_true rfl))) (fun _ => rfl)) (semb_cons (sems_set (c.nl hf (i := 2) rfl (by walk_at "vi")) (sem_lst sea_nil (Nat.le_of_ble_eq_true rfl)) rfl) (semb_cons (sems_set (c.nl hf (i := 3) rfl (by walk_at "vi")) sem_int rfl) (semb_cons (sems_while (cc := false) hp (show SemT X gi k _ t_walked_0 from (semt_cmp ltC (sem_v (c.nm (i := 3) rfl (by walk_at "vi"))) (sem_b1 (c.b rfl (List.mem_of_getElem? (i := 5) rfl)) lenS (sem_v (c.nm (i := 1) rfl (by walk_at "vi"))) rfl) rfl)) (show SemB X gi k _ b_walked_0 from (semb_cons (sems_set (c.nl hf (i := 4) rfl (by walk_at "vi")) (sem_ix c.un (sem_ix c.un (sem_v (c.nm (i := 1) rfl (by walk_at "vi"))) (sem_v (c.nm (i := 3) rfl (by walk_at "vi"))) (fun _ _ => rfl)) sem_int (fun _ _ => rfl)) rfl) (semb_cons (sems_expr (sem_me met_append PySem.F.slot_list_append PySem.F.type_list_append (sem_v (c.nm (i := 2) rfl (by walk_at "vi"))) (sea_cons (sem_ix c.un (sem_ix c.un (sem_v (c.nm (i := 1) rfl (by walk_at "vi"))) (sem_v (c.nm (i := 3) rfl (by walk_at "vi"))) (fun _ _ => rfl)) sem_int (fun _ _ => rfl)) sea_nil rfl) rfl rfl rfl rfl rfl) rfl) (semb_cons (sems_set (c.nl hf (i := 3) rfl (by walk_at "vi")) (sem_bin op_addS (sem_v (c.nm (i := 3) rfl (by walk_at "vi"))) sem_int) rfl) (semb_cons (sems_if (semt_cmp gtC (sem_b1 (c.b rfl (List.mem_of_getElem? (i := 5) rfl)) lenS (sem_lc (own := [("_law_one", 7), ("_law_place", 6)]) c.calm (by show X.N.Nodup; rw [c.n]; exact c.nd) (by rw [c.n, c.s]; exact blkOk_by rfl) rfl (semi_e (sem_v (c.nm (i := 1) rfl (by walk_at "vi")))) (fun s2 h2 c2 l2 p2 => (semg_tu (c.blk s2 h2 c2 l2 p2).calm (semgs_cons ((c.blk s2 h2 c2 l2 p2).nlB (i := 7) rfl rfl) (semgs_cons ((c.blk s2 h2 c2 l2 p2).nlB (i := 6) rfl rfl) semgs_nil rfl) rfl) rfl rfl)) (by decide) (fun s2 h2 c2 l2 p2 => (semts_one (semt_cmp (eqC (c.blk s2 h2 c2 l2 p2).un) (sem_v ((c.blk s2 h2 c2 l2 p2).nm (i := 7) rfl (by walk_at "vi"))) (sem_v ((c.blk s2 h2 c2 l2 p2).nm (i := 4) rfl (by walk_at "vi"))) rfl))) (fun s2 h2 c2 l2 p2 => (sem_v ((c.blk s2 h2 c2 l2 p2).nm (i := 7) rfl (by walk_at "vi")))) (fun _ => rfl)) rfl) sem_int rfl) (semb_cons (sems_set (c.nl hf (i := 5) rfl (by walk_at "vi")) (sem_ix c.un (sem_lc (own := [("_law_spot", 8), ("_law_pair", 9)]) c.calm (by show X.N.Nodup; rw [c.n]; exact c.nd) (by rw [c.n, c.s]; exact blkOk_by rfl) rfl (semi_en (c.gl rfl) (c.bi _ (List.mem_of_getElem? (i := 2) rfl)) (sem_v (c.nm (i := 1) rfl (by walk_at "vi"))) rfl) (fun s3 h3 c3 l3 p3 => (semg_tu (c.blk s3 h3 c3 l3 p3).calm (semgs_cons ((c.blk s3 h3 c3 l3 p3).nlB (i := 8) rfl rfl) (semgs_cons ((c.blk s3 h3 c3 l3 p3).nlB (i := 9) rfl rfl) semgs_nil rfl) rfl) rfl rfl)) (by decide) (fun s3 h3 c3 l3 p3 => (semts_one (semt_cmp (eqC (c.blk s3 h3 c3 l3 p3).un) (sem_ix (c.blk s3 h3 c3 l3 p3).un (sem_v ((c.blk s3 h3 c3 l3 p3).nm (i := 9) rfl (by walk_at "vi"))) sem_int (fun _ _ => rfl)) (sem_v ((c.blk s3 h3 c3 l3 p3).nm (i := 4) rfl (by walk_at "vi"))) rfl))) (fun s3 h3 c3 l3 p3 => (sem_v ((c.blk s3 h3 c3 l3 p3).nm (i := 8) rfl (by walk_at "vi")))) (fun _ => rfl)) sem_int (fun _ _ => rfl)) rfl) (semb_cons (sems_set (c.nl hf (i := 1) rfl (by walk_at "vi")) (sem_bin op_addS (sem_sl (sem_v (c.nm (i := 1) rfl (by walk_at "vi"))) semo_none (semo_some (sem_v (c.nm (i := 5) rfl (by walk_at "vi"))))) (sem_sl (sem_v (c.nm (i := 1) rfl (by walk_at "vi"))) (semo_some (sem_bin op_addS (sem_v (c.nm (i := 5) rfl (by walk_at "vi"))) sem_int)) semo_none)) rfl) semb_nil)) semb_nil) semb_nil)))))) (semb_cons (sems_ret (sem_tup (sea_cons (sem_v (c.nm (i := 2) rfl (by walk_at "vi"))) (sea_cons (sem_lc (own := [("_law_value", 4), ("_law_place", 6)]) c.calm (by show X.N.Nodup; rw [c.n]; exact c.nd) (by rw [c.n, c.s]; exact blkOk_by rfl) rfl (semi_e (sem_v (c.nm (i := 1) rfl (by walk_at "vi")))) (fun s4 h4 c4 l4 p4 => (semg_tu (c.blk s4 h4 c4 l4 p4).calm (semgs_cons ((c.blk s4 h4 c4 l4 p4).nlB (i := 4) rfl rfl) (semgs_cons ((c.blk s4 h4 c4 l4 p4).nlB (i := 6) rfl rfl) semgs_nil rfl) rfl) rfl rfl)) (by decide) (fun s4 h4 c4 l4 p4 => semts_nil) (fun s4 h4 c4 l4 p4 => (sem_v ((c.blk s4 h4 c4 l4 p4).nm (i := 4) rfl (by walk_at "vi")))) (fun _ => rfl)) sea_nil rfl) rfl) (Nat.le_of_ble_eq_true rfl))) semb_nil)))))
theorem sb_values {X : Cx} {k : Nat} (c : Cok X gi k N_values sc_values) (hf : ∀ x, X.fn x = true) (hp : PassesOwn (model X.prog X.w) X.A X.env X.xe) (hz : X.stack = X.env :: X.outer ∧ X.env.frame = some X.env.locals) : SemB X gi k (defBody s_values) b_values := (semb_cons (sems_set (c.nl hf (i := 1) rfl (by walk_at "vi")) (sem_ix c.un (sem_lst (sea_cons sem_int (sea_cons sem_int (sea_cons sem_int (sea_cons sem_int (sea_cons sem_int sea_nil rfl) rfl) rfl) rfl) rfl) (Nat.le_of_ble_eq_true rfl)) (sem_bin op_modS (sem_t1 (c.b rfl (List.mem_of_getElem? (i := 3) rfl)) intS (sem_call (n := n_next) (ar := [.inl 0]) c rfl rfl rfl (List.mem_of_getElem? (i := 0) rfl) (sclOk rfl) rfl (sea_cons (sem_v (c.nm (i := 0) rfl (by walk_at "vi"))) sea_nil rfl) rfl rfl rfl rfl) rfl) sem_int) (fun _ _ => rfl)) rfl) (semb_cons (sems_set (c.nl hf (i := 2) rfl (by walk_at "vi")) (sem_ix c.un (sem_lst (sea_cons sem_int (sea_cons sem_int (sea_cons (sem_bin op_powS sem_int sem_int) sea_nil rfl) rfl) rfl) (Nat.le_of_ble_eq_true rfl)) (sem_bin op_modS (sem_t1 (c.b rfl (List.mem_of_getElem? (i := 3) rfl)) intS (sem_call (n := n_next) (ar := [.inl 0]) c rfl rfl rfl (List.mem_of_getElem? (i := 0) rfl) (sclOk rfl) rfl (sea_cons (sem_v (c.nm (i := 0) rfl (by walk_at "vi"))) sea_nil rfl) rfl rfl rfl rfl) rfl) sem_int) (fun _ _ => rfl)) rfl) (semb_cons (sems_set (c.nl hf (i := 3) rfl (by walk_at "vi")) (sem_ix c.un (sem_lst (sea_cons sem_int (sea_cons sem_int (sea_cons sem_int sea_nil rfl) rfl) rfl) (Nat.le_of_ble_eq_true rfl)) (sem_bin op_modS (sem_t1 (c.b rfl (List.mem_of_getElem? (i := 3) rfl)) intS (sem_call (n := n_next) (ar := [.inl 0]) c rfl rfl rfl (List.mem_of_getElem? (i := 0) rfl) (sclOk rfl) rfl (sea_cons (sem_v (c.nm (i := 0) rfl (by walk_at "vi"))) sea_nil rfl) rfl rfl rfl rfl) rfl) sem_int) (fun _ _ => rfl)) rfl) (semb_cons (sems_ret (sem_lc (own := [("_law_turn", 4)]) c.calm (by show X.N.Nodup; rw [c.n]; exact c.nd) (by rw [c.n, c.s]; exact blkOk_by rfl) rfl (semi_r1 (c.gl rfl) (c.bi _ (List.mem_of_getElem? (i := 7) rfl)) (sem_bin op_modS (sem_t1 (c.b rfl (List.mem_of_getElem? (i := 3) rfl)) intS (sem_call (n := n_next) (ar := [.inl 0]) c rfl rfl rfl (List.mem_of_getElem? (i := 0) rfl) (sclOk rfl) rfl (sea_cons (sem_v (c.nm (i := 0) rfl (by walk_at "vi"))) sea_nil rfl) rfl rfl rfl rfl) rfl) (sem_bin op_addS (sem_v (c.nm (i := 3) rfl (by walk_at "vi"))) sem_int)) rfl) (fun s5 h5 c5 l5 p5 => (semg_nm ((c.blk s5 h5 c5 l5 p5).nlB (i := 4) rfl rfl))) (by decide) (fun s5 h5 c5 l5 p5 => semts_nil) (fun s5 h5 c5 l5 p5 => (sem_bin op_mulS (sem_bin op_subS (sem_bin op_modS (sem_t1 ((c.blk s5 h5 c5 l5 p5).b rfl (List.mem_of_getElem? (i := 3) rfl)) intS (sem_call (n := n_next) (ar := [.inl 0]) (c.blk s5 h5 c5 l5 p5) rfl rfl rfl (List.mem_of_getElem? (i := 0) rfl) (sclOk rfl) rfl (sea_cons (sem_v ((c.blk s5 h5 c5 l5 p5).nm (i := 0) rfl (by walk_at "vi"))) sea_nil rfl) rfl rfl rfl rfl) rfl) (sem_v ((c.blk s5 h5 c5 l5 p5).nm (i := 1) rfl (by walk_at "vi")))) sem_int) (sem_v ((c.blk s5 h5 c5 l5 p5).nm (i := 2) rfl (by walk_at "vi"))))) (fun _ => rfl))) semb_nil))))
theorem sb_kept {X : Cx} {k : Nat} (c : Cok X gi k N_kept sc_kept) (hf : ∀ x, X.fn x = true) (hp : PassesOwn (model X.prog X.w) X.A X.env X.xe) (hz : X.stack = X.env :: X.outer ∧ X.env.frame = some X.env.locals) : SemB X gi k (defBody s_kept) b_kept := (semb_cons (sems_set (c.nl hf (i := 1) rfl (by walk_at "vi")) sem_non rfl) (semb_cons sems_never (semb_cons (sems_ret (sem_ife (semt_w (semw_or (semt_cmp isC (sem_v (c.nm (i := 1) rfl (by walk_at "vi"))) sem_non rfl) (semw_or1 (semt_not (semt_val (sem_isxV (ns := [n_InvalidValues]) (c.nm (i := 1) rfl (by walk_at "vi")) (c.b rfl (List.mem_of_getElem? (i := 4) rfl)) (c.b rfl (List.mem_of_getElem? (i := 0) rfl)) (List.forall_mem_cons.mpr ⟨⟨"InvalidValues", "index", (List.mem_of_getElem? (i := 0) rfl)⟩, (fun _ h => nomatch h)⟩) rfl rfl rfl) (fun _ => rfl)))))) sem_str (sem_rd c (c.b rfl (List.mem_of_getElem? (i := 8) rfl)) (sem_attr (ns := [n_InvalidValues]) (c.nm (i := 1) rfl (by walk_at "vi")) (List.forall_mem_cons.mpr ⟨⟨"InvalidValues", (List.mem_of_getElem? (i := 0) rfl)⟩, (fun _ h => nomatch h)⟩) rfl) rfl))) semb_nil)))
theorem sb_right {X : Cx} {k : Nat} (c : Cok X gi k N_right sc_right) (hf : ∀ x, X.fn x = true) (hp : PassesOwn (model X.prog X.w) X.A X.env X.xe) (hz : X.stack = X.env :: X.outer ∧ X.env.frame = some X.env.locals) : SemB X gi k (defBody s_right) b_right := (semb_cons (sems_set (c.nl hf (i := 1) rfl (by walk_at "vi")) (sem_rd c (c.b rfl (List.mem_of_getElem? (i := 8) rfl)) (sem_v (c.nm (i := 0) rfl (by walk_at "vi"))) rfl) rfl) (semb_cons (sems_sett (semg_tu c.calm (semgs_cons (c.nl hf (i := 2) rfl (by walk_at "vi")) (semgs_cons (c.nl hf (i := 3) rfl (by walk_at "vi")) semgs_nil rfl) rfl) rfl rfl) (sem_call (n := n_walked) (ar := [.inl 0]) c rfl rfl rfl (List.mem_of_getElem? (i := 0) rfl) (sclOk rfl) rfl (sea_cons (sem_v (c.nm (i := 0) rfl (by walk_at "vi"))) sea_nil rfl) rfl rfl rfl rfl) rfl rfl rfl) (semb_cons (sems_set (c.nl hf (i := 4) rfl (by walk_at "vi")) (sem_lst (sea_cons (sem_v (c.nm (i := 3) rfl (by walk_at "vi"))) (sea_cons (sem_v (c.nm (i := 2) rfl (by walk_at "vi"))) (sea_cons (sem_cmp (eqC c.un) (sem_slen c.calm (c.b rfl (List.mem_of_getElem? (i := 5) rfl)) (c.b rfl (List.mem_of_getElem? (i := 9) rfl)) (sem_v (c.nm (i := 3) rfl (by walk_at "vi"))) rfl rfl) (sem_b1 (c.b rfl (List.mem_of_getElem? (i := 5) rfl)) lenS (sem_v (c.nm (i := 3) rfl (by walk_at "vi"))) rfl) rfl) sea_nil rfl) rfl) rfl) (Nat.le_of_ble_eq_true rfl)) rfl) (semb_cons (sems_for (cc := true) hp c.calm (semi_r1 (c.gl rfl) (c.bi _ (List.mem_of_getElem? (i := 7) rfl)) sem_int rfl) (semg_nm (c.nl hf (i := 5) rfl (by walk_at "vi"))) (show SemB X gi k _ b_right_0 from (semb_cons (sems_set (c.nl hf (i := 6) rfl (by walk_at "vi")) (sem_lst (sea_cons (sem_call (n := n_after_doublet_pass) (ar := [.inl 0]) c rfl rfl rfl (List.mem_of_getElem? (i := 0) rfl) (sclOk rfl) rfl (sea_cons (sem_v (c.nm (i := 0) rfl (by walk_at "vi"))) sea_nil rfl) rfl rfl rfl rfl) (sea_cons (sem_call (n := n_doublet_visits) (ar := [.inl 0]) c rfl rfl rfl (List.mem_of_getElem? (i := 0) rfl) (sclOk rfl) rfl (sea_cons (sem_v (c.nm (i := 0) rfl (by walk_at "vi"))) sea_nil rfl) rfl rfl rfl rfl) (sea_cons (sem_call (n := n_comes_out_right) (ar := [.inl 0]) c rfl rfl rfl (List.mem_of_getElem? (i := 0) rfl) (sclOk rfl) rfl (sea_cons (sem_v (c.nm (i := 0) rfl (by walk_at "vi"))) sea_nil rfl) rfl rfl rfl rfl) sea_nil rfl) rfl) rfl) (Nat.le_of_ble_eq_true rfl)) rfl) (semb_cons (sems_if (semt_w (semw_or (semt_cmp (neC c.un) (sem_rd c (c.b rfl (List.mem_of_getElem? (i := 8) rfl)) (sem_v (c.nm (i := 6) rfl (by walk_at "vi"))) rfl) (sem_rd c (c.b rfl (List.mem_of_getElem? (i := 8) rfl)) (sem_v (c.nm (i := 4) rfl (by walk_at "vi"))) rfl) rfl) (semw_or1 (semt_cmp (neC c.un) (sem_rd c (c.b rfl (List.mem_of_getElem? (i := 8) rfl)) (sem_v (c.nm (i := 0) rfl (by walk_at "vi"))) rfl) (sem_v (c.nm (i := 1) rfl (by walk_at "vi"))) rfl)))) (semb_cons (sems_ret sem_bl) semb_nil) semb_nil) (semb_cons (sems_settl c.calm (semgs_cons (c.nl hf (i := 7) rfl (by walk_at "vi")) (semgs_cons (c.nl hf (i := 8) rfl (by walk_at "vi")) (semgs_cons (c.nl hf (i := 9) rfl (by walk_at "vi")) semgs_nil rfl) rfl) rfl) rfl rfl (sem_v (c.nm (i := 6) rfl (by walk_at "vi"))) rfl rfl rfl) (semb_cons (sems_expr (sem_me met_append PySem.F.slot_list_append PySem.F.type_list_append (sem_v (c.nm (i := 7) rfl (by walk_at "vi"))) (sea_cons sem_non sea_nil rfl) rfl rfl rfl rfl rfl) rfl) (semb_cons (sems_expr (sem_me met_append PySem.F.slot_list_append PySem.F.type_list_append (sem_v (c.nm (i := 8) rfl (by walk_at "vi"))) (sea_cons sem_non sea_nil rfl) rfl rfl rfl rfl rfl) rfl) semb_nil)))))) (fun _ => rfl)) (semb_cons (sems_set (c.nl hf (i := 10) rfl (by walk_at "vi")) (sem_lst (sea_cons (sem_callK0 (n := n_after_doublet_pass) (ar := [.inl 0]) c rfl rfl rfl (List.mem_of_getElem? (i := 1) rfl) (sclOk rfl) rfl (sek_cons (sem_v (c.nm (i := 0) rfl (by walk_at "vi"))) sek_nil) rfl rfl rfl rfl rfl) (sea_cons (sem_callK0 (n := n_doublet_visits) (ar := [.inl 0]) c rfl rfl rfl (List.mem_of_getElem? (i := 1) rfl) (sclOk rfl) rfl (sek_cons (sem_v (c.nm (i := 0) rfl (by walk_at "vi"))) sek_nil) rfl rfl rfl rfl rfl) (sea_cons (sem_callK0 (n := n_comes_out_right) (ar := [.inl 0]) c rfl rfl rfl (List.mem_of_getElem? (i := 1) rfl) (sclOk rfl) rfl (sek_cons (sem_v (c.nm (i := 0) rfl (by walk_at "vi"))) sek_nil) rfl rfl rfl rfl rfl) sea_nil rfl) rfl) rfl) (Nat.le_of_ble_eq_true rfl)) rfl) (semb_cons (sems_ret (sem_and (sem_cmp (eqC c.un) (sem_v (c.nm (i := 10) rfl (by walk_at "vi"))) (sem_v (c.nm (i := 4) rfl (by walk_at "vi"))) rfl) (sem_one (sem_cmp (eqC c.un) (sem_rd c (c.b rfl (List.mem_of_getElem? (i := 8) rfl)) (sem_v (c.nm (i := 0) rfl (by walk_at "vi"))) rfl) (sem_v (c.nm (i := 1) rfl (by walk_at "vi"))) rfl)))) semb_nil))))))
theorem sb_refusals_right {X : Cx} {k : Nat} (c : Cok X gi k N_refusals_right sc_refusals_right) (hf : ∀ x, X.fn x = true) (hp : PassesOwn (model X.prog X.w) X.A X.env X.xe) (hz : X.stack = X.env :: X.outer ∧ X.env.frame = some X.env.locals) (hM : MkD X k "_law_refusals_right" "_law_refusals_right.<locals>.<lambda>") (hK_kept : KtD X "_law_kept" (defArgs s_kept) (defBody s_kept) sc_kept) : SemB X gi k (defBody s_refusals_right) b_refusals_right := (semb_cons (sems_set (c.nl hf (i := 2) rfl (by walk_at "vi")) (sem_sl (sem_v (c.nm (i := 1) rfl (by walk_at "vi"))) semo_none (semo_some sem_int)) rfl) (semb_cons (sems_setLc (own := [("_law_thing", 5)]) c.calm (by show X.N.Nodup; rw [c.n]; exact c.nd) (by rw [c.n]; rfl) (by rw [c.s]; rfl) (swaps_of c.s rfl) (by rw [c.n, c.s]; exact blkOk_by rfl) rfl (semi_e (sem_fzE (sem_lst (sea_cons sem_non (sea_cons (sem_tup sea_nil (Nat.le_of_ble_eq_true rfl)) (sea_cons sem_str (sea_cons sem_str (sea_cons sem_dict0 (sea_cons sem_int (sea_cons (sem_tupl (c.b rfl (List.mem_of_getElem? (i := 10) rfl)) (sem_v (c.nm (i := 1) rfl (by walk_at "vi"))) rfl) (sea_cons (sem_bin op_mulS (sem_lst (sea_cons sem_int sea_nil rfl) (Nat.le_of_ble_eq_true rfl)) sem_int) (sea_cons (sem_bin op_mulS (sem_lst (sea_cons sem_non sea_nil rfl) (Nat.le_of_ble_eq_true rfl)) sem_int) sea_nil rfl) rfl) rfl) rfl) rfl) rfl) rfl) rfl) rfl) (Nat.le_of_ble_eq_true rfl)))) (fun s6 h6 c6 l6 p6 => (semg_nm ((c.blk s6 h6 c6 l6 p6).nlB (i := 5) rfl rfl))) (by decide) (fun s6 h6 c6 l6 p6 => semts_nil) (fun s6 h6 c6 l6 p6 => (sem_tup (sea_cons (sem_v ((c.blk s6 h6 c6 l6 p6).nm (i := 5) rfl (by walk_at "vi"))) (sea_cons sem_non sea_nil rfl) rfl) (Nat.le_of_ble_eq_true rfl))) (fun _ => rfl)) (semb_cons (sems_set (c.nl hf (i := 4) rfl (by walk_at "vi")) (sem_bin op_modS (sem_t1 (c.b rfl (List.mem_of_getElem? (i := 3) rfl)) intS (sem_call (n := n_next) (ar := [.inl 0]) c rfl rfl rfl (List.mem_of_getElem? (i := 0) rfl) (sclOk rfl) rfl (sea_cons (sem_v (c.nm (i := 0) rfl (by walk_at "vi"))) sea_nil rfl) rfl rfl rfl rfl) rfl) (sem_bin op_addS (sem_b1 (c.b rfl (List.mem_of_getElem? (i := 5) rfl)) lenS (sem_v (c.nm (i := 2) rfl (by walk_at "vi"))) rfl) sem_int)) rfl) (semb_cons (sems_for (cc := false) hp c.calm (semi_e (sem_fzE (sem_lst (sea_cons sem_non (sea_cons sem_bl (sea_cons sem_bl (sea_cons sem_str (sea_cons (sem_lst (sea_cons sem_int sea_nil rfl) (Nat.le_of_ble_eq_true rfl)) (sea_cons (sem_tup (sea_cons sem_int sea_nil rfl) (Nat.le_of_ble_eq_true rfl)) (sea_cons sem_dict0 sea_nil rfl) rfl) rfl) rfl) rfl) rfl) rfl) (Nat.le_of_ble_eq_true rfl)))) (semg_nm (c.nl hf (i := 5) rfl (by walk_at "vi"))) (show SemB X gi k _ b_refusals_right_0 from (semb_cons (sems_expr (sem_me met_append PySem.F.slot_list_append PySem.F.type_list_append (sem_v (c.nm (i := 3) rfl (by walk_at "vi"))) (sea_cons (sem_tup (sea_cons (sem_bin op_addS (sem_bin op_addS (sem_sl (sem_v (c.nm (i := 2) rfl (by walk_at "vi"))) semo_none (semo_some (sem_v (c.nm (i := 4) rfl (by walk_at "vi"))))) (sem_lst (sea_cons (sem_v (c.nm (i := 5) rfl (by walk_at "vi"))) (sea_cons sem_non sea_nil rfl) rfl) (Nat.le_of_ble_eq_true rfl))) (sem_sl (sem_v (c.nm (i := 2) rfl (by walk_at "vi"))) (semo_some (sem_v (c.nm (i := 4) rfl (by walk_at "vi")))) semo_none)) (sea_cons (sem_v (c.nm (i := 4) rfl (by walk_at "vi"))) sea_nil rfl) rfl) (Nat.le_of_ble_eq_true rfl)) sea_nil rfl) rfl rfl rfl rfl rfl) rfl) semb_nil)) (fun _ => rfl)) (semb_cons (sems_for (cc := false) hp c.calm (semi_e (sem_v (c.nm (i := 3) rfl (by walk_at "vi")))) (semg_tu c.calm (semgs_cons (c.nl hf (i := 6) rfl (by walk_at "vi")) (semgs_cons (c.nl hf (i := 7) rfl (by walk_at "vi")) semgs_nil rfl) rfl) rfl rfl) (show SemB X gi k _ b_refusals_right_1 from (semb_cons (sems_set (c.nl hf (i := 8) rfl (by walk_at "vi")) (sem_rd c (c.b rfl (List.mem_of_getElem? (i := 8) rfl)) (sem_v (c.nm (i := 6) rfl (by walk_at "vi"))) rfl) rfl) (semb_cons (sems_for (cc := false) hp c.calm (semi_e (sem_lst (sea_cons (sem_g c rfl (n := n_after_doublet_pass) rfl rfl) (sea_cons (sem_g c rfl (n := n_doublet_visits) rfl rfl) (sea_cons (sem_g c rfl (n := n_comes_out_right) rfl rfl) sea_nil rfl) rfl) rfl) (Nat.le_of_ble_eq_true rfl))) (semg_nm (c.nl hf (i := 9) rfl (by walk_at "vi"))) (show SemB X gi k _ b_refusals_right_2 from (semb_cons (sems_if (semt_w (semw_or (semt_cmp (neC c.un) (sem_lamK (Ng := N_kept) (a := "_law_ask") (v := "_law_error") (n := "caught") (mk := "_law_refusals_right") (nT := 19) (i1 := 2) (j1 := 1) (cs := [(n_InvalidValues, "index")]) (bg := defBody s_kept) (rest := (defBody s_kept).drop 2) c hM hK_kept rfl fs_kept rfl (by walk_at "vi") (List.mem_of_getElem? (i := 0) rfl) (LamX.lamS_by rfl) rfl (fun _ _ _ _ _ => rfl) (fun g fd F => bd_one F (L2.FunD.bindsA (ps := ["_law_ask"]) F fun _ _ _ _ _ _ us hl => match us, hl with | [_], _ => rfl)) rfl rfl rfl rfl rfl rfl rfl (by decide) rfl rfl rfl rfl (List.forall_mem_cons.mpr ⟨⟨"InvalidValues", (List.mem_of_getElem? (i := 0) rfl)⟩, (fun _ h => nomatch h)⟩) (fun Y q er c lk => test1 (nm := "InvalidValues") (y := (n_InvalidValues, "index")) c lk (List.mem_of_getElem? (i := 0) rfl) rfl rfl) (fun Y c hf hp hz => sbr_kept c hf hp hz) (fun Y cL => (sem_callv (m := 1) (ok := okv_1) (ar := [.inl 0]) cL (cL.nm (i := 9) rfl (by walk_at "vi")) (List.forall_mem_cons.mpr ⟨⟨_, rfl, (List.mem_of_getElem? (i := 0) rfl), rfl⟩, List.forall_mem_cons.mpr ⟨⟨_, rfl, (List.mem_of_getElem? (i := 0) rfl), rfl⟩, List.forall_mem_cons.mpr ⟨⟨_, rfl, (List.mem_of_getElem? (i := 0) rfl), rfl⟩, (fun _ h => nomatch h)⟩⟩⟩) (sclOk rfl) (sea_cons (sem_v (cL.nm (i := 6) rfl (by walk_at "vi"))) sea_nil rfl) rfl rfl rfl))) (sem_rd c (c.b rfl (List.mem_of_getElem? (i := 8) rfl)) (sem_v (c.nm (i := 7) rfl (by walk_at "vi"))) rfl) rfl) (semw_or1 (semt_cmp (neC c.un) (sem_rd c (c.b rfl (List.mem_of_getElem? (i := 8) rfl)) (sem_v (c.nm (i := 6) rfl (by walk_at "vi"))) rfl) (sem_v (c.nm (i := 8) rfl (by walk_at "vi"))) rfl)))) (semb_cons (sems_ret sem_bl) semb_nil) semb_nil) semb_nil)) (fun _ => rfl)) semb_nil))) (fun _ => rfl)) (semb_cons (sems_ret sem_bl) semb_nil))))))
theorem sb_law {X : Cx} {k : Nat} (c : Cok X gi k N_law sc_law) (hf : ∀ x, X.fn x = true) (hp : PassesOwn (model X.prog X.w) X.A X.env X.xe) (hz : X.stack = X.env :: X.outer ∧ X.env.frame = some X.env.locals) : SemB X gi k (defBody s_law) b_law := (semb_cons (sems_for (cc := false) hp c.calm (semi_e (sem_lc (own := [("_law_cell", 4)]) c.calm (by show X.N.Nodup; rw [c.n]; exact c.nd) (by rw [c.n, c.s]; exact blkOk_by rfl) rfl (semi_e (sem_bin op_addS (sem_sl (sem_v (c.nm (i := 0) rfl (by walk_at "vi"))) semo_none (semo_some sem_int)) (sem_lst (sea_cons sem_int sea_nil rfl) (Nat.le_of_ble_eq_true rfl)))) (fun s7 h7 c7 l7 p7 => (semg_nm ((c.blk s7 h7 c7 l7 p7).nlB (i := 4) rfl rfl))) (by decide) (fun s7 h7 c7 l7 p7 => semts_nil) (fun s7 h7 c7 l7 p7 => (sem_call (n := n_draws) (ar := [.inl 0]) (c.blk s7 h7 c7 l7 p7) rfl rfl rfl (List.mem_of_getElem? (i := 0) rfl) (sclOk rfl) rfl (sea_cons (sem_v ((c.blk s7 h7 c7 l7 p7).nm (i := 4) rfl (by walk_at "vi"))) sea_nil rfl) rfl rfl rfl rfl)) (fun _ => rfl))) (semg_nm (c.nl hf (i := 1) rfl (by walk_at "vi"))) (show SemB X gi k _ b_law_0 from (semb_cons (sems_for (cc := false) hp c.calm (semi_r1 (c.gl rfl) (c.bi _ (List.mem_of_getElem? (i := 7) rfl)) sem_int rfl) (semg_nm (c.nl hf (i := 2) rfl (by walk_at "vi"))) (show SemB X gi k _ b_law_1 from (semb_cons (sems_set (c.nl hf (i := 3) rfl (by walk_at "vi")) (sem_call (n := n_values) (ar := [.inl 0]) c rfl rfl rfl (List.mem_of_getElem? (i := 0) rfl) (sclOk rfl) rfl (sea_cons (sem_v (c.nm (i := 1) rfl (by walk_at "vi"))) sea_nil rfl) rfl rfl rfl rfl) rfl) (semb_cons (sems_if (semt_not (semt_val (sem_call (n := n_right) (ar := [.inl 0]) c rfl rfl rfl (List.mem_of_getElem? (i := 0) rfl) (sclOk rfl) rfl (sea_cons (sem_v (c.nm (i := 3) rfl (by walk_at "vi"))) sea_nil rfl) rfl rfl rfl rfl) (fun _ => rfl))) (semb_cons (sems_ret sem_bl) semb_nil) semb_nil) semb_nil))) (fun _ => rfl)) (semb_cons (sems_if (semt_not (semt_val (sem_call (n := n_refusals_right) (ar := [.inl 0, .inl 1]) c rfl rfl rfl (List.mem_of_getElem? (i := 0) rfl) (sclOk rfl) rfl (sea_cons (sem_v (c.nm (i := 1) rfl (by walk_at "vi"))) (sea_cons (sem_v (c.nm (i := 3) rfl (by walk_at "vi"))) sea_nil rfl) rfl) rfl rfl rfl rfl) (fun _ => rfl))) (semb_cons (sems_ret sem_bl) semb_nil) semb_nil) semb_nil))) (fun _ => rfl)) (semb_cons (sems_ret (sem_and (sem_call (n := n_right) (ar := [.inl 0]) c rfl rfl rfl (List.mem_of_getElem? (i := 0) rfl) (sclOk rfl) rfl (sea_cons (sem_bin op_mulS (sem_lst (sea_cons sem_int sea_nil rfl) (Nat.le_of_ble_eq_true rfl)) sem_int) sea_nil rfl) rfl rfl rfl rfl) (sem_and (sem_call (n := n_right) (ar := [.inl 0]) c rfl rfl rfl (List.mem_of_getElem? (i := 0) rfl) (sclOk rfl) rfl (sea_cons (sem_lrange c.calm (c.b rfl (List.mem_of_getElem? (i := 6) rfl)) (c.b rfl (List.mem_of_getElem? (i := 7) rfl)) sem_int rfl rfl) sea_nil rfl) rfl rfl rfl rfl) (sem_and (sem_call (n := n_right) (ar := [.inl 0]) c rfl rfl rfl (List.mem_of_getElem? (i := 0) rfl) (sclOk rfl) rfl (sea_cons (sem_lst sea_nil (Nat.le_of_ble_eq_true rfl)) sea_nil rfl) rfl rfl rfl rfl) (sem_one (sem_call (n := n_right) (ar := [.inl 0]) c rfl rfl rfl (List.mem_of_getElem? (i := 0) rfl) (sclOk rfl) rfl (sea_cons (sem_lst (sea_cons sem_int (sea_cons sem_int sea_nil rfl) rfl) (Nat.le_of_ble_eq_true rfl)) sea_nil rfl) rfl rfl rfl rfl)))))) semb_nil))
end Lw

set_option Elab.async false
set_option linter.all false
set_option maxRecDepth 100000
set_option maxHeartbeats 4000000
namespace Lw
open PySem PySem.Spec PyProof.Rows L2 Mi
local macro_rules | `(tactic| walk_at "vi") => `(tactic| first | exact .inl rfl | exact .inr (.inl rfl) | exact .inr (.inr rfl) | exact .inr rfl)
local macro_rules | `(tactic| walk_at "sub") => `(tactic| (repeat (first | assumption | exact List.mem_cons_self | (rcases List.mem_cons.mp (by assumption) with rfl | h; exact List.mem_cons_self))))
def d_is_whole : He.DefD := ⟨("is_whole", none), "is_whole", "is_whole", defArgs s_is_whole, defBody s_is_whole, sc_is_whole, [], []⟩
def d_is_list_up_to : He.DefD := ⟨("is_list_up_to", none), "is_list_up_to", "is_list_up_to", defArgs s_is_list_up_to, defBody s_is_list_up_to, sc_is_list_up_to, [], []⟩
def d_first_not_whole : He.DefD := ⟨("first_not_whole", none), "first_not_whole", "first_not_whole", defArgs s_first_not_whole, defBody s_first_not_whole, sc_first_not_whole, [], []⟩
def d_check_values : He.DefD := ⟨("check_values", none), "check_values", "check_values", defArgs s_check_values, defBody s_check_values, sc_check_values, [], []⟩
def d_after_doublet_pass : He.DefD := ⟨("after_doublet_pass", none), "after_doublet_pass", "after_doublet_pass", defArgs s_after_doublet_pass, defBody s_after_doublet_pass, sc_after_doublet_pass, [], []⟩
def d_doublet_visits : He.DefD := ⟨("doublet_visits", none), "doublet_visits", "doublet_visits", defArgs s_doublet_visits, defBody s_doublet_visits, sc_doublet_visits, [], []⟩
def d_comes_out_right : He.DefD := ⟨("comes_out_right", none), "comes_out_right", "comes_out_right", defArgs s_comes_out_right, defBody s_comes_out_right, sc_comes_out_right, [], []⟩
def d_rest_and_visits : He.DefD := ⟨("rest_and_visits", none), "rest_and_visits", "rest_and_visits", defArgs s_rest_and_visits, defBody s_rest_and_visits, sc_rest_and_visits, [], []⟩
def d_has_doublets : He.DefD := ⟨("has_doublets", none), "has_doublets", "has_doublets", defArgs s_has_doublets, defBody s_has_doublets, sc_has_doublets, [], []⟩
def d_is_right : He.DefD := ⟨("is_right", none), "is_right", "is_right", defArgs s_is_right, defBody s_is_right, sc_is_right, [], []⟩
def d_draws : He.DefD := ⟨("_law_draws", none), "_law_draws", "_law_draws", defArgs s_draws, defBody s_draws, sc_draws, [], []⟩
def d_next : He.DefD := ⟨("_law_next", none), "_law_next", "_law_next", defArgs s_next, defBody s_next, sc_next, [], []⟩
def d_walked : He.DefD := ⟨("_law_walked", none), "_law_walked", "_law_walked", defArgs s_walked, defBody s_walked, sc_walked, [], []⟩
def d_values : He.DefD := ⟨("_law_values", none), "_law_values", "_law_values", defArgs s_values, defBody s_values, sc_values, [], []⟩
def d_kept : He.DefD := ⟨("_law_kept", none), "_law_kept", "_law_kept", defArgs s_kept, defBody s_kept, sc_kept, [], []⟩
def d_right : He.DefD := ⟨("_law_right", none), "_law_right", "_law_right", defArgs s_right, defBody s_right, sc_right, [], []⟩
def d_refusals_right : He.DefD := ⟨("_law_refusals_right", none), "_law_refusals_right", "_law_refusals_right", defArgs s_refusals_right, defBody s_refusals_right, sc_refusals_right, [], []⟩
def d_law : He.DefD := ⟨("law", none), "law", "law", defArgs s_law, defBody s_law, sc_law, [], []⟩
def fn : List He.DefD := [d_is_whole, d_is_list_up_to, d_first_not_whole, d_check_values, d_after_doublet_pass, d_doublet_visits, d_comes_out_right, d_rest_and_visits, d_has_doublets, d_is_right, d_draws, d_next, d_walked, d_values, d_kept, d_right, d_refusals_right, d_law]
def fa : List He.Fa := [.glo "is_whole", .glo "is_list_up_to", .glo "first_not_whole", .glo "check_values", .glo "after_doublet_pass", .glo "doublet_visits", .glo "comes_out_right", .glo "rest_and_visits", .glo "has_doublets", .glo "is_right", .glo "_law_draws", .glo "_law_next", .glo "_law_walked", .glo "_law_values", .glo "_law_kept", .glo "_law_right", .glo "_law_refusals_right", .glo "law", .glo "InvalidValues", .int "MOST_VALUES" 120, .free "ValueError", .free "bool", .free "enumerate", .free "int", .free "isinstance", .free "len", .free "list", .free "range", .free "repr", .free "set", .free "super", .free "tuple"]
def loose0 : List Str := [("InvalidValues" : Str), ("MOST_VALUES" : Str), ("is_whole" : Str), ("is_list_up_to" : Str), ("first_not_whole" : Str), ("check_values" : Str), ("after_doublet_pass" : Str), ("doublet_visits" : Str), ("comes_out_right" : Str), ("rest_and_visits" : Str), ("has_doublets" : Str), ("is_right" : Str), ("_law_draws" : Str), ("_law_next" : Str), ("_law_walked" : Str), ("_law_values" : Str), ("_law_kept" : Str), ("_law_right" : Str), ("_law_refusals_right" : Str)]
def loose : List Str := loose0
abbrev lawAt : Nat := 23
theorem fx_is_whole {K : PySem.W.Frag} {h : Heap} {mg : Str → Option Value} (X : K.In h) (G : h.Ns mainGlobals mg) (c : He.SaysD fa fn K) : ∃ f fd, F_is_whole K f fd ∧ mg "is_whole" = some (.ref f) := by
  obtain ⟨fd, F⟩ := c.def_ 0 (d := d_is_whole) rfl
  exact ⟨_, fd, F, He.glo_ok X G (c.fact 0 (f := .glo "is_whole") rfl)⟩
theorem fx_is_list_up_to {K : PySem.W.Frag} {h : Heap} {mg : Str → Option Value} (X : K.In h) (G : h.Ns mainGlobals mg) (c : He.SaysD fa fn K) : ∃ f fd, F_is_list_up_to K f fd ∧ mg "is_list_up_to" = some (.ref f) := by
  obtain ⟨fd, F⟩ := c.def_ 1 (d := d_is_list_up_to) rfl
  exact ⟨_, fd, F, He.glo_ok X G (c.fact 1 (f := .glo "is_list_up_to") rfl)⟩
theorem fx_first_not_whole {K : PySem.W.Frag} {h : Heap} {mg : Str → Option Value} (X : K.In h) (G : h.Ns mainGlobals mg) (c : He.SaysD fa fn K) : ∃ f fd, F_first_not_whole K f fd ∧ mg "first_not_whole" = some (.ref f) := by
  obtain ⟨fd, F⟩ := c.def_ 2 (d := d_first_not_whole) rfl
  exact ⟨_, fd, F, He.glo_ok X G (c.fact 2 (f := .glo "first_not_whole") rfl)⟩
theorem fx_check_values {K : PySem.W.Frag} {h : Heap} {mg : Str → Option Value} (X : K.In h) (G : h.Ns mainGlobals mg) (c : He.SaysD fa fn K) : ∃ f fd, F_check_values K f fd ∧ mg "check_values" = some (.ref f) := by
  obtain ⟨fd, F⟩ := c.def_ 3 (d := d_check_values) rfl
  exact ⟨_, fd, F, He.glo_ok X G (c.fact 3 (f := .glo "check_values") rfl)⟩
theorem fx_after_doublet_pass {K : PySem.W.Frag} {h : Heap} {mg : Str → Option Value} (X : K.In h) (G : h.Ns mainGlobals mg) (c : He.SaysD fa fn K) : ∃ f fd, F_after_doublet_pass K f fd ∧ mg "after_doublet_pass" = some (.ref f) := by
  obtain ⟨fd, F⟩ := c.def_ 4 (d := d_after_doublet_pass) rfl
  exact ⟨_, fd, F, He.glo_ok X G (c.fact 4 (f := .glo "after_doublet_pass") rfl)⟩
theorem fx_doublet_visits {K : PySem.W.Frag} {h : Heap} {mg : Str → Option Value} (X : K.In h) (G : h.Ns mainGlobals mg) (c : He.SaysD fa fn K) : ∃ f fd, F_doublet_visits K f fd ∧ mg "doublet_visits" = some (.ref f) := by
  obtain ⟨fd, F⟩ := c.def_ 5 (d := d_doublet_visits) rfl
  exact ⟨_, fd, F, He.glo_ok X G (c.fact 5 (f := .glo "doublet_visits") rfl)⟩
theorem fx_comes_out_right {K : PySem.W.Frag} {h : Heap} {mg : Str → Option Value} (X : K.In h) (G : h.Ns mainGlobals mg) (c : He.SaysD fa fn K) : ∃ f fd, F_comes_out_right K f fd ∧ mg "comes_out_right" = some (.ref f) := by
  obtain ⟨fd, F⟩ := c.def_ 6 (d := d_comes_out_right) rfl
  exact ⟨_, fd, F, He.glo_ok X G (c.fact 6 (f := .glo "comes_out_right") rfl)⟩
theorem fx_rest_and_visits {K : PySem.W.Frag} {h : Heap} {mg : Str → Option Value} (X : K.In h) (G : h.Ns mainGlobals mg) (c : He.SaysD fa fn K) : ∃ f fd, F_rest_and_visits K f fd ∧ mg "rest_and_visits" = some (.ref f) := by
  obtain ⟨fd, F⟩ := c.def_ 7 (d := d_rest_and_visits) rfl
  exact ⟨_, fd, F, He.glo_ok X G (c.fact 7 (f := .glo "rest_and_visits") rfl)⟩
theorem fx_has_doublets {K : PySem.W.Frag} {h : Heap} {mg : Str → Option Value} (X : K.In h) (G : h.Ns mainGlobals mg) (c : He.SaysD fa fn K) : ∃ f fd, F_has_doublets K f fd ∧ mg "has_doublets" = some (.ref f) := by
  obtain ⟨fd, F⟩ := c.def_ 8 (d := d_has_doublets) rfl
  exact ⟨_, fd, F, He.glo_ok X G (c.fact 8 (f := .glo "has_doublets") rfl)⟩
theorem fx_is_right {K : PySem.W.Frag} {h : Heap} {mg : Str → Option Value} (X : K.In h) (G : h.Ns mainGlobals mg) (c : He.SaysD fa fn K) : ∃ f fd, F_is_right K f fd ∧ mg "is_right" = some (.ref f) := by
  obtain ⟨fd, F⟩ := c.def_ 9 (d := d_is_right) rfl
  exact ⟨_, fd, F, He.glo_ok X G (c.fact 9 (f := .glo "is_right") rfl)⟩
theorem fx_draws {K : PySem.W.Frag} {h : Heap} {mg : Str → Option Value} (X : K.In h) (G : h.Ns mainGlobals mg) (c : He.SaysD fa fn K) : ∃ f fd, F_draws K f fd ∧ mg "_law_draws" = some (.ref f) := by
  obtain ⟨fd, F⟩ := c.def_ 10 (d := d_draws) rfl
  exact ⟨_, fd, F, He.glo_ok X G (c.fact 10 (f := .glo "_law_draws") rfl)⟩
theorem fx_next {K : PySem.W.Frag} {h : Heap} {mg : Str → Option Value} (X : K.In h) (G : h.Ns mainGlobals mg) (c : He.SaysD fa fn K) : ∃ f fd, F_next K f fd ∧ mg "_law_next" = some (.ref f) := by
  obtain ⟨fd, F⟩ := c.def_ 11 (d := d_next) rfl
  exact ⟨_, fd, F, He.glo_ok X G (c.fact 11 (f := .glo "_law_next") rfl)⟩
theorem fx_walked {K : PySem.W.Frag} {h : Heap} {mg : Str → Option Value} (X : K.In h) (G : h.Ns mainGlobals mg) (c : He.SaysD fa fn K) : ∃ f fd, F_walked K f fd ∧ mg "_law_walked" = some (.ref f) := by
  obtain ⟨fd, F⟩ := c.def_ 12 (d := d_walked) rfl
  exact ⟨_, fd, F, He.glo_ok X G (c.fact 12 (f := .glo "_law_walked") rfl)⟩
theorem fx_values {K : PySem.W.Frag} {h : Heap} {mg : Str → Option Value} (X : K.In h) (G : h.Ns mainGlobals mg) (c : He.SaysD fa fn K) : ∃ f fd, F_values K f fd ∧ mg "_law_values" = some (.ref f) := by
  obtain ⟨fd, F⟩ := c.def_ 13 (d := d_values) rfl
  exact ⟨_, fd, F, He.glo_ok X G (c.fact 13 (f := .glo "_law_values") rfl)⟩
theorem fx_kept {K : PySem.W.Frag} {h : Heap} {mg : Str → Option Value} (X : K.In h) (G : h.Ns mainGlobals mg) (c : He.SaysD fa fn K) : ∃ f fd, F_kept K f fd ∧ mg "_law_kept" = some (.ref f) := by
  obtain ⟨fd, F⟩ := c.def_ 14 (d := d_kept) rfl
  exact ⟨_, fd, F, He.glo_ok X G (c.fact 14 (f := .glo "_law_kept") rfl)⟩
theorem fx_right {K : PySem.W.Frag} {h : Heap} {mg : Str → Option Value} (X : K.In h) (G : h.Ns mainGlobals mg) (c : He.SaysD fa fn K) : ∃ f fd, F_right K f fd ∧ mg "_law_right" = some (.ref f) := by
  obtain ⟨fd, F⟩ := c.def_ 15 (d := d_right) rfl
  exact ⟨_, fd, F, He.glo_ok X G (c.fact 15 (f := .glo "_law_right") rfl)⟩
theorem fx_refusals_right {K : PySem.W.Frag} {h : Heap} {mg : Str → Option Value} (X : K.In h) (G : h.Ns mainGlobals mg) (c : He.SaysD fa fn K) : ∃ f fd, F_refusals_right K f fd ∧ mg "_law_refusals_right" = some (.ref f) := by
  obtain ⟨fd, F⟩ := c.def_ 16 (d := d_refusals_right) rfl
  exact ⟨_, fd, F, He.glo_ok X G (c.fact 16 (f := .glo "_law_refusals_right") rfl)⟩
theorem fx_law {K : PySem.W.Frag} {h : Heap} {mg : Str → Option Value} (X : K.In h) (G : h.Ns mainGlobals mg) (c : He.SaysD fa fn K) : ∃ f fd, F_law K f fd ∧ mg "law" = some (.ref f) := by
  obtain ⟨fd, F⟩ := c.def_ 17 (d := d_law) rfl
  exact ⟨_, fd, F, He.glo_ok X G (c.fact 17 (f := .glo "law") rfl)⟩
theorem fg_InvalidValues {K : PySem.W.Frag} {h : Heap} {mg : Str → Option Value} (X : K.In h) (G : h.Ns mainGlobals mg) (c : He.SaysD fa fn K) : mg "InvalidValues" = some (.ref (He.ga K "InvalidValues")) := He.glo_ok X G (c.fact 18 (f := .glo "InvalidValues") rfl)
theorem fi_MOST_VALUES {K : PySem.W.Frag} {h : Heap} {mg : Str → Option Value} (X : K.In h) (G : h.Ns mainGlobals mg) (c : He.SaysD fa fn K) : ∃ t, mg "MOST_VALUES" = some (.int 120 t) := He.int_ok X G (c.fact 19 (f := .int "MOST_VALUES" 120) rfl)
theorem ff_ValueError {K : PySem.W.Frag} {h : Heap} {mg : Str → Option Value} (X : K.In h) (G : h.Ns mainGlobals mg) (c : He.SaysD fa fn K) : mg "ValueError" = none := He.free_ok X G (c.fact 20 (f := .free "ValueError") rfl)
theorem ff_bool {K : PySem.W.Frag} {h : Heap} {mg : Str → Option Value} (X : K.In h) (G : h.Ns mainGlobals mg) (c : He.SaysD fa fn K) : mg "bool" = none := He.free_ok X G (c.fact 21 (f := .free "bool") rfl)
theorem ff_enumerate {K : PySem.W.Frag} {h : Heap} {mg : Str → Option Value} (X : K.In h) (G : h.Ns mainGlobals mg) (c : He.SaysD fa fn K) : mg "enumerate" = none := He.free_ok X G (c.fact 22 (f := .free "enumerate") rfl)
theorem ff_int {K : PySem.W.Frag} {h : Heap} {mg : Str → Option Value} (X : K.In h) (G : h.Ns mainGlobals mg) (c : He.SaysD fa fn K) : mg "int" = none := He.free_ok X G (c.fact 23 (f := .free "int") rfl)
theorem ff_isinstance {K : PySem.W.Frag} {h : Heap} {mg : Str → Option Value} (X : K.In h) (G : h.Ns mainGlobals mg) (c : He.SaysD fa fn K) : mg "isinstance" = none := He.free_ok X G (c.fact 24 (f := .free "isinstance") rfl)
theorem ff_len {K : PySem.W.Frag} {h : Heap} {mg : Str → Option Value} (X : K.In h) (G : h.Ns mainGlobals mg) (c : He.SaysD fa fn K) : mg "len" = none := He.free_ok X G (c.fact 25 (f := .free "len") rfl)
theorem ff_list {K : PySem.W.Frag} {h : Heap} {mg : Str → Option Value} (X : K.In h) (G : h.Ns mainGlobals mg) (c : He.SaysD fa fn K) : mg "list" = none := He.free_ok X G (c.fact 26 (f := .free "list") rfl)
theorem ff_range {K : PySem.W.Frag} {h : Heap} {mg : Str → Option Value} (X : K.In h) (G : h.Ns mainGlobals mg) (c : He.SaysD fa fn K) : mg "range" = none := He.free_ok X G (c.fact 27 (f := .free "range") rfl)
theorem ff_repr {K : PySem.W.Frag} {h : Heap} {mg : Str → Option Value} (X : K.In h) (G : h.Ns mainGlobals mg) (c : He.SaysD fa fn K) : mg "repr" = none := He.free_ok X G (c.fact 28 (f := .free "repr") rfl)
theorem ff_set {K : PySem.W.Frag} {h : Heap} {mg : Str → Option Value} (X : K.In h) (G : h.Ns mainGlobals mg) (c : He.SaysD fa fn K) : mg "set" = none := He.free_ok X G (c.fact 29 (f := .free "set") rfl)
theorem ff_super {K : PySem.W.Frag} {h : Heap} {mg : Str → Option Value} (X : K.In h) (G : h.Ns mainGlobals mg) (c : He.SaysD fa fn K) : mg "super" = none := He.free_ok X G (c.fact 30 (f := .free "super") rfl)
theorem ff_tuple {K : PySem.W.Frag} {h : Heap} {mg : Str → Option Value} (X : K.In h) (G : h.Ns mainGlobals mg) (c : He.SaysD fa fn K) : mg "tuple" = none := He.free_ok X G (c.fact 31 (f := .free "tuple") rfl)
theorem bi_ok {K : PySem.W.Frag} {h : Heap} {mg : Str → Option Value} (X : K.In h) (G : h.Ns mainGlobals mg) (c : He.SaysD fa fn K) : ∀ x ∈ gi.bs, mg x = none := List.forall_mem_cons.mpr ⟨ff_ValueError X G c, List.forall_mem_cons.mpr ⟨ff_bool X G c, List.forall_mem_cons.mpr ⟨ff_enumerate X G c, List.forall_mem_cons.mpr ⟨ff_int X G c, List.forall_mem_cons.mpr ⟨ff_isinstance X G c, List.forall_mem_cons.mpr ⟨ff_len X G c, List.forall_mem_cons.mpr ⟨ff_list X G c, List.forall_mem_cons.mpr ⟨ff_range X G c, List.forall_mem_cons.mpr ⟨ff_repr X G c, List.forall_mem_cons.mpr ⟨ff_set X G c, List.forall_mem_cons.mpr ⟨ff_tuple X G c, (fun _ h => nomatch h)⟩⟩⟩⟩⟩⟩⟩⟩⟩⟩⟩
theorem cs_ok {K : PySem.W.Frag} {h : Heap} {mg : Str → Option Value} (X : K.In h) (G : h.Ns mainGlobals mg) (c : He.SaysD fa fn K) : ∀ p ∈ gi.cs, ∃ u, mg p.1 = some u ∧ cV p.2 u := List.forall_mem_cons.mpr ⟨(let ⟨t, e⟩ := fi_MOST_VALUES X G c; ⟨_, e, t, rfl⟩), (fun _ h => nomatch h)⟩
def names : List Str := [("is_whole" : Str), ("is_list_up_to" : Str), ("first_not_whole" : Str), ("check_values" : Str), ("after_doublet_pass" : Str), ("doublet_visits" : Str), ("comes_out_right" : Str), ("rest_and_visits" : Str), ("has_doublets" : Str), ("is_right" : Str), ("_law_draws" : Str), ("_law_next" : Str), ("_law_walked" : Str), ("_law_values" : Str), ("_law_kept" : Str), ("_law_right" : Str), ("_law_refusals_right" : Str), ("law" : Str), ("InvalidValues" : Str)]
def tnames : List Str := ["_law_refusals_right"]
def tf : List He.Defn := [("_law_refusals_right", none)]
def tabs (K : PySem.W.Frag) : List (Addr × Str) := [(tabF K "_law_refusals_right", "_law_refusals_right.<locals>.<lambda>")]
def faOf (K : PySem.W.Frag) (mg : Str → Option Value) (n : Nat) : Addr := match names[n]? with
  | some x => match mg x with
    | some (.ref f) => f
    | _ => 0
  | none => match tnames[n - names.length]? with
    | some t => tabF K t
    | none => 0
theorem ta_ok {K : PySem.W.Frag} {mg : Str → Option Value} : ∀ t ∈ gi.ts, tabF K t.1 = faOf K mg t.2 := List.forall_mem_cons.mpr ⟨rfl, (fun _ h => nomatch h)⟩
theorem faOf_eq {K : PySem.W.Frag} {mg : Str → Option Value} {n : Nat} {x : Str} {f : Addr} (h : names[n]? = some x) (e : mg x = some (.ref f)) : faOf K mg n = f := by
  unfold faOf
  rw [h]
  dsimp only
  rw [e]
theorem dok_is_whole {P : Program} {w : World} {base : Heap} {er : ER} {K : PySem.W.Frag} {h : Heap} {mg : Str → Option Value} (X : K.In h) (G : h.Ns mainGlobals mg) (c : He.SaysD fa fn K) (hTB : ∀ p ∈ tf, LamX.TabB base mg (He.cT K p).1 (He.cT K p).2) : DefOk P w K mg base gi er prog (faOf K mg) 0 di_is_whole := by
  obtain ⟨f, fd, F, e⟩ := fx_is_whole X G c
  have ef : faOf K mg 0 = f := faOf_eq rfl e
  refine ⟨fd, by rw [ef]; exact e, by rw [ef]; exact F.kp, List.forall_mem_cons.mpr ⟨(kb_plain (n := 1) (ks := []) (ps := P_is_whole) [.inl 0] [.inl 0] F (fun _ _ => rfl) fun _ _ _ _ _ _ us ws l1 l2 => match us, ws, l1, l2 with | [_], [], _, _ => rfl), (fun _ h => nomatch h)⟩, fun k lk => ?_⟩
  rw [ef]
  exact fng_def F fs_is_whole rfl rfl rfl (bi_ok X G c) (cs_ok X G c) (fun X c hf hp hz hm => sb_is_whole c hf hp hz) lk
theorem dok_is_list_up_to {P : Program} {w : World} {base : Heap} {er : ER} {K : PySem.W.Frag} {h : Heap} {mg : Str → Option Value} (X : K.In h) (G : h.Ns mainGlobals mg) (c : He.SaysD fa fn K) (hTB : ∀ p ∈ tf, LamX.TabB base mg (He.cT K p).1 (He.cT K p).2) : DefOk P w K mg base gi er prog (faOf K mg) 1 di_is_list_up_to := by
  obtain ⟨f, fd, F, e⟩ := fx_is_list_up_to X G c
  have ef : faOf K mg 1 = f := faOf_eq rfl e
  refine ⟨fd, by rw [ef]; exact e, by rw [ef]; exact F.kp, List.forall_mem_cons.mpr ⟨(kb_plain (n := 2) (ks := []) (ps := P_is_list_up_to) [.inl 0, .inl 1] [.inl 0, .inl 1] F (fun _ _ => rfl) fun _ _ _ _ _ _ us ws l1 l2 => match us, ws, l1, l2 with | [_, _], [], _, _ => rfl), (fun _ h => nomatch h)⟩, fun k lk => ?_⟩
  rw [ef]
  exact fng_def F fs_is_list_up_to rfl rfl rfl (bi_ok X G c) (cs_ok X G c) (fun X c hf hp hz hm => sb_is_list_up_to c hf hp hz) lk
theorem dok_first_not_whole {P : Program} {w : World} {base : Heap} {er : ER} {K : PySem.W.Frag} {h : Heap} {mg : Str → Option Value} (X : K.In h) (G : h.Ns mainGlobals mg) (c : He.SaysD fa fn K) (hTB : ∀ p ∈ tf, LamX.TabB base mg (He.cT K p).1 (He.cT K p).2) : DefOk P w K mg base gi er prog (faOf K mg) 2 di_first_not_whole := by
  obtain ⟨f, fd, F, e⟩ := fx_first_not_whole X G c
  have ef : faOf K mg 2 = f := faOf_eq rfl e
  refine ⟨fd, by rw [ef]; exact e, by rw [ef]; exact F.kp, List.forall_mem_cons.mpr ⟨(kb_plain (n := 1) (ks := []) (ps := P_first_not_whole) [.inl 0] [.inl 0] F (fun _ _ => rfl) fun _ _ _ _ _ _ us ws l1 l2 => match us, ws, l1, l2 with | [_], [], _, _ => rfl), (fun _ h => nomatch h)⟩, fun k lk => ?_⟩
  rw [ef]
  exact fng_def F fs_first_not_whole rfl rfl rfl (bi_ok X G c) (cs_ok X G c) (fun X c hf hp hz hm => sb_first_not_whole c hf hp hz) lk
theorem dok_check_values {P : Program} {w : World} {base : Heap} {er : ER} {K : PySem.W.Frag} {h : Heap} {mg : Str → Option Value} (X : K.In h) (G : h.Ns mainGlobals mg) (c : He.SaysD fa fn K) (hTB : ∀ p ∈ tf, LamX.TabB base mg (He.cT K p).1 (He.cT K p).2) : DefOk P w K mg base gi er prog (faOf K mg) 3 di_check_values := by
  obtain ⟨f, fd, F, e⟩ := fx_check_values X G c
  have ef : faOf K mg 3 = f := faOf_eq rfl e
  refine ⟨fd, by rw [ef]; exact e, by rw [ef]; exact F.kp, List.forall_mem_cons.mpr ⟨(kb_plain (n := 1) (ks := []) (ps := P_check_values) [.inl 0] [.inl 0] F (fun _ _ => rfl) fun _ _ _ _ _ _ us ws l1 l2 => match us, ws, l1, l2 with | [_], [], _, _ => rfl), (fun _ h => nomatch h)⟩, fun k lk => ?_⟩
  rw [ef]
  exact fng_def F fs_check_values rfl rfl rfl (bi_ok X G c) (cs_ok X G c) (fun X c hf hp hz hm => sb_check_values c hf hp hz) lk
theorem dok_after_doublet_pass {P : Program} {w : World} {base : Heap} {er : ER} {K : PySem.W.Frag} {h : Heap} {mg : Str → Option Value} (X : K.In h) (G : h.Ns mainGlobals mg) (c : He.SaysD fa fn K) (hTB : ∀ p ∈ tf, LamX.TabB base mg (He.cT K p).1 (He.cT K p).2) : DefOk P w K mg base gi er prog (faOf K mg) 4 di_after_doublet_pass := by
  obtain ⟨f, fd, F, e⟩ := fx_after_doublet_pass X G c
  have ef : faOf K mg 4 = f := faOf_eq rfl e
  refine ⟨fd, by rw [ef]; exact e, by rw [ef]; exact F.kp, List.forall_mem_cons.mpr ⟨(kb_plain (n := 1) (ks := []) (ps := P_after_doublet_pass) [.inl 0] [.inl 0] F (fun _ _ => rfl) fun _ _ _ _ _ _ us ws l1 l2 => match us, ws, l1, l2 with | [_], [], _, _ => rfl), List.forall_mem_cons.mpr ⟨(kb_plain (n := 0) (ks := [("values" : Str)]) (ps := P_after_doublet_pass) [.inl 0] [.inl 0] F (fun _ _ => rfl) fun _ _ _ _ _ _ us ws l1 l2 => match us, ws, l1, l2 with | [], [_], _, _ => rfl), (fun _ h => nomatch h)⟩⟩, fun k lk => ?_⟩
  rw [ef]
  exact fng_def F fs_after_doublet_pass rfl rfl rfl (bi_ok X G c) (cs_ok X G c) (fun X c hf hp hz hm => sb_after_doublet_pass c hf hp hz) lk
theorem dok_doublet_visits {P : Program} {w : World} {base : Heap} {er : ER} {K : PySem.W.Frag} {h : Heap} {mg : Str → Option Value} (X : K.In h) (G : h.Ns mainGlobals mg) (c : He.SaysD fa fn K) (hTB : ∀ p ∈ tf, LamX.TabB base mg (He.cT K p).1 (He.cT K p).2) : DefOk P w K mg base gi er prog (faOf K mg) 5 di_doublet_visits := by
  obtain ⟨f, fd, F, e⟩ := fx_doublet_visits X G c
  have ef : faOf K mg 5 = f := faOf_eq rfl e
  refine ⟨fd, by rw [ef]; exact e, by rw [ef]; exact F.kp, List.forall_mem_cons.mpr ⟨(kb_plain (n := 1) (ks := []) (ps := P_doublet_visits) [.inl 0] [.inl 0] F (fun _ _ => rfl) fun _ _ _ _ _ _ us ws l1 l2 => match us, ws, l1, l2 with | [_], [], _, _ => rfl), List.forall_mem_cons.mpr ⟨(kb_plain (n := 0) (ks := [("values" : Str)]) (ps := P_doublet_visits) [.inl 0] [.inl 0] F (fun _ _ => rfl) fun _ _ _ _ _ _ us ws l1 l2 => match us, ws, l1, l2 with | [], [_], _, _ => rfl), (fun _ h => nomatch h)⟩⟩, fun k lk => ?_⟩
  rw [ef]
  exact fng_def F fs_doublet_visits rfl rfl rfl (bi_ok X G c) (cs_ok X G c) (fun X c hf hp hz hm => sb_doublet_visits c hf hp hz) lk
theorem dok_comes_out_right {P : Program} {w : World} {base : Heap} {er : ER} {K : PySem.W.Frag} {h : Heap} {mg : Str → Option Value} (X : K.In h) (G : h.Ns mainGlobals mg) (c : He.SaysD fa fn K) (hTB : ∀ p ∈ tf, LamX.TabB base mg (He.cT K p).1 (He.cT K p).2) : DefOk P w K mg base gi er prog (faOf K mg) 6 di_comes_out_right := by
  obtain ⟨f, fd, F, e⟩ := fx_comes_out_right X G c
  have ef : faOf K mg 6 = f := faOf_eq rfl e
  refine ⟨fd, by rw [ef]; exact e, by rw [ef]; exact F.kp, List.forall_mem_cons.mpr ⟨(kb_plain (n := 1) (ks := []) (ps := P_comes_out_right) [.inl 0] [.inl 0] F (fun _ _ => rfl) fun _ _ _ _ _ _ us ws l1 l2 => match us, ws, l1, l2 with | [_], [], _, _ => rfl), List.forall_mem_cons.mpr ⟨(kb_plain (n := 0) (ks := [("values" : Str)]) (ps := P_comes_out_right) [.inl 0] [.inl 0] F (fun _ _ => rfl) fun _ _ _ _ _ _ us ws l1 l2 => match us, ws, l1, l2 with | [], [_], _, _ => rfl), (fun _ h => nomatch h)⟩⟩, fun k lk => ?_⟩
  rw [ef]
  exact fng_def F fs_comes_out_right rfl rfl rfl (bi_ok X G c) (cs_ok X G c) (fun X c hf hp hz hm => sb_comes_out_right c hf hp hz) lk
theorem dok_rest_and_visits {P : Program} {w : World} {base : Heap} {er : ER} {K : PySem.W.Frag} {h : Heap} {mg : Str → Option Value} (X : K.In h) (G : h.Ns mainGlobals mg) (c : He.SaysD fa fn K) (hTB : ∀ p ∈ tf, LamX.TabB base mg (He.cT K p).1 (He.cT K p).2) : DefOk P w K mg base gi er prog (faOf K mg) 7 di_rest_and_visits := by
  obtain ⟨f, fd, F, e⟩ := fx_rest_and_visits X G c
  have ef : faOf K mg 7 = f := faOf_eq rfl e
  refine ⟨fd, by rw [ef]; exact e, by rw [ef]; exact F.kp, List.forall_mem_cons.mpr ⟨(kb_plain (n := 1) (ks := []) (ps := P_rest_and_visits) [.inl 0] [.inl 0] F (fun _ _ => rfl) fun _ _ _ _ _ _ us ws l1 l2 => match us, ws, l1, l2 with | [_], [], _, _ => rfl), (fun _ h => nomatch h)⟩, fun k lk => ?_⟩
  rw [ef]
  exact fng_def F fs_rest_and_visits rfl rfl rfl (bi_ok X G c) (cs_ok X G c) (fun X c hf hp hz hm => sb_rest_and_visits c hf hp hz) lk
theorem dok_has_doublets {P : Program} {w : World} {base : Heap} {er : ER} {K : PySem.W.Frag} {h : Heap} {mg : Str → Option Value} (X : K.In h) (G : h.Ns mainGlobals mg) (c : He.SaysD fa fn K) (hTB : ∀ p ∈ tf, LamX.TabB base mg (He.cT K p).1 (He.cT K p).2) : DefOk P w K mg base gi er prog (faOf K mg) 8 di_has_doublets := by
  obtain ⟨f, fd, F, e⟩ := fx_has_doublets X G c
  have ef : faOf K mg 8 = f := faOf_eq rfl e
  refine ⟨fd, by rw [ef]; exact e, by rw [ef]; exact F.kp, List.forall_mem_cons.mpr ⟨(kb_plain (n := 1) (ks := []) (ps := P_has_doublets) [.inl 0] [.inl 0] F (fun _ _ => rfl) fun _ _ _ _ _ _ us ws l1 l2 => match us, ws, l1, l2 with | [_], [], _, _ => rfl), (fun _ h => nomatch h)⟩, fun k lk => ?_⟩
  rw [ef]
  exact fng_def F fs_has_doublets rfl rfl rfl (bi_ok X G c) (cs_ok X G c) (fun X c hf hp hz hm => sb_has_doublets c hf hp hz) lk
theorem dok_is_right {P : Program} {w : World} {base : Heap} {er : ER} {K : PySem.W.Frag} {h : Heap} {mg : Str → Option Value} (X : K.In h) (G : h.Ns mainGlobals mg) (c : He.SaysD fa fn K) (hTB : ∀ p ∈ tf, LamX.TabB base mg (He.cT K p).1 (He.cT K p).2) : DefOk P w K mg base gi er prog (faOf K mg) 9 di_is_right := by
  obtain ⟨f, fd, F, e⟩ := fx_is_right X G c
  have ef : faOf K mg 9 = f := faOf_eq rfl e
  refine ⟨fd, by rw [ef]; exact e, by rw [ef]; exact F.kp, List.forall_mem_cons.mpr ⟨(kb_plain (n := 1) (ks := []) (ps := P_is_right) [.inl 0] [.inl 0] F (fun _ _ => rfl) fun _ _ _ _ _ _ us ws l1 l2 => match us, ws, l1, l2 with | [_], [], _, _ => rfl), (fun _ h => nomatch h)⟩, fun k lk => ?_⟩
  rw [ef]
  exact fng_def F fs_is_right rfl rfl rfl (bi_ok X G c) (cs_ok X G c) (fun X c hf hp hz hm => sb_is_right c hf hp hz) lk
theorem dok_draws {P : Program} {w : World} {base : Heap} {er : ER} {K : PySem.W.Frag} {h : Heap} {mg : Str → Option Value} (X : K.In h) (G : h.Ns mainGlobals mg) (c : He.SaysD fa fn K) (hTB : ∀ p ∈ tf, LamX.TabB base mg (He.cT K p).1 (He.cT K p).2) : DefOk P w K mg base gi er prog (faOf K mg) 10 di_draws := by
  obtain ⟨f, fd, F, e⟩ := fx_draws X G c
  have ef : faOf K mg 10 = f := faOf_eq rfl e
  refine ⟨fd, by rw [ef]; exact e, by rw [ef]; exact F.kp, List.forall_mem_cons.mpr ⟨(kb_plain (n := 1) (ks := []) (ps := P_draws) [.inl 0] [.inl 0] F (fun _ _ => rfl) fun _ _ _ _ _ _ us ws l1 l2 => match us, ws, l1, l2 with | [_], [], _, _ => rfl), (fun _ h => nomatch h)⟩, fun k lk => ?_⟩
  rw [ef]
  exact fng_def F fs_draws rfl rfl rfl (bi_ok X G c) (cs_ok X G c) (fun X c hf hp hz hm => sb_draws c hf hp hz) lk
theorem dok_next {P : Program} {w : World} {base : Heap} {er : ER} {K : PySem.W.Frag} {h : Heap} {mg : Str → Option Value} (X : K.In h) (G : h.Ns mainGlobals mg) (c : He.SaysD fa fn K) (hTB : ∀ p ∈ tf, LamX.TabB base mg (He.cT K p).1 (He.cT K p).2) : DefOk P w K mg base gi er prog (faOf K mg) 11 di_next := by
  obtain ⟨f, fd, F, e⟩ := fx_next X G c
  have ef : faOf K mg 11 = f := faOf_eq rfl e
  refine ⟨fd, by rw [ef]; exact e, by rw [ef]; exact F.kp, List.forall_mem_cons.mpr ⟨(kb_plain (n := 1) (ks := []) (ps := P_next) [.inl 0] [.inl 0] F (fun _ _ => rfl) fun _ _ _ _ _ _ us ws l1 l2 => match us, ws, l1, l2 with | [_], [], _, _ => rfl), (fun _ h => nomatch h)⟩, fun k lk => ?_⟩
  rw [ef]
  exact fng_def F fs_next rfl rfl rfl (bi_ok X G c) (cs_ok X G c) (fun X c hf hp hz hm => sb_next c hf hp hz) lk
theorem dok_walked {P : Program} {w : World} {base : Heap} {er : ER} {K : PySem.W.Frag} {h : Heap} {mg : Str → Option Value} (X : K.In h) (G : h.Ns mainGlobals mg) (c : He.SaysD fa fn K) (hTB : ∀ p ∈ tf, LamX.TabB base mg (He.cT K p).1 (He.cT K p).2) : DefOk P w K mg base gi er prog (faOf K mg) 12 di_walked := by
  obtain ⟨f, fd, F, e⟩ := fx_walked X G c
  have ef : faOf K mg 12 = f := faOf_eq rfl e
  refine ⟨fd, by rw [ef]; exact e, by rw [ef]; exact F.kp, List.forall_mem_cons.mpr ⟨(kb_plain (n := 1) (ks := []) (ps := P_walked) [.inl 0] [.inl 0] F (fun _ _ => rfl) fun _ _ _ _ _ _ us ws l1 l2 => match us, ws, l1, l2 with | [_], [], _, _ => rfl), (fun _ h => nomatch h)⟩, fun k lk => ?_⟩
  rw [ef]
  exact fng_def F fs_walked rfl rfl rfl (bi_ok X G c) (cs_ok X G c) (fun X c hf hp hz hm => sb_walked c hf hp hz) lk
theorem dok_values {P : Program} {w : World} {base : Heap} {er : ER} {K : PySem.W.Frag} {h : Heap} {mg : Str → Option Value} (X : K.In h) (G : h.Ns mainGlobals mg) (c : He.SaysD fa fn K) (hTB : ∀ p ∈ tf, LamX.TabB base mg (He.cT K p).1 (He.cT K p).2) : DefOk P w K mg base gi er prog (faOf K mg) 13 di_values := by
  obtain ⟨f, fd, F, e⟩ := fx_values X G c
  have ef : faOf K mg 13 = f := faOf_eq rfl e
  refine ⟨fd, by rw [ef]; exact e, by rw [ef]; exact F.kp, List.forall_mem_cons.mpr ⟨(kb_plain (n := 1) (ks := []) (ps := P_values) [.inl 0] [.inl 0] F (fun _ _ => rfl) fun _ _ _ _ _ _ us ws l1 l2 => match us, ws, l1, l2 with | [_], [], _, _ => rfl), (fun _ h => nomatch h)⟩, fun k lk => ?_⟩
  rw [ef]
  exact fng_def F fs_values rfl rfl rfl (bi_ok X G c) (cs_ok X G c) (fun X c hf hp hz hm => sb_values c hf hp hz) lk
theorem dok_kept {P : Program} {w : World} {base : Heap} {er : ER} {K : PySem.W.Frag} {h : Heap} {mg : Str → Option Value} (X : K.In h) (G : h.Ns mainGlobals mg) (c : He.SaysD fa fn K) (hTB : ∀ p ∈ tf, LamX.TabB base mg (He.cT K p).1 (He.cT K p).2) : DefOk P w K mg base gi er prog (faOf K mg) 14 di_kept := by
  obtain ⟨f, fd, F, e⟩ := fx_kept X G c
  have ef : faOf K mg 14 = f := faOf_eq rfl e
  refine ⟨fd, by rw [ef]; exact e, by rw [ef]; exact F.kp, (fun _ h => nomatch h), fun k lk => ?_⟩
  rw [ef]
  exact fng_def F fs_kept rfl rfl rfl (bi_ok X G c) (cs_ok X G c) (fun X c hf hp hz hm => sb_kept c hf hp hz) lk
theorem dok_right {P : Program} {w : World} {base : Heap} {er : ER} {K : PySem.W.Frag} {h : Heap} {mg : Str → Option Value} (X : K.In h) (G : h.Ns mainGlobals mg) (c : He.SaysD fa fn K) (hTB : ∀ p ∈ tf, LamX.TabB base mg (He.cT K p).1 (He.cT K p).2) : DefOk P w K mg base gi er prog (faOf K mg) 15 di_right := by
  obtain ⟨f, fd, F, e⟩ := fx_right X G c
  have ef : faOf K mg 15 = f := faOf_eq rfl e
  refine ⟨fd, by rw [ef]; exact e, by rw [ef]; exact F.kp, List.forall_mem_cons.mpr ⟨(kb_plain (n := 1) (ks := []) (ps := P_right) [.inl 0] [.inl 0] F (fun _ _ => rfl) fun _ _ _ _ _ _ us ws l1 l2 => match us, ws, l1, l2 with | [_], [], _, _ => rfl), (fun _ h => nomatch h)⟩, fun k lk => ?_⟩
  rw [ef]
  exact fng_def F fs_right rfl rfl rfl (bi_ok X G c) (cs_ok X G c) (fun X c hf hp hz hm => sb_right c hf hp hz) lk
theorem dok_refusals_right {P : Program} {w : World} {base : Heap} {er : ER} {K : PySem.W.Frag} {h : Heap} {mg : Str → Option Value} (X : K.In h) (G : h.Ns mainGlobals mg) (c : He.SaysD fa fn K) (hTB : ∀ p ∈ tf, LamX.TabB base mg (He.cT K p).1 (He.cT K p).2) : DefOk P w K mg base gi er prog (faOf K mg) 16 di_refusals_right := by
  obtain ⟨fd, F⟩ := c.def_ 16 (d := d_refusals_right) rfl
  have e := He.glo_ok X G (c.fact 16 (f := .glo "_law_refusals_right") rfl)
  have ef := faOf_eq (K := K) (n := 16) rfl e
  obtain ⟨fk_kept, fdk_kept, FK_kept, ek_kept⟩ := fx_kept X G c
  refine ⟨fd, by rw [ef]; exact e, by rw [ef]; exact F.kp, List.forall_mem_cons.mpr ⟨(kb_plain (n := 2) (ks := []) (ps := P_refusals_right) [.inl 0, .inl 1] [.inl 0, .inl 1] F (fun _ _ => rfl) fun _ _ _ _ _ _ us ws l1 l2 => match us, ws, l1, l2 with | [_, _], [], _, _ => rfl), (fun _ h => nomatch h)⟩, fun k lk => ?_⟩
  rw [ef]
  exact fng_def F fs_refusals_right rfl rfl rfl (bi_ok X G c) (cs_ok X G c) (fun X c hf hp hz hm => sb_refusals_right c hf hp hz (mkd_of hm (code_of F) (hTB _ (List.mem_of_getElem? (i := 0) rfl)) rfl) (ktd_of hm FK_kept ek_kept)) lk
theorem dok_law {P : Program} {w : World} {base : Heap} {er : ER} {K : PySem.W.Frag} {h : Heap} {mg : Str → Option Value} (X : K.In h) (G : h.Ns mainGlobals mg) (c : He.SaysD fa fn K) (hTB : ∀ p ∈ tf, LamX.TabB base mg (He.cT K p).1 (He.cT K p).2) : DefOk P w K mg base gi er prog (faOf K mg) 17 di_law := by
  obtain ⟨f, fd, F, e⟩ := fx_law X G c
  have ef : faOf K mg 17 = f := faOf_eq rfl e
  refine ⟨fd, by rw [ef]; exact e, by rw [ef]; exact F.kp, (fun _ h => nomatch h), fun k lk => ?_⟩
  rw [ef]
  exact fng_def F fs_law rfl rfl rfl (bi_ok X G c) (cs_ok X G c) (fun X c hf hp hz hm => sb_law c hf hp hz) lk
theorem dok {P : Program} {w : World} {base : Heap} {er : ER} {K : PySem.W.Frag} {h : Heap} {mg : Str → Option Value} (X : K.In h) (G : h.Ns mainGlobals mg) (c : He.SaysD fa fn K) (hTB : ∀ p ∈ tf, LamX.TabB base mg (He.cT K p).1 (He.cT K p).2) : ∀ n d, gi.ds[n]? = some d → DefOk P w K mg base gi er prog (faOf K mg) n d
  | 0, _, e => by
    cases e
    exact dok_is_whole X G c hTB
  | 1, _, e => by
    cases e
    exact dok_is_list_up_to X G c hTB
  | 2, _, e => by
    cases e
    exact dok_first_not_whole X G c hTB
  | 3, _, e => by
    cases e
    exact dok_check_values X G c hTB
  | 4, _, e => by
    cases e
    exact dok_after_doublet_pass X G c hTB
  | 5, _, e => by
    cases e
    exact dok_doublet_visits X G c hTB
  | 6, _, e => by
    cases e
    exact dok_comes_out_right X G c hTB
  | 7, _, e => by
    cases e
    exact dok_rest_and_visits X G c hTB
  | 8, _, e => by
    cases e
    exact dok_has_doublets X G c hTB
  | 9, _, e => by
    cases e
    exact dok_is_right X G c hTB
  | 10, _, e => by
    cases e
    exact dok_draws X G c hTB
  | 11, _, e => by
    cases e
    exact dok_next X G c hTB
  | 12, _, e => by
    cases e
    exact dok_walked X G c hTB
  | 13, _, e => by
    cases e
    exact dok_values X G c hTB
  | 14, _, e => by
    cases e
    exact dok_kept X G c hTB
  | 15, _, e => by
    cases e
    exact dok_right X G c hTB
  | 16, _, e => by
    cases e
    exact dok_refusals_right X G c hTB
  | 17, _, e => by
    cases e
    exact dok_law X G c hTB
  | n + 18, _, e => by
    exact nomatch e
abbrev file : Str := pw.main.file
theorem xo_ok {P : Program} {K : PySem.W.Frag} {h : Heap} {mg : Str → Option Value} (X : K.In h) (G : h.Ns mainGlobals mg) (cx : SaysX fa fn xd file K) (hP : P.main.file = file) (hT : (P.main.scope.names.lookup ("super" : Str)).isSome = false) : XOk P K mg gi.xs (faOf K mg) (erX K gi.xs (faOf K mg)) := by
  have c := cx.dd
  refine xok_of cx hP hT (ff_super X G c) ?_ ?_ (by decide +kernel) (by decide +kernel)
  · exact List.forall_mem_cons.mpr ⟨⟨fg_InvalidValues X G c, faOf_eq rfl (fg_InvalidValues X G c)⟩, (fun _ h => nomatch h)⟩
  · exact List.forall_mem_cons.mpr ⟨⟨xd_InvalidValues, List.mem_of_getElem? (i := 0) rfl, rfl, rfl, xt_InvalidValues⟩, (fun _ h => nomatch h)⟩
theorem law_ok {P : Program} {w : World} {K : PySem.W.Frag} {h : Heap} {mg : Str → Option Value} (X : K.In h) (G : h.Ns mainGlobals mg) (cx : SaysX fa fn xd file K) (hP : P.main.file = file) (hT : (P.main.scope.names.lookup ("super" : Str)).isSome = false) {f : Addr} (e : mg "law" = some (.ref f)) (k : Nat) : ∃ fd, F_law K f fd ∧ ∀ base : Heap, (∀ p ∈ tf.map (He.cT K), LamX.TabB base mg p.1 p.2) → FnG P w K mg base (CX P w) (3 * (k + 1)) f fd P_law (spC K (erX K gi.xs (faOf K mg)) (callD prog (faOf K mg) (k + 1) 17) 1) := by
  have c := cx.dd
  have xo := xo_ok (P := P) X G cx hP hT
  obtain ⟨f', fd, F, e'⟩ := fx_law X G c
  have ee := e.symm.trans e'
  cases ee
  refine ⟨fd, F, fun base hT2 => ?_⟩
  have hTB : ∀ p ∈ tf, LamX.TabB base mg (He.cT K p).1 (He.cT K p).2 := fun p hp => hT2 _ (List.mem_map.mpr ⟨p, hp, rfl⟩)
  exact fng_def F fs_law rfl rfl rfl (bi_ok X G c) (cs_ok X G c) (fun X c hf hp hz hm => sb_law c hf hp hz) (all_defs xo ta_ok (dok X G c hTB) k)
end Lw

set_option Elab.async false
set_option linter.all false
set_option maxRecDepth 100000
set_option maxHeartbeats 4000000
namespace Lw
open PySem PySem.Spec PyProof.Rows L2 Mi
local macro_rules | `(tactic| walk_at "ev") => `(tactic| simp only [z_w, z_k, z_g, z_nil, z_cons, z_lst, z_bin, z_cmp, z_tcmp, z_ch, z_tch, z_tval, z_tnot, z_tand, z_tor, z_not, z_and, z_or, z_ife, z_ix, z_oN, z_oS, z_sl, z_rev, z_f1, z_f2, z_call, bnd_ok, b_add, b_sub, b_modS, b_mulR, b_fdivS, b_powS, c_eqI, c_neI, c_lt, c_le, c_gt, c_ge, tr_bl, tr_int, u_intI, u_intB, List.getElem?_cons_zero, List.getElem?_cons_succ, List.set_cons_zero, List.set_cons_succ, if_true, if_false, Bool.false_eq_true, D.int, D.bl, D.non, List.map_cons, List.map_nil, List.replicate, List.cons_append, List.nil_append, List.length_cons, List.length_nil, Int.reduceLT, Int.reduceLE, Int.reduceNeg, Int.reducePow, Int.reduceToNat, Nat.reduceLT, Nat.reducePow, Nat.reduceAdd, and_self, and_true, true_and, *])
theorem sp_next {fa : Nat → Addr} {k m : Nat} {S : Store} {d : Dr} (h : S[m]? = some (.lst d.ts)) (hk : 0 ≤ d.k ∧ d.k ≤ 1000000000) : callD prog fa (k + 1) n_next [.cell m] S = .ok (.int d.val) (S.set m (.lst d.nx.ts)) := by
  rw [cd_next]
  obtain ⟨c0, k0, b0⟩ := d
  have hk' : 0 ≤ k0 ∧ k0 ≤ 1000000000 := hk
  have hm := (List.getElem?_eq_some_iff.mp h).1
  have h0 : S[m]? = some (.lst [.int c0, .int k0, .bl b0]) := h
  have e1 : ixD (.cell m) (.t (.int 1)) S = .ok (.t (.int k0)) S := i_cell (kk := 1) (rd_of h0) rfl rfl
  -- the draws' number goes up
  have h1 : (S.set m (.lst [.int c0, .int (k0 + 1), .bl b0]))[m]? = some (.lst [.int c0, .int (k0 + 1), .bl b0]) := List.getElem?_set_self hm
  have step : ∀ {q : Q} {x y : Option D} {t : XB}, Z.seq (Z.sti (Z.v 0) (Z.k (.int 1)) (Z.bin .add (Z.ix (Z.v 0) (Z.k (.int 1))) (Z.k (.int 1)))) t q [some (.cell m), x, y] S = t q [some (.cell m), x, y] (S.set m (.lst [.int c0, .int (k0 + 1), .bl b0])) := fun {q x y t} => by
    refine (q_nx (s_stiL (xs := [.int c0, .int k0, .bl b0]) (kk := 1) (x := .int (k0 + 1)) ?_ rfl rfl h0 rfl)).trans rfl
    walk_at "ev"
  generalize hS1 : S.set m (.lst [.int c0, .int (k0 + 1), .bl b0]) = S1 at h1 step
  have f0 : ixD (.cell m) (.t (.int 0)) S1 = .ok (.t (.int c0)) S1 := i_cell (kk := 0) (rd_of h1) rfl rfl
  have f1 : ixD (.cell m) (.t (.int 1)) S1 = .ok (.t (.int (k0 + 1))) S1 := i_cell (kk := 1) (rd_of h1) rfl rfl
  have f2 : ixD (.cell m) (.t (.int 2)) S1 = .ok (.t (.bl b0)) S1 := i_cell (kk := 2) (rd_of h1) rfl rfl
  clear e1 h0
  have lS : S1.length = S.length := by rw [← hS1, List.length_set]
  cases b0 with
  | true =>
    refine (run_Rt (d := .int (c0 % 10 ^ 6)) (S1 := S1.set m (.lst [.int (c0 / 10 ^ 6), .int (k0 + 1), .bl true])) ?_ mv_t).trans ?_
    · show Rt (b_next _ [some (.cell m), none, none] S) _ _
      unfold b_next
      rw [step]
      refine rt_nx (s_setT (x := .int (k0 + 1)) (S1 := S1) ?_) ?_
      · walk_at "ev"
      refine rt_st (rt_ifT (S1 := S1) ?_ ?_)
      · walk_at "ev"
      refine rt_nx (s_setT (x := .int (c0 % 10 ^ 6)) (S1 := S1) ?_) ?_
      · walk_at "ev"
      refine rt_nx (s_stiL (xs := [.int c0, .int (k0 + 1), .bl true]) (kk := 0) (x := .int (c0 / 10 ^ 6)) ?_ rfl rfl h1 rfl) ?_
      · walk_at "ev"
      exact rt_st (rt_ret rfl)
    · rw [List.take_of_length_le (by rw [List.length_set, lS]; exact Nat.le_refl _), ← hS1, List.set_set]
      rfl
  | false =>
    let n1 := ((c0 % 1000003 + (k0 + 1) * (k0 + 1) * 7919 + (k0 + 1)) * 48271) % 2147483629
    let n2 := (n1 * n1) % 2147483587
    have r1 : 0 ≤ n1 ∧ n1 < 2147483629 := ⟨Int.emod_nonneg _ (by decide), Int.emod_lt_of_pos _ (by decide)⟩
    have r2 : 0 ≤ n2 ∧ n2 < 2147483587 := ⟨Int.emod_nonneg _ (by decide), Int.emod_lt_of_pos _ (by decide)⟩
    refine (run_Rt (d := .int (mixI c0 (k0 + 1))) (S1 := S1) ?_ mv_t).trans ?_
    · show Rt (b_next _ [some (.cell m), none, none] S) _ _
      unfold b_next
      rw [step]
      refine rt_nx (s_setT (x := .int (k0 + 1)) (S1 := S1) ?_) ?_
      · walk_at "ev"
      refine rt_nx (S1 := S1) ((s_ifF ?_).trans rfl) ?_
      · walk_at "ev"
      refine rt_nx (s_setT (x := .int n1) (S1 := S1) ?_) ?_
      · have z : bop .mul (.t (.int (k0 + 1))) (.t (.int (k0 + 1))) S1 = .ok (.t (.int ((k0 + 1) * (k0 + 1)))) S1 := b_mulL ⟨by omega, by omega⟩
        walk_at "ev"
        rfl
      refine rt_nx (s_setT (x := .int n2) (S1 := S1) ?_) ?_
      · have z : bop .mul (.t (.int n1)) (.t (.int n1)) S1 = .ok (.t (.int (n1 * n1))) S1 := b_mulL ⟨by omega, by omega⟩
        walk_at "ev"
        rfl
      refine rt_st (rt_ret ?_)
      have z : bop .mul (.t (.int n2)) (.t (.int (n2 + 2))) S1 = .ok (.t (.int (n2 * (n2 + 2)))) S1 := b_mulL ⟨by omega, by omega⟩
      walk_at "ev"
      rfl
    · rw [List.take_of_length_le (by rw [lS]; exact Nat.le_refl _), ← hS1]
      rfl
theorem sp_draws {fa : Nat → Addr} {k : Nat} {S : Store} {c : Int} : callD prog fa (k + 1) n_draws [.t (.int c)] S = .ok (.new (drOf c).ts) S := by
  rw [cd_draws]
  refine (run_Rt (d := .new (drOf c).ts) (S1 := S) ?_ mv_new).trans (by rw [List.take_length])
  show Rt (b_draws _ [some (.t (.int c))] S) _ _
  unfold b_draws
  refine rt_st (rt_ret ?_)
  have p1 : ∀ S : Store, bop .pow (.t (.int 10)) (.t (.int 60)) S = .ok (.t (.int ((10 : Int) ^ (60 : Int).toNat))) S := fun _ => b_pow pw1
  have p2 : ∀ S : Store, bop .pow (.t (.int ((10 : Int) ^ (60 : Int).toNat))) (.t (.int 60)) S = .ok (.t (.int (((10 : Int) ^ (60 : Int).toNat) ^ (60 : Int).toNat))) S := fun _ => b_pow pw2
  have p3 : ∀ S : Store, bop .pow (.t (.int (((10 : Int) ^ (60 : Int).toNat) ^ (60 : Int).toNat))) (.t (.int 4)) S = .ok (.t (.int BIG)) S := fun _ => b_pow pw3
  have p4 : ∀ S : Store, bop .pow (.t (.int 10)) (.t (.int 18)) S = .ok (.t (.int ((10 : Int) ^ (18 : Int).toNat))) S := fun _ => b_pow pw4
  have p5 : ∀ S : Store, bop .mod (.t (.int c)) (.t (.int BIG)) S = .ok (.t (.int (c % BIG))) S := fun _ => b_mod big_pos
  simp only [z_lst, z_cons, z_bin, z_f1, z_w, z_k, z_nil, z_cmp, List.getElem?_cons_zero, bnd_ok, u_intI, p1, p2, p3, p4, p5, c_ge]
  rfl
section
variable {S R : Store} {m : Nat} {d d2 : Dr}
end
/-- int(_law_next(..)) -/
theorem e_next {q : Q} {fa : Nat → Addr} {k i m : Nat} {fr : Mi.Frame} {S : Store} {d : Dr} (hq : q.call = callD prog fa (k + 1)) (hf : fr[i]? = some (some (.cell m))) (h : S[m]? = some (.lst d.ts)) (hk : 0 ≤ d.k ∧ d.k ≤ 1000000000) :
    Z.f1 .int (Z.call n_next (Z.cons (Z.v i) Z.nil) [.inl 0]) q fr S = .ok (.t (.int d.val)) (S.set m (.lst d.nx.ts)) := by
  rw [z_f1, z_call, z_cons, z_v hf, bnd_ok, z_nil, bnd_ok, bnd_ok]
  have : Z.callA q n_next [.cell m] [.inl 0] S = callD prog fa (k + 1) n_next [.cell m] S := by
    rw [← hq]
    rfl
  rw [this, sp_next h hk, bnd_ok]
  rfl
theorem e_nextS {q : Q} {fa : Nat → Addr} {k i m : Nat} {fr : Mi.Frame} {S R : Store} {d : Dr} (hq : q.call = callD prog fa (k + 1)) (hf : fr[i]? = some (some (.cell m))) (hm : m < S.length) (hk : 0 ≤ d.k ∧ d.k ≤ 1000000000) :
    Z.f1 .int (Z.call n_next (Z.cons (Z.v i) Z.nil) [.inl 0]) q fr (St S m d R) = .ok (.t (.int d.val)) (St S m d.nx R) := by
  rw [e_next hq hf (st_get hm) hk, st_set hm]
end Lw

set_option Elab.async false
set_option linter.all false
set_option maxRecDepth 100000
set_option maxHeartbeats 4000000
namespace Lw
open PySem PySem.Spec PyProof.Rows L2 Mi
section
variable {S : Store} {x : D} {ns : List Int}
end
theorem sp_is_whole {fa : Nat → Addr} {k : Nat} {S : Store} {i : Int} : callD prog fa (k + 1) n_is_whole [.t (.int i)] S = .ok (.bl true) S := by
  rw [cd_is_whole]
  exact (run_Rt (d := .bl true) (S1 := S) ⟨_, rfl⟩ mv_t).trans (by rw [List.take_length])
theorem sp_is_list {fa : Nat → Addr} {k : Nat} {S : Store} {x : D} {ns : List Int} {m : Int} (h : IsL S x ns) : callD prog fa (k + 1) n_is_list_up_to [x, .t (.int m)] S = .ok (.bl (decide ((ns.length : Int) ≤ m))) S := by
  rw [cd_is_list_up_to]
  refine (run_Rt (d := .bl (decide ((ns.length : Int) ≤ m))) (S1 := S) ?_ mv_t).trans (by rw [List.take_length])
  show Rt (b_is_list_up_to _ [some x, some (.t (.int m))] S) _ _
  unfold b_is_list_up_to
  refine rt_st (rt_ret ?_)
  simp only [z_and, z_cmp, z_f1, z_w, List.getElem?_cons_zero, List.getElem?_cons_succ, bnd_ok, h.isi, h.len, D.bl, D.int, tr_bl, if_true, c_le]
/-- is_whole of what stands in a slot -/
theorem e_whole {q : Q} {fa : Nat → Addr} {k i : Nat} {fr : Mi.Frame} {S : Store} {v : Int} (hq : q.call = callD prog fa (k + 1)) (hf : fr[i]? = some (some (.t (.int v)))) : Z.call n_is_whole (Z.cons (Z.v i) Z.nil) [.inl 0] q fr S = .ok (.bl true) S := by
  rw [z_call, z_cons, z_v hf, bnd_ok, z_nil, bnd_ok, bnd_ok]
  have : Z.callA q n_is_whole [.t (.int v)] [.inl 0] S = callD prog fa (k + 1) n_is_whole [.t (.int v)] S := by
    rw [← hq]
    rfl
  rw [this, sp_is_whole]
theorem sp_not_whole {fa : Nat → Addr} {k : Nat} {S : Store} {x : D} {ns : List Int} (h : IsL S x ns) : callD prog fa (k + 2) n_first_not_whole [x] S = .ok .non S := by
  generalize hq : (⟨callD prog fa (k + 1), fa, S.length⟩ : Q) = q
  have qc : q.call = callD prog fa (k + 1) := by rw [← hq]
  obtain ⟨lk, hi, hlen, hk, hu⟩ := h.walk
  let I : Nat → Mi.Frame → Store → Prop := fun i fr S' => ∃ a b : Option D, fr = [some x, a, b] ∧ S' = lckS S lk
  have loop : ∃ fr2 S2, Z.forL (.tu [1, 2]) (fun fr2 S2 => Z.cutR false (lckS S lk).length (b_first_not_whole_0 q fr2 S2)) ((enumT (ns.map T.int)).map D.t) [some x, none, none] (lckS S lk) = .ok (.nx, fr2) S2 ∧ I ((enumT (ns.map T.int)).map D.t).length fr2 S2 := by
    refine for_ind I ?_ ⟨_, _, rfl, rfl⟩
    rintro i d fr S' hx ⟨a, b, rfl, rfl⟩
    obtain ⟨v, hv, rfl⟩ := enum_at hx
    refine ⟨_, rfl, .nx, _, _, cut_f (fr1 := [some x, some (.t (.int (i : Nat))), some (.t (.int v))]) (S1 := lckS S lk) ?_, .inl rfl, _, _, rfl, rfl⟩
    unfold b_first_not_whole_0
    refine (q_nx ((s_ifF ?_).trans rfl)).trans rfl
    rw [z_tnot, z_tval, e_whole (v := v) qc rfl]
    rfl
  obtain ⟨fr2, S2, hl, a, b, rfl, rfl⟩ := loop
  rw [cd_first_not_whole]
  refine (run_Rt (d := .non) (S1 := S) ?_ mv_t).trans (by rw [List.take_length])
  rw [hq]
  show Rt (b_first_not_whole q [some x, none, none] S) _ _
  unfold b_first_not_whole
  have e0 := s_forLk (fl := .nx) (R := []) (hi q [some x, none, none] (Z.v 0) (z_v rfl)).1 (by rw [List.append_nil]; exact hl) (hu [])
  rw [List.append_nil] at e0
  exact rt_nx e0 (rt_st (rt_ret rfl))
theorem sp_check_values {fa : Nat → Addr} {k : Nat} {S : Store} {x : D} {ns : List Int} (h : IsL S x ns) (hl : ns.length ≤ 120) : callD prog fa (k + 3) n_check_values [x] S = .ok .non S := by
  generalize hq : (⟨callD prog fa (k + 2), fa, S.length⟩ : Q) = q
  have qc : q.call = callD prog fa (k + 2) := by rw [← hq]
  rw [cd_check_values]
  refine (run_nx (fr1 := [some x, some (.t .non)]) (S1 := S) ?_).trans (by rw [List.take_length])
  rw [hq]
  show b_check_values q [some x, none] S = _
  unfold b_check_values
  have e1 : Z.call n_is_list_up_to (Z.cons (Z.v 0) (Z.cons (Z.k (.int 120)) Z.nil)) [.inl 0, .inl 1] q [some x, none] S = .ok (.bl true) S := by
    rw [e_call2 (z_v rfl) z_k h.arg rfl, qc, sp_is_list h, decide_eq_true (by omega)]
  have e2 : Z.call n_first_not_whole (Z.cons (Z.v 0) Z.nil) [.inl 0] q [some x, none] S = .ok .non S := by
    rw [e_call1 (z_v rfl) h.arg, qc, sp_not_whole h]
  refine (q_ifF (S1 := S) ?_).trans ?_
  · rw [z_tnot, z_tval, e1]
    rfl
  refine (q_nx (s_setT e2)).trans ?_
  exact (q_ifF (S1 := S) rfl).trans rfl
end Lw

set_option Elab.async false
set_option linter.all false
set_option maxRecDepth 100000
set_option maxHeartbeats 4000000
namespace Lw
open PySem PySem.Spec PyProof.Rows L2 Mi
/-! checks of things of any kind -/
theorem sp_whole {fa : Nat → Addr} {k : Nat} {S : Store} {x : T} (h : x.pl = true) : callD prog fa (k + 1) n_is_whole [.t x] S = .ok (.bl (wh x)) S := by
  rw [cd_is_whole]
  cases x with
  | non => exact (run_Rt (d := .bl false) (S1 := S) ⟨_, rfl⟩ mv_t).trans (by rw [List.take_length]; rfl)
  | bl b => exact (run_Rt (d := .bl false) (S1 := S) ⟨_, rfl⟩ mv_t).trans (by rw [List.take_length]; rfl)
  | int i => exact (run_Rt (d := .bl true) (S1 := S) ⟨_, rfl⟩ mv_t).trans (by rw [List.take_length]; rfl)
  | str s => exact (run_Rt (d := .bl false) (S1 := S) ⟨_, rfl⟩ mv_t).trans (by rw [List.take_length]; rfl)
  | lst s => exact (run_Rt (d := .bl false) (S1 := S) ⟨_, rfl⟩ mv_t).trans (by rw [List.take_length]; rfl)
  | tup s => exact (run_Rt (d := .bl false) (S1 := S) ⟨_, rfl⟩ mv_t).trans (by rw [List.take_length]; rfl)
  | dic s => exact (run_Rt (d := .bl false) (S1 := S) ⟨_, rfl⟩ mv_t).trans (by rw [List.take_length]; rfl)
  | _ => cases h
def isLu (x : T) (m : Int) : Bool := match x with
  | .lst ts => decide ((ts.length : Int) ≤ m)
  | _ => false
theorem sp_isLu {fa : Nat → Addr} {k : Nat} {S : Store} {x : T} {m : Int} (h : x.pl = true) : callD prog fa (k + 1) n_is_list_up_to [.t x, .t (.int m)] S = .ok (.bl (isLu x m)) S := by
  rw [cd_is_list_up_to]
  cases x with
  | non => exact (run_Rt (d := .bl false) (S1 := S) ⟨_, rfl⟩ mv_t).trans (by rw [List.take_length]; rfl)
  | bl b => exact (run_Rt (d := .bl false) (S1 := S) ⟨_, rfl⟩ mv_t).trans (by rw [List.take_length]; rfl)
  | int i => exact (run_Rt (d := .bl false) (S1 := S) ⟨_, rfl⟩ mv_t).trans (by rw [List.take_length]; rfl)
  | str s => exact (run_Rt (d := .bl false) (S1 := S) ⟨_, rfl⟩ mv_t).trans (by rw [List.take_length]; rfl)
  | tup s => exact (run_Rt (d := .bl false) (S1 := S) ⟨_, rfl⟩ mv_t).trans (by rw [List.take_length]; rfl)
  | dic s => exact (run_Rt (d := .bl false) (S1 := S) ⟨_, rfl⟩ mv_t).trans (by rw [List.take_length]; rfl)
  | lst ts =>
    refine (run_Rt (d := .bl (isLu (.lst ts) m)) (S1 := S) ?_ mv_t).trans (by rw [List.take_length])
    show Rt (b_is_list_up_to _ [some (.t (.lst ts)), some (.t (.int m))] S) _ _
    unfold b_is_list_up_to
    refine rt_st (rt_ret (e_andT (e_f1 (z_v rfl) rfl) (e_cmp (e_f1 (x := .t (.lst ts)) (z := .t (.int (ts.length : Nat))) (z_v rfl) ?_) (z_v rfl) c_le)))
    show R.ok (D.int _) S = _
    rw [List.length_map]
  | _ => cases h
theorem fnw_loop {q : Q} {fa : Nat → Addr} {k : Nat} {S : Store} {x : D} (qc : q.call = callD prog fa (k + 1)) : ∀ (ts : List T) (p : Nat) (a b : Option D), (∀ t ∈ ts, t.pl = true) →
    ∃ fr2, Z.forL (.tu [1, 2]) (fun fr2 S2 => Z.cutR false S.length (b_first_not_whole_0 q fr2 S2)) ((eT p ts).map D.t) [some x, a, b] S = .ok ((match fnw p ts with
      | some i => .rt (.t (.int (i : Nat)))
      | none => .nx), fr2) S
  | [], p, a, b, _ => ⟨_, rfl⟩
  | t :: ts, p, a, b, h => by
    have e1 : Z.tnot (Z.tval (Z.call n_is_whole (Z.cons (Z.v 2) Z.nil) [.inl 0])) q [some x, some (.t (.int (p : Nat))), some (.t t)] S = .ok (!wh t) S := by
      refine t_not (t_val (x := .t (.bl (wh t))) ?_ tr_bl)
      rw [e_call1 (z_v rfl) rfl, qc]
      exact sp_whole (h t List.mem_cons_self)
    cases hw : wh t with
    | true =>
      rw [hw] at e1
      obtain ⟨fr2, ih⟩ := fnw_loop qc ts (p + 1) (some (.t (.int (p : Nat)))) (some (.t t)) fun u hu => h u (List.mem_cons_of_mem _ hu)
      refine ⟨fr2, ?_⟩
      have ef : fnw p (t :: ts) = fnw (p + 1) ts := by
        cases t with
        | int i => rfl
        | _ => cases hw
      rw [ef]
      refine (fl_nx (fr1 := [some x, some (.t (.int (p : Nat))), some (.t t)]) (fr2 := [some x, some (.t (.int (p : Nat))), some (.t t)]) (S2 := S) rfl (cut_f ?_)).trans ih
      unfold b_first_not_whole_0
      exact (q_ifF e1).trans rfl
    | false =>
      rw [hw] at e1
      have ef : fnw p (t :: ts) = some p := by
        cases t with
        | int i => cases hw
        | _ => rfl
      rw [ef]
      refine ⟨_, fl_rt (fr1 := [some x, some (.t (.int (p : Nat))), some (.t t)]) (fr2 := [some x, some (.t (.int (p : Nat))), some (.t t)]) (S2 := S) rfl (cut_f ?_)⟩
      unfold b_first_not_whole_0
      exact q_rt ((s_ifT e1).trans ((q_rt (s_ret (z_v rfl)))))
theorem sp_fnw {fa : Nat → Addr} {k : Nat} {S : Store} {ts : List T} (h : ∀ t ∈ ts, t.pl = true) : callD prog fa (k + 2) n_first_not_whole [.t (.lst ts)] S = .ok (.t (optT (fnw 0 ts))) S := by
  generalize hq : (⟨callD prog fa (k + 1), fa, S.length⟩ : Q) = q
  have qc : q.call = callD prog fa (k + 1) := by rw [← hq]
  obtain ⟨fr2, hl⟩ := fnw_loop (S := S) (x := .t (.lst ts)) qc ts 0 none none h
  have hi : Z.itEn (Z.v 0) q [some (.t (.lst ts)), none, none] S = .ok ((eT 0 ts).map D.t, none) S := by
    rw [← enumT_eT]
    rfl
  rw [cd_first_not_whole]
  refine (run_Rt (d := .t (optT (fnw 0 ts))) (S1 := S) ?_ mv_t).trans (by rw [List.take_length])
  rw [hq]
  show Rt (b_first_not_whole q [some (.t (.lst ts)), none, none] S) _ _
  unfold b_first_not_whole
  have e0 := s_forF hi hl
  cases hf : fnw 0 ts with
  | none =>
    rw [hf] at e0
    exact rt_nx e0 (rt_st (rt_ret rfl))
  | some i =>
    rw [hf] at e0
    exact rt_st ⟨_, e0⟩
theorem sp_badV {fa : Nat → Addr} {k : Nat} {S : Store} {x p : T} (hx : x.pl = true) (hp : ∀ ts, x = .lst ts → ∀ t ∈ ts, t.pl = true) (h : vErr x = some p) : callD prog fa (k + 3) n_check_values [.t x] S = .ex n_InvalidValues p S := by
  generalize hq : (⟨callD prog fa (k + 2), fa, S.length⟩ : Q) = q
  have qc : q.call = callD prog fa (k + 2) := by rw [← hq]
  have e1 : Z.tnot (Z.tval (Z.call n_is_list_up_to (Z.cons (Z.v 0) (Z.cons (Z.k (.int 120)) Z.nil)) [.inl 0, .inl 1])) q [some (.t x), none] S = .ok (!isLu x 120) S := by
    refine t_not (t_val (x := .t (.bl (isLu x 120))) ?_ tr_bl)
    rw [e_call2 (z_v rfl) z_k rfl rfl, qc]
    exact sp_isLu hx
  rw [cd_check_values]
  refine (run_ex (S1 := S) ?_).trans (by rw [List.take_length])
  rw [hq]
  show b_check_values q [some (.t x), none] S = _
  unfold b_check_values
  cases hl : isLu x 120 with
  | false =>
    rw [hl] at e1
    have ep : p = .non := by
      cases x with
      | lst ts =>
        have hl := of_decide_eq_false hl
        unfold vErr at h
        dsimp only at h
        rw [if_pos (by omega)] at h
        exact (Option.some.inj h).symm
      | _ => exact (Option.some.inj h).symm
    rw [ep]
    exact q_ifX e1 (q_ex (s_rz z_k rfl))
  | true =>
    rw [hl] at e1
    cases x with
    | lst ts =>
      have hl := of_decide_eq_true hl
      unfold vErr at h
      dsimp only at h
      rw [if_neg (by omega)] at h
      cases hf : fnw 0 ts with
      | none =>
        rw [hf] at h
        cases h
      | some i =>
        rw [hf] at h
        cases h
        have e2 := sp_fnw (fa := fa) (k := k) (S := S) (hp ts rfl)
        rw [hf] at e2
        refine (q_ifF e1).trans ((q_nx (s_setT (x := .int (i : Nat)) (S1 := S) ?_)).trans (q_ifX (S1 := S) rfl (q_ex (s_rz (z_v rfl) rfl))))
        rw [e_call1 (z_v rfl) rfl, qc]
        exact e2
    | _ => cases hl
theorem tr_cell' {f n : Nat} {S : Store} {xs : List T} (h : S[n]? = some (.lst xs)) : Mi.tr (f + 1) S (.cell n) = some (.lst xs) := by
  unfold Mi.tr
  rw [rd_of h]
theorem lenC {S : Store} {n : Nat} {xs : List T} (h : S[n]? = some (.lst xs)) : f1D .len (.cell n) S = .ok (.t (.int (xs.length : Nat))) S := by
  show lenD (.cell n) S = _
  unfold lenD
  rw [sqd_c (rd_of h)]
  dsimp only
  rw [List.length_map]
/-- xs.append(e), what is new is frozen -/
theorem s_appA {q : Q} {fr : Mi.Frame} {S S1 : Store} {a : XE} {h : XA} {n : Nat} {xs ys : List T} {y : D} {x : T} (h1 : a q fr S = .ok (.cell n) S) (h2 : S[n]? = some (.lst ys)) (h3 : h q fr S = .ok [y] S1) (hy : Z.arg y = some (.t x)) (h4 : S1[n]? = some (.lst xs)) (hl : xs.length < okL) :
    Z.expr (Z.me .append a h) q fr S = .ok (.nx, fr) (S1.set n (.lst (xs ++ [x]))) := by
  refine s_expr (d := .non) (e_meL h1 ?_ h3 ?_)
  · unfold tyD
    dsimp only
    rw [rd_of h2]
  · show Z.appD (.cell n) y S1 = _
    unfold Z.appD
    dsimp only
    rw [h4]
    dsimp only
    rw [hy]
    dsimp only
    rw [if_pos hl]
theorem s_setI {q : Q} {fr : Mi.Frame} {S S1 : Store} {i : Nat} {mu : Bool} {e : XE} {x : D} (h : e q fr S = .ok x S1) (hx : inSlot x = true) : Z.set i mu e q fr S = .ok (.nx, fr.set i (some x)) S1 := by
  rw [z_set, h, bnd_ok]
  unfold Z.stD
  rw [if_pos hx]
theorem rp_pair {ms xs : List Int} (h1 : Bd ms) (h2 : Bd xs) (l1 : ms.length ≤ 120) (l2 : xs.length ≤ 120) : Rp (.lst [dints ms, dints xs]) 500000 2 := (rp_lst (rps_cons (rp_ints (k := 0) h1 l1) (rps_cons (rp_ints (k := 0) h2 l2) (rps_nil (n := 0))))).mono (by omega) (by omega)
/-! hiding -/
theorem hide_t {L : Nat} {x : T} {fr : Mi.Frame} : Z.hideF L (some (.t x) :: fr) = some (.t x) :: Z.hideF L fr := rfl
theorem hide_n {L : Nat} {fr : Mi.Frame} : Z.hideF L (none :: fr) = none :: Z.hideF L fr := rfl
theorem hide_e {L : Nat} : Z.hideF L [] = [] := rfl
theorem hide_c {L n : Nat} (h : n < L) {fr : Mi.Frame} : Z.hideF L (some (.cell n) :: fr) = some (.cell n) :: Z.hideF L fr := by
  show (if n < L then some (D.cell n) else none) :: Z.hideF L fr = _
  rw [if_pos h]
theorem hide_x {L n : Nat} (h : L ≤ n) {fr : Mi.Frame} : Z.hideF L (some (.cell n) :: fr) = none :: Z.hideF L fr := by
  show (if n < L then some (D.cell n) else none) :: Z.hideF L fr = _
  rw [if_neg (by omega)]
theorem hide_I {S : Store} {y : D} {ns : List Int} (h : IsL S y ns) {fr : Mi.Frame} : Z.hideF S.length (some y :: fr) = some y :: Z.hideF S.length fr := by
  cases h with
  | t => rfl
  | c h => exact hide_c (List.getElem?_eq_some_iff.mp h).1
  | k h => exact hide_c (List.getElem?_eq_some_iff.mp h).1
theorem IsL.tr5 {S : Store} {x : D} {ns : List Int} (h : IsL S x ns) : Mi.tr 5 S x = some (dints ns) := by
  cases h with
  | t => rfl
  | c h =>
    unfold Mi.tr
    rw [rd_of h]
  | k h =>
    unfold Mi.tr
    rw [rd_lk h]
theorem s_setO {q : Q} {fr : Mi.Frame} {S S1 : Store} {i : Nat} {e : XE} {xss : List (List T)} (h : e q fr S = .ok (.newo (xss.map D.new)) S1) : Z.set i true e q fr S = .ok (.nx, fr.set i (some (.cell (S1.length + xss.length)))) (S1 ++ xss.map Ob.lst ++ [.lsto ((List.range' S1.length xss.length).map D.cell)]) := by
  rw [z_set, h, bnd_ok]
  have : Z.stD true (.newo (xss.map D.new)) S1 = some (.cell (S1.length + xss.length), S1 ++ xss.map Ob.lst ++ [.lsto ((List.range' S1.length xss.length).map D.cell)]) := by
    unfold Z.stD
    rw [if_neg (by intro z; cases z), if_pos rfl]
    unfold thaw
    rw [thaw_news]
    dsimp only
    rw [List.length_append, List.length_map]
  rw [this]
/-- f(x, y) with a value that was left out -/
theorem e_call2r {q : Q} {n : Nat} {fr : Mi.Frame} {S S1 S2 : Store} {a b : XE} {x y x' y' : D} {u : T} (h : a q fr S = .ok x S1) (h2 : b q fr S1 = .ok y S2) (hx : Z.arg x = some x') (hy : Z.arg y = some y') : Z.call n (Z.cons a (Z.cons b Z.nil)) [.inl 0, .inl 1, .inr u] q fr S = q.call n [x', y', .t u] S2 := by
  rw [z_call, z_cons, h, bnd_ok, z_cons, h2, bnd_ok, z_nil, bnd_ok, bnd_ok, bnd_ok]
  exact callA_id (mapO2 hx hy) rfl
theorem e_call210 {q : Q} {n : Nat} {fr : Mi.Frame} {S S1 S2 S3 : Store} {a b c : XE} {x y z x' y' z' : D} (h : a q fr S = .ok x S1) (h2 : b q fr S1 = .ok y S2) (h3 : c q fr S2 = .ok z S3) (hx : Z.arg x = some x') (hy : Z.arg y = some y') (hz : Z.arg z = some z') : Z.call n (Z.cons a (Z.cons b (Z.cons c Z.nil))) [.inl 2, .inl 1, .inl 0] q fr S = q.call n [z', y', x'] S3 := by
  rw [z_call, z_cons, h, bnd_ok, z_cons, h2, bnd_ok, z_cons, h3, bnd_ok, z_nil, bnd_ok, bnd_ok, bnd_ok, bnd_ok]
  exact callA_id (mapO3 hx hy hz) rfl
theorem e_call10 {q : Q} {n : Nat} {fr : Mi.Frame} {S S1 S2 : Store} {a b : XE} {x y x' y' : D} (h : a q fr S = .ok x S1) (h2 : b q fr S1 = .ok y S2) (hx : Z.arg x = some x') (hy : Z.arg y = some y') : Z.call n (Z.cons a (Z.cons b Z.nil)) [.inl 1, .inl 0] q fr S = q.call n [y', x'] S2 := by
  rw [z_call, z_cons, h, bnd_ok, z_cons, h2, bnd_ok, z_nil, bnd_ok, bnd_ok, bnd_ok]
  exact callA_id (mapO2 hx hy) rfl
theorem e_lst1z {q : Q} {fr : Mi.Frame} {S S1 : Store} {e1 : XE} {x z : D} (h1 : e1 q fr S = .ok x S1) (h : Z.mkL [x] = z) : Z.lst (Z.cons e1 Z.nil) q fr S = .ok z S1 := by rw [e_lst1 h1, h]
theorem e_lst2z {q : Q} {fr : Mi.Frame} {S S1 S2 : Store} {e1 e2 : XE} {x y z : D} (h1 : e1 q fr S = .ok x S1) (h2 : e2 q fr S1 = .ok y S2) (h : Z.mkL [x, y] = z) : Z.lst (Z.cons e1 (Z.cons e2 Z.nil)) q fr S = .ok z S2 := by rw [e_lst2 h1 h2, h]
/-! two lists in the store and the list of them -/
def pairR (L : Nat) (p r : List T) : Store := [.lst p, .lst r, .lsto [.cell L, .cell (L + 1)]]
section
variable {q : Q} {fr : Mi.Frame} {B B0 : Store} {p r : List T} {c : Nat}
theorem pair_at0 : (B ++ pairR B.length p r)[B.length]? = some (.lst p) := by
  rw [List.getElem?_append_right (Nat.le_refl _), Nat.sub_self]
  rfl
theorem pair_at1 : (B ++ pairR B.length p r)[B.length + 1]? = some (.lst r) := by
  rw [List.getElem?_append_right (by omega), Nat.add_sub_cancel_left]
  rfl
theorem pair_at2 : (B ++ pairR B.length p r)[B.length + 2]? = some (.lsto [.cell B.length, .cell (B.length + 1)]) := by
  rw [List.getElem?_append_right (by omega), Nat.add_sub_cancel_left]
  rfl
theorem pair_set {e : XE} (h : e q fr B0 = .ok (.newo [.new p, .new r]) B) : Z.set c true e q fr B0 = .ok (.nx, fr.set c (some (.cell (B.length + 2)))) (B ++ pairR B.length p r) := by
  have := s_setO (i := c) (xss := [p, r]) h
  rw [this, List.append_assoc]
  rfl
theorem tr_cell {f n : Nat} {S : Store} {xs : List T} (h : S[n]? = some (.lst xs)) : Mi.tr (f + 1) S (.cell n) = some (.lst xs) := by
  unfold Mi.tr
  rw [rd_of h]
theorem rd_un {S : Store} {n : Nat} {o : Ob} (h : S[n]? = some o) (hu : o.un = o) : rd S n = some o := by
  unfold rd
  rw [h]
  show some o.un = _
  rw [hu]
theorem pair_tr : Mi.tr 6 (B ++ pairR B.length p r) (.cell (B.length + 2)) = some (.lst [.lst p, .lst r]) := by
  unfold Mi.tr
  rw [rd_un pair_at2 rfl]
  dsimp only
  unfold mapO
  rw [tr_cell pair_at0]
  dsimp only
  unfold mapO
  rw [tr_cell pair_at1]
  rfl
theorem pair_app (h : fr[c]? = some (some (.cell (B.length + 2)))) (hp : p.length ≤ 1000000) : Z.expr (Z.me .append (Z.ix (Z.v c) (Z.k (.int 0))) (Z.cons (Z.k .non) Z.nil)) q fr (B ++ pairR B.length p r) = .ok (.nx, fr) (B ++ pairR B.length (p ++ [.non]) r) := by
  refine (s_app (n := B.length) (ys := p) (xs := p) (x := .non) (e_ix (z_v h) z_k (i_of (ds := [.cell B.length, .cell (B.length + 1)]) ?_ rfl)) pair_at0 (a_one z_k) pair_at0 (by have : (okL : Nat) = 16000000 := rfl; omega)).trans ?_
  · unfold sqd
    dsimp only
    rw [rd_un pair_at2 rfl]
  · rw [List.set_append_right _ _ (Nat.le_refl _), Nat.sub_self]
    rfl
end
theorem sp_rv {fa : Nat → Addr} {k : Nat} {S : Store} {xs : List Int} (hl : xs.length ≤ 1000) : callD prog fa (k + 1) n_rest_and_visits [.t (dints xs)] S = .ok (.tupo [.new ((dpass xs).map T.int), .new ((dvis xs).map T.int)]) S := by
  generalize hq : (⟨callD prog fa k, fa, S.length⟩ : Q) = q
  have hok : (okL : Nat) = 16000000 := rfl
  let St2 (rs vs : List Int) : Store := S ++ [Ob.lst (rs.map T.int), Ob.lst (vs.map T.int)]
  have top0 : ∀ rs vs : List Int, (St2 rs vs)[S.length]? = some (.lst (rs.map T.int)) := fun rs vs => by
    show (S ++ _)[S.length]? = _
    rw [List.getElem?_append_right (Nat.le_refl _), Nat.sub_self]
    rfl
  have top1 : ∀ rs vs : List Int, (St2 rs vs)[S.length + 1]? = some (.lst (vs.map T.int)) := fun rs vs => by
    show (S ++ _)[S.length + 1]? = _
    rw [List.getElem?_append_right (by omega), Nat.add_sub_cancel_left]
    rfl
  have put0 : ∀ (rs vs zs : List Int), (St2 rs vs).set S.length (.lst (zs.map T.int)) = St2 zs vs := fun rs vs zs => by
    show (S ++ _).set _ _ = _
    rw [List.set_append_right _ _ (Nat.le_refl _), Nat.sub_self]
    rfl
  have put1 : ∀ (rs vs zs : List Int), (St2 rs vs).set (S.length + 1) (.lst (zs.map T.int)) = St2 rs zs := fun rs vs zs => by
    show (S ++ _).set _ _ = _
    rw [List.set_append_right _ _ (by omega), Nat.add_sub_cancel_left]
    rfl
  let F (p : Nat) (e : Option D) : Mi.Frame := [some (.t (dints xs)), some (.cell S.length), some (.cell (S.length + 1)), some (.t (.int (p : Nat))), e]
  let I : Nat × List Int × List Int × Nat × List Int → Mi.Frame → Store → Prop := fun c fr S' => (∃ e, fr = F c.2.2.2.1 e) ∧ S' = St2 (c.2.1 ++ c.2.2.1) c.2.2.2.2 ∧ c.2.2.1.length ≤ c.1 ∧ (c.2.2.2.1 = c.2.1.length ∨ (c.2.1.length ≤ c.2.2.2.1 ∧ c.2.2.1 = [])) ∧ (dv xs.length c.1 c.2.1 c.2.2.1).1 = dpass xs ∧ c.2.2.2.2 ++ (dv xs.length c.1 c.2.1 c.2.2.1).2 = dvis xs ∧ c.2.1.length + c.2.2.1.length ≤ xs.length ∧ c.2.2.2.2.length + c.1 ≤ xs.length
  obtain ⟨x, S2, ew, p, e, rfl, rfl⟩ : ∃ x S2, Z.wh (t_rest_and_visits_0 q) (fun fr2 S2 => Z.cutR false (St2 xs []).length (b_rest_and_visits_0 q fr2 S2)) (F 0 none) (St2 xs []) = .ok x S2 ∧ ∃ p e, x = (.nx, F p e) ∧ S2 = St2 (dpass xs) (dvis xs) := by
    refine wh_ind I (fun c => c.1) (fun x S2 => ∃ p e, x = (.nx, F p e) ∧ S2 = St2 (dpass xs) (dvis xs)) ?_ (a := (xs.length, [], xs, 0, [])) ⟨⟨_, rfl⟩, rfl, Nat.le_refl _, .inl rfl, rfl, rfl, by show 0 + xs.length ≤ _; omega, by show 0 + xs.length ≤ _; omega⟩
    rintro ⟨f, A, B, p, vs⟩ fr S' ⟨⟨e, rfl⟩, rfl, h1, h2, h3, h4, h5, h6⟩
    have h1 : B.length ≤ f := h1
    have h2 : p = A.length ∨ (A.length ≤ p ∧ B = []) := h2
    have h3 : (dv xs.length f A B).1 = dpass xs := h3
    have h4 : vs ++ (dv xs.length f A B).2 = dvis xs := h4
    have h5 : A.length + B.length ≤ xs.length := h5
    have h6 : vs.length + f ≤ xs.length := h6
    show ∃ k S1, t_rest_and_visits_0 q (F p e) (St2 (A ++ B) vs) = .ok k S1 ∧ _
    have elen : ∀ (rs vs : List Int) (e : Option D) (p : Nat), Z.f1 .len (Z.v 1) q (F p e) (St2 rs vs) = .ok (.t (.int (rs.length : Nat))) (St2 rs vs) := fun rs vs e p => by
      refine e_f1 (x := .cell S.length) rfl ?_
      have := lenC (top0 rs vs)
      rw [List.length_map] at this
      exact this
    refine ⟨decide ((p : Int) < ((A ++ B).length : Nat)), St2 (A ++ B) vs, ?_, fun hk => ?_, fun hk => ?_⟩
    · exact tc (x := .t (.int (p : Nat))) (S1 := St2 (A ++ B) vs) rfl (elen _ _ _ _) c_lt
    · have hge := of_decide_eq_false hk
      rw [List.length_append] at hge
      have hB : B = [] := by
        rcases h2 with z | z
        · exact List.length_eq_zero_iff.mp (by omega)
        · exact z.2
      subst hB
      have e1 : dv xs.length f A [] = (A, []) := by
        cases f with
        | zero =>
          show (A ++ [], []) = _
          rw [List.append_nil]
        | succ f => rfl
      rw [e1] at h3 h4
      have h3 : A = dpass xs := h3
      have h4 : vs ++ [] = dvis xs := h4
      rw [List.append_nil] at h4
      exact ⟨p, e, rfl, by rw [List.append_nil, h3, h4]⟩
    · have hlt := of_decide_eq_true hk
      rw [List.length_append] at hlt
      have hp : p = A.length := by
        rcases h2 with z | z
        · exact z
        · rw [z.2] at hlt
          have : ([] : List Int).length = 0 := rfl
          omega
      subst hp
      cases B with
      | nil =>
        have : ([] : List Int).length = 0 := rfl
        omega
      | cons v B =>
        cases f with
        | zero => exact absurd h1 (Nat.not_succ_le_zero _)
        | succ f =>
          have h1 : B.length + 1 ≤ f + 1 := h1
          have h5 : A.length + (B.length + 1) ≤ xs.length := h5
          have h6 : vs.length + (f + 1) ≤ xs.length := h6
          have h3 : (dv xs.length f ((dstep A v B).take (A.length + 1)) ((dstep A v B).drop (A.length + 1))).1 = dpass xs := h3
          have h4 : vs ++ ((((A.length : Nat) : Int) + ((xs.length : Nat) : Int) - ((A.length + B.length + 1 : Nat) : Int)) :: (dv xs.length f ((dstep A v B).take (A.length + 1)) ((dstep A v B).drop (A.length + 1))).2) = dvis xs := h4
          generalize hx : ((A.length : Nat) : Int) + ((xs.length : Nat) : Int) - ((A.length + B.length + 1 : Nat) : Int) = x at h4
          have lL : (dstep A v B).length ≤ A.length + B.length + 1 := by
            by_cases h : 1 < (A ++ v :: B).count v
            · rw [(dstep_drop h).2.2]
              omega
            · unfold dstep
              rw [if_neg h, List.length_append, List.length_cons]
              omega
          have s1 : Z.expr (Z.me .append (Z.v 2) (Z.cons (Z.bin .sub (Z.bin .add (Z.v 3) (Z.f1 .len (Z.v 0))) (Z.f1 .len (Z.v 1))) Z.nil)) q (F A.length e) (St2 (A ++ v :: B) vs) = .ok (.nx, F A.length e) (St2 (A ++ v :: B) (vs ++ [x])) := by
            refine (s_app (n := S.length + 1) (xs := vs.map T.int) (x := .int x) (S1 := St2 (A ++ v :: B) vs) rfl (top1 _ _) (a_one (e_bin (x := .t (.int ((A.length : Nat) + (xs.length : Nat)))) (S1 := St2 (A ++ v :: B) vs) (e_bin (x := .t (.int (A.length : Nat))) (y := .t (.int (xs.length : Nat))) (S1 := St2 (A ++ v :: B) vs) rfl (e_f1 (x := .t (dints xs)) rfl ?_) b_add) (elen _ _ _ _) ?_)) (top1 _ _) (by rw [List.length_map]; omega)).trans (congrArg (R.ok _) ?_)
            · show R.ok (D.int _) _ = _
              rw [List.length_map, List.length_map]
            · rw [b_sub, ← hx, List.length_append, List.length_cons]
              rfl
            · rw [show vs.map T.int ++ [T.int x] = (vs ++ [x]).map T.int by rw [List.map_append]; rfl]
              exact put1 _ _ _
          have s2 : Z.set 4 false (Z.ix (Z.v 1) (Z.v 3)) q (F A.length e) (St2 (A ++ v :: B) (vs ++ [x])) = .ok (.nx, F A.length (some (.t (.int v)))) (St2 (A ++ v :: B) (vs ++ [x])) := by
            refine (s_setT (x := .int v) (S1 := St2 (A ++ v :: B) (vs ++ [x])) (e_ix (x := .cell S.length) (y := .t (.int (A.length : Nat))) (S1 := St2 (A ++ v :: B) (vs ++ [x])) (S2 := St2 (A ++ v :: B) (vs ++ [x])) rfl rfl (i_cell (kk := A.length) (rd_of (top0 _ _)) (ixN_at (by rw [List.length_map, List.length_append, List.length_cons]; omega)) ?_))).trans rfl
            rw [List.getElem?_map, List.getElem?_append_right (Nat.le_refl _), Nat.sub_self]
            rfl
          have ty : ∀ rs vs, tyD (St2 rs vs) (.cell S.length) = some "list" := fun rs vs => by
            unfold tyD
            dsimp only
            rw [rd_of (top0 rs vs)]
          have t3 : Z.tcmp .gt (Z.me .count (Z.v 1) (Z.cons (Z.v 4) Z.nil)) (Z.k (.int 1)) q (F A.length (some (.t (.int v)))) (St2 (A ++ v :: B) (vs ++ [x])) = .ok (decide (1 < (A ++ v :: B).count v)) (St2 (A ++ v :: B) (vs ++ [x])) := by
            refine (tc (x := .t (.int (((A ++ v :: B).count v : Nat) : Int))) (S1 := St2 (A ++ v :: B) (vs ++ [x])) (e_meL (x := .cell S.length) (S1 := St2 (A ++ v :: B) (vs ++ [x])) (S2 := St2 (A ++ v :: B) (vs ++ [x])) (ds := [.t (.int v)]) rfl (ty _ _) rfl ?_) z_k c_gt).trans ?_
            · show Z.cntD (.cell S.length) (.t (.int v)) _ = _
              unfold Z.cntD
              dsimp only
              rw [show intsD (St2 (A ++ v :: B) (vs ++ [x])) (.cell S.length) = some (A ++ v :: B) by
                show (sq _ (.cell S.length)).bind asI = _
                rw [sq_c (rd_of (top0 _ _))]
                exact asI_map _]
            · congr 1
              exact decide_eq_decide.mpr (by omega)
          have s3 : Z.ifs (Z.tcmp .gt (Z.me .count (Z.v 1) (Z.cons (Z.v 4) Z.nil)) (Z.k (.int 1))) (Z.seq (Z.expr (Z.me .remove (Z.v 1) (Z.cons (Z.v 4) Z.nil))) Z.skip) Z.skip q (F A.length (some (.t (.int v)))) (St2 (A ++ v :: B) (vs ++ [x])) = .ok (.nx, F A.length (some (.t (.int v)))) (St2 (dstep A v B) (vs ++ [x])) := by
            rw [s_if t3]
            by_cases h : 1 < (A ++ v :: B).count v
            · rw [decide_eq_true h, if_pos rfl]
              refine (q_nx (s_expr (d := .non) (S1 := St2 (dstep A v B) (vs ++ [x])) (e_meL (x := .cell S.length) (S1 := St2 (A ++ v :: B) (vs ++ [x])) (S2 := St2 (A ++ v :: B) (vs ++ [x])) (ds := [.t (.int v)]) rfl (ty _ _) rfl ?_))).trans rfl
              show Z.remD (.cell S.length) (.t (.int v)) _ = _
              unfold Z.remD
              dsimp only
              rw [top0]
              dsimp only
              rw [asI_map]
              dsimp only
              rw [if_pos (List.mem_append_right _ List.mem_cons_self), ← List.erase_eq_eraseIdx_of_idxOf rfl, put0]
              unfold dstep
              rw [if_pos h]
            · rw [decide_eq_false h, if_neg (by decide)]
              unfold dstep
              rw [if_neg h]
              rfl
          have eTD := dstep_both (A := A) (v := v) (B := B)
          refine ⟨.nx, F (A.length + 1) (some (.t (.int v))), St2 (dstep A v B) (vs ++ [x]), cut_f ?_, .inl ⟨.inl rfl, (f, (dstep A v B).take (A.length + 1), (dstep A v B).drop (A.length + 1), A.length + 1, vs ++ [x]), Nat.lt_succ_self f, ⟨_, rfl⟩, by show _ = St2 (_ ++ _) _; rw [eTD], Nat.le_trans dstep_len (by omega), ?_, h3, by show vs ++ [x] ++ _ = _; rw [List.append_assoc]; exact h4, ?_, by show (vs ++ [x]).length + f ≤ _; rw [List.length_append, List.length_singleton]; omega⟩⟩
          · unfold b_rest_and_visits_0
            exact (q_nx s1).trans ((q_nx s2).trans ((q_nx s3).trans ((q_nx (s_augI (m := (A.length : Nat)) (j := 1) rfl z_k)).trans rfl)))
          · show A.length + 1 = ((dstep A v B).take (A.length + 1)).length ∨ (((dstep A v B).take (A.length + 1)).length ≤ A.length + 1 ∧ (dstep A v B).drop (A.length + 1) = [])
            rw [List.length_take]
            by_cases hh : A.length + 1 ≤ (dstep A v B).length
            · exact .inl (by omega)
            · exact .inr ⟨by omega, List.drop_of_length_le (by omega)⟩
          · show ((dstep A v B).take (A.length + 1)).length + ((dstep A v B).drop (A.length + 1)).length ≤ xs.length
            rw [← List.length_append, eTD]
            omega
  rw [cd_rest_and_visits]
  refine (run_Rt (d := .tupo [.cell S.length, .cell (S.length + 1)]) (e := .tupo [.new ((dpass xs).map T.int), .new ((dvis xs).map T.int)]) (sn := [S.length + 1, S.length]) (S1 := St2 (dpass xs) (dvis xs)) ?_ ?_).trans (congrArg (R.ok _) List.take_left)
  · rw [hq]
    show Rt (b_rest_and_visits q [some (.t (dints xs)), none, none, none, none] S) _ _
    unfold b_rest_and_visits
    refine rt_nx (s_setM (xs := xs.map T.int) (S1 := S) rfl) (rt_nx (fr1 := [some (.t (dints xs)), some (.cell S.length), some (.cell (S.length + 1)), none, none]) (S1 := St2 xs []) ?_ (rt_nx (s_setT (x := .int 0) (S1 := St2 xs []) rfl) (rt_nx (z_whs.trans ew) (rt_st (rt_ret rfl)))))
    refine (s_setM (xs := []) (S1 := S ++ [Ob.lst (xs.map T.int)]) rfl).trans ?_
    rw [List.append_assoc, List.length_append]
    rfl
  · unfold mv
    show (mapM2 (mv 5 (St2 (dpass xs) (dvis xs)) S.length) [] [.cell S.length, .cell (S.length + 1)]).map _ = _
    have m0 : mv 5 (St2 (dpass xs) (dvis xs)) S.length [] (.cell S.length) = some (.new ((dpass xs).map T.int), [S.length]) := by
      unfold mv
      rw [if_neg (Nat.lt_irrefl _), top0]
      rfl
    have m1 : mv 5 (St2 (dpass xs) (dvis xs)) S.length [S.length] (.cell (S.length + 1)) = some (.new ((dvis xs).map T.int), [S.length + 1, S.length]) := by
      unfold mv
      rw [if_neg (show ¬ (S.length + 1 < S.length) by omega), if_neg (by rw [List.contains_cons, List.contains_nil, Bool.or_false]; simp), top1]
    unfold mapM2
    rw [m0]
    dsimp only
    unfold mapM2
    rw [m1]
    rfl
end Lw

set_option Elab.async false
set_option linter.all false
set_option maxRecDepth 100000
set_option maxHeartbeats 4000000
namespace Lw
open PySem PySem.Spec PyProof.Rows L2 Mi
/-! doublet passes: what the program's defs give -/
theorem s_settF2 {q : Q} {fr fr2 : Mi.Frame} {S S1 : Store} {a : XE} {i j : Nat} {xs ys : List T} (h : a q fr S = .ok (.tupo [.new xs, .new ys]) S1) (hf : (fr.set i (some (.t (.lst xs)))).set j (some (.t (.lst ys))) = fr2) : Z.sett [i, j] false a q fr S = .ok (.nx, fr2) S1 := by
  rw [z_sett, h, ← hf]
  rfl
theorem ded_sub : ∀ xs : List Int, (dedup xs).Sublist xs
  | [] => .slnil
  | x :: xs => by
    unfold dedup
    split
    · exact (ded_sub xs).cons x
    · exact (ded_sub xs).cons₂ x
theorem ded_id : ∀ {xs : List Int}, xs.Nodup → dedup xs = xs
  | [], _ => rfl
  | x :: xs, h => by
    rw [List.nodup_cons] at h
    unfold dedup
    rw [if_neg (fun z => h.1 (List.contains_iff_mem.mp z)), ded_id h.2]
theorem ded_lt (xs : List Int) : (dedup xs).length < xs.length ↔ 0 < dbl xs := by
  have h := (ded_sub xs).length_le
  constructor
  · intro hl
    rcases Nat.eq_zero_or_pos (dbl xs) with h0 | h0
    · rw [ded_id (dbl_zero.mp h0)] at hl
      omega
    · exact h0
  · intro hp
    rcases Nat.lt_or_ge (dedup xs).length xs.length with hl | hl
    · exact hl
    · have e := (ded_sub xs).eq_of_length (Nat.le_antisymm h hl)
      have := dedup_nd xs
      rw [e, ← dbl_zero] at this
      omega
theorem sp_has {fa : Nat → Addr} {k : Nat} {S : Store} {xs : List Int} (hl : xs.length ≤ 4000) : callD prog fa (k + 1) n_has_doublets [.t (dints xs)] S = .ok (.bl (decide (0 < dbl xs))) S := by
  rw [cd_has_doublets]
  refine (run_Rt (d := .bl (decide (0 < dbl xs))) (S1 := S) ?_ mv_t).trans (by rw [List.take_length])
  show Rt (b_has_doublets _ [some (.t (dints xs))] S) _ _
  unfold b_has_doublets
  refine rt_st (rt_ret (e_cmp (x := .t (.int ((dedup xs).length : Nat))) (y := .t (.int (xs.length : Nat))) (S1 := S) ?_ (e_f1 (z_v rfl) ?_) ?_))
  · unfold Z.slen
    rw [z_v rfl, bnd_ok, show intsD S (.t (dints xs)) = some xs from asI_map _]
    exact if_pos hl
  · exact (IsL.t (S := S) (ns := xs)).len
  · rw [c_lt]
    congr 1
    refine decide_eq_decide.mpr ?_
    rw [← ded_lt]
    omega
theorem sp_is_right {fa : Nat → Addr} {k : Nat} {S : Store} {xs : List Int} (hl : xs.length ≤ 1000) : callD prog fa (k + 2) n_is_right [.t (dints xs)] S = .ok (.bl (!decide (0 < dbl (dpass xs)))) S := by
  generalize hq : (⟨callD prog fa (k + 1), fa, S.length⟩ : Q) = q
  have qc : q.call = callD prog fa (k + 1) := by rw [← hq]
  rw [cd_is_right]
  refine (run_Rt (d := .bl (!decide (0 < dbl (dpass xs)))) (S1 := S) ?_ mv_t).trans (by rw [List.take_length])
  rw [hq]
  show Rt (b_is_right q [some (.t (dints xs)), none, none] S) _ _
  unfold b_is_right
  refine rt_nx (s_settF2 (xs := (dpass xs).map T.int) (ys := (dvis xs).map T.int) (S1 := S) ?_ rfl) (rt_st (rt_ret ?_))
  · rw [e_call1 (z_v rfl) rfl, qc]
    exact sp_rv hl
  · have e : Z.call n_has_doublets (Z.cons (Z.v 1) Z.nil) [.inl 0] q [some (.t (dints xs)), some (.t (dints (dpass xs))), some (.t (dints (dvis xs)))] S = .ok (.bl (decide (0 < dbl (dpass xs)))) S := by
      rw [e_call1 (z_v rfl) rfl, qc]
      exact sp_has (by have := dpass_len xs; omega)
    show Z.not _ q [some (.t (dints xs)), some (.t (dints (dpass xs))), some (.t (dints (dvis xs)))] S = _
    rw [z_not, e, bnd_ok, tr_bl, bnd_ok]
theorem e_check {q : Q} {fa : Nat → Addr} {k : Nat} {S : Store} {fr : Mi.Frame} {xs : List Int} {t : XB} {d : D} {S' : Store} (qc : q.call = callD prog fa (k + 3)) (h0 : fr[0]? = some (some (.t (dints xs)))) (hl : xs.length ≤ 120) (h : Rt (t q fr S) d S') : Rt (Z.seq (Z.expr (Z.call n_check_values (Z.cons (Z.v 0) Z.nil) [.inl 0])) t q fr S) d S' := by
  refine rt_nx (s_expr (d := .non) (S1 := S) ?_) h
  rw [e_call1 (z_v h0) rfl, qc]
  exact sp_check_values .t hl
theorem sp_comes {fa : Nat → Addr} {k : Nat} {S : Store} {xs : List Int} (hl : xs.length ≤ 120) : callD prog fa (k + 4) n_comes_out_right [.t (dints xs)] S = .ok (.bl (!decide (0 < dbl (dpass xs)))) S := by
  generalize hq : (⟨callD prog fa (k + 3), fa, S.length⟩ : Q) = q
  have qc : q.call = callD prog fa (k + 3) := by rw [← hq]
  rw [cd_comes_out_right]
  refine (run_Rt (d := .bl (!decide (0 < dbl (dpass xs)))) (S1 := S) ?_ mv_t).trans (by rw [List.take_length])
  rw [hq]
  show Rt (b_comes_out_right q [some (.t (dints xs))] S) _ _
  unfold b_comes_out_right
  refine e_check qc rfl hl (rt_st (rt_ret ?_))
  rw [e_call1 (z_v rfl) rfl, qc]
  exact sp_is_right (by omega)
theorem enumI (xs : List Int) : (enumT (xs.map T.int)).map D.t = (List.range' 0 xs.length).map fun i => D.t (.tup [.int ((i : Nat) : Int), .int (gx xs i)]) := by
  refine List.ext_getElem? fun i => ?_
  rw [List.getElem?_map, enumT_get, List.getElem?_map, List.getElem?_map]
  by_cases h : i < xs.length
  · rw [gx_at i h, List.getElem?_range' h, Nat.zero_add, Nat.one_mul]
    rfl
  · rw [List.getElem?_eq_none (by omega), List.getElem?_eq_none (by rw [List.length_range']; omega)]
    rfl
end Lw

set_option Elab.async false
set_option linter.all false
set_option maxRecDepth 100000
set_option maxHeartbeats 4000000
namespace Lw
open PySem PySem.Spec PyProof.Rows L2 Mi
/-! the loop gone through with pairs of values and places -/
def en2 : Nat → List Int → List (Int × Nat)
  | _, [] => []
  | p, v :: r => (v, p) :: en2 (p + 1) r
def vpT (p : Int × Nat) : T := .tup [.int p.1, .int ((p.2 : Nat) : Int)]
theorem en2_fst : ∀ (xs : List Int) (p : Nat), (en2 p xs).map (·.1) = xs
  | [], _ => rfl
  | v :: r, p => congrArg (v :: ·) (en2_fst r (p + 1))
theorem en2_len : ∀ (xs : List Int) (p : Nat), (en2 p xs).length = xs.length
  | [], _ => rfl
  | v :: r, p => congrArg Nat.succ (en2_len r (p + 1))
theorem en2_drop (p : Nat) : ∀ B : List Int, (en2 (p + 1) B).drop 1 = en2 (p + 2) (B.drop 1)
  | [] => rfl
  | b :: B => rfl
theorem en2_range {g : Nat → Int} : ∀ (xs : List Int) (p : Nat), (∀ i, i < xs.length → xs[i]? = some (g (p + i))) → (List.range' p xs.length).map (fun i => vpT (g i, i)) = (en2 p xs).map vpT
  | [], _, _ => rfl
  | v :: r, p, h => by
    have h0 := h 0 (by rw [List.length_cons]; omega)
    rw [List.getElem?_cons_zero] at h0
    have h0 : v = g p := Option.some.inj h0
    rw [List.length_cons, List.range'_succ, List.map_cons, en2_range r (p + 1) fun i hi => by
      have := h (i + 1) (by rw [List.length_cons]; omega)
      rw [List.getElem?_cons_succ, show p + (i + 1) = p + 1 + i by omega] at this
      exact this]
    show vpT (g p, p) :: _ = vpT (v, p) :: _
    rw [h0]
theorem enumW (row : List (Int × Nat)) : (enumT (row.map vpT)).map D.t = (List.range' 0 row.length).map fun i => D.t (.tup [.int ((i : Nat) : Int), vpT ((row[i]?).getD (0, 0))]) := by
  refine List.ext_getElem? fun i => ?_
  rw [List.getElem?_map, enumT_get, List.getElem?_map, List.getElem?_map]
  by_cases h : i < row.length
  · rw [List.getElem?_range' h, Nat.zero_add, Nat.one_mul, List.getElem?_eq_getElem h]
    show some _ = some (D.t (.tup [.int ((i : Nat) : Int), vpT ((row[i]?).getD (0, 0))]))
    rw [List.getElem?_eq_getElem h]
    rfl
  · rw [List.getElem?_eq_none (by omega), List.getElem?_eq_none (by rw [List.length_range']; omega)]
    rfl
/-- the places at which a value stands begin with the first -/
theorem first_at {rp rs : List (Int × Nat)} {v : Int} {q : Nat} (h : ∀ u ∈ rp, u.1 ≠ v) : ∃ l, (List.range' 0 (rp ++ (v, q) :: rs).length).filter (fun i => decide ((((rp ++ (v, q) :: rs)[i]?).getD (0, 0)).1 = v)) = rp.length :: l := by
  have e : (rp ++ (v, q) :: rs).length = rp.length + (rs.length + 1) := by rw [List.length_append, List.length_cons]
  rw [e, ← List.range'_append_1, List.filter_append]
  have e0 : (List.range' 0 rp.length).filter (fun i => decide ((((rp ++ (v, q) :: rs)[i]?).getD (0, 0)).1 = v)) = [] := by
    rw [List.filter_eq_nil_iff]
    intro i hi
    have hi := (List.mem_range'_1.mp hi).2
    rw [List.getElem?_append_left (by omega), List.getElem?_eq_getElem (by omega : i < rp.length)]
    rw [decide_eq_true_iff]
    exact h _ (List.getElem_mem _)
  rw [e0, List.nil_append, Nat.zero_add, List.range'_succ, List.filter_cons]
  have e1 : decide ((((rp ++ (v, q) :: rs)[rp.length]?).getD (0, 0)).1 = v) = true := by
    rw [List.getElem?_append_right (Nat.le_refl _), Nat.sub_self]
    exact decide_eq_true rfl
  rw [e1, if_pos rfl]
  exact ⟨_, rfl⟩
theorem sp_walked {fa : Nat → Addr} {k : Nat} {S : Store} {xs : List Int} (hl : xs.length ≤ 1000) : callD prog fa (k + 1) n_walked [.t (dints xs)] S = .ok (.tupo [.new ((dvis xs).map T.int), .new ((dpass xs).map T.int)]) S := by
  generalize hq : (⟨callD prog fa k, fa, S.length⟩ : Q) = q
  have hok : (okL : Nat) = 16000000 := rfl
  let St2 (vs : List Int) : Store := S ++ [Ob.lst (vs.map T.int)]
  have top : ∀ vs : List Int, (St2 vs)[S.length]? = some (.lst (vs.map T.int)) := fun vs => by
    show (S ++ _)[S.length]? = _
    rw [List.getElem?_append_right (Nat.le_refl _), Nat.sub_self]
    rfl
  have put : ∀ (vs zs : List Int), (St2 vs).set S.length (.lst (zs.map T.int)) = St2 zs := fun vs zs => by
    show (S ++ _).set _ _ = _
    rw [List.set_append_right _ _ (Nat.le_refl _), Nat.sub_self]
    rfl
  let F (row : List (Int × Nat)) (p : Nat) (e4 e5 : Option D) : Mi.Frame := [some (.t (dints xs)), some (.t (.lst (row.map vpT))), some (.cell S.length), some (.t (.int (p : Nat))), e4, e5, none, none, none, none]
  -- f, R1, p, B, at, vs
  let I : Nat × List (Int × Nat) × Nat × List Int × Nat × List Int → Mi.Frame → Store → Prop := fun c fr S' => (∃ e4 e5, fr = F (c.2.1 ++ en2 c.2.2.1 c.2.2.2.1) c.2.2.2.2.1 e4 e5) ∧ S' = St2 c.2.2.2.2.2 ∧ c.2.2.2.1.length ≤ c.1 ∧ (c.2.2.2.2.1 = c.2.1.length ∨ (c.2.1.length ≤ c.2.2.2.2.1 ∧ c.2.2.2.1 = [])) ∧ (c.2.2.2.1 = [] ∨ c.2.2.1 + c.2.2.2.1.length = xs.length) ∧
    (dv xs.length c.1 (c.2.1.map (·.1)) c.2.2.2.1).1 = dpass xs ∧ c.2.2.2.2.2 ++ (dv xs.length c.1 (c.2.1.map (·.1)) c.2.2.2.1).2 = dvis xs ∧ c.2.1.length + c.2.2.2.1.length ≤ xs.length ∧ c.2.2.2.2.2.length + c.1 ≤ xs.length
  obtain ⟨x, S2, ew, R, p, e4, e5, hR, rfl, rfl⟩ : ∃ x S2, Z.wh (t_walked_0 q) (fun fr2 S2 => Z.cutR false (St2 []).length (b_walked_0 q fr2 S2)) (F (en2 0 xs) 0 none none) (St2 []) = .ok x S2 ∧ ∃ R p e4 e5, R.map (·.1) = dpass xs ∧ x = (.nx, F R p e4 e5) ∧ S2 = St2 (dvis xs) := by
    refine wh_ind I (fun c => c.1) (fun x S2 => ∃ R p e4 e5, R.map (·.1) = dpass xs ∧ x = (.nx, F R p e4 e5) ∧ S2 = St2 (dvis xs)) ?_ (a := (xs.length, [], 0, xs, 0, [])) ⟨⟨_, _, rfl⟩, rfl, Nat.le_refl _, .inl rfl, .inr (Nat.zero_add _), rfl, rfl, by show 0 + xs.length ≤ _; omega, by show 0 + xs.length ≤ _; omega⟩
    rintro ⟨f, R1, p, B, a, vs⟩ fr S' ⟨⟨e4, e5, rfl⟩, rfl, h1, h2, h7, h3, h4, h5, h6⟩
    have h1 : B.length ≤ f := h1
    have h2 : a = R1.length ∨ (R1.length ≤ a ∧ B = []) := h2
    have h7 : B = [] ∨ p + B.length = xs.length := h7
    have h3 : (dv xs.length f (R1.map (·.1)) B).1 = dpass xs := h3
    have h4 : vs ++ (dv xs.length f (R1.map (·.1)) B).2 = dvis xs := h4
    have h5 : R1.length + B.length ≤ xs.length := h5
    have h6 : vs.length + f ≤ xs.length := h6
    show ∃ k S1, t_walked_0 q (F (R1 ++ en2 p B) a e4 e5) (St2 vs) = .ok k S1 ∧ _
    have hlen : (R1 ++ en2 p B).length = R1.length + B.length := by rw [List.length_append, en2_len]
    have elen : ∀ (row : List (Int × Nat)) (p : Nat) (e4 e5 : Option D), Z.f1 .len (Z.v 1) q (F row p e4 e5) (St2 vs) = .ok (.t (.int (row.length : Nat))) (St2 vs) := fun row p e4 e5 => by
      refine e_f1 (x := .t (.lst (row.map vpT))) rfl ?_
      show R.ok (D.int ((((row.map vpT).map D.t).length : Nat) : Int)) _ = _
      rw [List.length_map, List.length_map]
    refine ⟨decide ((a : Int) < ((R1 ++ en2 p B).length : Nat)), St2 vs, tc (x := .t (.int (a : Nat))) (S1 := St2 vs) rfl (elen _ _ _ _) c_lt, fun hk => ?_, fun hk => ?_⟩
    · have hge := of_decide_eq_false hk
      rw [hlen] at hge
      have hB : B = [] := by
        rcases h2 with z | z
        · exact List.length_eq_zero_iff.mp (by omega)
        · exact z.2
      subst hB
      have e1 : dv xs.length f (R1.map (·.1)) [] = (R1.map (·.1), []) := by
        cases f with
        | zero =>
          show (_ ++ [], []) = _
          rw [List.append_nil]
        | succ f => rfl
      rw [e1] at h3 h4
      have h3 : R1.map (·.1) = dpass xs := h3
      have h4 : vs ++ [] = dvis xs := h4
      rw [List.append_nil] at h4
      exact ⟨R1, a, e4, e5, h3, by show _ = (Fl.nx, F R1 a e4 e5); rw [show R1 ++ en2 p [] = R1 from List.append_nil _], by rw [h4]⟩
    · have hlt := of_decide_eq_true hk
      rw [hlen] at hlt
      have ha : a = R1.length := by
        rcases h2 with z | z
        · exact z
        · rw [z.2] at hlt
          have : ([] : List Int).length = 0 := rfl
          omega
      subst ha
      cases B with
      | nil =>
        have : ([] : List Int).length = 0 := rfl
        omega
      | cons v B =>
        cases f with
        | zero => exact absurd h1 (Nat.not_succ_le_zero _)
        | succ f =>
          have h1 : B.length + 1 ≤ f + 1 := h1
          have h7 : p + (B.length + 1) = xs.length := h7.resolve_left (fun z => by cases z)
          have h5 : R1.length + (B.length + 1) ≤ xs.length := h5
          have h6 : vs.length + (f + 1) ≤ xs.length := h6
          generalize hA : R1.map (·.1) = A at h3 h4
          have lA : A.length = R1.length := by rw [← hA, List.length_map]
          have h3 : (dv xs.length f ((dstep A v B).take (A.length + 1)) ((dstep A v B).drop (A.length + 1))).1 = dpass xs := h3
          have h4 : vs ++ ((((A.length : Nat) : Int) + ((xs.length : Nat) : Int) - ((A.length + B.length + 1 : Nat) : Int)) :: (dv xs.length f ((dstep A v B).take (A.length + 1)) ((dstep A v B).drop (A.length + 1))).2) = dvis xs := h4
          rw [show ((A.length : Nat) : Int) + ((xs.length : Nat) : Int) - ((A.length + B.length + 1 : Nat) : Int) = ((p : Nat) : Int) by omega] at h4
          generalize hrow : R1 ++ en2 p (v :: B) = row at *
          have rowfst : row.map (·.1) = A ++ v :: B := by rw [← hrow, List.map_append, en2_fst, hA]
          have rowat : row[R1.length]? = some (v, p) := by
            rw [← hrow, List.getElem?_append_right (Nat.le_refl _), Nat.sub_self]
            rfl
          have rl : row.length = R1.length + (B.length + 1) := hlen
          have rowd : row.drop (R1.length + 2) = en2 (p + 2) (B.drop 1) := by
            rw [← hrow, ← en2_drop]
            show (R1 ++ (v, p) :: en2 (p + 1) B).drop (R1.length + 2) = _
            rw [show R1 ++ (v, p) :: en2 (p + 1) B = (R1 ++ [(v, p)]) ++ en2 (p + 1) B by rw [List.append_assoc]; rfl, List.drop_append, List.drop_of_length_le (by rw [List.length_append, List.length_singleton]; omega), List.nil_append, List.length_append, List.length_singleton]
            congr 1
            omega
          have epair : ∀ (e4 e5 : Option D) (vs : List Int), Z.ix (Z.v 1) (Z.v 3) q (F row R1.length e4 e5) (St2 vs) = .ok (.t (vpT (v, p))) (St2 vs) := fun e4 e5 vs => by
            refine e_ix (x := .t (.lst (row.map vpT))) (y := .t (.int (R1.length : Nat))) (S1 := St2 vs) (S2 := St2 vs) rfl rfl (i_of (ds := (row.map vpT).map D.t) rfl ?_)
            rw [List.length_map, List.length_map, ixN_at (by omega)]
            show ((row.map vpT).map D.t)[R1.length]? = _
            rw [List.getElem?_map, List.getElem?_map, rowat]
            rfl
          have s1 : Z.set 4 false (Z.ix (Z.ix (Z.v 1) (Z.v 3)) (Z.k (.int 0))) q (F row R1.length e4 e5) (St2 vs) = .ok (.nx, F row R1.length (some (.t (.int v))) e5) (St2 vs) := (s_setT (x := .int v) (S1 := St2 vs) (e_ix (epair e4 e5 vs) z_k (i_of (ds := [.t (.int v), .t (.int ((p : Nat) : Int))]) rfl rfl))).trans rfl
          have s2 : Z.expr (Z.me .append (Z.v 2) (Z.cons (Z.ix (Z.ix (Z.v 1) (Z.v 3)) (Z.k (.int 1))) Z.nil)) q (F row R1.length (some (.t (.int v))) e5) (St2 vs) = .ok (.nx, F row R1.length (some (.t (.int v))) e5) (St2 (vs ++ [((p : Nat) : Int)])) := by
            refine (s_app (n := S.length) (xs := vs.map T.int) (x := .int ((p : Nat) : Int)) (S1 := St2 vs) rfl (top _) (a_one (e_ix (epair _ e5 vs) z_k (i_of (ds := [.t (.int v), .t (.int ((p : Nat) : Int))]) rfl rfl))) (top _) (by rw [List.length_map]; omega)).trans (congrArg (R.ok _) ?_)
            rw [show vs.map T.int ++ [T.int ((p : Nat) : Int)] = (vs ++ [((p : Nat) : Int)]).map T.int by rw [List.map_append]; rfl]
            exact put _ _
          generalize hvs : vs ++ [((p : Nat) : Int)] = vs2 at s2
          have lvs : vs2.length = vs.length + 1 := by rw [← hvs, List.length_append]; rfl
          have h4 : vs2 ++ (dv xs.length f ((dstep A v B).take (A.length + 1)) ((dstep A v B).drop (A.length + 1))).2 = dvis xs := by rw [← hvs, List.append_assoc]; exact h4
          have s3 : Z.set 3 false (Z.bin .add (Z.v 3) (Z.k (.int 1))) q (F row R1.length (some (.t (.int v))) e5) (St2 vs2) = .ok (.nx, F row (R1.length + 1) (some (.t (.int v))) e5) (St2 vs2) := rfl
          have t4 : Z.tcmp .gt (Z.f1 .len (Z.lc [7, 6] (.tu [7, 6]) (Z.itE (Z.v 1)) (Z.tcmp .eq (Z.v 7) (Z.v 4)) (Z.v 7))) (Z.k (.int 1)) q (F row (R1.length + 1) (some (.t (.int v))) e5) (St2 vs2) = .ok (decide (1 < (A ++ v :: B).count v)) (St2 vs2) := by
            have hi : Z.itE (Z.v 1) q (F row (R1.length + 1) (some (.t (.int v))) e5) (St2 vs2) = .ok (row.map fun u => D.t (vpT u), none) (St2 vs2) := by
              show R.ok ((row.map vpT).map D.t, none) _ = _
              rw [List.map_map]
              rfl
            have el := e_lc (q := q) (vs := [7, 6]) (tg := .tu [7, 6]) (ts := Z.tcmp .eq (Z.v 7) (Z.v 4)) (el := Z.v 7) (p := fun u : Int × Nat => decide (u.1 = v)) (g := fun u => T.int u.1) hi (by omega) fun u _ => ⟨[some (.t (dints xs)), some (.t (.lst (row.map vpT))), some (.cell S.length), some (.t (.int ((R1.length + 1 : Nat) : Int))), some (.t (.int v)), e5, some (.t (.int ((u.2 : Nat) : Int))), some (.t (.int u.1)), none, none], rfl, tc (x := .t (.int u.1)) (y := .t (.int v)) (S1 := St2 vs2) rfl rfl c_eqI, fun _ => rfl⟩
            refine (tc (x := .t (.int (((A ++ v :: B).count v : Nat) : Int))) (S1 := St2 vs2) (e_f1 el ?_) z_k c_gt).trans (congrArg (fun b : Bool => R.ok b (St2 vs2)) (decide_eq_decide.mpr (by omega)))
            show R.ok (D.int (((((row.filter fun u => decide (u.1 = v)).map fun u => T.int u.1).map D.t).length : Nat) : Int)) _ = _
            rw [List.length_map, List.length_map, ← rowfst, List.count_eq_countP, List.countP_map, List.countP_eq_length_filter]
            congr 5
          have eTD := dstep_both (A := A) (v := v) (B := B)
          have lT : (dstep A v B).length ≤ A.length + B.length + 1 := by
            by_cases h : 1 < (A ++ v :: B).count v
            · rw [(dstep_drop h).2.2]
              omega
            · unfold dstep
              rw [if_neg h, List.length_append, List.length_cons]
              omega
          rcases Nat.lt_or_ge 1 ((A ++ v :: B).count v) with hc | hc
          · -- dropped
            have hm : v ∈ A ++ v :: B := List.mem_append_right _ List.mem_cons_self
            obtain ⟨pre, suf, esp, hpre⟩ := List.eq_append_cons_of_mem hm
            obtain ⟨rp, r2, er, erp, er2⟩ := List.map_eq_append_iff.mp (rowfst.trans esp)
            obtain ⟨u, rs, eu, euv, ers⟩ := List.map_eq_cons_iff.mp er2
            obtain ⟨u1, qq⟩ := u
            have euv : u1 = v := euv
            subst euv
            subst eu
            have hrp : ∀ w ∈ rp, w.1 ≠ u1 := fun w hw z => hpre (by rw [← erp, ← z]; exact List.mem_map.mpr ⟨w, hw, rfl⟩)
            have hk1 : rp.length ≤ R1.length := by
              rcases Nat.lt_or_ge R1.length rp.length with z | z
              · rw [er, List.getElem?_append_left z, List.getElem?_eq_getElem z] at rowat
                exact absurd (congrArg Prod.fst (Option.some.inj rowat)) (hrp _ (List.getElem_mem z))
              · exact z
            have lrow : rp.length + (rs.length + 1) = R1.length + (B.length + 1) := by rw [← rl, er, List.length_append, List.length_cons]
            obtain ⟨l, hfirst⟩ := first_at (rs := rs) (q := qq) hrp
            rw [← er] at hfirst
            have s5 : Z.set 5 false (Z.ix (Z.lc [8, 9] (.tu [8, 9]) (Z.itEn (Z.v 1)) (Z.tcmp .eq (Z.ix (Z.v 9) (Z.k (.int 0))) (Z.v 4)) (Z.v 8)) (Z.k (.int 0))) q (F row (R1.length + 1) (some (.t (.int u1))) e5) (St2 vs2) = .ok (.nx, F row (R1.length + 1) (some (.t (.int u1))) (some (.t (.int ((rp.length : Nat) : Int))))) (St2 vs2) := by
              have hi : Z.itEn (Z.v 1) q (F row (R1.length + 1) (some (.t (.int u1))) e5) (St2 vs2) = .ok ((List.range' 0 row.length).map fun i => D.t (.tup [.int ((i : Nat) : Int), vpT ((row[i]?).getD (0, 0))]), none) (St2 vs2) := by
                rw [← enumW]
                rfl
              have el := e_lc (q := q) (vs := [8, 9]) (tg := .tu [8, 9]) (ts := Z.tcmp .eq (Z.ix (Z.v 9) (Z.k (.int 0))) (Z.v 4)) (el := Z.v 8) (p := fun i : Nat => decide (((row[i]?).getD (0, 0)).1 = u1)) (g := fun i => T.int ((i : Nat) : Int)) hi (by rw [List.length_range']; omega) fun i _ => ⟨[some (.t (dints xs)), some (.t (.lst (row.map vpT))), some (.cell S.length), some (.t (.int ((R1.length + 1 : Nat) : Int))), some (.t (.int u1)), e5, none, none, some (.t (.int ((i : Nat) : Int))), some (.t (vpT ((row[i]?).getD (0, 0))))], rfl, tc (x := .t (.int ((row[i]?).getD (0, 0)).1)) (y := .t (.int u1)) (S1 := St2 vs2) (e_ix (x := .t (vpT ((row[i]?).getD (0, 0)))) (S1 := St2 vs2) rfl z_k (i_of (ds := [.t (.int ((row[i]?).getD (0, 0)).1), .t (.int ((((row[i]?).getD (0, 0)).2 : Nat) : Int))]) rfl rfl)) rfl c_eqI, fun _ => rfl⟩
              rw [hfirst] at el
              exact (s_setT (x := .int ((rp.length : Nat) : Int)) (S1 := St2 vs2) (e_ix el z_k (ix_new (kk := 0) (ixN_at (n := (((rp.length :: l).map fun i => T.int ((i : Nat) : Int))).length) (i := 0) (by rw [List.length_map, List.length_cons]; omega)) rfl))).trans rfl
            have s6 : Z.set 1 false (Z.bin .add (Z.sl (Z.v 1) none (some (Z.v 5))) (Z.sl (Z.v 1) (some (Z.bin .add (Z.v 5) (Z.k (.int 1)))) none)) q (F row (R1.length + 1) (some (.t (.int u1))) (some (.t (.int ((rp.length : Nat) : Int))))) (St2 vs2) = .ok (.nx, F (rp ++ rs) (R1.length + 1) (some (.t (.int u1))) (some (.t (.int ((rp.length : Nat) : Int))))) (St2 vs2) := by
              refine (s_setF (xs := (rp ++ rs).map vpT) (S1 := St2 vs2) (e_bin (x := .new (rp.map vpT)) (y := .new (rs.map vpT)) (S1 := St2 vs2) (S2 := St2 vs2) (e_slR (x := .t (.lst (row.map vpT))) (j := ((rp.length : Nat) : Int)) (S1 := St2 vs2) (S2 := St2 vs2) rfl rfl ?_) (e_slL (x := .t (.lst (row.map vpT))) (i := ((rp.length + 1 : Nat) : Int)) (S1 := St2 vs2) (S2 := St2 vs2) rfl rfl ?_) ?_)).trans rfl
              · show R.ok (D.new (cut (row.map vpT) none (some ((rp.length : Nat) : Int)))) _ = _
                rw [cut_take (by omega), Int.toNat_natCast, er, List.map_append, ← List.length_map (f := vpT) (as := rp), List.take_left]
              · show R.ok (D.new (cut (row.map vpT) (some ((rp.length + 1 : Nat) : Int)) none)) _ = _
                rw [cut_drop (by omega), Int.toNat_natCast, er, show rp ++ (u1, qq) :: rs = (rp ++ [(u1, qq)]) ++ rs by rw [List.append_assoc]; rfl, List.map_append, show rp.length + 1 = ((rp ++ [(u1, qq)]).map vpT).length by rw [List.length_map, List.length_append]; rfl, List.drop_left]
              · rw [b_catNN (by rw [List.length_map, List.length_map]; omega), List.map_append]
            have ed : dstep A u1 B = (rp ++ rs).map (·.1) := by
              unfold dstep
              rw [if_pos hc, esp, List.erase_append_right _ hpre, List.erase_cons_head, List.map_append, erp, ers]
            have hdrop : (rp ++ rs).drop (R1.length + 1) = en2 (p + 2) (B.drop 1) := by
              have d1 : (rp ++ rs).drop (R1.length + 1) = rs.drop (R1.length + 1 - rp.length) := by rw [List.drop_append, List.drop_of_length_le (by omega), List.nil_append]
              have d2 : ((rp ++ [(u1, qq)]) ++ rs).drop (R1.length + 2) = rs.drop (R1.length + 2 - (rp.length + 1)) := by rw [List.drop_append, List.drop_of_length_le (by rw [List.length_append, List.length_singleton]; omega), List.nil_append, List.length_append, List.length_singleton]
              rw [← rowd, er, show rp ++ (u1, qq) :: rs = (rp ++ [(u1, qq)]) ++ rs by rw [List.append_assoc]; rfl, d1, d2, show R1.length + 2 - (rp.length + 1) = R1.length + 1 - rp.length by omega]
            have hboth : (rp ++ rs).take (R1.length + 1) ++ en2 (p + 2) (B.drop 1) = rp ++ rs := by rw [← hdrop]; exact List.take_append_drop _ _
            refine ⟨.nx, F (rp ++ rs) (R1.length + 1) (some (.t (.int u1))) (some (.t (.int ((rp.length : Nat) : Int)))), St2 vs2, cut_f ?_, .inl ⟨.inl rfl, (f, (rp ++ rs).take (R1.length + 1), p + 2, B.drop 1, R1.length + 1, vs2), Nat.lt_succ_self f, ⟨some (.t (.int u1)), some (.t (.int ((rp.length : Nat) : Int))), by show _ = F ((rp ++ rs).take (R1.length + 1) ++ en2 (p + 2) (B.drop 1)) _ _ _; rw [hboth]⟩, rfl, by show (B.drop 1).length ≤ f; rw [List.length_drop]; omega, ?_, ?_, ?_, ?_, ?_, by show vs2.length + f ≤ xs.length; omega⟩⟩
            · show b_walked_0 q (F row R1.length e4 e5) (St2 vs) = _
              unfold b_walked_0
              refine (q_nx s1).trans ((q_nx s2).trans ((q_nx s3).trans ((q_nx (s := Z.ifs _ _ _) (fr1 := F (rp ++ rs) (R1.length + 1) (some (.t (.int u1))) (some (.t (.int ((rp.length : Nat) : Int))))) (S1 := St2 vs2) ?_).trans rfl)))
              rw [s_if t4, decide_eq_true hc, if_pos rfl]
              exact (q_nx s5).trans ((q_nx s6).trans rfl)
            · show R1.length + 1 = ((rp ++ rs).take (R1.length + 1)).length ∨ (((rp ++ rs).take (R1.length + 1)).length ≤ R1.length + 1 ∧ B.drop 1 = [])
              rw [List.length_take, List.length_append]
              cases B with
              | nil => exact .inr ⟨by omega, rfl⟩
              | cons b B =>
                have lrow : rp.length + (rs.length + 1) = R1.length + (B.length + 1 + 1) := lrow
                exact .inl (by omega)
            · show B.drop 1 = [] ∨ p + 2 + (B.drop 1).length = xs.length
              cases B with
              | nil => exact .inl rfl
              | cons b B =>
                refine .inr ?_
                have h7 : p + (B.length + 1 + 1) = xs.length := h7.resolve_left (by intro z; cases z)
                show p + 2 + B.length = _
                omega
            · show (dv xs.length f (((rp ++ rs).take (R1.length + 1)).map (·.1)) (B.drop 1)).1 = dpass xs
              rw [List.map_take, ← ed, ← lA, ← (dstep_drop hc).2.1]
              exact h3
            · show vs2 ++ (dv xs.length f (((rp ++ rs).take (R1.length + 1)).map (·.1)) (B.drop 1)).2 = dvis xs
              rw [List.map_take, ← ed, ← lA, ← (dstep_drop hc).2.1]
              exact h4
            · show ((rp ++ rs).take (R1.length + 1)).length + (B.drop 1).length ≤ xs.length
              rw [List.length_take, List.length_append, List.length_drop]
              omega
          · -- kept
            obtain ⟨p1, p2⟩ := dstep_stay (A := A) (v := v) (B := B) (by omega)
            have er : (R1 ++ [(v, p)]) ++ en2 (p + 1) B = row := by rw [← hrow, List.append_assoc]; rfl
            refine ⟨.nx, F row (R1.length + 1) (some (.t (.int v))) e5, St2 vs2, cut_f ?_, .inl ⟨.inl rfl, (f, R1 ++ [(v, p)], p + 1, B, R1.length + 1, vs2), Nat.lt_succ_self f, ⟨some (.t (.int v)), e5, by show _ = F ((R1 ++ [(v, p)]) ++ en2 (p + 1) B) _ _ _; rw [er]⟩, rfl, by show B.length ≤ f; omega, .inl (by show R1.length + 1 = (R1 ++ [(v, p)]).length; rw [List.length_append]; rfl), ?_, ?_, ?_, ?_, by show vs2.length + f ≤ xs.length; omega⟩⟩
            · show b_walked_0 q (F row R1.length e4 e5) (St2 vs) = _
              unfold b_walked_0
              refine (q_nx s1).trans ((q_nx s2).trans ((q_nx s3).trans ((q_nx (s := Z.ifs _ _ _) (fr1 := F row (R1.length + 1) (some (.t (.int v))) e5) (S1 := St2 vs2) ?_).trans rfl)))
              rw [s_if t4, decide_eq_false (by omega), if_neg (by decide)]
              rfl
            · exact .inr (by show p + 1 + B.length = xs.length; omega)
            · show (dv xs.length f ((R1 ++ [(v, p)]).map (·.1)) B).1 = dpass xs
              rw [List.map_append, hA, show [(v, p)].map (·.1) = [v] from rfl]
              rw [p1, p2] at h3
              exact h3
            · show vs2 ++ (dv xs.length f ((R1 ++ [(v, p)]).map (·.1)) B).2 = dvis xs
              rw [List.map_append, hA, show [(v, p)].map (·.1) = [v] from rfl]
              rw [p1, p2] at h4
              exact h4
            · show (R1 ++ [(v, p)]).length + B.length ≤ xs.length
              rw [List.length_append, List.length_singleton]
              omega
  have e1 : Z.set 1 false (Z.lc [6, 4] (.tu [6, 4]) (Z.itEn (Z.v 0)) Z.tt (Z.tup (Z.cons (Z.v 4) (Z.cons (Z.v 6) Z.nil)))) q [some (.t (dints xs)), none, none, none, none, none, none, none, none, none] S = .ok (.nx, [some (.t (dints xs)), some (.t (.lst ((en2 0 xs).map vpT))), none, none, none, none, none, none, none, none]) S := by
    have hi : Z.itEn (Z.v 0) q [some (.t (dints xs)), none, none, none, none, none, none, none, none, none] S = .ok ((List.range' 0 xs.length).map fun i => D.t (.tup [.int ((i : Nat) : Int), .int (gx xs i)]), none) S := by
      rw [← enumI]
      rfl
    have el := e_lc (q := q) (vs := [6, 4]) (tg := .tu [6, 4]) (ts := Z.tt) (el := Z.tup (Z.cons (Z.v 4) (Z.cons (Z.v 6) Z.nil))) (p := fun _ => true) (g := fun i => vpT (gx xs i, i)) hi (by rw [List.length_range']; omega) fun i _ => ⟨[some (.t (dints xs)), none, none, none, some (.t (.int (gx xs i))), none, some (.t (.int ((i : Nat) : Int))), none, none, none], rfl, rfl, fun _ => rfl⟩
    rw [filter_tt, en2_range xs 0 fun i h => gx_at0 i h] at el
    exact (s_setF el).trans rfl
  have e9 : Z.lc [4, 6] (.tu [4, 6]) (Z.itE (Z.v 1)) Z.tt (Z.v 4) q (F R p e4 e5) (St2 (dvis xs)) = .ok (.new ((dpass xs).map T.int)) (St2 (dvis xs)) := by
    have hi : Z.itE (Z.v 1) q (F R p e4 e5) (St2 (dvis xs)) = .ok (R.map fun u => D.t (vpT u), none) (St2 (dvis xs)) := by
      show Mi.R.ok ((R.map vpT).map D.t, none) _ = _
      rw [List.map_map]
      rfl
    have hRl : R.length ≤ xs.length := by
      have := congrArg List.length hR
      rw [List.length_map] at this
      rw [this]
      exact dpass_len xs
    have el := e_lc (q := q) (vs := [4, 6]) (tg := .tu [4, 6]) (ts := Z.tt) (el := Z.v 4) (p := fun _ => true) (g := fun u : Int × Nat => T.int u.1) hi (by omega) fun u _ => ⟨[some (.t (dints xs)), some (.t (.lst (R.map vpT))), some (.cell S.length), some (.t (.int (p : Nat))), some (.t (.int u.1)), e5, some (.t (.int ((u.2 : Nat) : Int))), none, none, none], rfl, rfl, fun _ => rfl⟩
    rw [filter_tt] at el
    rw [el, ← hR, List.map_map]
    rfl
  rw [cd_walked]
  refine (run_Rt (d := .tupo [.cell S.length, .new ((dpass xs).map T.int)]) (e := .tupo [.new ((dvis xs).map T.int), .new ((dpass xs).map T.int)]) (sn := [S.length]) (S1 := St2 (dvis xs)) ?_ ?_).trans (congrArg (Mi.R.ok _) List.take_left)
  · rw [hq]
    show Rt (b_walked q [some (.t (dints xs)), none, none, none, none, none, none, none, none, none] S) _ _
    unfold b_walked
    refine rt_nx e1 (rt_nx (fr1 := [some (.t (dints xs)), some (.t (.lst ((en2 0 xs).map vpT))), some (.cell S.length), none, none, none, none, none, none, none]) (S1 := St2 []) rfl (rt_nx (s_setT (x := .int 0) (S1 := St2 []) rfl) (rt_nx (z_whs.trans ew) (rt_st (rt_ret ?_)))))
    exact e_tup2z (x := .cell S.length) rfl e9 rfl
  · unfold mv
    show (mapM2 (mv 5 (St2 (dvis xs)) S.length) [] [.cell S.length, .new ((dpass xs).map T.int)]).map _ = _
    have m0 : mv 5 (St2 (dvis xs)) S.length [] (.cell S.length) = some (.new ((dvis xs).map T.int), [S.length]) := by
      unfold mv
      rw [if_neg (Nat.lt_irrefl _), top]
      rfl
    unfold mapM2
    rw [m0]
    rfl
end Lw

set_option Elab.async false
set_option linter.all false
set_option maxRecDepth 100000
set_option maxHeartbeats 4000000
namespace Lw
open PySem PySem.Spec PyProof.Rows L2 Mi
/-! two new lists are laid into the store, and one is handed back -/
def trioS (L : Nat) (p r : List T) : Store := [.lst p, .lst r, .tupo [.cell L, .cell (L + 1)]]
section
variable {q : Q} {fr fr2 : Mi.Frame} {B B0 : Store} {p r : List T}
theorem trio_at0 : (B ++ trioS B.length p r)[B.length]? = some (.lst p) := by
  rw [List.getElem?_append_right (Nat.le_refl _), Nat.sub_self]
  rfl
theorem trio_at1 : (B ++ trioS B.length p r)[B.length + 1]? = some (.lst r) := by
  rw [List.getElem?_append_right (by omega), Nat.add_sub_cancel_left]
  rfl
theorem trio_at2 : (B ++ trioS B.length p r)[B.length + 2]? = some (.tupo [.cell B.length, .cell (B.length + 1)]) := by
  rw [List.getElem?_append_right (by omega), Nat.add_sub_cancel_left]
  rfl
theorem s_settM2 {a : XE} {i j : Nat} (h : a q fr B0 = .ok (.tupo [.new p, .new r]) B) (hf : (fr.set i (some (.cell B.length))).set j (some (.cell (B.length + 1))) = fr2) : Z.sett [i, j] true a q fr B0 = .ok (.nx, fr2) (B ++ trioS B.length p r) := by
  have e : Z.stD true (.tupo [.new p, .new r]) B = some (.cell (B.length + 2), B ++ trioS B.length p r) := by
    unfold Z.stD
    rw [if_neg (by intro z; cases z), if_pos rfl]
    show some (D.cell ((B ++ [Ob.lst p]) ++ [Ob.lst r]).length, ((B ++ [Ob.lst p]) ++ [Ob.lst r]) ++ [Ob.tupo [.cell B.length, .cell (B ++ [Ob.lst p]).length]]) = _
    rw [List.length_append, List.length_append, List.append_assoc, List.append_assoc]
    rfl
  have e2 : asg (B ++ trioS B.length p r) (.tu [i, j]) (.cell (B.length + 2)) fr = some fr2 := by
    unfold asg
    dsimp only
    unfold tupD
    dsimp only
    rw [rd_un trio_at2 rfl, ← hf]
    rfl
  rw [z_sett, h, bnd_ok, e]
  dsimp only
  rw [e2]
end
theorem sp_after {fa : Nat → Addr} {k : Nat} {S : Store} {xs : List Int} (hl : xs.length ≤ 120) : callD prog fa (k + 4) n_after_doublet_pass [.t (dints xs)] S = .ok (.new ((dpass xs).map T.int)) S := by
  generalize hq : (⟨callD prog fa (k + 3), fa, S.length⟩ : Q) = q
  have qc : q.call = callD prog fa (k + 3) := by rw [← hq]
  rw [cd_after_doublet_pass]
  refine (run_Rt (d := .cell S.length) (e := .new ((dpass xs).map T.int)) (S1 := S ++ trioS S.length ((dpass xs).map T.int) ((dvis xs).map T.int)) ?_ (mv_cell (Nat.le_refl _) trio_at0)).trans (by rw [List.take_left])
  rw [hq]
  show Rt (b_after_doublet_pass q [some (.t (dints xs)), none, none] S) _ _
  unfold b_after_doublet_pass
  refine e_check qc rfl hl (rt_nx (s_settM2 (p := (dpass xs).map T.int) (r := (dvis xs).map T.int) (B := S) ?_ rfl) (rt_st (rt_ret rfl)))
  rw [e_call1 (z_v rfl) rfl, qc]
  exact sp_rv (by omega)
theorem sp_visits {fa : Nat → Addr} {k : Nat} {S : Store} {xs : List Int} (hl : xs.length ≤ 120) : callD prog fa (k + 4) n_doublet_visits [.t (dints xs)] S = .ok (.new ((dvis xs).map T.int)) S := by
  generalize hq : (⟨callD prog fa (k + 3), fa, S.length⟩ : Q) = q
  have qc : q.call = callD prog fa (k + 3) := by rw [← hq]
  rw [cd_doublet_visits]
  refine (run_Rt (d := .cell (S.length + 1)) (e := .new ((dvis xs).map T.int)) (S1 := S ++ trioS S.length ((dpass xs).map T.int) ((dvis xs).map T.int)) ?_ (mv_cell (Nat.le_succ _) trio_at1)).trans (by rw [List.take_left])
  rw [hq]
  show Rt (b_doublet_visits q [some (.t (dints xs)), none, none] S) _ _
  unfold b_doublet_visits
  refine e_check qc rfl hl (rt_nx (s_settM2 (p := (dpass xs).map T.int) (r := (dvis xs).map T.int) (B := S) ?_ rfl) (rt_st (rt_ret rfl)))
  rw [e_call1 (z_v rfl) rfl, qc]
  exact sp_rv (by omega)
end Lw

set_option Elab.async false
set_option linter.all false
set_option maxRecDepth 100000
set_option maxHeartbeats 4000000
namespace Lw
open PySem PySem.Spec PyProof.Rows L2 Mi
/-! comprehensions whose things are drawn -/
theorem lcL_next {q : Q} {v m : Nat} {el : XE} {P : Int → Prop} {fr : Mi.Frame} (hel : ∀ (it : D) (S : Store) (d : Dr), S[m]? = some (.lst d.ts) → 0 ≤ d.k ∧ d.k ≤ 1000000000 → ∃ x, P x ∧ el q (fr.set v (some it)) S = .ok (.t (.int x)) (S.set m (.lst d.nx.ts))) :
    ∀ (items : List D) (S : Store) (d : Dr), (∀ i ∈ items, inSlot i = true) → S[m]? = some (.lst d.ts) → 0 ≤ d.k → d.k + items.length ≤ 1000000000 → ∃ (vs : List Int) (d2 : Dr), lcL (.nm v) Z.tt el q fr items S = .ok ((vs.map T.int).map D.t) (S.set m (.lst d2.ts)) ∧ vs.length = items.length ∧ (∀ x ∈ vs, P x) ∧ d2.k = d.k + items.length
  | [], S, d, _, h, _, _ => ⟨[], d, by
      obtain ⟨hm, e⟩ := List.getElem?_eq_some_iff.mp h
      rw [← e, List.set_getElem_self]
      rfl, rfl, (fun _ h => by cases h), by show _ = d.k + ((0 : Nat) : Int); omega⟩
  | i :: items, S, d, hi, h, h0, h1 => by
    rw [List.length_cons] at h1
    have hm := (List.getElem?_eq_some_iff.mp h).1
    obtain ⟨x, px, ex⟩ := hel i S d h ⟨h0, by omega⟩
    have kn : d.nx.k = d.k + 1 := rfl
    obtain ⟨vs, d2, el2, ln, pv, k2⟩ := lcL_next hel items (S.set m (.lst d.nx.ts)) d.nx (fun j hj => hi j (List.mem_cons_of_mem _ hj)) (List.getElem?_set_self hm) (by omega) (by omega)
    rw [List.set_set] at el2
    refine ⟨x :: vs, d2, ?_, by rw [List.length_cons, List.length_cons, ln], fun y hy => ?_, by rw [List.length_cons]; omega⟩
    · unfold lcL
      have ea : asg S (.nm v) i fr = some (fr.set v (some i)) := by
        show asg1 v i fr = _
        unfold asg1
        rw [if_pos (hi i List.mem_cons_self)]
      rw [ea]
      dsimp only
      rw [show Z.tt q (fr.set v (some i)) S = .ok true S from rfl]
      dsimp only
      rw [ex]
      dsimp only
      rw [el2]
      rfl
    · rcases List.mem_cons.mp hy with rfl | hy
      · exact px
      · exact pv y hy
/-- [.. for v in range(next % (most + 1))] -/
theorem e_lcN {q : Q} {v m : Nat} {el e : XE} {P : Int → Prop} {fr : Mi.Frame} {S : Store} {d : Dr} {n : Int} (h : S[m]? = some (.lst d.ts)) (hk : 0 ≤ d.k ∧ d.k ≤ 900000000) (he : e q fr S = .ok (.t (.int n)) (S.set m (.lst d.nx.ts))) (hn : 0 ≤ n ∧ n ≤ 1000000)
    (hel : ∀ (it : D) (S : Store) (d : Dr), S[m]? = some (.lst d.ts) → 0 ≤ d.k ∧ d.k ≤ 1000000000 → ∃ x, P x ∧ el q ((wipeF fr [v]).set v (some it)) S = .ok (.t (.int x)) (S.set m (.lst d.nx.ts))) :
    ∃ (vs : List Int) (d2 : Dr), Z.lc [v] (.nm v) (Z.itR e) Z.tt el q fr S = .ok (.new (vs.map T.int)) (S.set m (.lst d2.ts)) ∧ ((vs.length : Nat) : Int) = n ∧ (∀ x ∈ vs, P x) ∧ d2.k = d.k + 1 + n := by
  have hok : (okL : Nat) = 16000000 := rfl
  have hm := (List.getElem?_eq_some_iff.mp h).1
  have kn : d.nx.k = d.k + 1 := rfl
  have ln : ((List.range n.toNat).map fun k : Nat => D.int (k : Int)).length = n.toNat := by rw [List.length_map, List.length_range]
  obtain ⟨vs, d2, e2, l2, p2, k2⟩ := lcL_next hel ((List.range n.toNat).map fun k : Nat => D.int (k : Int)) (S.set m (.lst d.nx.ts)) d.nx (fun i hi => by
    obtain ⟨j, _, rfl⟩ := List.mem_map.mp hi
    rfl) (List.getElem?_set_self hm) (by omega) (by rw [ln]; omega)
  rw [List.set_set] at e2
  rw [ln] at l2 k2
  refine ⟨vs, d2, ?_, by omega, p2, by omega⟩
  unfold Z.lc
  rw [i_range he (by omega), bnd_ok, if_pos (by rw [ln]; omega)]
  show R.bnd (unlR none (lcL (.nm v) Z.tt el q (wipeF fr [v]) ((List.range n.toNat).map fun k : Nat => D.int (k : Int)) (S.set m (.lst d.nx.ts)))) _ = _
  rw [e2]
  show Mi.R.ok (Z.mkL ((vs.map T.int).map D.t)) (S.set m (.lst d2.ts)) = _
  rw [mkL_T]
/-- one of a list, drawn -/
theorem e_pick {q : Q} {fa : Nat → Addr} {k i m : Nat} {fr : Mi.Frame} {S : Store} {d : Dr} {L : XE} {xs : List Int} {n : Int} (qc : q.call = callD prog fa (k + 1)) (h0 : fr[i]? = some (some (.cell m))) (h : S[m]? = some (.lst d.ts)) (hk : 0 ≤ d.k ∧ d.k ≤ 1000000000) (hL : L q fr S = .ok (.new (xs.map T.int)) S) (hn : n = ((xs.length : Nat) : Int)) (hp : 0 < xs.length) :
    ∃ w ∈ xs, Z.ix L (Z.bin .mod (Z.f1 .int (Z.call n_next (Z.cons (Z.v i) Z.nil) [.inl 0])) (Z.k (.int n))) q fr S = .ok (.t (.int w)) (S.set m (.lst d.nx.ts)) := by
  have hx := Int.emod_nonneg d.val (b := n) (by omega)
  have hy := Int.emod_lt_of_pos d.val (show (0 : Int) < n by omega)
  have hj : (d.val % n).toNat < xs.length := by omega
  refine ⟨xs[(d.val % n).toNat], List.getElem_mem hj, e_ix hL (e_bin (e_next qc h0 h hk) z_k (b_mod (by omega))) ?_⟩
  have e : d.val % n = (((d.val % n).toNat : Nat) : Int) := by omega
  generalize (d.val % n).toNat = j at e hj
  rw [e]
  refine ix_new (kk := j) (ixN_at (by rw [List.length_map]; omega)) ?_
  rw [List.getElem?_map, List.getElem?_eq_getElem hj]
  rfl
theorem sp_values {fa : Nat → Addr} {k m : Nat} {S : Store} {d : Dr} (h : S[m]? = some (.lst d.ts)) (hk : 0 ≤ d.k ∧ d.k ≤ 800000000) : ∃ (xs : List Int) (d2 : Dr), callD prog fa (k + 2) n_values [.cell m] S = .ok (.new (xs.map T.int)) (S.set m (.lst d2.ts)) ∧ xs.length ≤ 120 ∧ Bd xs ∧ (d.k ≤ d2.k ∧ d2.k ≤ d.k + 200) := by
  generalize hq : (⟨callD prog fa (k + 1), fa, S.length⟩ : Q) = q
  have qc : q.call = callD prog fa (k + 1) := by rw [← hq]
  have hml := (List.getElem?_eq_some_iff.mp h).1
  have cell : ∀ e : Dr, (S.set m (.lst e.ts))[m]? = some (.lst e.ts) := fun e => List.getElem?_set_self hml
  have k1 : d.nx.k = d.k + 1 := rfl
  have k2 : d.nx.nx.k = d.k + 2 := by show d.k + 1 + 1 = _; omega
  have k3 : d.nx.nx.nx.k = d.k + 3 := by show d.k + 1 + 1 + 1 = _; omega
  obtain ⟨w, hw, e1⟩ := e_pick (q := q) (k := k) (fr := [some (.cell m), none, none, none, none]) (i := 0) (L := Z.lst (Z.cons (Z.k (.int 1)) (Z.cons (Z.k (.int 2)) (Z.cons (Z.k (.int 3)) (Z.cons (Z.k (.int 5)) (Z.cons (Z.k (.int 40)) Z.nil)))))) (xs := [1, 2, 3, 5, 40]) (n := 5) qc rfl h (by omega) rfl rfl (by decide)
  obtain ⟨f, hf, e2⟩ := e_pick (q := q) (k := k) (fr := [some (.cell m), some (.t (.int w)), none, none, none]) (i := 0) (L := Z.lst (Z.cons (Z.k (.int 1)) (Z.cons (Z.k (.int 1)) (Z.cons (Z.bin .pow (Z.k (.int 10)) (Z.k (.int 18))) Z.nil)))) (xs := [1, 1, (10 : Int) ^ (18 : Int).toNat]) (n := 3) qc rfl (cell d.nx) (by omega) (e_lst3 z_k z_k (e_bin z_k z_k (b_powS (by decide)))) rfl (by decide)
  rw [List.set_set] at e2
  obtain ⟨mo, hmo, e3⟩ := e_pick (q := q) (k := k) (fr := [some (.cell m), some (.t (.int w)), some (.t (.int f)), none, none]) (i := 0) (L := Z.lst (Z.cons (Z.k (.int 7)) (Z.cons (Z.k (.int 20)) (Z.cons (Z.k (.int 120)) Z.nil)))) (xs := [7, 20, 120]) (n := 3) qc rfl (cell d.nx.nx) (by omega) rfl rfl (by decide)
  rw [List.set_set] at e3
  have hw : 0 < w ∧ w ≤ 40 := by
    simp only [List.mem_cons, List.not_mem_nil, or_false] at hw
    omega
  have hf : f = 1 ∨ f = 1000000000000000000 := by
    rw [show (10 : Int) ^ (18 : Int).toNat = 1000000000000000000 by decide] at hf
    simp only [List.mem_cons, List.not_mem_nil, or_false] at hf
    omega
  have hmo : 0 < mo ∧ mo ≤ 120 := by
    simp only [List.mem_cons, List.not_mem_nil, or_false] at hmo
    omega
  have hx := Int.emod_nonneg d.nx.nx.nx.val (b := mo + 1) (by omega)
  have hy := Int.emod_lt_of_pos d.nx.nx.nx.val (show (0 : Int) < mo + 1 by omega)
  obtain ⟨xs, d2, e4, l4, p4, kd⟩ := e_lcN (q := q) (v := 4) (fr := [some (.cell m), some (.t (.int w)), some (.t (.int f)), some (.t (.int mo)), none]) (S := S.set m (.lst d.nx.nx.nx.ts)) (m := m) (d := d.nx.nx.nx) (n := d.nx.nx.nx.val % (mo + 1)) (e := Z.bin .mod (Z.f1 .int (Z.call n_next (Z.cons (Z.v 0) Z.nil) [.inl 0])) (Z.bin .add (Z.v 3) (Z.k (.int 1)))) (el := Z.bin .mul (Z.bin .sub (Z.bin .mod (Z.f1 .int (Z.call n_next (Z.cons (Z.v 0) Z.nil) [.inl 0])) (Z.v 1)) (Z.k (.int 1))) (Z.v 2)) (P := fun x => -100000000000000000000 ≤ x ∧ x ≤ 100000000000000000000) (cell _) (by omega) (e_bin (e_next (k := k) qc rfl (cell _) (by omega)) (e_bin (z_v rfl) z_k b_add) (b_mod (by omega))) (by omega) fun it S' d' h' hk' => ⟨(d'.val % w - 1) * f, by
      have := Int.emod_nonneg d'.val (b := w) (by omega)
      have := Int.emod_lt_of_pos d'.val (show (0 : Int) < w by omega)
      rcases hf with rfl | rfl <;> omega, e_bin (e_bin (e_bin (e_next (k := k) qc rfl h' hk') (z_v rfl) (b_mod (by omega))) z_k b_sub) (z_v rfl) (b_mulR (by omega))⟩
  rw [List.set_set] at e4
  refine ⟨xs, d2, ?_, by omega, fun v hv => big_lt (by have := p4 v hv; omega), by omega⟩
  rw [cd_values]
  refine (run_Rt (d := .new (xs.map T.int)) (S1 := S.set m (.lst d2.ts)) ?_ mv_new).trans (by rw [List.take_of_length_le (by rw [List.length_set]; exact Nat.le_refl _)])
  rw [hq]
  show Rt (b_values q [some (.cell m), none, none, none, none] S) _ _
  unfold b_values
  exact rt_nx (s_setT (x := .int w) (S1 := S.set m (.lst d.nx.ts)) e1) (rt_nx (s_setT (x := .int f) (S1 := S.set m (.lst d.nx.nx.ts)) e2) (rt_nx (s_setT (x := .int mo) (S1 := S.set m (.lst d.nx.nx.nx.ts)) e3) (rt_st (rt_ret e4))))
end Lw

set_option Elab.async false
set_option linter.all false
set_option maxRecDepth 100000
set_option maxHeartbeats 4000000
namespace Lw
open PySem PySem.Spec PyProof.Rows L2 Mi
theorem s_setFz {q : Q} {fr : Mi.Frame} {S S1 : Store} {i : Nat} {a : XE} {d : D} {x : T} (h : a q fr S = .ok d S1) (hs : inSlot d = false) (hf : fz 6 d = some x) : Z.set i false a q fr S = .ok (.nx, fr.set i (some (.t x))) S1 := by
  rw [z_set, h, bnd_ok]
  unfold Z.stD
  rw [if_neg (by rw [hs]; decide), if_neg (by decide), hf]
  rfl
/-- two new lists and a truth in a list of the store -/
def duoS (L : Nat) (p r : List T) (b : Bool) : Store := [.lst p, .lst r, .lsto [.cell L, .cell (L + 1), .t (.bl b)]]
section
variable {q : Q} {fr fr2 : Mi.Frame} {B B0 : Store} {p r : List T} {b : Bool}
theorem duo_at0 : (B ++ duoS B.length p r b)[B.length]? = some (.lst p) := by
  rw [List.getElem?_append_right (Nat.le_refl _), Nat.sub_self]
  rfl
theorem duo_at1 : (B ++ duoS B.length p r b)[B.length + 1]? = some (.lst r) := by
  rw [List.getElem?_append_right (by omega), Nat.add_sub_cancel_left]
  rfl
theorem duo_at2 : (B ++ duoS B.length p r b)[B.length + 2]? = some (.lsto [.cell B.length, .cell (B.length + 1), .t (.bl b)]) := by
  rw [List.getElem?_append_right (by omega), Nat.add_sub_cancel_left]
  rfl
theorem tr_bool {f : Nat} {S : Store} : Mi.tr f S (.t (.bl b)) = some (.bl b) := by cases f <;> rfl
theorem duo_tr : Mi.tr 6 (B ++ duoS B.length p r b) (.cell (B.length + 2)) = some (.lst [.lst p, .lst r, .bl b]) := by
  unfold Mi.tr
  rw [rd_un duo_at2 rfl]
  dsimp only
  unfold mapO
  rw [tr_cell duo_at0]
  dsimp only
  unfold mapO
  rw [tr_cell duo_at1]
  dsimp only
  unfold mapO
  rw [tr_bool]
  rfl
theorem duo_set {e : XE} {c : Nat} (h : e q fr B0 = .ok (.newo [.new p, .new r, .t (.bl b)]) B) : Z.set c true e q fr B0 = .ok (.nx, fr.set c (some (.cell (B.length + 2)))) (B ++ duoS B.length p r b) := by
  have e1 : Z.stD true (.newo [.new p, .new r, .t (.bl b)]) B = some (.cell (B.length + 2), B ++ duoS B.length p r b) := by
    unfold Z.stD
    rw [if_neg (by intro z; cases z), if_pos rfl]
    show some (D.cell ((B ++ [Ob.lst p]) ++ [Ob.lst r]).length, ((B ++ [Ob.lst p]) ++ [Ob.lst r]) ++ [Ob.lsto [.cell B.length, .cell (B ++ [Ob.lst p]).length, .t (.bl b)]]) = _
    rw [List.length_append, List.length_append, List.append_assoc, List.append_assoc]
    rfl
  rw [z_set, h, bnd_ok, e1]
theorem duo_un {c i j l : Nat} {m : Bool} (h : fr[c]? = some (some (.cell (B.length + 2)))) (hf : ((fr.set i (some (.cell B.length))).set j (some (.cell (B.length + 1)))).set l (some (.t (.bl b))) = fr2) : Z.settl [i, j, l] m (Z.v c) q fr (B ++ duoS B.length p r b) = .ok (.nx, fr2) (B ++ duoS B.length p r b) := by
  unfold Z.settl
  rw [z_v h, bnd_ok, show Z.stD m (.cell (B.length + 2)) (B ++ duoS B.length p r b) = some (.cell (B.length + 2), B ++ duoS B.length p r b) from rfl]
  dsimp only
  unfold lstD
  dsimp only
  rw [rd_un duo_at2 rfl, ← hf]
  rfl
theorem duo_app0 {c : Nat} (h : fr[c]? = some (some (.cell B.length))) (hp : p.length ≤ 1000000) : Z.expr (Z.me .append (Z.v c) (Z.cons (Z.k .non) Z.nil)) q fr (B ++ duoS B.length p r b) = .ok (.nx, fr) (B ++ duoS B.length (p ++ [.non]) r b) := by
  refine (s_app (n := B.length) (ys := p) (xs := p) (x := .non) (z_v h) duo_at0 (a_one z_k) duo_at0 (by have : (okL : Nat) = 16000000 := rfl; omega)).trans ?_
  rw [List.set_append_right _ _ (Nat.le_refl _), Nat.sub_self]
  rfl
theorem duo_app1 {c : Nat} (h : fr[c]? = some (some (.cell (B.length + 1)))) (hp : r.length ≤ 1000000) : Z.expr (Z.me .append (Z.v c) (Z.cons (Z.k .non) Z.nil)) q fr (B ++ duoS B.length p r b) = .ok (.nx, fr) (B ++ duoS B.length p (r ++ [.non]) b) := by
  refine (s_app (n := B.length + 1) (ys := r) (xs := r) (x := .non) (z_v h) duo_at1 (a_one z_k) duo_at1 (by have : (okL : Nat) = 16000000 := rfl; omega)).trans ?_
  rw [List.set_append_right _ _ (by omega), Nat.add_sub_cancel_left]
  rfl
end
theorem dv_vis {n0 : Nat} : ∀ (f : Nat) (A B : List Int), (dv n0 f A B).2.length ≤ f ∧ ∀ v ∈ (dv n0 f A B).2, -((B.length : Nat) : Int) - 1 ≤ v ∧ v ≤ (n0 : Nat)
  | 0, A, B => ⟨Nat.le_refl _, fun v h => by cases h⟩
  | f + 1, A, [] => ⟨Nat.zero_le _, fun v h => by cases h⟩
  | f + 1, A, v :: B => by
    obtain ⟨h1, h2⟩ := dv_vis (n0 := n0) f ((dstep A v B).take (A.length + 1)) ((dstep A v B).drop (A.length + 1))
    have hl := dstep_len (A := A) (v := v) (B := B)
    refine ⟨Nat.succ_le_succ h1, fun x hx => ?_⟩
    rw [List.length_cons]
    rcases List.mem_cons.mp hx with rfl | hx
    · omega
    · have := h2 x hx
      omega
theorem bd_dvis {xs : List Int} (hl : xs.length ≤ 120) : Bd (dvis xs) ∧ (dvis xs).length ≤ 120 := by
  obtain ⟨h1, h2⟩ := dv_vis (n0 := xs.length) xs.length [] xs
  exact ⟨fun v hv => big_lt (by have := h2 v hv; omega), by unfold dvis; omega⟩
theorem sp_right50 {fa : Nat → Addr} {k : Nat} {S : Store} {xs : List Int} (hl : xs.length ≤ 120) (hb : Bd xs) : callD prog fa (k + 5) n_right [.t (dints xs)] S = .ok (.bl true) S := by
  generalize hq : (⟨callD prog fa (k + 4), fa, S.length⟩ : Q) = q
  have qc : q.call = callD prog fa (k + 4) := by rw [← hq]
  have qL : Z.qL true q S = q := by rw [← hq]; rfl
  have bA : Bd (dpass xs) := fun v hv => hb v (dpass_mem.mp hv)
  have lA : (dpass xs).length ≤ 120 := by have := dpass_len xs; omega
  obtain ⟨bV, lV⟩ := bd_dvis hl
  have eA : ∀ (S' : Store) (fr : Mi.Frame), fr[0]? = some (some (.t (dints xs))) → Z.call n_after_doublet_pass (Z.cons (Z.v 0) Z.nil) [.inl 0] q fr S' = .ok (.new ((dpass xs).map T.int)) S' := fun S' fr h => by
    rw [e_call1 (z_v h) rfl, qc]
    exact sp_after hl
  have eV : ∀ (S' : Store) (fr : Mi.Frame), fr[0]? = some (some (.t (dints xs))) → Z.call n_doublet_visits (Z.cons (Z.v 0) Z.nil) [.inl 0] q fr S' = .ok (.new ((dvis xs).map T.int)) S' := fun S' fr h => by
    rw [e_call1 (z_v h) rfl, qc]
    exact sp_visits hl
  have eC : ∀ (S' : Store) (fr : Mi.Frame), fr[0]? = some (some (.t (dints xs))) → Z.call n_comes_out_right (Z.cons (Z.v 0) Z.nil) [.inl 0] q fr S' = .ok (.bl (!decide (0 < dbl (dpass xs)))) S' := fun S' fr h => by
    rw [e_call1 (z_v h) rfl, qc]
    exact sp_comes hl
  have eW : ∀ (S' : Store) (fr : Mi.Frame), fr[0]? = some (some (.t (dints xs))) → Z.call n_walked (Z.cons (Z.v 0) Z.nil) [.inl 0] q fr S' = .ok (.tupo [.new ((dvis xs).map T.int), .new ((dpass xs).map T.int)]) S' := fun S' fr h => by
    rw [e_call1 (z_v h) rfl, qc]
    exact sp_walked (by omega)
  have eS : ∀ fr : Mi.Frame, fr[3]? = some (some (.t (dints (dpass xs)))) → Z.cmp .eq (Z.slen (Z.v 3)) (Z.f1 .len (Z.v 3)) q fr S = .ok (.t (.bl (!decide (0 < dbl (dpass xs))))) S := fun fr h => by
    refine e_cmp (x := .t (.int ((dedup (dpass xs)).length : Nat))) (y := .t (.int ((dpass xs).length : Nat))) (S1 := S) ?_ (e_f1 (z_v h) ((IsL.t (S := S) (ns := dpass xs)).len)) ?_
    · unfold Z.slen
      rw [z_v h, bnd_ok, show intsD S (.t (dints (dpass xs))) = some (dpass xs) from asI_map _]
      exact if_pos (by omega)
    · rw [c_eqI]
      have h1 := ded_lt (dpass xs)
      have h2 := (ded_sub (dpass xs)).length_le
      by_cases h : 0 < dbl (dpass xs)
      · rw [decide_eq_true h, decide_eq_false (by have := h1.mpr h; omega)]
        rfl
      · rw [decide_eq_false h, decide_eq_true (by have : ¬ _ := fun z => h (h1.mp z); omega)]
        rfl
  generalize (!decide (0 < dbl (dpass xs))) = b at eC eS
  generalize dpass xs = A at bA lA eA eW eS
  generalize dvis xs = V at bV lV eV eW
  have rX : Rp (dints xs) 240000 1 := (rp_ints (k := 0) hb hl).mono (by omega) (Nat.le_refl _)
  have rA : Rp (dints A) 240000 1 := (rp_ints (k := 0) bA lA).mono (by omega) (Nat.le_refl _)
  have rV : Rp (dints V) 240000 1 := (rp_ints (k := 0) bV lV).mono (by omega) (Nat.le_refl _)
  have r3 : Rp (.lst [dints A, dints V, .bl b]) 1000000 2 := (rp_lst (rps_cons rA (rps_cons rV (rps_cons (rp_bl (k := 1)) (rps_nil (n := 0)))))).mono (by omega) (Nat.le_refl _)
  have oX : rdOk (dints xs) := rX.q.ok (by omega) (by omega)
  have o3 : rdOk (.lst [dints A, dints V, .bl b]) := r3.q.ok (by omega) (by omega)
  let F (a5 a6 a7 a8 a9 : Option D) : Mi.Frame := [some (.t (dints xs)), some (.t (.str (dints xs).showd)), some (.t (dints V)), some (.t (dints A)), some (.t (.lst [dints A, dints V, .bl b])), a5, a6, a7, a8, a9, none]
  have hlA : (A.map T.int).length ≤ 1000000 := by rw [List.length_map]; omega
  have hlV : (V.map T.int).length ≤ 1000000 := by rw [List.length_map]; omega
  let I : Nat → Mi.Frame → Store → Prop := fun _ fr S' => (∃ a5 a9 : Option T, fr = F (a5.map D.t) none none none (a9.map D.t)) ∧ S' = S
  obtain ⟨fr2, S2, el, ⟨a5, a9, rfl⟩, rfl⟩ : ∃ fr2 S2, Z.forL (.nm 5) (fun fr2 S2 => Z.cutR true S.length (b_right_0 (Z.qL true q S) fr2 S2)) ((List.range (2 : Int).toNat).map fun k : Nat => .int (k : Int)) (F none none none none none) S = .ok (.nx, fr2) S2 ∧ I ((List.range (2 : Int).toNat).map fun k : Nat => D.int (k : Int)).length fr2 S2 := by
    refine for_ind I ?_ ⟨⟨none, none, rfl⟩, rfl⟩
    rintro i dd fr S' hd ⟨⟨a5, a9, rfl⟩, rfl⟩
    obtain ⟨hi, rfl⟩ := range_at hd
    rw [qL]
    refine ⟨_, rfl, .nx, F (some (.int (i : Nat))) none none none (some (.t (.bl b))), S', ?_, .inl rfl, ⟨some (.int (i : Nat)), some (.bl b), rfl⟩, rfl⟩
    have main : b_right_0 q (F (some (.int (i : Nat))) none none none (a9.map D.t)) S' = .ok (.nx, F (some (.int (i : Nat))) (some (.cell (S'.length + 2))) (some (.cell S'.length)) (some (.cell (S'.length + 1))) (some (.t (.bl b)))) (S' ++ duoS S'.length (A.map T.int ++ [.non]) (V.map T.int ++ [.non]) b) := by
      unfold b_right_0
      refine (q_nx (duo_set (B := S') (p := A.map T.int) (r := V.map T.int) (b := b) ((e_lst3 (eA _ _ rfl) (eV _ _ rfl) (eC _ _ rfl)).trans rfl))).trans ?_
      refine (q_ifF (S1 := S' ++ duoS S'.length (A.map T.int) (V.map T.int) b) (tor_F (S1 := S' ++ duoS S'.length (A.map T.int) (V.map T.int) b) (tc_rdN (a := .lst [dints A, dints V, .bl b]) (z_v rfl) duo_tr (z_v rfl) rfl o3) (tc_rdS (a := dints xs) (z_v rfl) rfl rfl oX))).trans ?_
      refine (q_nx (duo_un (B := S') (fr2 := F (some (.int (i : Nat))) (some (.cell (S'.length + 2))) (some (.cell S'.length)) (some (.cell (S'.length + 1))) (some (.t (.bl b)))) rfl rfl)).trans ?_
      refine (q_nx (duo_app0 (B := S') rfl hlA)).trans ((q_nx (duo_app1 (B := S') rfl hlV)).trans rfl)
    refine (cut_t main (.inl rfl)).trans ?_
    rw [List.take_left]
    congr 2
    show Z.hideF S'.length (F _ _ _ _ _) = _
    rw [hide_t, hide_t, hide_t, hide_t, hide_t, hide_t, hide_x (by omega), hide_x (Nat.le_refl _), hide_x (by omega), hide_t, hide_n, hide_e]
  rw [cd_right]
  refine (run_Rt (d := .bl true) (S1 := S2) ?_ mv_t).trans (by rw [List.take_length])
  rw [hq]
  show Rt (b_right q [some (.t (dints xs)), none, none, none, none, none, none, none, none, none, none] S2) _ _
  unfold b_right
  refine rt_nx (s_setT (x := .str (dints xs).showd) (S1 := S2) (e_rd (z_v rfl) rfl oX)) ?_
  refine rt_nx (s_settF2 (xs := V.map T.int) (ys := A.map T.int) (S1 := S2) (eW _ _ rfl) rfl) ?_
  refine rt_nx (s_setF (xs := [dints A, dints V, .bl b]) (S1 := S2) ((e_lst3 (z_v rfl) (z_v rfl) (eS _ rfl)).trans rfl)) ?_
  refine rt_nx (s_forC (S1 := S2) (fr2 := F (a5.map D.t) none none none (a9.map D.t)) (S2 := S2) (items := (List.range (2 : Int).toNat).map fun k : Nat => .int (k : Int)) (i_range z_k (by decide)) el) ?_
  refine rt_nx (s_setFz (d := .newo [.new (A.map T.int), .new (V.map T.int), .t (.bl b)]) (x := .lst [dints A, dints V, .bl b]) (S1 := S2) ((e_lst3 (eA _ _ rfl) (eV _ _ rfl) (eC _ _ rfl)).trans rfl) rfl rfl) (rt_st (rt_ret ?_))
  refine e_andT (S1 := S2) (e_cmp (x := .t (.lst [dints A, dints V, .bl b])) (y := .t (.lst [dints A, dints V, .bl b])) (S1 := S2) (z_v rfl) (z_v rfl) (c_same (a := .lst [dints A, dints V, .bl b]) rfl rfl (r3.eq (by omega)))) (e_rdS (a := dints xs) (z_v rfl) rfl rfl oX)
end Lw

set_option Elab.async false
set_option linter.all false
set_option maxRecDepth 100000
set_option maxHeartbeats 4000000
namespace Lw
open PySem PySem.Spec PyProof.Rows L2 Mi
/-! what may be shown: lists of many -/
theorem rqs_app {ys : List T} {m k : Nat} (hy : Rqs ys m k) : ∀ {xs : List T} {n : Nat}, Rqs xs n k → Rqs (xs ++ ys) (n + m) k
  | [], n, _ => ⟨hy.1, by have := hy.2.1; show T.wds ys ≤ _; omega, hy.2.2⟩
  | x :: xs, n, h => by
    obtain ⟨h1, h2, h3⟩ := h
    unfold T.okds at h1
    rw [Bool.and_eq_true] at h1
    unfold T.wds at h2
    unfold T.dds at h3
    have hx : Rq x x.wd k := ⟨h1.1, Nat.le_refl _, by omega⟩
    have ih := rqs_app hy (xs := xs) (n := T.wds xs) ⟨h1.2, Nat.le_refl _, by omega⟩
    have := rqs_cons hx ih
    exact ⟨this.1, by have := this.2.1; show T.wds (x :: (xs ++ ys)) ≤ _; omega, this.2.2⟩
theorem rqs_all {n k : Nat} : ∀ {xs : List T}, (∀ x ∈ xs, Rq x n k) → Rqs xs (xs.length * (n + 2)) k
  | [], _ => rqs_nil
  | x :: xs, h => by
    have := rqs_cons (h x List.mem_cons_self) (rqs_all fun y hy => h y (List.mem_cons_of_mem _ hy))
    have e : (x :: xs).length * (n + 2) = n + 2 + xs.length * (n + 2) := by rw [List.length_cons, Nat.add_mul, Nat.one_mul]; omega
    rw [e]
    exact this
theorem rq_int {i : Int} (k : Nat) (h : i.natAbs < 2 ^ 1900) : Rq (.int i) 1921 k := (rp_int (k := k) h).q
theorem rqs_ints {ns : List Int} {l : Nat} (k : Nat) (h : Bd ns) (hl : ns.length ≤ l) : Rqs (ns.map T.int) (l * 1923) k := by
  have := rqs_all (n := 1921) (k := k) (xs := ns.map T.int) fun x hx => by
    obtain ⟨i, hi, rfl⟩ := List.mem_map.mp hx
    exact rq_int k (h i hi)
  refine ⟨this.1, Nat.le_trans this.2.1 ?_, this.2.2⟩
  rw [List.length_map]
  exact Nat.mul_le_mul_right _ hl
theorem Rqs.mono {xs : List T} {n m k j : Nat} (h : Rqs xs n k) (hn : n ≤ m) (hk : k ≤ j) : Rqs xs m j := ⟨h.1, Nat.le_trans h.2.1 hn, Nat.le_trans h.2.2 hk⟩
theorem rq_str {x : Str} (k : Nat) (h : (reprText x).length ≤ 10000) : Rq (.str x) 10000 k := ⟨by unfold T.okd; exact decide_eq_true h, by unfold T.wd; omega, by unfold T.dd; omega⟩
theorem rq_non (k : Nat) : Rq .non 4 k := (rp_non (k := k)).q
theorem rq_bl (b : Bool) (k : Nat) : Rq (.bl b) 5 k := (rp_bl (k := k)).q
/-! the loops of a law over the draws of all cells, with something in the store ahead of them -/
theorem e_cellsS {q : Q} {fa : Nat → Addr} {k v : Nat} {fr : Mi.Frame} {S : Store} {ns : List Int} {j : Int} (qc : q.call = callD prog fa (k + 1)) (h0 : fr[0]? = some (some (.t (.scr ns)))) (hv : v < fr.length) (hl : ns.length ≤ 63) (hj : 0 ≤ j) :
    Z.lc [v] (.nm v) (Z.itE (Z.bin .add (Z.sl (Z.v 0) none (some (Z.k (.int j)))) (Z.lst (Z.cons (Z.k (.int 0)) Z.nil)))) Z.tt (Z.call n_draws (Z.cons (Z.v v) Z.nil) [.inl 0]) q fr S = .ok (.newo ((ns.take j.toNat ++ [0]).map fun c => D.new (drOf c).ts)) S := by
  have hok : (okL : Nat) = 16000000 := rfl
  have e1 : Z.itE (Z.bin .add (Z.sl (Z.v 0) none (some (Z.k (.int j)))) (Z.lst (Z.cons (Z.k (.int 0)) Z.nil))) q fr S = .ok ((ns.take j.toNat ++ [0]).map (fun c => D.t (.int c)), none) S := by
    unfold Z.itE
    rw [z_bin, z_sl, z_v h0, bnd_ok, z_oN, bnd_ok, z_oS, z_k, bnd_ok, bnd_ok]
    rw [show slD (.t (.scr ns)) none (some j) S = .ok (.new ((ns.take j.toNat).map T.int)) S by
      show R.ok (D.new (cut (ns.map T.int) none (some j))) S = _
      rw [cut_take hj, List.map_take]]
    rw [bnd_ok, z_lst, z_cons, z_k, bnd_ok, z_nil, bnd_ok, bnd_ok, bnd_ok, show Z.mkL [D.t (.int 0)] = .new [T.int 0] from rfl, b_catNN (by rw [List.length_map, List.length_take]; show _ + 1 ≤ _; omega), bnd_ok]
    show R.ok (((ns.take j.toNat).map T.int ++ [T.int 0]).map D.t, none) S = _
    rw [List.map_append, List.map_append, List.map_map]
    rfl
  unfold Z.lc
  rw [e1, bnd_ok, if_pos (by rw [List.length_map, List.length_append, List.length_take]; show _ + 1 ≤ _; omega)]
  have e2 := lcL_map (q := q) (fr := wipeF fr [v]) (S := S) (tg := .nm v) (ts := Z.tt) (el := Z.call n_draws (Z.cons (Z.v v) Z.nil) [.inl 0]) (enc := fun c => D.t (.int c)) (p := fun _ => true) (g := fun c => D.new (drOf c).ts) (items := ns.take j.toNat ++ [0]) fun c _ => ⟨(wipeF fr [v]).set v (some (.t (.int c))), rfl, rfl, fun _ => by
    have hg : ((wipeF fr [v]).set v (some (.t (.int c))))[v]? = some (some (.t (.int c))) := List.getElem?_set_self (by show v < (fr.set v none).length; rw [List.length_set]; exact hv)
    rw [e_call1 (z_v hg) rfl, qc, sp_draws]⟩
  rw [filter_tt] at e2
  show R.bnd (unlR none (lcL (.nm v) Z.tt (Z.call n_draws (Z.cons (Z.v v) Z.nil) [.inl 0]) q (wipeF fr [v]) ((ns.take j.toNat ++ [0]).map fun c => D.t (.int c)) S)) _ = _
  rw [e2]
  show R.ok (Z.mkL ((ns.take j.toNat ++ [0]).map fun c => D.new (drOf c).ts)) S = _
  have hm : ((ns.take j.toNat ++ [0]).map fun c => D.new (drOf c).ts) = ((ns.take j.toNat ++ [0]).map fun c => (drOf c).ts).map D.new := by
    rw [List.map_map]
    rfl
  have hne : ((ns.take j.toNat ++ [0]).map fun c => (drOf c).ts) ≠ [] := fun z => by
    have := congrArg List.length z
    rw [List.length_map, List.length_append] at this
    cases this
  rw [hm, mkL_newo hne]
theorem cells_loopS {q : Q} {fr : Mi.Frame} {S0 : Store} {t : Nat} {e : XE} {b : XB} {cs : List Int} {P : Mi.Frame → Prop} (he : e q fr S0 = .ok (.newo (cs.map fun c => D.new (drOf c).ts)) S0) (hP : P fr)
    (good : ∀ fr' S' i c, P fr' → S0.length ≤ i → (∀ j, j < S0.length → S'[j]? = S0[j]?) → S'[i]? = some (.lst (drOf c).ts) → ∃ fr2 S2, b q (fr'.set t (some (.cell i))) S' = .ok (.nx, fr2) S2 ∧ P fr2 ∧ ∀ j, j < S'.length → j ≠ i → S2[j]? = S'[j]?) :
    ∃ fr2 S2, Z.fors false (.nm t) (Z.itE e) b q fr S0 = .ok (.nx, fr2) S2 ∧ P fr2 ∧ ∀ j, j < S0.length → S2[j]? = S0[j]? := by
  have hm : (cs.map fun c => D.new (drOf c).ts) = (cs.map fun c => (drOf c).ts).map D.new := by rw [List.map_map]; rfl
  rw [hm] at he
  obtain ⟨fr2, S2, h1, h2, _, h3⟩ := news_loop (t := t) (b := b) (fun i fr' S' => P fr' ∧ (∀ j c, i ≤ j → cs[j]? = some c → S'[S0.length + j]? = some (.lst (drOf c).ts)) ∧ ∀ j, j < S0.length → S'[j]? = S0[j]?) he ⟨hP, fun j c _ hj => by
      have hl := (List.getElem?_eq_some_iff.mp hj).1
      rw [List.append_assoc, List.getElem?_append_right (by omega), Nat.add_sub_cancel_left, List.getElem?_append_left (by rw [List.length_map, List.length_map]; exact hl), List.getElem?_map, List.getElem?_map, hj]
      rfl, fun j hj => by rw [List.append_assoc, List.getElem?_append_left hj]⟩ (by
    intro j xs fr' S' hx hJ hT
    rw [List.getElem?_map] at hx
    cases hc : cs[j]? with
    | none =>
      rw [hc] at hx
      cases hx
    | some c =>
      have hl := (List.getElem?_eq_some_iff.mp hc).1
      have hat := hJ.2.1 j c (Nat.le_refl _) hc
      obtain ⟨fr2, S2, eb, hP2, hk⟩ := good fr' S' (S0.length + j) c hJ.1 (Nat.le_add_right _ _) hJ.2.2 hat
      have hl2 := (List.getElem?_eq_some_iff.mp hT).1
      refine ⟨fr2, S2, eb, ⟨hP2, fun i c2 hi h2 => ?_, fun i hi => ?_⟩, ?_⟩
      · have h3 := hJ.2.1 i c2 (by omega) h2
        rw [hk _ (List.getElem?_eq_some_iff.mp h3).1 (by omega)]
        exact h3
      · have hll := (List.getElem?_eq_some_iff.mp hat).1
        rw [hk i (by omega) (by omega)]
        exact hJ.2.2 i hi
      · rw [hk _ hl2 (by rw [List.length_map]; omega)]
        exact hT)
  refine ⟨fr2, _, h1, h2, fun j hj => ?_⟩
  rw [List.getElem?_set_ne (by omega)]
  exact h3 j hj
theorem take_same {S S2 : Store} (h : ∀ j, j < S.length → S2[j]? = S[j]?) : S2.take S.length = S := by
  refine List.ext_getElem? fun i => ?_
  rw [List.getElem?_take]
  split
  · rename_i hi
    exact h i hi
  · rename_i hi
    rw [List.getElem?_eq_none (by omega)]
/-- a loop over a list of the store -/
theorem s_forL {q : Q} {fr fr2 : Mi.Frame} {S S1 S2 : Store} {tg : Z.Tg} {it : XI} {s : XB} {items : List D} {fl : Fl} {n : Nat} {xs : List T} (hi : it q fr S = .ok (items, some n) S1) (h : S1[n]? = some (.lst xs)) (hl : Z.forL tg (fun fr2 S2 => Z.cutR false S1.length (s q fr2 S2)) items fr (S1.set n (.lck (.lst xs))) = .ok (fl, fr2) S2) (h2 : S2[n]? = some (.lck (.lst xs))) : Z.fors false tg it s q fr S = .ok (fl, fr2) (S2.set n (.lst xs)) := by
  have e1 : lckS S1 (some n) = S1.set n (.lck (.lst xs)) := by
    unfold lckS
    dsimp only
    rw [h]
  rw [z_fors, hi, bnd_ok]
  dsimp only
  rw [e1]
  show unlR (some n) (Z.forL tg (fun fr2 S2 => Z.cutR false (S1.set n (.lck (.lst xs))).length (s q fr2 S2)) items fr (S1.set n (.lck (.lst xs)))) = _
  rw [List.length_set, hl]
  show R.ok (fl, fr2) (unlS S2 (some n)) = _
  unfold unlS
  dsimp only
  rw [h2]
end Lw

set_option Elab.async false
set_option linter.all false
set_option maxRecDepth 100000
set_option maxHeartbeats 4000000
namespace Lw
open PySem PySem.Spec PyProof.Rows L2 Mi
def first50 (xs : List Int) : List T := [.non, .tup [], .str "", .str "11", .dic [], .int 5, .tup (xs.map T.int), .lst (List.replicate 121 (.int 0)), .lst (List.replicate 121 .non)]
def then50 : List T := [.non, .bl true, .bl false, .str "1", .lst [.int 1], .tup [.int 1], .dic []]
def bad2 (ys : List Int) (a : Nat) (t : T) : T := .lst ((ys.take a).map T.int ++ [t, .non] ++ (ys.drop a).map T.int)
def p50 (t : T) : T := .tup [t, .non]
def r50 (ys : List Int) (a : Nat) (t : T) : T := .tup [bad2 ys a t, .int (a : Nat)]
def W50 (xs : List Int) (a : Nat) : List T := (first50 xs).map p50 ++ then50.map (r50 (xs.take 100) a)
/-- a pair of something wrong and where -/
def Od (u : T) : Prop := ∃ x j, u = .tup [x, j] ∧ x.pl = true ∧ (∀ ts, x = .lst ts → ∀ t ∈ ts, t.pl = true) ∧ vErr x = some j ∧ rdOk x ∧ rdOk j
theorem od_first {xs : List Int} (hl : xs.length ≤ 120) (hb : Bd xs) : ∀ u ∈ (first50 xs).map p50, Od u := by
  have on : rdOk .non := (rq_non 0).ok (by omega) (by omega)
  have go : ∀ (x : T) (n k : Nat), x.pl = true → (∀ ts, x = .lst ts → ∀ t ∈ ts, t.pl = true) → vErr x = some .non → Rq x n k → n ≤ 16000000 → k ≤ 60 → Od (p50 x) := fun x n k h1 h2 h3 h4 hn hk => ⟨x, .non, rfl, h1, h2, h3, h4.ok hn hk, on⟩
  have rx : Rq (.tup (xs.map T.int)) 240000 1 := (rq_tup (rqs_ints 0 hb hl)).mono (by omega) (Nat.le_refl _)
  have r1 : Rq (.lst (List.replicate 121 (.int 0))) 240000 1 := (rq_lst (rqs_all (n := 1921) (k := 0) fun x hx => by rw [(List.mem_replicate.mp hx).2]; exact rq_int 0 (big_lt (by decide)))).mono (by rw [List.length_replicate]; omega) (Nat.le_refl _)
  have r2 : Rq (.lst (List.replicate 121 .non)) 240000 1 := (rq_lst (rqs_all (n := 4) (k := 0) fun x hx => by rw [(List.mem_replicate.mp hx).2]; exact rq_non 0)).mono (by rw [List.length_replicate]; omega) (Nat.le_refl _)
  have nl : ∀ {x : T}, (∀ ts, x ≠ .lst ts) → ∀ ts, x = .lst ts → ∀ t ∈ ts, t.pl = true := fun h ts e => absurd e (h ts)
  have pr : ∀ (t : T), t.pl = true → ∀ ts, T.lst (List.replicate 121 t) = .lst ts → ∀ u ∈ ts, u.pl = true := fun t ht ts e u hu => by
    cases e
    rw [(List.mem_replicate.mp hu).2]
    exact ht
  show ∀ u ∈ [p50 .non, p50 (.tup []), p50 (.str ""), p50 (.str "11"), p50 (.dic []), p50 (.int 5), p50 (.tup (xs.map T.int)), p50 (.lst (List.replicate 121 (.int 0))), p50 (.lst (List.replicate 121 .non))], Od u
  refine List.forall_mem_cons.mpr ⟨go _ 4 0 rfl (nl fun _ z => by cases z) rfl (rq_non 0) (by omega) (by omega), List.forall_mem_cons.mpr ⟨go _ 3 1 rfl (nl fun _ z => by cases z) rfl (rq_tup (rqs_nil (n := 0))) (by omega) (by omega), List.forall_mem_cons.mpr ⟨go _ 10000 0 rfl (nl fun _ z => by cases z) rfl (rq_str 0 (by decide +kernel)) (by omega) (by omega), List.forall_mem_cons.mpr ⟨go _ 10000 0 rfl (nl fun _ z => by cases z) rfl (rq_str 0 (by decide +kernel)) (by omega) (by omega), List.forall_mem_cons.mpr ⟨go _ 2 1 rfl (nl fun _ z => by cases z) rfl (rq_dic (rqk_nil (n := 0))) (by omega) (by omega), List.forall_mem_cons.mpr ⟨go _ 1921 0 rfl (nl fun _ z => by cases z) rfl (rq_int 0 (big_lt (by decide))) (by omega) (by omega), List.forall_mem_cons.mpr ⟨go _ 240000 1 rfl (nl fun _ z => by cases z) rfl rx (by omega) (by omega), List.forall_mem_cons.mpr ⟨go _ 240000 1 rfl (pr _ rfl) rfl r1 (by omega) (by omega), List.forall_mem_cons.mpr ⟨go _ 240000 1 rfl (pr _ rfl) rfl r2 (by omega) (by omega), fun _ h => nomatch h⟩⟩⟩⟩⟩⟩⟩⟩⟩
theorem od_then {ys : List Int} {a : Nat} (hl : ys.length ≤ 100) (hb : Bd ys) (ha : a ≤ ys.length) : ∀ u ∈ then50.map (r50 ys a), Od u := by
  have go : ∀ (t : T), t.pl = true → wh t = false → Rq t 20000 1 → Od (r50 ys a t) := fun t h1 h2 h3 => by
    have la : (ys.take a).length = a := by rw [List.length_take]; omega
    refine ⟨bad2 ys a t, .int (a : Nat), rfl, rfl, fun ts e u hu => ?_, ?_, ?_, (rq_int 0 (big_lt (by omega))).ok (by omega) (by omega)⟩
    · cases e
      rcases List.mem_append.mp hu with hu | hu
      · rcases List.mem_append.mp hu with hu | hu
        · obtain ⟨i, _, rfl⟩ := List.mem_map.mp hu
          rfl
        · rcases List.mem_cons.mp hu with rfl | hu
          · exact h1
          · rw [List.mem_singleton.mp hu]
            rfl
      · obtain ⟨i, _, rfl⟩ := List.mem_map.mp hu
        rfl
    · have e1 : fnw 0 ((ys.take a).map T.int ++ [t, .non] ++ (ys.drop a).map T.int) = some a := by
        rw [List.append_assoc, fnw_ints, la, Nat.zero_add]
        cases t with
        | int i => cases h2
        | _ => rfl
      show (if 120 < ((ys.take a).map T.int ++ [t, .non] ++ (ys.drop a).map T.int).length then some T.non else (fnw 0 ((ys.take a).map T.int ++ [t, .non] ++ (ys.drop a).map T.int)).map fun i => T.int (i : Nat)) = _
      rw [if_neg (by rw [List.length_append, List.length_append, List.length_map, List.length_map, List.length_drop, la]; show ¬ 120 < a + 2 + _; omega), e1]
      rfl
    · have b1 : Bd (ys.take a) := fun v hv => hb v (List.mem_of_mem_take hv)
      have b2 : Bd (ys.drop a) := fun v hv => hb v (List.mem_of_mem_drop hv)
      have r := rq_lst (rqs_app (rqs_ints 1 b2 (l := 100) (by rw [List.length_drop]; omega)) (rqs_app (rqs_cons h3 (rqs_cons (rq_non 1) (rqs_nil (n := 0)))) (rqs_ints 1 b1 (l := 100) (by omega))))
      exact r.ok (by omega) (by omega)
  show ∀ u ∈ [r50 ys a .non, r50 ys a (.bl true), r50 ys a (.bl false), r50 ys a (.str "1"), r50 ys a (.lst [.int 1]), r50 ys a (.tup [.int 1]), r50 ys a (.dic [])], Od u
  have i1 : Rq (.int 1) 1921 0 := rq_int 0 (big_lt (by decide))
  refine List.forall_mem_cons.mpr ⟨go _ rfl rfl ((rq_non 1).mono (by omega) (by omega)), List.forall_mem_cons.mpr ⟨go _ rfl rfl ((rq_bl true 1).mono (by omega) (by omega)), List.forall_mem_cons.mpr ⟨go _ rfl rfl ((rq_bl false 1).mono (by omega) (by omega)), List.forall_mem_cons.mpr ⟨go _ rfl rfl ((rq_str 1 (by decide +kernel)).mono (by omega) (by omega)), List.forall_mem_cons.mpr ⟨go _ rfl rfl ((rq_lst (rqs_cons i1 (rqs_nil (n := 0)))).mono (by omega) (by omega)), List.forall_mem_cons.mpr ⟨go _ rfl rfl ((rq_tup (rqs_cons i1 (rqs_nil (n := 0)))).mono (by omega) (by omega)), List.forall_mem_cons.mpr ⟨go _ rfl rfl ((rq_dic (rqk_nil (n := 0) (k := 0))).mono (by omega) (by omega)), fun _ h => nomatch h⟩⟩⟩⟩⟩⟩⟩
theorem e_lam50 {q : Q} {fr : Mi.Frame} {S : Store} {x : T} {eL : XE} (hS : S[0]? = some (.tbl (q.fa 19) "_law_refusals_right.<locals>.<lambda>")) (h : ∀ q2 : Q, q2.call = q.call → q2.fa = q.fa → eL q2 fr S = .ex n_InvalidValues x S) (hx : rdOk x) : Z.lamc 19 0 "_law_refusals_right.<locals>.<lambda>" [(n_InvalidValues, "index")] 2 1 3 br_kept eL q fr S = .ok (.t (.str x.showd)) S := by
  have e : runD (Z.seq (Z.set 1 false (Z.k .non)) (Z.seq (Z.tryx (fun q2 _ S2 => eL q2 fr S2) [(n_InvalidValues, "index")] 2 1) br_kept)) 3 q [] S = .ok (.t (.str x.showd)) S := by
    generalize hq : ({ q with L := S.length } : Q) = q3
    have qc : q3.call = q.call := by rw [← hq]
    have qf : q3.fa = q.fa := by rw [← hq]
    refine (run_Rt (d := .t (.str x.showd)) (S1 := S) ?_ mv_t).trans (by rw [List.take_length])
    rw [hq]
    show Rt (Z.seq (Z.set 1 false (Z.k .non)) (Z.seq (Z.tryx (fun q2 _ S2 => eL q2 fr S2) [(n_InvalidValues, "index")] 2 1) br_kept) q3 [none, none, none] S) _ _
    refine rt_nx (s_setT (x := .non) (S1 := S) z_k) (rt_nx (s_try (c := n_InvalidValues) (x := x) (y := "index") (S1 := S) (h q3 qc qf) rfl) ?_)
    have g2 : (((([none, none, none] : Mi.Frame).set 1 (some (.t .non))).set 2 (some (.t (.exc n_InvalidValues (q3.fa n_InvalidValues) "index" x)))).set 1 (some (.t (.exc n_InvalidValues (q3.fa n_InvalidValues) "index" x)))).set 2 none = [none, some (.t (.exc n_InvalidValues (q3.fa n_InvalidValues) "index" x)), none] := rfl
    rw [g2]
    have hm : n_InvalidValues ∈ [n_InvalidValues] := List.mem_cons_self
    have e1 : Z.isx 1 [n_InvalidValues] [n_InvalidValues] q3 [none, some (.t (.exc n_InvalidValues (q3.fa n_InvalidValues) "index" x)), none] S = .ok (.bl true) S := by
      rw [z_isx (c := n_InvalidValues) (x := x) (y := "index") rfl hm, List.contains_iff_mem.mpr hm]
    unfold br_kept
    exact rt_st (rt_ret (e_ifeF (S1 := S) (tor_F (S1 := S) (tc (z_v rfl) z_k rfl) (t_not (t_val e1 tr_bl))) (e_rd (x := .t x) (a := x) (z_attr (c := n_InvalidValues) (x := x) rfl hm) rfl hx)))
  unfold Z.lamc
  rw [hS]
  dsimp only
  rw [if_pos ⟨rfl, rfl⟩, e]
theorem sp_all_bad {fa : Nat → Addr} {k n : Nat} {S : Store} {x p : T} (hn : n ∈ okv_1) (hx : x.pl = true) (hp : ∀ ts, x = .lst ts → ∀ t ∈ ts, t.pl = true) (h : vErr x = some p) : callD prog fa (k + 4) n [.t x] S = .ex n_InvalidValues p S := by
  have hc : ∀ S' : Store, callD prog fa (k + 3) n_check_values [.t x] S' = .ex n_InvalidValues p S' := fun S' => sp_badV hx hp h
  simp only [List.mem_cons, List.not_mem_nil, or_false] at hn
  rcases hn with rfl | rfl | rfl
  · rw [cd_after_doublet_pass]
    refine (run_ex (S1 := S) ?_).trans (by rw [List.take_length])
    show b_after_doublet_pass _ [some (.t x), none, none] S = _
    unfold b_after_doublet_pass
    refine q_ex (s_exprX ?_)
    rw [e_call1 (z_v rfl) rfl]
    exact hc S
  · rw [cd_doublet_visits]
    refine (run_ex (S1 := S) ?_).trans (by rw [List.take_length])
    show b_doublet_visits _ [some (.t x), none, none] S = _
    unfold b_doublet_visits
    refine q_ex (s_exprX ?_)
    rw [e_call1 (z_v rfl) rfl]
    exact hc S
  · rw [cd_comes_out_right]
    refine (run_ex (S1 := S) ?_).trans (by rw [List.take_length])
    show b_comes_out_right _ [some (.t x)] S = _
    unfold b_comes_out_right
    refine q_ex (s_exprX ?_)
    rw [e_call1 (z_v rfl) rfl]
    exact hc S
theorem sp_refusals {fa : Nat → Addr} {k m : Nat} {S : Store} {d : Dr} {xs : List Int} (hT : S[0]? = some (.tbl (fa 19) "_law_refusals_right.<locals>.<lambda>")) (h : S[m]? = some (.lst d.ts)) (hk : 0 ≤ d.k ∧ d.k ≤ 800000000) (hl : xs.length ≤ 120) (hb : Bd xs) :
    callD prog fa (k + 5) n_refusals_right [.cell m, .t (dints xs)] S = .ok (.bl true) (S.set m (.lst d.nx.ts)) := by
  generalize hq : (⟨callD prog fa (k + 4), fa, S.length⟩ : Q) = q
  have qc : q.call = callD prog fa (k + 4) := by rw [← hq]
  have qf : q.fa = fa := by rw [← hq]
  have hok : (okL : Nat) = 16000000 := rfl
  have hml := (List.getElem?_eq_some_iff.mp h).1
  have m0 : m ≠ 0 := fun z => by
    rw [z, hT] at h
    cases h
  generalize hS1 : S.set m (.lst d.nx.ts) = S1
  have lS1 : S1.length = S.length := by rw [← hS1]; exact List.length_set
  have hT1 : S1[0]? = some (.tbl (q.fa 19) "_law_refusals_right.<locals>.<lambda>") := by
    rw [← hS1, List.getElem?_set_ne m0, hT, qf]
  have top : ∀ (B : Store) (o : Ob), (B ++ [o])[B.length]? = some o := fun B o => by
    rw [List.getElem?_append_right (Nat.le_refl _), Nat.sub_self]
    rfl
  have put : ∀ (B : Store) (o o2 : Ob), (B ++ [o]).set B.length o2 = B ++ [o2] := fun B o o2 => by
    rw [List.set_append_right _ _ (Nat.le_refl _), Nat.sub_self]
    rfl
  let ys := xs.take 100
  have lys : ys.length ≤ 100 := by rw [List.length_take]; omega
  have bys : Bd ys := fun v hv => hb v (List.mem_of_mem_take hv)
  have hx := Int.emod_nonneg d.val (b := ((ys.length : Nat) : Int) + 1) (by omega)
  have hy := Int.emod_lt_of_pos d.val (show (0 : Int) < ((ys.length : Nat) : Int) + 1 by omega)
  obtain ⟨a, ea⟩ : ∃ a : Nat, d.val % (((ys.length : Nat) : Int) + 1) = ((a : Nat) : Int) := ⟨(d.val % (((ys.length : Nat) : Int) + 1)).toNat, by omega⟩
  have ha : a ≤ ys.length := by omega
  let F (x5 x6 x7 x8 x9 : Option D) : Mi.Frame := [some (.cell m), some (.t (dints xs)), some (.t (dints ys)), some (.cell S1.length), some (.t (.int (a : Nat))), x5, x6, x7, x8, x9]
  let W0 := (first50 xs).map p50
  -- wrong things within the values
  let I : Nat → Mi.Frame → Store → Prop := fun i fr S' => (∃ x5, fr = F x5 none none none none) ∧ S' = S1 ++ [.lst (W0 ++ (then50.take i).map (r50 ys a))]
  obtain ⟨fr2, S2, el, ⟨x5, rfl⟩, eS2⟩ : ∃ fr2 S2, Z.forL (.nm 5) (fun fr2 S2 => Z.cutR false (S1 ++ [Ob.lst W0]).length (b_refusals_right_0 q fr2 S2)) (then50.map D.t) (F none none none none none) (S1 ++ [Ob.lst W0]) = .ok (.nx, fr2) S2 ∧ I (then50.map D.t).length fr2 S2 := by
    refine for_ind I ?_ ⟨⟨none, rfl⟩, by rw [List.take_zero, List.map_nil, List.append_nil]⟩
    rintro i dd fr S' hd ⟨⟨x5, rfl⟩, rfl⟩
    rw [List.getElem?_map] at hd
    cases ht : then50[i]? with
    | none =>
      rw [ht] at hd
      cases hd
    | some t =>
      rw [ht] at hd
      cases hd
      have hi := (List.getElem?_eq_some_iff.mp ht).1
      have hi : i < 7 := hi
      have etk : then50.take (i + 1) = then50.take i ++ [t] := by
        rw [List.take_succ, ht]
        rfl
      generalize hcur : W0 ++ (then50.take i).map (r50 ys a) = cur
      have lcur : cur.length ≤ 100 := by
        rw [← hcur, List.length_append, List.length_map, List.length_map, List.length_take]
        show 9 + min i 7 ≤ 100
        omega
      refine ⟨_, rfl, .nx, F (some (.t t)) none none none none, S1 ++ [.lst (cur ++ [r50 ys a t])], cut_f ?_, .inl rfl, ⟨_, rfl⟩, by rw [etk, List.map_append, ← List.append_assoc, hcur]; rfl⟩
      show b_refusals_right_0 q (F (some (.t t)) none none none none) (S1 ++ [.lst cur]) = _
      unfold b_refusals_right_0
      refine (q_nx ((s_appA (n := S1.length) (xs := cur) (x := r50 ys a t) (y := .tupo [.new ((ys.take a).map T.int ++ [t, .non] ++ (ys.drop a).map T.int), .t (.int (a : Nat))]) (S1 := S1 ++ [.lst cur]) (z_v rfl) (top _ _) (a_one (e_tup2z (x := .new ((ys.take a).map T.int ++ [t, .non] ++ (ys.drop a).map T.int)) (y := .t (.int (a : Nat))) (S1 := S1 ++ [.lst cur]) (S2 := S1 ++ [.lst cur]) ?_ (z_v rfl) rfl)) rfl (top _ _) (by omega)).trans (congrArg (R.ok _) (put _ _ _)))).trans rfl
      refine e_bin (x := .new ((ys.take a).map T.int ++ [t, .non])) (y := .new ((ys.drop a).map T.int)) (S1 := S1 ++ [.lst cur]) (e_bin (x := .new ((ys.take a).map T.int)) (y := .new [t, .non]) (S1 := S1 ++ [.lst cur]) (e_slR (x := .t (dints ys)) (j := (a : Nat)) (S1 := S1 ++ [.lst cur]) (S2 := S1 ++ [.lst cur]) (z_v rfl) (z_v rfl) ?_) (e_lst2z (z_v rfl) z_k rfl) (b_catNN ?_)) (e_slL (x := .t (dints ys)) (i := (a : Nat)) (S1 := S1 ++ [.lst cur]) (S2 := S1 ++ [.lst cur]) (z_v rfl) (z_v rfl) ?_) (b_catNN ?_)
      · show R.ok (D.new (cut (ys.map T.int) none (some ((a : Nat) : Int)))) _ = _
        rw [cut_take (by omega), Int.toNat_natCast]
        exact congrArg (fun l => Mi.R.ok (D.new l) (S1 ++ [Ob.lst cur])) (List.map_take (f := T.int) (l := ys) (i := a)).symm
      · rw [List.length_map, List.length_take]
        show _ + 2 ≤ _
        omega
      · show R.ok (D.new (cut (ys.map T.int) (some ((a : Nat) : Int)) none)) _ = _
        rw [cut_drop (by omega), Int.toNat_natCast]
        exact congrArg (fun l => Mi.R.ok (D.new l) (S1 ++ [Ob.lst cur])) (List.map_drop (f := T.int) (l := ys) (i := a)).symm
      · rw [List.length_append, List.length_map, List.length_map, List.length_take, List.length_drop]
        show _ + 2 + _ ≤ _
        omega
  have eW : W0 ++ (then50.take (then50.map D.t).length).map (r50 ys a) = W50 xs a := rfl
  rw [eW] at eS2
  subst eS2
  -- each of them, asked for
  have hT2 : (S1 ++ [Ob.lck (.lst (W50 xs a))])[0]? = some (.tbl (q.fa 19) "_law_refusals_right.<locals>.<lambda>") := by
    rw [List.getElem?_append_left (by omega)]
    exact hT1
  have lW : (W50 xs a).length = 16 := rfl
  let J : Nat → Mi.Frame → Store → Prop := fun _ fr S' => (∃ x6 x7 x8 x9, fr = F x5 x6 x7 x8 x9) ∧ S' = S1 ++ [.lck (.lst (W50 xs a))]
  obtain ⟨fr3, S3, el3, ⟨x6, x7, x8, x9, rfl⟩, rfl⟩ : ∃ fr2 S3, Z.forL (.tu [6, 7]) (fun fr2 S3 => Z.cutR false (S1 ++ [Ob.lst (W50 xs a)]).length (b_refusals_right_1 q fr2 S3)) ((W50 xs a).map D.t) (F x5 none none none none) (S1 ++ [.lck (.lst (W50 xs a))]) = .ok (.nx, fr2) S3 ∧ J ((W50 xs a).map D.t).length fr2 S3 := by
    refine for_ind J ?_ ⟨⟨_, _, _, _, rfl⟩, rfl⟩
    rintro i dd fr S' hd ⟨⟨x6, x7, x8, x9, rfl⟩, rfl⟩
    rw [List.getElem?_map] at hd
    cases ht : (W50 xs a)[i]? with
    | none =>
      rw [ht] at hd
      cases hd
    | some u =>
      rw [ht] at hd
      cases hd
      have hu := List.mem_of_getElem? ht
      obtain ⟨x, j, rfl, o1, o2, o3, o4, o5⟩ : Od u := by
        rcases List.mem_append.mp hu with hu | hu
        · exact od_first hl hb u hu
        · exact od_then lys bys ha u hu
      generalize hS3 : S1 ++ [Ob.lck (.lst (W50 xs a))] = S3 at hT2
      let K : Nat → Mi.Frame → Store → Prop := fun _ fr S' => (∃ x9, fr = F x5 (some (.t x)) (some (.t j)) (some (.t (.str x.showd))) x9) ∧ S' = S3
      let fns : List T := [.fn n_after_doublet_pass (q.fa n_after_doublet_pass), .fn n_doublet_visits (q.fa n_doublet_visits), .fn n_comes_out_right (q.fa n_comes_out_right)]
      obtain ⟨fr4, S4, el4, ⟨y9, rfl⟩, rfl⟩ : ∃ fr2 S4, Z.forL (.nm 9) (fun fr2 S4 => Z.cutR false S3.length (b_refusals_right_2 q fr2 S4)) (fns.map D.t) (F x5 (some (.t x)) (some (.t j)) (some (.t (.str x.showd))) x9) S3 = .ok (.nx, fr2) S4 ∧ K (fns.map D.t).length fr2 S4 := by
        refine for_ind K ?_ ⟨⟨_, rfl⟩, rfl⟩
        rintro n dd fr S' hd ⟨⟨y9, rfl⟩, rfl⟩
        obtain ⟨n', hn', rfl⟩ : ∃ n' ∈ okv_1, dd = .t (.fn n' (q.fa n')) := by
          rw [List.getElem?_map] at hd
          cases hf : fns[n]? with
          | none =>
            rw [hf] at hd
            cases hd
          | some f =>
            rw [hf] at hd
            cases hd
            have hm := List.mem_of_getElem? hf
            simp only [fns, List.mem_cons, List.not_mem_nil, or_false] at hm
            rcases hm with rfl | rfl | rfl
            · exact ⟨_, by decide, rfl⟩
            · exact ⟨_, by decide, rfl⟩
            · exact ⟨_, by decide, rfl⟩
        refine ⟨_, rfl, .nx, F x5 (some (.t x)) (some (.t j)) (some (.t (.str x.showd))) (some (.t (.fn n' (q.fa n')))), S', cut_f ?_, .inl rfl, ⟨_, rfl⟩, rfl⟩
        show b_refusals_right_2 q (F x5 (some (.t x)) (some (.t j)) (some (.t (.str x.showd))) (some (.t (.fn n' (q.fa n'))))) S' = _
        unfold b_refusals_right_2
        refine (q_ifF (S1 := S') (tor_F (S1 := S') ?_ (tc_rdS (a := x) (z_v rfl) rfl rfl o4))).trans rfl
        refine (tc (x := .t (.str j.showd)) (y := .t (.str j.showd)) (S1 := S') (e_lam50 (x := j) hT2 (fun q2 h1 h2 => ?_) o5) (e_rd (a := j) (z_v rfl) rfl o5) c_neS).trans ?_
        · have e1 : Z.callv 9 okv_1 (Z.cons (Z.v 6) Z.nil) [.inl 0] q2 (F x5 (some (.t x)) (some (.t j)) (some (.t (.str x.showd))) (some (.t (.fn n' (q.fa n'))))) S' = q2.call n' [.t x] S' := by
            unfold Z.callv
            show (if q.fa n' = q2.fa n' ∧ n' ∈ okv_1 then (Z.cons (Z.v 6) Z.nil q2 (F x5 (some (.t x)) (some (.t j)) (some (.t (.str x.showd))) (some (.t (.fn n' (q.fa n'))))) S').bnd fun ds S1 => Z.callA q2 n' ds [.inl 0] S1 else R.no) = _
            rw [if_pos ⟨by rw [h2], hn'⟩, a_one (x := .t x) (S1 := S') (z_v rfl), bnd_ok]
            rfl
          rw [e1, h1, qc]
          exact sp_all_bad hn' o1 o2 o3
        · rw [decide_eq_true rfl]
          rfl
      refine ⟨_, rfl, .nx, F x5 (some (.t x)) (some (.t j)) (some (.t (.str x.showd))) y9, S4, cut_f ?_, .inl rfl, ⟨_, _, _, _, rfl⟩, hS3.symm⟩
      show b_refusals_right_1 q (F x5 (some (.t x)) (some (.t j)) x8 x9) S4 = _
      unfold b_refusals_right_1
      exact (q_nx (s_setT (x := .str x.showd) (S1 := S4) (e_rd (a := x) (z_v rfl) rfl o4))).trans ((q_nx (s_forF (S1 := S4) (items := fns.map D.t) rfl el4)).trans rfl)
  rw [cd_refusals_right]
  refine (run_Rt (d := .bl true) (S1 := S1 ++ [.lst (W50 xs a)]) ?_ mv_t).trans (by rw [← lS1, List.take_left])
  rw [hq]
  show Rt (b_refusals_right q [some (.cell m), some (.t (dints xs)), none, none, none, none, none, none, none, none] S) _ _
  unfold b_refusals_right
  have eSM : (S ++ [Ob.lst W0]).set m (.lst d.nx.ts) = S1 ++ [Ob.lst W0] := by rw [List.set_append_left _ _ hml, hS1]
  have hm1 : (S ++ [Ob.lst W0])[m]? = some (.lst d.ts) := by rw [List.getElem?_append_left hml]; exact h
  refine rt_nx (s_setF (xs := ys.map T.int) (S1 := S) (e_slR (x := .t (dints xs)) (S1 := S) (S2 := S) (z_v rfl) z_k ?_)) ?_
  · show R.ok (D.new (cut (xs.map T.int) none (some 100))) S = _
    rw [cut_take (by omega), List.map_take]
    rfl
  refine rt_nx (s_setM (xs := W0) (S1 := S) ?_) ?_
  · have := e_lc (q := q) (fr := [some (.cell m), some (.t (dints xs)), some (.t (dints ys)), none, none, none, none, none, none, none]) (S := S) (S1 := S) (vs := [5]) (tg := .nm 5) (ts := Z.tt) (el := Z.tup (Z.cons (Z.v 5) (Z.cons (Z.k .non) Z.nil))) (it := Z.itE (Z.fzE (Z.lst (Z.cons (Z.k .non) (Z.cons (Z.tup Z.nil) (Z.cons (Z.k (.str "")) (Z.cons (Z.k (.str "11")) (Z.cons Z.dict0 (Z.cons (Z.k (.int 5)) (Z.cons (Z.tupl (Z.v 1)) (Z.cons (Z.bin .mul (Z.lst (Z.cons (Z.k (.int 0)) Z.nil)) (Z.k (.int 121))) (Z.cons (Z.bin .mul (Z.lst (Z.cons (Z.k .non) Z.nil)) (Z.k (.int 121))) Z.nil)))))))))))) (enc := D.t) (items := first50 xs) (p := fun _ => true) (g := p50) rfl (by rw [hok]; show 9 ≤ 16000000; omega) fun x _ => ⟨_, rfl, rfl, fun _ => rfl⟩
    rw [filter_tt] at this
    exact this
  refine rt_nx (s_setT (x := .int (a : Nat)) (S1 := S1 ++ [Ob.lst W0]) ?_) ?_
  · have en := e_next (q := q) (fr := [some (.cell m), some (.t (dints xs)), some (.t (dints ys)), some (.cell S.length), none, none, none, none, none, none]) (i := 0) (k := k + 3) qc rfl hm1 (by omega)
    rw [eSM] at en
    refine e_bin (y := .t (.int (((ys.length : Nat) : Int) + 1))) en (e_bin (x := .t (.int (ys.length : Nat))) (S1 := S1 ++ [Ob.lst W0]) (e_f1 (x := .t (dints ys)) (z_v rfl) ((IsL.t (S := S1 ++ [Ob.lst W0]) (ns := ys)).len)) z_k b_add) ?_
    rw [b_mod (by omega), ea]
  have eF : ([some (.cell m), some (.t (dints xs)), some (.t (dints ys)), some (.cell S.length), none, none, none, none, none, none] : Mi.Frame).set 4 (some (.t (.int (a : Nat)))) = F none none none none none := by
    show ([some (.cell m), some (.t (dints xs)), some (.t (dints ys)), some (.cell S.length), some (.t (.int (a : Nat))), none, none, none, none, none] : Mi.Frame) = _
    rw [← lS1]
  show Rt (Z.seq _ _ q (([some (.cell m), some (.t (dints xs)), some (.t (dints ys)), some (.cell S.length), none, none, none, none, none, none] : Mi.Frame).set 4 (some (.t (.int (a : Nat))))) _) _ _
  rw [eF]
  refine rt_nx (s_forF (S1 := S1 ++ [Ob.lst W0]) (items := then50.map D.t) rfl el) ?_
  have e3 : (S1 ++ [Ob.lst (W50 xs a)]).set S1.length (.lck (.lst (W50 xs a))) = S1 ++ [.lck (.lst (W50 xs a))] := put _ _ _
  refine rt_nx (s_forL (n := S1.length) (xs := W50 xs a) (S1 := S1 ++ [Ob.lst (W50 xs a)]) (S2 := S1 ++ [.lck (.lst (W50 xs a))]) (items := (W50 xs a).map D.t) ?_ (top _ _) (by rw [e3]; exact el3) (top _ _)) ?_
  · unfold Z.itE
    rw [z_v (d := .cell S1.length) rfl, bnd_ok]
    dsimp only
    rw [top]
  · rw [put]
    exact rt_st (rt_ret z_k)
end Lw

set_option Elab.async false
set_option linter.all false
set_option maxRecDepth 100000
set_option maxHeartbeats 4000000
namespace Lw
open PySem PySem.Spec PyProof.Rows L2 Mi
theorem k50_law {fa : Nat → Addr} {k : Nat} {ns : List Int} (hl : ns.length ≤ 63) : callD prog fa (k + 6) n_law [.t (.scr ns)] [.tbl (fa 19) "_law_refusals_right.<locals>.<lambda>"] = .ok (.bl true) [.tbl (fa 19) "_law_refusals_right.<locals>.<lambda>"] := by
  generalize hSS : ([.tbl (fa 19) "_law_refusals_right.<locals>.<lambda>"] : Store) = S
  have hT0 : S[0]? = some (.tbl (fa 19) "_law_refusals_right.<locals>.<lambda>") := by rw [← hSS]; rfl
  generalize hq : (⟨callD prog fa (k + 5), fa, S.length⟩ : Q) = q
  have qc : q.call = callD prog fa (k + 5) := by rw [← hq]
  have hlS : 0 < S.length := (List.getElem?_eq_some_iff.mp hT0).1
  let P : Mi.Frame → Prop := fun fr => ∃ a b c : Option D, fr = [some (.t (.scr ns)), a, b, c, none]
  obtain ⟨fr2, S2, el, ⟨a1, a2, a3, rfl⟩, keep⟩ := cells_loopS (q := q) (S0 := S) (fr := [some (.t (.scr ns)), none, none, none, none]) (t := 1) (b := b_law_0) (P := P) (e_cellsS (k := k + 4) (S := S) (fr := [some (.t (.scr ns)), none, none, none, none]) (v := 4) (j := 6) qc rfl (by show 4 < 5; decide) hl (by decide)) ⟨_, _, _, rfl⟩ (by
    rintro fr' S' i c ⟨a1, a2, a3, rfl⟩ hSi hS0 hi
    have hT : S'[0]? = some (.tbl (fa 19) "_law_refusals_right.<locals>.<lambda>") := by rw [hS0 0 hlS]; exact hT0
    let I : Nat → Mi.Frame → Store → Prop := fun j fr S2 => ∃ (a b : Option D) (d : Dr), fr = [some (.t (.scr ns)), some (.cell i), a, b, none] ∧ (0 < j → ∃ xs : List Int, b = some (.t (dints xs)) ∧ xs.length ≤ 120 ∧ Bd xs) ∧ S2 = S'.set i (.lst d.ts) ∧ (0 ≤ d.k ∧ d.k ≤ 1000 * j)
    have hil := (List.getElem?_eq_some_iff.mp hi).1
    obtain ⟨fr2, S2, hl2, b1, b2, d, rfl, hxs, rfl, hdk⟩ : ∃ fr2 S2, Z.forL (.nm 2) (fun fr2 S2 => Z.cutR false S'.length (b_law_1 q fr2 S2)) ((List.range (6 : Int).toNat).map fun k : Nat => .int (k : Int)) [some (.t (.scr ns)), some (.cell i), a2, a3, none] S' = .ok (.nx, fr2) S2 ∧ I ((List.range (6 : Int).toNat).map fun k : Nat => D.int (k : Int)).length fr2 S2 := by
      refine for_ind I ?_ ⟨_, _, drOf c, rfl, fun h => absurd h (Nat.lt_irrefl _), ?_, by rw [drOf_k]; omega⟩
      · rintro j dd fr S2 hd ⟨a, b, d, rfl, _, rfl, kd⟩
        obtain ⟨hj, rfl⟩ := range_at hd
        have hj : j < 6 := hj
        obtain ⟨xs, d2, ev, lx, bx, kd2⟩ := sp_values (fa := fa) (k := k + 3) (S := S'.set i (.lst d.ts)) (m := i) (d := d) (List.getElem?_set_self hil) (by omega)
        rw [List.set_set] at ev
        refine ⟨_, rfl, .nx, [some (.t (.scr ns)), some (.cell i), some (.int (j : Nat)), some (.t (dints xs)), none], S'.set i (.lst d2.ts), cut_f ?_, .inl rfl, _, _, d2, rfl, fun _ => ⟨xs, rfl, lx, bx⟩, rfl, by omega⟩
        show b_law_1 q [some (.t (.scr ns)), some (.cell i), some (.int (j : Nat)), b, none] (S'.set i (.lst d.ts)) = _
        unfold b_law_1
        refine (q_nx (s_setF (xs := xs.map T.int) (S1 := S'.set i (.lst d2.ts)) ?_)).trans ((q_ifF (S1 := S'.set i (.lst d2.ts)) (t_not (k := true) (t_val (x := .t (.bl true)) ?_ tr_bl))).trans rfl)
        · rw [e_call1 (z_v rfl) rfl, qc]
          exact ev
        · rw [e_call1 (z_v rfl) rfl, qc]
          exact sp_right50 lx bx
      · obtain ⟨h1, h2⟩ := List.getElem?_eq_some_iff.mp hi
        rw [← h2, List.set_getElem_self]
    obtain ⟨xs, rfl, lx, bx⟩ := hxs (by show 0 < 6; decide)
    have hdk : d.k ≤ 6000 := hdk.2
    have i0 : i ≠ 0 := by omega
    have er := sp_refusals (fa := fa) (k := k) (m := i) (S := S'.set i (.lst d.ts)) (d := d) (xs := xs) (by rw [List.getElem?_set_ne i0]; exact hT) (List.getElem?_set_self hil) (by omega) lx bx
    rw [List.set_set] at er
    refine ⟨[some (.t (.scr ns)), some (.cell i), b1, some (.t (dints xs)), none], S'.set i (.lst d.nx.ts), ?_, ⟨_, _, _, rfl⟩, fun j hj hji => List.getElem?_set_ne (Ne.symm hji)⟩
    show b_law_0 q [some (.t (.scr ns)), some (.cell i), a2, a3, none] S' = _
    unfold b_law_0
    refine (q_nx (s_forF (S1 := S') (items := (List.range (6 : Int).toNat).map fun k : Nat => .int (k : Int)) (i_range z_k (by decide)) hl2)).trans ((q_ifF (S1 := S'.set i (.lst d.nx.ts)) (t_not (k := true) (t_val (x := .t (.bl true)) ?_ tr_bl))).trans rfl)
    rw [e_call2 (z_v rfl) (z_v rfl) rfl rfl, qc]
    exact er)
  have er : ∀ (L : XE) (xs : List Int) (fr : Mi.Frame), L q fr S2 = .ok (.new (xs.map T.int)) S2 → xs.length ≤ 120 → Bd xs → Z.call n_right (Z.cons L Z.nil) [.inl 0] q fr S2 = .ok (.bl true) S2 := fun L xs fr h lx bx => by
    rw [e_call1 h rfl, qc]
    exact sp_right50 lx bx
  rw [cd_law]
  refine (run_Rt (d := .bl true) (S1 := S2) ?_ mv_t).trans (congrArg (Mi.R.ok _) (take_same keep))
  rw [hq]
  show Rt (b_law q [some (.t (.scr ns)), none, none, none, none] S) _ _
  unfold b_law
  refine rt_nx el (rt_st (rt_ret (e_andT (S1 := S2) (er _ (List.replicate 120 3) _ ?_ (by rw [List.length_replicate]; omega) fun v hv => by rw [(List.mem_replicate.mp hv).2]; exact big_lt (by decide)) (e_andT (S1 := S2) (er _ ((List.range 120).map fun n : Nat => (n : Int)) _ ?_ (by rw [List.length_map, List.length_range]; omega) fun v hv => ?_) (e_andT (S1 := S2) (er _ [] _ rfl (by decide) fun v hv => by cases hv) (er _ [1, 1] _ rfl (by decide) fun v hv => ?_))))))
  · refine (e_bin (x := .new [.int 3]) (y := .t (.int 120)) (S1 := S2) (e_lst1z z_k rfl) z_k (b_repN (by decide))).trans ?_
    rw [List.map_replicate]
    rfl
  · refine e_f1 (x := .t (.int 120)) (S1 := S2) z_k ?_
    show lrangeD (.t (.int 120)) S2 = _
    unfold lrangeD
    dsimp only
    rw [if_pos (by decide), List.map_map]
    rfl
  · obtain ⟨n, hn, rfl⟩ := List.mem_map.mp hv
    have := List.mem_range.mp hn
    exact big_lt (by omega)
  · simp only [List.mem_cons, List.not_mem_nil, or_false] at hv
    exact big_lt (by omega)
end Lw

set_option Elab.async false
set_option linter.all false
set_option maxRecDepth 100000
set_option maxHeartbeats 4000000
namespace Lw
open PySem PySem.Spec PyProof.Rows L2 Mi
abbrev R0 : PySem.W.OpenRow := PySem.W.OpenLaw.row PySem.Challenge.rw_midwalk_k50_doublet_passes
abbrev hk : PySem.W.Hook := hookY 4 fa fn xd file tf
def ob (s : PySem.W.SharedT) : AlY := obsYG 4 fa fn xd file tf (HandSHeadRun.getT s)
theorem ob_eq (s : PySem.W.SharedT) : ob s = hk.obs s.abs := obsYG_eq (HandSHeadRun.getT_eq s)
theorem run (w : World) : HandSHeadRun.RunEq R0 (PySem.W.view R0.prog [lawAt]) hk ob 6000 loose w := by
  intro os
  kernel_rfl
end Lw
open PySem PySem.W PySem.Calls PyProof.Rows
theorem PySem.Challenge.cw_midwalk_k50_doublet_passes_holds : PySem.Challenge.rw_midwalk_k50_doublet_passes.Holds := by
  w_on; o_law
  refine HandSHeadRun.head_any (r := OpenLaw.row PySem.Challenge.rw_midwalk_k50_doublet_passes) (q := view (OpenLaw.row PySem.Challenge.rw_midwalk_k50_doublet_passes).prog [Lw.lawAt]) (H := Lw.hk) (ob := Lw.ob) (M := 6000) (loose := Lw.loose) (d := HandSHeadRun.topDef (OpenLaw.row PySem.Challenge.rw_midwalk_k50_doublet_passes).prog Lw.lawAt) (kwd := []) Lw.ob_eq
    (by kernel_rfl) (fun s => by kernel_rfl) Lw.run (by kernel_rfl) (by kernel_rfl) (by kernel_rfl) (by rfl) (by first | assumption | decide +kernel) (by decide +kernel) ⟨rfl, rfl, rfl, rfl, rfl, by decide +kernel⟩ ?hw ?hc
  case hw => w_witness2
  case hc =>
    refine Mi.walk_T (l := PySem.Challenge.rw_midwalk_k50_doublet_passes) (n := 63) (k := 3 * 38) (x := "_law_script") rfl (by decide) (by kernel_rfl) ⟨rfl, by decide, by decide⟩ ?F
    intro w mg fa h Y G hmg0
    obtain ⟨K, KX, c⟩ := Y
    have hmg : mg ("law" : PySem.Str) = some (.ref fa) := by
      have e : (HandSHeadRun.topDef (OpenLaw.row PySem.Challenge.rw_midwalk_k50_doublet_passes).prog Lw.lawAt).name = ("law" : PySem.Str) := by kernel_rfl
      rw [← e]
      exact hmg0
    obtain ⟨fd, F, hF⟩ := Lw.law_ok (P := PySem.Challenge.rw_midwalk_k50_doublet_passes.prog) (w := w) KX G c.x (by first | rfl | kernel_rfl) (by first | rfl | decide +kernel | kernel_rfl) hmg (38 - 1)
    have b := L2.FunD.bindsA (ps := ["_law_script"]) F fun _ _ _ _ _ _ us hl => match us, hl with | [_], _ => rfl
    have each : ∀ (Z : Addr × Addr → Prop), (∀ p ∈ Lw.tf, Z (He.cT K p)) → ∀ p ∈ Lw.tf.map (He.cT K), Z p := fun Z hz p hp => by
      obtain ⟨t, ht, rfl⟩ := List.mem_map.mp hp
      exact hz t ht
    have hnd : ((Lw.tabs K).map (·.1)).Nodup := c.nd
    exact ⟨K, fd, Lw.tf.map (He.cT K), _, KX, each _ c.empty, each _ c.out, each _ fun p hp => codeHd_of_K KX (c.hd p hp), fun s v => b s [v] rfl, fun H a ns hl hO hS => Mi.law_spT (er := Mi.erX K Lw.gi.xs (Lw.faOf K mg)) (ts := Lw.tabs K) H a ns hO hS rfl hnd ((Lw.k50_law (k := 32)) hl), fun base _ _ hT => hF base hT⟩
