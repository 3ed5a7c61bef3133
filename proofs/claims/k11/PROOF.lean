import PyProof.Rows.All
import HandS.Words
import KE.KDictDisplayH
import PyProof.ReprRoads
import HandS.List
import HandS.IsInst
import HandS.Wide
import HandS.Call
import HandS.Exc
import HandS.Lambda
import HandS.ExcInit
import KE.KExcSuper
import HandS.TryMany
import KE.KTryMore
import KE.KExcIs
import HandS.ForMost
import HandS.Defaults
import HandS.MakeKwOnly
import HandS.Flow
import HandS.WideBits
import HandS.SortInts
import HandS.SetFor
import HandS.ExcOwn
import HandS.Comp
import HandS.HeadHook4
import HandS.Property
import HandS.GenList
import HandS.Style
import HandS.SortKw
import HandS.Conv
import HandS.Zip
import KE.DataMinMax
import HandS.More
import HandS.Head0
import HandS.Head1
import HandS.Head2
import HandS.HeadEnd
import HandS.HeadHook1
import HandS.HeadHook2
import PyProof.SumAny
import PyProof.FactsAll.subtypes_4
import HandS.ExcValue
import HandS.Set
import HandS.Strs
import PyProof.SetRoads
import PyProof.ListNew
import KE.KDictZip
import HandS.TupAny
import HandS.EndTab
import HandS.NoneIn
import PyProof.RowDictHeap
import HandS.Iter
import HandS.DictComp
import HandS.Text
import HandS.StrMore
import HandS.ListItems
import PyProof.StrOps2
import PyProof.Rows.SortStrRead
import KE.DataAny
import HandS.SetBool
import HandS.TupMul
import KE.DatumOrd
import HandS.FStr
import KE.KDictPairs
import KE.KDictWalk
import HandS.TupLen
import HandS.HeadWalk
import HandS.HeadNt
import KE.SortData
import OpenK.AllK
import PySem.Challenge.RW_midwalk_k11_whole_numbers_of_lists_befor
set_option Elab.async false
set_option linter.all false
set_option maxRecDepth 100000
set_option maxHeartbeats 4000000
/-! N1: values as trees; how they stand in the abstract heap -/
namespace Mi
open PySem L2

inductive T where
  | non | bl (b : Bool) | int (i : Int) | str (x : Str) | lst (xs : List T) | tup (xs : List T) | dic (kvs : List (Key × T)) | fn (n : Nat) (a : Addr) | scr (ns : List Int) | set (ns : List Int) | exn (c : Nat) (C : Addr) | exc (c : Nat) (C : Addr) (f : Str) (x : T) | dix (kvs : List (T × T))
/-- the object o is a dict with these keys and values -/
def DxO (o : Obj) (xs : List (V × V)) : Prop := xs.length ≤ sizeLine ∧ o.ExactDict ∧ ∃ es ep, o.data = .dict es ep ∧ Paired (fun (x : V × V) (e : DictEntry) => RelV x.1 e.key ∧ RelV x.2 e.val) xs es.toList
/-- a dict that never changes, whatever its keys -/
abbrev dxH (a : Addr) (o : Obj) (xs : List (V × V)) : HO := .frz o (.ext fun _ => (a == sysModules) = false ∧ DxO o xs)
/-- at a: an exception of the class at C that was caught, its dict at d (none: it has not had one yet) -/
def exv (a C : Addr) (d : Option Addr) : HO := .ext fun h => ∃ oe, h.get? a = some oe ∧ oe.cls = .ref C ∧ oe.dict = d ∧ ∃ vs, oe.data = .fields vs
abbrev Lk := Addr → HO → Prop
abbrev At (F : Hp) : Lk := fun a o => F a = some o
def dedup : List Int → List Int
  | [] => []
  | n :: ns => if ns.contains n then dedup ns else n :: dedup ns

mutual
inductive Rep (K : PySem.W.Frag) (G : Lk) : V → T → Prop
  | non : Rep K G .non .non
  | bl (b : Bool) : Rep K G (.bl b) (.bl b)
  | int (i : Int) : Rep K G (.int i) (.int i)
  | str (x : Str) : Rep K G (.str x) (.str x)
  | lst {a : Addr} {xs : List V} {ds : List T} : G a (.lst xs) → RepL K G xs ds → Rep K G (.ref a) (.lst ds)
  | tup {a : Addr} {xs : List V} {ds : List T} : G a (.tup xs) → RepL K G xs ds → Rep K G (.ref a) (.tup ds)
  | dic {a : Addr} {xs : List (Key × V)} {ds : List (Key × T)} : G a (.dK xs) → RepK K G xs ds → Rep K G (.ref a) (.dic ds)
  | fn (n : Nat) (a : Addr) : Rep K G (.ref a) (.fn n a)
  | scr {a : Addr} {ns : List Int} : (∃ o, G a (.frz o (.lst (ns.map V.int)))) ∨ (∀ H : Hp, SqL K H a (ns.map V.int)) → Rep K G (.ref a) (.scr ns)
  | set {a : Addr} {ns : List Int} {S : Int → Bool} {n : Nat} : G a (.set S n) → (∀ i, S i = ns.contains i) → n = (dedup ns).length → Rep K G (.ref a) (.set ns)
  | exn {a C : Addr} (c : Nat) : G a (exv a C none) → Rep K G (.ref a) (.exn c C)
  | exc {a C d : Addr} {c : Nat} {f : Str} {v : V} {x : T} : G a (exv a C (some d)) → G d (.xd [(f, v)]) → Rep K G v x → Rep K G (.ref a) (.exc c C f x)
  | dix {a : Addr} {o : Obj} {xs : List (V × V)} {ds : List (T × T)} : G a (dxH a o xs) → RepP K G xs ds → Rep K G (.ref a) (.dix ds)
inductive RepL (K : PySem.W.Frag) (G : Lk) : List V → List T → Prop
  | nil : RepL K G [] []
  | cons {v : V} {vs : List V} {d : T} {ds : List T} : Rep K G v d → RepL K G vs ds → RepL K G (v :: vs) (d :: ds)
inductive RepK (K : PySem.W.Frag) (G : Lk) : List (Key × V) → List (Key × T) → Prop
  | nil : RepK K G [] []
  | cons {k : Key} {v : V} {vs : List (Key × V)} {d : T} {ds : List (Key × T)} : Rep K G v d → RepK K G vs ds → RepK K G ((k, v) :: vs) ((k, d) :: ds)
inductive RepP (K : PySem.W.Frag) (G : Lk) : List (V × V) → List (T × T) → Prop
  | nil : RepP K G [] []
  | cons {u v : V} {vs : List (V × V)} {c d : T} {ds : List (T × T)} : Rep K G u c → Rep K G v d → RepP K G vs ds → RepP K G ((u, v) :: vs) ((c, d) :: ds)
end
section
variable {K : PySem.W.Frag} {G G' : Lk}
mutual
theorem Rep.mono (e : ∀ a o, G a o → G' a o) : ∀ {d : T} {v : V}, Rep K G v d → Rep K G' v d
  | .non, _, h => by cases h; exact .non
  | .bl _, _, h => by cases h; exact .bl _
  | .int _, _, h => by cases h; exact .int _
  | .str _, _, h => by cases h; exact .str _
  | .fn _ _, _, h => by cases h; exact .fn _ _
  | .scr _, _, h => by
    cases h with
    | scr h1 => exact .scr (h1.imp (fun ⟨o, z⟩ => ⟨o, e _ _ z⟩) id)
  | .set _, _, h => by
    cases h with
    | set h1 h2 h3 => exact .set (e _ _ h1) h2 h3
  | .exn _ _, _, h => by
    cases h with
    | exn _ h1 => exact .exn _ (e _ _ h1)
  | .exc _ _ _ x, _, h => by
    cases h with
    | exc h1 h2 h3 => exact .exc (e _ _ h1) (e _ _ h2) (Rep.mono e h3)
  | .lst ds, _, h => by
    cases h with
    | lst h1 h2 => exact .lst (e _ _ h1) (RepL.mono e h2)
  | .tup ds, _, h => by
    cases h with
    | tup h1 h2 => exact .tup (e _ _ h1) (RepL.mono e h2)
  | .dic ds, _, h => by
    cases h with
    | dic h1 h2 => exact .dic (e _ _ h1) (RepK.mono e h2)
  | .dix ds, _, h => by
    cases h with
    | dix h1 h2 => exact .dix (e _ _ h1) (RepP.mono e h2)
theorem RepL.mono (e : ∀ a o, G a o → G' a o) : ∀ {ds : List T} {vs : List V}, RepL K G vs ds → RepL K G' vs ds
  | [], _, h => by cases h; exact .nil
  | _ :: _, _, h => by
    cases h with
    | cons h1 h2 => exact .cons (Rep.mono e h1) (RepL.mono e h2)
theorem RepK.mono (e : ∀ a o, G a o → G' a o) : ∀ {ds : List (Key × T)} {vs : List (Key × V)}, RepK K G vs ds → RepK K G' vs ds
  | [], _, h => by cases h; exact .nil
  | (_, _) :: _, _, h => by
    cases h with
    | cons h1 h2 => exact .cons (Rep.mono e h1) (RepK.mono e h2)
theorem RepP.mono (e : ∀ a o, G a o → G' a o) : ∀ {ds : List (T × T)} {vs : List (V × V)}, RepP K G vs ds → RepP K G' vs ds
  | [], _, h => by cases h; exact .nil
  | (_, _) :: _, _, h => by
    cases h with
    | cons h1 h2 h3 => exact .cons (Rep.mono e h1) (Rep.mono e h2) (RepP.mono e h3)
end
theorem rep_dix {v : V} {ds : List (T × T)} (h : Rep K G v (.dix ds)) : ∃ a o xs, v = .ref a ∧ G a (dxH a o xs) ∧ RepP K G xs ds := by
  cases h with
  | dix h1 h2 => exact ⟨_, _, _, rfl, h1, h2⟩
theorem rep_int {v : V} {i : Int} (h : Rep K G v (.int i)) : v = .int i := by cases h; rfl
theorem rep_bl {v : V} {i : Bool} (h : Rep K G v (.bl i)) : v = .bl i := by cases h; rfl
theorem rep_str {v : V} {i : Str} (h : Rep K G v (.str i)) : v = .str i := by cases h; rfl
theorem rep_non {v : V} (h : Rep K G v .non) : v = .non := by cases h; rfl
theorem rep_fn {v : V} {n : Nat} {a : Addr} (h : Rep K G v (.fn n a)) : v = .ref a := by cases h; rfl
theorem rep_lst {v : V} {ds : List T} (h : Rep K G v (.lst ds)) : ∃ a xs, v = .ref a ∧ G a (.lst xs) ∧ RepL K G xs ds := by
  cases h with
  | lst h1 h2 => exact ⟨_, _, rfl, h1, h2⟩
theorem rep_scr {v : V} {ns : List Int} (h : Rep K G v (.scr ns)) : ∃ a, v = .ref a ∧ ((∃ o, G a (.frz o (.lst (ns.map V.int)))) ∨ ∀ H : Hp, SqL K H a (ns.map V.int)) := by
  cases h with
  | scr h1 => exact ⟨_, rfl, h1⟩
theorem rep_set {v : V} {ns : List Int} (h : Rep K G v (.set ns)) : ∃ a S n, v = .ref a ∧ G a (.set S n) ∧ (∀ i, S i = ns.contains i) ∧ n = (dedup ns).length := by
  cases h with
  | set h1 h2 h3 => exact ⟨_, _, _, rfl, h1, h2, h3⟩
theorem rep_exn {v : V} {c : Nat} {C : Addr} (h : Rep K G v (.exn c C)) : ∃ a, v = .ref a ∧ G a (exv a C none) := by
  cases h with
  | exn _ h1 => exact ⟨_, rfl, h1⟩
theorem rep_exc {v : V} {c : Nat} {C : Addr} {f : Str} {x : T} (h : Rep K G v (.exc c C f x)) : ∃ a d w, v = .ref a ∧ G a (exv a C (some d)) ∧ G d (.xd [(f, w)]) ∧ Rep K G w x := by
  cases h with
  | exc h1 h2 h3 => exact ⟨_, _, _, rfl, h1, h2, h3⟩
theorem rep_tup {v : V} {ds : List T} (h : Rep K G v (.tup ds)) : ∃ a xs, v = .ref a ∧ G a (.tup xs) ∧ RepL K G xs ds := by
  cases h with
  | tup h1 h2 => exact ⟨_, _, rfl, h1, h2⟩
theorem rep_dic {v : V} {ds : List (Key × T)} (h : Rep K G v (.dic ds)) : ∃ a xs, v = .ref a ∧ G a (.dK xs) ∧ RepK K G xs ds := by
  cases h with
  | dic h1 h2 => exact ⟨_, _, rfl, h1, h2⟩
theorem RepL.length : ∀ {xs : List V} {ds : List T}, RepL K G xs ds → xs.length = ds.length
  | _, _, .nil => rfl
  | _, _, .cons _ h => congrArg Nat.succ (RepL.length h)
theorem RepL.get : ∀ {xs : List V} {ds : List T} {i : Nat} {v : V}, RepL K G xs ds → xs[i]? = some v → ∃ d, ds[i]? = some d ∧ Rep K G v d
  | _, _, _, _, .nil, e => by simp at e
  | _, _, 0, _, .cons h _, e => by
    have e' : _ = _ := Option.some.inj e
    subst e'
    exact ⟨_, rfl, h⟩
  | _, _, i + 1, _, .cons _ h, e => RepL.get (i := i) h e
theorem RepL.get' {xs : List V} {ds : List T} {i : Nat} {d : T} (h : RepL K G xs ds) (e : ds[i]? = some d) : ∃ v, xs[i]? = some v ∧ Rep K G v d := by
  have hl := h.length
  have hi := (List.getElem?_eq_some_iff.mp e).1
  have hx : xs[i]? = some (xs[i]'(by omega)) := List.getElem?_eq_getElem (by omega)
  obtain ⟨d', e', r⟩ := h.get hx
  rw [e] at e'
  cases e'
  exact ⟨_, hx, r⟩
theorem RepL.append : ∀ {xs ys : List V} {ds es : List T}, RepL K G xs ds → RepL K G ys es → RepL K G (xs ++ ys) (ds ++ es)
  | _, _, _, _, .nil, k => k
  | _, _, _, _, .cons h t, k => .cons h (RepL.append t k)
theorem RepL.snoc {xs : List V} {v : V} {ds : List T} {d : T} (h : RepL K G xs ds) (k : Rep K G v d) : RepL K G (xs ++ [v]) (ds ++ [d]) := h.append (.cons k .nil)
theorem RepL.drop : ∀ {xs : List V} {ds : List T} (n : Nat), RepL K G xs ds → RepL K G (xs.drop n) (ds.drop n)
  | _, _, 0, h => h
  | _, _, _ + 1, .nil => .nil
  | _, _, n + 1, .cons _ h => RepL.drop n h
theorem RepL.take : ∀ {xs : List V} {ds : List T} (n : Nat), RepL K G xs ds → RepL K G (xs.take n) (ds.take n)
  | _, _, 0, _ => .nil
  | _, _, _ + 1, .nil => .nil
  | _, _, n + 1, .cons h t => .cons h (RepL.take n t)
theorem RepL.set {v : V} {d : T} (k : Rep K G v d) : ∀ {xs : List V} {ds : List T} (n : Nat), RepL K G xs ds → RepL K G (xs.set n v) (ds.set n d)
  | _, _, _, .nil => .nil
  | _, _, 0, .cons _ t => .cons k t
  | _, _, n + 1, .cons h t => .cons h (RepL.set k n t)
theorem RepL.eraseIdx : ∀ {xs : List V} {ds : List T} (n : Nat), RepL K G xs ds → RepL K G (xs.eraseIdx n) (ds.eraseIdx n)
  | _, _, _, .nil => .nil
  | _, _, 0, .cons _ t => t
  | _, _, n + 1, .cons h t => .cons h (RepL.eraseIdx n t)
theorem RepL.reps {xs : List V} {ds : List T} (h : RepL K G xs ds) : ∀ n : Nat, RepL K G (List.replicate n xs).flatten (List.replicate n ds).flatten
  | 0 => .nil
  | n + 1 => by
    rw [List.replicate_succ, List.replicate_succ, List.flatten_cons, List.flatten_cons]
    exact h.append (RepL.reps h n)
theorem RepL.reverse {xs : List V} {ds : List T} (h : RepL K G xs ds) : RepL K G xs.reverse ds.reverse := by
  induction ds generalizing xs with
  | nil => cases h; exact .nil
  | cons d r ih =>
    cases h with
    | cons h1 h2 =>
      rw [List.reverse_cons, List.reverse_cons]
      exact (ih h2).snoc h1
theorem RepL.ints : ∀ {xs : List V} {ns : List Int}, RepL K G xs (ns.map T.int) → xs = ns.map V.int
  | _, [], h => by cases h; rfl
  | _, n :: ns, h => by
    cases h with
    | cons h1 h2 => rw [rep_int h1, RepL.ints h2]; rfl
theorem RepL.of_ints : ∀ {ns : List Int}, RepL K G (ns.map V.int) (ns.map T.int)
  | [] => .nil
  | n :: ns => .cons (.int n) RepL.of_ints
theorem RepK.length : ∀ {xs : List (Key × V)} {ds : List (Key × T)}, RepK K G xs ds → xs.length = ds.length
  | _, _, .nil => rfl
  | _, _, .cons _ h => congrArg Nat.succ (RepK.length h)
theorem RepK.keys : ∀ {xs : List (Key × V)} {ds : List (Key × T)}, RepK K G xs ds → xs.map (·.1) = ds.map (·.1)
  | _, _, .nil => rfl
  | _, _, .cons _ h => by rw [List.map_cons, List.map_cons, RepK.keys h]
theorem RepK.append : ∀ {xs ys : List (Key × V)} {ds es : List (Key × T)}, RepK K G xs ds → RepK K G ys es → RepK K G (xs ++ ys) (ds ++ es)
  | _, _, _, _, .nil, k => k
  | _, _, _, _, .cons h t, k => .cons h (RepK.append t k)
theorem RepK.get' : ∀ {xs : List (Key × V)} {ds : List (Key × T)} {i : Nat} {k : Key} {d : T}, RepK K G xs ds → ds[i]? = some (k, d) → ∃ v, xs[i]? = some (k, v) ∧ Rep K G v d
  | _, _, _, _, _, .nil, e => by simp at e
  | _, _, 0, _, _, .cons h _, e => by
    have e' := Option.some.inj e
    cases e'
    exact ⟨_, rfl, h⟩
  | _, _, i + 1, _, _, .cons _ h, e => RepK.get' (i := i) h e
end

/-! ### reading through the heap -/
abbrev Now (H : Hp) : Lk := fun a o => H a = some o ∨ ∃ kvs, o = .dK kvs ∧ ∃ ob, H a = some (.frz ob o)
def Sub (F H : Hp) : Prop := ∀ a o, F a = some o → Now H a o
theorem rep_rd {K : PySem.W.Frag} {F H : Hp} {v : V} {x : T} (s : Sub F H) (h : Rep K (At F) v x) : Rep K (Now H) v x := h.mono s
theorem repL_rd {K : PySem.W.Frag} {F H : Hp} {v : List V} {x : List T} (s : Sub F H) (h : RepL K (At F) v x) : RepL K (Now H) v x := h.mono s
theorem now_ex {H : Hp} {a : Addr} {o : HO} (h : Now H a o) (n : ∀ kvs, o ≠ .dK kvs) : H a = some o := h.elim id fun ⟨kvs, e, _⟩ => absurd e (n kvs)
theorem now_lst {H : Hp} {a : Addr} {xs : List V} (h : Now H a (.lst xs)) : H a = some (.lst xs) := now_ex h fun _ z => by cases z
theorem now_tup {H : Hp} {a : Addr} {xs : List V} (h : Now H a (.tup xs)) : H a = some (.tup xs) := now_ex h fun _ z => by cases z
theorem now_rd {H : Hp} {a : Addr} {o : HO} (h : Now H a o) : Rd H a o := h.imp id fun ⟨_, _, z⟩ => z
theorem sqL_rd {K : PySem.W.Frag} {H : Hp} {a : Addr} {xs : List V} (h : Now H a (.lst xs)) : SqL K H a xs := SqL.of (now_lst h)
theorem sqT_rd {K : PySem.W.Frag} {H : Hp} {a : Addr} {xs : List V} (h : Now H a (.tup xs)) : SqT K H a xs := SqT.of (now_tup h)
theorem now_keep {H H' : Hp} {a : Addr} {o : HO} (s : ∀ u, H a = some u → H' a = some u) (h : Now H a o) : Now H' a o := h.imp (s _) fun ⟨k, e, ob, z⟩ => ⟨k, e, ob, s _ z⟩
theorem now_some {H : Hp} {a : Addr} {o : HO} (h : Now H a o) : ∃ u, H a = some u := h.elim (fun z => ⟨_, z⟩) fun ⟨_, _, _, z⟩ => ⟨_, z⟩

/-! ### slot-level values and the store of what may still change -/
/-- frozen data; a thing of the store; something new: a list of frozen things, a dict, a list of unfrozen things, a tuple of such -/
inductive D where
  | t (x : T) | cell (n : Nat) | new (xs : List T) | newd (kvs : List (Key × T)) | newo (xs : List D) | tupo (xs : List D) | newk (kvs : List (Key × List T))
inductive Ob where
  | lst (xs : List T) | lsto (xs : List D) | dic (kvs : List (Key × T)) | dico (kvs : List (Key × D)) | tupo (xs : List D) | lck (o : Ob) | tbl (P : Addr) (q : Str) | kd (ks : List PySem.NestedKey) | ins (C : Addr) (fs : List (Str × D))
abbrev Store := List Ob
abbrev Frame := List (Option D)
abbrev D.int (i : Int) : D := .t (.int i)
abbrev D.bl (b : Bool) : D := .t (.bl b)
abbrev D.non : D := .t .non
abbrev D.str (x : Str) : D := .t (.str x)
inductive R (α : Type) where
  | no | ok (a : α) (S : Store) | ex (c : Nat) (x : T) (S : Store)
def R.bnd {α β : Type} : R α → (α → Store → R β) → R β
  | .no, _ => .no
  | .ok a S, f => f a S
  | .ex c x S, _ => .ex c x S
theorem bnd_no {α β : Type} {f : α → Store → R β} : R.bnd .no f = .no := rfl
theorem bnd_ok {α β : Type} {a : α} {S : Store} {f : α → Store → R β} : R.bnd (.ok a S) f = f a S := rfl
theorem bnd_ex {α β : Type} {c : Nat} {x : T} {S : Store} {f : α → Store → R β} : R.bnd (.ex c x S) f = .ex c x S := rfl
theorem bnd_congr {α β : Type} {r r' : R α} {f : α → Store → R β} (h : r = r') : R.bnd r f = R.bnd r' f := h ▸ rfl
inductive Fl where
  | nx | bk | ct | rt (d : D)

/-- a value that may stand in a slot or in the store: frozen, or a thing of the store below N -/
inductive RepC (K : PySem.W.Frag) (N : Nat) (μ : Nat → Addr) (F : Hp) : V → D → Prop
  | t {v : V} {x : T} : Rep K (At F) v x → RepC K N μ F v (.t x)
  | cell {n : Nat} : n < N → RepC K N μ F (.ref (μ n)) (.cell n)
inductive RepCs (K : PySem.W.Frag) (N : Nat) (μ : Nat → Addr) (F : Hp) : List V → List D → Prop
  | nil : RepCs K N μ F [] []
  | cons {v : V} {vs : List V} {d : D} {ds : List D} : RepC K N μ F v d → RepCs K N μ F vs ds → RepCs K N μ F (v :: vs) (d :: ds)
inductive RepCK (K : PySem.W.Frag) (N : Nat) (μ : Nat → Addr) (F : Hp) : List (Key × V) → List (Key × D) → Prop
  | nil : RepCK K N μ F [] []
  | cons {k : Key} {v : V} {vs : List (Key × V)} {d : D} {ds : List (Key × D)} : RepC K N μ F v d → RepCK K N μ F vs ds → RepCK K N μ F ((k, v) :: vs) ((k, d) :: ds)
/-- the attributes of an instance -/
inductive RepCF (K : PySem.W.Frag) (N : Nat) (μ : Nat → Addr) (F : Hp) : List (Str × V) → List (Str × D) → Prop
  | nil : RepCF K N μ F [] []
  | cons {k : Str} {v : V} {vs : List (Str × V)} {d : D} {ds : List (Str × D)} : RepC K N μ F v d → RepCF K N μ F vs ds → RepCF K N μ F ((k, v) :: vs) ((k, d) :: ds)
/-- a dict of new lists -/
inductive RepNK (K : PySem.W.Frag) (F H : Hp) : List (Key × V) → List (Key × List T) → List Addr → Prop
  | nil : RepNK K F H [] [] []
  | cons {k : Key} {a : Addr} {ws : List V} {xs : List T} {vs : List (Key × V)} {kvs : List (Key × List T)} {as : List Addr} : H a = some (.lst ws) → RepL K (At F) ws xs → RepNK K F H vs kvs as → RepNK K F H ((k, .ref a) :: vs) ((k, xs) :: kvs) (a :: as)
mutual
/-- any value; the addresses that it owns -/
inductive RepN (K : PySem.W.Frag) (N : Nat) (μ : Nat → Addr) (F H : Hp) : V → D → List Addr → Prop
  | c {v : V} {d : D} : RepC K N μ F v d → RepN K N μ F H v d []
  | new {a : Addr} {vs : List V} {xs : List T} : H a = some (.lst vs) → RepL K (At F) vs xs → RepN K N μ F H (.ref a) (.new xs) [a]
  | newd {a : Addr} {vs : List (Key × V)} {xs : List (Key × T)} : H a = some (.dK vs) → RepK K (At F) vs xs → RepN K N μ F H (.ref a) (.newd xs) [a]
  | newo {a : Addr} {vs : List V} {ds : List D} {as : List Addr} : H a = some (.lst vs) → RepNs K N μ F H vs ds as → RepN K N μ F H (.ref a) (.newo ds) (a :: as)
  | tupo {a : Addr} {vs : List V} {ds : List D} {as : List Addr} : H a = some (.tup vs) → RepNs K N μ F H vs ds as → RepN K N μ F H (.ref a) (.tupo ds) (a :: as)
  | newk {a : Addr} {vs : List (Key × V)} {kvs : List (Key × List T)} {as : List Addr} : H a = some (.dK vs) → RepNK K F H vs kvs as → RepN K N μ F H (.ref a) (.newk kvs) (a :: as)
inductive RepNs (K : PySem.W.Frag) (N : Nat) (μ : Nat → Addr) (F H : Hp) : List V → List D → List Addr → Prop
  | nil : RepNs K N μ F H [] [] []
  | cons {v : V} {vs : List V} {d : D} {ds : List D} {as bs : List Addr} : RepN K N μ F H v d as → RepNs K N μ F H vs ds bs → RepNs K N μ F H (v :: vs) (d :: ds) (as ++ bs)
end
theorem at_mono {F F' : Hp} (f : Same F F') : ∀ a o, At F a o → At F' a o := f
section
variable {K : PySem.W.Frag} {N N' : Nat} {μ μ' : Nat → Addr} {F F' H H' : Hp}
theorem RepC.mono (hN : N ≤ N') (hm : ∀ n, n < N → μ' n = μ n) (f : Same F F') {v : V} {d : D} (h : RepC K N μ F v d) : RepC K N' μ' F' v d := by
  cases h with
  | t r => exact .t (r.mono (at_mono f))
  | cell hn =>
    rw [← hm _ hn]
    exact .cell (Nat.lt_of_lt_of_le hn hN)
theorem RepCs.mono (hN : N ≤ N') (hm : ∀ n, n < N → μ' n = μ n) (f : Same F F') : ∀ {ds : List D} {vs : List V}, RepCs K N μ F vs ds → RepCs K N' μ' F' vs ds
  | _, _, .nil => .nil
  | _, _, .cons h t => .cons (h.mono hN hm f) (RepCs.mono hN hm f t)
theorem RepCK.mono (hN : N ≤ N') (hm : ∀ n, n < N → μ' n = μ n) (f : Same F F') : ∀ {ds : List (Key × D)} {vs : List (Key × V)}, RepCK K N μ F vs ds → RepCK K N' μ' F' vs ds
  | _, _, .nil => .nil
  | _, _, .cons h t => .cons (h.mono hN hm f) (RepCK.mono hN hm f t)
theorem RepCF.mono (hN : N ≤ N') (hm : ∀ n, n < N → μ' n = μ n) (f : Same F F') : ∀ {ds : List (Str × D)} {vs : List (Str × V)}, RepCF K N μ F vs ds → RepCF K N' μ' F' vs ds
  | _, _, .nil => .nil
  | _, _, .cons h t => .cons (h.mono hN hm f) (RepCF.mono hN hm f t)
theorem RepNK.mono (f : Same F F') : ∀ {vs : List (Key × V)} {ds : List (Key × List T)} {as : List Addr}, RepNK K F H vs ds as → (∀ b o, b ∈ as → H b = some o → H' b = some o) → RepNK K F' H' vs ds as
  | _, _, _, .nil, _ => .nil
  | _, _, _, .cons h1 h2 h3, k => .cons (k _ _ List.mem_cons_self h1) (h2.mono (at_mono f)) (RepNK.mono f h3 fun b o hb => k b o (List.mem_cons_of_mem _ hb))
theorem RepNK.there : ∀ {vs : List (Key × V)} {ds : List (Key × List T)} {as : List Addr}, RepNK K F H vs ds as → ∀ a ∈ as, ∃ o, H a = some o
  | _, _, _, .nil, a, ha => by cases ha
  | _, _, _, .cons h1 _ h3, a, ha => by
    rcases List.mem_cons.mp ha with rfl | ha
    · exact ⟨_, h1⟩
    · exact RepNK.there h3 a ha
mutual
theorem RepN.mono (hN : N ≤ N') (hm : ∀ n, n < N → μ' n = μ n) (f : Same F F') : ∀ {v : V} {d : D} {as : List Addr}, RepN K N μ F H v d as → (∀ b o, b ∈ as → H b = some o → H' b = some o) → RepN K N' μ' F' H' v d as
  | _, _, _, .c h, _ => .c (h.mono hN hm f)
  | _, _, _, .new h1 h2, k => .new (k _ _ (List.mem_singleton.mpr rfl) h1) (h2.mono (at_mono f))
  | _, _, _, .newd h1 h2, k => .newd (k _ _ (List.mem_singleton.mpr rfl) h1) (h2.mono (at_mono f))
  | _, _, _, .newo h1 h2, k => .newo (k _ _ List.mem_cons_self h1) (RepNs.mono hN hm f h2 fun b o hb => k b o (List.mem_cons_of_mem _ hb))
  | _, _, _, .tupo h1 h2, k => .tupo (k _ _ List.mem_cons_self h1) (RepNs.mono hN hm f h2 fun b o hb => k b o (List.mem_cons_of_mem _ hb))
  | _, _, _, .newk h1 h2, k => .newk (k _ _ List.mem_cons_self h1) (h2.mono f fun b o hb => k b o (List.mem_cons_of_mem _ hb))
theorem RepNs.mono (hN : N ≤ N') (hm : ∀ n, n < N → μ' n = μ n) (f : Same F F') : ∀ {vs : List V} {ds : List D} {as : List Addr}, RepNs K N μ F H vs ds as → (∀ b o, b ∈ as → H b = some o → H' b = some o) → RepNs K N' μ' F' H' vs ds as
  | _, _, _, .nil, _ => .nil
  | _, _, _, .cons h1 h2, k => .cons (RepN.mono hN hm f h1 fun b o hb => k b o (List.mem_append_left _ hb)) (RepNs.mono hN hm f h2 fun b o hb => k b o (List.mem_append_right _ hb))
end
mutual
theorem RepN.there : ∀ {v : V} {d : D} {as : List Addr}, RepN K N μ F H v d as → ∀ a ∈ as, ∃ o, H a = some o
  | _, _, _, .c _, a, ha => by cases ha
  | _, _, _, .new h1 _, a, ha => (List.mem_singleton.mp ha) ▸ ⟨_, h1⟩
  | _, _, _, .newd h1 _, a, ha => (List.mem_singleton.mp ha) ▸ ⟨_, h1⟩
  | _, _, _, .newo h1 h2, a, ha => by
    rcases List.mem_cons.mp ha with rfl | ha
    · exact ⟨_, h1⟩
    · exact RepNs.there h2 a ha
  | _, _, _, .tupo h1 h2, a, ha => by
    rcases List.mem_cons.mp ha with rfl | ha
    · exact ⟨_, h1⟩
    · exact RepNs.there h2 a ha
  | _, _, _, .newk h1 h2, a, ha => by
    rcases List.mem_cons.mp ha with rfl | ha
    · exact ⟨_, h1⟩
    · exact h2.there a ha
theorem RepNs.there : ∀ {vs : List V} {ds : List D} {as : List Addr}, RepNs K N μ F H vs ds as → ∀ a ∈ as, ∃ o, H a = some o
  | _, _, _, .nil, a, ha => by cases ha
  | _, _, _, .cons h1 h2, a, ha => by
    rcases List.mem_append.mp ha with ha | ha
    · exact RepN.there h1 a ha
    · exact RepNs.there h2 a ha
end
theorem RepNs.length : ∀ {vs : List V} {ds : List D} {as : List Addr}, RepNs K N μ F H vs ds as → vs.length = ds.length
  | _, _, _, .nil => rfl
  | _, _, _, .cons _ h => congrArg Nat.succ (RepNs.length h)
theorem RepCs.length : ∀ {vs : List V} {ds : List D}, RepCs K N μ F vs ds → vs.length = ds.length
  | _, _, .nil => rfl
  | _, _, .cons _ h => congrArg Nat.succ (RepCs.length h)
theorem RepCs.get' : ∀ {xs : List V} {ds : List D} {i : Nat} {d : D}, RepCs K N μ F xs ds → ds[i]? = some d → ∃ v, xs[i]? = some v ∧ RepC K N μ F v d
  | _, _, _, _, .nil, e => by simp at e
  | _, _, 0, _, .cons h _, e => by
    have e' := Option.some.inj e
    subst e'
    exact ⟨_, rfl, h⟩
  | _, _, i + 1, _, .cons _ h, e => RepCs.get' (i := i) h e
theorem RepCs.append : ∀ {xs ys : List V} {ds es : List D}, RepCs K N μ F xs ds → RepCs K N μ F ys es → RepCs K N μ F (xs ++ ys) (ds ++ es)
  | _, _, _, _, .nil, k => k
  | _, _, _, _, .cons h t, k => .cons h (RepCs.append t k)
theorem RepNs.snoc : ∀ {vs : List V} {ds : List D} {as bs : List Addr} {v : V} {d : D}, RepNs K N μ F H vs ds as → RepN K N μ F H v d bs → RepNs K N μ F H (vs ++ [v]) (ds ++ [d]) (as ++ bs)
  | _, _, _, bs, _, _, .nil, k => by
    have h := RepNs.cons k .nil
    rw [List.append_nil] at h
    exact h
  | _, _, _, bs, _, _, .cons h t, k => by
    have h2 := RepNs.cons h (RepNs.snoc t k)
    rw [List.append_assoc]
    exact h2
end
end Mi

set_option Elab.async false
set_option linter.all false
set_option maxRecDepth 100000
set_option maxHeartbeats 4000000
/-! N2: what trees are worth: repr, ==, in, the greatest, sorted -/
namespace Mi
open PySem L2
/-! ### data as the library has it -/
mutual
def T.py : T → PyData
  | .non => .none
  | .bl b => .bool b
  | .int i => .int i
  | .str x => .str x
  | .lst xs => .list (T.pys xs)
  | .tup xs => .tuple (T.pys xs)
  | .dic _ => .none
  | .fn _ _ => .none
  | .set _ => .none
  | .scr _ => .none
  | .exn _ _ => .none
  | .exc _ _ _ _ => .none
  | .dix _ => .none
def T.pys : List T → List PyData
  | [] => []
  | d :: ds => d.py :: T.pys ds
end
-- scalars, lists, tuples of such; dints of less than 1920 bits
mutual
def T.ok : T → Bool
  | .non => true
  | .bl _ => true
  | .int i => decide (i.natAbs.log2 < 1920)
  | .str x => decide ((reprText x).length ≤ 10000) && PyData.strOk x
  | .lst xs => T.oks xs
  | .tup xs => T.oks xs
  | .dic _ => false
  | .fn _ _ => false
  | .set _ => false
  | .scr _ => false
  | .exn _ _ => false
  | .exc _ _ _ _ => false
  | .dix _ => false
def T.oks : List T → Bool
  | [] => true
  | d :: ds => d.ok && T.oks ds
end
mutual
def T.wt : T → Nat
  | .non => 4
  | .bl _ => 5
  | .int _ => 1921
  | .str _ => 10000
  | .lst xs => 2 + T.wts xs
  | .tup xs => 3 + T.wts xs
  | .dic _ => 0
  | .fn _ _ => 0
  | .set _ => 0
  | .scr _ => 0
  | .exn _ _ => 0
  | .exc _ _ _ _ => 0
  | .dix _ => 0
def T.wts : List T → Nat
  | [] => 0
  | d :: ds => d.wt + 2 + T.wts ds
end
mutual
def T.dp : T → Nat
  | .lst xs => T.dps xs + 1
  | .tup xs => T.dps xs + 1
  | _ => 0
def T.dps : List T → Nat
  | [] => 0
  | d :: ds => max d.dp (T.dps ds)
end
mutual
theorem ok_dp {K : PySem.W.Frag} {H : Hp} : ∀ {d : T} {v : V}, d.ok = true → Rep K (Now H) v d → Dp K H v d.py
  | .non, _, _, h => by cases h; unfold T.py; exact .non
  | .bl _, _, _, h => by cases h; unfold T.py; exact .bl _
  | .int _, _, _, h => by cases h; unfold T.py; exact .int _
  | .str _, _, _, h => by cases h; unfold T.py; exact .str _
  | .lst ds, _, o, h => by
    unfold T.ok at o
    cases h with
    | lst h1 h2 =>
      unfold T.py
      exact .lst (sqL_rd h1) (oks_dp o h2)
  | .tup ds, _, o, h => by
    unfold T.ok at o
    cases h with
    | tup h1 h2 =>
      unfold T.py
      exact .tup (sqT_rd h1) (oks_dp o h2)
  | .dic _, _, o, _ => by unfold T.ok at o; cases o
  | .fn _ _, _, o, _ => by unfold T.ok at o; cases o
  | .set _, _, o, _ => by unfold T.ok at o; cases o
  | .scr _, _, o, _ => by unfold T.ok at o; cases o
  | .exn _ _, _, o, _ => by unfold T.ok at o; cases o
  | .exc _ _ _ _, _, o, _ => by unfold T.ok at o; cases o
  | .dix _, _, o, _ => by unfold T.ok at o; cases o
theorem oks_dp {K : PySem.W.Frag} {H : Hp} : ∀ {ds : List T} {vs : List V}, T.oks ds = true → RepL K (Now H) vs ds → DpAll K H vs (T.pys ds)
  | [], _, _, h => by cases h; unfold T.pys; exact .nil
  | d :: ds, _, o, h => by
    unfold T.oks at o
    rw [Bool.and_eq_true] at o
    cases h with
    | cons h1 h2 =>
      unfold T.pys
      exact .cons (ok_dp o.1 h1) (oks_dp o.2 h2)
end
mutual
theorem ok_show : ∀ {d : T}, d.ok = true → d.py.showable = true ∧ d.py.hasDict = false ∧ d.py.canLay0 = true ∧ d.py.depth = d.dp ∧ d.py.shown.length ≤ d.wt
  | .non, _ => by
    unfold T.py T.dp T.wt
    exact ⟨by simp [PyData.showable], by simp [PyData.hasDict], by simp [PyData.canLay0], by simp [PyData.depth], by simp only [PyData.shown]; decide⟩
  | .bl b, _ => by
    unfold T.py T.dp T.wt
    refine ⟨by simp [PyData.showable], by simp [PyData.hasDict], by simp [PyData.canLay0], by simp [PyData.depth], ?_⟩
    simp only [PyData.shown]
    cases b <;> decide
  | .int i, o => by
    unfold T.ok at o
    have h := of_decide_eq_true o
    unfold T.py T.dp T.wt
    refine ⟨by simp [PyData.showable, h], by simp [PyData.hasDict], by simp [PyData.canLay0], by simp [PyData.depth], ?_⟩
    simp only [PyData.shown]
    exact PyProof.Rows.int_text_len_1921 h
  | .str x, o => by
    unfold T.ok at o
    rw [Bool.and_eq_true] at o
    have h := of_decide_eq_true o.1
    unfold T.py T.dp T.wt
    refine ⟨by simp [PyData.showable], by simp [PyData.hasDict], by simp [PyData.canLay0, o.2], by simp [PyData.depth], ?_⟩
    simp only [PyData.shown]
    exact h
  | .lst ds, o => by
    unfold T.ok at o
    obtain ⟨h1, h2, h3, h4, h5⟩ := oks_show o
    unfold T.py T.dp T.wt
    refine ⟨by simp only [PyData.showable]; exact h1, by simp only [PyData.hasDict]; exact h2, by simp only [PyData.canLay0]; exact h3, by simp only [PyData.depth, h4], ?_⟩
    simp only [PyData.shown]
    rw [show (listText (PyData.shownAll (T.pys ds))).length = (textFrom 0 "[" (PyData.shownAll (T.pys ds))).length + 1 by
      unfold listText
      rw [strLen_append]
      rfl]
    have := from_len (PyData.shownAll (T.pys ds)) 0 "["
    rw [show ((("[" : String) : Str)).length = 1 by decide] at this
    omega
  | .tup ds, o => by
    unfold T.ok at o
    obtain ⟨h1, h2, h3, h4, h5⟩ := oks_show o
    unfold T.py T.dp T.wt
    refine ⟨by simp only [PyData.showable]; exact h1, by simp only [PyData.hasDict]; exact h2, by simp only [PyData.canLay0]; exact h3, by simp only [PyData.depth, h4], ?_⟩
    simp only [PyData.shown]
    unfold tupleText
    rw [strLen_append, strLen_append]
    have j : (Str.join ", " (PyData.shownAll (T.pys ds))).length ≤ piled (PyData.shownAll (T.pys ds)) := by
      by_cases e : PyData.shownAll (T.pys ds) = []
      · rw [e]
        decide
      · have := join_length_add _ e
        omega
    have e1 : ((("(" : String) : Str)).length = 1 := by decide
    have e2 : (((if (PyData.shownAll (T.pys ds)).length == 1 then ",)" else ")" : String) : Str)).length ≤ 2 := by
      split <;> decide
    omega
  | .dic _, o => by unfold T.ok at o; cases o
  | .fn _ _, o => by unfold T.ok at o; cases o
  | .set _, o => by unfold T.ok at o; cases o
  | .scr _, o => by unfold T.ok at o; cases o
  | .exn _ _, o => by unfold T.ok at o; cases o
  | .exc _ _ _ _, o => by unfold T.ok at o; cases o
  | .dix _, o => by unfold T.ok at o; cases o
theorem oks_show : ∀ {ds : List T}, T.oks ds = true → PyData.showableAll (T.pys ds) = true ∧ PyData.hasDictAll (T.pys ds) = false ∧ PyData.canLayAll0 (T.pys ds) = true ∧ PyData.depthAll (T.pys ds) = T.dps ds ∧ piled (PyData.shownAll (T.pys ds)) ≤ T.wts ds
  | [], _ => by
    unfold T.pys T.dps T.wts
    exact ⟨by simp [PyData.showableAll], by simp [PyData.hasDictAll], by simp [PyData.canLayAll0], by simp [PyData.depthAll], by simp [PyData.shownAll, piled]⟩
  | d :: ds, o => by
    unfold T.oks at o
    rw [Bool.and_eq_true] at o
    obtain ⟨h1, h2, h3, h4, h5⟩ := ok_show o.1
    obtain ⟨k1, k2, k3, k4, k5⟩ := oks_show o.2
    unfold T.pys T.dps T.wts
    refine ⟨by simp only [PyData.showableAll, h1, k1, Bool.and_self], by simp only [PyData.hasDictAll, h2, k2, Bool.or_self], by simp only [PyData.canLayAll0, h3, k3, Bool.and_self], by simp only [PyData.depthAll, h4, k4], ?_⟩
    simp only [PyData.shownAll]
    rw [piled_cons]
    omega
theorem from_len : ∀ (ts : List Str) (k : Nat) (acc : Str), (textFrom k acc ts).length ≤ acc.length + piled ts
  | [], k, acc => by
    unfold textFrom
    omega
  | t :: r, k, acc => by
    unfold textFrom
    have h := from_len r (k + 1) (acc ++ (if k > 0 then ", " else "" : String) ++ t)
    rw [strLen_append, strLen_append] at h
    have e : (((if k > 0 then ", " else "" : String) : Str)).length ≤ 2 := by
      split <;> decide
    rw [piled_cons]
    omega
end
def T.show (d : T) : Str := d.py.shown
def T.eqv (d f : T) : Bool := PyData.eqv d.py f.py
/-! ### bounds for lists of dints and the like -/
theorem oks_all {ds : List T} : T.oks ds = ds.all T.ok := by
  induction ds with
  | nil => unfold T.oks; rfl
  | cons d ds ih =>
    unfold T.oks
    rw [ih, List.all_cons]
theorem wts_le {ds : List T} {n : Nat} (h : ∀ d ∈ ds, d.wt ≤ n) : T.wts ds ≤ ds.length * (n + 2) := by
  induction ds with
  | nil =>
    unfold T.wts
    omega
  | cons d ds ih =>
    have h1 := h d List.mem_cons_self
    have h2 := ih fun x hx => h x (List.mem_cons_of_mem _ hx)
    unfold T.wts
    rw [List.length_cons, Nat.succ_mul]
    omega
theorem dps_le {ds : List T} {n : Nat} (h : ∀ d ∈ ds, d.dp ≤ n) : T.dps ds ≤ n := by
  induction ds with
  | nil =>
    unfold T.dps
    omega
  | cons d ds ih =>
    have h1 := h d List.mem_cons_self
    have h2 := ih fun x hx => h x (List.mem_cons_of_mem _ hx)
    unfold T.dps
    omega
/-- a list of dints -/
abbrev dints (ns : List Int) : T := .lst (ns.map T.int)
theorem small_log {i : Int} (h : i.natAbs < 2 ^ 1900) : i.natAbs.log2 < 1920 := by
  by_cases e : i.natAbs = 0
  · rw [e]
    decide
  · have := (Nat.log2_lt e).mpr h
    omega
theorem ok_int {i : Int} (h : i.natAbs < 2 ^ 1900) : (T.int i).ok = true := by
  unfold T.ok
  exact decide_eq_true (small_log h)
theorem ok_ints {ns : List Int} (h : ∀ n ∈ ns, n.natAbs < 2 ^ 1900) : (dints ns).ok = true := by
  unfold T.ok
  rw [oks_all, List.all_map]
  exact List.all_eq_true.mpr fun n hn => ok_int (h n hn)
theorem wt_ints {ns : List Int} : (dints ns).wt ≤ 2 + ns.length * 1923 := by
  unfold T.wt
  have h := wts_le (ds := ns.map T.int) (n := 1921) fun d hd => by
    obtain ⟨i, _, rfl⟩ := List.mem_map.mp hd
    unfold T.wt
    omega
  rw [List.length_map] at h
  omega
theorem dp_ints {ns : List Int} : (dints ns).dp ≤ 1 := by
  unfold T.dp
  have h := dps_le (ds := ns.map T.int) (n := 0) fun d hd => by
    obtain ⟨i, _, rfl⟩ := List.mem_map.mp hd
    unfold T.dp
    omega
  omega
/-- == of lists of dints -/
theorem eqv_ints : ∀ {ns ms : List Int}, PyData.eqvAll (T.pys (ns.map T.int)) (T.pys (ms.map T.int)) = decide (ns = ms)
  | [], [] => by
    unfold List.map T.pys
    simp [PyData.eqvAll]
  | [], _ :: _ => by
    unfold List.map T.pys
    simp [PyData.eqvAll]
  | _ :: _, [] => by
    unfold List.map T.pys
    simp [PyData.eqvAll]
  | n :: ns, m :: ms => by
    rw [List.map_cons, List.map_cons]
    unfold T.pys
    unfold PyData.eqvAll
    rw [eqv_ints]
    unfold T.py
    unfold PyData.eqv
    by_cases h : n = m
    · subst h
      simp
    · simp [h]
theorem eqv_i {ns ms : List Int} : (dints ns).eqv (dints ms) = decide (ns = ms) := by
  unfold T.eqv T.py
  unfold PyData.eqv
  exact eqv_ints

/-- x in xs: scalars -/
def T.flat : T → Bool
  | .non => true
  | .bl _ => true
  | .int _ => true
  | .str _ => true
  | _ => false
/-- == of scalars -/
def T.eqF : T → T → Bool
  | .non, .non => true
  | .bl a, .bl b => a == b
  | .bl a, .int b => (if a then 1 else 0) == b
  | .int a, .bl b => a == (if b then 1 else 0)
  | .int a, .int b => a == b
  | .str a, .str b => a == b
  | _, _ => false
theorem flat_rep {K : PySem.W.Frag} {H : Lk} {v : V} {d : T} (h : Rep K H v d) (f : d.flat = true) : flatV v = true := by
  cases h <;> first | rfl | cases f
theorem eqF_rep {K : PySem.W.Frag} {H : Lk} {v w : V} {d f : T} (h : Rep K H v d) (k : Rep K H w f) (fd : d.flat = true) (ff : f.flat = true) : eqV v w = d.eqF f := by
  cases h <;> first | (cases fd; done) | (cases k <;> first | (cases ff; done) | rfl)
theorem inV_rep {K : PySem.W.Frag} {H : Lk} {w : V} {f : T} (k : Rep K H w f) (ff : f.flat = true) : ∀ {ds : List T} {vs : List V}, RepL K H vs ds → ds.all T.flat = true → inV w vs = ds.any (fun d => d.eqF f) ∧ vs.all flatV = true
  | [], _, h, _ => by
    cases h
    exact ⟨rfl, rfl⟩
  | d :: ds, _, h, fl => by
    cases h with
    | cons h1 h2 =>
      rw [List.all_cons, Bool.and_eq_true] at fl
      obtain ⟨q1, q2⟩ := inV_rep k ff h2 fl.2
      unfold inV at q1 ⊢
      rw [List.any_cons, List.any_cons, q1, eqF_rep h1 k fl.1 ff, List.all_cons, q2, flat_rep h1 fl.1]
      exact ⟨rfl, rfl⟩
theorem any_int {ns : List Int} {i : Int} : (ns.map T.int).any (fun d => d.eqF (.int i)) = ns.contains i := by
  induction ns with
  | nil => rfl
  | cons n ns ih =>
    rw [List.map_cons, List.any_cons, ih, List.contains_cons]
    show ((n == i) || _) = ((i == n) || _)
    rw [show (n == i) = (i == n) by rw [Bool.eq_iff_iff]; simp only [beq_iff_eq]; exact ⟨Eq.symm, Eq.symm⟩]
theorem flat_ints {ns : List Int} : (ns.map T.int).all T.flat = true := by
  rw [List.all_map]
  exact List.all_eq_true.mpr fun _ _ => rfl
/-- the greatest, 0 of none -/
def maxI : List Int → Int
  | [] => 0
  | [x] => x
  | x :: y :: r => max x (maxI (y :: r))
theorem maxI_mem : ∀ {ns : List Int}, ns ≠ [] → maxI ns ∈ ns ∧ ∀ y ∈ ns, y ≤ maxI ns
  | [], h => absurd rfl h
  | [x], _ => ⟨List.mem_cons_self, fun y hy => by
    rw [List.mem_singleton.mp hy]
    exact Int.le_refl _⟩
  | x :: y :: r, _ => by
    obtain ⟨h1, h2⟩ := maxI_mem (ns := y :: r) (by intro z; cases z)
    refine ⟨?_, fun w hw => ?_⟩
    · show max x (maxI (y :: r)) ∈ x :: y :: r
      rw [Int.max_def]
      split
      · exact List.mem_cons_of_mem _ h1
      · exact List.mem_cons_self
    · show w ≤ max x (maxI (y :: r))
      rcases List.mem_cons.mp hw with rfl | hw
      · exact Int.le_max_left ..
      · exact Int.le_trans (h2 w hw) (Int.le_max_right ..)
theorem maxI_uniq {ns : List Int} (hn : ns ≠ []) {m : Int} (h1 : m ∈ ns) (h2 : ∀ y ∈ ns, y ≤ m) : m = maxI ns := by
  obtain ⟨k1, k2⟩ := maxI_mem hn
  exact Int.le_antisymm (k2 m h1) (h2 _ k1)
/-- ascending -/
def insI (x : Int) : List Int → List Int
  | [] => [x]
  | y :: r => if x ≤ y then x :: y :: r else y :: insI x r
def sortI : List Int → List Int
  | [] => []
  | x :: r => insI x (sortI r)
theorem insI_perm (x : Int) : ∀ l : List Int, (insI x l).Perm (x :: l)
  | [] => .refl _
  | y :: r => by
    unfold insI
    split
    · exact .refl _
    · exact ((insI_perm x r).cons y).trans (.swap ..)
theorem sortI_perm : ∀ l : List Int, (sortI l).Perm l
  | [] => .refl _
  | x :: r => (insI_perm x _).trans ((sortI_perm r).cons x)
theorem insI_sorted (x : Int) : ∀ {l : List Int}, l.Pairwise (· ≤ ·) → (insI x l).Pairwise (· ≤ ·)
  | [], _ => List.pairwise_singleton ..
  | y :: r, h => by
    unfold insI
    rw [List.pairwise_cons] at h
    split
    · rename_i hx
      refine List.pairwise_cons.mpr ⟨fun z hz => ?_, List.pairwise_cons.mpr h⟩
      rcases List.mem_cons.mp hz with rfl | hz
      · exact hx
      · exact Int.le_trans hx (h.1 z hz)
    · rename_i hx
      refine List.pairwise_cons.mpr ⟨fun z hz => ?_, insI_sorted x h.2⟩
      rcases List.mem_cons.mp ((insI_perm x r).subset hz) with rfl | hz
      · omega
      · exact h.1 z hz
theorem sortI_sorted : ∀ l : List Int, (sortI l).Pairwise (· ≤ ·)
  | [] => List.Pairwise.nil
  | x :: r => insI_sorted x (sortI_sorted r)
theorem sort_uniq {l k : List Int} (p : l.Perm k) (h1 : l.Pairwise (· ≤ ·)) (h2 : k.Pairwise (· ≤ ·)) : l = k :=
  p.eq_of_pairwise (fun a b _ _ h3 h4 => Int.le_antisymm h3 h4) h1 h2

def T.tyS : T → Option String
  | .non => some "NoneType"
  | .bl _ => some "bool"
  | .int _ => some "int"
  | .str _ => some "str"
  | .lst _ => some "list"
  | .tup _ => some "tuple"
  | .dic _ => some "dict"
  | _ => none
def T.isNon : T → Bool
  | .non => true
  | _ => false
def b2n (b : Bool) : Int := if b = true then 1 else 0
end Mi

set_option Elab.async false
set_option linter.all false
set_option maxRecDepth 100000
set_option maxHeartbeats 4000000
/-! N3: the small language: what each construct does to slots and store -/
namespace Mi
open PySem L2

/-! ### the store -/
def Ob.un : Ob → Ob
  | .lck o => o
  | o => o
def rd (S : Store) (n : Nat) : Option Ob := (S[n]?).map Ob.un
/-- a list of frozen things -/
def sq (S : Store) : D → Option (List T)
  | .t (.lst xs) => some xs
  | .new xs => some xs
  | .cell n => match rd S n with
    | some (.lst xs) => some xs
    | _ => none
  | _ => none
/-- a list or tuple of anything -/
def sqd (S : Store) : D → Option (List D)
  | .newo ds => some ds
  | .cell n => match rd S n with
    | some (.lst xs) => some (xs.map D.t)
    | some (.lsto ds) => some ds
    | some (.tupo ds) => some ds
    | _ => none
  | .t (.tup xs) => some (xs.map D.t)
  | .tupo ds => some ds
  | d => (sq S d).map fun xs => xs.map D.t
/-- a dict of frozen things -/
def dct (S : Store) : D → Option (List (Key × T))
  | .t (.dic kvs) => some kvs
  | .newd kvs => some kvs
  | .cell n => match rd S n with
    | some (.dic kvs) => some kvs
    | _ => none
  | _ => none
def allT : List D → Option (List T)
  | [] => some []
  | .t x :: ds => (allT ds).map (x :: ·)
  | _ :: _ => none
def mapO {α β : Type} (f : α → Option β) : List α → Option (List β)
  | [] => some []
  | x :: xs => match f x with
    | some y => (mapO f xs).map (y :: ·)
    | none => none
def froK (kvs : List (Key × List T)) : List (Key × T) := kvs.map fun p => (p.1, .lst p.2)
/-- frozen -/
def fz : Nat → D → Option T
  | _, .t x => some x
  | _, .new xs => some (.lst xs)
  | _, .newd kvs => some (.dic kvs)
  | _, .newk kvs => some (.dic (froK kvs))
  | f + 1, .newo ds => (mapO (fz f) ds).map T.lst
  | f + 1, .tupo ds => (mapO (fz f) ds).map T.tup
  | _, _ => none
/-- as it stands now -/
def tr : Nat → Store → D → Option T
  | _, _, .t x => some x
  | _, _, .new xs => some (.lst xs)
  | _, _, .newd kvs => some (.dic kvs)
  | _, _, .newk kvs => some (.dic (froK kvs))
  | f + 1, S, .newo ds => (mapO (tr f S) ds).map T.lst
  | f + 1, S, .tupo ds => (mapO (tr f S) ds).map T.tup
  | f + 1, S, .cell n => match rd S n with
    | some (.lst xs) => some (.lst xs)
    | some (.dic kvs) => some (.dic kvs)
    | some (.lsto ds) => (mapO (tr f S) ds).map T.lst
    | some (.tupo ds) => (mapO (tr f S) ds).map T.tup
    | _ => none
  | _, _, _ => none
/-- laid into the store -/
def mapS {α β : Type} (f : α → Store → Option (β × Store)) : List α → Store → Option (List β × Store)
  | [], S => some ([], S)
  | x :: xs, S => match f x S with
    | some (y, S1) => match mapS f xs S1 with
      | some (ys, S2) => some (y :: ys, S2)
      | none => none
    | none => none
def cellsK : Nat → List (Key × List T) → List (Key × D)
  | _, [] => []
  | b, (k, _) :: r => (k, .cell b) :: cellsK (b + 1) r
def lstsK (kvs : List (Key × List T)) : Store := kvs.map fun p => .lst p.2
def thaw : Nat → D → Store → Option (D × Store)
  | _, .t x, S => some (.t x, S)
  | _, .cell n, S => some (.cell n, S)
  | _, .new xs, S => some (.cell S.length, S ++ [.lst xs])
  | _, .newd kvs, S => some (.cell S.length, S ++ [.dic kvs])
  | _, .newk kvs, S => some (.cell (S ++ lstsK kvs).length, S ++ lstsK kvs ++ [.dico (cellsK S.length kvs)])
  | f + 1, .newo ds, S => match mapS (thaw f) ds S with
    | some (es, S1) => some (.cell S1.length, S1 ++ [.lsto es])
    | none => none
  | f + 1, .tupo ds, S => match mapS (thaw f) ds S with
    | some (es, S1) => some (.cell S1.length, S1 ++ [.tupo es])
    | none => none
  | _, _, _ => none
/-- what a def hands back: things of its own (from L on) are new -/
def mapM2 {α β γ : Type} (f : γ → α → Option (β × γ)) : γ → List α → Option (List β × γ)
  | s, [] => some ([], s)
  | s, x :: xs => match f s x with
    | some (y, s1) => match mapM2 f s1 xs with
      | some (ys, s2) => some (y :: ys, s2)
      | none => none
    | none => none
def mv : Nat → Store → Nat → List Nat → D → Option (D × List Nat)
  | _, _, _, sn, .t x => some (.t x, sn)
  | _, _, _, sn, .new xs => some (.new xs, sn)
  | _, _, _, sn, .newd kvs => some (.newd kvs, sn)
  | _, _, _, sn, .newk kvs => some (.newk kvs, sn)
  | f + 1, S, L, sn, .newo ds => (mapM2 (mv f S L) sn ds).map fun p => (.newo p.1, p.2)
  | f + 1, S, L, sn, .tupo ds => (mapM2 (mv f S L) sn ds).map fun p => (.tupo p.1, p.2)
  | f + 1, S, L, sn, .cell n => if n < L then some (.cell n, sn) else if sn.contains n then none else match S[n]? with
    | some (.lst xs) => some (.new xs, n :: sn)
    | some (.dic kvs) => some (.newd kvs, n :: sn)
    | some (.lsto ds) => (mapM2 (mv f S L) (n :: sn) ds).map fun p => (.newo p.1, p.2)
    | some (.tupo ds) => (mapM2 (mv f S L) (n :: sn) ds).map fun p => (.tupo p.1, p.2)
    | _ => none
  | _, _, _, _, _ => none

/-! ### values -/
def asI : List T → Option (List Int)
  | [] => some []
  | .int i :: xs => (asI xs).map (i :: ·)
  | _ :: _ => none
theorem asI_map : ∀ ns : List Int, asI (ns.map T.int) = some ns
  | [] => rfl
  | n :: ns => by
    show (asI (ns.map T.int)).map (n :: ·) = some (n :: ns)
    rw [asI_map ns]
    rfl
theorem asI_eq : ∀ {xs : List T} {ns : List Int}, asI xs = some ns → xs = ns.map T.int
  | [], ns, h => by cases h; rfl
  | x :: xs, ns, h => by
    cases x with
    | int i =>
      unfold asI at h
      cases e : asI xs with
      | none =>
        rw [e] at h
        cases h
      | some ms =>
        rw [e] at h
        cases h
        rw [asI_eq e]
        rfl
    | _ => cases h
def cut {α : Type} (xs : List α) (lo hi : Option Int) : List α := (xs.drop (HT.sIx xs.length 0 lo)).take (HT.sIx xs.length xs.length hi - HT.sIx xs.length 0 lo)
inductive BO where
  | add | sub | mul | mod | fdiv | pow | shl
inductive CO where
  | eq | ne | lt | le | gt | ge | in_ | nin | is_ | isn
def okL : Nat := 16000000
def addD (x y : D) (S : Store) : R D :=
  match x, y with
  | .t (.int i), .t (.int j) => .ok (.t (.int (i + j))) S
  | .t (.str a), .t (.str b) => if a.length + b.length ≤ okL then .ok (.t (.str (a ++ b))) S else .no
  | x, y => match sq S x with
    | some a => match sq S y with
      | some b => if a.length + b.length ≤ okL then .ok (.new (a ++ b)) S else .no
      | none => .no
    | none => .no
def mulOk (i j : Int) : Prop := CMul i j ∨ CMulW i j
instance (i j : Int) : Decidable (mulOk i j) := by unfold mulOk CMul CMulW; exact inferInstance
/-- a new list whose items may be new: its items frozen -/
def fzL (S : Store) : D → Option (List T)
  | .newo ds => mapO (fz 6) ds
  | d => sq S d
def repOk (n : Nat) (k : Int) : Prop := -(2 ^ 63) ≤ k ∧ k < 2 ^ 63 ∧ n * k.toNat ≤ okL
instance (n : Nat) (k : Int) : Decidable (repOk n k) := by unfold repOk; exact inferInstance
def mulD (x y : D) (S : Store) : R D :=
  match x, y with
  | .t (.int i), .t (.int j) => if mulOk i j then .ok (.t (.int (i * j))) S else .no
  | x, .t (.int k) => match fzL S x with
    | some a => if repOk a.length k then .ok (.new (List.replicate k.toNat a).flatten) S else .no
    | none => .no
  | _, _ => .no
def divOk (i j : Int) : Prop := (0 < j ∧ j < 1073741824) ∨ CDivW i j
instance (i j : Int) : Decidable (divOk i j) := by unfold divOk CDivW; exact inferInstance
def powOk (i j : Int) : Prop := (0 ≤ j ∧ j ≤ 1000000 ∧ i.natAbs < 2 ^ 64) ∨ (0 ≤ j ∧ (Builtin.Int.intBits i : Int) * j ≤ 2 ^ 27)
instance (i j : Int) : Decidable (powOk i j) := by unfold powOk; exact inferInstance
def bop : BO → D → D → Store → R D
  | .add, x, y, S => addD x y S
  | .mul, x, y, S => mulD x y S
  | .sub, .t (.int i), .t (.int j), S => .ok (.t (.int (i - j))) S
  | .mod, .t (.int i), .t (.int j), S => if 0 < j then .ok (.t (.int (i % j))) S else .no
  | .fdiv, .t (.int i), .t (.int j), S => if divOk i j then .ok (.t (.int (i / j))) S else .no
  | .pow, .t (.int i), .t (.int j), S => if powOk i j then .ok (.t (.int (i ^ j.toNat))) S else .no
  | .shl, .t (.int i), .t (.int j), S => if 0 ≤ j ∧ j ≤ 1000000 ∧ i.natAbs < 2 ^ 64 then .ok (.t (.int (i * 2 ^ j.toNat))) S else .no
  | _, _, _, _ => .no
def okEq (x : T) : Bool := x.ok && decide (x.dp ≤ 60)
def eqD (x y : D) (S : Store) : R Bool :=
  match x, y with
  | .t (.int i), .t (.int j) => .ok (decide (i = j)) S
  | .t (.str i), .t (.str j) => .ok (decide (i = j)) S
  | x, y => match tr 6 S x with
    | some a => match tr 6 S y with
      | some b => if okEq a = true ∧ okEq b = true then .ok (a.eqv b) S else .no
      | none => .no
    | none => .no
def kOf : T → Option Key
  | .int i => some (.inl i)
  | .str x => some (.inr x)
  | _ => none
def hasK {α : Type} (k : Key) : List (Key × α) → Bool
  | [] => false
  | (j, _) :: r => decide (j = k) || hasK k r
def lookK {α : Type} (k : Key) : List (Key × α) → Option α
  | [] => none
  | (j, x) :: r => if j = k then some x else lookK k r
def putK {α : Type} (k : Key) (x : α) (kvs : List (Key × α)) : List (Key × α) :=
  if hasK k kvs = true then kvs.map (fun p => if p.1 = k then (p.1, x) else p) else kvs ++ [(k, x)]
def inD (x y : D) (S : Store) : R Bool :=
  match x with
  | .t f => match sq S y with
    | some xs => if f.flat = true ∧ xs.all T.flat = true then .ok (xs.any fun d => d.eqF f) S else .no
    | none => match dct S y, kOf f with
      | some kvs, some k => .ok (hasK k kvs) S
      | _, _ => .no
  | _ => .no
def notR : R Bool → R Bool
  | .ok b S => .ok (!b) S
  | .no => .no
  | .ex c x S => .ex c x S
def cmpD : CO → D → D → Store → R Bool
  | .eq, x, y, S => eqD x y S
  | .ne, x, y, S => notR (eqD x y S)
  | .lt, .t (.int i), .t (.int j), S => .ok (decide (i < j)) S
  | .le, .t (.int i), .t (.int j), S => .ok (decide (i ≤ j)) S
  | .gt, .t (.int i), .t (.int j), S => .ok (decide (j < i)) S
  | .ge, .t (.int i), .t (.int j), S => .ok (decide (j ≤ i)) S
  | .in_, x, y, S => inD x y S
  | .nin, x, y, S => notR (inD x y S)
  | .is_, x, .t .non, S => match x with
    | .t a => .ok a.isNon S
    | _ => .ok false S
  | .isn, x, .t .non, S => match x with
    | .t a => .ok (!a.isNon) S
    | _ => .ok true S
  | _, _, _, _ => .no
/-- truth -/
def truD (x : D) (S : Store) : R Bool :=
  match x with
  | .t (.bl b) => .ok b S
  | .t (.int i) => .ok (decide (i ≠ 0)) S
  | .t .non => .ok false S
  | x => match sqd S x with
    | some xs => .ok (!xs.isEmpty) S
    | none => .no
def ixD (x i : D) (S : Store) : R D :=
  match i with
  | .t (.int i) => match sqd S x with
    | some xs => match (ixN xs.length i).bind fun k => xs[k]? with
      | some d => .ok d S
      | none => .no
    | none => match dct S x with
      | some kvs => match lookK (.inl i) kvs with
        | some v => .ok (.t v) S
        | none => .no
      | none => match x with
        | .cell n => match rd S n with
          | some (.dico kvs) => match lookK (.inl i) kvs with
            | some d => .ok d S
            | none => .no
          | _ => .no
        | _ => .no
  | .t (.str k) => match dct S x with
    | some kvs => match lookK (.inr k) kvs with
      | some v => .ok (.t v) S
      | none => .no
    | none => .no
  | _ => .no
def sqS (S : Store) : D → Option (List T)
  | .t (.scr ns) => some (ns.map T.int)
  | x => sq S x
def slD (x : D) (lo hi : Option Int) (S : Store) : R D :=
  match sqS S x with
  | some xs => .ok (.new (cut xs lo hi)) S
  | none => .no
def revD (x : D) (S : Store) : R D :=
  match sq S x with
  | some xs => .ok (.new xs.reverse) S
  | none => .no
def tyD (S : Store) : D → Option String
  | .t x => x.tyS
  | .new _ => some "list"
  | .newo _ => some "list"
  | .newd _ => some "dict"
  | .newk _ => some "dict"
  | .tupo _ => some "tuple"
  | .cell n => match rd S n with
    | some (.lst _) => some "list"
    | some (.lsto _) => some "list"
    | some (.dic _) => some "dict"
    | some (.dico _) => some "dict"
    | some (.tupo _) => some "tuple"
    | _ => none
inductive U1 where
  | int | len | list | lenum | repr | max | min | sum | suml | sorted | set | bits | abs | isi (t : String) | lrange | slen | ssort
def lenD (x : D) (S : Store) : R D :=
  match sqd S x with
  | some xs => .ok (.int (xs.length : Nat)) S
  | none => match dct S x with
    | some kvs => .ok (.int (kvs.length : Nat)) S
    | none => .no
def keyT : Key → T
  | .inl i => .int i
  | .inr x => .str x
def catL (S : Store) : List D → Option (List T)
  | [] => some []
  | d :: ds => match sq S d with
    | some a => (catL S ds).map (a ++ ·)
    | none => none
def enumT (xs : List T) : List T := (List.range xs.length).zipWith (fun i x => T.tup [.int (i : Nat), x]) xs
def minI (ns : List Int) : Int := -maxI (ns.map fun n => -n)
def intD (x : D) (S : Store) : R D := match x with
  | .t (.int i) => .ok (.int i) S
  | .t (.bl b) => .ok (.int (b2n b)) S
  | _ => .no
def listD (x : D) (S : Store) : R D := match sq S x with
  | some xs => .ok (.new xs) S
  | none => match dct S x with
    | some kvs => .ok (.new (kvs.map fun p => keyT p.1)) S
    | none => .no
def lenumD (x : D) (S : Store) : R D := match sq S x with
  | some xs => if xs.length ≤ okL then .ok (.new (enumT xs)) S else .no
  | none => .no
def reprD (x : D) (S : Store) : R D := match tr 6 S x with
  | some a => if a.ok = true ∧ a.wt ≤ okL ∧ a.dp ≤ 60 then .ok (.str a.show) S else .no
  | none => .no
def intsD (S : Store) (x : D) : Option (List Int) := (sq S x).bind asI
def maxD (x : D) (S : Store) : R D := match intsD S x with
  | some ns => if ns = [] then .no else .ok (.int (maxI ns)) S
  | none => .no
def minD (x : D) (S : Store) : R D := match intsD S x with
  | some ns => if ns = [] then .no else .ok (.int (minI ns)) S
  | none => .no
def sumD (x : D) (S : Store) : R D := match intsD S x with
  | some ns => .ok (.int ns.sum) S
  | none => .no
def sumlD (x : D) (S : Store) : R D := match (sqd S x).bind (catL S) with
  | some xs => if xs.length ≤ okL then .ok (.new xs) S else .no
  | none => .no
def sortedD (x : D) (S : Store) : R D := match x with
  | x => match intsD S x with
    | some ns => .ok (.new ((sortI ns).map T.int)) S
    | none => .no
def setD (x : D) (S : Store) : R D := match intsD S x with
  | some ns => .ok (.t (.set ns)) S
  | none => .no
def bitsD (x : D) (S : Store) : R D := match x with
  | .t (.int i) => .ok (.int (Builtin.Int.intBits i : Nat)) S
  | _ => .no
def absD (x : D) (S : Store) : R D := match x with
  | .t (.int i) => .ok (.int (if i < 0 then -i else i)) S
  | _ => .no
def isiD (T : String) (x : D) (S : Store) : R D := match (tyD S x).bind fun t => kitB t T with
  | some w => .ok (.bl w) S
  | none => .no
def lrangeD (x : D) (S : Store) : R D := match x with
  | .t (.int n) => if n ≤ 1000000 ∧ -1000000 ≤ n then .ok (.new ((List.range n.toNat).map fun k : Nat => T.int (k : Int))) S else .no
  | _ => .no
def slenD (x : D) (S : Store) : R D := match x with
  | .t (.set ns) => .ok (.int ((dedup ns).length : Nat)) S
  | _ => .no
def ssortD (x : D) (S : Store) : R D := match x with
  | .t (.set ns) => .ok (.new ((sortI (dedup ns)).map T.int)) S
  | _ => .no
def f1D (o : U1) (x : D) (S : Store) : R D := match o with
  | .int => intD x S
  | .len => lenD x S
  | .list => listD x S
  | .lenum => lenumD x S
  | .repr => reprD x S
  | .max => maxD x S
  | .min => minD x S
  | .sum => sumD x S
  | .suml => sumlD x S
  | .sorted => sortedD x S
  | .set => setD x S
  | .bits => bitsD x S
  | .abs => absD x S
  | .isi t => isiD t x S
  | .lrange => lrangeD x S
  | .slen => slenD x S
  | .ssort => ssortD x S
inductive U2 where
  | max2 | min2 | maxd
def max2D (x y : D) (S : Store) : R D := match x, y with
  | .t (.int i), .t (.int j) => .ok (.int (if j > i then j else i)) S
  | _, _ => .no
def min2D (x y : D) (S : Store) : R D := match x, y with
  | .t (.int i), .t (.int j) => .ok (.int (if j < i then j else i)) S
  | _, _ => .no
def maxdD (x y : D) (S : Store) : R D := match y with
  | .t (.int d) => match intsD S x with
    | some ns => .ok (.int (if ns = [] then d else maxI ns)) S
    | none => .no
  | _ => .no
def f2D (o : U2) (x y : D) (S : Store) : R D := match o with
  | .max2 => max2D x y S
  | .min2 => min2D x y S
  | .maxd => maxdD x y S

/-! ### programs -/
structure Q where
  call : Nat → List D → Store → R D
  fa : Nat → Addr
  L : Nat
abbrev XE := Q → Frame → Store → R D
abbrev XT := Q → Frame → Store → R Bool
abbrev XA := Q → Frame → Store → R (List D)
abbrev XB := Q → Frame → Store → R (Fl × Frame)
abbrev XI := Q → Frame → Store → R (List D × Option Nat)
namespace Z
def v (i : Nat) : XE := fun _ fr S => match fr[i]? with
  | some (some d) => .ok d S
  | _ => .no
def k (x : T) : XE := fun _ _ S => .ok (.t x) S
def g (n : Nat) : XE := fun q _ S => .ok (.t (.fn n (q.fa n))) S
def nil : XA := fun _ _ S => .ok [] S
def cons (f : XE) (h : XA) : XA := fun q fr S => (f q fr S).bnd fun d S1 => (h q fr S1).bnd fun ds S2 => .ok (d :: ds) S2
def mkL (ds : List D) : D := match allT ds with
  | some xs => .new xs
  | none => .newo ds
def mkT (ds : List D) : D := match allT ds with
  | some xs => .t (.tup xs)
  | none => .tupo ds
def lst (h : XA) : XE := fun q fr S => (h q fr S).bnd fun ds S1 => .ok (mkL ds) S1
def tup (h : XA) : XE := fun q fr S => (h q fr S).bnd fun ds S1 => .ok (mkT ds) S1
def bin (o : BO) (a b : XE) : XE := fun q fr S => (a q fr S).bnd fun x S1 => (b q fr S1).bnd fun y S2 => bop o x y S2
def boolD (r : R Bool) : R D := r.bnd fun b S => .ok (.bl b) S
def cmp (o : CO) (a b : XE) : XE := fun q fr S => (a q fr S).bnd fun x S1 => (b q fr S1).bnd fun y S2 => boolD (cmpD o x y S2)
def neg (a : XE) : XE := fun q fr S => (a q fr S).bnd fun x S1 => match x with
  | .t (.int i) => .ok (.int (-i)) S1
  | _ => .no
def tval (a : XE) : XT := fun q fr S => (a q fr S).bnd fun x S1 => truD x S1
def tcmp (o : CO) (a b : XE) : XT := fun q fr S => (a q fr S).bnd fun x S1 => (b q fr S1).bnd fun y S2 => cmpD o x y S2
def tch (o p : CO) (a b c : XE) : XT := fun q fr S => (a q fr S).bnd fun x S1 => (b q fr S1).bnd fun y S2 => (cmpD o x y S2).bnd fun t S3 => if t = true then (c q fr S3).bnd fun z S4 => cmpD p y z S4 else .ok false S3
def tnot (a : XT) : XT := fun q fr S => (a q fr S).bnd fun b S1 => .ok (!b) S1
def tand (a b : XT) : XT := fun q fr S => (a q fr S).bnd fun x S1 => if x = true then b q fr S1 else .ok false S1
def tor (a b : XT) : XT := fun q fr S => (a q fr S).bnd fun x S1 => if x = true then .ok true S1 else b q fr S1
def ch (o p : CO) (a b c : XE) : XE := fun q fr S => boolD (tch o p a b c q fr S)
def not (a : XE) : XE := fun q fr S => (a q fr S).bnd fun x S1 => (truD x S1).bnd fun b S2 => .ok (.bl (!b)) S2
def and (a b : XE) : XE := fun q fr S => (a q fr S).bnd fun x S1 => (truD x S1).bnd fun t S2 => if t = true then b q fr S2 else .ok x S2
def or (a b : XE) : XE := fun q fr S => (a q fr S).bnd fun x S1 => (truD x S1).bnd fun t S2 => if t = true then .ok x S2 else b q fr S2
def ife (c : XT) (a b : XE) : XE := fun q fr S => (c q fr S).bnd fun t S1 => if t = true then a q fr S1 else b q fr S1
def ix (a i : XE) : XE := fun q fr S => (a q fr S).bnd fun x S1 => (i q fr S1).bnd fun y S2 => ixD x y S2
def opt (o : Option XE) : Q → Frame → Store → R (Option Int) := fun q fr S => match o with
  | none => .ok none S
  | some e => (e q fr S).bnd fun x S1 => match x with
    | .t (.int i) => .ok (some i) S1
    | _ => .no
def sl (a : XE) (lo hi : Option XE) : XE := fun q fr S => (a q fr S).bnd fun x S1 => (opt lo q fr S1).bnd fun l S2 => (opt hi q fr S2).bnd fun h S3 => slD x l h S3
def rev (a : XE) : XE := fun q fr S => (a q fr S).bnd fun x S1 => revD x S1
def f1 (f : U1) (a : XE) : XE := fun q fr S => (a q fr S).bnd fun x S1 => f1D f x S1
def f2 (f : U2) (a b : XE) : XE := fun q fr S => (a q fr S).bnd fun x S1 => (b q fr S1).bnd fun y S2 => f2D f x y S2
/-- an argument: frozen where it is new -/
def arg : D → Option D
  | .t x => some (.t x)
  | .cell n => some (.cell n)
  | d => (fz 6 d).map D.t
def arr (ds : List D) : List (Sum Nat T) → Option (List D)
  | [] => some []
  | .inl k :: r => match ds[k]? with
    | some d => (arr ds r).map (d :: ·)
    | none => none
  | .inr x :: r => (arr ds r).map (.t x :: ·)
def callA (q : Q) (n : Nat) (ds : List D) (ar : List (Sum Nat T)) (S : Store) : R D := match mapO arg ds with
  | some es => match arr es ar with
    | some zs => q.call n zs S
    | none => .no
  | none => .no
def call (n : Nat) (h : XA) (ar : List (Sum Nat T)) : XE := fun q fr S => (h q fr S).bnd fun ds S1 => callA q n ds ar S1
/-- a call of the def that a slot holds -/
def callv (i : Nat) (ok : List Nat) (h : XA) (ar : List (Sum Nat T)) : XE := fun q fr S => match fr[i]? with
  | some (some (.t (.fn n a))) => if a = q.fa n ∧ n ∈ ok then (h q fr S).bnd fun ds S1 => callA q n ds ar S1 else .no
  | _ => .no

/-! what is walked -/
def itE (a : XE) : XI := fun q fr S => (a q fr S).bnd fun x S1 => match x with
  | .cell n => match S1[n]? with
    | some (.lst xs) => .ok (xs.map D.t, some n) S1
    | some (.lsto ds) => .ok (ds, some n) S1
    | some (.lck (.lst xs)) => .ok (xs.map D.t, none) S1
    | some (.lck (.lsto ds)) => .ok (ds, none) S1
    | _ => .no
  | .newo ds => match thaw 6 (.newo ds) S1 with
    | some (.cell n, S2) => match S2[n]? with
      | some (.lsto es) => .ok (es, some n) S2
      | _ => .no
    | _ => .no
  | x => match sq S1 x with
    | some xs => .ok (xs.map D.t, none) S1
    | none => .no
def itR (a : XE) : XI := fun q fr S => (a q fr S).bnd fun x S1 => match x with
  | .t (.int n) => if -(2 ^ 62) ≤ n ∧ n < 2 ^ 62 then .ok ((List.range n.toNat).map fun k : Nat => .int (k : Int), none) S1 else .no
  | _ => .no
def itR2 (a b : XE) : XI := fun q fr S => (a q fr S).bnd fun x S1 => (b q fr S1).bnd fun y S2 => match x, y with
  | .t (.int m), .t (.int n) => if -(2 ^ 62) ≤ m ∧ m < 2 ^ 62 ∧ -(2 ^ 62) ≤ n ∧ n < 2 ^ 62 then .ok ((List.range (n - m).toNat).map fun k : Nat => .int (m + (k : Int)), none) S2 else .no
  | _, _ => .no
/-- enumerate of frozen data -/
def itEn (a : XE) : XI := fun q fr S => (a q fr S).bnd fun x S1 => match x with
  | .cell n => match S1[n]? with
    | some (.lst xs) => .ok ((enumT xs).map D.t, some n) S1
    | some (.lck (.lst xs)) => .ok ((enumT xs).map D.t, none) S1
    | _ => .no
  | x => match sq S1 x with
    | some xs => .ok ((enumT xs).map D.t, none) S1
    | none => .no
/-- items, values of a frozen dict -/
def itIt (a : XE) : XI := fun q fr S => (a q fr S).bnd fun x S1 => match x with
  | .t (.dic kvs) => .ok (kvs.map fun p => .t (.tup [keyT p.1, p.2]), none) S1
  | _ => .no
def itVa (a : XE) : XI := fun q fr S => (a q fr S).bnd fun x S1 => match x with
  | .t (.dic kvs) => .ok (kvs.map fun p => .t p.2, none) S1
  | _ => .no
def itRv (a : XE) : XI := fun q fr S => (a q fr S).bnd fun x S1 => match x with
  | .cell n => match S1[n]? with
    | some (.lst xs) => .ok (xs.reverse.map D.t, some n) S1
    | some (.lck (.lst xs)) => .ok (xs.reverse.map D.t, none) S1
    | _ => .no
  | x => match sq S1 x with
    | some xs => .ok (xs.reverse.map D.t, none) S1
    | none => .no

/-! targets -/
inductive Tg where
  | nm (i : Nat) | tu (is : List Nat)
def Tg.ix : Tg → List Nat
  | .nm i => [i]
  | .tu is => is
end Z
open Z
def inSlot : D → Bool
  | .t _ => true
  | .cell _ => true
  | _ => false
def asg1 (i : Nat) (d : D) (fr : Frame) : Option Frame := if inSlot d = true then some (fr.set i (some d)) else none
def asgs : List Nat → List D → Frame → Option Frame
  | [], [], fr => some fr
  | i :: is, d :: ds, fr => match asg1 i d fr with
    | some fr1 => asgs is ds fr1
    | none => none
  | _, _, _ => none
def tupD (S : Store) : D → Option (List D)
  | .t (.tup xs) => some (xs.map D.t)
  | .tupo ds => some ds
  | .cell n => match rd S n with
    | some (.tupo ds) => some ds
    | _ => none
  | _ => none
def asg (S : Store) : Z.Tg → D → Frame → Option Frame
  | .nm i, d, fr => asg1 i d fr
  | .tu is, d, fr => match tupD S d with
    | some ds => asgs is ds fr
    | none => none
def wipeF (fr : Frame) : List Nat → Frame
  | [] => fr
  | v :: vs => (wipeF fr vs).set v none
/-- a turn of a comprehension -/
def lcL (tg : Z.Tg) (ts : Q → Frame → Store → R Bool) (el : XE) (q : Q) (fr : Frame) : List D → Store → R (List D)
  | [], S => .ok [] S
  | d :: ds, S => match asg S tg d fr with
    | none => .no
    | some fr1 => match ts q fr1 S with
      | .ok true S1 => match el q fr1 S1 with
        | .ok e S2 => (lcL tg ts el q fr ds S2).bnd fun es S3 => .ok (e :: es) S3
        | _ => .no
      | .ok false S1 => lcL tg ts el q fr ds S1
      | _ => .no
def lckS (S : Store) : Option Nat → Store
  | none => S
  | some n => match S[n]? with
    | some (.lck o) => S.set n (.lck o)
    | some o => S.set n (.lck o)
    | none => S
def unlS (S : Store) : Option Nat → Store
  | none => S
  | some n => match S[n]? with
    | some (.lck o) => S.set n o
    | _ => S
def unlR {α : Type} (l : Option Nat) : R α → R α
  | .ok a S => .ok a (unlS S l)
  | .ex c x S => .ex c x (unlS S l)
  | .no => .no
namespace Z
def tt : XT := fun _ _ S => .ok true S
/-- [el for tg in it if ts]; vs: its own names -/
def lc (vs : List Nat) (tg : Tg) (it : XI) (ts : XT) (el : XE) : XE := fun q fr S => (it q fr S).bnd fun p S1 => if p.1.length ≤ okL then (unlR p.2 (lcL tg ts el q (wipeF fr vs) p.1 (lckS S1 p.2))).bnd fun ds S2 => .ok (mkL ds) S2 else .no

/-! statements -/
def skip : XB := fun _ fr S => .ok (.nx, fr) S
def seq (a b : XB) : XB := fun q fr S => (a q fr S).bnd fun p S1 => match p.1 with
  | .nx => b q p.2 S1
  | f => .ok (f, p.2) S1
/-- what is put into a slot: frozen (m = false), or laid into the store -/
def stD (m : Bool) (d : D) (S : Store) : Option (D × Store) := if inSlot d = true then some (d, S) else if m = true then thaw 6 d S else (fz 6 d).map fun x => (.t x, S)
def set (i : Nat) (m : Bool) (f : XE) : XB := fun q fr S => (f q fr S).bnd fun d S1 => match stD m d S1 with
  | some (e, S2) => .ok (.nx, fr.set i (some e)) S2
  | none => .no
/-- a, b = e -/
def sett (is : List Nat) (m : Bool) (f : XE) : XB := fun q fr S => (f q fr S).bnd fun d S1 => match stD m d S1 with
  | some (e, S2) => match asg S2 (.tu is) e fr with
    | some fr2 => .ok (.nx, fr2) S2
    | none => .no
  | none => .no
def expr (f : XE) : XB := fun q fr S => (f q fr S).bnd fun _ S1 => .ok (.nx, fr) S1
def ret (f : XE) : XB := fun q fr S => (f q fr S).bnd fun d S1 => .ok (.rt d, fr) S1
def retn : XB := fun _ fr S => .ok (.rt .non, fr) S
def brk : XB := fun _ fr S => .ok (.bk, fr) S
def cnt : XB := fun _ fr S => .ok (.ct, fr) S
def never : XB := fun _ _ _ => .no
def ifs (c : XT) (a b : XB) : XB := fun q fr S => (c q fr S).bnd fun t S1 => if t = true then a q fr S1 else b q fr S1
def augI : BO → Int → Int → Option Int
  | .add, i, j => some (i + j)
  | .sub, i, j => some (i - j)
  | .mul, i, j => if mulOk i j then some (i * j) else none
  | _, _, _ => none
/-- x op= e, whole numbers; a list of the store grows -/
def aug (i : Nat) (o : BO) (f : XE) : XB := fun q fr S => match fr[i]? with
  | some (some (.t (.int m))) => (f q fr S).bnd fun y S1 => match y with
    | .t (.int n) => match augI o m n with
      | some z => .ok (.nx, fr.set i (some (.int z))) S1
      | none => .no
    | _ => .no
  | _ => .no
/-- o[i] = e, an own list or dict -/
def stiD (x i d : D) (S : Store) : Option Store := match x with
  | .cell n => match S[n]? with
    | some (.lst xs) => match i, arg d with
      | .t (.int j), some (.t y) => match ixN xs.length j with
        | some k => some (S.set n (.lst (xs.set k y)))
        | none => none
      | _, _ => none
    | some (.dic kvs) => match i, arg d with
      | .t f, some (.t y) => match kOf f with
        | some k => if kvs.length < okL then some (S.set n (.dic (putK k y kvs))) else none
        | none => none
      | _, _ => none
    | _ => none
  | _ => none
def sti (o i : XE) (f : XE) : XB := fun q fr S => (f q fr S).bnd fun d S1 => (o q fr S1).bnd fun x S2 => (i q fr S2).bnd fun j S3 => match stiD x j d S3 with
  | some S4 => .ok (.nx, fr) S4
  | none => .no
def delD (x i : D) (S : Store) : Option Store := match x, i with
  | .cell n, .t (.int j) => match S[n]? with
    | some (.lst xs) => match ixN xs.length j with
      | some k => if xs.length ≤ okL then some (S.set n (.lst (xs.eraseIdx k))) else none
      | none => none
    | _ => none
  | _, _ => none
def del (o i : XE) : XB := fun q fr S => (o q fr S).bnd fun x S1 => (i q fr S1).bnd fun j S2 => match delD x j S2 with
  | some S3 => .ok (.nx, fr) S3
  | none => .no
/-- methods of a list -/
inductive M where
  | append | remove | index | pop | count | extend | insert
def appD (x d : D) (S : Store) : R D := match x with
  | .cell n => match S[n]? with
    | some (.lst xs) => match arg d with
      | some (.t y) => if xs.length < okL then .ok .non (S.set n (.lst (xs ++ [y]))) else .no
      | _ => .no
    | _ => .no
  | _ => .no
def remD (x d : D) (S : Store) : R D := match x, d with
  | .cell n, .t (.int i) => match S[n]? with
    | some (.lst xs) => match asI xs with
      | some ns => if i ∈ ns then .ok .non (S.set n (.lst ((ns.eraseIdx (ns.idxOf i)).map T.int))) else .no
      | none => .no
    | _ => .no
  | _, _ => .no
def popD (x : D) (S : Store) : R D := match x with
  | .cell n => match S[n]? with
    | some (.lst xs) => match xs.getLast? with
      | some y => .ok (.t y) (S.set n (.lst xs.dropLast))
      | none => .no
    | _ => .no
  | _ => .no
def idxD (x d : D) (S : Store) : R D := match d with
  | .t (.int i) => match intsD S x with
    | some ns => if i ∈ ns then .ok (.int (ns.idxOf i : Nat)) S else .no
    | none => .no
  | _ => .no
def cntD (x d : D) (S : Store) : R D := match d with
  | .t (.int i) => match intsD S x with
    | some ns => .ok (.int (ns.count i : Nat)) S
    | none => .no
  | _ => .no
def extD (x d : D) (S : Store) : R D := match x with
  | .cell n => match S[n]? with
    | some (.lst xs) => match sq S d with
      | some ys => if xs.length + ys.length ≤ okL then .ok .non (S.set n (.lst (xs ++ ys))) else .no
      | none => .no
    | _ => .no
  | _ => .no
def insD (x i d : D) (S : Store) : R D := match x, i with
  | .cell n, .t (.int j) => match S[n]? with
    | some (.lst xs) => match arg d with
      | some (.t y) => if xs.length < okL ∧ 0 ≤ j ∧ j < 2 ^ 62 then .ok .non (S.set n (.lst (xs.take j.toNat ++ y :: xs.drop j.toNat))) else .no
      | _ => .no
    | _ => .no
  | _, _ => .no
def mD (m : M) (x : D) (ds : List D) (S : Store) : R D := match m, ds with
  | .append, [d] => appD x d S
  | .remove, [d] => remD x d S
  | .pop, [] => popD x S
  | .index, [d] => idxD x d S
  | .count, [d] => cntD x d S
  | .extend, [d] => extD x d S
  | .insert, [i, d] => insD x i d S
  | _, _ => .no
def me (m : M) (a : XE) (h : XA) : XE := fun q fr S => (a q fr S).bnd fun x S1 => if tyD S1 x = some "list" then (h q fr S1).bnd fun ds S2 => mD m x ds S2 else .no
/-- d.get(k), d.get(k, x) -/
def getD (x y z : D) (S : Store) : R D := match y, arg z with
  | .t f, some (.t w) => match dct S x, kOf f with
    | some kvs, some k => .ok (.t ((lookK k kvs).getD w)) S
    | _, _ => .no
  | _, _ => .no
def isDict (x : D) (S : Store) : Bool := (dct S x).isSome
def get1 (a i : XE) : XE := fun q fr S => (a q fr S).bnd fun x S1 => if isDict x S1 = true then (i q fr S1).bnd fun y S2 => getD x y .non S2 else .no
def get2 (a i e : XE) : XE := fun q fr S => (a q fr S).bnd fun x S1 => if isDict x S1 = true then (i q fr S1).bnd fun y S2 => (e q fr S2).bnd fun z S3 => getD x y z S3 else .no

/-! loops -/
/-- slots that name things of the store from L on are forgotten -/
def hideF (L : Nat) (fr : Frame) : Frame := fr.map fun o => match o with
  | some (.cell n) => if n < L then some (.cell n) else none
  | o => o
def cutR (c : Bool) (L : Nat) : R (Fl × Frame) → R (Fl × Frame)
  | .ok (.rt d, fr) S => .ok (.rt d, fr) S
  | .ok (f, fr) S => if c = true then .ok (f, hideF L fr) (S.take L) else .ok (f, fr) S
  | .no => .no
  | .ex a x S => .ex a x S
def qL (c : Bool) (q : Q) (S : Store) : Q := if c = true then { q with L := S.length } else q
def forL (tg : Tg) (b : Frame → Store → R (Fl × Frame)) : List D → Frame → Store → R (Fl × Frame)
  | [], fr, S => .ok (.nx, fr) S
  | d :: ds, fr, S => match asg S tg d fr with
    | none => .no
    | some fr1 => (b fr1 S).bnd fun p S2 => match p.1 with
      | .nx => forL tg b ds p.2 S2
      | .ct => forL tg b ds p.2 S2
      | .bk => .ok (.nx, p.2) S2
      | .rt e => .ok (.rt e, p.2) S2
def fors (c : Bool) (tg : Tg) (it : XI) (b : XB) : XB := fun q fr S => (it q fr S).bnd fun p S1 =>
  unlR p.2 (forL tg (fun fr2 S2 => cutR c (lckS S1 p.2).length (b (qL c q (lckS S1 p.2)) fr2 S2)) p.1 fr (lckS S1 p.2))
def whN (t : Frame → Store → R Bool) (b : Frame → Store → R (Fl × Frame)) : Nat → Frame → Store → R (Fl × Frame)
  | 0, _, _ => .no
  | n + 1, fr, S => (t fr S).bnd fun k S1 => if k = true then (b fr S1).bnd fun p S2 => match p.1 with
      | .nx => whN t b n p.2 S2
      | .ct => whN t b n p.2 S2
      | .bk => .ok (.nx, p.2) S2
      | .rt e => .ok (.rt e, p.2) S2
    else .ok (.nx, fr) S1
open Classical in
noncomputable def wh (t : Frame → Store → R Bool) (b : Frame → Store → R (Fl × Frame)) (fr : Frame) (S : Store) : R (Fl × Frame) :=
  if h : ∃ n, whN t b n fr S ≠ .no then whN t b h.choose fr S else .no
noncomputable def whs (c : Bool) (t : XT) (b : XB) : XB := fun q fr S => wh (t (qL c q S)) (fun fr2 S2 => cutR c S.length (b (qL c q S) fr2 S2)) fr S
end Z
/-! defs -/
/-- a dict of own lists that is handed back: its lists frozen -/
def mvdT (S : Store) (L : Nat) : D → Option T
  | .t x => some x
  | .cell m => if L ≤ m then match S[m]? with
    | some (.lst xs) => some (.lst xs)
    | _ => none
  else none
  | _ => none
def mvdK (S : Store) (L : Nat) : List (Key × D) → Option (List (Key × T))
  | [] => some []
  | (k, d) :: r => match mvdT S L d with
    | some x => (mvdK S L r).map ((k, x) :: ·)
    | none => none
def mvd (S : Store) (L : Nat) : D → Option (List (Key × T))
  | .cell n => if L ≤ n then match S[n]? with
    | some (.dico kvs) => mvdK S L kvs
    | _ => none
  else none
  | _ => none
/-- what a def is: plain; one that hands back a dict of own lists; the __init__ of the class that has the number c -/
inductive Kn where
  | pl | ow | ini (c : Nat)
structure Def where
  body : XB
  slots : Nat
  pars : Nat
  own : Kn := .pl
/-- a dict of own lists that is handed back with its lists, to be changed -/
def mvkK (S : Store) (L : Nat) : List (Key × D) → List Nat → Option (List (Key × List T))
  | [], _ => some []
  | (k, d) :: r, sn => match d with
    | .cell m => if L ≤ m ∧ m ∉ sn then match S[m]? with
        | some (.lst xs) => (mvkK S L r (m :: sn)).map ((k, xs) :: ·)
        | _ => none
      else none
    | _ => none
def mvk (S : Store) (L : Nat) : D → Option (List (Key × List T))
  | .cell n => if L ≤ n then match S[n]? with
    | some (.dico kvs) => mvkK S L kvs []
    | _ => none
  else none
  | _ => none
def runK (body : XB) (n : Nat) (q : Q) (args : List D) (S : Store) : R D :=
  match body { q with L := S.length } (args.map some ++ List.replicate (n - args.length) none) S with
  | .ok (.nx, _) S1 => .ok .non (S1.take S.length)
  | .ok (.rt d, _) S1 => match mvk S1 S.length d with
    | some kvs => .ok (.newk kvs) (S1.take S.length)
    | none => .no
  | .ok _ _ => .no
  | .no => .no
  | .ex c x S1 => .ex c x (S1.take S.length)
def runD (body : XB) (n : Nat) (q : Q) (args : List D) (S : Store) : R D :=
  match body { q with L := S.length } (args.map some ++ List.replicate (n - args.length) none) S with
  | .ok (.nx, _) S1 => .ok .non (S1.take S.length)
  | .ok (.rt d, _) S1 => match mv 6 S1 S.length [] d with
    | some (e, _) => .ok e (S1.take S.length)
    | none => match mvd S1 S.length d with
      | some kvs => .ok (.newd kvs) (S1.take S.length)
      | none => .no
  | .ok _ _ => .no
  | .no => .no
  | .ex c x S1 => .ex c x (S1.take S.length)
/-- C(..): a new instance, then its __init__ -/
def runI (C : Addr) (body : XB) (n : Nat) (q : Q) (args : List D) (S : Store) : R D :=
  match body { q with L := S.length } ((D.cell S.length :: args).map some ++ List.replicate (n - (D.cell S.length :: args).length) none) (S ++ [.ins C []]) with
  | .ok (.nx, _) S1 => .ok (.cell S.length) S1
  | .ok _ _ => .no
  | .no => .no
  | .ex c x S1 => .ex c x (S1.take S.length)
def callD (prog : List Def) (fa : Nat → Addr) : Nat → Nat → List D → Store → R D
  | 0, _, _, _ => .no
  | k + 1, n, args, S => match prog[n]? with
    | some d => if args.length = d.pars then match d.own with
        | .pl => runD d.body d.slots ⟨callD prog fa k, fa, S.length⟩ args S
        | .ow => runK d.body d.slots ⟨callD prog fa k, fa, S.length⟩ args S
        | .ini c => runI (fa c) d.body d.slots ⟨callD prog fa k, fa, S.length⟩ args S
      else .no
    | none => .no
/-! ### while, turn by turn -/
section
variable {t : Frame → Store → R Bool} {b : Frame → Store → R (Fl × Frame)} {fr : Frame} {S : Store}
theorem whN_mono : ∀ {n m : Nat} {fr : Frame} {S : Store}, n ≤ m → Z.whN t b n fr S ≠ .no → Z.whN t b m fr S = Z.whN t b n fr S
  | 0, _, _, _, _, h => absurd rfl h
  | n + 1, 0, _, _, hm, _ => absurd hm (Nat.not_succ_le_zero n)
  | n + 1, m + 1, fr, S, hm, h => by
    unfold Z.whN at h ⊢
    cases ht : t fr S with
    | no => rfl
    | ex c x S1 => rfl
    | ok k S1 =>
      rw [ht, bnd_ok] at h
      rw [bnd_ok, bnd_ok]
      cases k with
      | false => rfl
      | true =>
        rw [if_pos rfl] at h ⊢
        rw [if_pos rfl]
        cases hb : b fr S1 with
        | no => rfl
        | ex c x S2 => rfl
        | ok p S2 =>
          rw [hb, bnd_ok] at h
          rw [bnd_ok, bnd_ok]
          obtain ⟨f, fr2⟩ := p
          cases f with
          | nx => exact whN_mono (Nat.le_of_succ_le_succ hm) h
          | ct => exact whN_mono (Nat.le_of_succ_le_succ hm) h
          | bk => rfl
          | rt e => rfl
theorem wh_at {n : Nat} (h : Z.whN t b n fr S ≠ .no) : Z.wh t b fr S = Z.whN t b n fr S := by
  unfold Z.wh
  have hx : ∃ n, Z.whN t b n fr S ≠ .no := ⟨n, h⟩
  rw [dif_pos hx]
  rcases Nat.le_total hx.choose n with z | z
  · exact (whN_mono z hx.choose_spec).symm
  · exact whN_mono z h
theorem wh_some (h : Z.wh t b fr S ≠ .no) : ∃ n, Z.wh t b fr S = Z.whN t b n fr S := by
  unfold Z.wh at h ⊢
  by_cases hx : ∃ n, Z.whN t b n fr S ≠ .no
  · exact ⟨hx.choose, by rw [dif_pos hx]⟩
  · rw [dif_neg hx] at h
    exact absurd rfl h
/-- the loop's equation -/
theorem wh_eq : Z.wh t b fr S = (t fr S).bnd fun k S1 => if k = true then (b fr S1).bnd fun p S2 => match p.1 with
      | .nx => Z.wh t b p.2 S2
      | .ct => Z.wh t b p.2 S2
      | .bk => .ok (.nx, p.2) S2
      | .rt e => .ok (.rt e, p.2) S2
    else .ok (.nx, fr) S1 := by
  by_cases hx : ∃ n, Z.whN t b n fr S ≠ .no
  · obtain ⟨n, hn⟩ := hx
    rw [wh_at hn]
    cases n with
    | zero => exact absurd rfl hn
    | succ n =>
      unfold Z.whN at hn ⊢
      cases ht : t fr S with
      | no => rfl
      | ex c x S1 => rfl
      | ok k S1 =>
        rw [ht, bnd_ok] at hn
        rw [bnd_ok, bnd_ok]
        cases k with
        | false => rfl
        | true =>
          rw [if_pos rfl] at hn ⊢
          rw [if_pos rfl]
          cases hb : b fr S1 with
          | no => rfl
          | ex c x S2 => rfl
          | ok p S2 =>
            rw [hb, bnd_ok] at hn
            rw [bnd_ok, bnd_ok]
            obtain ⟨f, fr2⟩ := p
            cases f with
            | nx => exact (wh_at hn).symm
            | ct => exact (wh_at hn).symm
            | bk => rfl
            | rt e => rfl
  · have e : Z.wh t b fr S = .no := by
      unfold Z.wh
      rw [dif_neg hx]
    rw [e]
    cases ht : t fr S with
    | no => rfl
    | ex c x S1 =>
      exfalso
      refine hx ⟨1, ?_⟩
      unfold Z.whN
      rw [ht]
      intro z
      cases z
    | ok k S1 =>
      rw [bnd_ok]
      cases k with
      | false =>
        exfalso
        refine hx ⟨1, ?_⟩
        unfold Z.whN
        rw [ht]
        intro z
        cases z
      | true =>
        rw [if_pos rfl]
        cases hb : b fr S1 with
        | no => rfl
        | ex c x S2 =>
          exfalso
          refine hx ⟨1, ?_⟩
          unfold Z.whN
          rw [ht, bnd_ok, if_pos rfl, hb]
          intro z
          cases z
        | ok p S2 =>
          rw [bnd_ok]
          obtain ⟨f, fr2⟩ := p
          have nn : ∀ n, Z.whN t b n fr S = .no := fun n => by
            by_cases z : Z.whN t b n fr S = .no
            · exact z
            · exact absurd ⟨n, z⟩ hx
          have step : ∀ n, Z.whN t b (n + 1) fr S = match (generalizing := false) f with
              | .nx => Z.whN t b n fr2 S2
              | .ct => Z.whN t b n fr2 S2
              | .bk => .ok (.nx, fr2) S2
              | .rt e => .ok (.rt e, fr2) S2 := fun n => by
            rw [Z.whN, ht, bnd_ok, if_pos rfl, hb, bnd_ok]
          have dead : (∀ n, Z.whN t b n fr2 S2 = .no) → Z.wh t b fr2 S2 = .no := fun z => by
            unfold Z.wh
            rw [dif_neg]
            rintro ⟨n, hn⟩
            exact hn (z n)
          cases f with
          | nx => exact (dead fun n => (step n).symm.trans (nn (n + 1))).symm
          | ct => exact (dead fun n => (step n).symm.trans (nn (n + 1))).symm
          | bk =>
            have z := (step 0).symm.trans (nn 1)
            cases z
          | rt e =>
            have z := (step 0).symm.trans (nn 1)
            cases z
end
end Mi

set_option Elab.async false
set_option linter.all false
set_option maxRecDepth 100000
set_option maxHeartbeats 4000000
/-! N4: how slots and store stand in the abstract heap; steps; what is new is frozen, or laid into the store -/
namespace Mi
open PySem L2

/-! dicts whose keys are tuples of such and of bools, each value True -/
mutual
def ky : T → Option NestedKey
  | .bl b => some (.num (if b = true then 1 else 0))
  | .tup xs => (kys xs).map .tup
  | _ => none
def kys : List T → Option (List NestedKey)
  | [] => some []
  | x :: xs => match ky x with
    | some a => (kys xs).map (a :: ·)
    | none => none
end
/-- an entry, as the model keeps it -/
def entW (w : World) (x : NestedKey × Addr × Value) : DictEntry := ⟨x.1.hash w, .ref x.2.1, x.2.2⟩
/-- at d: the dict of these entries -/
def KdP (d : Addr) (xs : List (NestedKey × Addr × Value)) (h : Heap) : Prop := (d == sysModules) = false ∧ ∃ o es ep, h.get? d = some o ∧ o.ExactDict ∧ o.data = .dict es ep ∧ (∀ w, es.toList = xs.map (entW w)) ∧ (xs.map (·.1)).Nodup
structure KdK (K : PySem.W.Frag) (F : Hp) (x : NestedKey × Addr × Value) : Prop where
  v : x.2.2 = .bool true
  d : x.1.depth ≤ 8
  t : ∃ t, ky t = some x.1 ∧ Rep K (At F) (.ref x.2.1) t
def KdCon (K : PySem.W.Frag) (F : Hp) (ks : List NestedKey) (φ : Heap → Prop) : Prop := ∃ d xs, φ = KdP d xs ∧ xs.map (·.1) = ks ∧ ∀ x ∈ xs, KdK K F x
theorem KdK.mono {K : PySem.W.Frag} {F F' : Hp} (f : Same F F') {x : NestedKey × Addr × Value} (c : KdK K F x) : KdK K F' x := ⟨c.v, c.d, let ⟨t, h1, h2⟩ := c.t; ⟨t, h1, h2.mono (at_mono f)⟩⟩
theorem KdCon.mono {K : PySem.W.Frag} {F F' : Hp} (f : Same F F') {ks : List NestedKey} {φ : Heap → Prop} (c : KdCon K F ks φ) : KdCon K F' ks φ := let ⟨d, xs, h1, h2, h3⟩ := c; ⟨d, xs, h1, h2, fun x hx => (h3 x hx).mono f⟩

/-- what a thing of the store is -/
def Con (K : PySem.W.Frag) (N : Nat) (μ : Nat → Addr) (F : Hp) : Ob → HO → Prop
  | .lst xs, .lst vs => RepL K (At F) vs xs
  | .lsto ds, .lst vs => RepCs K N μ F vs ds
  | .dic kvs, .dK vs => RepK K (At F) vs kvs
  | .dico kvs, .dK vs => RepCK K N μ F vs kvs
  | .tupo ds, .tup vs => RepCs K N μ F vs ds
  | .lck (.lst xs), .lst vs => RepL K (At F) vs xs
  | .lck (.lsto ds), .lst vs => RepCs K N μ F vs ds
  | .lck (.dic kvs), .frz _ (.dK vs) => RepK K (At F) vs kvs
  | .lck (.dico kvs), .frz _ (.dK vs) => RepCK K N μ F vs kvs
  | .lck (.tupo ds), .tup vs => RepCs K N μ F vs ds
  | .tbl _ q, .tbl ps => PySem.TriplesOk ps.toList ∧ ∀ (pos : Pos) (cv : Value), PySem.codeAmong pos ps.toList = some cv → ∃ c, cv = .ref c ∧ F c = some (LamX.CodeO c q)
  | .kd ks, .ext φ => KdCon K F ks φ
  | .ins C fs, .ins C' _ vs => C' = C ∧ RepCF K N μ F vs fs
  | _, _ => False
theorem Con.mono {K : PySem.W.Frag} {N N' : Nat} {μ μ' : Nat → Addr} {F F' : Hp} (hN : N ≤ N') (hm : ∀ n, n < N → μ' n = μ n) (f : Same F F') {o : Ob} {h : HO} (c : Con K N μ F o h) : Con K N' μ' F' o h := by
  unfold Con at c ⊢
  split at c <;> first | exact c.elim | exact RepL.mono (at_mono f) c | exact RepCs.mono hN hm f c | exact RepK.mono (at_mono f) c | exact RepCK.mono hN hm f c | exact KdCon.mono f c | exact ⟨c.1, RepCF.mono hN hm f c.2⟩ | exact ⟨c.1, fun pos cv h => let ⟨d, e1, e2⟩ := c.2 pos cv h; ⟨d, e1, f _ _ e2⟩⟩
def D.lt (L : Nat) : D → Prop
  | .cell n => n < L
  | _ => True
def Ob.lt (L : Nat) : Ob → Prop
  | .lsto ds => ∀ d ∈ ds, d.lt L
  | .dico kvs => ∀ p ∈ kvs, p.2.lt L
  | .tupo ds => ∀ d ∈ ds, d.lt L
  | .ins _ fs => ∀ p ∈ fs, p.2.lt L
  | .lck (.lsto ds) => ∀ d ∈ ds, d.lt L
  | .lck (.dico kvs) => ∀ p ∈ kvs, p.2.lt L
  | .lck (.tupo ds) => ∀ d ∈ ds, d.lt L
  | _ => True
/-- store and heap -/
structure Hs (K : PySem.W.Frag) (S : Store) (μ : Nat → Addr) (H F : Hp) : Prop where
  sub : Sub F H
  ce : ∀ (n : Nat) o, S[n]? = some o → ∃ ho, H (μ n) = some ho ∧ Con K S.length μ F o ho
  out : ∀ n, n < S.length → F (μ n) = none
  inj : ∀ n m, n < S.length → m < S.length → μ n = μ m → n = m
  tb : ∀ (n : Nat) P q, S[n]? = some (.tbl P q) → μ n = P
/-- .. and slots -/
structure Ab (K : PySem.W.Frag) (fr : Frame) (S : Store) (μ : Nat → Addr) (σ : L2.St) (H F : Hp) : Prop where
  hs : Hs K S μ H F
  len : σ.length = fr.length
  sl : ∀ (i : Nat) d, fr[i]? = some (some d) → ∃ v, σ[i]? = some (some v) ∧ RepC K S.length μ F v d
/-- a step -/
structure Stp (L : Nat) (S : Store) (μ : Nat → Addr) (H F : Hp) (S' : Store) (μ' : Nat → Addr) (H' F' : Hp) : Prop where
  f : Same F F'
  le : S.length ≤ S'.length
  mu : ∀ n, n < S.length → μ' n = μ n
  keep : ∀ b o, H b = some o → (∀ n, n < S.length → μ n ≠ b) → H' b = some o
  nF : ∀ a o, F' a = some o → F a = none → H a = none
  nC : ∀ n, S.length ≤ n → n < S'.length → H (μ' n) = none
  dom : ∀ a, H' a = none → H a = none
  cl : ∀ n, n < L → ∀ o o', S[n]? = some o → S'[n]? = some o' → ∀ B, o.lt B → o'.lt B
  lk : ∀ (n : Nat) o, S[n]? = some (.lck o) → S'[n]? = some (.lck o) ∧ ∀ u, H (μ n) = some u → H' (μ n) = some u
/-- what is owned -/
structure Own (as : List Addr) (H0 F : Hp) (μ : Nat → Addr) (S : Store) : Prop where
  nd : as.Nodup
  fr : ∀ a ∈ as, H0 a = none ∧ F a = none ∧ ∀ n, n < S.length → μ n ≠ a
section
variable {K : PySem.W.Frag} {L L' : Nat} {S S1 S2 S3 : Store} {μ μ1 μ2 μ3 : Nat → Addr} {H H1 H2 H3 F F1 F2 F3 H0 : Hp} {as bs : List Addr} {fr : Frame} {σ : L2.St}
theorem Stp.refl : Stp L S μ H F S μ H F where
  f := fun _ _ h => h
  le := Nat.le_refl _
  mu := fun _ _ => rfl
  keep := fun _ _ h _ => h
  nF := fun a o e q => by
    rw [e] at q
    cases q
  nC := fun n h1 h2 => absurd h2 (Nat.not_lt.mpr h1)
  dom := fun _ h => h
  cl := fun n _ o o' e1 e2 B h => by
    rw [e1] at e2
    cases e2
    exact h
  lk := fun _ _ e => ⟨e, fun _ z => z⟩
theorem Stp.trans (a : Stp L S μ H F S1 μ1 H1 F1) (b : Stp L S1 μ1 H1 F1 S2 μ2 H2 F2) : Stp L S μ H F S2 μ2 H2 F2 where
  f := fun _ _ h => b.f _ _ (a.f _ _ h)
  le := Nat.le_trans a.le b.le
  mu := fun n h => (b.mu n (Nat.lt_of_lt_of_le h a.le)).trans (a.mu n h)
  keep := fun c o e n => b.keep c o (a.keep c o e n) fun m hm z => by
    by_cases h : m < S.length
    · exact n m h ((a.mu m h).symm.trans z)
    · have := a.nC m (Nat.le_of_not_lt h) hm
      rw [z, e] at this
      cases this
  nF := fun c o e n => by
    cases r : F1 c with
    | some u => exact a.nF c u r n
    | none => exact a.dom c (b.nF c o e r)
  nC := fun n h1 h2 => by
    by_cases h : n < S1.length
    · rw [b.mu n h]
      exact a.nC n h1 h
    · exact a.dom _ (b.nC n (Nat.le_of_not_lt h) h2)
  dom := fun c e => a.dom c (b.dom c e)
  cl := fun n hn o o' e1 e2 B h => by
    have hl : n < S.length := (List.getElem?_eq_some_iff.mp e1).1
    have h1 : S1[n]? = some (S1[n]'(Nat.lt_of_lt_of_le hl a.le)) := List.getElem?_eq_getElem _
    exact b.cl n hn _ o' h1 e2 B (a.cl n hn o _ e1 h1 B h)
  lk := fun n o e => by
    have hl : n < S.length := (List.getElem?_eq_some_iff.mp e).1
    obtain ⟨e1, k1⟩ := a.lk n o e
    obtain ⟨e2, k2⟩ := b.lk n o e1
    rw [a.mu n hl] at k2
    exact ⟨e2, fun u z => k2 u (k1 u z)⟩
theorem Stp.low (a : Stp L S μ H F S1 μ1 H1 F1) (h : L' ≤ L) : Stp L' S μ H F S1 μ1 H1 F1 := ⟨a.f, a.le, a.mu, a.keep, a.nF, a.nC, a.dom, fun n hn => a.cl n (Nat.lt_of_lt_of_le hn h), a.lk⟩
theorem Stp.any (a : Stp S.length S μ H F S1 μ1 H1 F1) : Stp L S μ H F S1 μ1 H1 F1 := ⟨a.f, a.le, a.mu, a.keep, a.nF, a.nC, a.dom, fun n _ o o' e1 => a.cl n (List.getElem?_eq_some_iff.mp e1).1 o o' e1, a.lk⟩
theorem Own.nil : Own [] H0 F μ S := ⟨List.nodup_nil, fun _ h => by cases h⟩
theorem Own.start (o : Own as H1 F μ S) (dom : ∀ a, H1 a = none → H0 a = none) : Own as H0 F μ S := ⟨o.nd, fun a ha => let ⟨x, y, z⟩ := o.fr a ha; ⟨dom a x, y, z⟩⟩
/-- what is owned stays so -/
theorem RepN.keep {v : V} {d : D} (r : RepN K S1.length μ1 F1 H1 v d as) (o : Own as H0 F1 μ1 S1) (P : Stp L S1 μ1 H1 F1 S2 μ2 H2 F2) : RepN K S2.length μ2 F2 H2 v d as ∧ Own as H0 F2 μ2 S2 := by
  refine ⟨r.mono P.le P.mu P.f fun b u hb e => P.keep b u e fun n hn => (o.fr b hb).2.2 n hn, o.nd, fun a ha => ?_⟩
  obtain ⟨z1, z2, z3⟩ := o.fr a ha
  obtain ⟨u, hu⟩ := r.there a ha
  refine ⟨z1, ?_, fun n hn z => ?_⟩
  · cases q : F2 a with
    | none => rfl
    | some w =>
      rw [P.nF a w q z2] at hu
      cases hu
  · by_cases h : n < S1.length
    · exact z3 n h ((P.mu n h).symm.trans z)
    · have := P.nC n (Nat.le_of_not_lt h) hn
      rw [z, hu] at this
      cases this
theorem RepNs.keep {vs : List V} {ds : List D} (r : RepNs K S1.length μ1 F1 H1 vs ds as) (o : Own as H0 F1 μ1 S1) (P : Stp L S1 μ1 H1 F1 S2 μ2 H2 F2) : RepNs K S2.length μ2 F2 H2 vs ds as ∧ Own as H0 F2 μ2 S2 := by
  refine ⟨r.mono P.le P.mu P.f fun b u hb e => P.keep b u e fun n hn => (o.fr b hb).2.2 n hn, o.nd, fun a ha => ?_⟩
  obtain ⟨z1, z2, z3⟩ := o.fr a ha
  obtain ⟨u, hu⟩ := r.there a ha
  refine ⟨z1, ?_, fun n hn z => ?_⟩
  · cases q : F2 a with
    | none => rfl
    | some w =>
      rw [P.nF a w q z2] at hu
      cases hu
  · by_cases h : n < S1.length
    · exact z3 n h ((P.mu n h).symm.trans z)
    · have := P.nC n (Nat.le_of_not_lt h) hn
      rw [z, hu] at this
      cases this
/-- two that are owned, one made behind the other -/
theorem Own.app (a : Own as H0 F μ S) (b : Own bs H1 F μ S) (dom : ∀ x, H1 x = none → H0 x = none) (th : ∀ x ∈ as, ∃ o, H1 x = some o) : Own (as ++ bs) H0 F μ S := by
  refine ⟨List.nodup_append.mpr ⟨a.nd, b.nd, fun x hx y hy e => ?_⟩, fun x hx => ?_⟩
  · subst e
    obtain ⟨o, ho⟩ := th x hx
    rw [(b.fr x hy).1] at ho
    cases ho
  · rcases List.mem_append.mp hx with h | h
    · exact a.fr x h
    · exact (b.start dom).fr x h
theorem stp_there (P : Stp L S1 μ1 H1 F1 S2 μ2 H2 F2) {a : Addr} {o : HO} (h : H1 a = some o) : ∃ u, H2 a = some u := by
  cases q : H2 a with
  | some u => exact ⟨u, rfl⟩
  | none =>
    rw [P.dom a q] at h
    cases h

/-! ### the heap grows -/
theorem sub_keep (s : Sub F H) (k : ∀ b o, H b = some o → F b ≠ none → H1 b = some o) : Sub F H1 := fun a o e => now_keep (fun u z => k a u z (by rw [e]; intro y; cases y)) (s a o e)
/-- a new object of the heap -/
theorem Hs.laid (A : Hs K S μ H F) {p : Addr} {o : HO} (hp : H p = none) : Hs K S μ (upd H p o) F where
  sub := sub_keep A.sub fun b u e _ => by
    rw [upd_ne (ne_of_none e hp)]
    exact e
  ce := fun n u e => by
    obtain ⟨ho, h1, h2⟩ := A.ce n u e
    exact ⟨ho, by rw [upd_ne (ne_of_none h1 hp)]; exact h1, h2⟩
  out := A.out
  inj := A.inj
  tb := A.tb
theorem free_F (s : Sub F H) {p : Addr} (hp : H p = none) : F p = none := by
  cases q : F p with
  | none => rfl
  | some u =>
    obtain ⟨w, hw⟩ := now_some (s p u q)
    rw [hp] at hw
    cases hw
theorem free_C (A : Hs K S μ H F) {p : Addr} (hp : H p = none) : ∀ n, n < S.length → μ n ≠ p := fun n hn z => by
  obtain ⟨ho, h1, _⟩ := A.ce n _ (List.getElem?_eq_getElem hn)
  rw [z, hp] at h1
  cases h1
theorem stp_laid {p : Addr} {o : HO} (hp : H p = none) : Stp L S μ H F S μ (upd H p o) F where
  f := fun _ _ h => h
  le := Nat.le_refl _
  mu := fun _ _ => rfl
  keep := fun b u e _ => by
    rw [upd_ne (ne_of_none e hp)]
    exact e
  nF := fun a u e q => by
    rw [e] at q
    cases q
  nC := fun n h1 h2 => absurd h2 (Nat.not_lt.mpr h1)
  dom := fun a e => by
    by_cases h : a = p
    · rw [h]; exact hp
    · rw [upd_ne h] at e; exact e
  cl := fun n _ o o' e1 e2 B h => by
    rw [e1] at e2
    cases e2
    exact h
  lk := fun n o e => ⟨e, fun u z => by
    rw [upd_ne (ne_of_none z hp)]
    exact z⟩
theorem own_new (A : Hs K S μ H F) {p : Addr} (hp : H p = none) : Own [p] H F μ S := ⟨List.nodup_cons.mpr ⟨(fun h => by cases h), List.nodup_nil⟩, fun a ha => by
  rw [List.mem_singleton.mp ha]
  exact ⟨hp, free_F A.sub hp, free_C A hp⟩⟩
/-- the frozen part grows -/
theorem Hs.more (A : Hs K S μ H F) (f : Same F F1) (s : Sub F1 H) (n : ∀ m, m < S.length → F1 (μ m) = none) : Hs K S μ H F1 := ⟨s, fun m o e => let ⟨ho, h1, h2⟩ := A.ce m o e; ⟨ho, h1, h2.mono (Nat.le_refl _) (fun _ _ => rfl) f⟩, n, A.inj, A.tb⟩
theorem Ab.hsof (A : Ab K fr S μ σ H F) (P : Stp L S μ H F S1 μ1 H1 F1) (h : Hs K S1 μ1 H1 F1) : Ab K fr S1 μ1 σ H1 F1 := ⟨h, A.len, fun i d e => let ⟨v, e1, r⟩ := A.sl i d e; ⟨v, e1, r.mono P.le P.mu P.f⟩⟩

/-! ### freezing -/
def frz (F H : Hp) (as : List Addr) : Hp := fun b => if b ∈ as then H b else F b
theorem frz_in {b : Addr} (h : b ∈ as) : frz F H as b = H b := if_pos h
theorem frz_out {b : Addr} (h : b ∉ as) : frz F H as b = F b := if_neg h
theorem froK_rep {Fx : Hp} (sf : Same F Fx) : ∀ {vs : List (Key × V)} {kvs : List (Key × List T)} {as : List Addr}, (∀ a ∈ as, Fx a = H a) → RepNK K F H vs kvs as → RepK K (At Fx) vs (froK kvs)
  | _, _, _, _, .nil => .nil
  | _, _, _, m, .cons h1 h2 h3 => .cons (.lst ((m _ List.mem_cons_self).trans h1) (h2.mono (at_mono sf))) (froK_rep sf (fun a ha => m a (List.mem_cons_of_mem _ ha)) h3)
mutual
theorem fz_rep {cs : List Addr} (sf : Same F (frz F H cs)) : ∀ {k : Nat} {v : V} {d : D} {as : List Addr} {x : T}, RepN K S.length μ F H v d as → (∀ a ∈ as, a ∈ cs) → fz k d = some x → Rep K (At (frz F H cs)) v x
  | k, _, _, _, x, .c (.t r), _, e => by
    cases k <;> (cases e; exact r.mono (at_mono sf))
  | k, _, _, _, x, .c (.cell _), _, e => by
    cases k <;> cases e
  | k, _, _, _, x, .new h1 h2, m, e => by
    cases k <;> (cases e; exact .lst ((frz_in (m _ (List.mem_singleton.mpr rfl))).trans h1) (h2.mono (at_mono sf)))
  | k, _, _, _, x, .newd h1 h2, m, e => by
    cases k <;> (cases e; exact .dic ((frz_in (m _ (List.mem_singleton.mpr rfl))).trans h1) (h2.mono (at_mono sf)))
  | k, _, _, _, x, .newk h1 h2, m, e => by
    cases k <;> (cases e; exact .dic ((frz_in (m _ List.mem_cons_self)).trans h1) (froK_rep sf (fun a ha => (frz_in (m _ (List.mem_cons_of_mem _ ha)))) h2))
  | 0, _, _, _, x, .newo h1 h2, m, e => by cases e
  | 0, _, _, _, x, .tupo h1 h2, m, e => by cases e
  | k + 1, _, .newo ds, _, x, .newo h1 h2, m, e => by
    have e' : (mapO (fz k) ds).map T.lst = some x := e
    cases q : mapO (fz k) ds with
    | none =>
      rw [q] at e'
      cases e'
    | some ys =>
      rw [q] at e'
      cases e'
      exact .lst ((frz_in (m _ List.mem_cons_self)).trans h1) (fzs_rep sf h2 (fun a ha => m a (List.mem_cons_of_mem _ ha)) q)
  | k + 1, _, .tupo ds, _, x, .tupo h1 h2, m, e => by
    have e' : (mapO (fz k) ds).map T.tup = some x := e
    cases q : mapO (fz k) ds with
    | none =>
      rw [q] at e'
      cases e'
    | some ys =>
      rw [q] at e'
      cases e'
      exact .tup ((frz_in (m _ List.mem_cons_self)).trans h1) (fzs_rep sf h2 (fun a ha => m a (List.mem_cons_of_mem _ ha)) q)
theorem fzs_rep {cs : List Addr} (sf : Same F (frz F H cs)) : ∀ {k : Nat} {vs : List V} {ds : List D} {as : List Addr} {xs : List T}, RepNs K S.length μ F H vs ds as → (∀ a ∈ as, a ∈ cs) → mapO (fz k) ds = some xs → RepL K (At (frz F H cs)) vs xs
  | _, _, _, _, _, .nil, _, e => by
    cases e
    exact .nil
  | k, _, d :: ds, _, xs, .cons h1 h2, m, e => by
    unfold mapO at e
    cases q : fz k d with
    | none =>
      rw [q] at e
      cases e
    | some y =>
      rw [q] at e
      have e' : (mapO (fz k) ds).map (y :: ·) = some xs := e
      cases q2 : mapO (fz k) ds with
      | none =>
        rw [q2] at e'
        cases e'
      | some ys =>
        rw [q2] at e'
        cases e'
        exact .cons (fz_rep sf h1 (fun a ha => m a (List.mem_append_left _ ha)) q) (fzs_rep sf h2 (fun a ha => m a (List.mem_append_right _ ha)) q2)
end
theorem frz_same (fr : ∀ a ∈ as, F a = none) : Same F (frz F H as) := fun b o e => by
  by_cases hb : b ∈ as
  · rw [fr b hb] at e
    cases e
  · rw [frz_out hb]
    exact e
theorem frz_sub (s : Sub F H) : Sub (frz F H as) H := fun b o e => by
  by_cases hb : b ∈ as
  · rw [frz_in hb] at e
    exact .inl e
  · rw [frz_out hb] at e
    exact s _ _ e
/-- .. the state with some addresses frozen -/
theorem Hs.frz (A : Hs K S μ H F) (o : Own as H0 F μ S) : Hs K S μ H (frz F H as) :=
  A.more (frz_same fun a ha => (o.fr a ha).2.1) (frz_sub A.sub) fun m hm => by
    rw [frz_out fun z => (o.fr _ z).2.2 m hm rfl]
    exact A.out m hm
theorem stp_frz (P : Stp L S μ H0 F S1 μ1 H1 F1) (o : Own as H0 F1 μ1 S1) : Stp L S μ H0 F S1 μ1 H1 (frz F1 H1 as) :=
  { P with
    f := fun b u e => frz_same (fun a ha => (o.fr a ha).2.1) _ _ (P.f _ _ e)
    nF := fun a u e q => by
      by_cases ha : a ∈ as
      · exact (o.fr a ha).1
      · rw [frz_out ha] at e
        exact P.nF a u e q }

/-! ### laying into the store -/
def muS (μ : Nat → Addr) (n : Nat) (a : Addr) : Nat → Addr := fun m => if m = n then a else μ m
theorem muS_same {n : Nat} {a : Addr} : muS μ n a n = a := if_pos rfl
theorem muS_ne {n m : Nat} {a : Addr} (h : m ≠ n) : muS μ n a m = μ m := if_neg h
theorem muS_lt {n m : Nat} {a : Addr} (h : m < n) : muS μ n a m = μ m := if_neg (Nat.ne_of_lt h)
theorem get_snoc {α : Type} {l : List α} {x y : α} {n : Nat} (e : (l ++ [x])[n]? = some y) : (n < l.length ∧ l[n]? = some y) ∨ (n = l.length ∧ y = x) := by
  by_cases h : n < l.length
  · rw [List.getElem?_append_left h] at e
    exact .inl ⟨h, e⟩
  · rw [List.getElem?_append_right (Nat.le_of_not_lt h)] at e
    cases q : n - l.length with
    | zero =>
      rw [q] at e
      exact .inr ⟨by omega, (Option.some.inj e).symm⟩
    | succ m =>
      rw [q] at e
      cases e
theorem Hs.snoc (A : Hs K S μ H F) {a : Addr} {ho : HO} {o : Ob} (h1 : H a = some ho) (h2 : Con K S.length μ F o ho) (hF : F a = none) (hC : ∀ n, n < S.length → μ n ≠ a) (ht : ∀ P q, o ≠ .tbl P q := by intro _ _ z; cases z) : Hs K (S ++ [o]) (muS μ S.length a) H F where
  tb := fun n P q e => by
    rcases get_snoc e with ⟨hn, e⟩ | ⟨rfl, e2⟩
    · rw [muS_lt hn]
      exact A.tb n P q e
    · first | exact absurd e2 (ht P q) | exact absurd e2.symm (ht P q)
  sub := A.sub
  ce := fun n u e => by
    have le : S.length ≤ (S ++ [o]).length := by rw [List.length_append]; omega
    rcases get_snoc e with ⟨hn, e⟩ | ⟨rfl, rfl⟩
    · obtain ⟨ho', z1, z2⟩ := A.ce n u e
      exact ⟨ho', by rw [muS_lt hn]; exact z1, z2.mono le (fun m hm => muS_lt hm) fun _ _ h => h⟩
    · exact ⟨ho, by rw [muS_same]; exact h1, h2.mono le (fun m hm => muS_lt hm) fun _ _ h => h⟩
  out := fun n hn => by
    rw [List.length_append] at hn
    by_cases h : n = S.length
    · rw [h, muS_same]
      exact hF
    · have hl : n < S.length := by simp only [List.length_cons, List.length_nil] at hn; omega
      rw [muS_lt hl]
      exact A.out n hl
  inj := fun n m hn hm e => by
    rw [List.length_append] at hn hm
    simp only [List.length_cons, List.length_nil] at hn hm
    by_cases h : n = S.length
    · by_cases h2 : m = S.length
      · rw [h, h2]
      · have hl : m < S.length := by omega
        rw [h, muS_same, muS_lt hl] at e
        exact absurd e.symm (hC m hl)
    · have hl : n < S.length := by omega
      rw [muS_lt hl] at e
      by_cases h2 : m = S.length
      · rw [h2, muS_same] at e
        exact absurd e (hC n hl)
      · have hl2 : m < S.length := by omega
        rw [muS_lt hl2] at e
        exact A.inj n m hl hl2 e
end
end Mi

set_option Elab.async false
set_option linter.all false
set_option maxRecDepth 100000
set_option maxHeartbeats 4000000
/-! N5: laid into the store; handed back -/
namespace Mi
open PySem L2
section
variable {K : PySem.W.Frag} {L L' : Nat} {S S1 S2 S3 : Store} {μ μ1 μ2 μ3 : Nat → Addr} {H H1 H2 H3 F F1 F2 F3 H0 : Hp} {as bs : List Addr} {fr : Frame} {σ : L2.St}
theorem sameF : Same F F := fun _ _ h => h
/-- what laying into the store comes to -/
structure Thw (K : PySem.W.Frag) (S : Store) (μ : Nat → Addr) (H F : Hp) (as : List Addr) (S' : Store) (μ' : Nat → Addr) : Prop where
  hs : Hs K S' μ' H F
  le : S.length ≤ S'.length
  mu : ∀ n, n < S.length → μ' n = μ n
  nw : ∀ n, S.length ≤ n → n < S'.length → μ' n ∈ as
  old : ∀ n, n < S.length → S'[n]? = S[n]?
theorem Thw.refl (A : Hs K S μ H F) : Thw K S μ H F as S μ := ⟨A, Nat.le_refl _, fun _ _ => rfl, fun n h1 h2 => absurd h2 (Nat.not_lt.mpr h1), fun _ _ => rfl⟩
theorem Thw.trans (a : Thw K S μ H F as S1 μ1) (b : Thw K S1 μ1 H F bs S2 μ2) : Thw K S μ H F (as ++ bs) S2 μ2 :=
  ⟨b.hs, Nat.le_trans a.le b.le, fun n h => (b.mu n (Nat.lt_of_lt_of_le h a.le)).trans (a.mu n h), fun n h1 h2 => by
    by_cases h : n < S1.length
    · rw [b.mu n h]
      exact List.mem_append_left _ (a.nw n h1 h)
    · exact List.mem_append_right _ (b.nw n (Nat.le_of_not_lt h) h2), fun n h => (b.old n (Nat.lt_of_lt_of_le h a.le)).trans (a.old n h)⟩
theorem Thw.more (a : Thw K S μ H F as S1 μ1) (h : ∀ x ∈ as, x ∈ bs) : Thw K S μ H F bs S1 μ1 := ⟨a.hs, a.le, a.mu, fun n h1 h2 => h _ (a.nw n h1 h2), a.old⟩
theorem Thw.snoc (A : Hs K S μ H F) {a : Addr} {ho : HO} {o : Ob} (h1 : H a = some ho) (h2 : Con K S.length μ F o ho) (hF : F a = none) (hC : ∀ n, n < S.length → μ n ≠ a) (ht : ∀ P q, o ≠ .tbl P q := by intro _ _ z; cases z) : Thw K S μ H F [a] (S ++ [o]) (muS μ S.length a) where
  hs := A.snoc h1 h2 hF hC ht
  le := by rw [List.length_append]; omega
  mu := fun n h => muS_lt h
  nw := fun n h1 h2 => by
    rw [List.length_append, List.length_cons, List.length_nil] at h2
    have e : n = S.length := by omega
    rw [e, muS_same]
    exact List.mem_singleton.mpr rfl
  old := fun n h => List.getElem?_append_left h
theorem Thw.stp (t : Thw K S1 μ1 H1 F1 as S2 μ2) (P : Stp L S μ H F S1 μ1 H1 F1) (fr : ∀ a ∈ as, H a = none) : Stp L S μ H F S2 μ2 H1 F1 where
  f := P.f
  le := Nat.le_trans P.le t.le
  mu := fun n h => (t.mu n (Nat.lt_of_lt_of_le h P.le)).trans (P.mu n h)
  keep := P.keep
  nF := P.nF
  nC := fun n h1 h2 => by
    by_cases h : n < S1.length
    · rw [t.mu n h]
      exact P.nC n h1 h
    · exact fr _ (t.nw n (Nat.le_of_not_lt h) h2)
  dom := P.dom
  cl := fun n hn o o' e1 e2 => by
    have hl : n < S.length := (List.getElem?_eq_some_iff.mp e1).1
    rw [t.old n (Nat.lt_of_lt_of_le hl P.le)] at e2
    exact P.cl n hn o o' e1 e2
  lk := fun n o e => by
    have hl : n < S.length := (List.getElem?_eq_some_iff.mp e).1
    obtain ⟨e1, k1⟩ := P.lk n o e
    exact ⟨by rw [t.old n (Nat.lt_of_lt_of_le hl P.le)]; exact e1, k1⟩
theorem own_sub (o : Own as H0 F μ S) (t : Thw K S μ H F bs S1 μ1) (h : ∀ a ∈ as, a ∉ bs) : Own as H0 F μ1 S1 := ⟨o.nd, fun a ha => by
  obtain ⟨z1, z2, z3⟩ := o.fr a ha
  refine ⟨z1, z2, fun n hn z => ?_⟩
  by_cases hl : n < S.length
  · exact z3 n hl ((t.mu n hl).symm.trans z)
  · exact h a ha (by rw [← z]; exact t.nw n (Nat.le_of_not_lt hl) hn)⟩
theorem Own.left (o : Own (as ++ bs) H0 F μ S) : Own as H0 F μ S := ⟨(List.nodup_append.mp o.nd).1, fun a ha => o.fr a (List.mem_append_left _ ha)⟩
theorem Own.right (o : Own (as ++ bs) H0 F μ S) : Own bs H0 F μ S := ⟨(List.nodup_append.mp o.nd).2.1, fun a ha => o.fr a (List.mem_append_right _ ha)⟩
theorem Own.apart (o : Own (as ++ bs) H0 F μ S) : ∀ a ∈ bs, a ∉ as := fun a hb ha => (List.nodup_append.mp o.nd).2.2 a ha a hb rfl
theorem Own.tail {a : Addr} (o : Own (a :: as) H0 F μ S) : Own as H0 F μ S := Own.right (as := [a]) o
theorem cell_new {a : Addr} {o : Ob} : RepC K (S ++ [o]).length (muS μ S.length a) F (.ref a) (.cell S.length) := by
  have c := RepC.cell (K := K) (N := (S ++ [o]).length) (μ := muS μ S.length a) (F := F) (n := S.length) (by rw [List.length_append]; exact Nat.lt_succ_self _)
  rw [muS_same] at c
  exact c
def ThawOk (K : PySem.W.Frag) (k : Nat) : Prop := ∀ {d : D} {S : Store} {d' : D} {S' : Store} {μ : Nat → Addr} {H F H0 : Hp} {v : V} {as : List Addr}, thaw k d S = some (d', S') → Hs K S μ H F → RepN K S.length μ F H v d as → Own as H0 F μ S → ∃ μ', Thw K S μ H F as S' μ' ∧ RepC K S'.length μ' F v d'
theorem thaws_ok {k : Nat} (T : ThawOk K k) : ∀ {ds : List D} {S : Store} {ds' : List D} {S' : Store} {μ : Nat → Addr} {H F H0 : Hp} {vs : List V} {as : List Addr}, mapS (thaw k) ds S = some (ds', S') → Hs K S μ H F → RepNs K S.length μ F H vs ds as → Own as H0 F μ S → ∃ μ', Thw K S μ H F as S' μ' ∧ RepCs K S'.length μ' F vs ds'
  | [], S, ds', S', μ, H, F, H0, vs, as, e, A, r, o => by
    cases e
    cases r
    exact ⟨μ, .refl A, .nil⟩
  | d :: ds, S, ds', S', μ, H, F, H0, vs, as, e, A, r, o => by
    cases r with
    | cons r1 r2 =>
      unfold mapS at e
      split at e
      · rename_i y S1 e1
        split at e
        · rename_i ys S2 e2
          cases e
          obtain ⟨μ1, t1, c1⟩ := T e1 A r1 o.left
          have r2' := r2.mono t1.le t1.mu sameF (H' := H) fun _ _ _ h => h
          obtain ⟨μ2, t2, c2⟩ := thaws_ok T e2 t1.hs r2' (own_sub o.right t1 o.apart)
          exact ⟨μ2, t1.trans t2, .cons (c1.mono t2.le t2.mu sameF) c2⟩
        · cases e
      · cases e
theorem thawK_ok : ∀ {kvs : List (Key × List T)} {S : Store} {μ : Nat → Addr} {H F H0 : Hp} {vs : List (Key × V)} {as : List Addr}, Hs K S μ H F → RepNK K F H vs kvs as → Own as H0 F μ S → ∃ μ', Thw K S μ H F as (S ++ lstsK kvs) μ' ∧ RepCK K (S ++ lstsK kvs).length μ' F vs (cellsK S.length kvs)
  | [], S, μ, H, F, H0, vs, as, A, r, o => by
    cases r
    refine ⟨μ, ?_, .nil⟩
    rw [show S ++ lstsK [] = S from List.append_nil S]
    exact .refl A
  | (k, xs) :: kvs, S, μ, H, F, H0, vs, as, A, r, o => by
    cases r with
    | cons h1 h2 h3 =>
      obtain ⟨z1, z2, z3⟩ := o.fr _ List.mem_cons_self
      have t1 := Thw.snoc A h1 (show Con K S.length μ F (.lst xs) _ from h2) z2 z3
      have nd := List.nodup_cons.mp o.nd
      obtain ⟨μ2, t2, c2⟩ := thawK_ok t1.hs h3 (own_sub o.tail t1 fun a ha hb => nd.1 (by rw [List.mem_singleton.mp hb] at ha; exact ha))
      have e : S ++ [Ob.lst xs] ++ lstsK kvs = S ++ lstsK ((k, xs) :: kvs) := by
        rw [List.append_assoc]
        rfl
      have el : (S ++ [Ob.lst xs]).length = S.length + 1 := by rw [List.length_append]; rfl
      rw [e] at t2 c2
      rw [el] at c2
      refine ⟨μ2, (t1.trans t2).more fun x hx => ?_, .cons ?_ c2⟩
      · rcases List.mem_append.mp hx with h | h
        · rw [List.mem_singleton.mp h]
          exact List.mem_cons_self
        · exact List.mem_cons_of_mem _ h
      · exact (cell_new (o := .lst xs)).mono t2.le t2.mu sameF
theorem thaw_ok : ∀ k, ThawOk K k
  | k, .newk kvs, S, d', S', μ, H, F, H0, v, as, e, A, r, o => by
    have e' : some (D.cell (S ++ lstsK kvs).length, S ++ lstsK kvs ++ [Ob.dico (cellsK S.length kvs)]) = some (d', S') := by cases k <;> exact e
    cases e'
    cases r with
    | c r => cases r
    | newk h1 h2 =>
      obtain ⟨μ1, t1, c1⟩ := thawK_ok A h2 o.tail
      obtain ⟨z1, z2, z3⟩ := o.fr _ List.mem_cons_self
      have nd := List.nodup_cons.mp o.nd
      have z3' : ∀ n, n < (S ++ lstsK kvs).length → μ1 n ≠ _ := fun n hn z => by
        by_cases hl : n < S.length
        · exact z3 n hl ((t1.mu n hl).symm.trans z)
        · exact nd.1 (by rw [← z]; exact t1.nw n (Nat.le_of_not_lt hl) hn)
      refine ⟨_, (t1.trans (Thw.snoc t1.hs h1 (show Con K _ _ _ (.dico (cellsK S.length kvs)) _ from c1) z2 z3')).more fun x hx => ?_, ?_⟩
      · rcases List.mem_append.mp hx with h | h
        · exact List.mem_cons_of_mem _ h
        · rw [List.mem_singleton.mp h]
          exact List.mem_cons_self
      · exact cell_new
  | k, .t x, S, d', S', μ, H, F, H0, v, as, e, A, r, o => by
    have e' : some (D.t x, S) = some (d', S') := by cases k <;> exact e
    cases e'
    cases r with
    | c r => exact ⟨μ, .refl A, r⟩
  | k, .cell n, S, d', S', μ, H, F, H0, v, as, e, A, r, o => by
    have e' : some (D.cell n, S) = some (d', S') := by cases k <;> exact e
    cases e'
    cases r with
    | c r => exact ⟨μ, .refl A, r⟩
  | k, .new xs, S, d', S', μ, H, F, H0, v, as, e, A, r, o => by
    have e' : some (D.cell S.length, S ++ [Ob.lst xs]) = some (d', S') := by cases k <;> exact e
    cases e'
    cases r with
    | c r => cases r
    | new h1 h2 =>
      obtain ⟨z1, z2, z3⟩ := o.fr _ (List.mem_singleton.mpr rfl)
      refine ⟨_, Thw.snoc A h1 h2 z2 z3, ?_⟩
      exact cell_new
  | k, .newd xs, S, d', S', μ, H, F, H0, v, as, e, A, r, o => by
    have e' : some (D.cell S.length, S ++ [Ob.dic xs]) = some (d', S') := by cases k <;> exact e
    cases e'
    cases r with
    | c r => cases r
    | newd h1 h2 =>
      obtain ⟨z1, z2, z3⟩ := o.fr _ (List.mem_singleton.mpr rfl)
      refine ⟨_, Thw.snoc A h1 h2 z2 z3, ?_⟩
      exact cell_new
  | 0, .newo ds, S, d', S', μ, H, F, H0, v, as, e, A, r, o => by cases e
  | 0, .tupo ds, S, d', S', μ, H, F, H0, v, as, e, A, r, o => by cases e
  | k + 1, .newo ds, S, d', S', μ, H, F, H0, v, as, e, A, r, o => by
    unfold thaw at e
    split at e
    · rename_i es S1 e1
      cases e
      cases r with
      | c r => cases r
      | newo h1 h2 =>
        obtain ⟨μ1, t1, c1⟩ := thaws_ok (thaw_ok k) e1 A h2 o.tail
        obtain ⟨z1, z2, z3⟩ := o.fr _ List.mem_cons_self
        have nd := List.nodup_cons.mp o.nd
        have z3' : ∀ n, n < S1.length → μ1 n ≠ _ := fun n hn z => by
          by_cases hl : n < S.length
          · exact z3 n hl ((t1.mu n hl).symm.trans z)
          · exact nd.1 (by rw [← z]; exact t1.nw n (Nat.le_of_not_lt hl) hn)
        refine ⟨_, (t1.trans (Thw.snoc t1.hs h1 (show Con K _ _ _ (.lsto es) _ from c1) z2 z3')).more fun x hx => ?_, ?_⟩
        · rcases List.mem_append.mp hx with h | h
          · exact List.mem_cons_of_mem _ h
          · rw [List.mem_singleton.mp h]
            exact List.mem_cons_self
        · exact cell_new
    · cases e
  | k + 1, .tupo ds, S, d', S', μ, H, F, H0, v, as, e, A, r, o => by
    unfold thaw at e
    split at e
    · rename_i es S1 e1
      cases e
      cases r with
      | c r => cases r
      | tupo h1 h2 =>
        obtain ⟨μ1, t1, c1⟩ := thaws_ok (thaw_ok k) e1 A h2 o.tail
        obtain ⟨z1, z2, z3⟩ := o.fr _ List.mem_cons_self
        have nd := List.nodup_cons.mp o.nd
        have z3' : ∀ n, n < S1.length → μ1 n ≠ _ := fun n hn z => by
          by_cases hl : n < S.length
          · exact z3 n hl ((t1.mu n hl).symm.trans z)
          · exact nd.1 (by rw [← z]; exact t1.nw n (Nat.le_of_not_lt hl) hn)
        refine ⟨_, (t1.trans (Thw.snoc t1.hs h1 (show Con K _ _ _ (.tupo es) _ from c1) z2 z3')).more fun x hx => ?_, ?_⟩
        · rcases List.mem_append.mp hx with h | h
          · exact List.mem_cons_of_mem _ h
          · rw [List.mem_singleton.mp h]
            exact List.mem_cons_self
        · exact cell_new
    · cases e

/-! ### handed back -/
theorem RepCs.toN : ∀ {vs : List V} {ds : List D} {N : Nat}, RepCs K N μ F vs ds → RepNs K N μ F H vs ds []
  | _, _, _, .nil => .nil
  | _, _, _, .cons h t => .cons (as := []) (bs := []) (.c h) (RepCs.toN t)
/-- what the moved addresses are -/
def MvO (S : Store) (L : Nat) (μ : Nat → Addr) (sn sn' : List Nat) (as as' : List Addr) : Prop := as'.Nodup ∧ (∀ n ∈ sn, n ∈ sn') ∧ ∀ a ∈ as', a ∈ as ∨ ∃ n, n ∈ sn' ∧ n ∉ sn ∧ L ≤ n ∧ n < S.length ∧ a = μ n
def MvOk (K : PySem.W.Frag) (k : Nat) : Prop := ∀ {S : Store} {L : Nat} {sn : List Nat} {d d' : D} {sn' : List Nat} {μ : Nat → Addr} {H F H0 : Hp} {v : V} {as : List Addr}, mv k S L sn d = some (d', sn') → Hs K S μ H F → RepN K S.length μ F H v d as → Own as H0 F μ S → ∃ as', RepN K L μ F H v d' as' ∧ MvO S L μ sn sn' as as'
theorem mvs_ok {k : Nat} (M : MvOk K k) {S : Store} {L : Nat} {μ : Nat → Addr} {H F H0 : Hp} (A : Hs K S μ H F) : ∀ {ds ds' : List D} {sn sn' : List Nat} {vs : List V} {as : List Addr}, mapM2 (mv k S L) sn ds = some (ds', sn') → RepNs K S.length μ F H vs ds as → Own as H0 F μ S → ∃ as', RepNs K L μ F H vs ds' as' ∧ MvO S L μ sn sn' as as'
  | [], ds', sn, sn', vs, as, e, r, o => by
    cases e
    cases r
    exact ⟨[], .nil, List.nodup_nil, fun _ h => h, fun _ h => by cases h⟩
  | d :: ds, ds', sn, sn', vs, as, e, r, o => by
    cases r with
    | cons r1 r2 =>
      unfold mapM2 at e
      split at e
      · rename_i y s1 e1
        split at e
        · rename_i ys s2 e2
          cases e
          obtain ⟨a1, q1, n1, i1, f1⟩ := M e1 A r1 o.left
          obtain ⟨a2, q2, n2, i2, f2⟩ := mvs_ok M A e2 r2 o.right
          refine ⟨a1 ++ a2, .cons q1 q2, List.nodup_append.mpr ⟨n1, n2, fun a ha b hb z => ?_⟩, fun n h => i2 n (i1 n h), fun a ha => ?_⟩
          · subst z
            rcases f1 a ha with h | ⟨n, h1, h2, h3, h4, h5⟩
            · rcases f2 a hb with g | ⟨m, g1, g2, g3, g4, g5⟩
              · exact o.apart a g h
              · exact (o.left.fr a h).2.2 m g4 g5.symm
            · rcases f2 a hb with g | ⟨m, g1, g2, g3, g4, g5⟩
              · exact (o.right.fr a g).2.2 n h4 h5.symm
              · have e := A.inj n m h4 g4 (h5.symm.trans g5)
                rw [e] at h1
                exact g2 h1
          · rcases List.mem_append.mp ha with h | h
            · rcases f1 a h with g | ⟨n, h1, h2, h3⟩
              · exact .inl (List.mem_append_left _ g)
              · exact .inr ⟨n, i2 n h1, h2, h3⟩
            · rcases f2 a h with g | ⟨n, h1, h2, h3⟩
              · exact .inl (List.mem_append_right _ g)
              · exact .inr ⟨n, h1, fun z => h2 (i1 n z), h3⟩
        · cases e
      · cases e
theorem mv_ok : ∀ k, MvOk K k
  | k, S, L, sn, .t x, d', sn', μ, H, F, H0, v, as, e, A, r, o => by
    have e' : some (D.t x, sn) = some (d', sn') := by cases k <;> exact e
    cases e'
    cases r with
    | c r =>
      cases r with
      | t r => exact ⟨[], .c (.t r), List.nodup_nil, fun _ h => h, fun _ h => by cases h⟩
  | k, S, L, sn, .new xs, d', sn', μ, H, F, H0, v, as, e, A, r, o => by
    have e' : some (D.new xs, sn) = some (d', sn') := by cases k <;> exact e
    cases e'
    cases r with
    | c r => cases r
    | new h1 h2 => exact ⟨_, .new h1 h2, o.nd, fun _ h => h, fun _ h => .inl h⟩
  | k, S, L, sn, .newd xs, d', sn', μ, H, F, H0, v, as, e, A, r, o => by
    have e' : some (D.newd xs, sn) = some (d', sn') := by cases k <;> exact e
    cases e'
    cases r with
    | c r => cases r
    | newd h1 h2 => exact ⟨_, .newd h1 h2, o.nd, fun _ h => h, fun _ h => .inl h⟩
  | k, S, L, sn, .newk xs, d', sn', μ, H, F, H0, v, as, e, A, r, o => by
    have e' : some (D.newk xs, sn) = some (d', sn') := by cases k <;> exact e
    cases e'
    cases r with
    | c r => cases r
    | newk h1 h2 => exact ⟨_, .newk h1 h2, o.nd, fun _ h => h, fun _ h => .inl h⟩
  | 0, S, L, sn, .newo ds, d', sn', μ, H, F, H0, v, as, e, A, r, o => by cases e
  | 0, S, L, sn, .tupo ds, d', sn', μ, H, F, H0, v, as, e, A, r, o => by cases e
  | 0, S, L, sn, .cell n, d', sn', μ, H, F, H0, v, as, e, A, r, o => by cases e
  | k + 1, S, L, sn, .newo ds, d', sn', μ, H, F, H0, v, as, e, A, r, o => by
    have e' : (mapM2 (mv k S L) sn ds).map (fun p => (D.newo p.1, p.2)) = some (d', sn') := e
    cases q : mapM2 (mv k S L) sn ds with
    | none =>
      rw [q] at e'
      cases e'
    | some p =>
      rw [q] at e'
      cases e'
      cases r with
      | c r => cases r
      | newo h1 h2 =>
        obtain ⟨as', q1, q2, q3, q4⟩ := mvs_ok (mv_ok k) A q h2 o.tail
        have hd := o.fr _ List.mem_cons_self
        refine ⟨_ :: as', .newo h1 q1, List.nodup_cons.mpr ⟨fun z => ?_, q2⟩, q3, fun a ha => ?_⟩
        · rcases q4 _ z with g | ⟨n, _, _, _, g4, g5⟩
          · exact (List.nodup_cons.mp o.nd).1 g
          · exact hd.2.2 n g4 g5.symm
        · rcases List.mem_cons.mp ha with rfl | ha
          · exact .inl List.mem_cons_self
          · exact (q4 a ha).imp (List.mem_cons_of_mem _) id
  | k + 1, S, L, sn, .tupo ds, d', sn', μ, H, F, H0, v, as, e, A, r, o => by
    have e' : (mapM2 (mv k S L) sn ds).map (fun p => (D.tupo p.1, p.2)) = some (d', sn') := e
    cases q : mapM2 (mv k S L) sn ds with
    | none =>
      rw [q] at e'
      cases e'
    | some p =>
      rw [q] at e'
      cases e'
      cases r with
      | c r => cases r
      | tupo h1 h2 =>
        obtain ⟨as', q1, q2, q3, q4⟩ := mvs_ok (mv_ok k) A q h2 o.tail
        have hd := o.fr _ List.mem_cons_self
        refine ⟨_ :: as', .tupo h1 q1, List.nodup_cons.mpr ⟨fun z => ?_, q2⟩, q3, fun a ha => ?_⟩
        · rcases q4 _ z with g | ⟨n, _, _, _, g4, g5⟩
          · exact (List.nodup_cons.mp o.nd).1 g
          · exact hd.2.2 n g4 g5.symm
        · rcases List.mem_cons.mp ha with rfl | ha
          · exact .inl List.mem_cons_self
          · exact (q4 a ha).imp (List.mem_cons_of_mem _) id
  | k + 1, S, L, sn, .cell n, d', sn', μ, H, F, H0, v, as, e, A, r, o => by
    cases r with
    | c r =>
      cases r with
      | cell hn =>
        unfold mv at e
        split at e
        · rename_i hL
          cases e
          exact ⟨[], .c (.cell hL), List.nodup_nil, fun _ h => h, fun _ h => by cases h⟩
        · rename_i hL
          split at e
          · cases e
          · rename_i hs
            have hs' : n ∉ sn := fun z => hs (List.contains_iff_mem.mpr z)
            have mem : ∀ m ∈ sn, m ∈ n :: sn := fun m h => List.mem_cons_of_mem _ h
            -- a cell whose things are unfrozen
            have core : ∀ {ds : List D} {vs : List V} {p : List D × List Nat}, RepCs K S.length μ F vs ds → mapM2 (mv k S L) (n :: sn) ds = some p → ∃ as', RepNs K L μ F H vs p.1 as' ∧ (μ n :: as').Nodup ∧ (∀ m ∈ sn, m ∈ p.2) ∧ ∀ a ∈ μ n :: as', ∃ m, m ∈ p.2 ∧ m ∉ sn ∧ L ≤ m ∧ m < S.length ∧ a = μ m := fun {ds vs p} hc q => by
              obtain ⟨as', q1, q2, q3, q4⟩ := mvs_ok (H0 := H0) (mv_ok k) A q hc.toN .nil
              have q4' : ∀ a ∈ as', ∃ m, m ∈ p.2 ∧ m ∉ n :: sn ∧ L ≤ m ∧ m < S.length ∧ a = μ m := fun a ha => (q4 a ha).elim (fun z => by cases z) id
              refine ⟨as', q1, List.nodup_cons.mpr ⟨fun z => ?_, q2⟩, fun m h => q3 m (mem m h), fun a ha => ?_⟩
              · obtain ⟨m, g1, g2, g3, g4, g5⟩ := q4' _ z
                have e := A.inj n m hn g4 g5
                exact g2 (e ▸ List.mem_cons_self)
              · rcases List.mem_cons.mp ha with rfl | ha
                · exact ⟨n, q3 n List.mem_cons_self, hs', Nat.le_of_not_lt hL, hn, rfl⟩
                · obtain ⟨m, g1, g2, g3⟩ := q4' a ha
                  exact ⟨m, g1, fun z => g2 (mem m z), g3⟩
            split at e
            · rename_i xs ho
              cases e
              obtain ⟨w, h1, h2⟩ := A.ce n _ ho
              cases w <;> first | exact h2.elim | skip
              exact ⟨[μ n], .new h1 h2, List.nodup_cons.mpr ⟨(fun h => by cases h), List.nodup_nil⟩, mem, fun a ha => .inr ⟨n, List.mem_cons_self, hs', Nat.le_of_not_lt hL, hn, List.mem_singleton.mp ha⟩⟩
            · rename_i xs ho
              cases e
              obtain ⟨w, h1, h2⟩ := A.ce n _ ho
              cases w <;> first | exact h2.elim | skip
              exact ⟨[μ n], .newd h1 h2, List.nodup_cons.mpr ⟨(fun h => by cases h), List.nodup_nil⟩, mem, fun a ha => .inr ⟨n, List.mem_cons_self, hs', Nat.le_of_not_lt hL, hn, List.mem_singleton.mp ha⟩⟩
            · rename_i ds ho
              obtain ⟨w, h1, h2⟩ := A.ce n _ ho
              cases w <;> first | exact h2.elim | skip
              cases q : mapM2 (mv k S L) (n :: sn) ds with
              | none =>
                rw [q] at e
                cases e
              | some p =>
                rw [q] at e
                cases e
                obtain ⟨as', q1, q2, q3, q4⟩ := core h2 q
                exact ⟨μ n :: as', .newo h1 q1, q2, q3, fun a ha => .inr (q4 a ha)⟩
            · rename_i ds ho
              obtain ⟨w, h1, h2⟩ := A.ce n _ ho
              cases w <;> first | exact h2.elim | skip
              cases q : mapM2 (mv k S L) (n :: sn) ds with
              | none =>
                rw [q] at e
                cases e
              | some p =>
                rw [q] at e
                cases e
                obtain ⟨as', q1, q2, q3, q4⟩ := core h2 q
                exact ⟨μ n :: as', .tupo h1 q1, q2, q3, fun a ha => .inr (q4 a ha)⟩
            · cases e

/-! ### the store cut back -/
theorem RepC.lt {N : Nat} {v : V} {d : D} (r : RepC K N μ F v d) : d.lt N := by
  cases r with
  | t _ => trivial
  | cell h => exact h
theorem RepCs.lts {N : Nat} : ∀ {vs : List V} {ds : List D}, RepCs K N μ F vs ds → ∀ d ∈ ds, d.lt N
  | _, _, .nil, d, h => by cases h
  | _, _, .cons h t, d, hd => by
    rcases List.mem_cons.mp hd with rfl | hd
    · exact h.lt
    · exact RepCs.lts t d hd
theorem RepCK.lts {N : Nat} : ∀ {vs : List (Key × V)} {ds : List (Key × D)}, RepCK K N μ F vs ds → ∀ p ∈ ds, p.2.lt N
  | _, _, .nil, d, h => by cases h
  | _, _, .cons h t, d, hd => by
    rcases List.mem_cons.mp hd with rfl | hd
    · exact h.lt
    · exact RepCK.lts t d hd
theorem RepCF.lts {N : Nat} : ∀ {vs : List (Str × V)} {ds : List (Str × D)}, RepCF K N μ F vs ds → ∀ p ∈ ds, p.2.lt N
  | _, _, .nil, d, h => by cases h
  | _, _, .cons h t, d, hd => by
    rcases List.mem_cons.mp hd with rfl | hd
    · exact h.lt
    · exact RepCF.lts t d hd
theorem Con.lt {N : Nat} {o : Ob} {ho : HO} (c : Con K N μ F o ho) : o.lt N := by
  unfold Con at c
  split at c <;> first | trivial | exact RepCs.lts c | exact RepCK.lts c | exact RepCF.lts c.2 | exact c.elim
theorem RepC.cutN {N : Nat} {v : V} {d : D} (r : RepC K N μ F v d) (h : d.lt L) : RepC K L μ F v d := by
  cases r with
  | t r => exact .t r
  | cell _ => exact .cell h
theorem RepCs.cutN {N : Nat} : ∀ {vs : List V} {ds : List D}, RepCs K N μ F vs ds → (∀ d ∈ ds, d.lt L) → RepCs K L μ F vs ds
  | _, _, .nil, _ => .nil
  | _, _, .cons h t, k => .cons (h.cutN (k _ List.mem_cons_self)) (RepCs.cutN t fun d hd => k d (List.mem_cons_of_mem _ hd))
theorem RepCK.cutN {N : Nat} : ∀ {vs : List (Key × V)} {ds : List (Key × D)}, RepCK K N μ F vs ds → (∀ p ∈ ds, p.2.lt L) → RepCK K L μ F vs ds
  | _, _, .nil, _ => .nil
  | _, _, .cons h t, k => .cons (h.cutN (k _ List.mem_cons_self)) (RepCK.cutN t fun d hd => k d (List.mem_cons_of_mem _ hd))
theorem RepCF.cutN {N : Nat} : ∀ {vs : List (Str × V)} {ds : List (Str × D)}, RepCF K N μ F vs ds → (∀ p ∈ ds, p.2.lt L) → RepCF K L μ F vs ds
  | _, _, .nil, _ => .nil
  | _, _, .cons h t, k => .cons (h.cutN (k _ List.mem_cons_self)) (RepCF.cutN t fun d hd => k d (List.mem_cons_of_mem _ hd))
theorem Con.cutN {N : Nat} {o : Ob} {ho : HO} (c : Con K N μ F o ho) (h : o.lt L) : Con K L μ F o ho := by
  unfold Con at c ⊢
  split at c <;> first | exact c.elim | exact c | exact RepCs.cutN c h | exact RepCK.cutN c h | exact ⟨c.1, RepCF.cutN c.2 h⟩
theorem Hs.take (A : Hs K S μ H F) (hL : L ≤ S.length) (h : ∀ n, n < L → ∀ o, S[n]? = some o → o.lt L) : Hs K (S.take L) μ H F where
  sub := A.sub
  ce := fun n o e => by
    have hn : n < L := by
      have := (List.getElem?_eq_some_iff.mp e).1
      rw [List.length_take] at this
      omega
    rw [List.getElem?_take_of_lt hn] at e
    obtain ⟨ho, h1, h2⟩ := A.ce n o e
    rw [List.length_take, Nat.min_eq_left hL]
    exact ⟨ho, h1, h2.cutN (h n hn o e)⟩
  out := fun n hn => A.out n (by rw [List.length_take] at hn; omega)
  inj := fun n m hn hm e => by
    rw [List.length_take] at hn hm
    exact A.inj n m (by omega) (by omega) e
  tb := fun n P q e => by
    have hn : n < L := by
      have := (List.getElem?_eq_some_iff.mp e).1
      rw [List.length_take] at this
      omega
    rw [List.getElem?_take_of_lt hn] at e
    exact A.tb n P q e
theorem Stp.take (P : Stp L S μ H F S1 μ1 H1 F1) : Stp L S μ H F (S1.take S.length) μ1 H1 F1 where
  f := P.f
  le := by rw [List.length_take, Nat.min_eq_left P.le]; exact Nat.le_refl _
  mu := P.mu
  keep := P.keep
  nF := P.nF
  nC := fun n h1 h2 => by
    rw [List.length_take] at h2
    omega
  dom := P.dom
  cl := fun n hn o o' e1 e2 => by
    have hl : n < S.length := (List.getElem?_eq_some_iff.mp e1).1
    rw [List.getElem?_take_of_lt hl] at e2
    exact P.cl n hn o o' e1 e2
  lk := fun n o e => by
    have hl : n < S.length := (List.getElem?_eq_some_iff.mp e).1
    obtain ⟨e1, k1⟩ := P.lk n o e
    exact ⟨by rw [List.getElem?_take_of_lt hl]; exact e1, k1⟩
theorem Hs.takeS (A0 : Hs K S μ H F) (A : Hs K S1 μ1 H1 F1) (P : Stp S.length S μ H F S1 μ1 H1 F1) : Hs K (S1.take S.length) μ1 H1 F1 := A.take P.le fun n hn o e => by
  have h0 : S[n]? = some (S[n]'hn) := List.getElem?_eq_getElem hn
  obtain ⟨ho, _, c⟩ := A0.ce n _ h0
  exact P.cl n hn _ o h0 e _ c.lt
/-- a dict of own lists handed back -/
theorem mvdK_rep {bs : List Addr} {Fx : Hp} (sf : Same F Fx) (A : Hs K S μ H F) (hb : ∀ m xs, L ≤ m → S[m]? = some (.lst xs) → μ m ∈ bs) (hx : ∀ b, b ∈ bs → Fx b = H b) : ∀ {kvs : List (Key × D)} {ys : List (Key × T)} {vs : List (Key × V)}, RepCK K S.length μ F vs kvs → mvdK S L kvs = some ys → RepK K (At Fx) vs ys
  | [], ys, vs, r, e => by
    cases e
    cases r
    exact .nil
  | (k, d) :: kvs, ys, vs, r, e => by
    cases r with
    | cons r1 r2 =>
      unfold mvdK at e
      split at e
      · rename_i x ex
        cases q : mvdK S L kvs with
        | none => rw [q] at e; cases e
        | some zs =>
          rw [q] at e
          cases e
          refine .cons ?_ (mvdK_rep sf A hb hx r2 q)
          cases r1 with
          | t r1 =>
            cases ex
            exact r1.mono (at_mono sf)
          | cell hm =>
            rename_i m
            unfold mvdT at ex
            simp only at ex
            split at ex
            · rename_i hL
              split at ex
              · rename_i xs e2
                cases ex
                obtain ⟨ho, h1, h2⟩ := A.ce m _ e2
                cases ho <;> first | exact h2.elim | skip
                rename_i ws
                have h2' : RepL K (At F) ws xs := h2
                exact .lst ((hx _ (hb m xs hL e2)).trans h1) (h2'.mono (at_mono sf))
              · cases ex
            · cases ex
      · cases e
theorem mvd_ok {v : V} {d : D} {kvs : List (Key × T)} (hs : Hs K S μ H F) (A : Hs K S1 μ1 H1 F1) (P : Stp S.length S μ H F S1 μ1 H1 F1) (r : RepN K S1.length μ1 F1 H1 v d as) (e : mvd S1 S.length d = some kvs) :
    ∃ F2 as', Hs K (S1.take S.length) μ1 H1 F2 ∧ Stp S.length S μ H F (S1.take S.length) μ1 H1 F2 ∧ RepN K (S1.take S.length).length μ1 F2 H1 v (.newd kvs) as' ∧ Own as' H F2 μ1 (S1.take S.length) := by
  have hl : (S1.take S.length).length = S.length := by rw [List.length_take, Nat.min_eq_left P.le]
  unfold mvd at e
  split at e
  · rename_i n
    split at e
    · rename_i hn
      split at e
      · rename_i ds e1
        have hn1 := (List.getElem?_eq_some_iff.mp e1).1
        let bs : List Addr := ((List.range S1.length).filter fun m => decide (S.length ≤ m) && decide (m ≠ n)).map μ1
        have inb : ∀ b, b ∈ bs ↔ ∃ m, m < S1.length ∧ S.length ≤ m ∧ m ≠ n ∧ μ1 m = b := fun b => by
          show b ∈ List.map _ _ ↔ _
          rw [List.mem_map]
          constructor
          · rintro ⟨m, hm, rfl⟩
            rw [List.mem_filter, List.mem_range, Bool.and_eq_true] at hm
            exact ⟨m, hm.1, of_decide_eq_true hm.2.1, of_decide_eq_true hm.2.2, rfl⟩
          · rintro ⟨m, h1, h2, h3, rfl⟩
            exact ⟨m, by rw [List.mem_filter, List.mem_range, Bool.and_eq_true]; exact ⟨h1, decide_eq_true h2, decide_eq_true h3⟩, rfl⟩
        have hF : ∀ b ∈ bs, F1 b = none := fun b hb => by
          obtain ⟨m, h1, _, _, rfl⟩ := (inb b).mp hb
          exact A.out m h1
        have sf : Same F1 (Mi.frz F1 H1 bs) := frz_same hF
        have low : ∀ m, m < S.length → μ1 m ∉ bs := fun m hm hb => by
          obtain ⟨j, h1, h2, _, h3⟩ := (inb _).mp hb
          have := A.inj j m h1 (Nat.lt_of_lt_of_le hm P.le) h3
          omega
        have nb : μ1 n ∉ bs := fun hb => by
          obtain ⟨j, h1, _, h2, h3⟩ := (inb _).mp hb
          exact h2 (A.inj j n h1 hn1 h3)
        refine ⟨Mi.frz F1 H1 bs, [μ1 n], (hs.takeS A P).more sf (frz_sub A.sub) (fun m hm => ?_), { P.take with f := fun b u q => sf _ _ (P.f _ _ q), nF := fun a u q z => ?_ }, ?_, ⟨List.nodup_cons.mpr ⟨(fun h => by cases h), List.nodup_nil⟩, fun a ha => ?_⟩⟩
        · rw [hl] at hm
          rw [frz_out (low m hm)]
          exact A.out m (Nat.lt_of_lt_of_le hm P.le)
        · by_cases ha : a ∈ bs
          · obtain ⟨m, h1, h2, _, rfl⟩ := (inb a).mp ha
            exact P.nC m h2 h1
          · rw [frz_out ha] at q
            exact P.nF a u q z
        · cases r with
          | c r =>
            cases r with
            | cell _ =>
              obtain ⟨ho, h1, h2⟩ := A.ce n _ e1
              cases ho <;> first | exact h2.elim | skip
              rename_i vs
              have h2' : RepCK K S1.length μ1 F1 vs ds := h2
              refine .newd h1 (mvdK_rep (bs := bs) sf A (fun m xs hm e2 => (inb _).mpr ⟨m, (List.getElem?_eq_some_iff.mp e2).1, hm, fun z => ?_, rfl⟩) (fun b hb => frz_in hb) h2' e)
              rw [z, e1] at e2
              cases e2
        · rw [List.mem_singleton.mp ha]
          refine ⟨P.nC n hn hn1, by rw [frz_out nb]; exact A.out n hn1, fun j hj z => ?_⟩
          rw [hl] at hj
          have := A.inj j n (Nat.lt_of_lt_of_le hj P.le) hn1 z
          omega
      · cases e
    · cases e
  · cases e
/-- a dict of own lists handed back with its lists -/
theorem mvkK_rep (A : Hs K S μ H F) : ∀ {kvs : List (Key × D)} {ys : List (Key × List T)} {sn : List Nat} {vs : List (Key × V)}, RepCK K S.length μ F vs kvs → mvkK S L kvs sn = some ys → ∃ ms : List Nat, RepNK K F H vs ys (ms.map μ) ∧ ms.Nodup ∧ ∀ m ∈ ms, L ≤ m ∧ m < S.length ∧ m ∉ sn ∧ ∃ xs, S[m]? = some (.lst xs)
  | [], ys, sn, vs, r, e => by
    cases e
    cases r
    exact ⟨[], .nil, List.nodup_nil, fun _ h => by cases h⟩
  | (k, d) :: kvs, ys, sn, vs, r, e => by
    cases r with
    | cons r1 r2 =>
      unfold mvkK at e
      cases r1 with
      | t _ => cases e
      | cell hm =>
        rename_i m
        dsimp only at e
        split at e
        · rename_i hL
          split at e
          · rename_i xs e2
            cases q : mvkK S L kvs (m :: sn) with
            | none => rw [q] at e; cases e
            | some zs =>
              rw [q] at e
              cases e
              obtain ⟨ms, h1, h2, h3⟩ := mvkK_rep A r2 q
              obtain ⟨ho, g1, g2⟩ := A.ce m _ e2
              cases ho <;> first | exact g2.elim | skip
              refine ⟨m :: ms, .cons g1 g2 h1, List.nodup_cons.mpr ⟨fun z => (h3 m z).2.2.1 List.mem_cons_self, h2⟩, fun j hj => ?_⟩
              rcases List.mem_cons.mp hj with rfl | hj
              · exact ⟨hL.1, hm, hL.2, xs, e2⟩
              · obtain ⟨y1, y2, y3, y4⟩ := h3 j hj
                exact ⟨y1, y2, fun z => y3 (List.mem_cons_of_mem _ z), y4⟩
          · cases e
        · cases e
theorem mvk_ok {v : V} {d : D} {kvs : List (Key × List T)} (hs : Hs K S μ H F) (A : Hs K S1 μ1 H1 F1) (P : Stp S.length S μ H F S1 μ1 H1 F1) (r : RepN K S1.length μ1 F1 H1 v d as) (e : mvk S1 S.length d = some kvs) :
    ∃ as', RepN K (S1.take S.length).length μ1 F1 H1 v (.newk kvs) as' ∧ Own as' H F1 μ1 (S1.take S.length) := by
  have hl : (S1.take S.length).length = S.length := by rw [List.length_take, Nat.min_eq_left P.le]
  unfold mvk at e
  split at e
  · rename_i n
    split at e
    · rename_i hn
      split at e
      · rename_i ds e1
        have hn1 := (List.getElem?_eq_some_iff.mp e1).1
        cases r with
        | c r =>
          cases r with
          | cell _ =>
            obtain ⟨ho, h1, h2⟩ := A.ce n _ e1
            cases ho <;> first | exact h2.elim | skip
            rename_i vs
            have h2' : RepCK K S1.length μ1 F1 vs ds := h2
            obtain ⟨ms, g1, g2, g3⟩ := mvkK_rep A h2' e
            have ne : n ∉ ms := fun z => by
              obtain ⟨_, _, _, xs, q⟩ := g3 n z
              rw [e1] at q
              cases q
            have nd : ((n :: ms).map μ1).Nodup := by
              have : (n :: ms).Nodup := List.nodup_cons.mpr ⟨ne, g2⟩
              have lt : ∀ m ∈ n :: ms, m < S1.length := fun m hm => by
                rcases List.mem_cons.mp hm with rfl | hm
                · exact hn1
                · exact (g3 m hm).2.1
              clear g1 g3 e h2 h2'
              generalize n :: ms = l at this lt
              induction l with
              | nil => exact List.nodup_nil
              | cons a l ih =>
                rw [List.map_cons]
                refine List.nodup_cons.mpr ⟨fun z => ?_, ih (List.nodup_cons.mp this).2 fun m hm => lt m (List.mem_cons_of_mem _ hm)⟩
                obtain ⟨b, hb, eb⟩ := List.mem_map.mp z
                have := A.inj b a (lt b (List.mem_cons_of_mem _ hb)) (lt a List.mem_cons_self) eb
                subst this
                exact (List.nodup_cons.mp ‹_›).1 hb
            refine ⟨_, .newk h1 g1, ⟨nd, fun a ha => ?_⟩⟩
            have : ∃ m, S.length ≤ m ∧ m < S1.length ∧ a = μ1 m := by
              rcases List.mem_cons.mp ha with rfl | ha
              · exact ⟨n, hn, hn1, rfl⟩
              · obtain ⟨m, hm, rfl⟩ := List.mem_map.mp ha
                exact ⟨m, (g3 m hm).1, (g3 m hm).2.1, rfl⟩
            obtain ⟨m, q1, q2, rfl⟩ := this
            refine ⟨P.nC m q1 q2, A.out m q2, fun j hj z => ?_⟩
            rw [hl] at hj
            have := A.inj j m (Nat.lt_of_lt_of_le hj P.le) q2 z
            omega
      · cases e
    · cases e
  · cases e
end
end Mi

set_option Elab.async false
set_option linter.all false
set_option maxRecDepth 100000
set_option maxHeartbeats 4000000
/-! Hk: what is asked of the heap that the module's top leaves (its own classes too); a hand-in's run may stand right behind it, while little is laid -/
namespace Mi
open PySem PySem.W PySem.Calls PyProof.Rows PySem.HandSPX PySem.Spec
/-- what an own error class stands over: ValueError, or LookupError -/
def bTail : Bool → List Value
  | false => [.type "ValueError", .type "Exception", .type "BaseException", .type "object"]
  | true => [.type "LookupError", .type "Exception", .type "BaseException", .type "object"]
def bNm : Bool → String
  | false => "ValueError"
  | true => "LookupError"
def bNew : Bool → String
  | false => "ValueError.__new__"
  | true => "LookupError.__new__"
def bIni : Bool → String
  | false => "ValueError.__init__"
  | true => "LookupError.__init__"
/-- the built-in classes that isinstance may be asked for -/
def bAsk : List String := ["ValueError", "LookupError", "KeyError", "IndexError", "TypeError"]
/-- an error class by its text: its name, its field, its __init__ -/
structure XD where
  nm : Str
  f : Str
  qual : Str
  params : Arguments
  body : List Stmt
  scope : Scope
  le : Bool := false
abbrev FnI : Type := Option (Str × Str × Arguments × FuncBody × Scope × Addr × Addr × List Str)
def fnI (K : Frag) (nm : Str) : FnI := match K.lookup (He.ma K (He.ga K nm) "__init__") with
  | some ⟨_, _, .func fd, _⟩ => some (fd.name, fd.qualname, fd.params, fd.body, fd.scope, fd.globals, fd.builtins, fd.closure.map (·.1))
  | _ => none
def XD.val (d : XD) : FnI := some ("__init__", d.qual, d.params, .stmts d.body, d.scope, mainGlobals, builtinsNs, ["__class__"])
def codeB (K : Frag) (file q : Str) (v : Value) : Bool := match v with
  | .ref cda => codeIn K (.ref cda) q && (match K.lookup cda with
    | some ⟨_, _, .fields vs, _⟩ => (match (vs[2]? : Option Value) with
      | some (.str fl _) => (file == fl)
      | _ => false)
    | _ => false)
  | _ => false
def cellB (K : Frag) (C : Addr) (l : List (Str × Addr)) : Bool := match l with
  | [(_, cc)] => (match K.lookup cc with
    | some ⟨_, _, .cell (some v), _⟩ => decide (v = .ref C)
    | _ => false)
  | _ => false
def initB (K : Frag) (file : Str) (C fI : Addr) : Bool := match K.lookup fI with
  | some ⟨_, _, .func fd, _⟩ => codeB K file fd.qualname fd.code && (decide (fd.defaults = .none) && (decide (fd.kwdefaults = .none) && cellB K C fd.closure))
  | _ => false
def clsB (K : Frag) (C : Addr) (le : Bool) (f : Str) : Bool := match clsIn K C with
  | some cd => decide (cd.mro = .ref C :: bTail le) && (cd.hasDict && (excOver K C (bTail le) && decide (takerIn K C f = some none)))
  | none => false
def mroB (K : Frag) (C : Addr) (le : Bool) : Bool := match clsIn K C with
  | some cd => decide (cd.mro = .ref C :: bTail le)
  | none => false
/-- .. of a class that has no __init__ of its own -/
def xeB (K : Frag) (xs : List XD) (d : XD) : Bool :=
  excIn K (He.ga K d.nm) (bTail d.le) (bNew d.le) && (keepIn K (.ref (He.ga K d.nm)) && (
  decide (typeIn K (.ref (He.ga K d.nm)) = some (.type "type")) && (mroB K (He.ga K d.nm) d.le && (
  decide (findIn K (.ref (He.ga K d.nm)) "__getattribute__" = some (some (.builtin "BaseException.__getattribute__"))) && (
  decide (findIn K (.ref (He.ga K d.nm)) "__getattr__" = some none) && (
  decide (subIn K (.ref (He.ga K d.nm)) (.type "BaseException") = some true) && (
  decide (findIn K (.ref (He.ga K d.nm)) "__class__" = some (some (.builtin "object.__class__"))) && (
  decide (specialIn K (.builtin "object.__class__") "__get__" = some (some (.builtin "getset_descriptor.__get__"))) && (
  decide (takesIn K (.builtin "object.__class__") = some true) && (
  decide (mroIn K (He.ga K d.nm) (.type "object") = some true) && (
  (bAsk.all fun b => decide (kitOne K (.ref (He.ga K d.nm)) (.type b) = some (b == bNm d.le))) && (
  xs.all fun y => decide (exmOne K (.ref (He.ga K d.nm)) (.ref (He.ga K y.nm)) = some (decide (d.nm = y.nm))) && decide (kitOne K (.ref (He.ga K d.nm)) (.ref (He.ga K y.nm)) = some (decide (d.nm = y.nm)))
  ))))))))))))
def xcB (K : Frag) (file : Str) (xs : List XD) (d : XD) : Bool :=
  initB K file (He.ga K d.nm) (He.ma K (He.ga K d.nm) "__init__") && (clsB K (He.ga K d.nm) d.le d.f && (excInitIn K (He.ga K d.nm) (bTail d.le) (bNew d.le) && (
  decide (findIn K (.ref (He.ga K d.nm)) "__setattr__" = some (some (.builtin "object.__setattr__"))) && (
  decide (findIn K (.ref (He.ga K d.nm)) d.f = some none) && (
  decide (findIn K (.ref (He.ga K d.nm)) "__init__" = some (some (.ref (He.ma K (He.ga K d.nm) "__init__")))) && (
  decide (typeIn K (.ref (He.ma K (He.ga K d.nm) "__init__")) = some (.type "function")) && (
  keepIn K (.ref (He.ga K d.nm)) && (
  decide (mroIn K (He.ga K d.nm) (.ref (He.ga K d.nm)) = some true) && (
  decide (subIn K (.ref (He.ga K d.nm)) (.type (bNm d.le)) = some true) && (
  decide (subIn K (.ref (He.ga K d.nm)) (.type "BaseException") = some true) && (
  decide (typeIn K (.ref (He.ga K d.nm)) = some (.type "type")) && (
  decide (nsIn K cStatics "thirdparty.any" = some none) && (
  decide (findIn K (.ref (He.ga K d.nm)) "__getattribute__" = some (some (.builtin "BaseException.__getattribute__"))) && (
  decide (findIn K (.ref (He.ga K d.nm)) "__getattr__" = some none) && (
  hasDictIn K (He.ga K d.nm) && (
  decide (findIn K (.ref (He.ga K d.nm)) "__class__" = some (some (.builtin "object.__class__"))) && (
  decide (specialIn K (.builtin "object.__class__") "__get__" = some (some (.builtin "getset_descriptor.__get__"))) && (
  decide (takesIn K (.builtin "object.__class__") = some true) && (
  decide (mroIn K (He.ga K d.nm) (.type "object") = some true) && (
  (bAsk.all fun b => decide (kitOne K (.ref (He.ga K d.nm)) (.type b) = some (b == bNm d.le))) && (
  xs.all fun y => decide (exmOne K (.ref (He.ga K d.nm)) (.ref (He.ga K y.nm)) = some (decide (d.nm = y.nm))) && decide (kitOne K (.ref (He.ga K d.nm)) (.ref (He.ga K y.nm)) = some (decide (d.nm = y.nm)))
  )))))))))))))))))))))
section
variable {K : Frag} {file : Str} {xs : List XD} {fa : List He.Fa} {fn : List He.DefD}
/-! ### the hook -/
abbrev AlX : Type := He.AlD × Bool × List FnI
def obsX (fa : List He.Fa) (fn : List He.DefD) (xs : List XD) (file : Str) (K : Frag) : AlX := (He.obsD fa fn K, xs.all (fun d => if d.f = ("" : Str) then xeB K xs d else xcB K file xs d), xs.map fun d => if d.f = ("" : Str) then none else fnI K d.nm)
def valX (fn : List He.DefD) (xs : List XD) : AlX := (He.valD fn, true, xs.map fun d => if d.f = ("" : Str) then none else d.val)
def SaysX (fa : List He.Fa) (fn : List He.DefD) (xs : List XD) (file : Str) (K : Frag) : Prop := obsX fa fn xs file K = valX fn xs
def obsXG (n : Nat) (fa : List He.Fa) (fn : List He.DefD) (xs : List XD) (file : Str) (g : Addr → Option Obj) : AlX := obsX fa fn xs file (He.frG g (cStatics :: He.asD g n))
def hookX (n : Nat) (fa : List He.Fa) (fn : List He.DefD) (xs : List XD) (file : Str) : Hook where
  α := AlX
  obs := fun s => obsXG n fa fn xs file s.heap.get?
  val := fun _ => valX fn xs
  says := fun _ h => ∃ K : Frag, K.In h ∧ SaysX fa fn xs file K
  of := fun _ _ e => ⟨_, He.frG_in, e⟩
  keeps := fun _ _ _ ⟨K, hK, c⟩ k => ⟨K, Frag.In.keeps hK k, c⟩
theorem obsXG_eq {n : Nat} {fa : List He.Fa} {fn : List He.DefD} {xs : List XD} {file : Str} {g : Addr → Option Obj} {s : Shared} (h : ∀ a, g a = s.heap.get? a) : obsXG n fa fn xs file g = (hookX n fa fn xs file).obs s := by
  have e : g = s.heap.get? := funext h
  rw [e] <;> rfl
end
/-- the __init__ of a class's text -/
def initOf (s : Stmt) : Stmt := match s with
  | .ClassDef _ _ _ (m :: _) _ _ _ _ _ _ _ => m
  | _ => .Pass ⟨0, 0, 0, 0⟩
end Mi
namespace Mi
open PySem PySem.Spec PyProof.Rows L2
def pgAt (C f : Str) (K : PySem.W.Frag) : Addr := match PySem.W.recIn K (He.ma K (He.ga K C) f) "property" with
  | some (.ref g :: _) => g
  | _ => 0
def propB (K : PySem.W.Frag) (C f : Str) : Bool := He.eqO (PySem.W.findIn K (.ref (He.ga K C)) f) (some (some (.ref (He.ma K (He.ga K C) f)))) && (He.eqO (PySem.W.specialIn K (.ref (He.ma K (He.ga K C) f)) "__get__") (some (some (.builtin "property.__get__"))) && (
  decide (PySem.W.takesIn K (.ref (He.ma K (He.ga K C) f)) = some true) && (match PySem.W.recIn K (He.ma K (He.ga K C) f) "property" with
    | some (.ref _ :: _) => true
    | _ => false)))
abbrev AlW : Type := AlX × Bool × List He5.FnW
def obsW (fa : List He.Fa) (fn : List He.DefD) (xs : List XD) (file : Str) (ps : List (Str × Str)) (pf : List He5.DefA) (K : PySem.W.Frag) : AlW := (obsX fa fn xs file K, ((ps.all fun p => propB K p.1 p.2) && pf.all fun d => d.ok K), pf.map fun d => He5.fnA K (d.at_ K))
def valW (fn : List He.DefD) (xs : List XD) (pf : List He5.DefA) : AlW := (valX fn xs, true, pf.map He5.DefA.val)
def SaysW (fa : List He.Fa) (fn : List He.DefD) (xs : List XD) (file : Str) (ps : List (Str × Str)) (pf : List He5.DefA) (K : PySem.W.Frag) : Prop := obsW fa fn xs file ps pf K = valW fn xs pf
def obsWG (n : Nat) (fa : List He.Fa) (fn : List He.DefD) (xs : List XD) (file : Str) (ps : List (Str × Str)) (pf : List He5.DefA) (g : Addr → Option Obj) : AlW := obsW fa fn xs file ps pf (He.frG g (cStatics :: He.asD g n))
def hookW (n : Nat) (fa : List He.Fa) (fn : List He.DefD) (xs : List XD) (file : Str) (ps : List (Str × Str)) (pf : List He5.DefA) : PySem.W.Hook where
  α := AlW
  obs := fun s => obsWG n fa fn xs file ps pf s.heap.get?
  val := fun _ => valW fn xs pf
  says := fun _ h => ∃ K : PySem.W.Frag, K.In h ∧ SaysW fa fn xs file ps pf K
  of := fun _ _ e => ⟨_, He.frG_in, e⟩
  keeps := fun _ _ _ ⟨K, hK, c⟩ k => ⟨K, PySem.W.Frag.In.keeps hK k, c⟩
section
variable {fa : List He.Fa} {fn : List He.DefD} {xs : List XD} {file : Str} {ps : List (Str × Str)} {pf : List He5.DefA} {K : PySem.W.Frag}
theorem obsWG_eq {n : Nat} {g : Addr → Option Obj} {s : Shared} (h : ∀ a, g a = s.heap.get? a) : obsWG n fa fn xs file ps pf g = (hookW n fa fn xs file ps pf).obs s := by
  have e : g = s.heap.get? := funext h
  rw [e] <;> rfl
end
/-- a method of a class's text -/
def metOf (s : Stmt) (j : Nat) : Stmt := match s with
  | .ClassDef _ _ _ ms _ _ _ _ _ _ _ => ms.getD j (.Pass ⟨0, 0, 0, 0⟩)
  | _ => .Pass ⟨0, 0, 0, 0⟩
/-! ### classes, errors and tables of lambdas at once -/
abbrev AlV : Type := AlW × Bool
def tabV (g : Addr → Option Obj) (tf : List He.Defn) (K : PySem.W.Frag) : Bool := He.tabsB g tf K && decide ((tf.map fun p => (He.cT K p).2).Nodup)
def obsVG (as : List Addr) (fa : List He.Fa) (fn : List He.DefD) (xs : List XD) (file : Str) (ps : List (Str × Str)) (pf : List He5.DefA) (tf : List He.Defn) (g : Addr → Option Obj) : AlV := (obsW fa fn xs file ps pf (He.frT g as), tabV g tf (He.frT g as))
structure SaysV (fa : List He.Fa) (fn : List He.DefD) (xs : List XD) (file : Str) (ps : List (Str × Str)) (pf : List He5.DefA) (tf : List He.Defn) (h : Heap) (K : PySem.W.Frag) : Prop where
  w : SaysW fa fn xs file ps pf K
  hd : ∀ p ∈ tf, PySem.W.codeHdIn K (He.cT K p).1 (He.cT K p).2 = true
  out : ∀ p ∈ tf, K.lookup (He.cT K p).2 = none
  empty : ∀ p ∈ tf, h.get? (He.cT K p).2 = some { cls := .none, data := .fields #[] }
  nd : (tf.map fun p => (He.cT K p).2).Nodup
theorem saysV_of {as : List Addr} {fa : List He.Fa} {fn : List He.DefD} {xs : List XD} {file : Str} {ps : List (Str × Str)} {pf : List He5.DefA} {tf : List He.Defn} {h : Heap} (e : obsVG as fa fn xs file ps pf tf h.get? = (valW fn xs pf, true)) : SaysV fa fn xs file ps pf tf h (He.frT h.get? as) := by
  have e1 : obsW fa fn xs file ps pf (He.frT h.get? as) = valW fn xs pf := congrArg Prod.fst e
  have e2 : tabV h.get? tf (He.frT h.get? as) = true := congrArg Prod.snd e
  unfold tabV at e2
  obtain ⟨e3, e4⟩ := He.ba e2
  generalize hK : He.frT h.get? as = K at e1 e3 e4 ⊢
  have one : ∀ p ∈ tf, PySem.W.codeHdIn K (He.cT K p).1 (He.cT K p).2 = true ∧ ∃ o, h.get? (He.cT K p).2 = some o ∧ He.emptyTab o = true := by
    intro p hp
    obtain ⟨z1, z2⟩ := He.ba (List.all_eq_true.mp e3 p hp)
    refine ⟨z1, ?_⟩
    split at z2
    · rename_i o ho
      exact ⟨o, ho, z2⟩
    · cases z2
  refine ⟨e1, fun p hp => (one p hp).1, ?_, ?_, of_decide_eq_true e4⟩
  · intro p hp
    obtain ⟨_, o, a1, a2⟩ := one p hp
    rw [← hK] at a1 ⊢
    exact He.frT_none a1 a2
  · intro p hp
    obtain ⟨_, o, a1, a2⟩ := one p hp
    rw [a1, He.emptyTab_eq a2]
def hookV (as : List Addr) (fa : List He.Fa) (fn : List He.DefD) (xs : List XD) (file : Str) (ps : List (Str × Str)) (pf : List He5.DefA) (tf : List He.Defn) : PySem.W.Hook where
  α := AlV
  obs := fun s => obsVG as fa fn xs file ps pf tf s.heap.get?
  val := fun _ => (valW fn xs pf, true)
  says := fun _ h => ∃ K : PySem.W.Frag, K.In h ∧ SaysV fa fn xs file ps pf tf h K
  of := fun _ _ e => ⟨_, He.frT_in, saysV_of e⟩
  keeps := fun _ _ _ ⟨K, hK, c⟩ k => ⟨K, PySem.W.Frag.In.keeps hK k, ⟨c.w, c.hd, c.out, fun p hp => k _ _ (c.empty p hp), c.nd⟩⟩
theorem obsVG_eq {as : List Addr} {fa : List He.Fa} {fn : List He.DefD} {xs : List XD} {file : Str} {ps : List (Str × Str)} {pf : List He5.DefA} {tf : List He.Defn} {g : Addr → Option Obj} {s : Shared} (h : ∀ a, g a = s.heap.get? a) : obsVG as fa fn xs file ps pf tf g = (hookV as fa fn xs file ps pf tf).obs s := by
  have e : g = s.heap.get? := funext h
  rw [e] <;> rfl
end Mi

set_option Elab.async false
set_option linter.all false
set_option maxRecDepth 100000
set_option maxHeartbeats 4000000
/-! E1: error classes of the program over ValueError whose __init__ says super().__init__(text); self.f = f -/
namespace Mi
open PySem PySem.W PySem.Calls PyProof.Rows PySem.HandSPX PySem.Spec
/-- the body of such an __init__ -/
def iB (f msg : Str) (j : Nat) (p0 p1 p2 p3 p4 p5 q1 q2 q3 q4 : Pos) : List Stmt :=
  [.Expr (.Call (.Attribute (.Call (.Name "super" p0) [] [] p1) "__init__" p2) [.Constant (.str msg) j p3] [] p4) p5, .Assign [.Attribute (.Name "self" q1) f q2] (.Name f q3) q4]
/-- what the written part says of its function -/
structure InitFn (prog : Program) (K : Frag) (C fI : Addr) (f : Str) : Prop where
  ex : ∃ (oc : Value) (od : Option Addr) (osl : Array (Option Value)) (qual msg : Str) (params : Arguments) (scope : Scope) (doc pm : Value) (an : Option Addr) (cda cc : Addr) (ct : Value) (ar : Arg) (j : Nat) (p0 p1 p2 p3 p4 p5 q1 q2 q3 q4 : Pos),
    K.lookup fI = some ⟨oc, od, .func (ksFn "__init__" qual params (iB f msg j p0 p1 p2 p3 p4 p5 q1 q2 q3 q4) scope .none .none doc pm an (.ref cda) ct cc), osl⟩ ∧ codeIn K (.ref cda) qual = true ∧
    (∃ ccl cdd vs ccs file tf, K.lookup cda = some ⟨ccl, cdd, .fields vs, ccs⟩ ∧ vs[2]? = some (.str file tf) ∧ ((prog.main.file : Str) == file) = true) ∧
    (∃ cl cld csl, K.lookup cc = some ⟨cl, cld, .cell (some (.ref C)), csl⟩) ∧
    (∀ s u v, BindsTo s (ksFn "__init__" qual params (iB f msg j p0 p1 p2 p3 p4 p5 q1 q2 q3 q4) scope .none .none doc pm an (.ref cda) ct cc) ⟨[u, v], []⟩ [("self", u), (f, v)]) ∧
    (params.posonlyargs ++ params.args).head? = some ar ∧ ar.arg = "self" ∧
    scope.kind = .function ∧ scope.isCoroutine = false ∧ scope.isGenerator = false ∧ (∀ x ∈ scope.names, x.2 ≠ .cell) ∧
    scope.names.lookup ("super" : Str) = some .globalImplicit ∧ scope.names.lookup ("__class__" : Str) = some .free ∧ scope.names.lookup ("self" : Str) = some .local ∧ scope.names.lookup f = some .local ∧ f ≠ "self" ∧ (f == ("__debug__" : Str)) = false ∧ (p2.endLine == p4.line) = true
/-- what isinstance asks of an own error class -/
structure OwnB (K : Frag) (C : Addr) : Prop where
  cl : ∃ cd, clsIn K C = some cd
  ga : findIn K (.ref C) "__getattribute__" = some (some (.builtin "BaseException.__getattribute__"))
  gg : findIn K (.ref C) "__getattr__" = some none
  sE : subIn K (.ref C) (.type "BaseException") = some true
  cc : findIn K (.ref C) "__class__" = some (some (.builtin "object.__class__"))
  cn : specialIn K (.builtin "object.__class__") "__get__" = some (some (.builtin "getset_descriptor.__get__"))
  ct : takesIn K (.builtin "object.__class__") = some true
  mo : mroIn K C (.type "object") = some true
/-- an error class without an __init__ of its own -/
structure OwnE (K : Frag) (C : Addr) : Prop where
  mr : ∃ le cd, clsIn K C = some cd ∧ cd.mro = .ref C :: bTail le
  ex : ∃ le, excIn K C (bTail le) (bNew le) = true
  kC : keepIn K (.ref C) = true
  sE : subIn K (.ref C) (.type "BaseException") = some true
  ty : typeIn K (.ref C) = some (.type "type")
/-- .. and of the class -/
structure OwnX (prog : Program) (K : Frag) (C fI : Addr) (f : Str) : Prop where
  bx : ∃ le, (∃ cd, clsIn K C = some cd ∧ cd.mro = .ref C :: bTail le ∧ cd.hasDict = true) ∧ excInitIn K C (bTail le) (bNew le) = true ∧ subIn K (.ref C) (.type (bNm le)) = some true ∧ excOver K C (bTail le) = true
  tk : takerIn K C f = some none
  sa : findIn K (.ref C) "__setattr__" = some (some (.builtin "object.__setattr__"))
  no : findIn K (.ref C) f = some none
  iC : findIn K (.ref C) "__init__" = some (some (.ref fI))
  tI : typeIn K (.ref fI) = some (.type "function")
  kC : keepIn K (.ref C) = true
  mr : mroIn K C (.ref C) = some true
  sE : subIn K (.ref C) (.type "BaseException") = some true
  ty : typeIn K (.ref C) = some (.type "type")
  op : nsIn K cStatics "thirdparty.any" = some none
  ga : findIn K (.ref C) "__getattribute__" = some (some (.builtin "BaseException.__getattribute__"))
  gg : findIn K (.ref C) "__getattr__" = some none
  hdI : hasDictIn K C = true
  cc : findIn K (.ref C) "__class__" = some (some (.builtin "object.__class__"))
  cn : specialIn K (.builtin "object.__class__") "__get__" = some (some (.builtin "getset_descriptor.__get__"))
  ct : takesIn K (.builtin "object.__class__") = some true
  mo : mroIn K C (.type "object") = some true
  fn : InitFn prog K C fI f
  top : (prog.main.scope.names.lookup ("super" : Str)).isSome = false
theorem OwnX.b {prog : Program} {K : Frag} {C fI : Addr} {f : Str} (T : OwnX prog K C fI f) : OwnB K C := by
  obtain ⟨_, ⟨cd, hc, -⟩, -⟩ := T.bx
  exact ⟨⟨cd, hc⟩, T.ga, T.gg, T.sE, T.cc, T.cn, T.ct, T.mo⟩
theorem along_b (K : Frag) (le : Bool) : alongIn K "__init__" (bTail le) = some (some (.builtin (bIni le))) := by
  cases le <;> kernel_rfl
theorem kxs_b (le : Bool) : KxsFacts (bNm le) (bIni le) := by
  cases le
  · exact kxs_ValueError
  · exact kxs_LookupError
theorem excBase_b (le : Bool) : ExcBaseFacts (bNm le) (bNew le) (bIni le) (bTail le) := by
  cases le
  · exact PySem.F.excBase_ValueError
  · exact PySem.F.excBase_LookupError
theorem store_b (le : Bool) : StoreFacts (bNm le) (bTail le) "object.__setattr__" "object" := by
  cases le
  · exact PySem.F.store_ValueError
  · exact PySem.F.store_LookupError
theorem drop_ve (C : Addr) (l : List Value) : ((Value.ref C :: l).dropWhile (· != .ref C)).drop 1 = l := by
  simp [List.dropWhile_cons]
theorem call_eq {o : Expr} {name : Str} {apos pos : Pos} {e : Expr} {env : Env} (hs : starEach [e] env = [(false, eval e env)]) (h : (apos.endLine == pos.line) = true) : eval (.Call (.Attribute o name apos) [e] [] pos) env = (do
      let ov ← attributeBase o name env (eval o env)
      standAt apos.atName
      let (f, first) ← holding [ov] (getMethod ov name (do return (← importBound o env).getD true))
      callWith pos f first (backTo pos (starEach [e] env)) []) := by
  have hf : methodCallForm ([e].length + ([] : List Keyword).length) (backTo pos (starEach [e] env)) (backToKw pos (keywordEach [] env)) = true := by
    rw [hs]
    rfl
  show (do
    let ov ← attributeBase o name env (eval o env)
    standAt apos.atName
    methodCall o name apos pos env ov ([e].length + ([] : List Keyword).length) (backTo pos (starEach [e] env)) (backToKw pos (keywordEach [] env))) = _
  unfold methodCall
  rw [hf]
  have hp : methodCallPos true o env apos pos = pure pos := by
    unfold methodCallPos
    rw [h]
    rfl
  rw [hp]
  rfl
section
variable {prog : Program} {w : World} {A : Around} {R : Result → Shared → Prop} {hp : Heap} {g : Array GenState} {d : Drawn} {t : Nat} {os : OsState}
open PySem.Builtin PySem.Builtin.ObjectAttr in
/-- self.f = v, of an error that has no dict yet -/
theorem exc_osb {K : Frag} {B : String} {bm : List Value} {f : Str} {tk : Tok} {v : Value} {x C : Addr} {fv : Array Value} {cd : ClassData} (SF : StoreFacts B bm "object.__setattr__" "object")
    (X : K.In hp) (hx : hp.get? x = some { cls := .ref C, data := .fields fv }) (hcd : clsIn K C = some cd) (ho : excOver K C bm = true) (hh : cd.hasDict = true) (ht : takerIn K C f = some none)
    (hq : ∀ h' tk' dx, (∀ b o, b ≠ x → hp.get? b = some o → h'.get? b = some o) → hp.objs.size ≤ dx → dx ≠ x → h'.get? x = some { cls := .ref C, dict := some dx, data := .fields fv } →
      h'.Ns1 dx (fun y => if y = f then some v else none) → R (.ok (.ret .none)) ⟨h', g, d, tk', os⟩) :
    codeAny (model prog w) A (.call (.builtin "object.__setattr__") ⟨[.ref x, .str f tk, v], []⟩) R ⟨hp, g, d, t, os⟩ := by
  have I : InstAt hp x { cls := .ref C, data := .fields fv } C none := ⟨hx, rfl, rfl, trivial⟩
  have old : x < hp.objs.size := Heap.lt_size hx
  have lc : Looks (model prog w) hp (classData C) cd := looks_clsIn X hcd
  refine osa_openX SF X I ho ht fun b => ?_
  dsimp only
  obtain ⟨nm, bs, mro, ns, qn, hd, sn, sb, ab, col, del⟩ := cd
  dsimp only at hh
  subst hh
  unfold storeInOwnDict ownDictForStores
  repeat (first | with_reducible refine store_in_new ?_ ?_ | with_reducible refine wpAny_loadPart_at hx ?_ | with_reducible refine lc.at ?_ | wp_step)
  · refine ⟨_, #[], _, (Heap.get?_update_ne _ _ _ _ (Nat.ne_of_gt old)).trans (Heap.get?_push_at rfl rfl), rfl, fun e he => absurd he (by simp), fun _ => rfl⟩
  · intro h2 tk2 n2 s2
    refine hq h2 tk2 hp.objs.size (fun b o ne q => ?_) (Nat.le_refl _) (Nat.ne_of_gt old) ?_ n2
    · rw [s2.2 b (Nat.ne_of_lt (Heap.lt_size q)), Heap.get?_update_ne _ _ _ _ ne]
      exact Heap.get?_push_of_some _ q
    · rw [s2.2 x (Nat.ne_of_lt old)]
      exact Heap.get?_update_self _ (Heap.get?_push_of_some _ hx) rfl
end
/-- what __init__ leaves of a fresh exception at x -/
structure InitEnd (h h' : Heap) (x C dx t1 : Addr) (f : Str) (v : Value) : Prop where
  keep : ∀ b o, b ≠ x → h.get? b = some o → h'.get? b = some o
  obj : h'.get? x = some { cls := .ref C, dict := some dx, data := .fields #[.ref t1, .none, .none, .none, .bool false, .none] }
  dbig : h.objs.size ≤ dx
  dne : dx ≠ x
  ns : h'.Ns1 dx (fun y => if y = f then some v else none)
section
variable {prog : Program} {w : World} {A : Around} {E : Value → Shared → Prop} {R : Result → Shared → Prop} {s : Shared} {K : Frag} {mg mb : Str → Option Value} {C fI : Addr} {f : Str}
theorem own_init (T : OwnX prog K C fI f) {x t0 : Addr} {v : Value} (X : K.In s.heap) (hlim : s.heap.NoLimit) (G : s.heap.Ns mainGlobals mg) (Bn : s.heap.Ns builtinsNs mb) (Bb : ∀ x : Str, x ≠ "__name__" → mb x = bootBuiltins x) (hsup : mg "super" = none)
    (hx : s.heap.get? x = some (excO C t0)) (hnx : K.lookup x = none) (hroom : A.depth < recursionLimit)
    (hq : ∀ h' tk dx t1, InitEnd s.heap h' x C dx t1 f v → R (.ok (.ret .none)) { s with heap := h', toks := tk }) :
    codeAny (model prog w) A (.call (.ref fI) ⟨[.ref x, v], []⟩) R s := by
  obtain ⟨oc, od, osl, qual, msg, params, scope, doc, pm, an, cda, cc, ct, ar, j, p0, p1, p2, p3, p4, p5, q1, q2, q3, q4, ho, hcd, ⟨ccl, cdd, vs, ccs, file, tf, hcode, hvs, hfile⟩, ⟨cl, cld, csl, hcell⟩, hb, har, har2, hk, hco, hgen, hnc, hks, hkc, hka, hkf, hfs, hdf, hpl⟩ := T.fn.ex
  obtain ⟨le, ⟨cd, hcl, hmro, hhd⟩, xi, sV, xo⟩ := T.bx
  obtain ⟨s0, g, d, t, os⟩ := s
  have hloc : ∀ y ∈ [(("self" : Str), Value.ref x), (f, v)], scope.names.lookup y.1 = some .local := fun y hy => by
    rcases List.mem_cons.mp hy with rfl | hy
    · exact hka
    · rw [List.mem_singleton.mp hy]
      exact hkf
  refine ks_codeAny_call_defAt (fd := ksFn "__init__" qual params (iB f msg j p0 p1 p2 p3 p4 p5 q1 q2 q3 q4) scope .none .none doc pm an (.ref cda) ct cc) (body := iB f msg j p0 p1 p2 p3 p4 p5 q1 q2 q3 q4) (binds := [("self", .ref x), (f, v)]) hroom (X _ _ ho) rfl hlim (codeRec_of X hcd) rfl (hb _ _ _) hnc hloc (fun h₁ hns hk₁ => ?_) hco hgen hk
  have X₁ : K.In h₁ := X.keeps hk₁
  have hself : ([(("self" : Str), Value.ref x), (f, v)] : List (Str × Value)).reverse.lookup ("self" : Str) = some (Value.ref x) := by
    show ([(f, v), (("self" : Str), Value.ref x)] : List (Str × Value)).lookup ("self" : Str) = _
    have e : (("self" : Str) == f) = false := by simpa using (Ne.symm hfs)
    simp [List.lookup, e]
  have hfv : ([(("self" : Str), Value.ref x), (f, v)] : List (Str × Value)).reverse.lookup f = some v := by
    show ([(f, v), (("self" : Str), Value.ref x)] : List (Str × Value)).lookup f = _
    simp [List.lookup]
  show _root_.PySem.wpAt _ _ _ (execs _ (ksEnv qual scope s0.objs.size fI (.ref cda) cc)) _ _ _
  unfold iB
  have hi : interactive (ksEnv qual scope s0.objs.size fI (.ref cda) cc) = false := by
    unfold interactive
    show (scope.kind == .module && _) = false
    rw [hk]
    rfl
  refine ks_wpAt_execs_cons (ks_wpAt_Expr_any (hi := hi) (ks_wpAt_MethodCall ?_ (call_eq rfl hpl)))
  have hx₁ := hk₁ _ _ hx
  obtain ⟨oD, hD1, hD2⟩ : ∃ oD, h₁.get? C = some oD ∧ oD.data = .cls cd := by
    unfold clsIn at hcl
    split at hcl
    · rename_i c d cd' sl ho
      cases hcl
      exact ⟨_, X₁ _ _ ho, rfl⟩
    · cases hcl
  have G₁ := G.keeps hk₁
  have B₁ := Bn.keeps hk₁
  refine ks_wpAt_super_base (env := ksEnv qual scope s0.objs.size fI (.ref cda) cc) hks hkc (by decide) rfl (X₁ _ _ ho) rfl har rfl (X₁ _ _ hcode) rfl hvs hfile T.top ?_
  refine ks_loadName_global hk hks (loadGlobal_builtin (env := ksEnv qual scope s0.objs.size fI (.ref cda) cc) G₁ hsup B₁ ((Bb _ (by decide)).trans (by first | rfl | decide +kernel)) ⟨rfl, ?_⟩)
  refine wpAny_loadName_free hk hkc rfl ⟨_, X₁ _ _ hcell, rfl⟩ ?_
  rw [har2]
  refine wpAny_loadName_local hk hka hns hself ?_
  refine ks_wpAny_isType_cls hD1 hD2 ⟨rfl, ?_⟩
  have hnd : ∀ c, (excO C t0).data ≠ .cls c := fun c e => by cases e
  refine ks_wpAny_call_super hD1 hD2 hx₁ rfl hnd (looks_mroIn X₁ T.mr) (fun h₂ hso hk₂ => ?_)
  have X₂ : K.In h₂ := X₁.keeps hk₂
  have hx₂ := hk₂ _ _ hx₁
  have hxC : x ≠ C := fun z => by
    have e := X₁
    obtain ⟨oo, hoo⟩ : ∃ o, K.lookup C = some o := by
      unfold clsIn at hcl
      split at hcl
      · rename_i c d cd' sl ho
        exact ⟨_, ho⟩
      · cases hcl
    rw [← z, hnx] at hoo
    cases hoo
  have I₂ : InstAt h₂ x (excO C t0) C none := ⟨hx₂, rfl, rfl, trivial⟩
  refine kxs_getMethod (kxs_b le) hso (looks_opaque X₂ T.op) (l₀ := cd.mro) (l := bTail le) (fun A Q E s k q => wpAny_bind ((looks_clsIn X₂ hcl) A _ E s k (wpAny_pure q))) (by rw [hmro]; exact drop_ve C _) X₂ (along_b K le) (I₂.type.andThen (looks_subIn X₂ sV)) hxC (by decide) ?_
  have h3 : ∀ b o, h₂.get? b = some o → (h₂.push (kxs_mw (bIni le) x)).get? b = some o := fun b o e => Heap.get?_push_of_some _ e
  have hu : (h₂.push (kxs_mw (bIni le) x)).get? h₂.objs.size = some (kxs_mw (bIni le) x) := Heap.get?_push_at rfl rfl
  refine kxs_callWith (i := bIni le) (x := x) (by cases le <;> rfl) ?_
  refine evalArgs_plain (spliced_more (Calls.Constant_str (spliced_none ⟨hu, ?_⟩)))
  have X₃ : K.In (h₂.push (kxs_mw (bIni le) x)) := X₂.keeps h3
  have hx₃ := h3 _ _ hx₂
  obtain ⟨nm, N, qn, bs, bm, hdct, sn, sub, ab, col, dd, k0, k1, k2, k3, k5, hC, hT⟩ := excInit_of X₃ xi
  have FB := excBase_b le
  show wpAny _ _ (call (.ref h₂.objs.size) [.str msg _]) _ _ _
  refine wpAny_call (codeAny_of_tree ?_)
  show wpAny _ _ (callAny (.ref h₂.objs.size) ⟨[.str msg _], []⟩) _ _ _
  simp only [callAny]
  refine wpAny_bind (wpAny_load hu ?_)
  simp only [kxs_mw, show (Value.type "method-wrapper" == Value.type "method" || Value.type "method-wrapper" == Value.type "builtin_function_or_method" || Value.type "method-wrapper" == Value.type "method-wrapper") = true by decide, if_true]
  refine KFB.if_so (by decide) ?_
  refine wpAny_bind (check_bound_init FB.toExcCallFacts hC hx₃ rfl ?_)
  refine wpAny_bind (wpAny_pure (wpAny_pure ?_))
  refine ⟨plainId_quiet FB.init.plain _, codeAny_builtin FB.initEntry ?_⟩
  refine exc_init_tree (cls := .ref C) (t0 := t0) (dv := none) (c2 := .none) (c3 := .none) (b4 := .bool false) hx₃ (by rw [sizeLine_eq]; exact (by decide : 1 ≤ 16777216)) fun h₄ hk₄ hx₄ ht₄ => ?_
  have X₄ : K.In h₄ := fun a o e => hk₄ a o (fun z => by rw [z, hnx] at e; cases e) (X₃ a o e)
  have hns₄ : h₄.Ns s0.objs.size (fun y => ([(("self" : Str), Value.ref x), (f, v)] : List (Str × Value)).reverse.lookup y) := by
    obtain ⟨oL, es, ep, hL, r⟩ := hns
    have hxs : s0.objs.size ≠ x := Nat.ne_of_gt (Heap.lt_size hx)
    exact ⟨oL, es, ep, hk₄ _ _ hxs (h3 _ _ (hk₂ _ _ hL)), r⟩
  show _root_.PySem.wpAt _ _ _ (execs _ (ksEnv qual scope s0.objs.size fI (.ref cda) cc)) _ _ _
  refine ks_wpAt_execs_cons (ks_wpAt_Assign_Attr (wpAt_of_wpAny (wpAny_Name (wpAny_loadName_local hk hkf hns₄ hfv (wpAny_Name (wpAny_loadName_local hk hka hns₄ hself ?_) (by decide))) hdf)))
  refine set_plain X₄ (ox := excO C _) (od := none) ⟨hx₄, rfl, rfl, trivial⟩ T.sa ?_
  refine exc_osb (store_b le) X₄ hx₄ hcl xo hhd T.tk (fun h₅ tk₅ dx k₅ dn dne hx₅ hn₅ => ?_)
  have z : s0.objs.size < h₄.objs.size := by
    obtain ⟨oL, es, ep, hL, r⟩ := hns₄
    exact Heap.lt_size hL
  exact wpAt_of_wpAny (wpAny_execs_nil (hq h₅ tk₅ dx _ ⟨fun b o hb e => k₅ b o hb (hk₄ b o hb (h3 _ _ (hk₂ _ _ (hk₁ _ _ e)))), hx₅, Nat.le_of_lt (Nat.lt_of_lt_of_le z dn), dne, hn₅⟩))
end
end Mi

set_option Elab.async false
set_option linter.all false
set_option maxRecDepth 100000
set_option maxHeartbeats 4000000
/-! E2: making, raising, catching such errors -/
namespace Mi
open PySem PySem.W PySem.Calls PyProof.Rows PySem.HandSPX PySem.Spec
/-- a made error -/
structure OwnMade (h h' : Heap) (e C d : Addr) (f : Str) (v : Value) : Prop where
  keep : ∀ b o, h.get? b = some o → h'.get? b = some o
  new : h.objs.size ≤ e
  obj : ∃ oe vs, h'.get? e = some oe ∧ oe.cls = .ref C ∧ oe.dict = some d ∧ oe.data = .fields vs ∧ vs[1]? = some .none
  dbig : h.objs.size ≤ d
  dne : d ≠ e
  ns : h'.Ns1 d (fun y => if y = f then some v else none)
section
variable {prog : Program} {w : World} {A : Around} {E : Value → Shared → Prop} {R : Result → Shared → Prop} {s : Shared} {K : Frag} {mg mb : Str → Option Value} {C fI : Addr} {f : Str}
theorem own_made (T : OwnX prog K C fI f) {v : Value} (X : K.In s.heap) (hlim : s.heap.NoLimit) (G : s.heap.Ns mainGlobals mg) (Bn : s.heap.Ns builtinsNs mb) (Bb : ∀ x : Str, x ≠ "__name__" → mb x = bootBuiltins x) (hsup : mg "super" = none) (hroom : A.depth + 1 < recursionLimit)
    (hq : ∀ h' tk e d, OwnMade s.heap h' e C d f v → R (.ok (.ret (.ref e))) { s with heap := h', toks := tk }) :
    codeAny (model prog w) A (.call (.ref C) ⟨[v], []⟩) R s := by
  obtain ⟨le, -, xi, -⟩ := T.bx
  obtain ⟨nm, N, qn, bs, bm, hdct, sn, sub, ab, col, dd, k0, k1, k2, k3, k5, hC, hT⟩ := excInit_of X xi
  obtain ⟨hp, g, dr, tk, os⟩ := s
  have k : ∀ b o, hp.get? b = some o → ((hp.push (kdv_tup [v])).push (excO C hp.objs.size)).get? b = some o := fun b o e => Heap.get?_push_of_some _ (Heap.get?_push_of_some _ e)
  have hget : ((hp.push (kdv_tup [v])).push (excO C hp.objs.size)).get? (hp.objs.size + 1) = some (excO C hp.objs.size) := by heap_get
  have hnx : K.lookup (hp.objs.size + 1) = none := by
    cases e : K.lookup (hp.objs.size + 1) with
    | none => rfl
    | some o =>
      have z : hp.get? (hp.objs.size + 1) = some o := X _ _ e
      exact absurd (Nat.lt_of_succ_lt (Heap.lt_size z)) (Nat.lt_irrefl _)
  refine call_own (excBase_b le) hT hC (looks_findIn X T.iC) (fun self => bind_fn X self T.tI) (by rw [sizeLine_eq]; exact (by decide : 1 ≤ 16777216)) ?_
  refine own_init (s := ⟨(hp.push (kdv_tup [v])).push (excO C hp.objs.size), g, dr, tk, os⟩) T (X.keeps k) (hlim.keeps k) (G.keeps k) (Bn.keeps k) Bb hsup hget hnx ?_ fun h' tk' dx t1 ⟨k', hx, dn, dne, hns⟩ => ?_
  · show A.depth + 1 < recursionLimit
    exact hroom
  · have old : ∀ b o, hp.get? b = some o → h'.get? b = some o := fun b o e => k' b o (Nat.ne_of_lt (Nat.lt_succ_of_lt (Heap.lt_size e))) (k b o e)
    have z : hp.objs.size + 1 + 1 ≤ dx := by
      first
        | (simpa only [Heap.size_push] using dn)
        | exact dn
        | (have q := dn; rw [Heap.size_push, Heap.size_push] at q; exact q)
    exact ⟨rfl, hq h' tk' (hp.objs.size + 1) dx ⟨old, Nat.le_succ _, ⟨_, _, hx, rfl, rfl, rfl, rfl⟩, Nat.le_trans (Nat.le_trans (Nat.le_succ _) (Nat.le_succ _)) z, dne, hns⟩⟩
end
end Mi
namespace Mi
open PySem PySem.Spec PyProof.Rows L2
theorem relO_one {f : Str} {v : V} {v' : Value} (r : RelV v v') (y : Str) : RelO (List.lookup y [(f, v)]) (if y = f then some v' else none) := by
  have := relO_put (fs := []) (mA := fun _ => none) (f := f) r (fun _ => True.intro) y
  exact this
section
variable {X : Cx} {C fI : Addr} {f : Str}
/-- C(e) -/
def tMkX (C : Addr) (f : Str) (ta : TA) : L2.St → Hp → XK → Prop := fun σ H Q => ta σ H fun vs H1 => ∃ v, vs = [v] ∧ ∀ d, H1 d = none → Q (.ref C) (some d) (upd H1 d (.xd [(f, v)]))
theorem pmk_x {nm : Str} {a : Expr} {ta : TA} {p pos : Pos} {k : Nat} (T : OwnX X.prog X.K C fI f) (gC : X.mg nm = some (.ref C)) (hsup : X.mg "super" = none) (hr : Room k X.A) (ha : PA X [a] ta) (hg : Gl X nm) (hd : (nm == ("__debug__" : Str)) = false)
    (he : starEach (a :: []) X.env = (false, eval a X.env) :: starEach [] X.env) (hpl : (backTo pos (starEach [] X.env)).any (·.1) = false) :
    PMk X (.Call (.Name nm p) [a] [] pos) (tMkX C f ta) := by
  intro pins s σ H Q I h
  refine wpAny_Call_Name_kw (ld_glob I hg gC ?_ hd)
  refine PySem.W.callWith_K (h₀ := X.base) I.ok.mod.kin T.kC (thn (ha.run pos pins s σ H _ I h) fun us s1 hh => ?_) he hpl
  obtain ⟨vs, H1, I1, r1, v, ev, q1⟩ := hh
  subst ev
  refine ⟨I1.kIn, ?_⟩
  cases r1 with
  | cons rv rn =>
    rename_i v' us'
    cases rn
    show wpAny _ _ (call (.ref C) [v']) _ _ _
    have hlim := I1.nolimit
    obtain ⟨mb, hb1, hb2⟩ := I1.mod.blt
    have hgl := I1.mod.glob.keeps I1.bk
    have hbl := hb1.keeps I1.bk
    obtain ⟨hp, g, dr, tk, os⟩ := s1
    refine wpAny_call (own_made T I1.kIn hlim hgl hbl hb2 hsup (by have := hr.dp; omega) fun h' tk' e d M => ?_)
    show MkP X pins σ Q (.ref e) ⟨h', g, dr, tk', os⟩
    obtain ⟨oe, fv, hoe, hc, hd, hdat, h1⟩ := M.obj
    have hns := M.ns
    obtain ⟨G', g1, g2⟩ := restrict h' fun b => decide (b ≠ e)
    have gk : ∀ b, b ≠ e → G'.get? b = h'.get? b := fun b hb => g1 b (decide_eq_true hb)
    have ge : G'.get? e = none := g2 e (by simp)
    have old : ∀ b o, hp.get? b = some o → G'.get? b = some o := fun b o q => (gk b (Nat.ne_of_lt (Nat.lt_of_lt_of_le (Heap.lt_size q) M.new))).trans (M.keep b o q)
    have ob : ObjOk X.prog X.w (upd H1 d (.xd [(f, v)])) G' d (.xd [(f, v)]) :=
      ⟨_, hns.at (fun o q => (gk d M.dne).trans q), fun y => relO_one rv y⟩
    have J : Inv X pins σ (upd H1 d (.xd [(f, v)])) ⟨G', g, dr, tk', os⟩ := I1.laid (t' := tk') old M.dbig ob
    refine ⟨e, oe, fv, ⟨G', g, dr, tk', os⟩, _, .ref C, some d, rfl, J, fun b o q => ?_, ge, hoe, ⟨hc, hd⟩, hdat, h1, ?_, rfl, I1.bare, raises_own T.sE T.ty, q1 d (I1.hok.fresh M.dbig)⟩
    · by_cases hb : b = e
      · have q' : G'.get? b = some o := q
        rw [hb, ge] at q'; cases q'
      · exact (gk b hb).symm.trans q
    · rw [upd_ne (Ne.symm M.dne)]
      exact I1.hok.fresh M.new
end
end Mi

set_option Elab.async false
set_option linter.all false
set_option maxRecDepth 100000
set_option maxHeartbeats 4000000
/-! Xm: an error and a clause's tuple of any number of classes -/
namespace Mi
open PySem PySem.W PySem.Calls PyProof.Rows PySem.Spec
section
variable {M : Model} {A : Around} {K : Frag}
theorem for_all1 {E : Value → Shared → Prop} {s : Shared} {f : Value → PUnit → Sem (ForInStep PUnit)} : ∀ {cs : List Value}, (∀ c ∈ cs, ∀ Q : ForInStep PUnit → Shared → Prop, Q (.yield ⟨⟩) s → wpAny M A (f c ⟨⟩) Q E s) →
    ∀ Q : PUnit → Shared → Prop, Q ⟨⟩ s → wpAny M A (forIn cs PUnit.unit f) Q E s
  | [], _, Q, q => by
    rw [List.forIn_nil]
    exact wpAny_pure q
  | c :: cs, hf, Q, q => by
    rw [List.forIn_cons]
    refine wpAny_bind (hf c List.mem_cons_self _ ?_)
    exact for_all1 (fun c hc => hf c (List.mem_cons_of_mem _ hc)) Q q
/-- the first class that fits ends it -/
theorem for_any1 {E : Value → Shared → Prop} {s : Shared} {cls : Value} {f : Value → Option Bool × Unit → Sem (ForInStep (Option Bool × Unit))} : ∀ {cs : List Value} {b : Bool}, exmAny K cls cs = some b →
    (∀ c b1, exmOne K cls c = some b1 → ∀ Q : ForInStep (Option Bool × Unit) → Shared → Prop, Q (if b1 = true then .done (some true, ()) else .yield (none, ())) s → wpAny M A (f c (none, ())) Q E s) →
    ∀ Q : Option Bool × Unit → Shared → Prop, Q (if b = true then (some true, ()) else (none, ())) s → wpAny M A (forIn cs (none, ()) f) Q E s
  | [], b, e, _, Q, q => by
    rw [List.forIn_nil]
    have e : some false = some b := e
    cases e
    exact wpAny_pure q
  | c :: cs, b, e, hf, Q, q => by
    obtain ⟨b1, d1, e1, e2, e3⟩ := exmAny_cons e
    rw [List.forIn_cons]
    refine wpAny_bind (hf c b1 e1 _ ?_)
    subst e3
    cases b1 with
    | true => exact wpAny_pure q
    | false =>
      rw [Bool.false_or] at q
      exact for_any1 e2 hf Q q
theorem exm_all {cls c : Value} : ∀ {cs : List Value} {b : Bool}, exmAny K cls cs = some b → c ∈ cs → ∃ b1, exmOne K cls c = some b1
  | [], _, _, h => by cases h
  | a :: cs, b, e, h => by
    obtain ⟨b1, d1, e1, e2, e3⟩ := exmAny_cons e
    rcases List.mem_cons.mp h with rfl | h
    · exact ⟨b1, e1⟩
    · exact exm_all e2 h
theorem exm_tup {cs : List Value} {cls : Value} {tp e : Addr} {b : Bool} {h : Heap} (X : K.In h) (LT : Looks M h (typeOf (.ref e)) cls) (hp : h.get? tp = some { cls := .type "tuple", data := .seq cs.toArray }) (hx : exmAny K cls cs = some b) :
    Looks M h (excMatches (.ref e) (.ref tp)) b := by
  intro A Q E s k q
  have IT : Looks M h (isInstance (.ref tp) (.type "tuple")) true := ((Looks.ld hp).andThen .now).andThen (Looks.of_pure isSubtype_tuple_tuple)
  obtain ⟨hh, g, d, tk, os⟩ := s
  have hp2 : hh.get? tp = some { cls := .type "tuple", data := .seq cs.toArray } := k _ _ hp
  have X2 : K.In hh := X.keeps k
  unfold excMatches
  refine wpAny_bind ((IT.keeps k).at ?_)
  dsimp only
  rw [if_pos rfl]
  refine wpAny_bind (wpAny_seqItems hp2 rfl ?_)
  refine wpAny_bind (wpAny_pure ?_)
  have ec : ((some cs.toArray).getD #[]).toList = cs := rfl
  rw [ec]
  refine wpAny_bind (for_all1 (fun c hc Q q => ?_) _ ?_)
  · obtain ⟨b1, e1⟩ := exm_all hx hc
    refine wpAny_bind ((exm_cls (M := M) X2 e1).1.at ?_)
    exact wpAny_pure q
  · refine wpAny_bind ((LT.keeps k).at ?_)
    refine wpAny_bind (for_any1 hx (fun c b1 e1 Q q => ?_) _ ?_)
    · refine wpAny_bind ((exm_cls (M := M) X2 e1).2.at ?_)
      cases b1 <;> exact wpAny_pure q
    · cases b <;> exact wpAny_pure q
end
end Mi

set_option Elab.async false
set_option linter.all false
set_option maxRecDepth 100000
set_option maxHeartbeats 4000000
/-! E3: try: body except C as n: v = n. What was caught stands behind it -/
namespace Mi
open PySem PySem.Spec PyProof.Rows L2
section
variable {X : Cx} {pins : List (Addr × Obj)} {σ : L2.St} {H : Hp} {sI s s' : Shared} {B : Heap}
theorem exv_ok {P : Program} {w : World} {H : Hp} {h : Heap} {a C : Addr} {d : Option Addr} {oe : Obj} {vs : Array Value} (he : h.get? a = some oe) (hz : Zc (.ref C) d oe) (hd : oe.data = .fields vs) : ObjOk P w H h a (exv a C d) :=
  ⟨⟨oe, he, hz.1, hz.2, vs, hd⟩, ⟨_, he⟩, fun h1 h2 z k => by
    obtain ⟨o, q, r⟩ := z
    exact ⟨o, k _ q, r⟩⟩
theorem landedX {a C : Addr} {dd : Option Addr} {oe : Obj} {vs : Array Value} (I : L2.Inv X pins σ H sI) (nb : ∀ b o, sI.heap.get? b = some o → b ∉ frs X.stack → B.get? b = some o) (st : B.StaysIn s'.heap) (up : sI.heap.UpToSlots s'.heap) (os : s'.os = sI.os) (ag : AllBare s'.gens)
    (nBa : B.get? a = none) (nfr : a ∉ frs X.stack) (na : H a = none) (he : s'.heap.get? a = some oe) (hz : Zc (.ref C) dd oe) (hd : oe.data = .fields vs) : L2.Inv X pins σ (upd H a (exv a C dd)) s' := by
  have nf : ∀ b ∈ frs X.stack, ∀ o, sI.heap.get? b = some o → ∃ sl, s'.heap.get? b = some { o with slots := sl } := fun b hb o e => by
    obtain ⟨_, o', e', hd⟩ := I.stack.mem hb
    rw [e] at e'; cases e'
    exact up b o e hd
  have ne : ∀ b o, sI.heap.get? b = some o → b ≠ a := fun b o e z => by
    rw [z] at e
    have := nb a o e nfr
    rw [nBa] at this
    cases this
  have neH : ∀ {b : Addr} {u : HO}, H b = some u → b ≠ a := fun {b u} e z => by
    rw [z, na] at e
    cases e
  have hk : HOk X.prog X.w H s'.heap := (I.inGround nb).kept st
  have J := I.call (ch := []) (h' := s'.heap) (g' := s'.gens) (t' := s'.toks) (d' := s'.drawn) (H' := upd H a (exv a C dd))
    ⟨fun b o e _ hb _ => st b o (nb b o e hb), fun b o e _ hb _ => nf b hb o e, fun b o e n _ => by rw [upd_ne (ne b o e)]; exact n, fun b o e _ => by
      by_cases hb : b ∈ frs X.stack
      · obtain ⟨sl, q⟩ := nf b hb o e
        exact ⟨_, q⟩
      · exact ⟨o, st b o (nb b o e hb)⟩, fun _ _ e => by rw [upd_ne (neH e)]; exact e, fun _ _ _ e => by rw [upd_ne (neH e)]; exact e, fun b ps e => ⟨#[], by rw [upd_ne (neH e), e]; simp⟩⟩
    (fun b u e => by
      by_cases hb : b = a
      · subst hb
        rw [upd_same] at e
        cases e
        exact exv_ok he hz hd
      · rw [upd_ne hb] at e
        exact (hk b u e).stay (fun c v hc z => z) (fun c hc => by rw [upd_ne (neH hc)]; exact hc) (fun c xs hc => by rw [upd_ne (neH hc)]; exact hc)) ag (fun _ z => nomatch z)
  obtain ⟨a1, a2, a3, a4, a5⟩ := s'
  have e5 : a5 = sI.os := os
  subst e5
  exact J
theorem suiteX (I : L2.Inv X pins σ H s) {a : Addr} : L2.Inv (X.suite a (X.pn ++ pins)) [] σ H s :=
  ⟨I.ok.suite _ _, I.os, I.bare, I.base, I.loc, I.cell, I.free, I.freeC, fun p hp => I.pin p (by rw [List.append_nil] at hp; exact hp), I.hok, I.len⟩
theorem unsuiteX {a : Addr} {pn' : List (Addr × Obj)} (I : L2.Inv (X.suite a (X.pn ++ pins)) pn' σ H s) (ok : X.Ok) : L2.Inv X pins σ H s :=
  ⟨ok, I.os, I.bare, I.base, I.loc, I.cell, I.free, I.freeC, fun p hp => I.pin p (List.mem_append_left _ hp), I.hok, I.len⟩
/-- the classes that a clause names: one, or a tuple of two and more -/
def CsAt (h : Heap) (c : Value) (cs : List Value) : Prop := cs = [c] ∨ ∃ tp, c = .ref tp ∧ 2 ≤ cs.length ∧ h.get? tp = some { cls := .type "tuple", data := .seq cs.toArray }
structure TestR (X : Cx) (test : Expr) (cs : List Value) : Prop where
  run : ∀ (a : Addr) (pn pins : List (Addr × Obj)) (σ : L2.St) (H : Hp) (s : Shared) (Q : Value → Shared → Prop) (E : Value → Shared → Prop), L2.Inv (X.suite a pn) pins σ H s →
    (∀ c h', (∀ b o, s.heap.get? b = some o → h'.get? b = some o) → CsAt h' c cs → Q c { s with heap := h' }) →
    wpAny (model X.prog X.w) (X.A.mark (some (.ref a))) (eval test X.env) Q E s
theorem test_one {x : Str} {c : Value} {p : Pos} (hg : Gl X x) (hd : (x == ("__debug__" : Str)) = false) (hm : X.mg x = some c) : TestR X (.Name x p) [c] :=
  ⟨fun a pn pins σ H s Q E I h => ld_glob (X := X.suite a pn) I hg hm (h c s.heap (fun _ _ e => e) (.inl rfl)) hd⟩
theorem test_two {x y : Str} {c d : Value} {p p' p2 : Pos} {j : Nat} (hg : Gl X x) (hd : (x == ("__debug__" : Str)) = false) (hm : X.mg x = some c) (hg2 : Gl X y) (hd2 : (y == ("__debug__" : Str)) = false) (hm2 : X.mg y = some d) : TestR X (.Tuple [.Name x p, .Name y p'] j p2) [c, d] :=
  ⟨fun a pn pins σ H s Q E I h => by
    refine wpAny_Tuple_spliced (spliced_more (ld_glob (X := X.suite a pn) I hg hm (spliced_more (ld_glob (X := X.suite a pn) I hg2 hm2 (spliced_none ⟨by rw [sizeLine_eq]; exact (by decide : 2 ≤ 16777216), ?_⟩) hd2)) hd))
    exact h _ _ (fun b o e => Heap.get?_push_of_some _ e) (.inr ⟨_, rfl, (by decide : 2 ≤ 2), Heap.get?_push_size _ rfl⟩)⟩
theorem test_three {x y z : Str} {c d e : Value} {p p' p3 p2 : Pos} {j : Nat} (hg : Gl X x) (hd : (x == ("__debug__" : Str)) = false) (hm : X.mg x = some c) (hg2 : Gl X y) (hd2 : (y == ("__debug__" : Str)) = false) (hm2 : X.mg y = some d) (hg3 : Gl X z) (hd3 : (z == ("__debug__" : Str)) = false) (hm3 : X.mg z = some e) : TestR X (.Tuple [.Name x p, .Name y p', .Name z p3] j p2) [c, d, e] :=
  ⟨fun a pn pins σ H s Q E I h => by
    refine wpAny_Tuple_spliced (spliced_more (ld_glob (X := X.suite a pn) I hg hm (spliced_more (ld_glob (X := X.suite a pn) I hg2 hm2 (spliced_more (ld_glob (X := X.suite a pn) I hg3 hm3 (spliced_none ⟨by rw [sizeLine_eq]; exact (by decide : 3 ≤ 16777216), ?_⟩) hd3)) hd2)) hd))
    exact h _ _ (fun b o e => Heap.get?_push_of_some _ e) (.inr ⟨_, rfl, (by decide : 2 ≤ 3), Heap.get?_push_size _ rfl⟩)⟩
theorem test_four {x y z u : Str} {c d e f : Value} {p p' p3 p4 p2 : Pos} {j : Nat} (hg : Gl X x) (hd : (x == ("__debug__" : Str)) = false) (hm : X.mg x = some c) (hg2 : Gl X y) (hd2 : (y == ("__debug__" : Str)) = false) (hm2 : X.mg y = some d) (hg3 : Gl X z) (hd3 : (z == ("__debug__" : Str)) = false) (hm3 : X.mg z = some e) (hg4 : Gl X u) (hd4 : (u == ("__debug__" : Str)) = false) (hm4 : X.mg u = some f) : TestR X (.Tuple [.Name x p, .Name y p', .Name z p3, .Name u p4] j p2) [c, d, e, f] :=
  ⟨fun a pn pins σ H s Q E I h => by
    refine wpAny_Tuple_spliced (spliced_more (ld_glob (X := X.suite a pn) I hg hm (spliced_more (ld_glob (X := X.suite a pn) I hg2 hm2 (spliced_more (ld_glob (X := X.suite a pn) I hg3 hm3 (spliced_more (ld_glob (X := X.suite a pn) I hg4 hm4 (spliced_none ⟨by rw [sizeLine_eq]; exact (by decide : 4 ≤ 16777216), ?_⟩) hd4)) hd3)) hd2)) hd))
    exact h _ _ (fun b o e => Heap.get?_push_of_some _ e) (.inr ⟨_, rfl, (by decide : 2 ≤ 4), Heap.get?_push_size _ rfl⟩)⟩
theorem names_run {a : Addr} {pn pins : List (Addr × Obj)} {σ : L2.St} {H : Hp} {s : Shared} {E : Value → Shared → Prop} {p2 : Pos} (I : L2.Inv (X.suite a pn) pins σ H s) : ∀ {xs : List (Str × Pos × Value)},
    (∀ x ∈ xs, Gl X x.1 ∧ (x.1 == ("__debug__" : Str)) = false ∧ X.mg x.1 = some x.2.2) → ∀ Q : List Value → Shared → Prop, Q (xs.map fun x => x.2.2) s →
    wpAny (model X.prog X.w) (X.A.mark (some (.ref a))) (spliced (backTo p2 (starEach (xs.map fun x => .Name x.1 x.2.1) X.env))) Q E s
  | [], _, Q, q => spliced_none q
  | x :: xs, h, Q, q => by
    obtain ⟨hg, hd, hm⟩ := h x List.mem_cons_self
    exact spliced_more (ld_glob (X := X.suite a pn) I hg hm (names_run I (fun y hy => h y (List.mem_cons_of_mem _ hy)) (fun vs s2 => Q (x.2.2 :: vs) s2) q) hd)
/-- a tuple of any number of classes -/
theorem test_many {xs : List (Str × Pos × Value)} {j : Nat} {p2 : Pos} (h2 : 2 ≤ xs.length) (h3 : xs.length ≤ 100) (hx : ∀ x ∈ xs, Gl X x.1 ∧ (x.1 == ("__debug__" : Str)) = false ∧ X.mg x.1 = some x.2.2) :
    TestR X (.Tuple (xs.map fun x => .Name x.1 x.2.1) j p2) (xs.map fun x => x.2.2) :=
  ⟨fun a pn pins σ H s Q E I h => by
    refine wpAny_Tuple_spliced (names_run I hx _ ⟨by rw [sizeLine_eq, List.length_map]; omega, ?_⟩)
    exact h _ _ (fun b o e => Heap.get?_push_of_some _ e) (.inr ⟨_, rfl, by rw [List.length_map]; exact h2, Heap.get?_push_size _ rfl⟩)⟩
theorem fly_keep {B h h' : Heap} {l : List Env} {a : Addr} {Z : Obj → Prop} (f : HandSPX.FlyingZ B l a Z h) (k : ∀ b o, h.get? b = some o → h'.get? b = some o) : HandSPX.FlyingZ B l a Z h' := by
  obtain ⟨f1, f2, f3, oe, vs, T, oT, ts, g1, g2, g3, g4, g5, g6, g7, g8⟩ := f
  exact ⟨fun b o e => k b o (f1 b o e), f2, Heap.FunFrames.of_keeps (fun b o e _ => ⟨o, k b o e, rfl⟩) f3, oe, vs, T, oT, ts, k _ _ g1, g2, g3, g4, g5, g6, k _ _ g7, g8⟩
/-- what the clause wishes: the error stands at v, the clause's name is gone -/
def wPut (K : PySem.W.Frag) (cs : List Value) (i j : Nat) (D : Ends) : WX := fun cls d σ H =>
  PySem.W.exmAny K cls cs = some true ∧ ∃ C, cls = .ref C ∧ ∀ a, H a = none → D.nx (((σ.set i (some (.ref a))).set j (some (.ref a))).set i none) (upd H a (exv a C d))
theorem exm_cs {M : Model} {cs : List Value} {c cls : Value} {e : Addr} {h : Heap} {K : PySem.W.Frag} (Xk : K.In h) (LT : PySem.W.Looks M h (typeOf (.ref e)) cls) (hx : PySem.W.exmAny K cls cs = some true)
    (hc : CsAt h c cs) : PySem.W.Looks M h (excMatches (.ref e) c) true := by
  rcases hc with rfl | ⟨tp, rfl, hl, hp⟩
  · obtain ⟨b1, d1, h1, h2, h3⟩ := PySem.W.exmAny_cons hx
    have e2 : some false = some d1 := h2
    cases e2
    rw [Bool.or_false] at h3
    subst h3
    exact PySem.W.exm_one Xk LT h1
  · exact exm_tup Xk LT hp hx
end
section
variable {X : Cx} {n v : Str} {test : Expr} {cs : List Value} {i j : Nat} {body : List Stmt} {pn' pv pa pos pos' : Pos}
theorem ps_try_put (hs : X.stack = X.env :: X.outer) (hf : X.env.frame = some X.env.locals) (hN : X.N.Nodup) (hi : X.N[i]? = some n) (hln : X.env.kindOf n = some .local) (hj : X.N[j]? = some v) (hlv : X.env.kindOf v = some .local) (hdn : (n == ("__debug__" : Str)) = false) (hcn : (n == ("__classdict__" : Str)) = false)
    (ht : TestR X test cs) :
    PS X (.Try body [.ExceptHandler (some test) (some n) [.Assign [.Name v pv] (.Name n pn') pa] pos'] [] [] pos) (fun D σ H => ∀ (pn : List (Addr × Obj)) (xe : Value → Shared → Prop), Takes (X.tr pn xe) (wPut X.K cs i j D) → PassesOwn (model X.prog X.w) X.A X.env xe → ∃ t, PSs (X.tr pn xe) body t ∧ t D σ H) := by
  refine ⟨fun pins s σ H D I h => ?_⟩
  have ok := I.ok
  have hfr : X.A.frames = some (X.env :: X.outer) := by rw [ok.frames, hs]
  have hloc : Loc X.env.scope n := .inl hln
  refine wpAny_Try_except ?_
  obtain ⟨t, hb, h2⟩ := h (X.pn ++ pins) (fun e s₁ => wpAny (model X.prog X.w) X.A (noteFrame e X.env) (fun _ s₂ => wpAny (model X.prog X.w) X.A (setFlight e none) (fun _ s₃ =>
    wpAny (model X.prog X.w) X.A (handleBy e X.env [.ExceptHandler (some test) (some n) [.Assign [.Name v pv] (.Name n pn') pa] pos']) (SP X pins D) X.xe s₃) X.xe s₂) X.xe s₁) (fun u s' xx => by
    obtain ⟨a, B, sI, pins', σ', H', cls, d, rfl, J', nb, up, sky, na, os, ag, hx, C, rfl, hq⟩ := xx
    have J : L2.Inv X pins σ' H' sI := J'.ofTry ok
    have sky' : Sky B (X.env :: X.outer) a (Zc (.ref C) d) X.env.locals s'.heap := by rw [← hs]; exact sky
    show wpAny (model X.prog X.w) X.A (noteFrame (.ref a) X.env) _ _ _
    refine Sky.land Zc.steady hfr hf sky' fun h3 fl3 up3 => ?_
    have J3 : L2.Inv X pins σ' H' { s' with heap := h3 } := J.landed nb fl3.1 (up.trans up3) os ag
    obtain ⟨oe3, vs3, he3, hz3, hd3⟩ := fl3.there
    have notFr : ∀ {h : Heap} {o : Obj} {vs : Array Value}, h.FunFrames B (X.env :: X.outer) → h.get? a = some o → o.data = .fields vs → a ∉ frs (X.env :: X.outer) := fun {h o vs} ff e dd hm => by
      obtain ⟨_, o', e', hnf⟩ := ff.mem hm
      rw [e] at e'; cases e'
      exact hnf _ dd
    have nfr := notFr fl3.2.2.1 he3 hd3
    have S3 : L2.Inv (X.suite a (X.pn ++ pins)) [] σ' H' { s' with heap := h3 } := suiteX J3
    refine wpAny_handleBy_cons (codeAny_handlers_test ?_) (by intro q; cases q)
    refine ht.run a (X.pn ++ pins) [] σ' H' _ _ _ S3 fun c h3' k3 hc => ?_
    have he3' := k3 _ _ he3
    have fl3' := fly_keep fl3 k3
    have LT : PySem.W.Looks (model X.prog X.w) h3' (typeOf (.ref a)) (.ref C) := fun A Q E s k q => wpAny_typeOf_ref (k _ _ he3') (by rw [hz3.1]; exact q)
    have LM := exm_cs (M := model X.prog X.w) (J3.kIn.keeps k3) LT hx hc
    refine LM.here ?_
    refine codeAny_handlers_suite_as ?_
    refine HandSPX.lands_againZ fl3' fun h4 fl4 up4 => ?_
    obtain ⟨oe4, vs4, he4, hz4, hd4⟩ := fl4.there
    have J4 : L2.Inv X pins σ' (upd H' a (exv a C d)) { s' with heap := h4 } := landedX J nb fl4.1 (((up.trans up3).trans (Heap.UpToSlots.of_keeps k3)).trans up4) os ag fl4.2.1 (by rw [hs]; exact nfr) na he4 hz4 hd4
    refine store_ok (X := X.suite a (X.pn ++ pins)) (v := .ref a) (suiteX J4) hN hi hloc rfl (fun s5 S5 => ?_) (.inr hln)
    have li : i < σ'.length := by
      rw [J.len]
      exact (List.getElem?_eq_some_iff.mp hi).1
    have P : PSs (X.suite a (X.pn ++ pins)) [.Assign [.Name v pv] (.Name n pn') pa] _ := pss_cons (ps_set (i := j) hN hj (.inl hlv) (pe_var (i := i) hi (.inl hln) hdn hcn) (by rfl) (.inr hlv)) pss_nil
    refine wpAny_mono (P.run [] s5 _ _ { nx := fun σ6 H6 => D.nx (σ6.set i none) H6, rt := fun _ _ => False, bk := fun _ _ => False, ct := fun _ _ => False } S5 ⟨_, List.getElem?_set_self li, ?_⟩) (fun f s6 hsp => ?_) (fun _ _ z => False.elim z)
    · exact hq a na
    have end_ : ∀ {σ6 : L2.St} {H6 : Hp} {Q : Shared → Prop}, L2.Inv (X.suite a (X.pn ++ pins)) [] σ6 H6 s6 → (∀ s7, L2.Inv X pins (σ6.set i none) H6 s7 → Q s7) →
        wpAny (model X.prog X.w) X.A (do bindName X.env n .none; unbindBehindTheSuite X.env n pos') (fun _ s7 => Q s7) X.xe s6 := fun {σ6 H6 Q} S6 hq => gone_ok (unsuiteX S6 ok) hN hi hln hq
    cases f with
    | next =>
      obtain ⟨σ6, H6, S6, q6⟩ := hsp
      exact end_ S6 fun s7 J7 => ⟨_, _, J7, q6⟩
    | brk =>
      obtain ⟨σ6, H6, S6, q6⟩ := hsp
      exact q6.elim
    | cont =>
      obtain ⟨σ6, H6, S6, q6⟩ := hsp
      exact q6.elim
    | ret u =>
      obtain ⟨v6, σ6, H6, S6, r6, q6⟩ := hsp
      exact q6.elim
    ) PassesOwn.looking
  refine wpAny_mono (hb.run [] s σ H D (I.toTry _) h2) (fun f s1 hsp => ?_) (fun e s1 he => he)
  · cases f with
    | next =>
      obtain ⟨σ', H', J', q⟩ := hsp
      exact wpAny_execs_nil ⟨σ', H', J'.ofTry ok, q⟩
    | brk =>
      obtain ⟨σ', H', J', q⟩ := hsp
      exact ⟨σ', H', J'.ofTry ok, q⟩
    | cont =>
      obtain ⟨σ', H', J', q⟩ := hsp
      exact ⟨σ', H', J'.ofTry ok, q⟩
    | ret u =>
      obtain ⟨v, σ', H', J', r, q⟩ := hsp
      exact ⟨v, σ', H', J'.ofTry ok, r, q⟩
end
section
variable {X : Cx} {C fI a dd : Addr} {f : Str}
theorem exv_at {P : Program} {w : World} {H : Hp} {h : Heap} (hok : HOk P w H h) (he : H a = some (exv a C (some dd))) : ∃ oe, h.get? a = some oe ∧ oe.cls = .ref C ∧ oe.dict = some dd ∧ ∃ vs, oe.data = .fields vs := by
  have x : ObjOk P w H h a (exv a C (some dd)) := hok a _ he
  exact x.1
/-- e.f, e an error that was caught -/
def tXa (f : Str) (C : Addr) (te : TE) : TE := fun σ H Q => te σ H fun x H1 => ∃ a dd v, x = .ref a ∧ H1 a = some (exv a C (some dd)) ∧ H1 dd = some (.xd [(f, v)]) ∧ Q v H1
theorem inst_of {P : Program} {w : World} {H : Hp} {h : Heap} {v : V} (hok : HOk P w H h) (ea : H a = some (exv a C (some dd))) (ed : H dd = some (.xd [(f, v)])) : ∃ oe od u, PySem.W.InstAt h a oe C (some od) ∧ PySem.W.lookIn f od = some (some u) ∧ RelV v u := by
  obtain ⟨oe, h1, h2, h3, vs, h4⟩ := exv_at hok ea
  have hx : ObjOk P w H h dd (.xd [(f, v)]) := hok dd _ ed
  obtain ⟨mA, hns, hr⟩ := hx
  obtain ⟨od, ho, hl⟩ := lookIn_ns hns
  have l : List.lookup f [(f, v)] = some v := by simp [List.lookup]
  obtain ⟨u, hu, ru⟩ := RelO.some_of (v := v) (o := mA f) (by rw [← l]; exact hr f)
  exact ⟨oe, od, u, ⟨h1, h2, by unfold PySem.W.notCls; rw [h4] <;> rfl, by rw [h3]; exact ho⟩, by rw [hl, hu], ru⟩
theorem pe_exa {e : Expr} {te : TE} {pos : Pos} (T : OwnX X.prog X.K C fI f) (he : PE X e te) (hb : attributeBase e f X.env (eval e X.env) = eval e X.env) : PE X (.Attribute e f pos) (tXa f C te) := by
  refine ⟨fun pins s σ H Q I h => ?_⟩
  refine attr_of hb (thn (he.run pins s σ H _ I h) fun u s1 hh => ?_)
  obtain ⟨x, H1, I1, rx, a, dd, v, ex, ea, ed, q⟩ := hh
  subst ex
  obtain rfl : u = Value.ref a := rx
  obtain ⟨oe, od, w, J, hl, rw'⟩ := inst_of I1.hok ea ed
  exact HandSPX.exc_get I1.kIn J T.ga T.gg T.sE (PySem.W.findObj_own T.hdI T.no rfl hl) (handed_of rw') ⟨v, H1, I1.tok _, rw', q⟩
/-- isinstance(e, c), e an error that was caught -/
def rIsX (K : PySem.W.Frag) (C : Addr) (cv : Value) (b : Bool) : List V → Hp → VK → Prop := fun xs H Q => ∃ (a : Addr) (dd : Option Addr) (c : V), xs = [.ref a, c] ∧ (∀ u, RelV c u → u = cv) ∧ H a = some (exv a C dd) ∧ (∀ d, dd = some d → ∃ f v, H d = some (.xd [(f, v)])) ∧ Q (.bl b) H
theorem call_isX {cv : Value} {b : Bool} (T : OwnB X.K C) (hk : PySem.W.kitOne X.K (.ref C) cv = some b) : CallR X (.builtin "isinstance") (rIsX X.K C cv b) := by
  intro pins s σ H xs us Q I r h
  obtain ⟨a, dd, c, rfl, hcv, ea, ed, q⟩ := h
  cases r with
  | cons rx rr =>
    cases rr with
    | cons rt rr =>
      cases rr
      cases rx
      have ec := hcv _ rt
      subst ec
      obtain ⟨cd, hc⟩ := T.cl
      have J : ∃ oe od, PySem.W.InstAt s.heap a oe C od := by
        cases dd with
        | none =>
          have x : ObjOk X.prog X.w H s.heap a (exv a C none) := I.hok a _ ea
          obtain ⟨oe, h1, h2, h3, vs, h4⟩ := x.1
          exact ⟨oe, none, h1, h2, by unfold PySem.W.notCls; rw [h4] <;> rfl, by rw [h3]; trivial⟩
        | some d =>
          obtain ⟨f, v, ed⟩ := ed d rfl
          obtain ⟨oe, od, w, J, -, -⟩ := inst_of I.hok ea ed
          exact ⟨oe, _, J⟩
      obtain ⟨oe, od, J⟩ := J
      exact PySem.W.kia_one (PySem.W.kitx_exc (by rw [hc]; rfl) T.ga T.gg T.sE T.cc T.cn T.ct T.mo) I.kIn J hk (fun z => nomatch z) fun tk => ⟨.bl b, H, I.kept (t' := tk) fun _ _ z => z, rfl, q⟩
end
end Mi

set_option Elab.async false
set_option linter.all false
set_option maxRecDepth 100000
set_option maxHeartbeats 4000000
/-! N6: defs and their calls; contexts; what is wanted of a result -/
namespace Mi
open PySem PySem.Spec PyProof.Rows L2

/-- a def that keeps a promise wherever no repr is under way -/
structure FnG (gds : Option (List Code)) (P : Program) (w : World) (K : PySem.W.Frag) (mg : Str → Option Value) (base : Heap) (CX : CXT) (k : Nat) (f : Addr) (fd : FuncData) (ps : List Str) (sp : Sp) : Prop where
  n : ∀ vs H Q E, sp vs H Q E → vs.length = ps.length
  go : ∀ A outer s H args us vs Q E, A.guards = gds → Room k A → Env0 P w K mg base A outer s H → BindsTo s fd args (ps.zip us) → Vals vs us → sp vs H Q E →
    codeAny (model P w) A (.call (.ref f) args) (CR CX outer P w H s Q E) s
section
variable {P : Program} {w : World} {K : PySem.W.Frag} {mg : Str → Option Value} {base : Heap} {CX : CXT} {k : Nat}
/-- by its body -/
theorem go_of {x qual : Str} {params : Arguments} {body : List Stmt} {scope : Scope} {dvs : List V} {kws : List (Str × V)} {f : Addr} {fd : FuncData} {N ps : List Str} {A : Around} {outer : List Env} {s : Shared} {H : Hp} {args : Args} {us : List Value} {vs : List V} {Q : VK} {E : XK} (F : FunD K x qual params body scope dvs kws f fd) (S : FnScope N ps scope)
    (hr : Room (k + 1) A) (e0 : Env0 P w K mg base A outer s H) (bd : BindsTo s fd args (ps.zip us)) (rl : Vals vs us) (lv : vs.length = ps.length)
    (hb : ∀ cdv, cdv = fd.code → Room k (A.deeper (envOfC qual scope s.heap.objs.size f cdv)) →
      ∃ t, PSs (cxOf CX P w K mg base N qual scope f cdv A outer s H E) body t ∧ t { nx := fun _ H' => Q .non H', rt := Q } (L2.start N vs) H) : codeAny (model P w) A (.call (.ref f) args) (CR CX outer P w H s Q E) s := by
  obtain ⟨oc, od, dV, kV, doc, pm, an, cdv, ct, osl, rfl, lk, hcd, -, -⟩ := F.ex
  have kx : K.In s.heap := e0.mod.kin.keeps fun b o e => (e0.bs b o e).1
  have nolim : s.heap.NoLimit := e0.mod.nolimit.keeps fun b o e => (e0.bs b o e).1
  refine codeAny_call_function hr.depth (kx _ _ lk) rfl S.co S.gen rfl (PySem.W.codeRec_of kx hcd) (bd _ _ _ _ ?_)
  refine wpAny_newFunctionEnv_cells S.kind ?_ ?_
  · rintro ⟨a, b⟩ hy
    have hm := (List.of_mem_zip hy).1
    rcases S.par a hm with q | q
    · left
      exact q
    · right
      refine ⟨q, ?_⟩
      apply PySem.W.cellsFrom_some
      left
      exact q
  intro env he s1 x1
  subst he
  constructor
  · exact nolim.keeps x1.toInCall.keep
  obtain ⟨t, ht, hq⟩ := hb cdv rfl (hr.deeper _)
  have I := inv_start (CX := CX) (N := N) (cd := cdv) (f := f) (mg := mg) (E := E) S hr.hd e0 lv rl x1
  refine codeAny_func (wpAny_mono (ht.run [] s1 _ H _ I hq) ?_ fun e s' hs => hs)
  intro fl s' hs
  cases fl with
  | brk => exact (hs.choose_spec.choose_spec.2).elim
  | cont => exact (hs.choose_spec.choose_spec.2).elim
  | next =>
    obtain ⟨a1, a2, J, q⟩ := hs
    exact ⟨.non, a2, J.os, J.bare, J.base, J.hok, rfl, q⟩
  | ret u =>
    obtain ⟨v, a1, a2, J, rv, q⟩ := hs
    exact ⟨v, a2, J.os, J.bare, J.base, J.hok, rv, q⟩
theorem fng_of {x qual : Str} {params : Arguments} {body : List Stmt} {scope : Scope} {dvs : List V} {kws : List (Str × V)} {f : Addr} {fd : FuncData} {N ps : List Str} {sp : Sp} (F : FunD K x qual params body scope dvs kws f fd) (S : FnScope N ps scope)
    (n : ∀ vs H Q E, sp vs H Q E → vs.length = ps.length)
    (hb : ∀ cdv A outer s H vs Q E, A.guards = gds → cdv = fd.code → Room k (A.deeper (envOfC qual scope s.heap.objs.size f cdv)) → sp vs H Q E →
      ∃ t, PSs (cxOf CX P w K mg base N qual scope f cdv A outer s H E) body t ∧ t { nx := fun _ H' => Q .non H', rt := Q } (L2.start N vs) H) : FnG gds P w K mg base CX (k + 1) f fd ps sp where
  n := n
  go := fun A outer s H args us vs Q E g hr e0 bd rl hsp => go_of F S hr e0 bd rl (n _ _ _ _ hsp) fun cdv hc hr2 => hb cdv A outer s H vs Q E g hc hr2 hsp

end
/-- a generator's def -/
def GnG (P : Program) (w : World) (K : PySem.W.Frag) (mg : Str → Option Value) (base : Heap) (k : Nat) (f : Addr) (fd : FuncData) (ps : List Str) (sp : SpG) : Prop := GFn P w K mg base k f fd ps sp
/-- its call from a body -/
theorem run_g {X : Cx} {CX : CXT} {k n : Nat} {f : Addr} {fd : FuncData} {ps ks : List Str} {sp : Sp} {E : XK} {g : List Value → List Value → List Value} {gV : List V → List V → List V} {pins : List (Addr × Obj)} {σ : L2.St} {H : Hp} {s : Shared} {Q : VK} {us ws : List Value} {vs zs : List V}
    (F : FnG gds X.prog X.w X.K X.mg X.base CX k f fd ps sp) (hg : X.A.guards = gds) (hr : Room k X.A) (hb : KBn X.K fd ps n ks g gV) (hx : PassesAt CX X σ E) (I : Inv X pins σ H s) (r : Vals vs us) (rz : Vals zs ws) (l1 : us.length = n) (l2 : ws.length = ks.length)
    (h : sp (gV vs zs) H Q E) : wpAny (model X.prog X.w) X.A (call (.ref f) us (ks.zip ws)) (EP X pins σ Q) X.xe s := by
  have bd := hb.to s us ws I.kIn l1 l2
  have go := F.go X.A X.stack s H ⟨us, ks.zip ws⟩ (g us ws) (gV vs zs) Q E hg hr I.env0 bd (hb.rel r rz) h
  refine wpAny_call (codeAny_mono go ?_)
  rintro (e | fl) s' hq
  · exact hx pins H s e s' I hq
  cases fl with
  | ret u => exact I.after hq
  | next => exact hq.elim
  | brk => exact hq.elim
  | cont => exact hq.elim
/-- the reading of a call -/
def tGo (sp : Sp) (gV : List V → List V → List V) (n m : Nat) (W : WX) (t tk : TA) : TE := fun σ H Q => t σ H fun vs H1 => tk σ H1 fun zs H2 => vs.length = n ∧ zs.length = m ∧ sp (gV vs zs) H2 Q (WE W σ)
section
variable {X : Cx} {k n : Nat} {x : Str} {ks : List Str} {g : List Value → List Value → List Value} {gV : List V → List V → List V} {sp : Sp} {e : Expr} {es : List Expr} {kws : List Keyword} {p pos : Pos} {t tk : TA} {W : WX} {f : Addr} {fd : FuncData} {ps : List Str}
theorem pe_go (F : FnG gds X.prog X.w X.K X.mg X.base (CX X.prog X.w) k f fd ps sp) (hm : X.mg x = some (.ref f)) (hk : PySem.W.keepIn X.K (.ref f) = true) (hb : KBn X.K fd ps n [] g gV) (tk : Takes X W) (hgd : X.A.guards = gds) (hr : Room k X.A) (hg : Gl X x) (ha : PA X (e :: es) t) (hdb : (x == ("__debug__" : Str)) = false) (he : starEach (e :: es) X.env = (false, eval e X.env) :: starEach es X.env)
    (hpl : (backTo pos (starEach es X.env)).any (·.1) = false) : PE X (.Call (.Name x p) (e :: es) [] pos) (tGo sp gV n 0 W t tNil) := by
  refine ⟨fun pins s σ H Q I h => wpAny_Call_Name_kw (ld_glob I hg hm ?_ hdb)⟩
  refine PySem.W.callWith_K (h₀ := X.base) I.ok.mod.kin hk (thn (ha.run pos pins s σ H _ I h) ?_) he hpl
  rintro us s1 ⟨vs, H1, I1, r, l1, -, q⟩
  exact ⟨I1.kIn, run_g (ws := []) (zs := []) F hgd hr hb (passAt tk σ) I1 r .nil (r.length.symm.trans l1) rfl q⟩
theorem pe_goKW (F : FnG gds X.prog X.w X.K X.mg X.base (CX X.prog X.w) k f fd ps sp) (hm : X.mg x = some (.ref f)) (hk : PySem.W.keepIn X.K (.ref f) = true) (hb : KBn X.K fd ps n ks g gV) (tkx : Takes X W) (hgd : X.A.guards = gds) (hr : Room k X.A) (hg : Gl X x) (ha : PA X (e :: es) t) (hkw : PK X kws tk) (hdb : (x == ("__debug__" : Str)) = false) (he : starEach (e :: es) X.env = (false, eval e X.env) :: starEach es X.env)
    (hall : (backToKw pos (keywordEach kws X.env)).all (·.1.isSome) = true) (hks : (backToKw pos (keywordEach kws X.env)).filterMap (·.1) = ks) (hpl : ((backTo pos (starEach (e :: es) X.env)).any (·.1) || (backToKw pos (keywordEach kws X.env)).any (·.1.isNone)) = false) :
    PE X (.Call (.Name x p) (e :: es) kws pos) (tGo sp gV n ks.length W t tk) := by
  refine ⟨fun pins s σ H Q I h => wpAny_Call_Name_kw (ld_glob I hg hm ?_ hdb)⟩
  refine PySem.W.callWith_KW (h₀ := X.base) I.ok.mod.kin hk hall (thn (ha.run pos pins s σ H _ I h) ?_) hpl he
  rintro us s1 ⟨vs, H1, I1, r, q⟩
  refine thn (hkw.run pos pins s1 σ H1 _ I1 q) ?_
  rintro ws s2 ⟨zs, H2, I2, rz, l1, l2, q2⟩
  rw [hks]
  exact ⟨I2.kIn, run_g F hgd hr hb (passAt tkx σ) I2 r rz (r.length.symm.trans l1) (rz.length.symm.trans l2) q2⟩
theorem pe_goKW0 (F : FnG gds X.prog X.w X.K X.mg X.base (CX X.prog X.w) k f fd ps sp) (hm : X.mg x = some (.ref f)) (hk : PySem.W.keepIn X.K (.ref f) = true) (hb : KBn X.K fd ps 0 ks g gV) (tkx : Takes X W) (hgd : X.A.guards = gds) (hr : Room k X.A) (hg : Gl X x) (hkw : PK X kws tk) (hdb : (x == ("__debug__" : Str)) = false)
    (hall : (backToKw pos (keywordEach kws X.env)).all (·.1.isSome) = true) (hks : (backToKw pos (keywordEach kws X.env)).filterMap (·.1) = ks) (hpl : ((backTo pos (starEach [] X.env)).any (·.1) || (backToKw pos (keywordEach kws X.env)).any (·.1.isNone)) = false) :
    PE X (.Call (.Name x p) [] kws pos) (tGo sp gV 0 ks.length W tNil tk) := by
  refine ⟨fun pins s σ H Q I h => wpAny_Call_Name_kw (ld_glob I hg hm ?_ hdb)⟩
  refine PySem.W.callWith_KW0 (h₀ := X.base) I.ok.mod.kin hk hall ?_ hpl
  refine thn (hkw.run pos pins s σ H _ I h) ?_
  rintro ws s2 ⟨zs, H2, I2, rz, l1, l2, q2⟩
  rw [hks]
  exact ⟨I2.kIn, run_g (us := []) (vs := []) F hgd hr hb (passAt tkx σ) I2 .nil rz rfl (rz.length.symm.trans l2) q2⟩
theorem pe_go0 (F : FnG gds X.prog X.w X.K X.mg X.base (CX X.prog X.w) k f fd ps sp) (hm : X.mg x = some (.ref f)) (hk : PySem.W.keepIn X.K (.ref f) = true) (hb : KBn X.K fd ps 0 [] g gV) (tkx : Takes X W) (hgd : X.A.guards = gds) (hr : Room k X.A) (hg : Gl X x) (hdb : (x == ("__debug__" : Str)) = false) : PE X (.Call (.Name x p) [] [] pos) (tGo sp gV 0 0 W tNil tNil) := by
  refine ⟨fun pins s σ H Q I h => wpAny_Call_Name_kw (ld_glob I hg hm ?_ hdb)⟩
  obtain ⟨-, -, q⟩ := h
  exact PySem.W.callWith_K0 I.kIn hk (run_g (us := []) (vs := []) (ws := []) (zs := []) F hgd hr hb (passAt tkx σ) I .nil .nil rfl rfl q)
end

/-! ### the readings themselves -/
section
variable {X : Cx} {e : Expr} {es : List Expr} {st : List Stmt} {tg it : Expr} {kws : List Keyword}
def semE (X : Cx) (e : Expr) : TE := fun σ H Q => ∃ t, PE X e t ∧ t σ H Q
theorem pe_sem : PE X e (semE X e) := ⟨fun pins s σ H Q I ⟨t, h, q⟩ => h.run pins s σ H Q I q⟩
def semT (X : Cx) (e : Expr) : TT := fun σ H Q => ∃ t, PT X e t ∧ t σ H Q
theorem pt_sem : PT X e (semT X e) := ⟨fun pins s σ H Q I ⟨t, h, q⟩ => h.run pins s σ H Q I q⟩
def semW (X : Cx) (e : Expr) : TT := fun σ H Q => ∃ t, PW X e t ∧ t σ H Q
theorem pw_sem : PW X e (semW X e) := ⟨fun wh pins s σ H Q I ⟨t, h, q⟩ => h.run wh pins s σ H Q I q⟩
def semA (X : Cx) (es : List Expr) : TA := fun σ H Q => ∃ t, PA X es t ∧ t σ H Q
theorem pa_sem : PA X es (semA X es) := ⟨fun pos pins s σ H Q I ⟨t, h, q⟩ => h.run pos pins s σ H Q I q⟩
def semK (X : Cx) (kws : List Keyword) : TA := fun σ H Q => ∃ t, PK X kws t ∧ t σ H Q
theorem pk_sem : PK X kws (semK X kws) := ⟨fun pos pins s σ H Q I ⟨t, h, q⟩ => h.run pos pins s σ H Q I q⟩
def semSs (X : Cx) (st : List Stmt) : TS := fun D σ H => ∃ t, PSs X st t ∧ t D σ H
theorem pss_sem : PSs X st (semSs X st) := ⟨fun pins s σ H D I ⟨t, h, q⟩ => h.run pins s σ H D I q⟩
def semG (X : Cx) (tg : Expr) : TG := fun v σ H Q => ∃ t, PG X tg t ∧ t v σ H Q
theorem pg_sem : PG X tg (semG X tg) := ⟨fun pins s σ H v u Q I r ⟨t, h, q⟩ => h.run pins s σ H v u Q I r q⟩
def semGs (X : Cx) (ts : List Expr) : TGs := fun vs σ H Q => ∃ t, PGs X ts t ∧ t vs σ H Q
theorem pgs_sem {ts : List Expr} : PGs X ts (semGs X ts) := ⟨fun pins s σ H vs us Q I r ⟨t, h, q⟩ => h.run pins s σ H vs us Q I r q⟩
def semI (X : Cx) (tg it : Expr) : TI := fun σ H R => ∃ t, PI X tg it t ∧ t σ H R
theorem pi_sem : PI X tg it (semI X tg it) := ⟨fun pins s σ H R I ⟨t, h, q⟩ => h.run pins s σ H R I q⟩
def semO (X : Cx) (e : Option Expr) : TO := fun σ H Q => ∃ t, PO X e t ∧ t σ H Q
theorem po_sem {e : Option Expr} : PO X e (semO X e) := ⟨fun pins s σ H Q I ⟨t, h, q⟩ => h.run pins s σ H Q I q⟩
end

/-! ### the module, contexts -/
structure DI where
  name : Str
  ps : List Str
  shapes : List (Nat × List Str × List (Sum Nat T))
/-- an error class: its number, its name, its field -/
structure XN where
  c : Nat
  name : Str
  f : Str
/-- where the code objects of the lambdas of the def x are noted -/
def tabF (K : PySem.W.Frag) (x : Str) : Addr := (He.cT K (x, none)).2
/-- a class: its number, its __init__'s, its name, the parameters behind self, the attributes of its instances -/
structure CI where
  c : Nat
  n : Nat
  name : Str
  ps : List Str
  fs : List Str
/-- a method, or what a property calls: the class's number, its own, its name, its parameters -/
structure MI where
  c : Nat
  n : Nat
  name : Str
  ps : List Str
  pr : Bool
/-- a generator's def: its name, its parameters, the number of what runs it to its error -/
structure GnI where
  name : Str
  ps : List Str
  n : Nat
structure GI where
  bs : List Str
  cs : List (Str × T)
  ds : List DI
  xs : List XN
  ts : List (Str × Nat) := []
  cl : List CI := []
  me : List MI := []
  ls : List Nat := []
  ge : List GnI := []
  gd : Option (List Code) := some []
def cV : T → Value → Prop
  | .int i, u => ∃ t, u = Value.int i t
  | .str x, u => ∃ t, u = Value.str x t
  | _, _ => False
def tV : T → V
  | .int i => .int i
  | .bl b => .bl b
  | .str x => .str x
  | _ => .non
def T.scl : T → Bool
  | .int _ => true
  | .bl _ => true
  | .str _ => true
  | .non => true
  | _ => false
theorem tV_rep {K : PySem.W.Frag} {G : Lk} {x : T} (h : x.scl = true) : Rep K G (tV x) x := by
  cases x <;> first | cases h | skip
  · exact .non
  · exact .bl _
  · exact .int _
  · exact .str _
def arV (vs : List V) : Sum Nat T → Option V
  | .inl k => vs[k]?
  | .inr x => some (tV x)
def gV (ar : List (Sum Nat T)) : List V → List V → List V := fun vs zs => ar.filterMap (arV (vs ++ zs))
abbrev ER := Nat → T → Value → Option Addr → Hp → Hp → Prop
/-- what is wanted of a call's result -/
def WC (K : PySem.W.Frag) (er : ER) (S : Store) (μ : Nat → Addr) (H F : Hp) (r : R D) (Q : VK) (E : XK) : Prop := match r with
  | .no => False
  | .ok d S' => ∀ v μ' H' F' as, Hs K S' μ' H' F' → S'.length = S.length → Stp S.length S μ H F S' μ' H' F' → RepN K S'.length μ' F' H' v d as → Own as H F' μ' S' → Q v H'
  | .ex c x S' => ∀ μ' H' F' cls dx, Hs K S' μ' H' F' → S'.length = S.length → Stp S.length S μ H F S' μ' H' F' → er c x cls dx H' F' → E cls dx H'
def spC (K : PySem.W.Frag) (er : ER) (f : List D → Store → R D) (n : Nat) : Sp := fun vs H Q E => vs.length = n ∧ ∃ ds S μ F, Hs K S μ H F ∧ RepCs K S.length μ F vs ds ∧ WC K er S μ H F (f ds S) Q E
/-- what is wanted of a generator: all that it hands out, frozen -/
def WCG (K : PySem.W.Frag) (er : ER) (S : Store) (μ : Nat → Addr) (H F : Hp) (r : R D) (Q : List V → Hp → Prop) (E : XK) : Prop := match r with
  | .ok (.new xs) S' => ∀ us μ' H' F', Hs K S' μ' H' F' → S'.length = S.length → Stp S.length S μ H F S' μ' H' F' → RepL K (At F') us xs → us.length ≤ sizeLine → Q us H'
  | .ex c x S' => ∀ μ' H' F' cls dx, Hs K S' μ' H' F' → S'.length = S.length → Stp S.length S μ H F S' μ' H' F' → er c x cls dx H' F' → E cls dx H'
  | _ => False
def spG (K : PySem.W.Frag) (er : ER) (f : List D → Store → R D) (n : Nat) : SpG := fun vs H Q E => vs.length = n ∧ ∃ ds S μ F, Hs K S μ H F ∧ RepCs K S.length μ F vs ds ∧ WCG K er S μ H F (f ds S) Q E
/-- an error that leaves: its class, its dict with what it tells -/
def erX (K : PySem.W.Frag) (xs : List XN) (fa : Nat → Addr) : ER := fun c x cls dx H F => (∃ (nm f : Str) (d : Addr) (v : V), XN.mk c nm f ∈ xs ∧ f ≠ "" ∧ cls = .ref (fa c) ∧ dx = some d ∧ F d = some (.xd [(f, v)]) ∧ Rep K (At F) v x) ∨ ∃ nm : Str, XN.mk c nm "" ∈ xs ∧ cls = .ref (fa c) ∧ dx = none ∧ x = .non
/-- the error classes of the module -/
structure XOk (P : Program) (K : PySem.W.Frag) (mg : Str → Option Value) (xs : List XN) (ls : List Nat) (fa : Nat → Addr) (er : ER) : Prop where
  er : er = erX K xs fa
  own : ∀ x ∈ xs, x.f ≠ "" → ∃ fI, OwnX P K (fa x.c) fI x.f
  ownE : ∀ x ∈ xs, x.f = "" → OwnE K (fa x.c)
  ob : ∀ x ∈ xs, OwnB K (fa x.c)
  gl : ∀ x ∈ xs, mg x.name = some (.ref (fa x.c))
  sup : xs ≠ [] → mg "super" = none
  exm : ∀ x ∈ xs, ∀ y ∈ xs, PySem.W.exmOne K (.ref (fa x.c)) (.ref (fa y.c)) = some (x.c == y.c)
  kit : ∀ x ∈ xs, ∀ y ∈ xs, PySem.W.kitOne K (.ref (fa x.c)) (.ref (fa y.c)) = some (x.c == y.c)
  kve : ∀ x ∈ xs, ∀ b ∈ bAsk, PySem.W.kitOne K (.ref (fa x.c)) (.type b) = some (b == bNm (ls.contains x.c))
  uq : ∀ x ∈ xs, ∀ y ∈ xs, x.c = y.c → x.f = y.f
theorem xok_nil {P : Program} {K : PySem.W.Frag} {mg : Str → Option Value} {ls : List Nat} {fa : Nat → Addr} : XOk P K mg [] ls fa (erX K [] fa) := ⟨rfl, fun x h => (by cases h), fun x h => (by cases h), fun x h => (by cases h), fun x h => (by cases h), fun h => absurd rfl h, fun x h => (by cases h), fun x h => (by cases h), fun x h => (by cases h), fun x h => (by cases h)⟩
/-- what is wanted of C(..)'s __init__, and of C(..) -/
def WCI (K : PySem.W.Frag) (er : ER) (x : Addr) (S : Store) (μ : Nat → Addr) (H F : Hp) (r : R D) (Q : VK) (E : XK) : Prop := match r with
  | .no => False
  | .ok d S' => ∀ μ' H' F', Hs K S' μ' H' F' → d = .cell S.length → S.length < S'.length → μ' S.length = x → Stp S.length S μ H F S' μ' H' F' → Q .non H'
  | .ex c y S' => ∀ μ' H' F' cls dx, Hs K S' μ' H' F' → S'.length = S.length → Stp S.length S μ H F S' μ' H' F' → er c y cls dx H' F' → E cls dx H'
def spI (K : PySem.W.Frag) (er : ER) (C : Addr) (f : List D → Store → R D) (n : Nat) : Sp := fun vs H Q E => ∃ x dx ws, vs = .ref x :: ws ∧ ws.length = n ∧ ∃ ds S μ H0 F, Hs K S μ H0 F ∧ RepCs K S.length μ F ws ds ∧ H0 x = none ∧ H0 dx = none ∧ dx ≠ x ∧
  H = upd (upd H0 dx (.own x)) x (.ins C dx []) ∧ WCI K er x S μ H0 F (f ds S) Q E
/-- the classes of the module and their methods, at level k -/
structure CoOk (P : Program) (w : World) (K : PySem.W.Frag) (mg : Str → Option Value) (base : Heap) (gi : GI) (k : Nat) (er : ER) (q : Q) : Prop where
  z : k = 0 → ∀ n ds S, q.call n ds S = .no
  cl : ∀ c ∈ gi.cl, Cls K (q.fa c.c) ∧ (∀ f ∈ c.fs, NoAttr K (q.fa c.c) f) ∧ ∃ fI fd, L2.Mk K (q.fa c.c) fI ∧ mg c.name = some (.ref (q.fa c.c)) ∧ Binds K fd ("self" :: c.ps) [] ∧ FnG gi.gd P w K mg base (CX P w) (3 * k - 1) fI fd ("self" :: c.ps) (spI K er (q.fa c.c) (q.call c.n) c.ps.length)
  me : ∀ m ∈ gi.me, ∃ fd, Cls K (q.fa m.c) ∧ Binds K fd m.ps [] ∧ FnG gi.gd P w K mg base (CX P w) (3 * k - 1) (q.fa m.n) fd m.ps (spC K er (q.call m.n) m.ps.length) ∧
    match m.pr with
    | false => Meth K (q.fa m.c) m.name (q.fa m.n)
    | true => ∃ p, PropOf K (q.fa m.c) m.name p (q.fa m.n)
  ge : ∀ g ∈ gi.ge, ∃ f fd, mg g.name = some (.ref f) ∧ PySem.W.keepIn K (.ref f) = true ∧ Binds K fd g.ps [] ∧ GnG P w K mg base (3 * k - 3) f fd g.ps (spG K er (q.call g.n) g.ps.length)
theorem coOk_nil {P : Program} {w : World} {K : PySem.W.Frag} {mg : Str → Option Value} {base : Heap} {gi : GI} {k : Nat} {er : ER} {q : Q} (hz : k = 0 → ∀ n ds S, q.call n ds S = .no) (h1 : gi.cl = []) (h2 : gi.me = []) (h3 : gi.ge = [] := by rfl) : CoOk P w K mg base gi k er q := ⟨hz, fun c h => (by rw [h1] at h; cases h), fun c h => (by rw [h2] at h; cases h), fun g h => (by rw [h3] at h; cases h)⟩
/-- the defs of the module, at level k -/
structure Lnk (X : Cx) (gi : GI) (k : Nat) (er : ER) (q : Q) : Prop where
  df : ∀ n d, gi.ds[n]? = some d → ∃ fd, FnG gi.gd X.prog X.w X.K X.mg X.base (CX X.prog X.w) (3 * k) (q.fa n) fd d.ps (spC X.K er (q.call n) d.ps.length) ∧ X.mg d.name = some (.ref (q.fa n)) ∧ PySem.W.keepIn X.K (.ref (q.fa n)) = true ∧
    ∀ s ∈ d.shapes, ∃ g, KBn X.K fd d.ps s.1 s.2.1 g (gV s.2.2)
  xo : XOk X.prog X.K X.mg gi.xs gi.ls q.fa er
  ta : ∀ t ∈ gi.ts, tabF X.K t.1 = q.fa t.2
  co : CoOk X.prog X.w X.K X.mg X.base gi k er q
/-- a context of the program: a def's body, a comprehension's block -/
structure Cok (X : Cx) (gi : GI) (k : Nat) (N : List Str) (sc : Scope) : Prop where
  n : X.N = N
  s : X.env.scope = sc
  nd : N.Nodup
  calm : X.calm = true
  gd : X.A.guards = gi.gd
  rm : Room (3 * k) X.A
  bi : ∀ x ∈ gi.bs, X.mg x = none
  cs : ∀ p ∈ gi.cs, ∃ u, X.mg p.1 = some u ∧ cV p.2 u
section
variable {X : Cx} {gi : GI} {k : Nat} {N : List Str} {sc : Scope}
theorem Cok.gl (c : Cok X gi k N sc) {x : Str} (h : sc.names.lookup x = some .globalImplicit) : Gl X x := by
  show X.env.scope.names.lookup x = _
  rw [c.s]
  exact h
theorem Cok.un (c : Cok X gi k N sc) : X.A.units + 64 < cLine := by
  have := c.rm.un
  omega
/-- a name that the module leaves as it is -/
structure Bi (X : Cx) (x : Str) (u : Value) : Prop where
  g : Gl X x
  m : X.mg x = none
  b : bootBuiltins x = some u
  n : x ≠ ("__name__" : Str)
  d : (x == ("__debug__" : Str)) = false
theorem Cok.b (c : Cok X gi k N sc) {x : Str} {u : Value} (h : sc.names.lookup x = some .globalImplicit) (m : x ∈ gi.bs) (b : bootBuiltins x = some u := by rfl) (n : x ≠ ("__name__" : Str) := by decide) (d : (x == ("__debug__" : Str)) = false := by rfl) : Bi X x u :=
  ⟨c.gl h, c.bi x m, b, n, d⟩

/-! ### what is wanted of a piece's result -/
variable {er : ER} {W : WX} {L : Nat} {fr : Frame} {σ : L2.St} {S S1 S2 S0 : Store} {μ μ1 μ2 μ0 : Nat → Addr} {H H1 H2 H0 F F1 F2 F0 : Hp} {as bs : List Addr} {K : PySem.W.Frag}
def WR {β : Type} (K : PySem.W.Frag) (er : ER) (W : WX) (L : Nat) (fr : Frame) (σ : L2.St) (S : Store) (μ : Nat → Addr) (H F : Hp) (r : R β) (k : β → Store → (Nat → Addr) → Hp → Hp → Prop) : Prop := match r with
  | .no => False
  | .ok b S' => ∀ μ' H' F', Ab K fr S' μ' σ H' F' → Stp L S μ H F S' μ' H' F' → k b S' μ' H' F'
  | .ex c x S' => ∀ μ' H' F' cls dx, Ab K fr S' μ' σ H' F' → Stp L S μ H F S' μ' H' F' → er c x cls dx H' F' → W cls dx σ H'
def KE (K : PySem.W.Frag) (H : Hp) (Q : VK) : D → Store → (Nat → Addr) → Hp → Hp → Prop := fun d S' μ' H' F' => ∀ v as, RepN K S'.length μ' F' H' v d as → Own as H F' μ' S' → Q v H'
def KA (K : PySem.W.Frag) (H : Hp) (n : Nat) (Q : List V → Hp → Prop) : List D → Store → (Nat → Addr) → Hp → Hp → Prop := fun ds S' μ' H' F' => ∀ vs as, RepNs K S'.length μ' F' H' vs ds as → Own as H F' μ' S' → vs.length = n → Q vs H'
def KT (Q : Bool → Hp → Prop) : Bool → Store → (Nat → Addr) → Hp → Hp → Prop := fun b _ _ H' _ => Q b H'
theorem WR.bnd {β γ : Type} {r : R β} {g : β → Store → R γ} {k : γ → Store → (Nat → Addr) → Hp → Hp → Prop} {j : β → Store → (Nat → Addr) → Hp → Hp → Prop} (w : WR K er W L fr σ S0 μ0 H0 F0 (r.bnd g) k) (P : Stp L S0 μ0 H0 F0 S μ H F)
    (h : ∀ b S1 μ1 H1 F1, Ab K fr S1 μ1 σ H1 F1 → Stp L S μ H F S1 μ1 H1 F1 → WR K er W L fr σ S0 μ0 H0 F0 (g b S1) k → j b S1 μ1 H1 F1) : WR K er W L fr σ S μ H F r j := by
  cases r with
  | no => exact w.elim
  | ok b S1 => exact fun μ1 H1 F1 A1 P1 => h b S1 μ1 H1 F1 A1 P1 w
  | ex c x S1 => exact fun μ1 H1 F1 cls dx A1 P1 e => w μ1 H1 F1 cls dx A1 (P.trans P1) e
/-- an expression does what f says -/
def SemE (X : Cx) (gi : GI) (k : Nat) (e : Expr) (f : XE) : Prop := ∀ er q, Lnk X gi k er q → ∀ W, Takes X W → ∀ fr S μ σ H F, Ab X.K fr S μ σ H F → ∀ Q, WR X.K er W q.L fr σ S μ H F (f q fr S) (KE X.K H Q) → semE X e σ H Q
def SemT (X : Cx) (gi : GI) (k : Nat) (e : Expr) (f : XT) : Prop := ∀ er q, Lnk X gi k er q → ∀ W, Takes X W → ∀ fr S μ σ H F, Ab X.K fr S μ σ H F → ∀ Q, WR X.K er W q.L fr σ S μ H F (f q fr S) (KT Q) → semT X e σ H Q
def SemA (X : Cx) (gi : GI) (k : Nat) (es : List Expr) (f : XA) : Prop := ∀ er q, Lnk X gi k er q → ∀ W, Takes X W → ∀ fr S μ σ H F, Ab X.K fr S μ σ H F → ∀ Q, WR X.K er W q.L fr σ S μ H F (f q fr S) (KA X.K H es.length Q) → semA X es σ H Q
def SemK (X : Cx) (gi : GI) (k : Nat) (kws : List Keyword) (f : XA) : Prop := ∀ er q, Lnk X gi k er q → ∀ W, Takes X W → ∀ fr S μ σ H F, Ab X.K fr S μ σ H F → ∀ Q, WR X.K er W q.L fr σ S μ H F (f q fr S) (KA X.K H kws.length Q) → semK X kws σ H Q
theorem SemE.go {e : Expr} {f : XE} (h : SemE X gi k e f) {q : Q} (lk : Lnk X gi k er q) (tk : Takes X W) (A : Ab X.K fr S μ σ H F) (P : Stp q.L S0 μ0 H0 F0 S μ H F) {γ : Type} {g : D → Store → R γ} {j : γ → Store → (Nat → Addr) → Hp → Hp → Prop} (w : WR X.K er W q.L fr σ S0 μ0 H0 F0 ((f q fr S).bnd g) j) {Q : VK}
    (n : ∀ d S1 μ1 H1 F1 v as, Ab X.K fr S1 μ1 σ H1 F1 → Stp q.L S μ H F S1 μ1 H1 F1 → RepN X.K S1.length μ1 F1 H1 v d as → Own as H F1 μ1 S1 → WR X.K er W q.L fr σ S0 μ0 H0 F0 (g d S1) j → Q v H1) : semE X e σ H Q :=
  h er q lk W tk fr S μ σ H F A Q (w.bnd P fun d S1 μ1 H1 F1 A1 P1 w1 v as r o => n d S1 μ1 H1 F1 v as A1 P1 r o w1)
theorem SemT.go {e : Expr} {f : XT} (h : SemT X gi k e f) {q : Q} (lk : Lnk X gi k er q) (tk : Takes X W) (A : Ab X.K fr S μ σ H F) (P : Stp q.L S0 μ0 H0 F0 S μ H F) {γ : Type} {g : Bool → Store → R γ} {j : γ → Store → (Nat → Addr) → Hp → Hp → Prop} (w : WR X.K er W q.L fr σ S0 μ0 H0 F0 ((f q fr S).bnd g) j) {Q : Bool → Hp → Prop}
    (n : ∀ b S1 μ1 H1 F1, Ab X.K fr S1 μ1 σ H1 F1 → Stp q.L S μ H F S1 μ1 H1 F1 → WR X.K er W q.L fr σ S0 μ0 H0 F0 (g b S1) j → Q b H1) : semT X e σ H Q :=
  h er q lk W tk fr S μ σ H F A Q (w.bnd P fun d S1 μ1 H1 F1 A1 P1 w1 => n d S1 μ1 H1 F1 A1 P1 w1)
theorem SemA.go {es : List Expr} {f : XA} (h : SemA X gi k es f) {q : Q} (lk : Lnk X gi k er q) (tk : Takes X W) (A : Ab X.K fr S μ σ H F) (P : Stp q.L S0 μ0 H0 F0 S μ H F) {γ : Type} {g : List D → Store → R γ} {j : γ → Store → (Nat → Addr) → Hp → Hp → Prop} (w : WR X.K er W q.L fr σ S0 μ0 H0 F0 ((f q fr S).bnd g) j) {Q : List V → Hp → Prop}
    (n : ∀ ds S1 μ1 H1 F1 vs as, Ab X.K fr S1 μ1 σ H1 F1 → Stp q.L S μ H F S1 μ1 H1 F1 → RepNs X.K S1.length μ1 F1 H1 vs ds as → Own as H F1 μ1 S1 → vs.length = es.length → WR X.K er W q.L fr σ S0 μ0 H0 F0 (g ds S1) j → Q vs H1) : semA X es σ H Q :=
  h er q lk W tk fr S μ σ H F A Q (w.bnd P fun d S1 μ1 H1 F1 A1 P1 w1 v as r o l => n d S1 μ1 H1 F1 v as A1 P1 r o l w1)
theorem SemK.go {es : List Keyword} {f : XA} (h : SemK X gi k es f) {q : Q} (lk : Lnk X gi k er q) (tk : Takes X W) (A : Ab X.K fr S μ σ H F) (P : Stp q.L S0 μ0 H0 F0 S μ H F) {γ : Type} {g : List D → Store → R γ} {j : γ → Store → (Nat → Addr) → Hp → Hp → Prop} (w : WR X.K er W q.L fr σ S0 μ0 H0 F0 ((f q fr S).bnd g) j) {Q : List V → Hp → Prop}
    (n : ∀ ds S1 μ1 H1 F1 vs as, Ab X.K fr S1 μ1 σ H1 F1 → Stp q.L S μ H F S1 μ1 H1 F1 → RepNs X.K S1.length μ1 F1 H1 vs ds as → Own as H F1 μ1 S1 → vs.length = es.length → WR X.K er W q.L fr σ S0 μ0 H0 F0 (g ds S1) j → Q vs H1) : semK X es σ H Q :=
  h er q lk W tk fr S μ σ H F A Q (w.bnd P fun d S1 μ1 H1 F1 A1 P1 w1 v as r o l => n d S1 μ1 H1 F1 v as A1 P1 r o l w1)
/-! handing over a result -/
theorem give {d : D} {Q : VK} {v : V} (w : WR K er W L fr σ S0 μ0 H0 F0 (.ok d S) (KE K H0 Q)) (A : Ab K fr S μ σ H F) (P : Stp L S0 μ0 H0 F0 S μ H F) (r : RepN K S.length μ F H v d as) (o : Own as H0 F μ S) : Q v H := w μ H F A P v as r o
theorem giveT {x : T} {Q : VK} {v : V} (w : WR K er W L fr σ S0 μ0 H0 F0 (.ok (.t x) S) (KE K H0 Q)) (A : Ab K fr S μ σ H F) (P : Stp L S0 μ0 H0 F0 S μ H F) (r : Rep K (At F) v x) : Q v H := give w A P (.c (.t r)) .nil
/-- a new list -/
theorem giveN {xs : List T} {Q : VK} {vs : List V} {p : Addr} (w : WR K er W L fr σ S0 μ0 H0 F0 (.ok (.new xs) S) (KE K H0 Q)) (A : Ab K fr S μ σ H F) (P : Stp L S0 μ0 H0 F0 S μ H F) (hp : H p = none) (r : RepL K (At F) vs xs) : Q (.ref p) (upd H p (.lst vs)) := by
  have P2 := stp_laid (L := L) (S := S) (μ := μ) (F := F) (o := .lst vs) hp
  refine give w (A.hsof P2 (A.hs.laid hp)) (P.trans P2) (.new upd_same r) ?_
  exact (own_new A.hs hp).start P.dom
end
end Mi

set_option Elab.async false
set_option linter.all false
set_option maxRecDepth 100000
set_option maxHeartbeats 4000000
/-! N7: expressions: names, constants, displays, operators, tests -/
namespace Mi
open PySem PySem.Spec PyProof.Rows L2
/-- the i-th name -/
structure Nm (X : Cx) (i : Nat) (x : Str) : Prop where
  n : X.N[i]? = some x
  v : Vis X.env.scope x
  d : (x == ("__debug__" : Str)) = false
  c : (x == ("__classdict__" : Str)) = false
section
variable {X : Cx} {gi : GI} {k : Nat} {N : List Str} {sc : Scope} {pos p1 : Pos} {e a b c i : Expr} {es rest : List Expr} {f g h : XE} {fa ga : XA} {ft gt : XT}
variable {er : ER} {W : WX} {L : Nat} {fr : Frame} {σ : L2.St} {S S1 S2 S0 : Store} {μ μ1 μ2 μ0 : Nat → Addr} {H H1 H2 H0 F F1 F2 F0 : Hp} {as bs : List Addr} {K : PySem.W.Frag}
theorem Cok.nm (c : Cok X gi k N sc) {i : Nat} {x : Str} (h : N[i]? = some x) (v : Vis sc x) (d : (x == ("__debug__" : Str)) = false := by rfl) (q : (x == ("__classdict__" : Str)) = false := by rfl) : Nm X i x :=
  ⟨by rw [c.n]; exact h, by rw [c.s]; exact v, d, q⟩
theorem sem_v {i : Nat} {x : Str} (n : Nm X i x) : SemE X gi k (.Name x pos) (Z.v i) := by
  intro er q lk W tk fr S μ σ H F A Q w
  unfold Z.v at w
  split at w
  · rename_i d e
    obtain ⟨v, e1, r⟩ := A.sl i d e
    exact ⟨_, pe_var n.n n.v n.d n.c, v, e1, give w A .refl (.c r) .nil⟩
  · exact w.elim
theorem sem_int {i : Int} {j : Nat} : SemE X gi k (.Constant (.int i) j pos) (Z.k (.int i)) := by
  intro er q lk W tk fr S μ σ H F A Q w
  exact ⟨_, pe_int, giveT w A .refl (.int i)⟩
theorem sem_bl {i : Bool} {j : Nat} : SemE X gi k (.Constant (.bool i) j pos) (Z.k (.bl i)) := by
  intro er q lk W tk fr S μ σ H F A Q w
  exact ⟨_, pe_bl, giveT w A .refl (.bl i)⟩
theorem sem_non {j : Nat} : SemE X gi k (.Constant .none j pos) (Z.k .non) := by
  intro er q lk W tk fr S μ σ H F A Q w
  exact ⟨_, pe_non, giveT w A .refl .non⟩
theorem sem_str {i : Str} {j : Nat} : SemE X gi k (.Constant (.str i) j pos) (Z.k (.str i)) := by
  intro er q lk W tk fr S μ σ H F A Q w
  exact ⟨_, pe_str, giveT w A .refl (.str i)⟩
/-- a constant of the module -/
theorem sem_gk {x : Str} {y : T} (c : Cok X gi k N sc) (hg : sc.names.lookup x = some .globalImplicit) (hm : (x, y) ∈ gi.cs) (hd : (x == ("__debug__" : Str)) = false := by rfl) : SemE X gi k (.Name x pos) (Z.k y) := by
  intro er q lk W tk fr S μ σ H F A Q w
  obtain ⟨u, e1, e2⟩ := c.cs _ hm
  cases y with
  | int i => exact ⟨_, pe_glob (v := .int i) (c.gl hg) e1 e2 hd, giveT w A .refl (.int i)⟩
  | str i => exact ⟨_, pe_glob (v := .str i) (c.gl hg) e1 e2 hd, giveT w A .refl (.str i)⟩
  | _ => exact e2.elim
/-- a def as a value -/
theorem sem_g {x : Str} {n : Nat} {d : DI} (c : Cok X gi k N sc) (hg : sc.names.lookup x = some .globalImplicit) (hm : gi.ds[n]? = some d) (hx : d.name = x) (hd : (x == ("__debug__" : Str)) = false := by rfl) : SemE X gi k (.Name x pos) (Z.g n) := by
  intro er q lk W tk fr S μ σ H F A Q w
  obtain ⟨fd, _, e1, _⟩ := lk.df n d hm
  rw [hx] at e1
  exact ⟨_, pe_glob (v := .ref (q.fa n)) (c.gl hg) e1 rfl hd, giveT w A .refl (.fn n _)⟩

/-! ### lists of expressions -/
theorem sea_nil : SemA X gi k [] Z.nil := by
  intro er q lk W tk fr S μ σ H F A Q w
  exact ⟨_, pa_nil, w μ H F A .refl [] [] .nil .nil rfl⟩
theorem sea_cons (h1 : SemE X gi k e f) (h2 : SemA X gi k es fa) (hs : starEach (e :: es) X.env = (false, eval e X.env) :: starEach es X.env) : SemA X gi k (e :: es) (Z.cons f fa) := by
  intro er q lk W tk fr S μ σ H F A Q w
  refine ⟨_, pa_cons pe_sem pa_sem hs, h1.go lk tk A .refl w fun d S1 μ1 H1 F1 v as A1 P1 r1 o1 w1 => h2.go lk tk A1 P1 w1 fun ds S2 μ2 H2 F2 vs bs A2 P2 r2 o2 l2 w2 => ?_⟩
  obtain ⟨r1', o1'⟩ := r1.keep o1 P2
  refine w2 μ2 H2 F2 A2 (P1.trans P2) _ _ (.cons r1' r2) (o1'.app o2 P1.dom r1.there) (congrArg Nat.succ l2)
theorem sek_nil : SemK X gi k [] Z.nil := by
  intro er q lk W tk fr S μ σ H F A Q w
  exact ⟨_, pk_nil, w μ H F A .refl [] [] .nil .nil rfl⟩
theorem sek_cons {nm : Option Str} {kp : Pos} {kws : List Keyword} (h1 : SemE X gi k e f) (h2 : SemK X gi k kws fa) : SemK X gi k (⟨nm, e, kp⟩ :: kws) (Z.cons f fa) := by
  intro er q lk W tk fr S μ σ H F A Q w
  refine ⟨_, pk_cons pe_sem pk_sem, h1.go lk tk A .refl w fun d S1 μ1 H1 F1 v as A1 P1 r1 o1 w1 => h2.go lk tk A1 P1 w1 fun ds S2 μ2 H2 F2 vs bs A2 P2 r2 o2 l2 w2 => ?_⟩
  obtain ⟨r1', o1'⟩ := r1.keep o1 P2
  refine w2 μ2 H2 F2 A2 (P1.trans P2) _ _ (.cons r1' r2) (o1'.app o2 P1.dom r1.there) (congrArg Nat.succ l2)
theorem allT_rep : ∀ {ds : List D} {xs : List T} {vs : List V} {as : List Addr} {M : Nat}, allT ds = some xs → RepNs K M μ F H vs ds as → RepL K (At F) vs xs
  | [], xs, vs, as, M, e, r => by
    cases e
    cases r
    exact .nil
  | d :: ds, xs, vs, as, M, e, r => by
    cases r with
    | cons r1 r2 =>
      cases d with
      | t x =>
        have e' : (allT ds).map (x :: ·) = some xs := e
        cases q : allT ds with
        | none =>
          rw [q] at e'
          cases e'
        | some ys =>
          rw [q] at e'
          cases e'
          cases r1 with
          | c r1 =>
            cases r1 with
            | t r1 => exact .cons r1 (allT_rep q r2)
      | _ => cases e
/-- the new list of these -/
theorem giveL {ds : List D} {Q : VK} {vs : List V} {p : Addr} (w : WR K er W L fr σ S0 μ0 H0 F0 (.ok (Z.mkL ds) S) (KE K H0 Q)) (A : Ab K fr S μ σ H F) (P : Stp L S0 μ0 H0 F0 S μ H F) (hp : H p = none) (r : RepNs K S.length μ F H vs ds as) (o : Own as H0 F μ S) : Q (.ref p) (upd H p (.lst vs)) := by
  unfold Z.mkL at w
  split at w
  · rename_i xs e
    exact giveN w A P hp (allT_rep e r)
  · have P2 := stp_laid (L := L) (S := S) (μ := μ) (F := F) (o := .lst vs) hp
    obtain ⟨r', o'⟩ := r.keep o P2
    refine give w (A.hsof P2 (A.hs.laid hp)) (P.trans P2) (.newo upd_same r') ⟨List.nodup_cons.mpr ⟨fun z => ?_, o'.nd⟩, fun a ha => ?_⟩
    · obtain ⟨u, hu⟩ := r.there p z
      rw [hp] at hu
      cases hu
    · rcases List.mem_cons.mp ha with rfl | ha
      · exact ((own_new A.hs hp).start P.dom).fr _ (List.mem_singleton.mpr rfl)
      · exact o'.fr a ha
theorem sem_lst (h : SemA X gi k es fa) (hn : es.length ≤ 1000) : SemE X gi k (.List es pos) (Z.lst fa) := by
  intro er q lk W tk fr S μ σ H F A Q w
  refine ⟨_, pe_lst pa_sem, h.go lk tk A .refl w fun ds S1 μ1 H1 F1 vs as A1 P1 r1 o1 l1 w1 => ⟨?_, fun p hp => giveL w1 A1 P1 hp r1 o1⟩⟩
  rw [l1]
  exact Nat.le_trans hn (by decide)
theorem sem_tup {j : Nat} (h : SemA X gi k es fa) (hn : es.length ≤ 1000) : SemE X gi k (.Tuple es j pos) (Z.tup fa) := by
  intro er q lk W tk fr S μ σ H F A Q w
  refine ⟨_, pe_tup pa_sem, h.go lk tk A .refl w fun ds S1 μ1 H1 F1 vs as A1 P1 r1 o1 l1 w1 => ⟨?_, fun p hp => ?_⟩⟩
  · rw [l1]
    exact Nat.le_trans hn (by decide)
  have P2 := stp_laid (L := q.L) (S := S1) (μ := μ1) (F := F1) (o := .tup vs) hp
  obtain ⟨r', o'⟩ := r1.keep o1 P2
  have A2 := A1.hsof P2 (A1.hs.laid hp)
  have on := (own_new A1.hs hp).start P1.dom
  unfold Z.mkT at w1
  split at w1
  · rename_i xs e
    have P3 := stp_frz (P1.trans P2) (⟨on.nd, fun a ha => on.fr a ha⟩ : Own [p] H F1 μ1 S1)
    have hs3 := A2.hs.frz (as := [p]) ⟨on.nd, fun a ha => on.fr a ha⟩
    refine giveT w1 (A.hsof P3 hs3) P3 (.tup ((frz_in (List.mem_singleton.mpr rfl)).trans upd_same) ?_)
    exact (allT_rep e r').mono (at_mono (frz_same fun a ha => (on.fr a ha).2.1))
  · refine give w1 A2 (P1.trans P2) (.tupo upd_same r') ⟨List.nodup_cons.mpr ⟨fun z => ?_, o'.nd⟩, fun a ha => ?_⟩
    · obtain ⟨u, hu⟩ := r1.there p z
      rw [hp] at hu
      cases hu
    · rcases List.mem_cons.mp ha with rfl | ha
      · exact on.fr _ (List.mem_singleton.mpr rfl)
      · exact o'.fr a ha

/-! ### operators by values -/
/-- an operator of two values does what g says -/
def OpS (X : Cx) (fop : Value → Value → Sem Value) (g : D → D → Store → R D) : Prop := ∃ r : R2, OpR X fop r ∧ ∀ {er : ER} {W : WX} {L : Nat} {fr : Frame} {σ : L2.St} {S0 S : Store} {μ0 μ : Nat → Addr} {H0 F0 H F : Hp} {Q : VK} {x y : D} {v w : V} {as bs : List Addr},
  Ab X.K fr S μ σ H F → Stp L S0 μ0 H0 F0 S μ H F → RepN X.K S.length μ F H v x as → RepN X.K S.length μ F H w y bs → Own (as ++ bs) H0 F μ S → WR X.K er W L fr σ S0 μ0 H0 F0 (g x y S) (KE X.K H0 Q) → r v w H Q
theorem opr_or {fop : Value → Value → Sem Value} {r1 r2 : R2} (h1 : OpR X fop r1) (h2 : OpR X fop r2) : OpR X fop (fun x y H Q => r1 x y H Q ∨ r2 x y H Q) := by
  intro pins s σ H x y v u Q I rx ry h
  rcases h with h | h
  · exact h1 pins s σ H x y v u Q I rx ry h
  · exact h2 pins s σ H x y v u Q I rx ry h
theorem tOp_go {r : R2} {D1 : D → D → Store → R D} {q : Q} (h1 : SemE X gi k a f) (h2 : SemE X gi k b g) (lk : Lnk X gi k er q) (tk : Takes X W) (A : Ab X.K fr S μ σ H F) {Q : VK}
    (w : WR X.K er W q.L fr σ S μ H F ((f q fr S).bnd fun x S1 => (g q fr S1).bnd fun y S2 => D1 x y S2) (KE X.K H Q))
    (n : ∀ {S2 μ2 H2 F2 x y v w as bs}, Ab X.K fr S2 μ2 σ H2 F2 → Stp q.L S μ H F S2 μ2 H2 F2 → RepN X.K S2.length μ2 F2 H2 v x as → RepN X.K S2.length μ2 F2 H2 w y bs → Own (as ++ bs) H F2 μ2 S2 → WR X.K er W q.L fr σ S μ H F (D1 x y S2) (KE X.K H Q) → r v w H2 Q) :
    tOp r (semE X a) (semE X b) σ H Q :=
  h1.go lk tk A .refl w fun x S1 μ1 H1 F1 v as A1 P1 r1 o1 w1 => h2.go lk tk A1 P1 w1 fun y S2 μ2 H2 F2 u bs A2 P2 r2 o2 w2 => by
    obtain ⟨r1', o1'⟩ := r1.keep o1 P2
    exact n A2 (P1.trans P2) r1' r2 (o1'.app o2 P1.dom r1.there) w2
theorem sem_bin {op : Operator} {o : BO} (ho : OpS X (binaryOp op) (bop o)) (h1 : SemE X gi k a f) (h2 : SemE X gi k b g) : SemE X gi k (.BinOp a op b pos) (Z.bin o f g) := by
  intro er q lk W tk fr S μ σ H F A Q w
  obtain ⟨r, hr, hn⟩ := ho
  exact ⟨_, pe_op hr pe_sem pe_sem, tOp_go h1 h2 lk tk A w hn⟩
/-! lists as they stand -/
theorem rd_cell (A : Hs K S μ H F) {n : Nat} {o : Ob} (e : rd S n = some o) : ∃ u, S[n]? = some u ∧ u.un = o ∧ ∃ ho, H (μ n) = some ho ∧ Con K S.length μ F u ho := by
  unfold rd at e
  cases q : S[n]? with
  | none =>
    rw [q] at e
    cases e
  | some u =>
    rw [q] at e
    cases e
    obtain ⟨ho, h1, h2⟩ := A.ce n u q
    exact ⟨u, rfl, rfl, ho, h1, h2⟩
theorem sq_rep (A : Hs K S μ H F) {v : V} {x : D} {xs : List T} (r : RepN K S.length μ F H v x as) (e : sq S x = some xs) : ∃ a vs, v = .ref a ∧ H a = some (.lst vs) ∧ RepL K (At F) vs xs := by
  cases r with
  | c r =>
    cases r with
    | t r =>
      rename_i y
      cases y with
      | lst ys =>
        cases e
        obtain ⟨a, vs, rfl, h1, h2⟩ := rep_lst r
        exact ⟨a, vs, rfl, now_lst (A.sub _ _ h1), h2⟩
      | _ => cases e
    | cell hn =>
      rename_i n
      unfold sq at e
      simp only at e
      split at e
      · rename_i ys q
        cases e
        obtain ⟨u, _, hu, ho, h1, h2⟩ := rd_cell A q
        cases u with
        | lst zs =>
          cases hu
          cases ho <;> first | exact h2.elim | skip
          exact ⟨_, _, rfl, h1, h2⟩
        | lck o =>
          cases hu
          cases ho <;> first | exact h2.elim | skip
          exact ⟨_, _, rfl, h1, h2⟩
        | _ => cases hu
      · cases e
  | new h1 h2 =>
    cases e
    exact ⟨_, _, rfl, h1, h2⟩
  | newd _ _ => cases e
  | newo _ _ => cases e
  | tupo _ _ => cases e
  | newk _ _ => cases e
theorem line_ok {n : Nat} (h : n ≤ okL) : n ≤ sizeLine := Nat.le_trans h (by decide)
theorem repT {v : V} {x : T} (r : RepN K S.length μ F H v (.t x) as) : Rep K (At F) v x ∧ as = [] := by
  cases r with
  | c r =>
    cases r with
    | t r => exact ⟨r, rfl⟩
theorem op_addS : OpS X (binaryOp .Add) (bop .add) := by
  refine ⟨_, opr_or op_add (opr_or op_add_str op_cat), ?_⟩
  intro er W L fr σ S0 S μ0 μ H0 F0 H F Q x y v w as bs A P r1 r2 o hw0
  have hw : WR X.K er W L fr σ S0 μ0 H0 F0 (addD x y S) (KE X.K H0 Q) := hw0
  clear hw0
  unfold addD at hw
  split at hw
  · rename_i i j
    rw [rep_int (repT r1).1, rep_int (repT r2).1]
    exact .inl ⟨i, j, rfl, rfl, giveT hw A P (.int _)⟩
  · rename_i i j
    rw [rep_str (repT r1).1, rep_str (repT r2).1]
    split at hw
    · rename_i hl
      exact .inr (.inl ⟨i, j, rfl, rfl, line_ok hl, giveT hw A P (.str _)⟩)
    · exact hw.elim
  · split at hw
    · rename_i xs e1
      split at hw
      · rename_i ys e2
        obtain ⟨a, vs, rfl, h1, g1⟩ := sq_rep A.hs r1 e1
        obtain ⟨b, ws, rfl, h2, g2⟩ := sq_rep A.hs r2 e2
        split at hw
        · rename_i hl
          refine .inr (.inr ⟨a, b, vs, ws, rfl, rfl, h1, h2, ?_, fun p hp => giveN hw A P hp (g1.append g2)⟩)
          rw [g1.length, g2.length]
          exact line_ok hl
        · exact hw.elim
      · exact hw.elim
    · exact hw.elim
theorem int2 {x y : D} {v w : V} {i j : Int} (r1 : RepN K S.length μ F H v (.t (.int i)) as) (r2 : RepN K S.length μ F H w (.t (.int j)) bs) : v = .int i ∧ w = .int j := ⟨rep_int (repT r1).1, rep_int (repT r2).1⟩
theorem op_subS : OpS X (binaryOp .Sub) (bop .sub) := by
  refine ⟨_, op_sub, ?_⟩
  intro er W L fr σ S0 S μ0 μ H0 F0 H F Q x y v w as bs A P r1 r2 o hw
  unfold bop at hw
  split at hw <;> first | (rename_i z; cases z; done) | skip
  all_goals first | exact hw.elim | skip
  · rw [rep_int (repT r1).1, rep_int (repT r2).1]
    exact ⟨_, _, rfl, rfl, giveT hw A P (.int _)⟩
theorem op_modS : OpS X (binaryOp .Mod) (bop .mod) := by
  refine ⟨_, op_mod, ?_⟩
  intro er W L fr σ S0 S μ0 μ H0 F0 H F Q x y v w as bs A P r1 r2 o hw
  unfold bop at hw
  split at hw <;> first | (rename_i z; cases z; done) | skip
  all_goals first | exact hw.elim | skip
  · rw [rep_int (repT r1).1, rep_int (repT r2).1]
    split at hw
    · rename_i h
      exact ⟨_, _, rfl, rfl, h, giveT hw A P (.int _)⟩
    · exact hw.elim
theorem op_fdivS : OpS X (binaryOp .FloorDiv) (bop .fdiv) := by
  refine ⟨_, opr_or op_fdiv op_fdivW, ?_⟩
  intro er W L fr σ S0 S μ0 μ H0 F0 H F Q x y v w as bs A P r1 r2 o hw
  unfold bop at hw
  split at hw <;> first | (rename_i z; cases z; done) | skip
  all_goals first | exact hw.elim | skip
  · rw [rep_int (repT r1).1, rep_int (repT r2).1]
    split at hw
    · rename_i h
      rcases h with h | h
      · exact .inl ⟨_, _, rfl, rfl, h, giveT hw A P (.int _)⟩
      · exact .inr ⟨_, _, rfl, rfl, h, giveT hw A P (.int _)⟩
    · exact hw.elim
def CPowW (i j : Int) : Prop := 0 ≤ j ∧ (Builtin.Int.intBits i : Int) * j ≤ 2 ^ 27
theorem op_powW : OpR X (binaryOp .Pow) (rI CPowW fun i j => .int (i ^ j.toNat)) := opI fun _ _ _ _ _ _ _ hc q => pow_int hc.1 hc.2 q
theorem op_powS : OpS X (binaryOp .Pow) (bop .pow) := by
  refine ⟨_, opr_or op_pow op_powW, ?_⟩
  intro er W L fr σ S0 S μ0 μ H0 F0 H F Q x y v w as bs A P r1 r2 o hw
  unfold bop at hw
  split at hw <;> first | (rename_i z; cases z; done) | skip
  all_goals first | exact hw.elim | skip
  · rw [rep_int (repT r1).1, rep_int (repT r2).1]
    split at hw
    · rename_i h
      rcases h with h | h
      · exact .inl ⟨_, _, rfl, rfl, h, giveT hw A P (.int _)⟩
      · exact .inr ⟨_, _, rfl, rfl, h, giveT hw A P (.int _)⟩
    · exact hw.elim
theorem op_shlS : OpS X (binaryOp .LShift) (bop .shl) := by
  refine ⟨_, op_shl, ?_⟩
  intro er W L fr σ S0 S μ0 μ H0 F0 H F Q x y v w as bs A P r1 r2 o hw
  unfold bop at hw
  split at hw <;> first | (rename_i z; cases z; done) | skip
  all_goals first | exact hw.elim | skip
  · rw [rep_int (repT r1).1, rep_int (repT r2).1]
    split at hw
    · rename_i h
      exact ⟨_, _, rfl, rfl, h, giveT hw A P (.int _)⟩
    · exact hw.elim
/-- what is owned is frozen -/
theorem Ab.frzd (A : Ab K fr S μ σ H F) (P : Stp L S0 μ0 H0 F0 S μ H F) (o : Own as H0 F μ S) : Ab K fr S μ σ H (frz F H as) ∧ Stp L S0 μ0 H0 F0 S μ H (frz F H as) :=
  ⟨⟨A.hs.frz o, A.len, fun i d e => let ⟨v, e1, r⟩ := A.sl i d e; ⟨v, e1, r.mono (Nat.le_refl _) (fun _ _ => rfl) (frz_same fun a ha => (o.fr a ha).2.1)⟩⟩, stp_frz P o⟩
theorem op_mulS : OpS X (binaryOp .Mult) (bop .mul) := by
  refine ⟨_, opr_or op_mul (opr_or op_mulW op_rep), ?_⟩
  intro er W L fr σ S0 S μ0 μ H0 F0 H F Q x y v w as bs A P r1 r2 o hw0
  have hw : WR X.K er W L fr σ S0 μ0 H0 F0 (mulD x y S) (KE X.K H0 Q) := hw0
  clear hw0
  unfold mulD at hw
  split at hw
  · rw [rep_int (repT r1).1, rep_int (repT r2).1]
    split at hw
    · rename_i h
      rcases h with h | h
      · exact .inl ⟨_, _, rfl, rfl, h, giveT hw A P (.int _)⟩
      · exact .inr (.inl ⟨_, _, rfl, rfl, h, giveT hw A P (.int _)⟩)
    · exact hw.elim
  · rename_i kk _
    rw [rep_int (repT r2).1]
    split at hw
    · rename_i xs e1
      split at hw
      · rename_i hk
        obtain ⟨k1, k2, k3⟩ := hk
        unfold fzL at e1
        split at e1
        · rename_i ds
          cases r1 with
          | c r1 => cases r1
          | newo h1 h2 =>
            obtain ⟨A2, P2⟩ := A.frzd P o.left
            have g := (fzs_rep (frz_same fun a ha => (o.left.fr a ha).2.1) h2 (fun a ha => List.mem_cons_of_mem _ ha) e1)
            refine .inr (.inr ⟨_, kk, _, rfl, rfl, h1, k1, k2, ?_, fun p hp => giveN hw A2 P2 hp (g.reps _)⟩)
            rw [g.length]
            exact line_ok k3
        · obtain ⟨a, vs, rfl, h1, g⟩ := sq_rep A.hs r1 e1
          refine .inr (.inr ⟨a, kk, vs, rfl, rfl, h1, k1, k2, ?_, fun p hp => giveN hw A P hp (g.reps _)⟩)
          rw [g.length]
          exact line_ok k3
      · exact hw.elim
    · exact hw.elim
  · exact hw.elim
end
end Mi

set_option Elab.async false
set_option linter.all false
set_option maxRecDepth 100000
set_option maxHeartbeats 4000000
/-! N8: comparisons, tests, subscripts, slices -/
namespace Mi
open PySem PySem.Spec PyProof.Rows L2
section
variable {X : Cx} {gi : GI} {k : Nat} {N : List Str} {sc : Scope} {pos p1 : Pos} {e a b c i : Expr} {es rest : List Expr} {f g h : XE} {fa ga : XA} {ft gt : XT}
variable {er : ER} {W : WX} {L : Nat} {fr : Frame} {σ : L2.St} {S S1 S2 S0 : Store} {μ μ1 μ2 μ0 : Nat → Addr} {H H1 H2 H0 F F1 F2 F0 : Hp} {as bs : List Addr} {K : PySem.W.Frag}

/-! ### dicts -/
theorem dct_rep (A : Hs K S μ H F) {v : V} {x : D} {kvs : List (Key × T)} (r : RepN K S.length μ F H v x as) (e : dct S x = some kvs) : ∃ a vs, v = .ref a ∧ Rd H a (.dK vs) ∧ RepK K (At F) vs kvs := by
  cases r with
  | c r =>
    cases r with
    | t r =>
      rename_i y
      cases y with
      | dic ys =>
        cases e
        obtain ⟨a, vs, rfl, h1, h2⟩ := rep_dic r
        exact ⟨a, vs, rfl, now_rd (A.sub _ _ h1), h2⟩
      | _ => cases e
    | cell hn =>
      rename_i n
      unfold dct at e
      simp only at e
      split at e
      · rename_i ys q
        cases e
        obtain ⟨u, _, hu, ho, h1, h2⟩ := rd_cell A q
        cases u with
        | dic zs =>
          cases hu
          cases ho <;> first | exact h2.elim | skip
          exact ⟨_, _, rfl, .inl h1, h2⟩
        | lck o =>
          cases hu
          cases ho <;> first | exact h2.elim | skip
          rename_i ob u
          cases u <;> first | exact h2.elim | skip
          exact ⟨_, _, rfl, .inr ⟨_, h1⟩, h2⟩
        | _ => cases hu
      · cases e
  | new _ _ => cases e
  | newd h1 h2 =>
    cases e
    exact ⟨_, _, rfl, .inl h1, h2⟩
  | newo _ _ => cases e
  | tupo _ _ => cases e
  | newk _ _ => cases e
theorem look_rep {G : Lk} {kk : Key} : ∀ {vs : List (Key × V)} {kvs : List (Key × T)}, RepK K G vs kvs → (∀ x, lookK kk kvs = some x → ∃ v, valV vs kk = some v ∧ Rep K G v x) ∧ (lookK kk kvs = none → valV vs kk = none)
  | _, _, .nil => ⟨fun x e => (by cases e), fun _ => rfl⟩
  | (j, v) :: vs, _ :: kvs, .cons h t => by
    obtain ⟨i1, i2⟩ := look_rep (kk := kk) t
    by_cases e : j = kk
    · constructor
      · intro x q
        unfold lookK at q
        rw [if_pos e] at q
        cases q
        exact ⟨v, valV_pos e, h⟩
      · intro q
        unfold lookK at q
        rw [if_pos e] at q
        cases q
    · constructor
      · intro x q
        unfold lookK at q
        rw [if_neg e] at q
        rw [valV_neg (p := (j, v)) e]
        exact i1 x q
      · intro q
        unfold lookK at q
        rw [if_neg e] at q
        rw [valV_neg (p := (j, v)) e]
        exact i2 q
theorem has_look {α : Type} {kk : Key} : ∀ {kvs : List (Key × α)}, hasK kk kvs = (lookK kk kvs).isSome
  | [] => rfl
  | (j, v) :: kvs => by
    unfold hasK lookK
    by_cases e : j = kk
    · rw [if_pos e, decide_eq_true e]
      rfl
    · rw [if_neg e, decide_eq_false e, has_look]
      rfl
theorem has_rep {G : Lk} {kk : Key} {vs : List (Key × V)} {kvs : List (Key × T)} (r : RepK K G vs kvs) : (valV vs kk).isSome = hasK kk kvs := by
  rw [has_look]
  cases q : lookK kk kvs with
  | none =>
    rw [(look_rep r).2 q]
    rfl
  | some x =>
    obtain ⟨v, e, _⟩ := (look_rep r).1 x q
    rw [e]
    rfl
theorem kOf_rep {G : Lk} {v : V} {x : T} {kk : Key} (r : Rep K G v x) (e : kOf x = some kk) : v = kV kk := by
  cases x with
  | int i =>
    cases e
    rw [rep_int r]
    rfl
  | str i =>
    cases e
    rw [rep_str r]
    rfl
  | _ => cases e

/-! ### as it stands now -/
theorem mapO_get {α β : Type} {f : α → Option β} : ∀ {xs : List α} {ys : List β}, mapO f xs = some ys → xs.length = ys.length
  | [], ys, e => by cases e; rfl
  | x :: xs, ys, e => by
    unfold mapO at e
    split at e
    · cases q : mapO f xs with
      | none =>
        rw [q] at e
        cases e
      | some zs =>
        rw [q] at e
        cases e
        exact congrArg Nat.succ (mapO_get q)
    · cases e
theorem froK_now (sb : Sub F H) : ∀ {vs : List (Key × V)} {kvs : List (Key × List T)} {as : List Addr}, RepNK K F H vs kvs as → RepK K (Now H) vs (froK kvs)
  | _, _, _, .nil => .nil
  | _, _, _, .cons h1 h2 h3 => .cons (.lst (.inl h1) (repL_rd sb h2)) (froK_now sb h3)
def TrOk (K : PySem.W.Frag) (j : Nat) : Prop := ∀ {S : Store} {μ : Nat → Addr} {H F : Hp} {v : V} {d : D} {as : List Addr} {x : T}, Hs K S μ H F → RepN K S.length μ F H v d as → tr j S d = some x → Rep K (Now H) v x
theorem trs_ok {j : Nat} (TT : TrOk K j) (A : Hs K S μ H F) : ∀ {ds : List D} {vs : List V} {as : List Addr} {xs : List T}, RepNs K S.length μ F H vs ds as → mapO (tr j S) ds = some xs → RepL K (Now H) vs xs
  | _, _, _, xs, .nil, e => by
    cases e
    exact .nil
  | d :: ds, _, _, xs, .cons h1 h2, e => by
    unfold mapO at e
    split at e
    · rename_i y q1
      cases q : mapO (tr j S) ds with
      | none =>
        rw [q] at e
        cases e
      | some zs =>
        rw [q] at e
        cases e
        exact .cons (TT A h1 q1) (trs_ok TT A h2 q)
    · cases e
theorem tr_ok : ∀ j, TrOk K j
  | j, S, μ, H, F, v, .t y, as, x, A, r, e => by
    have e' : some y = some x := by cases j <;> exact e
    cases e'
    exact rep_rd A.sub (repT r).1
  | j, S, μ, H, F, v, .new ys, as, x, A, r, e => by
    have e' : some (T.lst ys) = some x := by cases j <;> exact e
    cases e'
    cases r with
    | c r => cases r
    | new h1 h2 => exact .lst (.inl h1) (repL_rd A.sub h2)
  | j, S, μ, H, F, v, .newd ys, as, x, A, r, e => by
    have e' : some (T.dic ys) = some x := by cases j <;> exact e
    cases e'
    cases r with
    | c r => cases r
    | newd h1 h2 => exact .dic (.inl h1) (RepK.mono A.sub h2)
  | j, S, μ, H, F, v, .newk ys, as, x, A, r, e => by
    have e' : some (T.dic (froK ys)) = some x := by cases j <;> exact e
    cases e'
    cases r with
    | c r => cases r
    | newk h1 h2 => exact .dic (.inl h1) (froK_now A.sub h2)
  | 0, S, μ, H, F, v, .newo ys, as, x, A, r, e => by cases e
  | 0, S, μ, H, F, v, .tupo ys, as, x, A, r, e => by cases e
  | 0, S, μ, H, F, v, .cell n, as, x, A, r, e => by cases e
  | j + 1, S, μ, H, F, v, .newo ds, as, x, A, r, e => by
    have e' : (mapO (tr j S) ds).map T.lst = some x := e
    cases q : mapO (tr j S) ds with
    | none =>
      rw [q] at e'
      cases e'
    | some ys =>
      rw [q] at e'
      cases e'
      cases r with
      | c r => cases r
      | newo h1 h2 => exact .lst (.inl h1) (trs_ok (tr_ok j) A h2 q)
  | j + 1, S, μ, H, F, v, .tupo ds, as, x, A, r, e => by
    have e' : (mapO (tr j S) ds).map T.tup = some x := e
    cases q : mapO (tr j S) ds with
    | none =>
      rw [q] at e'
      cases e'
    | some ys =>
      rw [q] at e'
      cases e'
      cases r with
      | c r => cases r
      | tupo h1 h2 => exact .tup (.inl h1) (trs_ok (tr_ok j) A h2 q)
  | j + 1, S, μ, H, F, v, .cell n, as, x, A, r, e => by
    cases r with
    | c r =>
      cases r with
      | cell hn =>
        unfold tr at e
        split at e
        · rename_i xs q
          cases e
          obtain ⟨u, _, hu, ho, h1, h2⟩ := rd_cell A q
          cases u with
          | lst zs =>
            cases hu
            cases ho <;> first | exact h2.elim | exact .lst (.inl h1) (repL_rd A.sub h2)
          | lck o =>
            cases hu
            cases ho <;> first | exact h2.elim | exact .lst (.inl h1) (repL_rd A.sub h2)
          | _ => cases hu
        · rename_i xs q
          cases e
          obtain ⟨u, _, hu, ho, h1, h2⟩ := rd_cell A q
          cases u with
          | dic zs =>
            cases hu
            cases ho <;> first | exact h2.elim | exact .dic (.inl h1) (RepK.mono A.sub h2)
          | lck o =>
            cases hu
            cases ho <;> first | exact h2.elim | skip
            rename_i ob u
            cases u <;> first | exact h2.elim | exact .dic (.inr ⟨_, rfl, _, h1⟩) (RepK.mono A.sub h2)
          | _ => cases hu
        · rename_i ds q
          cases q2 : mapO (tr j S) ds with
          | none =>
            rw [q2] at e
            cases e
          | some ys =>
            rw [q2] at e
            cases e
            obtain ⟨u, _, hu, ho, h1, h2⟩ := rd_cell A q
            cases u with
            | lsto zs =>
              cases hu
              cases ho <;> first | exact h2.elim | exact .lst (.inl h1) (trs_ok (tr_ok j) A h2.toN q2)
            | lck o =>
              cases hu
              cases ho <;> first | exact h2.elim | exact .lst (.inl h1) (trs_ok (tr_ok j) A h2.toN q2)
            | _ => cases hu
        · rename_i ds q
          cases q2 : mapO (tr j S) ds with
          | none =>
            rw [q2] at e
            cases e
          | some ys =>
            rw [q2] at e
            cases e
            obtain ⟨u, _, hu, ho, h1, h2⟩ := rd_cell A q
            cases u with
            | tupo zs =>
              cases hu
              cases ho <;> first | exact h2.elim | exact .tup (.inl h1) (trs_ok (tr_ok j) A h2.toN q2)
            | lck o =>
              cases hu
              cases ho <;> first | exact h2.elim | exact .tup (.inl h1) (trs_ok (tr_ok j) A h2.toN q2)
            | _ => cases hu
        · cases e

/-! ### comparisons by values -/
def KB (Q : VK) : Bool → Store → (Nat → Addr) → Hp → Hp → Prop := fun b _ _ H' _ => Q (.bl b) H'
def CmpS (X : Cx) (fop : Value → Value → Sem Value) (g : D → D → Store → R Bool) : Prop := ∃ r : R2, OpR X fop r ∧ ∀ {er : ER} {W : WX} {L : Nat} {fr : Frame} {σ : L2.St} {S0 S : Store} {μ0 μ : Nat → Addr} {H0 F0 H F : Hp} {Q : VK} {x y : D} {v w : V} {as bs : List Addr},
  Ab X.K fr S μ σ H F → Stp L S0 μ0 H0 F0 S μ H F → RepN X.K S.length μ F H v x as → RepN X.K S.length μ F H w y bs → WR X.K er W L fr σ S0 μ0 H0 F0 (g x y S) (KB Q) → r v w H Q
theorem giveB {d : Bool} {Q : VK} (w : WR K er W L fr σ S0 μ0 H0 F0 (.ok d S) (KB Q)) (A : Ab K fr S μ σ H F) (P : Stp L S0 μ0 H0 F0 S μ H F) : Q (.bl d) H := w μ H F A P
theorem wr_boolD {r : R Bool} {Q : VK} (w : WR K er W L fr σ S0 μ0 H0 F0 (Z.boolD r) (KE K H0 Q)) : WR K er W L fr σ S0 μ0 H0 F0 r (KB Q) :=
  WR.bnd (S := S0) (μ := μ0) (H := H0) (F := F0) w .refl fun b S1 μ1 H1 F1 A1 P1 w1 => giveT w1 A1 P1 (.bl b)
theorem wr_notR {r : R Bool} {Q : VK} (w : WR K er W L fr σ S0 μ0 H0 F0 (notR r) (KB Q)) : WR K er W L fr σ S0 μ0 H0 F0 r (KB fun v H' => ∀ b, v = .bl b → Q (.bl (!b)) H') := by
  cases r with
  | no => exact w
  | ok b S1 =>
    intro μ1 H1 F1 A1 P1 c e
    have e' : b = c := V.bl.inj e
    rw [← e']
    exact w μ1 H1 F1 A1 P1
  | ex c x S1 => exact w
theorem wr_kt {r : R Bool} {Q : Bool → Hp → Prop} (w : WR K er W L fr σ S0 μ0 H0 F0 r (KT Q)) : WR K er W L fr σ S0 μ0 H0 F0 r (KB fun x H' => ∃ k, x = .bl k ∧ Q k H') := by
  cases r with
  | no => exact w
  | ok b S1 => exact fun μ1 H1 F1 A1 P1 => ⟨b, rfl, w μ1 H1 F1 A1 P1⟩
  | ex c x S1 => exact w
theorem sem_cmp {op : CmpOp} {o : CO} (ho : CmpS X (compareOp op) (cmpD o)) (h1 : SemE X gi k a f) (h2 : SemE X gi k b g) (hm : behindInMarks op b = false) : SemE X gi k (.Compare a [op] [b] pos) (Z.cmp o f g) := by
  intro er q lk W tk fr S μ σ H F A Q w
  obtain ⟨r, hr, hn⟩ := ho
  exact ⟨_, pe_cmpR hr pe_sem pe_sem hm, tOp_go h1 h2 lk tk A w fun A2 P2 r1 r2 o2 w2 => hn A2 P2 r1 r2 (wr_boolD w2)⟩
theorem semt_cmp {op : CmpOp} {o : CO} (ho : CmpS X (compareOp op) (cmpD o)) (h1 : SemE X gi k a f) (h2 : SemE X gi k b g) (hm : behindInMarks op b = false) : SemT X gi k (.Compare a [op] [b] pos) (Z.tcmp o f g) := by
  intro er q lk W tk fr S μ σ H F A Q w
  obtain ⟨r, hr, hn⟩ := ho
  refine ⟨_, pt_cmpR hr pe_sem pe_sem hm, ?_⟩
  exact h1.go lk tk A .refl w fun x S1 μ1 H1 F1 v as A1 P1 r1 o1 w1 => h2.go lk tk A1 P1 w1 fun y S2 μ2 H2 F2 u bs A2 P2 r2 o2 w2 => by
    obtain ⟨r1', o1'⟩ := r1.keep o1 P2
    exact hn A2 (P1.trans P2) r1' r2 (wr_kt w2)
theorem isNon_rep {G : Lk} {v : V} {x : T} (h : Rep K G v x) : decide (v = .non) = x.isNon := by
  cases h <;> first | rfl | exact decide_eq_false (by intro z; cases z)
theorem okEq_ok {K : PySem.W.Frag} {H : Hp} {v : V} {x : T} (h : okEq x = true) (r : Rep K (Now H) v x) : Dp K H v x.py ∧ SeqAt.shaped x.py = true := by
  unfold okEq at h
  rw [Bool.and_eq_true] at h
  obtain ⟨_, _, c1, e1, _⟩ := ok_show h.1
  refine ⟨ok_dp h.1 r, ?_⟩
  unfold SeqAt.shaped
  rw [c1, e1]
  have := of_decide_eq_true h.2
  exact decide_eq_true (by omega)
theorem eqC (hu : X.A.units + 64 < cLine) : CmpS X (compareOp .Eq) (cmpD .eq) := by
  refine ⟨_, opr_or op_eq (op_eqD hu), ?_⟩
  intro er W L fr σ S0 S μ0 μ H0 F0 H F Q x y v w as bs A P r1 r2 hw0
  have hw : WR X.K er W L fr σ S0 μ0 H0 F0 (eqD x y S) (KB Q) := hw0
  clear hw0
  unfold eqD at hw
  split at hw
  · rw [rep_int (repT r1).1, rep_int (repT r2).1]
    refine .inl ⟨rfl, ?_⟩
    rw [dec_int]
    exact giveB hw A P
  · rw [rep_str (repT r1).1, rep_str (repT r2).1]
    refine .inl ⟨rfl, ?_⟩
    rw [dec_str]
    exact giveB hw A P
  · split at hw
    · rename_i p e1
      split at hw
      · rename_i t e2
        split at hw
        · rename_i ok
          obtain ⟨d1, s1⟩ := okEq_ok ok.1 (tr_ok 6 A.hs r1 e1)
          obtain ⟨d2, s2⟩ := okEq_ok ok.2 (tr_ok 6 A.hs r2 e2)
          exact .inr ⟨p.py, t.py, d1, d2, s1, s2, giveB hw A P⟩
        · exact hw.elim
      · exact hw.elim
    · exact hw.elim
theorem neC (hu : X.A.units + 64 < cLine) : CmpS X (compareOp .NotEq) (cmpD .ne) := by
  refine ⟨_, opr_or op_ne (op_neD hu), ?_⟩
  intro er W L fr σ S0 S μ0 μ H0 F0 H F Q x y v w as bs A P r1 r2 hw0
  have hw := wr_notR (r := eqD x y S) hw0
  clear hw0
  unfold eqD at hw
  split at hw
  · rw [rep_int (repT r1).1, rep_int (repT r2).1]
    refine .inl ⟨rfl, ?_⟩
    rw [dec_int]
    exact giveB hw A P _ rfl
  · rw [rep_str (repT r1).1, rep_str (repT r2).1]
    refine .inl ⟨rfl, ?_⟩
    rw [dec_str]
    exact giveB hw A P _ rfl
  · split at hw
    · rename_i p e1
      split at hw
      · rename_i t e2
        split at hw
        · rename_i ok
          obtain ⟨d1, s1⟩ := okEq_ok ok.1 (tr_ok 6 A.hs r1 e1)
          obtain ⟨d2, s2⟩ := okEq_ok ok.2 (tr_ok 6 A.hs r2 e2)
          exact .inr ⟨p.py, t.py, d1, d2, s1, s2, giveB hw A P _ rfl⟩
        · exact hw.elim
      · exact hw.elim
    · exact hw.elim
theorem ltC : CmpS X (compareOp .Lt) (cmpD .lt) := by
  refine ⟨_, op_lt, ?_⟩
  intro er W L fr σ S0 S μ0 μ H0 F0 H F Q x y v w as bs A P r1 r2 hw
  unfold cmpD at hw
  split at hw <;> first | (rename_i z; cases z; done) | skip
  all_goals first | exact hw.elim | skip
  · rw [rep_int (repT r1).1, rep_int (repT r2).1]
    exact ⟨_, _, rfl, rfl, giveB hw A P⟩
theorem leC : CmpS X (compareOp .LtE) (cmpD .le) := by
  refine ⟨_, op_le, ?_⟩
  intro er W L fr σ S0 S μ0 μ H0 F0 H F Q x y v w as bs A P r1 r2 hw
  unfold cmpD at hw
  split at hw <;> first | (rename_i z; cases z; done) | skip
  all_goals first | exact hw.elim | skip
  · rw [rep_int (repT r1).1, rep_int (repT r2).1]
    exact ⟨_, _, rfl, rfl, giveB hw A P⟩
theorem gtC : CmpS X (compareOp .Gt) (cmpD .gt) := by
  refine ⟨_, op_gt, ?_⟩
  intro er W L fr σ S0 S μ0 μ H0 F0 H F Q x y v w as bs A P r1 r2 hw
  unfold cmpD at hw
  split at hw <;> first | (rename_i z; cases z; done) | skip
  all_goals first | exact hw.elim | skip
  · rw [rep_int (repT r1).1, rep_int (repT r2).1]
    exact ⟨_, _, rfl, rfl, giveB hw A P⟩
theorem geC : CmpS X (compareOp .GtE) (cmpD .ge) := by
  refine ⟨_, op_ge, ?_⟩
  intro er W L fr σ S0 S μ0 μ H0 F0 H F Q x y v w as bs A P r1 r2 hw
  unfold cmpD at hw
  split at hw <;> first | (rename_i z; cases z; done) | skip
  all_goals first | exact hw.elim | skip
  · rw [rep_int (repT r1).1, rep_int (repT r2).1]
    exact ⟨_, _, rfl, rfl, giveB hw A P⟩
/-- y in d -/
def rDIn (neg : Bool) : R2 := fun y x H Q => ∃ a o, x = .ref a ∧ DGet H a y o ∧ Q (.bl (if neg = true then !o.isSome else o.isSome)) H
theorem op_din (hu : X.A.units + 1 < cLine) : OpR X (compareOp .In) (rDIn false) := by
  intro pins s σ H y x u v Q I ry rx h
  obtain ⟨a, o, rfl, g, q⟩ := h
  obtain rfl : v = Value.ref a := rx
  exact d_in hu I g ry fun s3 I3 => ⟨.bl o.isSome, H, I3, rfl, q⟩
theorem op_dnin (hu : X.A.units + 1 < cLine) : OpR X (compareOp .NotIn) (rDIn true) := by
  intro pins s σ H y x u v Q I ry rx h
  obtain ⟨a, o, rfl, g, q⟩ := h
  obtain rfl : v = Value.ref a := rx
  exact d_notIn hu I g ry fun s3 I3 => ⟨.bl (!o.isSome), H, I3, rfl, q⟩
theorem inC (hu : X.A.units + 64 < cLine) : CmpS X (compareOp .In) (cmpD .in_) := by
  refine ⟨_, opr_or op_in_seq (op_din (by omega)), ?_⟩
  intro er W L fr σ S0 S μ0 μ H0 F0 H F Q x y v w as bs A P r1 r2 hw0
  have hw : WR X.K er W L fr σ S0 μ0 H0 F0 (inD x y S) (KB Q) := hw0
  clear hw0
  unfold inD at hw
  split at hw
  · rename_i f
    split at hw
    · rename_i xs e1
      split at hw
      · rename_i ok
        obtain ⟨a, vs, rfl, h1, g1⟩ := sq_rep A.hs r2 e1
        obtain ⟨i1, i2⟩ := inV_rep (repT r1).1 ok.1 g1 ok.2
        refine .inl ⟨a, vs, rfl, .inl (SqL.of h1), flat_rep (repT r1).1 ok.1, i2, ?_⟩
        rw [i1]
        exact giveB hw A P
      · exact hw.elim
    · split at hw
      · rename_i kvs kk e1 e2
        obtain ⟨a, vs, rfl, h1, g1⟩ := dct_rep A.hs r2 e1
        refine .inr ⟨a, _, rfl, .inl ⟨vs, kk, h1, kOf_rep (repT r1).1 e2, rfl⟩, ?_⟩
        rw [has_rep g1]
        exact giveB hw A P
      · exact hw.elim
  · exact hw.elim
theorem ninC (hu : X.A.units + 64 < cLine) : CmpS X (compareOp .NotIn) (cmpD .nin) := by
  refine ⟨_, opr_or op_notIn_seq (op_dnin (by omega)), ?_⟩
  intro er W L fr σ S0 S μ0 μ H0 F0 H F Q x y v w as bs A P r1 r2 hw0
  have hw := wr_notR (r := inD x y S) hw0
  clear hw0
  unfold inD at hw
  split at hw
  · rename_i f
    split at hw
    · rename_i xs e1
      split at hw
      · rename_i ok
        obtain ⟨a, vs, rfl, h1, g1⟩ := sq_rep A.hs r2 e1
        obtain ⟨i1, i2⟩ := inV_rep (repT r1).1 ok.1 g1 ok.2
        refine .inl ⟨a, vs, rfl, .inl (SqL.of h1), flat_rep (repT r1).1 ok.1, i2, ?_⟩
        rw [i1]
        exact giveB hw A P _ rfl
      · exact hw.elim
    · split at hw
      · rename_i kvs kk e1 e2
        obtain ⟨a, vs, rfl, h1, g1⟩ := dct_rep A.hs r2 e1
        refine .inr ⟨a, _, rfl, .inl ⟨vs, kk, h1, kOf_rep (repT r1).1 e2, rfl⟩, ?_⟩
        rw [has_rep g1]
        exact giveB hw A P _ rfl
      · exact hw.elim
  · exact hw.elim
/-- x is None -/
theorem ref_ne {v : V} {d : D} (r : RepN K S.length μ F H v d as) (n : ∀ x, d ≠ .t x) : decide (v = .non) = false := by
  cases r with
  | c r =>
    cases r with
    | t _ => exact absurd rfl (n _)
    | cell _ => exact decide_eq_false (by intro z; cases z)
  | _ => exact decide_eq_false (by intro z; cases z)
theorem sem_isN {j : Nat} {pp : Pos} (h1 : SemE X gi k a f) : SemE X gi k (.Compare a [.Is] [.Constant .none j pp] pos) (Z.cmp .is_ f (Z.k .non)) := by
  intro er q lk W tk fr S μ σ H F A Q w
  refine ⟨_, pe_cmp (pc_isN pe_sem) (nobehind _ (by decide) (by decide)), h1.go lk tk A .refl w fun d S1 μ1 H1 F1 v as A1 P1 r1 o1 w1 => ?_⟩
  have w2 := wr_boolD w1
  unfold cmpD at w2
  simp only at w2
  split at w2
  · rw [isNon_rep (repT r1).1]
    exact giveB w2 A1 P1
  · rename_i n
    rw [ref_ne r1 n]
    exact giveB w2 A1 P1
theorem sem_notN {j : Nat} {pp : Pos} (h1 : SemE X gi k a f) : SemE X gi k (.Compare a [.IsNot] [.Constant .none j pp] pos) (Z.cmp .isn f (Z.k .non)) := by
  intro er q lk W tk fr S μ σ H F A Q w
  refine ⟨_, pe_cmp (pc_notN pe_sem) (nobehind _ (by decide) (by decide)), h1.go lk tk A .refl w fun d S1 μ1 H1 F1 v as A1 P1 r1 o1 w1 => ?_⟩
  have w2 := wr_boolD w1
  unfold cmpD at w2
  simp only at w2
  split at w2
  · rw [isNon_rep (repT r1).1]
    exact giveB w2 A1 P1
  · rename_i n
    rw [ref_ne r1 n]
    exact giveB w2 A1 P1
end
end Mi

set_option Elab.async false
set_option linter.all false
set_option maxRecDepth 100000
set_option maxHeartbeats 4000000
/-! N9: tests, subscripts, slices -/
namespace Mi
open PySem PySem.Spec PyProof.Rows L2
section
variable {X : Cx} {gi : GI} {k : Nat} {N : List Str} {sc : Scope} {pos p1 : Pos} {e a b c i : Expr} {es rest : List Expr} {f g h : XE} {fa ga : XA} {ft gt : XT}
variable {er : ER} {W : WX} {L : Nat} {fr : Frame} {σ : L2.St} {S S1 S2 S0 : Store} {μ μ1 μ2 μ0 : Nat → Addr} {H H1 H2 H0 F F1 F2 F0 : Hp} {as bs : List Addr} {K : PySem.W.Frag}

/-! ### lists and tuples of anything -/
theorem RepNs.get {M : Nat} : ∀ {vs : List V} {ds : List D} {as : List Addr} {j : Nat} {d : D}, RepNs K M μ F H vs ds as → ds[j]? = some d → ∃ v bs, vs[j]? = some v ∧ RepN K M μ F H v d bs ∧ bs.Sublist as
  | _, _, _, j, d, .nil, e => by simp at e
  | _, _, _, 0, d, .cons (as := as) (bs := bs) h t, e => by
    cases e
    exact ⟨_, _, rfl, h, List.sublist_append_left ..⟩
  | _, _, _, j + 1, d, .cons (as := as) (bs := bs) h t, e => by
    obtain ⟨v, cs, e1, e2, e3⟩ := RepNs.get (j := j) t e
    exact ⟨v, cs, e1, e2, e3.trans (List.sublist_append_right ..)⟩
theorem Own.sub (o : Own as H0 F μ S) (h : bs.Sublist as) : Own bs H0 F μ S := ⟨o.nd.sublist h, fun a ha => o.fr a (h.subset ha)⟩
theorem RepL.toN {M : Nat} : ∀ {vs : List V} {xs : List T}, RepL K (At F) vs xs → RepNs K M μ F H vs (xs.map D.t) []
  | _, _, .nil => .nil
  | _, _, .cons h t => .cons (as := []) (bs := []) (.c (.t h)) (RepL.toN t)
theorem sqd_rep (A : Hs K S μ H F) {v : V} {x : D} {ds : List D} (r : RepN K S.length μ F H v x as) (e : sqd S x = some ds) : ∃ a vs bs, v = .ref a ∧ (H a = some (.lst vs) ∨ H a = some (.tup vs)) ∧ RepNs K S.length μ F H vs ds bs ∧ bs.Sublist as := by
  have viaT : ∀ {xs : List T}, sq S x = some xs → ds = xs.map D.t → ∃ a vs bs, v = .ref a ∧ (H a = some (.lst vs) ∨ H a = some (.tup vs)) ∧ RepNs K S.length μ F H vs ds bs ∧ bs.Sublist as := fun {xs} q1 q2 => by
    subst q2
    obtain ⟨a, vs, rfl, h1, h2⟩ := sq_rep A r q1
    exact ⟨a, vs, [], rfl, .inl h1, h2.toN, List.nil_sublist _⟩
  have fin : (sq S x).map (fun xs => xs.map D.t) = some ds → ∃ a vs bs, v = .ref a ∧ (H a = some (.lst vs) ∨ H a = some (.tup vs)) ∧ RepNs K S.length μ F H vs ds bs ∧ bs.Sublist as := fun q => by
    cases q1 : sq S x with
    | none =>
      rw [q1] at q
      cases q
    | some xs =>
      rw [q1] at q
      cases q
      exact viaT q1 rfl
  cases r with
  | c r =>
    cases r with
    | t r =>
      rename_i y
      cases y with
      | tup ys =>
        cases e
        obtain ⟨a, vs, rfl, h1, h2⟩ := rep_tup r
        exact ⟨a, vs, [], rfl, .inr (now_tup (A.sub _ _ h1)), h2.toN, List.nil_sublist _⟩
      | _ => exact fin e
    | cell hn =>
      rename_i n
      unfold sqd at e
      simp only at e
      split at e
      · rename_i ys q
        cases e
        refine viaT (xs := ys) ?_ rfl
        unfold sq
        simp only [q]
      · rename_i ys q
        cases e
        obtain ⟨u, _, hu, ho, h1, h2⟩ := rd_cell A q
        cases u with
        | lsto zs =>
          cases hu
          cases ho <;> first | exact h2.elim | skip
          exact ⟨_, _, [], rfl, .inl h1, h2.toN, List.nil_sublist _⟩
        | lck o =>
          cases hu
          cases ho <;> first | exact h2.elim | skip
          exact ⟨_, _, [], rfl, .inl h1, h2.toN, List.nil_sublist _⟩
        | _ => cases hu
      · rename_i ys q
        cases e
        obtain ⟨u, _, hu, ho, h1, h2⟩ := rd_cell A q
        cases u with
        | tupo zs =>
          cases hu
          cases ho <;> first | exact h2.elim | skip
          exact ⟨_, _, [], rfl, .inr h1, h2.toN, List.nil_sublist _⟩
        | lck o =>
          cases hu
          cases ho <;> first | exact h2.elim | skip
          exact ⟨_, _, [], rfl, .inr h1, h2.toN, List.nil_sublist _⟩
        | _ => cases hu
      · cases e
  | new h1 h2 =>
    cases e
    exact ⟨_, _, [], rfl, .inl h1, h2.toN, List.nil_sublist _⟩
  | newd _ _ => exact fin e
  | newo h1 h2 =>
    cases e
    exact ⟨_, _, _, rfl, .inl h1, h2, List.sublist_cons_self ..⟩
  | tupo h1 h2 =>
    cases e
    exact ⟨_, _, _, rfl, .inr h1, h2, List.sublist_cons_self ..⟩
  | newk _ _ => exact fin e

/-! ### truth -/
theorem wr_bndB {r : R Bool} {γ : Type} {gg : Bool → Store → R γ} {j : γ → Store → (Nat → Addr) → Hp → Hp → Prop} (w : WR K er W L fr σ S0 μ0 H0 F0 (r.bnd gg) j) (P : Stp L S0 μ0 H0 F0 S μ H F) (A : Ab K fr S μ σ H F) (hr : ∃ b, r = .ok b S) : ∃ b, r = .ok b S ∧ WR K er W L fr σ S0 μ0 H0 F0 (gg b S) j := by
  obtain ⟨b, e⟩ := hr
  rw [e] at w
  exact ⟨b, e, w⟩
theorem isEmpty_len {α β : Type} {xs : List α} {ys : List β} (h : xs.length = ys.length) : xs.isEmpty = ys.isEmpty := by
  cases xs <;> cases ys <;> first | rfl | cases h
/-- the truth of a value -/
theorem tru_rep {x : D} {v : V} (A : Hs K S μ H F) (r : RepN K S.length μ F H v x as) : truD x S = .no ∨ ∃ b, truD x S = .ok b S ∧ TruV K v H b := by
  have seq : ∀ {ds : List D}, sqd S x = some ds → TruV K v H (!ds.isEmpty) := fun {ds} e => by
    obtain ⟨a, vs, bs, rfl, h1, h2, _⟩ := sqd_rep A r e
    rw [← isEmpty_len h2.length]
    rcases h1 with h1 | h1
    · exact .inl ⟨vs, SqL.of h1, rfl⟩
    · exact .inr (.inl ⟨vs, SqT.of h1, rfl⟩)
  unfold truD
  split
  · rw [rep_bl (repT r).1]
    exact .inr ⟨_, rfl, rfl⟩
  · rename_i i
    rw [rep_int (repT r).1]
    refine .inr ⟨_, rfl, ?_⟩
    show decide (i ≠ 0) = (i != 0)
    rw [Bool.eq_iff_iff, decide_eq_true_iff, bne_iff_ne]
  · rw [rep_non (repT r).1]
    exact .inr ⟨_, rfl, rfl⟩
  · split
    · rename_i ds e
      exact .inr ⟨_, rfl, seq e⟩
    · exact .inl rfl
theorem wr_tru {x : D} {v : V} {γ : Type} {gg : Bool → Store → R γ} {j : γ → Store → (Nat → Addr) → Hp → Hp → Prop} (A : Hs K S μ H F) (r : RepN K S.length μ F H v x as) (w : WR K er W L fr σ S0 μ0 H0 F0 ((truD x S).bnd gg) j) : ∃ b, TruV K v H b ∧ WR K er W L fr σ S0 μ0 H0 F0 (gg b S) j := by
  rcases tru_rep A r with e | ⟨b, e, t⟩
  · rw [e] at w
    exact w.elim
  · rw [e] at w
    exact ⟨b, t, w⟩
theorem bnd_id {β : Type} (r : R β) : (r.bnd fun b S => .ok b S) = r := by cases r <;> rfl
theorem semt_val (h1 : SemE X gi k a f) (he : ∀ whole, isTrue a X.env whole = (do let v ← whole; standAt a.pos; holding [v] (truthy v))) : SemT X gi k a (Z.tval f) := by
  intro er q lk W tk fr S μ σ H F A Q w
  refine ⟨_, pt_truth pe_sem he, h1.go lk tk A .refl w fun d S1 μ1 H1 F1 v as A1 P1 r1 o1 w1 => ?_⟩
  rw [← bnd_id (truD d S1)] at w1
  obtain ⟨b, t, w2⟩ := wr_tru A1.hs r1 w1
  exact ⟨b, t, w2 μ1 H1 F1 A1 P1⟩
theorem semt_not (h1 : SemT X gi k a ft) : SemT X gi k (.UnaryOp .Not a pos) (Z.tnot ft) := by
  intro er q lk W tk fr S μ σ H F A Q w
  exact ⟨_, pt_not pt_sem, h1.go lk tk A .refl w fun b S1 μ1 H1 F1 A1 P1 w1 => w1 μ1 H1 F1 A1 P1⟩
def SemW (X : Cx) (gi : GI) (k : Nat) (e : Expr) (f : XT) : Prop := ∀ er q, Lnk X gi k er q → ∀ W, Takes X W → ∀ fr S μ σ H F, Ab X.K fr S μ σ H F → ∀ Q, WR X.K er W q.L fr σ S μ H F (f q fr S) (KT Q) → semW X e σ H Q
theorem semt_w (h1 : SemW X gi k a ft) : SemT X gi k a ft := by
  intro er q lk W tk fr S μ σ H F A Q w
  exact ⟨_, PW.pt pw_sem, h1 er q lk W tk fr S μ σ H F A Q w⟩
theorem semw_and1 (h1 : SemT X gi k a ft) : SemW X gi k (.BoolOp .And [a] pos) ft := by
  intro er q lk W tk fr S μ σ H F A Q w
  exact ⟨_, pw_and1 pt_sem, h1 er q lk W tk fr S μ σ H F A Q w⟩
theorem semw_or1 (h1 : SemT X gi k a ft) : SemW X gi k (.BoolOp .Or [a] pos) ft := by
  intro er q lk W tk fr S μ σ H F A Q w
  exact ⟨_, pw_or1 pt_sem, h1 er q lk W tk fr S μ σ H F A Q w⟩
theorem semw_and (h1 : SemT X gi k a ft) (h2 : SemW X gi k (.BoolOp .And (b :: rest) pos) gt) : SemW X gi k (.BoolOp .And (a :: b :: rest) pos) (Z.tand ft gt) := by
  intro er q lk W tk fr S μ σ H F A Q w
  refine ⟨_, pw_and pt_sem pw_sem, h1.go lk tk A .refl w fun t S1 μ1 H1 F1 A1 P1 w1 => ?_⟩
  cases t with
  | true =>
    rw [if_pos rfl] at w1 ⊢
    refine h2 er q lk W tk fr S1 μ1 σ H1 F1 A1 Q ?_
    rw [← bnd_id (gt q fr S1)] at w1
    exact w1.bnd P1 fun t2 S2 μ2 H2 F2 A2 P2 w2 => w2 μ2 H2 F2 A2 (P1.trans P2)
  | false =>
    rw [if_neg Bool.false_ne_true] at w1 ⊢
    exact w1 μ1 H1 F1 A1 P1
theorem semw_or (h1 : SemT X gi k a ft) (h2 : SemW X gi k (.BoolOp .Or (b :: rest) pos) gt) : SemW X gi k (.BoolOp .Or (a :: b :: rest) pos) (Z.tor ft gt) := by
  intro er q lk W tk fr S μ σ H F A Q w
  refine ⟨_, pw_or pt_sem pw_sem, h1.go lk tk A .refl w fun t S1 μ1 H1 F1 A1 P1 w1 => ?_⟩
  cases t with
  | true =>
    rw [if_pos rfl] at w1 ⊢
    exact w1 μ1 H1 F1 A1 P1
  | false =>
    rw [if_neg Bool.false_ne_true] at w1 ⊢
    refine h2 er q lk W tk fr S1 μ1 σ H1 F1 A1 Q ?_
    rw [← bnd_id (gt q fr S1)] at w1
    exact w1.bnd P1 fun t2 S2 μ2 H2 F2 A2 P2 w2 => w2 μ2 H2 F2 A2 (P1.trans P2)
/-- a op b op c -/
theorem tch_go {op op' : CmpOp} {o o' : CO} {r r' : R2}
    (n1 : ∀ {er : ER} {W : WX} {L : Nat} {fr : Frame} {σ : L2.St} {S0 S : Store} {μ0 μ : Nat → Addr} {H0 F0 H F : Hp} {Q : VK} {x y : D} {v w : V} {as bs : List Addr}, Ab X.K fr S μ σ H F → Stp L S0 μ0 H0 F0 S μ H F → RepN X.K S.length μ F H v x as → RepN X.K S.length μ F H w y bs → WR X.K er W L fr σ S0 μ0 H0 F0 (cmpD o x y S) (KB Q) → r v w H Q)
    (n2 : ∀ {er : ER} {W : WX} {L : Nat} {fr : Frame} {σ : L2.St} {S0 S : Store} {μ0 μ : Nat → Addr} {H0 F0 H F : Hp} {Q : VK} {x y : D} {v w : V} {as bs : List Addr}, Ab X.K fr S μ σ H F → Stp L S0 μ0 H0 F0 S μ H F → RepN X.K S.length μ F H v x as → RepN X.K S.length μ F H w y bs → WR X.K er W L fr σ S0 μ0 H0 F0 (cmpD o' x y S) (KB Q) → r' v w H Q)
    (h1 : SemE X gi k a f) (h2 : SemE X gi k b g) (h3 : SemE X gi k c h) {q : Q} (lk : Lnk X gi k er q) (tk : Takes X W) (A : Ab X.K fr S μ σ H F) {Q : VK} (w : WR X.K er W q.L fr σ S μ H F (Z.tch o o' f g h q fr S) (KB Q)) :
    tChain r r' (semE X a) (semE X b) (semE X c) σ H Q := by
  refine h1.go lk tk A .refl w fun x S1 μ1 H1 F1 v as A1 P1 r1 o1 w1 => h2.go lk tk A1 P1 w1 fun y S2 μ2 H2 F2 u bs A2 P2 r2 o2 w2 => ?_
  obtain ⟨r1', o1'⟩ := r1.keep o1 P2
  have P12 := P1.trans P2
  refine n1 A2 (.refl (L := q.L)) r1' r2 (er := er) (W := fun cls dx σ H' => True) ?_
  cases e : cmpD o x y S2 with
  | no =>
    rw [e] at w2
    exact w2.elim
  | ex c x S3 => exact fun _ _ _ _ _ _ _ _ => trivial
  | ok t S3 =>
    rw [e] at w2
    intro μ3 H3 F3 A3 P3
    refine ⟨t, rfl, ?_⟩
    obtain ⟨r2', o2'⟩ := r2.keep o2 P3
    cases t with
    | true =>
      rw [bnd_ok, if_pos rfl] at w2
      rw [if_pos rfl]
      refine h3.go lk tk A3 (P12.trans P3) w2 fun z S4 μ4 H4 F4 w' cs A4 P4 r4 o4 w4 => ?_
      obtain ⟨r2'', _⟩ := r2'.keep o2' P4
      exact n2 A4 (P12.trans (P3.trans P4)) r2'' r4 w4
    | false =>
      rw [bnd_ok, if_neg Bool.false_ne_true] at w2
      rw [if_neg Bool.false_ne_true]
      exact w2 μ3 H3 F3 A3 (P12.trans P3)
theorem sem_ch {op op' : CmpOp} {o o' : CO} (ho : CmpS X (compareOp op) (cmpD o)) (ho' : CmpS X (compareOp op') (cmpD o')) (h1 : SemE X gi k a f) (h2 : SemE X gi k b g) (h3 : SemE X gi k c h) (hm : lastMarks [op, op'] [b, c] = false) : SemE X gi k (.Compare a [op, op'] [b, c] pos) (Z.ch o o' f g h) := by
  intro er q lk W tk fr S μ σ H F A Q w
  obtain ⟨r, hr, hn⟩ := ho
  obtain ⟨r', hr', hn'⟩ := ho'
  exact ⟨_, pe_chain hr hr' pe_sem pe_sem pe_sem hm, tch_go (op := op) (op' := op') hn hn' h1 h2 h3 lk tk A (wr_boolD w)⟩
theorem semt_ch {op op' : CmpOp} {o o' : CO} (ho : CmpS X (compareOp op) (cmpD o)) (ho' : CmpS X (compareOp op') (cmpD o')) (h1 : SemE X gi k a f) (h2 : SemE X gi k b g) (h3 : SemE X gi k c h) (hm : lastMarks [op, op'] [b, c] = false) : SemT X gi k (.Compare a [op, op'] [b, c] pos) (Z.tch o o' f g h) := by
  intro er q lk W tk fr S μ σ H F A Q w
  obtain ⟨r, hr, hn⟩ := ho
  obtain ⟨r', hr', hn'⟩ := ho'
  exact ⟨_, pt_chain hr hr' pe_sem pe_sem pe_sem hm, tch_go (op := op) (op' := op') hn hn' h1 h2 h3 lk tk A (wr_kt w)⟩

/-! ### not, and, or, if as values; minus -/
theorem sem_neg (h1 : SemE X gi k a f) : SemE X gi k (.UnaryOp .USub a pos) (Z.neg f) := by
  intro er q lk W tk fr S μ σ H F A Q w
  refine ⟨_, pe_un un_neg pe_sem, h1.go lk tk A .refl w fun d S1 μ1 H1 F1 v as A1 P1 r1 o1 w1 => ?_⟩
  split at w1
  · rw [rep_int (repT r1).1]
    exact ⟨_, rfl, giveT w1 A1 P1 (.int _)⟩
  · exact w1.elim
theorem sem_not (h1 : SemE X gi k a f) : SemE X gi k (.UnaryOp .Not a pos) (Z.not f) := by
  intro er q lk W tk fr S μ σ H F A Q w
  refine ⟨_, pe_notT pe_sem, h1.go lk tk A .refl w fun d S1 μ1 H1 F1 v as A1 P1 r1 o1 w1 => ?_⟩
  obtain ⟨b, t, w2⟩ := wr_tru A1.hs r1 w1
  exact ⟨b, t, giveT w2 A1 P1 (.bl _)⟩
theorem sem_one {op : BoolOp} (h1 : SemE X gi k a f) : SemE X gi k (.BoolOp op [a] pos) f := by
  intro er q lk W tk fr S μ σ H F A Q w
  exact ⟨_, pe_one pe_sem, h1 er q lk W tk fr S μ σ H F A Q w⟩
theorem wr_rest {r : R D} {Q : VK} (w : WR K er W L fr σ S0 μ0 H0 F0 r (KE K H0 Q)) (P : Stp L S0 μ0 H0 F0 S μ H F) : WR K er W L fr σ S μ H F r (KE K H Q) := by
  rw [← bnd_id r] at w
  exact w.bnd P fun d S1 μ1 H1 F1 A1 P1 w1 v as r o => w1 μ1 H1 F1 A1 (P.trans P1) v as r (o.start P.dom)
theorem sem_and (h1 : SemE X gi k a f) (h2 : SemE X gi k (.BoolOp .And (b :: rest) pos) g) : SemE X gi k (.BoolOp .And (a :: b :: rest) pos) (Z.and f g) := by
  intro er q lk W tk fr S μ σ H F A Q w
  refine ⟨_, pe_andT pe_sem pe_sem, h1.go lk tk A .refl w fun d S1 μ1 H1 F1 v as A1 P1 r1 o1 w1 => ?_⟩
  obtain ⟨t, tv, w2⟩ := wr_tru A1.hs r1 w1
  refine ⟨t, tv, ?_⟩
  cases t with
  | true =>
    rw [if_pos rfl] at w2 ⊢
    exact h2 er q lk W tk fr S1 μ1 σ H1 F1 A1 Q (wr_rest w2 P1)
  | false =>
    rw [if_neg Bool.false_ne_true] at w2 ⊢
    exact give w2 A1 P1 r1 o1
theorem sem_or (h1 : SemE X gi k a f) (h2 : SemE X gi k (.BoolOp .Or (b :: rest) pos) g) : SemE X gi k (.BoolOp .Or (a :: b :: rest) pos) (Z.or f g) := by
  intro er q lk W tk fr S μ σ H F A Q w
  refine ⟨_, pe_orT pe_sem pe_sem, h1.go lk tk A .refl w fun d S1 μ1 H1 F1 v as A1 P1 r1 o1 w1 => ?_⟩
  obtain ⟨t, tv, w2⟩ := wr_tru A1.hs r1 w1
  refine ⟨t, tv, ?_⟩
  cases t with
  | true =>
    rw [if_pos rfl] at w2 ⊢
    exact give w2 A1 P1 r1 o1
  | false =>
    rw [if_neg Bool.false_ne_true] at w2 ⊢
    exact h2 er q lk W tk fr S1 μ1 σ H1 F1 A1 Q (wr_rest w2 P1)
theorem sem_ife (h1 : SemT X gi k c ft) (h2 : SemE X gi k a f) (h3 : SemE X gi k b g) : SemE X gi k (.IfExp c a b pos) (Z.ife ft f g) := by
  intro er q lk W tk fr S μ σ H F A Q w
  refine ⟨_, pe_ifExp pt_sem pe_sem pe_sem, h1.go lk tk A .refl w fun t S1 μ1 H1 F1 A1 P1 w1 => ?_⟩
  cases t with
  | true =>
    rw [if_pos rfl] at w1 ⊢
    exact h2 er q lk W tk fr S1 μ1 σ H1 F1 A1 Q (wr_rest w1 P1)
  | false =>
    rw [if_neg Bool.false_ne_true] at w1 ⊢
    exact h3 er q lk W tk fr S1 μ1 σ H1 F1 A1 Q (wr_rest w1 P1)

/-! ### subscripts -/
def rIxD : R2 := fun x y H Q => ∃ a v, x = .ref a ∧ DGet H a y (some v) ∧ Q v H
theorem ix_dict (hu : X.A.units + 1 < cLine) : IxR X rIxD := by
  intro value slice pins s σ H x y v u Q I rx ry h hs
  obtain ⟨a, z, rfl, g, q⟩ := h
  obtain rfl : v = Value.ref a := rx
  have hT := dict_typeIs I g
  unfold subscriptTail
  refine wpAny_bind ?_
  rw [getitemInPython_of_ne hT.not_modules]
  refine wpAny_bind (wpAny_specialOf hT PySem.F.slot_dict_getitem.lookup ?_)
  have fin : wpAny (model X.prog X.w) X.A (subscripted slice false (.ref a) u) (fun r s₃ => wpAny (model X.prog X.w) X.A (letTemporaryGo value (.ref a) r >>= fun _ => pure r) (EP X pins σ Q) X.xe s₃) X.xe s := by
    rw [hs]
    exact wpAny_operating (d_getItem hu I g ry fun w' s3 I3 rw' => wpAny_bind (wpAny_letTemporaryGo (wpAny_pure ⟨z, H, I3, rw', q⟩)))
  first
    | exact wpAny_pure (wpAny_bind fin)
    | exact wpAny_bind (wpAny_pure (wpAny_bind fin))
    | exact wpAny_bind fin
theorem sem_ix (hu : X.A.units + 64 < cLine) (h1 : SemE X gi k a f) (h2 : SemE X gi k b g) (hs : PlainIx b) : SemE X gi k (.Subscript a b pos) (Z.ix f g) := by
  intro er q lk W tk fr S μ σ H F A Q w
  refine ⟨_, pe_ix (ix_list.or (ix_tup.or (ix_dict (by omega)))) pe_sem pe_sem hs, tOp_go h1 h2 lk tk A w ?_⟩
  intro S2 μ2 H2 F2 x y v u as bs A2 P2 r1 r2 o w2
  unfold ixD at w2
  split at w2
  · rename_i i
    rw [rep_int (repT r2).1]
    split at w2
    · rename_i ds e1
      split at w2
      · rename_i d e2
        obtain ⟨p, vs, cs, rfl, h1, h2, hsub⟩ := sqd_rep A2.hs r1 e1
        cases e3 : ixN ds.length i with
        | none =>
          rw [e3] at e2
          cases e2
        | some j =>
          rw [e3] at e2
          have e2' : ds[j]? = some d := e2
          obtain ⟨z, bs', g1, g2, g3⟩ := h2.get e2'
          have hz := give w2 A2 P2 g2 (o.left.sub (g3.trans hsub))
          have at1 : atI vs i = some z := by
            unfold atI
            rw [h2.length, e3]
            exact g1
          rcases h1 with h1 | h1
          · exact .inl ⟨p, vs, i, z, rfl, rfl, SqL.of h1, at1, hz⟩
          · exact .inr (.inl ⟨p, vs, i, z, rfl, rfl, SqT.of h1, at1, hz⟩)
      · exact w2.elim
    · split at w2
      · rename_i kvs e1
        split at w2
        · rename_i y e2
          obtain ⟨p, vs, rfl, h1, h2⟩ := dct_rep A2.hs r1 e1
          obtain ⟨z, e3, rz⟩ := (look_rep h2).1 _ e2
          exact .inr (.inr ⟨p, z, rfl, .inl ⟨vs, _, h1, rfl, e3.symm⟩, giveT w2 A2 P2 rz⟩)
        · exact w2.elim
      · split at w2
        · split at w2
          · rename_i kvs e1
            split at w2
            · rename_i d e2
              cases r1 with
              | c r1 =>
                cases r1 with
                | cell hn =>
                  obtain ⟨uo, _, hu, ho, g1, g2⟩ := rd_cell A2.hs e1
                  have core : ∀ {p : Addr} {vs : List (Key × V)}, Rd H2 p (.dK vs) → RepCK X.K S2.length μ2 F2 vs kvs → rIxD (.ref p) (.int i) H2 Q := fun {p vs} hr hc => by
                    have look : ∀ {vs : List (Key × V)} {kvs : List (Key × D)}, RepCK X.K S2.length μ2 F2 vs kvs → lookK (.inl i) kvs = some d → ∃ z, valV vs (.inl i) = some z ∧ RepC X.K S2.length μ2 F2 z d := by
                      intro vs kvs hc
                      induction hc with
                      | nil =>
                        intro z
                        cases z
                      | cons h t ih =>
                        rename_i kk v' vs' d' ds'
                        intro z
                        unfold lookK at z
                        by_cases ek : kk = .inl i
                        · rw [if_pos ek] at z
                          cases z
                          exact ⟨_, valV_pos ek, h⟩
                        · rw [if_neg ek] at z
                          rw [valV_neg (p := (kk, v')) ek]
                          exact ih z
                    obtain ⟨z, e3, rz⟩ := look hc e2
                    exact ⟨_, z, rfl, .inl ⟨vs, _, hr, rfl, e3.symm⟩, give w2 A2 P2 (.c rz) .nil⟩
                  cases uo with
                  | dico zs =>
                    cases hu
                    cases ho <;> first | exact g2.elim | exact .inr (.inr (core (.inl g1) g2))
                  | lck o =>
                    cases hu
                    cases ho <;> first | exact g2.elim | skip
                    rename_i ob u
                    cases u <;> first | exact g2.elim | exact .inr (.inr (core (.inr ⟨_, g1⟩) g2))
                  | _ => cases hu
            · exact w2.elim
          · exact w2.elim
        · exact w2.elim
  · rename_i kk
    rw [rep_str (repT r2).1]
    split at w2
    · rename_i kvs e1
      split at w2
      · rename_i y e2
        obtain ⟨p, vs, rfl, h1, h2⟩ := dct_rep A2.hs r1 e1
        obtain ⟨z, e3, rz⟩ := (look_rep h2).1 _ e2
        exact .inr (.inr ⟨p, z, rfl, .inl ⟨vs, _, h1, rfl, e3.symm⟩, giveT w2 A2 P2 rz⟩)
      · exact w2.elim
    · exact w2.elim
  · exact w2.elim
/-! slices -/
def SemO (X : Cx) (gi : GI) (k : Nat) (e : Option Expr) (f : Option XE) : Prop := match e, f with
  | none, none => True
  | some e, some f => SemE X gi k e f
  | _, _ => False
theorem SemO.go {e : Option Expr} {f : Option XE} (h : SemO X gi k e f) {q : Q} (lk : Lnk X gi k er q) (tk : Takes X W) (A : Ab X.K fr S μ σ H F) (P : Stp q.L S0 μ0 H0 F0 S μ H F) {γ : Type} {g : Option Int → Store → R γ} {j : γ → Store → (Nat → Addr) → Hp → Hp → Prop} (w : WR X.K er W q.L fr σ S0 μ0 H0 F0 ((Z.opt f q fr S).bnd g) j) {Q : Option Int → Hp → Prop}
    (n : ∀ b S1 μ1 H1 F1, Ab X.K fr S1 μ1 σ H1 F1 → Stp q.L S μ H F S1 μ1 H1 F1 → WR X.K er W q.L fr σ S0 μ0 H0 F0 (g b S1) j → Q b H1) : semO X e σ H Q := by
  cases e with
  | none =>
    cases f with
    | none => exact ⟨_, po_none, n none S μ H F A .refl w⟩
    | some f => exact h.elim
  | some e =>
    cases f with
    | none => exact h.elim
    | some f =>
      have h' : SemE X gi k e f := h
      have w' : WR X.K er W q.L fr σ S0 μ0 H0 F0 ((f q fr S).bnd fun x S1 => (match x with
        | .t (.int i) => R.ok (some i) S1
        | _ => .no).bnd g) j := by
        have w0 : WR X.K er W q.L fr σ S0 μ0 H0 F0 (((f q fr S).bnd fun x S1 => (match x with
          | .t (.int i) => R.ok (some i) S1
          | _ => .no)).bnd g) j := w
        clear w
        generalize f q fr S = r at w0 ⊢
        cases r with
        | no => exact w0
        | ok d S1 => exact w0
        | ex c x S1 => exact w0
      refine ⟨_, po_some pe_sem, h'.go lk tk A P w' fun d S1 μ1 H1 F1 v as A1 P1 r1 o1 w1 => ?_⟩
      split at w1
      · rw [rep_int (repT r1).1]
        exact ⟨_, rfl, n _ S1 μ1 H1 F1 A1 P1 w1⟩
      · exact w1.elim
theorem cut_rep {G : Lk} {vs : List V} {xs : List T} {lo hi : Option Int} (h : RepL K G vs xs) : RepL K G (cutV vs lo hi) (cut xs lo hi) := by
  unfold cutV cut
  rw [h.length]
  exact (h.drop _).take _
theorem sqS_rep (A : Hs K S μ H F) {v : V} {x : D} {xs : List T} (r : RepN K S.length μ F H v x as) (e : sqS S x = some xs) : ∃ a vs, v = .ref a ∧ SqL K H a vs ∧ RepL K (At F) vs xs := by
  unfold sqS at e
  split at e
  · cases e
    obtain ⟨a, rfl, h⟩ := rep_scr (repT r).1
    refine ⟨a, _, rfl, ?_, RepL.of_ints⟩
    rcases h with ⟨o, h⟩ | h
    · exact .inl (.inr ⟨o, now_ex (A.sub _ _ h) fun _ z => by cases z⟩)
    · exact h H
  · obtain ⟨a, vs, rfl, h1, h2⟩ := sq_rep A r e
    exact ⟨a, vs, rfl, SqL.of h1, h2⟩
theorem sem_sl {lo hi : Option Expr} {fl fh : Option XE} {q2 : Pos} (h1 : SemE X gi k a f) (h2 : SemO X gi k lo fl) (h3 : SemO X gi k hi fh) : SemE X gi k (.Subscript a (.Slice lo hi none q2) pos) (Z.sl f fl fh) := by
  intro er q lk W tk fr S μ σ H F A Q w
  refine ⟨_, pe_slice sl_list pe_sem po_sem po_sem, h1.go lk tk A .refl w fun x S1 μ1 H1 F1 v as A1 P1 r1 o1 w1 => h2.go lk tk A1 P1 w1 fun l S2 μ2 H2 F2 A2 P2 w2 => h3.go lk tk A2 (P1.trans P2) w2 fun hh S3 μ3 H3 F3 A3 P3 w3 => ?_⟩
  obtain ⟨r1, o1⟩ := r1.keep o1 P2
  obtain ⟨r1, o1⟩ := r1.keep o1 P3
  unfold slD at w3
  split at w3
  · rename_i xs e
    obtain ⟨p, vs, rfl, g1, g2⟩ := sqS_rep A3.hs r1 e
    exact ⟨p, vs, rfl, g1, fun m hm => giveN w3 A3 (P1.trans (P2.trans P3)) hm (cut_rep g2)⟩
  · exact w3.elim
theorem sem_rev {kk : Nat} {q1 q2 q3 : Pos} (h1 : SemE X gi k a f) : SemE X gi k (.Subscript a (.Slice none none (some (.UnaryOp .USub (.Constant (.int 1) kk q1) q2)) q3) pos) (Z.rev f) := by
  intro er q lk W tk fr S μ σ H F A Q w
  refine ⟨_, pe_revL pe_sem, h1.go lk tk A .refl w fun x S1 μ1 H1 F1 v as A1 P1 r1 o1 w1 => ?_⟩
  unfold revD at w1
  split at w1
  · rename_i xs e
    obtain ⟨p, vs, rfl, g1, g2⟩ := sq_rep A1.hs r1 e
    exact ⟨p, vs, rfl, SqL.of g1, fun m hm => giveN w1 A1 P1 hm g2.reverse⟩
  · exact w1.elim
end
end Mi

set_option Elab.async false
set_option linter.all false
set_option maxRecDepth 100000
set_option maxHeartbeats 4000000
/-! N10: built-ins, calls of defs -/
namespace Mi
open PySem PySem.Spec PyProof.Rows L2
section
variable {X : Cx} {gi : GI} {k : Nat} {N : List Str} {sc : Scope} {pos p1 p p2 : Pos} {e a b c i : Expr} {es rest : List Expr} {kws : List Keyword} {f g h : XE} {fa ga : XA} {ft gt : XT}
variable {er : ER} {W : WX} {L : Nat} {fr : Frame} {σ : L2.St} {S S1 S2 S0 : Store} {μ μ1 μ2 μ0 : Nat → Addr} {H H1 H2 H0 F F1 F2 F0 : Hp} {as bs : List Addr} {K : PySem.W.Frag}

/-- a built-in of one value does what g says -/
def CalS (X : Cx) (u : Value) (g : D → Store → R D) : Prop := ∃ r : List V → Hp → VK → Prop, CallR X u r ∧ ∀ {er : ER} {W : WX} {L : Nat} {fr : Frame} {σ : L2.St} {S0 S : Store} {μ0 μ : Nat → Addr} {H0 F0 H F : Hp} {Q : VK} {x : D} {v : V} {as : List Addr},
  Ab X.K fr S μ σ H F → Stp L S0 μ0 H0 F0 S μ H F → RepN X.K S.length μ F H v x as → Own as H0 F μ S → WR X.K er W L fr σ S0 μ0 H0 F0 (g x S) (KE X.K H0 Q) → r [v] H Q
theorem cal_or {u : Value} {r1 r2 : List V → Hp → VK → Prop} (h1 : CallR X u r1) (h2 : CallR X u r2) : CallR X u (fun xs H Q => r1 xs H Q ∨ r2 xs H Q) := by
  intro pins s σ H xs us Q I r h
  rcases h with h | h
  · exact h1 pins s σ H xs us Q I r h
  · exact h2 pins s σ H xs us Q I r h
theorem arg1 (h1 : SemE X gi k e f) {q : Q} (lk : Lnk X gi k er q) (tk : Takes X W) (A : Ab X.K fr S μ σ H F) {γ : Type} {g : D → Store → R γ} {j : γ → Store → (Nat → Addr) → Hp → Hp → Prop} (w : WR X.K er W q.L fr σ S μ H F ((f q fr S).bnd g) j) (hs : starEach [e] X.env = [(false, eval e X.env)]) {Q : List V → Hp → Prop}
    (n : ∀ d S1 μ1 H1 F1 v as, Ab X.K fr S1 μ1 σ H1 F1 → Stp q.L S μ H F S1 μ1 H1 F1 → RepN X.K S1.length μ1 F1 H1 v d as → Own as H F1 μ1 S1 → WR X.K er W q.L fr σ S μ H F (g d S1) j → Q [v] H1) : semA X [e] σ H Q :=
  ⟨_, pa_cons pe_sem pa_nil hs, h1.go lk tk A .refl w fun d S1 μ1 H1 F1 v as A1 P1 r1 o1 w1 => n d S1 μ1 H1 F1 v as A1 P1 r1 o1 w1⟩
theorem sem_b1 {x : Str} {id : String} {o : U1} (n : Bi X x (.builtin id)) (hc : CalS X (.builtin id) (f1D o)) (h1 : SemE X gi k e f) (hs : starEach [e] X.env = [(false, eval e X.env)]) : SemE X gi k (.Call (.Name x p) [e] [] pos) (Z.f1 o f) := by
  intro er q lk W tk fr S μ σ H F A Q w
  obtain ⟨r, hr, hn⟩ := hc
  exact ⟨_, pe_callB hr n.g n.m n.b pa_sem n.n n.d hs rfl, arg1 h1 lk tk A w hs fun d S1 μ1 H1 F1 v as A1 P1 r1 o1 w1 => hn A1 P1 r1 o1 w1⟩
theorem sem_t1 {x : Str} {id : String} {o : U1} (n : Bi X x (.type id)) (hc : CalS X (.type id) (f1D o)) (h1 : SemE X gi k e f) (hs : starEach [e] X.env = [(false, eval e X.env)]) : SemE X gi k (.Call (.Name x p) [e] [] pos) (Z.f1 o f) := by
  intro er q lk W tk fr S μ σ H F A Q w
  obtain ⟨r, hr, hn⟩ := hc
  exact ⟨_, pe_callTy hr n.g n.m n.b pa_sem n.n n.d hs rfl, arg1 h1 lk tk A w hs fun d S1 μ1 H1 F1 v as A1 P1 r1 o1 w1 => hn A1 P1 r1 o1 w1⟩
theorem intS : CalS X (.type "int") (f1D .int) := by
  refine ⟨_, call_int1, ?_⟩
  intro er W L fr σ S0 S μ0 μ H0 F0 H F Q x v as A P r1 o hw0
  have hw : WR X.K er W L fr σ S0 μ0 H0 F0 (intD x S) (KE X.K H0 Q) := hw0
  clear hw0
  unfold intD at hw
  split at hw
  · rw [rep_int (repT r1).1]
    exact .inl ⟨_, rfl, giveT hw A P (.int _)⟩
  · rw [rep_bl (repT r1).1]
    exact .inr ⟨_, rfl, giveT hw A P (.int _)⟩
  · exact hw.elim
theorem call_lenR : CallR X (.builtin "len") (fun xs H Q => ∃ a kvs, xs = [V.ref a] ∧ Rd H a (.dK kvs) ∧ Q (.int kvs.length) H) := by
  intro pins s σ H xs us Q I r h
  obtain ⟨a, kvs, rfl, e, q⟩ := h
  obtain ⟨u, rfl, rx⟩ := vals1 r
  cases rx
  exact d_len I e fun t s' I' => ⟨.int _, H, I', ⟨t, rfl⟩, q⟩
theorem lenS : CalS X (.builtin "len") (f1D .len) := by
  refine ⟨_, cal_or call_len_seq call_lenR, ?_⟩
  intro er W L fr σ S0 S μ0 μ H0 F0 H F Q x v as A P r1 o hw0
  have hw : WR X.K er W L fr σ S0 μ0 H0 F0 (lenD x S) (KE X.K H0 Q) := hw0
  clear hw0
  unfold lenD at hw
  split at hw
  · rename_i ds e
    obtain ⟨p, vs, bs, rfl, h1, h2, _⟩ := sqd_rep A.hs r1 e
    refine .inl ⟨p, vs, rfl, h1.imp SqL.of SqT.of, ?_⟩
    rw [h2.length]
    exact giveT hw A P (.int _)
  · split at hw
    · rename_i kvs e
      obtain ⟨p, vs, rfl, h1, h2⟩ := dct_rep A.hs r1 e
      refine .inr ⟨p, vs, rfl, h1, ?_⟩
      rw [h2.length]
      exact giveT hw A P (.int _)
    · exact hw.elim
theorem reprS (c : Cok X gi k N sc) (hnr : gi.gd = some [] := by rfl) : CalS X (.builtin "repr") (f1D .repr) := by
  refine ⟨fun xs H Q => ∃ v d, xs = [v] ∧ Rep X.K (Now H) v d ∧ d.ok = true ∧ d.wt ≤ 16000000 ∧ d.dp ≤ 60 ∧ Q (.str d.show) H, ?_, ?_⟩
  · intro pins s σ H xs us Q I r h
    obtain ⟨v, d, rfl, rp, ok, wt, dp, q⟩ := h
    obtain ⟨u, rfl, r1⟩ := vals1 r
    have hg := c.gd.trans hnr
    have hu := c.un
    obtain ⟨s1, s2, _, s4, s5⟩ := ok_show ok
    have sz : d.py.shown.length ≤ sizeLine := Nat.le_trans s5 (Nat.le_trans wt (by decide))
    unfold T.show at q
    have nested : ∀ a, v = .ref a → wpAny (model X.prog X.w) X.A (call (.builtin "repr") [u]) (EP X pins σ Q) X.xe s := fun a e => by
      subst e
      cases r1
      obtain ⟨as, rd⟩ := Dp.reads I d.py (.ref a) (.ref a) (ok_dp ok rp) rfl
      refine repr_of_reads' rd s1 (PyData.noDict_hsm s2) hg (by rw [s4]; omega) (fun _ _ e => e) (fun h' w tk k => ?_) sz
      exact ⟨.str _, H, I.kept (t' := tk) k, ⟨w, rfl⟩, q⟩
    cases d with
    | non =>
      rw [rep_non rp] at r1
      cases r1
      unfold T.py at q
      exact P.repr_of_none ⟨.str _, H, I.tok _, ⟨_, rfl⟩, by simpa only [PyData.shown] using q⟩
    | bl b =>
      rw [rep_bl rp] at r1
      cases r1
      unfold T.py at q
      exact P.repr_of_bool ⟨.str _, H, I.tok _, ⟨_, rfl⟩, by simpa only [PyData.shown] using q⟩
    | int i =>
      rw [rep_int rp] at r1
      obtain ⟨t, rfl⟩ := r1
      unfold T.ok at ok
      unfold T.py at q
      exact P.repr_of_int (of_decide_eq_true ok) ⟨.str _, H, I.tok _, ⟨_, rfl⟩, by simpa only [PyData.shown] using q⟩
    | str x =>
      rw [rep_str rp] at r1
      obtain ⟨t, rfl⟩ := r1
      unfold T.py at q sz
      refine P.repr_of_str ⟨.str _, H, I.tok _, ⟨_, rfl⟩, by simpa only [PyData.shown] using q⟩ (by simpa only [PyData.shown] using sz)
    | lst ds =>
      obtain ⟨a, xs, rfl, _⟩ := rep_lst rp
      exact nested a rfl
    | tup ds =>
      obtain ⟨a, xs, rfl, _⟩ := rep_tup rp
      exact nested a rfl
    | dic _ => unfold T.ok at ok; cases ok
    | fn _ _ => unfold T.ok at ok; cases ok
    | scr _ => unfold T.ok at ok; cases ok
    | exn _ _ => unfold T.ok at ok; cases ok
    | exc _ _ _ _ => unfold T.ok at ok; cases ok
    | dix _ => unfold T.ok at ok; cases ok
    | set _ => unfold T.ok at ok; cases ok
  · intro er W L fr σ S0 S μ0 μ H0 F0 H F Q x v as A P r1 o hw0
    have hw : WR X.K er W L fr σ S0 μ0 H0 F0 (reprD x S) (KE X.K H0 Q) := hw0
    clear hw0
    unfold reprD at hw
    split at hw
    · rename_i d e
      split at hw
      · rename_i ok
        exact ⟨v, d, rfl, tr_ok 6 A.hs r1 e, ok.1, ok.2.1, ok.2.2, giveT hw A P (.str _)⟩
      · exact hw.elim
    · exact hw.elim
theorem sqI_rep {x : D} {v : V} {ns : List Int} (A : Hs K S μ H F) (r : RepN K S.length μ F H v x as) (e : intsD S x = some ns) : ∃ a, v = .ref a ∧ H a = some (.lst (ns.map V.int)) := by
  unfold intsD at e
  cases q : sq S x with
  | none =>
    rw [q] at e
    cases e
  | some xs =>
    rw [q] at e
    have ex := asI_eq e
    obtain ⟨a, vs, rfl, h1, h2⟩ := sq_rep A r q
    rw [ex] at h2
    rw [RepL.ints h2] at h1
    exact ⟨a, rfl, h1⟩
theorem maxS (hc : X.calm = true) : CalS X (.builtin "max") (f1D .max) := by
  refine ⟨_, cr_max hc, ?_⟩
  intro er W L fr σ S0 S μ0 μ H0 F0 H F Q x v as A P r1 o hw0
  have hw : WR X.K er W L fr σ S0 μ0 H0 F0 (maxD x S) (KE X.K H0 Q) := hw0
  clear hw0
  unfold maxD at hw
  split at hw
  · rename_i ns e
    split at hw
    · exact hw.elim
    · rename_i hn
      obtain ⟨p, rfl, h1⟩ := sqI_rep A.hs r1 e
      refine ⟨p, ns, rfl, SqL.of h1, ?_, fun m k1 k2 => ?_⟩
      · cases ns with
        | nil => exact absurd rfl hn
        | cons _ _ => exact Nat.succ_pos _
      · rw [maxI_uniq hn k1 k2]
        exact giveT hw A P (.int _)
  · exact hw.elim
theorem minS (hc : X.calm = true) : CalS X (.builtin "min") (f1D .min) := by
  refine ⟨_, cr_min hc, ?_⟩
  intro er W L fr σ S0 S μ0 μ H0 F0 H F Q x v as A P r1 o hw0
  have hw : WR X.K er W L fr σ S0 μ0 H0 F0 (minD x S) (KE X.K H0 Q) := hw0
  clear hw0
  unfold minD at hw
  split at hw
  · rename_i ns e
    split at hw
    · exact hw.elim
    · rename_i hn
      obtain ⟨p, rfl, h1⟩ := sqI_rep A.hs r1 e
      refine ⟨p, ns, rfl, SqL.of h1, ?_, fun m k1 k2 => ?_⟩
      · cases ns with
        | nil => exact absurd rfl hn
        | cons _ _ => exact Nat.succ_pos _
      · have hn2 : ns.map (fun n => -n) ≠ [] := fun z => hn (List.map_eq_nil_iff.mp z)
        have em : -m = maxI (ns.map fun n => -n) := maxI_uniq hn2 (List.mem_map.mpr ⟨m, k1, rfl⟩) fun y hy => by
          obtain ⟨n, hn', rfl⟩ := List.mem_map.mp hy
          have := k2 n hn'
          omega
        have em2 : m = minI ns := by
          unfold minI
          omega
        rw [em2]
        exact giveT hw A P (.int _)
  · exact hw.elim
theorem sumS (hc : X.calm = true) : CalS X (.builtin "sum") (f1D .sum) := by
  refine ⟨_, cr_sum hc, ?_⟩
  intro er W L fr σ S0 S μ0 μ H0 F0 H F Q x v as A P r1 o hw0
  have hw : WR X.K er W L fr σ S0 μ0 H0 F0 (sumD x S) (KE X.K H0 Q) := hw0
  clear hw0
  unfold sumD at hw
  split at hw
  · rename_i ns e
    obtain ⟨p, rfl, h1⟩ := sqI_rep A.hs r1 e
    exact ⟨p, ns, rfl, SqL.of h1, giveT hw A P (.int _)⟩
  · exact hw.elim
theorem sortedS : CalS X (.builtin "sorted") (f1D .sorted) := by
  refine ⟨_, cr_sortedI, ?_⟩
  intro er W L fr σ S0 S μ0 μ H0 F0 H F Q x v as A P r1 o hw0
  have hw : WR X.K er W L fr σ S0 μ0 H0 F0 (sortedD x S) (KE X.K H0 Q) := hw0
  clear hw0
  unfold sortedD at hw
  simp only at hw
  split at hw
  · rename_i ns e
    obtain ⟨p, rfl, h1⟩ := sqI_rep A.hs r1 e
    refine ⟨p, ns, rfl, SqL.of h1, fun ns' m pm so hm => ?_⟩
    rw [sort_uniq (pm.trans (sortI_perm ns).symm) so (sortI_sorted ns)]
    exact giveN hw A P hm RepL.of_ints
  · exact hw.elim
theorem absS : CalS X (.builtin "abs") (f1D .abs) := by
  refine ⟨_, call_abs, ?_⟩
  intro er W L fr σ S0 S μ0 μ H0 F0 H F Q x v as A P r1 o hw0
  have hw : WR X.K er W L fr σ S0 μ0 H0 F0 (absD x S) (KE X.K H0 Q) := hw0
  clear hw0
  unfold absD at hw
  split at hw
  · rw [rep_int (repT r1).1]
    exact ⟨_, rfl, giveT hw A P (.int _)⟩
  · exact hw.elim
theorem keys_rep {G : Lk} : ∀ {vs : List (Key × V)} {kvs : List (Key × T)}, RepK K G vs kvs → RepL K G (vs.map fun kv => kV kv.1) (kvs.map fun p => keyT p.1)
  | _, _, .nil => .nil
  | _, _, .cons (k := kk) h t => .cons (by
      cases kk with
      | inl i => exact .int i
      | inr i => exact .str i) (keys_rep t)
theorem listS (hc : X.calm = true) : CalS X (.type "list") (f1D .list) := by
  refine ⟨_, cal_or call_list_of (call_listD hc), ?_⟩
  intro er W L fr σ S0 S μ0 μ H0 F0 H F Q x v as A P r1 o hw0
  have hw : WR X.K er W L fr σ S0 μ0 H0 F0 (listD x S) (KE X.K H0 Q) := hw0
  clear hw0
  unfold listD at hw
  split at hw
  · rename_i xs e
    obtain ⟨p, vs, rfl, h1, h2⟩ := sq_rep A.hs r1 e
    exact .inl ⟨p, vs, rfl, .inl (SqL.of h1), fun m hm => giveN hw A P hm h2⟩
  · split at hw
    · rename_i kvs e
      obtain ⟨p, vs, rfl, h1, h2⟩ := dct_rep A.hs r1 e
      exact .inr ⟨p, vs, rfl, h1, fun m hm => giveN hw A P hm (keys_rep h2)⟩
    · exact hw.elim
/-- isinstance(x, T) -/
theorem ty_rep {x : D} {v : V} {t : String} (A : Hs K S μ H F) (r : RepN K S.length μ F H v x as) (e : tyD S x = some t) : TyX K H v (.type t) := by
  cases r with
  | c r =>
    cases r with
    | t r =>
      rename_i y
      cases y with
      | non => cases e; rw [rep_non r]; exact .base .non
      | bl b => cases e; rw [rep_bl r]; exact .base (.bl _)
      | int i => cases e; rw [rep_int r]; exact .base (.int _)
      | str i => cases e; rw [rep_str r]; exact .base (.str _)
      | lst ys =>
        cases e
        obtain ⟨a, vs, rfl, h1, _⟩ := rep_lst r
        exact .base (.lst (now_lst (A.sub _ _ h1)))
      | tup ys =>
        cases e
        obtain ⟨a, vs, rfl, h1, _⟩ := rep_tup r
        exact .base (.tup (now_tup (A.sub _ _ h1)))
      | dic ys =>
        cases e
        obtain ⟨a, vs, rfl, h1, _⟩ := rep_dic r
        rcases A.sub _ _ h1 with h1 | ⟨_, _, ob, h1⟩
        · exact .base (.dK h1)
        · exact .fDict h1
      | fn _ _ => cases e
      | scr _ => cases e
      | exn _ _ => cases e
      | exc _ _ _ _ => cases e
      | dix _ => cases e
      | set _ => cases e
    | cell hn =>
      unfold tyD at e
      simp only at e
      have core : ∀ {o : Ob} {n : Nat}, rd S n = some o → (match o with
          | .lst _ => t = "list"
          | .lsto _ => t = "list"
          | .dic _ => t = "dict"
          | .dico _ => t = "dict"
          | .tupo _ => t = "tuple"
          | _ => False) → TyX K H (.ref (μ n)) (.type t) := fun {o n} q ht => by
        obtain ⟨u, _, hu, ho, h1, h2⟩ := rd_cell A q
        subst hu
        cases u with
        | lck w =>
          cases w <;> cases ho <;> first | exact h2.elim | skip
          · have e : t = "list" := ht
            subst e
            exact .base (.lst h1)
          · have e : t = "list" := ht
            subst e
            exact .base (.lst h1)
          · have e : t = "dict" := ht
            subst e
            rename_i ob w
            cases w <;> first | exact h2.elim | exact .fDict h1
          · have e : t = "dict" := ht
            subst e
            rename_i ob w
            cases w <;> first | exact h2.elim | exact .fDict h1
          · have e : t = "tuple" := ht
            subst e
            exact .base (.tup h1)
        | _ =>
          cases ho <;> first | exact h2.elim | skip
          all_goals first
            | exact (show False from ht).elim
            | (have e : t = "list" := ht; subst e; exact .base (.lst h1))
            | (have e : t = "dict" := ht; subst e; exact .base (.dK h1))
            | (have e : t = "tuple" := ht; subst e; exact .base (.tup h1))
      split at e <;> first | (cases e; done) | skip
      all_goals
        rename_i q
        cases e
        exact core q rfl
  | new h1 h2 => cases e; exact .base (.lst h1)
  | newd h1 h2 => cases e; exact .base (.dK h1)
  | newo h1 h2 => cases e; exact .base (.lst h1)
  | tupo h1 h2 => cases e; exact .base (.tup h1)
  | newk h1 h2 => cases e; exact .base (.dK h1)
theorem sem_isi {x : Str} {T : String} (n : Bi X "isinstance" (.builtin "isinstance")) (nt : Bi X x (.type T)) (h1 : SemE X gi k e f)
    (he : starEach [e, .Name x p2] X.env = (false, eval e X.env) :: starEach [.Name x p2] X.env) (hs : starEach [.Name x p2] X.env = [(false, eval (.Name x p2) X.env)]) (hpl : (backTo pos (starEach [.Name x p2] X.env)).any (·.1) = false) :
    SemE X gi k (.Call (.Name "isinstance" p) [e, .Name x p2] [] pos) (Z.f1 (.isi T) f) := by
  intro er q lk W tk fr S μ σ H F A Q w
  refine ⟨_, pe_callB call_isi n.g n.m n.b (pa_cons pe_sem (pa_cons (pe_bltn (v := .ty T) nt.g nt.m nt.b rfl nt.n nt.d) pa_nil hs) he) n.n n.d he hpl, h1.go lk tk A .refl w fun d S1 μ1 H1 F1 v as A1 P1 r1 o1 w1 => ?_⟩
  have hw : WR X.K er W q.L fr σ S μ H F (isiD T d S1) (KE X.K H Q) := w1
  unfold isiD at hw
  split at hw
  · rename_i b e1
    cases e2 : tyD S1 d with
    | none =>
      rw [e2] at e1
      cases e1
    | some t =>
      rw [e2] at e1
      exact ⟨v, .ty T, .type t, .type T, b, rfl, .ty T, ty_rep A1.hs r1 e2, kit_ty e1, giveT hw A1 P1 (.bl b)⟩
  · exact hw.elim
theorem sem_bits {apos : Pos} (h1 : SemE X gi k a f) (hbase : attributeBase a "bit_length" X.env (eval a X.env) = eval a X.env) (hline : (apos.endLine == pos.line) = true) : SemE X gi k (.Call (.Attribute a "bit_length" apos) [] [] pos) (Z.f1 .bits f) := by
  intro er q lk W tk fr S μ σ H F A Q w
  refine ⟨_, pe_bits pe_sem hbase hline, h1.go lk tk A .refl w fun d S1 μ1 H1 F1 v as A1 P1 r1 o1 w1 => ?_⟩
  have hw : WR X.K er W q.L fr σ S μ H F (bitsD d S1) (KE X.K H Q) := w1
  unfold bitsD at hw
  split at hw
  · rw [rep_int (repT r1).1]
    exact ⟨_, rfl, giveT hw A1 P1 (.int _)⟩
  · exact hw.elim

/-! ### calls of defs -/
theorem mapO_arg {vs : List V} {ds es : List D} (A : Ab K fr S μ σ H F) (P : Stp L S0 μ0 H0 F0 S μ H F) (r : RepNs K S.length μ F H vs ds as) (o : Own as H0 F μ S) (e : mapO Z.arg ds = some es) :
    ∃ F', Same F F' ∧ Ab K fr S μ σ H F' ∧ Stp L S0 μ0 H0 F0 S μ H F' ∧ RepCs K S.length μ F' vs es := by
  -- all of them are frozen at once
  obtain ⟨A2, P2⟩ := A.frzd P o
  refine ⟨_, frz_same fun a ha => (o.fr a ha).2.1, A2, P2, ?_⟩
  have sf : Same F (frz F H as) := frz_same fun a ha => (o.fr a ha).2.1
  have one : ∀ {v : V} {d e : D} {bs : List Addr}, RepN K S.length μ F H v d bs → (∀ a ∈ bs, a ∈ as) → Z.arg d = some e → RepC K S.length μ (frz F H as) v e := fun {v d e bs} r m q => by
    have fzz : ∀ {x : T}, Mi.fz 6 d = some x → RepC K S.length μ (frz F H as) v (.t x) := fun {x} z => .t (fz_rep sf r m z)
    have via : (Mi.fz 6 d).map D.t = some e → RepC K S.length μ (frz F H as) v e := fun z => by
      cases z2 : Mi.fz 6 d with
      | none =>
        rw [z2] at z
        cases z
      | some x =>
        rw [z2] at z
        cases z
        exact fzz z2
    cases d with
    | t x =>
      cases q
      cases r with
      | c r => exact r.mono (Nat.le_refl _) (fun _ _ => rfl) sf
    | cell n =>
      cases q
      cases r with
      | c r => exact r.mono (Nat.le_refl _) (fun _ _ => rfl) sf
    | new xs => exact via q
    | newd xs => exact via q
    | newo xs => exact via q
    | tupo xs => exact via q
    | newk xs => exact via q
  have all : ∀ {ds es : List D} {vs : List V} {bs : List Addr}, RepNs K S.length μ F H vs ds bs → (∀ a ∈ bs, a ∈ as) → mapO Z.arg ds = some es → RepCs K S.length μ (frz F H as) vs es := by
    intro ds es vs bs r
    induction ds generalizing es vs bs with
    | nil =>
      intro m e
      cases r
      cases e
      exact .nil
    | cons d ds ih =>
      intro m e
      cases r with
      | cons r1 r2 =>
        unfold mapO at e
        split at e
        · rename_i y q1
          cases q : mapO Z.arg ds with
          | none =>
            rw [q] at e
            cases e
          | some zs =>
            rw [q] at e
            cases e
            exact .cons (one r1 (fun a ha => m a (List.mem_append_left _ ha)) q1) (ih r2 (fun a ha => m a (List.mem_append_right _ ha)) q)
        · cases e
  exact all r (fun _ h => h) e
theorem arr_rep {vs : List V} {es : List D} {M : Nat} (r : RepCs K M μ F vs es) : ∀ {ar : List (Sum Nat T)} {zs : List D}, (∀ x, Sum.inr x ∈ ar → x.scl = true) → Z.arr es ar = some zs → RepCs K M μ F (ar.filterMap (arV vs)) zs
  | [], zs, _, e => by
    cases e
    exact .nil
  | .inl j :: ar, zs, hs, e => by
    unfold Z.arr at e
    split at e
    · rename_i d e1
      cases q : Z.arr es ar with
      | none =>
        rw [q] at e
        cases e
      | some ws =>
        rw [q] at e
        cases e
        obtain ⟨v, e2, rv⟩ := r.get' e1
        rw [List.filterMap_cons_some (show arV vs (.inl j) = some v from e2)]
        exact .cons rv (arr_rep r (fun x hx => hs x (List.mem_cons_of_mem _ hx)) q)
    · cases e
  | .inr x :: ar, zs, hs, e => by
    have e' : (Z.arr es ar).map (.t x :: ·) = some zs := e
    cases q : Z.arr es ar with
    | none =>
      rw [q] at e'
      cases e'
    | some ws =>
      rw [q] at e'
      cases e'
      rw [List.filterMap_cons_some (show arV vs (.inr x) = some (tV x) from rfl)]
      exact .cons (.t (tV_rep (hs x List.mem_cons_self))) (arr_rep r (fun x hx => hs x (List.mem_cons_of_mem _ hx)) q)
theorem arr_len {es : List D} : ∀ {ar : List (Sum Nat T)} {zs : List D}, Z.arr es ar = some zs → zs.length = ar.length
  | [], zs, e => by cases e; rfl
  | .inl j :: ar, zs, e => by
    unfold Z.arr at e
    split at e
    · cases q : Z.arr es ar with
      | none =>
        rw [q] at e
        cases e
      | some ws =>
        rw [q] at e
        cases e
        exact congrArg Nat.succ (arr_len q)
    · cases e
  | .inr x :: ar, zs, e => by
    have e' : (Z.arr es ar).map (.t x :: ·) = some zs := e
    cases q : Z.arr es ar with
    | none =>
      rw [q] at e'
      cases e'
    | some ws =>
      rw [q] at e'
      cases e'
      exact congrArg Nat.succ (arr_len q)
/-- the callee's promise from the caller's want -/
theorem call_want {q : Q} {ds1 ds2 : List D} {vs zs : List V} {ar : List (Sum Nat T)} {n np : Nat} {Q : VK} (A : Ab K fr S μ σ H F) (P : Stp q.L S0 μ0 H0 F0 S μ H F) (r : RepNs K S.length μ F H (vs ++ zs) (ds1 ++ ds2) as) (o : Own as H0 F μ S)
    (hs : ∀ x, Sum.inr x ∈ ar → x.scl = true) (hn : ar.length = np) (w : WR K er W q.L fr σ S0 μ0 H0 F0 (Z.callA q n (ds1 ++ ds2) ar S) (KE K H0 Q)) : spC K er (q.call n) np (gV ar vs zs) H Q (WE W σ) := by
  unfold Z.callA at w
  split at w
  · rename_i es e1
    split at w
    · rename_i ws e2
      obtain ⟨F', _, A2, P2, rc⟩ := mapO_arg A P r o e1
      have rz := arr_rep rc hs e2
      refine ⟨by rw [← hn, ← arr_len e2]; exact rz.length, ws, S, μ, F', A2.hs, rz, ?_⟩
      unfold WC
      cases e3 : q.call n ws S with
      | no =>
        rw [e3] at w
        exact w.elim
      | ok d S' =>
        rw [e3] at w
        intro v μ' H' F2 as' hs' hl' P' r' o'
        have P3 := P'.any (L := q.L)
        exact w μ' H' F2 (A2.hsof P' hs') (P2.trans P3) v as' r' (o'.start P2.dom)
      | ex c x S' =>
        rw [e3] at w
        intro μ' H' F2 cls dx hs' hl' P' ee
        have P3 := P'.any (L := q.L)
        exact w μ' H' F2 cls dx (A2.hsof P' hs') (P2.trans P3) ee
    · exact w.elim
  · exact w.elim
theorem RepNs.app {M : Nat} : ∀ {vs ws : List V} {ds es : List D} {as bs : List Addr}, RepNs K M μ F H vs ds as → RepNs K M μ F H ws es bs → RepNs K M μ F H (vs ++ ws) (ds ++ es) (as ++ bs)
  | _, _, _, _, _, _, .nil, k => k
  | _, _, _, _, _, _, .cons h t, k => by
    rw [List.append_assoc]
    exact .cons h (RepNs.app t k)
/-- the arguments of a call: by position, then by name -/
def Z.args (fa fk : XA) : XA := fun q fr S => (fa q fr S).bnd fun ds S1 => (fk q fr S1).bnd fun es S2 => .ok (ds ++ es) S2
theorem sem_call {x : Str} {n m : Nat} {d : DI} {ar : List (Sum Nat T)} (c : Cok X gi k N sc) (hg : sc.names.lookup x = some .globalImplicit) (hm : gi.ds[n]? = some d) (hx : d.name = x) (hsh : (m, [], ar) ∈ d.shapes) (hs : ∀ y, Sum.inr y ∈ ar → y.scl = true) (har : ar.length = d.ps.length)
    (ha : SemA X gi k (e :: es) fa) (hl : (e :: es).length = m) (hdb : (x == ("__debug__" : Str)) = false) (he : starEach (e :: es) X.env = (false, eval e X.env) :: starEach es X.env) (hpl : (backTo pos (starEach es X.env)).any (·.1) = false) : SemE X gi k (.Call (.Name x p) (e :: es) [] pos) (Z.call n fa ar) := by
  intro er q lk W tk fr S μ σ H F A Q w
  obtain ⟨fd, F1, e1, e2, e3⟩ := lk.df n d hm
  obtain ⟨g, kb⟩ := e3 _ hsh
  rw [hx] at e1
  refine ⟨_, pe_go F1 e1 e2 kb tk c.gd c.rm (c.gl hg) pa_sem hdb he hpl, ha.go lk tk A .refl w fun ds S1 μ1 H1 G1 vs as A1 P1 r1 o1 l1 w1 => ⟨l1.trans hl, rfl, ?_⟩⟩
  have r1' : RepNs X.K S1.length μ1 G1 H1 (vs ++ []) (ds ++ []) as := by rw [List.append_nil, List.append_nil]; exact r1
  refine call_want A1 P1 r1' o1 hs har ?_
  rw [List.append_nil]
  exact w1
theorem sem_callK {x : Str} {n m : Nat} {ks : List Str} {d : DI} {ar : List (Sum Nat T)} {fk : XA} (c : Cok X gi k N sc) (hg : sc.names.lookup x = some .globalImplicit) (hm : gi.ds[n]? = some d) (hx : d.name = x) (hsh : (m, ks, ar) ∈ d.shapes) (hs : ∀ y, Sum.inr y ∈ ar → y.scl = true) (har : ar.length = d.ps.length)
    (ha : SemA X gi k (e :: es) fa) (hl : (e :: es).length = m) (hk : SemK X gi k kws fk) (hkl : kws.length = ks.length) (hdb : (x == ("__debug__" : Str)) = false) (he : starEach (e :: es) X.env = (false, eval e X.env) :: starEach es X.env)
    (hall : (backToKw pos (keywordEach kws X.env)).all (·.1.isSome) = true) (hks : (backToKw pos (keywordEach kws X.env)).filterMap (·.1) = ks) (hpl : ((backTo pos (starEach (e :: es) X.env)).any (·.1) || (backToKw pos (keywordEach kws X.env)).any (·.1.isNone)) = false) :
    SemE X gi k (.Call (.Name x p) (e :: es) kws pos) (Z.call n (Z.args fa fk) ar) := by
  intro er q lk W tk fr S μ σ H F A Q w
  obtain ⟨fd, F1, e1, e2, e3⟩ := lk.df n d hm
  obtain ⟨g, kb⟩ := e3 _ hsh
  rw [hx] at e1
  have w0 : WR X.K er W q.L fr σ S μ H F ((fa q fr S).bnd fun ds S1 => (fk q fr S1).bnd fun es S2 => Z.callA q n (ds ++ es) ar S2) (KE X.K H Q) := by
    have w1 : WR X.K er W q.L fr σ S μ H F ((Z.args fa fk q fr S).bnd fun ds S1 => Z.callA q n ds ar S1) (KE X.K H Q) := w
    unfold Z.args at w1
    generalize fa q fr S = ra at w1 ⊢
    cases ra with
    | no => exact w1
    | ex c x S1 => exact w1
    | ok ds S1 =>
      rw [bnd_ok] at w1 ⊢
      generalize fk q fr S1 = rb at w1 ⊢
      cases rb with
      | no => exact w1
      | ex c x S1 => exact w1
      | ok es S2 => exact w1
  refine ⟨_, pe_goKW F1 e1 e2 kb tk c.gd c.rm (c.gl hg) pa_sem pk_sem hdb he hall hks hpl, ha.go lk tk A .refl w0 fun ds S1 μ1 H1 G1 vs as A1 P1 r1 o1 l1 w1 => hk.go lk tk A1 P1 w1 fun es S2 μ2 H2 G2 zs bs A2 P2 r2 o2 l2 w2 => ⟨l1.trans hl, l2.trans hkl, ?_⟩⟩
  obtain ⟨r1', o1'⟩ := r1.keep o1 P2
  exact call_want A2 (P1.trans P2) (r1'.app r2) (o1'.app o2 P1.dom r1.there) hs har w2
theorem sem_callK0 {x : Str} {n : Nat} {ks : List Str} {d : DI} {ar : List (Sum Nat T)} {fk : XA} (c : Cok X gi k N sc) (hg : sc.names.lookup x = some .globalImplicit) (hm : gi.ds[n]? = some d) (hx : d.name = x) (hsh : (0, ks, ar) ∈ d.shapes) (hs : ∀ y, Sum.inr y ∈ ar → y.scl = true) (har : ar.length = d.ps.length)
    (hk : SemK X gi k kws fk) (hkl : kws.length = ks.length) (hdb : (x == ("__debug__" : Str)) = false)
    (hall : (backToKw pos (keywordEach kws X.env)).all (·.1.isSome) = true) (hks : (backToKw pos (keywordEach kws X.env)).filterMap (·.1) = ks) (hpl : ((backTo pos (starEach [] X.env)).any (·.1) || (backToKw pos (keywordEach kws X.env)).any (·.1.isNone)) = false) :
    SemE X gi k (.Call (.Name x p) [] kws pos) (Z.call n fk ar) := by
  intro er q lk W tk fr S μ σ H F A Q w
  obtain ⟨fd, F1, e1, e2, e3⟩ := lk.df n d hm
  obtain ⟨g, kb⟩ := e3 _ hsh
  rw [hx] at e1
  exact ⟨_, pe_goKW0 F1 e1 e2 kb tk c.gd c.rm (c.gl hg) pk_sem hdb hall hks hpl, hk.go lk tk A .refl w fun ds S1 μ1 H1 G1 vs as A1 P1 r1 o1 l1 w1 => ⟨rfl, l1.trans hkl, call_want (ds1 := []) (vs := []) A1 P1 r1 o1 hs har w1⟩⟩
theorem sem_call0 {x : Str} {n : Nat} {d : DI} (c : Cok X gi k N sc) (hg : sc.names.lookup x = some .globalImplicit) (hm : gi.ds[n]? = some d) (hx : d.name = x) (hsh : (0, [], []) ∈ d.shapes) (har : 0 = d.ps.length)
    (hdb : (x == ("__debug__" : Str)) = false) : SemE X gi k (.Call (.Name x p) [] [] pos) (Z.call n Z.nil []) := by
  intro er q lk W tk fr S μ σ H F A Q w
  obtain ⟨fd, F1, e1, e2, e3⟩ := lk.df n d hm
  obtain ⟨g, kb⟩ := e3 _ hsh
  rw [hx] at e1
  exact ⟨_, pe_go0 F1 e1 e2 kb tk c.gd c.rm (c.gl hg) hdb, rfl, rfl, call_want (ds1 := []) (vs := []) (zs := []) (ds2 := []) (as := []) A .refl .nil .nil (fun y z => by cases z) har w⟩
end
end Mi

set_option Elab.async false
set_option linter.all false
set_option maxRecDepth 100000
set_option maxHeartbeats 4000000
/-! N11: statements -/
namespace Mi
open PySem PySem.Spec PyProof.Rows L2
/-- a name that may be stored -/
structure Nl (X : Cx) (i : Nat) (x : Str) : Prop where
  nd : X.N.Nodup
  n : X.N[i]? = some x
  l : Loc X.env.scope x
  f : X.fn x = true ∨ X.env.scope.names.lookup x = some .local
section
variable {X : Cx} {gi : GI} {k : Nat} {N : List Str} {sc : Scope} {pos p1 p p2 pp : Pos} {e a b c i o tg : Expr} {es ts : List Expr} {st rest s1 s2 : List Stmt} {s : Stmt} {f g h : XE} {fa ga : XA} {ft gt : XT} {fb gb hb : XB}
variable {er : ER} {W : WX} {L : Nat} {fr fr1 fr2 : Frame} {σ σ1 σ2 : L2.St} {S S1 S2 S0 : Store} {μ μ1 μ2 μ0 : Nat → Addr} {H H1 H2 H0 F F1 F2 F0 : Hp} {as bs : List Addr} {K : PySem.W.Frag} {D : Ends}
theorem Cok.nl (c : Cok X gi k N sc) (hf : ∀ x, X.fn x = true) {i : Nat} {x : Str} (h : N[i]? = some x) (l : Loc sc x) : Nl X i x :=
  ⟨by rw [c.n]; exact c.nd, by rw [c.n]; exact h, by rw [c.s]; exact l, .inl (hf x)⟩
theorem Cok.nlB (c : Cok X gi k N sc) {i : Nat} {x : Str} (h : N[i]? = some x) (l : sc.names.lookup x = some .local) : Nl X i x :=
  ⟨by rw [c.n]; exact c.nd, by rw [c.n]; exact h, .inl (by rw [c.s]; exact l), .inr (by rw [c.s]; exact l)⟩
/-- what is wanted of a statement's result -/
def WS (K : PySem.W.Frag) (er : ER) (W : WX) (L : Nat) (S : Store) (μ : Nat → Addr) (H F : Hp) (r : R (Fl × Frame)) (D : Ends) : Prop := match r with
  | .no => False
  | .ok (.nx, fr') S' => ∀ σ' μ' H' F', Ab K fr' S' μ' σ' H' F' → Stp L S μ H F S' μ' H' F' → D.nx σ' H'
  | .ok (.bk, fr') S' => ∀ σ' μ' H' F', Ab K fr' S' μ' σ' H' F' → Stp L S μ H F S' μ' H' F' → D.bk σ' H'
  | .ok (.ct, fr') S' => ∀ σ' μ' H' F', Ab K fr' S' μ' σ' H' F' → Stp L S μ H F S' μ' H' F' → D.ct σ' H'
  | .ok (.rt d, fr') S' => ∀ σ' μ' H' F', Ab K fr' S' μ' σ' H' F' → Stp L S μ H F S' μ' H' F' → ∀ v as, RepN K S'.length μ' F' H' v d as → Own as H F' μ' S' → D.rt v H'
  | .ex c x S' => ∀ fr' σ' μ' H' F' cls dx, Ab K fr' S' μ' σ' H' F' → Stp L S μ H F S' μ' H' F' → er c x cls dx H' F' → W cls dx σ' H'
def SemS (X : Cx) (gi : GI) (k : Nat) (s : Stmt) (f : XB) : Prop := ∀ er q, Lnk X gi k er q → ∀ W, Takes X W → ∀ fr S μ σ H F, Ab X.K fr S μ σ H F → ∀ D : Ends, WS X.K er W q.L S μ H F (f q fr S) D → ∃ t, PS X s t ∧ t D σ H
def SemB (X : Cx) (gi : GI) (k : Nat) (st : List Stmt) (f : XB) : Prop := ∀ er q, Lnk X gi k er q → ∀ W, Takes X W → ∀ fr S μ σ H F, Ab X.K fr S μ σ H F → ∀ D : Ends, WS X.K er W q.L S μ H F (f q fr S) D → semSs X st D σ H
/-- the rest's want, from a later state -/
theorem WS.later {r : R (Fl × Frame)} (w : WS K er W L S0 μ0 H0 F0 r D) (P : Stp L S0 μ0 H0 F0 S μ H F) : WS K er W L S μ H F r D := by
  cases r with
  | no => exact w
  | ex c x S1 => exact fun fr1 σ1 μ1 H1 F1 cls dx A1 P1 ee => w fr1 σ1 μ1 H1 F1 cls dx A1 (P.trans P1) ee
  | ok p S1 =>
    obtain ⟨fl, fr1⟩ := p
    cases fl with
    | nx => exact fun σ1 μ1 H1 F1 A1 P1 => w σ1 μ1 H1 F1 A1 (P.trans P1)
    | bk => exact fun σ1 μ1 H1 F1 A1 P1 => w σ1 μ1 H1 F1 A1 (P.trans P1)
    | ct => exact fun σ1 μ1 H1 F1 A1 P1 => w σ1 μ1 H1 F1 A1 (P.trans P1)
    | rt d => exact fun σ1 μ1 H1 F1 A1 P1 v as r o => w σ1 μ1 H1 F1 A1 (P.trans P1) v as r (o.start P.dom)
/-- an expression's result, then g, as a statement wants it -/
theorem WS.bnd {β : Type} {r : R β} {g : β → Store → R (Fl × Frame)} (w : WS K er W L S0 μ0 H0 F0 (r.bnd g) D) (P : Stp L S0 μ0 H0 F0 S μ H F) {j : β → Store → (Nat → Addr) → Hp → Hp → Prop} (fr : Frame) (σ : L2.St)
    (n : ∀ b S1 μ1 H1 F1, Ab K fr S1 μ1 σ H1 F1 → Stp L S μ H F S1 μ1 H1 F1 → WS K er W L S0 μ0 H0 F0 (g b S1) D → j b S1 μ1 H1 F1) : WR K er W L fr σ S μ H F r j := by
  cases r with
  | no => exact w
  | ok b S1 => exact fun μ1 H1 F1 A1 P1 => n b S1 μ1 H1 F1 A1 P1 w
  | ex c x S1 => exact fun μ1 H1 F1 cls dx A1 P1 ee => w fr σ μ1 H1 F1 cls dx A1 (P.trans P1) ee
theorem SemE.runP (h : SemE X gi k e f) {q : Q} (lk : Lnk X gi k er q) (tk : Takes X W) (A : Ab X.K fr S μ σ H F) (P : Stp q.L S0 μ0 H0 F0 S μ H F) {g : Mi.D → Store → R (Fl × Frame)} (w : WS X.K er W q.L S0 μ0 H0 F0 ((f q fr S).bnd g) D) {Q : VK}
    (n : ∀ d S1 μ1 H1 F1 v as, Ab X.K fr S1 μ1 σ H1 F1 → Stp q.L S μ H F S1 μ1 H1 F1 → RepN X.K S1.length μ1 F1 H1 v d as → Own as H F1 μ1 S1 → WS X.K er W q.L S0 μ0 H0 F0 (g d S1) D → Q v H1) : semE X e σ H Q :=
  h er q lk W tk fr S μ σ H F A Q (w.bnd P fr σ fun d S1 μ1 H1 F1 A1 P1 w1 v as r o => n d S1 μ1 H1 F1 v as A1 P1 r o w1)
theorem SemE.run (h : SemE X gi k e f) {q : Q} (lk : Lnk X gi k er q) (tk : Takes X W) (A : Ab X.K fr S μ σ H F) {g : Mi.D → Store → R (Fl × Frame)} (w : WS X.K er W q.L S μ H F ((f q fr S).bnd g) D) {Q : VK}
    (n : ∀ d S1 μ1 H1 F1 v as, Ab X.K fr S1 μ1 σ H1 F1 → Stp q.L S μ H F S1 μ1 H1 F1 → RepN X.K S1.length μ1 F1 H1 v d as → Own as H F1 μ1 S1 → WS X.K er W q.L S μ H F (g d S1) D → Q v H1) : semE X e σ H Q := h.runP lk tk A .refl w n
theorem SemT.run {a : Expr} {f : XT} (h : SemT X gi k a f) {q : Q} (lk : Lnk X gi k er q) (tk : Takes X W) (A : Ab X.K fr S μ σ H F) {g : Bool → Store → R (Fl × Frame)} (w : WS X.K er W q.L S μ H F ((f q fr S).bnd g) D) {Q : Bool → Hp → Prop}
    (n : ∀ d S1 μ1 H1 F1, Ab X.K fr S1 μ1 σ H1 F1 → Stp q.L S μ H F S1 μ1 H1 F1 → WS X.K er W q.L S μ H F (g d S1) D → Q d H1) : semT X a σ H Q :=
  h er q lk W tk fr S μ σ H F A Q (w.bnd .refl fr σ fun d S1 μ1 H1 F1 A1 P1 w1 => n d S1 μ1 H1 F1 A1 P1 w1)
/-! blocks -/
theorem semb_nil : SemB X gi k [] Z.skip := by
  intro er q lk W tk fr S μ σ H F A D w
  exact ⟨_, pss_nil, w σ μ H F A .refl⟩
theorem semb_cons (h1 : SemS X gi k s fb) (h2 : SemB X gi k rest gb) : SemB X gi k (s :: rest) (Z.seq fb gb) := by
  intro er q lk W tk fr S μ σ H F A D w
  have w1 : WS X.K er W q.L S μ H F ((fb q fr S).bnd fun p S1 => match p.1 with
    | .nx => gb q p.2 S1
    | f => .ok (f, p.2) S1) D := w
  obtain ⟨t, ht, hq⟩ := h1 er q lk W tk fr S μ σ H F A { D with nx := semSs X rest D } (by
    cases e : fb q fr S with
    | no => rw [e] at w1; exact w1
    | ex c x S1 => rw [e] at w1; exact w1
    | ok p S1 =>
      rw [e] at w1
      obtain ⟨fl, fr1⟩ := p
      cases fl with
      | nx => exact fun σ1 μ1 H1 F1 A1 P1 => h2 er q lk W tk fr1 S1 μ1 σ1 H1 F1 A1 D (WS.later w1 P1)
      | bk => exact w1
      | ct => exact w1
      | rt d => exact w1)
  exact ⟨_, pss_cons ht pss_sem, hq⟩
theorem sems_pass : SemS X gi k (.Pass pos) Z.skip := by
  intro er q lk W tk fr S μ σ H F A D w
  exact ⟨_, ps_pass, w σ μ H F A .refl⟩
theorem sems_doc {x : Str} {j : Nat} : SemS X gi k (.Expr (.Constant (.str x) j pp) pos) Z.skip := by
  intro er q lk W tk fr S μ σ H F A D w
  exact ⟨_, ps_doc, w σ μ H F A .refl⟩
theorem sems_break : SemS X gi k (.Break pos) Z.brk := by
  intro er q lk W tk fr S μ σ H F A D w
  exact ⟨_, ps_break, w σ μ H F A .refl⟩
theorem sems_cont : SemS X gi k (.Continue pos) Z.cnt := by
  intro er q lk W tk fr S μ σ H F A D w
  exact ⟨_, ps_continue, w σ μ H F A .refl⟩
theorem sems_never : SemS X gi k s Z.never := by
  intro er q lk W tk fr S μ σ H F A D w
  exact w.elim
theorem sems_retn : SemS X gi k (.Return none pos) Z.retn := by
  intro er q lk W tk fr S μ σ H F A D w
  exact ⟨_, ps_retN, w σ μ H F A .refl _ _ (.c (.t .non)) .nil⟩
theorem sems_ret (h1 : SemE X gi k e f) : SemS X gi k (.Return (some e) pos) (Z.ret f) := by
  intro er q lk W tk fr S μ σ H F A D w
  exact ⟨_, ps_ret pe_sem, h1.run lk tk A w fun d S1 μ1 H1 F1 v as A1 P1 r1 o1 w1 => w1 σ μ1 H1 F1 A1 P1 v as r1 o1⟩
theorem sems_expr (h1 : SemE X gi k e f) (hs : swapsWith e none pos.line X.env = pure false) : SemS X gi k (.Expr e pos) (Z.expr f) := by
  intro er q lk W tk fr S μ σ H F A D w
  exact ⟨_, ps_expr pe_sem hs, h1.run lk tk A w fun d S1 μ1 H1 F1 v as A1 P1 r1 o1 w1 => w1 σ μ1 H1 F1 A1 P1⟩
theorem sems_if (h1 : SemT X gi k c ft) (h2 : SemB X gi k s1 fb) (h3 : SemB X gi k s2 gb) : SemS X gi k (.If c s1 s2 pos) (Z.ifs ft fb gb) := by
  intro er q lk W tk fr S μ σ H F A D w
  refine ⟨_, ps_if pt_sem pss_sem pss_sem, h1.run lk tk A w fun t S1 μ1 H1 F1 A1 P1 w1 => ?_⟩
  cases t with
  | true =>
    rw [if_pos rfl] at w1 ⊢
    exact h2 er q lk W tk fr S1 μ1 σ H1 F1 A1 D (w1.later P1)
  | false =>
    rw [if_neg Bool.false_ne_true] at w1 ⊢
    exact h3 er q lk W tk fr S1 μ1 σ H1 F1 A1 D (w1.later P1)

/-! stores -/
theorem Ab.set (A : Ab K fr S μ σ H F) {i : Nat} {v : V} {d : Mi.D} (r : RepC K S.length μ F v d) : Ab K (fr.set i (some d)) S μ (σ.set i (some v)) H F := by
  refine ⟨A.hs, by rw [List.length_set, List.length_set, A.len], fun j d' e => ?_⟩
  by_cases h : i = j
  · subst h
    have hl := (List.getElem?_eq_some_iff.mp e).1
    rw [List.length_set] at hl
    rw [List.getElem?_set_self hl] at e
    cases e
    exact ⟨v, List.getElem?_set_self (by rw [A.len]; exact hl), r⟩
  · rw [List.getElem?_set_ne h] at e
    obtain ⟨w, e1, r1⟩ := A.sl j d' e
    exact ⟨w, by rw [List.getElem?_set_ne h]; exact e1, r1⟩
theorem std_ok {m : Bool} {d d' : Mi.D} {v : V} (A : Ab K fr S μ σ H F) (P : Stp L S0 μ0 H0 F0 S μ H F) (r : RepN K S.length μ F H v d as) (o : Own as H0 F μ S) (e : Z.stD m d S = some (d', S2)) :
    ∃ μ2 F2, Ab K fr S2 μ2 σ H F2 ∧ Stp L S0 μ0 H0 F0 S2 μ2 H F2 ∧ RepC K S2.length μ2 F2 v d' := by
  unfold Z.stD at e
  split at e
  · cases e
    cases r with
    | c r => exact ⟨μ, F, A, P, r⟩
    | _ => rename_i h; cases h
  · split at e
    · obtain ⟨μ2, t, r2⟩ := thaw_ok 6 e A.hs r o
      refine ⟨μ2, F, ⟨t.hs, A.len, fun i d e => ?_⟩, t.stp P fun a ha => (o.fr a ha).1, r2⟩
      obtain ⟨w, e1, r1⟩ := A.sl i d e
      exact ⟨w, e1, r1.mono t.le t.mu sameF⟩
    · cases q : fz 6 d with
      | none =>
        rw [q] at e
        cases e
      | some x =>
        rw [q] at e
        cases e
        obtain ⟨A2, P2⟩ := A.frzd P o
        exact ⟨μ, _, A2, P2, .t (fz_rep (frz_same fun a ha => (o.fr a ha).2.1) r (fun _ h => h) q)⟩
theorem sems_set {i : Nat} {x : Str} {m : Bool} (n : Nl X i x) (h1 : SemE X gi k e f) (hs : swapsWith e (some (.Name x pp)) pos.line X.env = pure false) : SemS X gi k (.Assign [.Name x pp] e pos) (Z.set i m f) := by
  intro er q lk W tk fr S μ σ H F A D w
  refine ⟨_, ps_set n.nd n.n n.l pe_sem hs n.f, h1.run lk tk A w fun d S1 μ1 H1 F1 v as A1 P1 r1 o1 w1 => ?_⟩
  split at w1
  · rename_i d' S2 e1
    obtain ⟨μ2, F2, A2, P2, r2⟩ := std_ok A1 P1 r1 o1 e1
    exact w1 _ μ2 H1 F2 (A2.set r2) P2
  · exact w1.elim
/-! targets -/
/-- only these slots change -/
def Kp (is : List Nat) (σ σ' : L2.St) : Prop := σ'.length = σ.length ∧ ∀ j : Nat, j ∉ is → σ'[j]? = σ[j]?
theorem kp_set {i : Nat} {v : Option V} : Kp [i] σ (σ.set i v) := ⟨List.length_set .., fun j hj => List.getElem?_set_ne fun z => hj (List.mem_singleton.mpr z.symm)⟩
theorem Kp.trans {is js : List Nat} {σ3 : L2.St} (a : Kp is σ σ1) (b : Kp js σ1 σ3) : Kp (is ++ js) σ σ3 := ⟨b.1.trans a.1, fun j hj => (b.2 j fun z => hj (List.mem_append_right _ z)).trans (a.2 j fun z => hj (List.mem_append_left _ z))⟩
/-- the target stores what g says -/
def SemG (X : Cx) (tg : Expr) (g : Z.Tg) : Prop := ∀ {fr fr' : Frame} {S : Store} {μ : Nat → Addr} {σ : L2.St} {H F : Hp} {v : V} {d : Mi.D}, Ab X.K fr S μ σ H F → RepC X.K S.length μ F v d → asg S g d fr = some fr' → ∀ Q : L2.St → Hp → Prop, (∀ σ', Ab X.K fr' S μ σ' H F → Kp g.ix σ σ' → Q σ' H) → semG X tg v σ H Q
theorem asg1_ok {i : Nat} {d : Mi.D} {v : V} {fr' : Frame} (A : Ab K fr S μ σ H F) (r : RepC K S.length μ F v d) (e : asg1 i d fr = some fr') : Ab K fr' S μ (σ.set i (some v)) H F := by
  unfold asg1 at e
  split at e
  · cases e
    exact A.set r
  · cases e
theorem semg_nm {i : Nat} {x : Str} (n : Nl X i x) : SemG X (.Name x pos) (.nm i) := by
  intro fr fr' S μ σ H F v d A r e Q q
  exact ⟨_, pg_name n.nd n.n n.l n.f, q _ (asg1_ok A r e) kp_set⟩
/-- names, one after the other -/
def SemGs (X : Cx) (ts : List Expr) (is : List Nat) : Prop := ∀ {fr fr' : Frame} {S : Store} {μ : Nat → Addr} {σ : L2.St} {H F : Hp} {vs : List V} {ds : List Mi.D}, Ab X.K fr S μ σ H F → RepCs X.K S.length μ F vs ds → asgs is ds fr = some fr' → ∀ Q : L2.St → Hp → Prop, (∀ σ', Ab X.K fr' S μ σ' H F → Kp is σ σ' → Q σ' H) → semGs X ts vs σ H Q
theorem semgs_nil : SemGs X [] [] := by
  intro fr fr' S μ σ H F vs ds A r e Q q
  cases r with
  | nil =>
    cases e
    exact ⟨_, pgs_nil, rfl, q _ A ⟨rfl, fun _ _ => rfl⟩⟩
  | cons _ _ => cases e
theorem semgs_cons {i : Nat} {is : List Nat} {x : Str} (n : Nl X i x) (h : SemGs X ts is) (hs : (assignEach (.Name x pos :: ts) X.env).map (·.2) = assign (.Name x pos) X.env :: (assignEach ts X.env).map (·.2)) : SemGs X (.Name x pos :: ts) (i :: is) := by
  intro fr fr' S μ σ H F vs ds A r e Q q
  cases r with
  | nil => cases e
  | cons r1 r2 =>
    unfold asgs at e
    split at e
    · rename_i fr1 e1
      exact ⟨_, pgs_cons (pg_name n.nd n.n n.l n.f) pgs_sem hs, _, _, rfl, h (asg1_ok A r1 e1) r2 e Q fun σ' A2 k2 => q σ' A2 (kp_set.trans k2)⟩
    · cases e
theorem asgs_len : ∀ {is : List Nat} {ds : List Mi.D} {fr fr' : Frame}, asgs is ds fr = some fr' → is.length = ds.length
  | [], [], _, _, _ => rfl
  | [], _ :: _, _, _, e => by cases e
  | _ :: _, [], _, _, e => by cases e
  | i :: is, d :: ds, fr, fr', e => by
    unfold asgs at e
    split at e
    · exact congrArg Nat.succ (asgs_len e)
    · cases e
theorem tupD_rep {d : Mi.D} {v : V} {ds : List Mi.D} (A : Hs K S μ H F) (r : RepC K S.length μ F v d) (e : tupD S d = some ds) : ∃ a vs, v = .ref a ∧ H a = some (.tup vs) ∧ RepCs K S.length μ F vs ds := by
  have toC : ∀ {vs : List V} {xs : List T}, RepL K (At F) vs xs → RepCs K S.length μ F vs (xs.map D.t) := by
    intro vs xs r
    induction xs generalizing vs with
    | nil => cases r; exact .nil
    | cons x xs ih =>
      cases r with
      | cons h t => exact .cons (.t h) (ih t)
  cases r with
  | t r =>
    rename_i y
    cases y with
    | tup ys =>
      cases e
      obtain ⟨a, vs, rfl, h1, h2⟩ := rep_tup r
      exact ⟨a, vs, rfl, now_tup (A.sub _ _ h1), toC h2⟩
    | _ => cases e
  | cell hn =>
    unfold tupD at e
    simp only at e
    split at e
    · rename_i ys q
      cases e
      obtain ⟨u, _, hu, ho, h1, h2⟩ := rd_cell A q
      cases u with
      | tupo zs =>
        cases hu
        cases ho <;> first | exact h2.elim | exact ⟨_, _, rfl, h1, h2⟩
      | lck o =>
        cases hu
        cases ho <;> first | exact h2.elim | exact ⟨_, _, rfl, h1, h2⟩
      | _ => cases hu
    · cases e
theorem semg_tu {is : List Nat} {j : Nat} (hc : X.calm = true) (h : SemGs X ts is) (hn : (assignEach ts X.env).length = is.length) (hst : (assignEach ts X.env).findIdx? (·.1) = none) : SemG X (.Tuple ts j pos) (.tu is) := by
  intro fr fr' S μ σ H F v d A r e Q q
  unfold asg at e
  simp only at e
  split at e
  · rename_i ds e1
    obtain ⟨a, vs, rfl, h1, h2⟩ := tupD_rep A.hs r e1
    have hl : (assignEach ts X.env).length = vs.length := by
      rw [hn, asgs_len e, h2.length]
    exact ⟨_, pg_tup hc pgs_sem hl hst, a, vs, rfl, SqT.of h1, rfl, h A h2 e Q q⟩
  · cases e
/-- a, b = e -/
theorem sems_sett {is : List Nat} {m : Bool} (hg : SemG X tg (.tu is)) (h1 : SemE X gi k e f) (hs : swapsWithSole [tg] e pos.line X.env = pure false) (hw : swappedStores [tg] e X.env = pure none)
    (ha : (assignEach [tg] X.env).map (·.2) = [assign tg X.env]) : SemS X gi k (.Assign [tg] e pos) (Z.sett is m f) := by
  intro er q lk W tk fr S μ σ H F A D w
  refine ⟨_, ps_asg pe_sem pg_sem hs hw ha, h1.run lk tk A w fun d S1 μ1 H1 F1 v as A1 P1 r1 o1 w1 => ?_⟩
  split at w1
  · rename_i d' S2 e1
    obtain ⟨μ2, F2, A2, P2, r2⟩ := std_ok A1 P1 r1 o1 e1
    split at w1
    · rename_i fr2 e2
      exact hg A2 r2 e2 _ fun σ' A3 _ => w1 σ' μ2 H1 F2 A3 P2
    · exact w1.elim
  · exact w1.elim
/-- x op= e -/
theorem ip_mulC (C : Int → Int → Prop) (hC : ∀ i j, C i j → IntMulOk i j) : PIp X .Mult (fun x y H Q => ∃ i j, x = .int i ∧ y = .int j ∧ C i j ∧ Q (.int (i * j)) H) := by
  intro pins s σ H x y v u Q I r1 r2 h
  obtain ⟨i, j, rfl, rfl, hc, q⟩ := h
  obtain ⟨t, rfl⟩ := r1
  obtain ⟨t', rfl⟩ := r2
  exact imul_int ⟨.int _, H, I.tok _, ⟨_, rfl⟩, q⟩ (hC i j hc)
def AugS (X : Cx) (op : Operator) (o : BO) : Prop := ∃ r : TIp, PIp X op r ∧ ∀ {m n z : Int} {H : Hp} {Q : VK}, Z.augI o m n = some z → Q (.int z) H → r (.int m) (.int n) H Q
theorem aug_add : AugS X .Add .add := ⟨_, ip_add, fun e q => by cases e; exact ⟨_, _, rfl, rfl, q⟩⟩
theorem aug_sub : AugS X .Sub .sub := ⟨_, ip_sub, fun e q => by cases e; exact ⟨_, _, rfl, rfl, q⟩⟩
theorem aug_mul : AugS X .Mult .mul := ⟨_, ip_mulC mulOk fun i j h => h.elim CMul.ok CMulW.ok, fun {m n z H Q} e q => by
  have e' : (if mulOk m n then some (m * n) else none) = some z := e
  split at e'
  · rename_i h
    cases e'
    exact ⟨_, _, rfl, rfl, h, q⟩
  · cases e'⟩
theorem sems_aug {i : Nat} {x : Str} {op : Operator} {oo : BO} (n : Nl X i x) (ho : AugS X op oo) (h1 : SemE X gi k e f) : SemS X gi k (.AugAssign (.Name x pp) op e pos) (Z.aug i oo f) := by
  intro er q lk W tk fr S μ σ H F A D w
  obtain ⟨r, hr, hn⟩ := ho
  unfold Z.aug at w
  split at w
  · rename_i m e0
    obtain ⟨v, e1, rv⟩ := A.sl i _ e0
    cases rv with
    | t rv =>
      have ev := rep_int rv
      subst ev
      refine ⟨_, ps_aug n.nd n.n n.l pe_sem hr n.f, _, e1, h1.run lk tk A w fun d S1 μ1 H1 F1 u as A1 P1 r1 o1 w1 => ?_⟩
      split at w1
      · rename_i nn
        rw [rep_int (repT r1).1]
        split at w1
        · rename_i z e2
          exact hn e2 (w1 _ μ1 H1 F1 (A1.set (.t (.int z))) P1)
        · exact w1.elim
      · exact w1.elim
  · exact w.elim

/-! the store changes -/
/-- a thing of the store changes -/
theorem Hs.wr (A : Hs K S μ H F) {n : Nat} {o o' : Ob} {ho : HO} (e : S[n]? = some o) (c : Con K S.length μ F o' ho) (ht : ∀ P q, o' = .tbl P q → μ n = P := by intro _ _ z; cases z) : Hs K (S.set n o') μ (upd H (μ n) ho) F := by
  have hn := (List.getElem?_eq_some_iff.mp e).1
  refine ⟨fun a u q => ?_, fun m u q => ?_, fun m hm => A.out m (by rw [List.length_set] at hm; exact hm), fun m j hm hj => A.inj m j (by rw [List.length_set] at hm; exact hm) (by rw [List.length_set] at hj; exact hj), fun m P q e2 => ?_⟩
  · have ha : a ≠ μ n := fun z => by
      rw [z, A.out n hn] at q
      cases q
    exact now_keep (fun w z => by rw [upd_ne ha]; exact z) (A.sub a u q)
  · rw [List.length_set]
    by_cases h : n = m
    · subst h
      rw [List.getElem?_set_self hn] at q
      cases q
      exact ⟨ho, upd_same, c⟩
    · rw [List.getElem?_set_ne h] at q
      have hm := (List.getElem?_eq_some_iff.mp q).1
      obtain ⟨hu, h1, h2⟩ := A.ce m u q
      exact ⟨hu, by rw [upd_ne fun z => h (A.inj n m hn hm z.symm)]; exact h1, h2⟩
  · by_cases h : n = m
    · subst h
      rw [List.getElem?_set_self hn] at e2
      exact ht P q (Option.some.inj e2)
    · rw [List.getElem?_set_ne h] at e2
      exact A.tb m P q e2
theorem Stp.wr (P : Stp L S0 μ0 H0 F0 S μ H F) (A : Hs K S μ H F) {n : Nat} {o o' : Ob} {ho : HO} (e : S[n]? = some o) (hl : n < L → ∀ B, o.lt B → o'.lt B) (nl : ∀ u, o ≠ .lck u) : Stp L S0 μ0 H0 F0 (S.set n o') μ (upd H (μ n) ho) F := by
  have hn := (List.getElem?_eq_some_iff.mp e).1
  refine ⟨P.f, by rw [List.length_set]; exact P.le, P.mu, fun b u q h => ?_, P.nF, fun m h1 h2 => P.nC m h1 (by rw [List.length_set] at h2; exact h2), fun a q => ?_, fun m hm u u' e1 e2 B hB => ?_, fun m u q => ?_⟩
  · have hb : b ≠ μ n := fun z => by
      by_cases hs : n < S0.length
      · exact h n hs ((P.mu n hs).symm.trans z.symm)
      · have := P.nC n (Nat.le_of_not_lt hs) hn
        rw [← z, q] at this
        cases this
    rw [upd_ne hb]
    exact P.keep b u q h
  · by_cases h : a = μ n
    · subst h
      rw [upd_same] at q
      cases q
    · rw [upd_ne h] at q
      exact P.dom a q
  · by_cases h : n = m
    · subst h
      rw [List.getElem?_set_self hn] at e2
      cases e2
      exact hl hm B (P.cl n hm u o e1 e B hB)
    · rw [List.getElem?_set_ne h] at e2
      exact P.cl m hm u u' e1 e2 B hB
  · obtain ⟨q1, q2⟩ := P.lk m u q
    have hm : m < S0.length := (List.getElem?_eq_some_iff.mp q).1
    have hmn : m ≠ n := fun z => by
      subst z
      rw [e] at q1
      exact nl u (Option.some.inj q1)
    refine ⟨by rw [List.getElem?_set_ne (Ne.symm hmn)]; exact q1, fun w z => ?_⟩
    have ne : μ0 m ≠ μ n := fun z2 => hmn (A.inj m n (Nat.lt_of_lt_of_le hm P.le) hn ((P.mu m hm).trans z2))
    rw [upd_ne ne]
    exact q2 w z
theorem Ab.wr (A : Ab K fr S μ σ H F) {n : Nat} {o o' : Ob} {ho : HO} (e : S[n]? = some o) (c : Con K S.length μ F o' ho) (ht : ∀ P q, o' = .tbl P q → μ n = P := by intro _ _ z; cases z) : Ab K fr (S.set n o') μ σ (upd H (μ n) ho) F :=
  ⟨A.hs.wr e c ht, A.len, fun i d q => by rw [List.length_set]; exact A.sl i d q⟩
theorem arg_rep {v : V} {d e : Mi.D} (A : Ab K fr S μ σ H F) (P : Stp L S0 μ0 H0 F0 S μ H F) (r : RepN K S.length μ F H v d as) (o : Own as H0 F μ S) (q : Z.arg d = some e) : ∃ F', Same F F' ∧ Ab K fr S μ σ H F' ∧ Stp L S0 μ0 H0 F0 S μ H F' ∧ RepC K S.length μ F' v e := by
  have r1 : RepNs K S.length μ F H [v] [d] (as ++ []) := .cons r .nil
  rw [List.append_nil] at r1
  obtain ⟨F', sf, A3, P3, rc⟩ := mapO_arg A P r1 o (es := [e]) (by unfold mapO; rw [q]; rfl)
  cases rc with
  | cons rc _ => exact ⟨F', sf, A3, P3, rc⟩
theorem hasK_any {G : Lk} {kk : Key} : ∀ {vs : List (Key × V)} {kvs : List (Key × T)}, RepK K G vs kvs → (vs.any fun kv => decide (kv.1 = kk)) = hasK kk kvs
  | _, _, .nil => rfl
  | _, _, .cons h t => by
    unfold hasK
    rw [List.any_cons, hasK_any t]
theorem mapK_rep {G : Lk} {kk : Key} {v : V} {x : T} (hv : Rep K G v x) : ∀ {vs : List (Key × V)} {kvs : List (Key × T)}, RepK K G vs kvs → RepK K G (vs.map fun kv => if kv.1 = kk then (kv.1, v) else kv) (kvs.map fun p => if p.1 = kk then (p.1, x) else p)
  | _, _, .nil => .nil
  | (j, _) :: _, _, .cons h t => by
    rw [List.map_cons, List.map_cons]
    by_cases e : j = kk
    · rw [if_pos e, if_pos e]
      exact .cons hv (mapK_rep hv t)
    · rw [if_neg e, if_neg e]
      exact .cons h (mapK_rep hv t)
theorem putK_rep {G : Lk} {kk : Key} {v : V} {x : T} (hv : Rep K G v x) {vs : List (Key × V)} {kvs : List (Key × T)} (r : RepK K G vs kvs) : RepK K G (L2.putK vs kk v) (Mi.putK kk x kvs) := by
  unfold L2.putK Mi.putK
  rw [hasK_any r]
  by_cases hc : hasK kk kvs = true
  · rw [if_pos hc, if_pos hc]
    exact mapK_rep hv r
  · rw [if_neg hc, if_neg hc]
    exact r.append (.cons hv .nil)
def rSetD : V → V → V → Hp → (Hp → Prop) → Prop := fun o i v H Q => ∃ a H', o = .ref a ∧ DPut H a i v H' ∧ Q H'
theorem set_dict (hu : X.A.units + 1 < cLine) : PSet X rSetD := by
  intro pins s σ H o i v ov iv u Q I r1 r2 r3 h
  obtain ⟨a, H', rfl, g, q⟩ := h
  obtain rfl : ov = Value.ref a := r1
  exact d_setItem hu I g r2 r3 fun s' I' => ⟨H', I', q⟩
theorem pset_or {r1 r2 : TSet} (h1 : PSet X r1) (h2 : PSet X r2) : PSet X (fun o i v H Q => r1 o i v H Q ∨ r2 o i v H Q) := by
  intro pins s σ H o i v ov iv u Q I q1 q2 q3 h
  rcases h with h | h
  · exact h1 pins s σ H o i v ov iv u Q I q1 q2 q3 h
  · exact h2 pins s σ H o i v ov iv u Q I q1 q2 q3 h
/-- the store of a value at a place -/
theorem sti_ok {x j d : Mi.D} {v u w : V} {bs cs : List Addr} (A : Ab K fr S μ σ H F) (P : Stp L S0 μ0 H0 F0 S μ H F) (r1 : RepN K S.length μ F H v x as) (r2 : RepN K S.length μ F H u j bs) (r3 : RepN K S.length μ F H w d cs) (o3 : Own cs H0 F μ S) (e : Z.stiD x j d S = some S2) :
    ∃ H2 F2 μ2, Ab K fr S2 μ2 σ H2 F2 ∧ Stp L S0 μ0 H0 F0 S2 μ2 H2 F2 ∧ ∀ Q : Hp → Prop, Q H2 → rSetL v u w H Q ∨ rSetD v u w H Q := by
  unfold Z.stiD at e
  split at e
  · rename_i n
    cases r1 with
    | c r1 =>
      cases r1 with
      | cell hn =>
        split at e
        · rename_i xs e1
          split at e
          · rename_i j' y e2
            obtain ⟨F', sf, A2, P2, rc⟩ := arg_rep A P r3 o3 e2
            split at e
            · rename_i kk e3
              cases e
              obtain ⟨ho, h1, h2⟩ := A2.hs.ce n _ e1
              cases ho <;> first | exact h2.elim | skip
              rename_i vs
              have h2' : RepL K (At F') vs xs := h2
              cases rc with
              | t rc =>
                refine ⟨_, F', μ, A2.wr e1 (ho := .lst (vs.set kk w)) (h2'.set rc kk), P2.wr A2.hs e1 (fun _ _ _ => trivial) (fun _ z => by cases z), fun Q q => .inl ⟨_, vs, j', kk, rfl, rep_int (repT r2).1, h1, ?_, q⟩⟩
                rw [h2'.length]
                exact e3
            · cases e
          · cases e
        · rename_i kvs e1
          split at e
          · rename_i f y e2
            obtain ⟨F', sf, A2, P2, rc⟩ := arg_rep A P r3 o3 e2
            split at e
            · rename_i kk e3
              split at e
              · rename_i hl
                cases e
                obtain ⟨ho, h1, h2⟩ := A2.hs.ce n _ e1
                cases ho <;> first | exact h2.elim | skip
                rename_i vs
                have h2' : RepK K (At F') vs kvs := h2
                cases rc with
                | t rc =>
                  refine ⟨_, F', μ, A2.wr e1 (ho := .dK (L2.putK vs kk w)) (putK_rep rc h2'), P2.wr A2.hs e1 (fun _ _ _ => trivial) (fun _ z => by cases z), fun Q q => .inr ⟨_, _, rfl, .inl ⟨vs, kk, h1, kOf_rep (repT r2).1 e3, ?_, rfl⟩, q⟩⟩
                  rw [h2'.length]
                  exact Nat.lt_of_lt_of_le hl (by decide)
              · cases e
            · cases e
          · cases e
        · cases e
  · cases e
theorem sems_sti (hu : X.A.units + 64 < cLine) (h0 : SemE X gi k o f) (h1 : SemE X gi k i g) (h2 : SemE X gi k e h) (hs : swapsWithSole [.Subscript o i pp] e pos.line X.env = pure false) (hw : swappedStores [.Subscript o i pp] e X.env = pure none)
    (ha : (assignEach [.Subscript o i pp] X.env).map (·.2) = [assign (.Subscript o i pp) X.env]) (hd : ∀ v, assign (.Subscript o i pp) X.env v = (do
      let ov ← holding [v] (eval o X.env)
      let iv ← holding [v, ov] (eval i X.env)
      standAt pp
      holding [v, ov, iv] (setItem ov iv v)
      release [v, ov, iv] [])) : SemS X gi k (.Assign [.Subscript o i pp] e pos) (Z.sti f g h) := by
  intro er q lk W tk fr S μ σ H F A D w
  refine ⟨_, ps_asg pe_sem (pg_sub pe_sem pe_sem (pset_or set_list (set_dict (by omega))) hd) hs hw ha, ?_⟩
  have w0 : WS X.K er W q.L S μ H F ((h q fr S).bnd fun d S1 => (f q fr S1).bnd fun x S2 => (g q fr S2).bnd fun j S3 => match Z.stiD x j d S3 with
    | some S4 => .ok (.nx, fr) S4
    | none => .no) D := w
  refine h2.run lk tk A w0 fun d S1 μ1 H1 F1 v as A1 P1 r1 o1 w1 => ?_
  refine h0.runP lk tk A1 P1 w1 fun x S2 μ2 H2 F2 u bs A2 P2 r2 o2 w2 => ?_
  obtain ⟨r1, o1⟩ := r1.keep o1 P2
  refine h1.runP lk tk A2 (P1.trans P2) w2 fun j S3 μ3 H3 F3 t cs A3 P3 r3 o3 w3 => ?_
  obtain ⟨r1, o1⟩ := r1.keep o1 P3
  obtain ⟨r2, _⟩ := r2.keep o2 P3
  split at w3
  · rename_i S4 e4
    have P : Stp q.L S μ H F S3 μ3 H3 F3 := P1.trans (P2.trans P3)
    obtain ⟨H4, F4, μ4, A4, P4, z⟩ := sti_ok A3 P r2 r3 r1 o1 e4
    exact z _ (w3 σ μ4 H4 F4 A4 P4)
  · exact w3.elim
/-- del o[i] -/
theorem del_inv {x j : Mi.D} (e : Z.delD x j S = some S2) : ∃ n jj xs kk, x = .cell n ∧ j = .t (.int jj) ∧ S[n]? = some (.lst xs) ∧ ixN xs.length jj = some kk ∧ xs.length ≤ okL ∧ S2 = S.set n (.lst (xs.eraseIdx kk)) := by
  unfold Z.delD at e
  split at e
  · split at e
    · split at e
      · split at e
        · cases e
          exact ⟨_, _, _, _, rfl, rfl, ‹_›, ‹_›, ‹_›, rfl⟩
        · cases e
      · cases e
    · cases e
  · cases e
theorem sems_del (h0 : SemE X gi k o f) (h1 : SemE X gi k i g) : SemS X gi k (.Delete [.Subscript o i pp] pos) (Z.del f g) := by
  intro er q lk W tk fr S μ σ H F A D w
  refine ⟨_, ps_delL pe_sem pe_sem, h0.run lk tk A w fun x S1 μ1 H1 F1 v as A1 P1 r1 o1 w1 => h1.runP lk tk A1 P1 w1 fun j S2 μ2 H2 F2 u bs A2 P2 r2 o2 w2 => ?_⟩
  obtain ⟨q1, _⟩ := r1.keep o1 P2
  split at w2
  · rename_i S3 e3
    obtain ⟨n, jj, xs, kk, rfl, rfl, e1, e4, hl, rfl⟩ := del_inv e3
    cases q1 with
    | c q2 =>
      cases q2 with
      | cell hn =>
        obtain ⟨ho, h1, h2⟩ := A2.hs.ce _ _ e1
        cases ho <;> first | exact h2.elim | skip
        rename_i vs
        have h2' : RepL X.K (At F2) vs xs := h2
        obtain ⟨g1, g2, g3, g4⟩ := ixN_seq e4
        have big : (okL : Int) < 2 ^ 63 := by decide
        refine ⟨_, vs, jj, kk, rfl, rep_int (repT r2).1, h1, by omega, by omega, ?_, w2 σ μ2 _ F2 (A2.wr e1 (ho := .lst (vs.eraseIdx kk)) (h2'.eraseIdx kk)) ((P1.trans P2).wr A2.hs e1 (fun _ _ _ => trivial) (fun _ z => by cases z))⟩
        rw [h2'.length]
        exact g1
  · exact w2.elim
end
end Mi

set_option Elab.async false
set_option linter.all false
set_option maxRecDepth 100000
set_option maxHeartbeats 4000000
/-! N12: loops -/
namespace Mi
open PySem PySem.Spec PyProof.Rows L2
section
variable {X : Cx} {gi : GI} {k : Nat} {N : List Str} {sc : Scope} {pos p1 p p2 pp : Pos} {e a b c i o tg it : Expr} {es ts : List Expr} {st rest s1 s2 : List Stmt} {s : Stmt} {f g h : XE} {fa ga : XA} {ft gt : XT} {fb gb hb : XB} {fi : XI}
variable {er : ER} {W : WX} {L : Nat} {fr fr1 fr2 : Frame} {σ σ1 σ2 : L2.St} {S S1 S2 S0 : Store} {μ μ1 μ2 μ0 : Nat → Addr} {H H1 H2 H0 F F1 F2 F0 : Hp} {as bs : List Addr} {K : PySem.W.Frag} {D : Ends}
/-! ### locks -/
theorem upd_self {a : Addr} {o : HO} (h : H a = some o) : upd H a o = H := funext fun b => by
  by_cases e : b = a
  · subst e
    rw [upd_same, h]
  · rw [upd_ne e]
theorem Hs.re (A : Hs K S μ H F) {n : Nat} {o o' : Ob} (e : S[n]? = some o) (c : ∀ ho, Con K S.length μ F o ho → Con K S.length μ F o' ho) (ht : ∀ P q, o' = .tbl P q → μ n = P := by intro _ _ z; cases z) : Hs K (S.set n o') μ H F := by
  obtain ⟨ho, h1, h2⟩ := A.ce n o e
  have := A.wr e (c ho h2) ht
  rw [upd_self h1] at this
  exact this
theorem Ab.re (A : Ab K fr S μ σ H F) {n : Nat} {o o' : Ob} (e : S[n]? = some o) (c : ∀ ho, Con K S.length μ F o ho → Con K S.length μ F o' ho) (ht : ∀ P q, o' = .tbl P q → μ n = P := by intro _ _ z; cases z) : Ab K fr (S.set n o') μ σ H F :=
  ⟨A.hs.re e c ht, A.len, fun i d q => by rw [List.length_set]; exact A.sl i d q⟩
/-- a list of the store may be locked -/
def LkOk (S : Store) : Option Nat → Prop
  | none => True
  | some n => ∃ o, S[n]? = some o ∧ ((∃ xs, o = .lst xs) ∨ ∃ ds, o = .lsto ds)
theorem lck_eq {n : Nat} {o : Ob} (e : S[n]? = some o) (h : (∃ xs, o = .lst xs) ∨ ∃ ds, o = .lsto ds) : lckS S (some n) = S.set n (.lck o) := by
  unfold lckS
  simp only
  rw [e]
  rcases h with ⟨xs, rfl⟩ | ⟨xs, rfl⟩ <;> rfl
theorem lck_len {l : Option Nat} : (lckS S l).length = S.length := by
  unfold lckS
  split
  · rfl
  · split <;> first | exact List.length_set .. | rfl
theorem unl_len {l : Option Nat} : (unlS S l).length = S.length := by
  unfold unlS
  split
  · rfl
  · split <;> first | exact List.length_set .. | rfl
theorem Ab.lck (A : Ab K fr S μ σ H F) {l : Option Nat} (h : LkOk S l) : Ab K fr (lckS S l) μ σ H F := by
  cases l with
  | none => exact A
  | some n =>
    obtain ⟨o, e, z⟩ := h
    rw [lck_eq e z]
    refine A.re e fun ho c => ?_
    rcases z with ⟨xs, rfl⟩ | ⟨xs, rfl⟩
    · cases ho <;> first | exact c.elim | exact c
    · cases ho <;> first | exact c.elim | exact c
theorem stp_lck {l : Option Nat} (h : LkOk S l) : Stp L S μ H F (lckS S l) μ H F := by
  cases l with
  | none => exact .refl
  | some n =>
    obtain ⟨o, e, z⟩ := h
    rw [lck_eq e z]
    refine ⟨fun _ _ h => h, by rw [List.length_set]; exact Nat.le_refl _, fun _ _ => rfl, fun _ _ h _ => h, fun a u e q => (by rw [e] at q; cases q), fun m h1 h2 => absurd h2 (by rw [List.length_set]; exact Nat.not_lt.mpr h1), fun _ h => h, fun m _ u u' e1 e2 B hB => ?_, fun m u e1 => ⟨?_, fun _ z => z⟩⟩
    · by_cases hm : n = m
      · subst hm
        rw [List.getElem?_set_self (List.getElem?_eq_some_iff.mp e).1] at e2
        cases e2
        rw [e] at e1
        cases e1
        rcases z with ⟨xs, rfl⟩ | ⟨xs, rfl⟩
        · trivial
        · exact hB
      · rw [List.getElem?_set_ne hm] at e2
        rw [e1] at e2
        cases e2
        exact hB
    · have hm : n ≠ m := fun q => by
        subst q
        rw [e] at e1
        cases e1
        rcases z with ⟨xs, z⟩ | ⟨xs, z⟩ <;> cases z
      rw [List.getElem?_set_ne hm]
      exact e1
/-- the lock is taken off again -/
theorem unl_ok {l : Option Nat} (h : LkOk S l) (P : Stp L (lckS S l) μ H F S2 μ2 H2 F2) (A : Ab K fr S2 μ2 σ H2 F2) : Ab K fr (unlS S2 l) μ2 σ H2 F2 ∧ Stp L S μ H F (unlS S2 l) μ2 H2 F2 := by
  cases l with
  | none => exact ⟨A, P⟩
  | some n =>
    obtain ⟨o, e, z⟩ := h
    rw [lck_eq e z] at P
    have hn := (List.getElem?_eq_some_iff.mp e).1
    have e2 : S2[n]? = some (.lck o) := (P.lk n o (List.getElem?_set_self hn)).1
    have eu : unlS S2 (some n) = S2.set n o := by
      unfold unlS
      simp only
      rw [e2]
    rw [eu]
    refine ⟨A.re e2 (fun ho c => ?_) (fun P' q' z2 => by subst z2; rcases z with ⟨_, z⟩ | ⟨_, z⟩ <;> cases z), P.f, ?_, fun m hm => P.mu m (by rw [List.length_set]; exact hm), fun b u q nb => P.keep b u q fun m hm => nb m (by rw [List.length_set] at hm; exact hm), P.nF, fun m h1 h2 => P.nC m (by rw [List.length_set]; exact h1) (by rw [List.length_set] at h2; exact h2), P.dom, fun m hm u u' e1 e3 B hB => ?_, fun m u e1 => ?_⟩
    · rcases z with ⟨xs, rfl⟩ | ⟨xs, rfl⟩
      · cases ho <;> first | exact c.elim | exact c
      · cases ho <;> first | exact c.elim | exact c
    · have := P.le
      rw [List.length_set] at this ⊢
      exact this
    · by_cases hnm : n = m
      · subst hnm
        rw [List.getElem?_set_self (List.getElem?_eq_some_iff.mp e2).1] at e3
        cases e3
        rw [e] at e1
        cases e1
        exact hB
      · rw [List.getElem?_set_ne hnm] at e3
        exact P.cl m hm u u' (by rw [List.getElem?_set_ne hnm]; exact e1) e3 B hB
    · have hm : n ≠ m := fun q => by
        subst q
        rw [e] at e1
        cases e1
        rcases z with ⟨xs, z⟩ | ⟨xs, z⟩ <;> cases z
      obtain ⟨q1, q2⟩ := P.lk m u (by rw [List.getElem?_set_ne hm]; exact e1)
      exact ⟨by rw [List.getElem?_set_ne hm]; exact q1, q2⟩
/-! ### what is walked -/
/-- what a walk asks of the steps since: the frozen things, the slots' places and the locks stay -/
structure StpW (S : Store) (μ : Nat → Addr) (H F : Hp) (S' : Store) (μ' : Nat → Addr) (H' F' : Hp) : Prop where
  f : Same F F'
  le : S.length ≤ S'.length
  mu : ∀ n, n < S.length → μ' n = μ n
  lk : ∀ (n : Nat) o, S[n]? = some (.lck o) → S'[n]? = some (.lck o) ∧ ∀ u, H (μ n) = some u → H' (μ n) = some u
  kf : ∀ b o, H b = some o → F b ≠ none → H' b = some o
theorem Stp.w (P : Stp L S μ H F S2 μ2 H2 F2) (A : Hs K S μ H F) : StpW S μ H F S2 μ2 H2 F2 := ⟨P.f, P.le, P.mu, P.lk, fun b o e nf => P.keep b o e fun n hn z => nf (by rw [← z]; exact A.out n hn)⟩
theorem StpW.refl : StpW S μ H F S μ H F := ⟨fun _ _ h => h, Nat.le_refl _, fun _ _ => rfl, fun _ _ e => ⟨e, fun _ h => h⟩, fun _ _ h _ => h⟩
theorem StpW.step {S3 : Store} {μ3 : Nat → Addr} {H3 F3 : Hp} (P : StpW S μ H F S2 μ2 H2 F2) (A2 : Hs K S2 μ2 H2 F2) (Q : Stp L S2 μ2 H2 F2 S3 μ3 H3 F3) : StpW S μ H F S3 μ3 H3 F3 where
  kf := fun b o e nf => Q.keep b o (P.kf b o e nf) fun n hn z => by
    cases q : F b with
    | none => exact nf q
    | some u =>
      have h1 := P.f _ _ q
      rw [← z, A2.out n hn] at h1
      cases h1
  f := fun a o h => Q.f _ _ (P.f _ _ h)
  le := Nat.le_trans P.le Q.le
  mu := fun n hn => (Q.mu n (Nat.lt_of_lt_of_le hn P.le)).trans (P.mu n hn)
  lk := fun n o e => by
    obtain ⟨q1, q2⟩ := P.lk n o e
    obtain ⟨q3, q4⟩ := Q.lk n o q1
    exact ⟨q3, fun u h => by
      have hn := (List.getElem?_eq_some_iff.mp e).1
      have := q4 u (by rw [P.mu n hn]; exact q2 u h)
      rw [P.mu n hn] at this
      exact this⟩
/-- at every later state the turns give these items -/
def ItOk (K : PySem.W.Frag) (S : Store) (μ : Nat → Addr) (H F : Hp) (J : It) (items : List Mi.D) : Prop := ∀ (fr' : Frame) (S' : Store) (μ' : Nat → Addr) (σ' : L2.St) (H' F' : Hp), Ab K fr' S' μ' σ' H' F' → StpW S μ H F S' μ' H' F' → ∀ i : Nat,
  (items.length ≤ i → J.stop i H') ∧ ∀ d, items[i]? = some d → J.go i H' ∧ ∀ x H2, J.yld i H' x H2 → ∃ F2, Ab K fr' S' μ' σ' H2 F2 ∧ (∀ L, Stp L S' μ' H' F' S' μ' H2 F2) ∧ RepC K S'.length μ' F2 x d
def KI (K : PySem.W.Frag) (R : It → Hp → Prop) : List Mi.D × Option Nat → Store → (Nat → Addr) → Hp → Hp → Prop := fun p S' μ' H' F' => LkOk S' p.2 → ∀ J, ItOk K (lckS S' p.2) μ' H' F' J p.1 → R J H'
def SemI (X : Cx) (gi : GI) (k : Nat) (tg it : Expr) (f : XI) : Prop := ∀ er q, Lnk X gi k er q → ∀ W, Takes X W → ∀ fr S μ σ H F, Ab X.K fr S μ σ H F → ∀ R, WR X.K er W q.L fr σ S μ H F (f q fr S) (KI X.K R) → semI X tg it σ H R
theorem toC {vs : List V} {xs : List T} {M : Nat} (r : RepL K (At F) vs xs) : RepCs K M μ F vs (xs.map Mi.D.t) := by
  induction xs generalizing vs with
  | nil => cases r; exact .nil
  | cons x xs ih =>
    cases r with
    | cons h t => exact .cons (.t h) (ih t)
/-- a list that stands still -/
theorem itok_list {a : Addr} {vs : List V} {ds : List Mi.D} (h : ∀ S' μ' H' F', Hs K S' μ' H' F' → StpW S μ H F S' μ' H' F' → H' a = some (.lst vs) ∧ RepCs K S'.length μ' F' vs ds) : ItOk K S μ H F (Itl K a) ds := by
  intro fr' S' μ' σ' H' F' A P i
  obtain ⟨h1, h2⟩ := h S' μ' H' F' A.hs P
  refine ⟨fun hi => ⟨vs, SqL.of h1, by rw [h2.length]; exact hi⟩, fun d hd => ?_⟩
  obtain ⟨v, e, r⟩ := h2.get' hd
  refine ⟨⟨vs, v, SqL.of h1, e⟩, fun x H2 hy => ?_⟩
  obtain ⟨rfl, hy⟩ := hy
  have e2 := hy vs (SqL.of h1)
  rw [e] at e2
  cases e2
  exact ⟨F', A, fun _ => .refl, r⟩
theorem itok_rev {a : Addr} {vs : List V} {ds : List Mi.D} (h : ∀ S' μ' H' F', Hs K S' μ' H' F' → StpW S μ H F S' μ' H' F' → H' a = some (.lst vs) ∧ RepCs K S'.length μ' F' vs ds) (hl : vs.length = ds.length) : ItOk K S μ H F (Itv K a vs.length) ds.reverse := by
  intro fr' S' μ' σ' H' F' A P i
  obtain ⟨h1, h2⟩ := h S' μ' H' F' A.hs P
  refine ⟨fun hi => by rw [List.length_reverse] at hi; rw [hl]; exact hi, fun d hd => ?_⟩
  have hi := (List.getElem?_eq_some_iff.mp hd).1
  rw [List.length_reverse] at hi
  rw [List.getElem?_reverse hi] at hd
  rw [← hl] at hd
  obtain ⟨v, e, r⟩ := h2.get' hd
  refine ⟨⟨by rw [hl]; exact hi, vs, v, SqL.of h1, e⟩, fun x H2 hy => ?_⟩
  obtain ⟨rfl, hy⟩ := hy
  have e2 := hy vs (SqL.of h1)
  rw [e] at e2
  cases e2
  exact ⟨F', A, fun _ => .refl, r⟩
/-- a frozen object that is new -/
theorem Ab.side (A : Ab K fr S μ σ H F) {p : Addr} {o : HO} (hp : H p = none) : Ab K fr S μ σ (upd H p o) (upd F p o) ∧ ∀ L, Stp L S μ H F S μ (upd H p o) (upd F p o) := by
  have hF := free_F A.hs.sub hp
  have nC := free_C A.hs hp
  have sf : Same F (upd F p o) := fun b u e => by
    rw [upd_ne (ne_of_none e hF)]
    exact e
  have hs : Hs K S μ (upd H p o) (upd F p o) := (A.hs.laid hp).more sf (fun b u e => by
    by_cases hb : b = p
    · subst hb
      rw [upd_same] at e
      cases e
      exact .inl upd_same
    · rw [upd_ne hb] at e
      exact now_keep (fun w z => by rw [upd_ne hb]; exact z) (A.hs.sub b u e)) fun m hm => by
        rw [upd_ne (nC m hm)]
        exact A.hs.out m hm
  have P : ∀ L, Stp L S μ H F S μ (upd H p o) (upd F p o) := fun L =>
    { stp_laid (L := L) (S := S) (μ := μ) (F := F) (o := o) hp with
      f := sf
      nF := fun a u e q => by
        by_cases hb : a = p
        · subst hb
          exact hp
        · rw [upd_ne hb, q] at e
          cases e }
  exact ⟨A.hsof (P 0) hs, P⟩
theorem enumT_get {xs : List T} {i : Nat} : (enumT xs)[i]? = (xs[i]?).map fun x => T.tup [.int (i : Nat), x] := by
  unfold enumT
  rw [List.getElem?_zipWith]
  by_cases h : i < xs.length
  · rw [List.getElem?_range h, List.getElem?_eq_getElem h]
    rfl
  · rw [List.getElem?_eq_none (by rw [List.length_range]; omega), List.getElem?_eq_none (by omega)]
    rfl
theorem enumT_len {xs : List T} : (enumT xs).length = xs.length := by
  unfold enumT
  rw [List.length_zipWith, List.length_range, Nat.min_self]
theorem itok_enum {a : Addr} {vs : List V} {xs : List T} (h : ∀ S' μ' H' F', Hs K S' μ' H' F' → StpW S μ H F S' μ' H' F' → H' a = some (.lst vs) ∧ RepL K (At F') vs xs) : ItOk K S μ H F (Ite K a) ((enumT xs).map Mi.D.t) := by
  intro fr' S' μ' σ' H' F' A P i
  obtain ⟨h1, h2⟩ := h S' μ' H' F' A.hs P
  refine ⟨fun hi => ⟨vs, SqL.of h1, by rw [List.length_map, enumT_len] at hi; rw [h2.length]; exact hi⟩, fun d hd => ?_⟩
  rw [List.getElem?_map, enumT_get] at hd
  cases q : xs[i]? with
  | none =>
    rw [q] at hd
    cases hd
  | some y =>
    rw [q] at hd
    cases hd
    obtain ⟨v, e, r⟩ := h2.get' q
    refine ⟨⟨vs, v, SqL.of h1, e⟩, fun x H2 hy => ?_⟩
    obtain ⟨T, x1, rfl, hT, rfl, hx⟩ := hy
    have e3 := hx vs (SqL.of h1)
    rw [e] at e3
    cases e3
    obtain ⟨A2, P2⟩ := A.side (o := .tup [V.int (i : Nat), v]) hT
    exact ⟨_, A2, P2, .t (.tup upd_same (.cons (.int _) (.cons (r.mono (at_mono (P2 0).f)) .nil)))⟩
/-- a list that may be walked: where it stands, what locks it -/
theorem still_t (A : Hs K S μ H F) {a : Addr} {vs : List V} {xs : List T} (h1 : F a = some (.lst vs)) (h2 : RepL K (At F) vs xs) : ∀ S' μ' H' F', Hs K S' μ' H' F' → StpW S μ H F S' μ' H' F' → H' a = some (.lst vs) ∧ RepL K (At F') vs xs := fun S' μ' H' F' A' P => ⟨now_lst (A'.sub _ _ (P.f _ _ h1)), h2.mono (at_mono P.f)⟩
theorem still_c (A : Hs K S μ H F) {n : Nat} {xs : List T} (e : S[n]? = some (.lck (.lst xs))) : ∃ vs, vs.length = xs.length ∧ ∀ S' μ' H' F', Hs K S' μ' H' F' → StpW S μ H F S' μ' H' F' → H' (μ n) = some (.lst vs) ∧ RepL K (At F') vs xs := by
  obtain ⟨ho, h1, h2⟩ := A.ce n _ e
  cases ho <;> first | exact h2.elim | skip
  rename_i vs
  have h2' : RepL K (At F) vs xs := h2
  exact ⟨vs, h2'.length, fun S' μ' H' F' A' P => ⟨(P.lk n _ e).2 _ h1, h2'.mono (at_mono P.f)⟩⟩
theorem still_o (A : Hs K S μ H F) {n : Nat} {ds : List Mi.D} (e : S[n]? = some (.lck (.lsto ds))) : ∃ vs, vs.length = ds.length ∧ ∀ S' μ' H' F', Hs K S' μ' H' F' → StpW S μ H F S' μ' H' F' → H' (μ n) = some (.lst vs) ∧ RepCs K S'.length μ' F' vs ds := by
  obtain ⟨ho, h1, h2⟩ := A.ce n _ e
  cases ho <;> first | exact h2.elim | skip
  rename_i vs
  have h2' : RepCs K S.length μ F vs ds := h2
  exact ⟨vs, h2'.length, fun S' μ' H' F' A' P => ⟨(P.lk n _ e).2 _ h1, h2'.mono P.le P.mu P.f⟩⟩
theorem lck_get {n : Nat} {o : Ob} (e : S[n]? = some o) (h : (∃ xs, o = .lst xs) ∨ ∃ ds, o = .lsto ds) : (lckS S (some n))[n]? = some (.lck o) := by
  rw [lck_eq e h]
  exact List.getElem?_set_self (List.getElem?_eq_some_iff.mp e).1
/-- what is frozen, or new and then frozen -/
theorem fz_still (A : Ab K fr S μ σ H F) (P : Stp L S0 μ0 H0 F0 S μ H F) {v : V} {x : Mi.D} {xs : List T} (r : RepN K S.length μ F H v x as) (o : Own as H0 F μ S) (hc : ∀ n, x ≠ .cell n) (e : sq S x = some xs) :
    ∃ F' a vs, Ab K fr S μ σ H F' ∧ Stp L S0 μ0 H0 F0 S μ H F' ∧ v = .ref a ∧ F' a = some (.lst vs) ∧ RepL K (At F') vs xs := by
  cases r with
  | c r =>
    cases r with
    | t r =>
      rename_i y
      cases y with
      | lst ys =>
        cases e
        obtain ⟨a, vs, rfl, h1, h2⟩ := rep_lst r
        exact ⟨F, a, vs, A, P, rfl, h1, h2⟩
      | _ => cases e
    | cell hn => exact absurd rfl (hc _)
  | new h1 h2 =>
    cases e
    obtain ⟨A2, P2⟩ := A.frzd P o
    exact ⟨_, _, _, A2, P2, rfl, (frz_in (List.mem_singleton.mpr rfl)).trans h1, h2.mono (at_mono (frz_same fun a ha => (o.fr a ha).2.1))⟩
  | newd _ _ => cases e
  | newo _ _ => cases e
  | tupo _ _ => cases e
  | newk _ _ => cases e
theorem cell_ref {v : V} {n : Nat} (r : RepN K S.length μ F H v (.cell n) as) : v = .ref (μ n) := by
  cases r with
  | c r =>
    cases r with
    | cell _ => rfl
theorem KI.use {p : List Mi.D × Option Nat} {R : It → Hp → Prop} {q : Q} (w : WR K er W L fr σ S0 μ0 H0 F0 (.ok p S) (KI K R)) (A : Ab K fr S μ σ H F) (P : Stp L S0 μ0 H0 F0 S μ H F) (h : LkOk S p.2) {J : It} (ok : ItOk K (lckS S p.2) μ H F J p.1) : R J H := w μ H F A P h J ok
theorem semi_e (h1 : SemE X gi k it f) : SemI X gi k tg it (Z.itE f) := by
  intro er q lk W tk fr S μ σ H F A R w
  refine ⟨_, pi_list pe_sem, h1.go lk tk A .refl w fun x S1 μ1 H1 F1 v as A1 P1 r1 o1 w1 => ?_⟩

  split at w1
  · rename_i n
    have hv := cell_ref r1
    subst hv
    split at w1
    · rename_i xs e1
      obtain ⟨vs, hl, st⟩ := still_c (A1.lck (l := some n) ⟨_, e1, .inl ⟨_, rfl⟩⟩).hs (lck_get e1 (.inl ⟨_, rfl⟩))
      refine ⟨_, rfl, ⟨vs, SqL.of (st _ _ _ _ (A1.lck (l := some n) ⟨_, e1, .inl ⟨_, rfl⟩⟩).hs .refl).1⟩, w1 μ1 H1 F1 A1 P1 ⟨_, e1, .inl ⟨_, rfl⟩⟩ _ (itok_list fun S' μ' H' F' A' P => ⟨(st S' μ' H' F' A' P).1, toC (st S' μ' H' F' A' P).2⟩)⟩
    · rename_i ds e1
      obtain ⟨vs, hl, st⟩ := still_o (A1.lck (l := some n) ⟨_, e1, .inr ⟨_, rfl⟩⟩).hs (lck_get e1 (.inr ⟨_, rfl⟩))
      exact ⟨_, rfl, ⟨vs, SqL.of (st _ _ _ _ (A1.lck (l := some n) ⟨_, e1, .inr ⟨_, rfl⟩⟩).hs .refl).1⟩, w1 μ1 H1 F1 A1 P1 ⟨_, e1, .inr ⟨_, rfl⟩⟩ _ (itok_list st)⟩
    · rename_i xs e1
      obtain ⟨vs, hl, st⟩ := still_c A1.hs e1
      exact ⟨_, rfl, ⟨vs, SqL.of (st _ _ _ _ A1.hs .refl).1⟩, w1 μ1 H1 F1 A1 P1 trivial _ (itok_list fun S' μ' H' F' A' P => ⟨(st S' μ' H' F' A' P).1, toC (st S' μ' H' F' A' P).2⟩)⟩
    · rename_i ds e1
      obtain ⟨vs, hl, st⟩ := still_o A1.hs e1
      exact ⟨_, rfl, ⟨vs, SqL.of (st _ _ _ _ A1.hs .refl).1⟩, w1 μ1 H1 F1 A1 P1 trivial _ (itok_list st)⟩
    · exact w1.elim
  · rename_i ds
    split at w1
    · rename_i n S2 e0
      split at w1
      · rename_i es e1
        obtain ⟨μ2, t, r2⟩ := thaw_ok 6 e0 A1.hs r1 o1
        have A2 : Ab X.K fr S2 μ2 σ H1 F1 := ⟨t.hs, A1.len, fun i d e => by
          obtain ⟨w, e1, r1⟩ := A1.sl i d e
          exact ⟨w, e1, r1.mono t.le t.mu sameF⟩⟩
        have P2 := t.stp P1 fun a ha => (o1.fr a ha).1
        have hv := cell_ref (as := []) (H := H1) (.c r2)
        subst hv
        obtain ⟨vs, hl, st⟩ := still_o (A2.lck (l := some n) ⟨_, e1, .inr ⟨_, rfl⟩⟩).hs (lck_get e1 (.inr ⟨_, rfl⟩))
        exact ⟨_, rfl, ⟨vs, SqL.of (st _ _ _ _ (A2.lck (l := some n) ⟨_, e1, .inr ⟨_, rfl⟩⟩).hs .refl).1⟩, w1 μ2 H1 F1 A2 P2 ⟨_, e1, .inr ⟨_, rfl⟩⟩ _ (itok_list st)⟩
      · exact w1.elim
    · exact w1.elim
  · rename_i hc _
    split at w1
    · rename_i xs e1
      obtain ⟨F', a, vs, A2, P2, rfl, h1, h2⟩ := fz_still A1 P1 r1 o1 hc e1
      have st := still_t A2.hs h1 h2
      exact ⟨_, rfl, ⟨vs, SqL.of (st _ _ _ _ A2.hs .refl).1⟩, w1 μ1 H1 F' A2 P2 trivial _ (itok_list fun S' μ' H' F' A' P => ⟨(st S' μ' H' F' A' P).1, toC (st S' μ' H' F' A' P).2⟩)⟩
    · exact w1.elim
theorem range_get {m i : Nat} {f : Nat → Mi.D} : ((List.range m).map f)[i]? = if i < m then some (f i) else none := by
  rw [List.getElem?_map]
  by_cases h : i < m
  · rw [List.getElem?_range h, if_pos h]
    rfl
  · rw [List.getElem?_eq_none (by rw [List.length_range]; omega), if_neg h]
    rfl
theorem itok_range {lo : Int} {m : Nat} : ItOk K S μ H F (Itr lo m) ((List.range m).map fun k : Nat => .int (lo + (k : Int))) := by
  intro fr' S' μ' σ' H' F' A P i
  refine ⟨fun hi => by rw [List.length_map, List.length_range] at hi; exact hi, fun d hd => ?_⟩
  rw [range_get] at hd
  split at hd
  · rename_i h
    cases hd
    refine ⟨h, fun x H2 hy => ?_⟩
    obtain ⟨rfl, rfl⟩ := hy
    exact ⟨F', A, fun _ => .refl, .t (.int _)⟩
  · cases hd
theorem semi_r1 (g : Gl X "range") (m : X.mg "range" = none) (h1 : SemE X gi k a f) (hs : starEach [a] X.env = [(false, eval a X.env)]) : SemI X gi k tg (.Call (.Name "range" p) [a] [] pos) (Z.itR f) := by
  intro er q lk W tk fr S μ σ H F A R w
  refine ⟨_, pi_range1 g m (pa_cons pe_sem pa_nil hs) hs, h1.go lk tk A .refl w fun x S1 μ1 H1 F1 v as A1 P1 r1 o1 w1 => ?_⟩
  split at w1
  · rename_i n
    split at w1
    · rename_i hn
      refine ⟨n, by rw [rep_int (repT r1).1], hn.1, hn.2, w1 μ1 H1 F1 A1 P1 trivial _ ?_⟩
      have := itok_range (K := X.K) (S := S1) (μ := μ1) (H := H1) (F := F1) (lo := 0) (m := n.toNat)
      simp only [Int.zero_add] at this
      exact this
    · exact w1.elim
  · exact w1.elim
theorem semi_r2 (gl : Gl X "range") (m : X.mg "range" = none) (h1 : SemE X gi k a f) (h2 : SemE X gi k b g) (hs : starEach [a, b] X.env = [(false, eval a X.env), (false, eval b X.env)]) (hs2 : starEach [b] X.env = [(false, eval b X.env)]) : SemI X gi k tg (.Call (.Name "range" p) [a, b] [] pos) (Z.itR2 f g) := by
  intro er q lk W tk fr S μ σ H F A R w
  refine ⟨_, pi_range2 gl m (pa_cons pe_sem (pa_cons pe_sem pa_nil hs2) (by rw [hs, hs2])) hs hs2, h1.go lk tk A .refl w fun x S1 μ1 H1 F1 v as A1 P1 r1 o1 w1 => h2.go lk tk A1 P1 w1 fun y S2 μ2 H2 F2 u bs A2 P2 r2 o2 w2 => ?_⟩
  split at w2
  · rename_i i j
    split at w2
    · rename_i hn
      exact ⟨i, j, by rw [rep_int (repT r1).1, rep_int (repT r2).1], hn, w2 μ2 H2 F2 A2 (P1.trans P2) trivial _ itok_range⟩
    · exact w2.elim
  · exact w2.elim
theorem semi_en {elts : List Expr} {kk : Nat} {tp : Pos} (gl : Gl X "enumerate") (m : X.mg "enumerate" = none) (h1 : SemE X gi k a f) (hs : starEach [a] X.env = [(false, eval a X.env)]) : SemI X gi k (.Tuple elts kk tp) (.Call (.Name "enumerate" p) [a] [] pos) (Z.itEn f) := by
  intro er q lk W tk fr S μ σ H F A R w
  refine ⟨_, pi_enum gl m (pa_cons pe_sem pa_nil hs) hs, h1.go lk tk A .refl w fun x S1 μ1 H1 F1 v as A1 P1 r1 o1 w1 => ?_⟩
  split at w1
  · rename_i n
    have hv := cell_ref r1
    subst hv
    split at w1
    · rename_i xs e1
      obtain ⟨vs, hl, st⟩ := still_c (A1.lck (l := some n) ⟨_, e1, .inl ⟨_, rfl⟩⟩).hs (lck_get e1 (.inl ⟨_, rfl⟩))
      exact ⟨_, vs, rfl, SqL.of (st _ _ _ _ (A1.lck (l := some n) ⟨_, e1, .inl ⟨_, rfl⟩⟩).hs .refl).1, w1 μ1 H1 F1 A1 P1 ⟨_, e1, .inl ⟨_, rfl⟩⟩ _ (itok_enum st)⟩
    · rename_i xs e1
      obtain ⟨vs, hl, st⟩ := still_c A1.hs e1
      exact ⟨_, vs, rfl, SqL.of (st _ _ _ _ A1.hs .refl).1, w1 μ1 H1 F1 A1 P1 trivial _ (itok_enum st)⟩
    · exact w1.elim
  · rename_i hc
    split at w1
    · rename_i xs e1
      obtain ⟨F', a, vs, A2, P2, rfl, h1, h2⟩ := fz_still A1 P1 r1 o1 hc e1
      have st := still_t A2.hs h1 h2
      exact ⟨_, vs, rfl, SqL.of (st _ _ _ _ A2.hs .refl).1, w1 μ1 H1 F' A2 P2 trivial _ (itok_enum st)⟩
    · exact w1.elim
theorem semi_rv (gl : Gl X "reversed") (m : X.mg "reversed" = none) (h1 : SemE X gi k a f) (hs : starEach [a] X.env = [(false, eval a X.env)]) : SemI X gi k tg (.Call (.Name "reversed" p) [a] [] pos) (Z.itRv f) := by
  intro er q lk W tk fr S μ σ H F A R w
  refine ⟨_, pi_reversed gl m (pa_cons pe_sem pa_nil hs) hs, h1.go lk tk A .refl w fun x S1 μ1 H1 F1 v as A1 P1 r1 o1 w1 => ?_⟩
  have fin : ∀ {S0 : Store} {μ0 : Nat → Addr} {H0 F0 : Hp} {a : Addr} {vs : List V} {xs : List T}, vs.length = xs.length → (∀ S' μ' H' F', Hs X.K S' μ' H' F' → StpW S0 μ0 H0 F0 S' μ' H' F' → H' a = some (.lst vs) ∧ RepL X.K (At F') vs xs) → ItOk X.K S0 μ0 H0 F0 (Itv X.K a vs.length) (xs.reverse.map Mi.D.t) := fun {S0 μ0 H0 F0 a vs xs} hl st => by
    rw [List.map_reverse]
    exact itok_rev (fun S' μ' H' F' A' P => ⟨(st S' μ' H' F' A' P).1, toC (st S' μ' H' F' A' P).2⟩) (by rw [List.length_map]; exact hl)
  split at w1
  · rename_i n
    have hv := cell_ref r1
    subst hv
    split at w1
    · rename_i xs e1
      obtain ⟨vs, hl, st⟩ := still_c (A1.lck (l := some n) ⟨_, e1, .inl ⟨_, rfl⟩⟩).hs (lck_get e1 (.inl ⟨_, rfl⟩))
      exact ⟨_, vs, rfl, SqL.of (st _ _ _ _ (A1.lck (l := some n) ⟨_, e1, .inl ⟨_, rfl⟩⟩).hs .refl).1, w1 μ1 H1 F1 A1 P1 ⟨_, e1, .inl ⟨_, rfl⟩⟩ _ (fin hl st)⟩
    · rename_i xs e1
      obtain ⟨vs, hl, st⟩ := still_c A1.hs e1
      exact ⟨_, vs, rfl, SqL.of (st _ _ _ _ A1.hs .refl).1, w1 μ1 H1 F1 A1 P1 trivial _ (fin hl st)⟩
    · exact w1.elim
  · rename_i hc
    split at w1
    · rename_i xs e1
      obtain ⟨F', a, vs, A2, P2, rfl, h1, h2⟩ := fz_still A1 P1 r1 o1 hc e1
      have st := still_t A2.hs h1 h2
      exact ⟨_, vs, rfl, SqL.of (st _ _ _ _ A2.hs .refl).1, w1 μ1 H1 F' A2 P2 trivial _ (fin h2.length st)⟩
    · exact w1.elim
/-! ### for -/
theorem Lnk.qL {q : Q} {c : Bool} (lk : Lnk X gi k er q) : Lnk X gi k er (Z.qL c q S) := by
  unfold Z.qL
  split
  · exact ⟨lk.df, lk.xo, lk.ta, ⟨lk.co.z, lk.co.cl, lk.co.me, lk.co.ge⟩⟩
  · exact lk
theorem Stp.qL {q : Q} {c : Bool} (P : Stp (Z.qL c q S).L S μ H F S1 μ1 H1 F1) : Stp q.L S μ H F S1 μ1 H1 F1 := by
  cases c with
  | true => exact Stp.any P
  | false => exact P
/-- what a turn made is forgotten -/
theorem cut_ok (A0 : Hs K S1 μ1 H1 F1) (A : Ab K fr S2 μ2 σ H2 F2) (P : Stp S1.length S1 μ1 H1 F1 S2 μ2 H2 F2) : Ab K (Z.hideF S1.length fr) (S2.take S1.length) μ2 σ H2 F2 ∧ Stp S1.length S1 μ1 H1 F1 (S2.take S1.length) μ2 H2 F2 := by
  refine ⟨⟨Hs.takeS A0 A.hs P, by unfold Z.hideF; rw [List.length_map]; exact A.len, fun i d e => ?_⟩, P.take⟩
  unfold Z.hideF at e
  rw [List.getElem?_map] at e
  cases q : fr[i]? with
  | none =>
    rw [q] at e
    cases e
  | some u =>
    rw [q] at e
    have hl : (S2.take S1.length).length = S1.length := by rw [List.length_take, Nat.min_eq_left P.le]
    rw [hl]
    cases u with
    | none => cases e
    | some d0 =>
      have e := Option.some.inj e
      obtain ⟨v, e1, r⟩ := A.sl i d0 q
      cases r with
      | t r =>
        cases e
        exact ⟨v, e1, .t r⟩
      | cell hn =>
        dsimp only at e
        split at e
        · rename_i h
          cases e
          exact ⟨_, e1, .cell h⟩
        · cases e
theorem WS.turn {c : Bool} {q : Q} {cont : Frame → Store → R (Fl × Frame)} {r : R (Fl × Frame)} {Nx : L2.St → Hp → Prop} (A1 : Hs K S1 μ1 H1 F1) (P : Stp (Z.qL c q S1).L S1 μ1 H1 F1 S μ H F)
    (w : WS K er W (Z.qL c q S1).L S1 μ1 H1 F1 ((Z.cutR c S1.length r).bnd fun p S2 => match p.1 with
      | .nx => cont p.2 S2
      | .ct => cont p.2 S2
      | .bk => .ok (.nx, p.2) S2
      | .rt e => .ok (.rt e, p.2) S2) D)
    (n : ∀ fr2 S2 μ2 σ2 H2 F2, Ab K fr2 S2 μ2 σ2 H2 F2 → Stp (Z.qL c q S1).L S1 μ1 H1 F1 S2 μ2 H2 F2 → WS K er W (Z.qL c q S1).L S1 μ1 H1 F1 (cont fr2 S2) D → Nx σ2 H2) :
    WS K er W (Z.qL c q S1).L S μ H F r { nx := Nx, rt := D.rt, bk := D.nx, ct := Nx } := by
  cases r with
  | no => exact w.elim
  | ex cc x S2 => exact fun fr2 σ2 μ2 H2 F2 cls dx A2 P2 ee => w fr2 σ2 μ2 H2 F2 cls dx A2 (P.trans P2) ee
  | ok p S2 =>
    obtain ⟨fl, fr2⟩ := p
    cases c with
    | true =>
      cases fl with
      | nx => exact fun σ2 μ2 H2 F2 A2 P2 => n _ _ μ2 σ2 H2 F2 (cut_ok A1 A2 (P.trans P2)).1 (cut_ok A1 A2 (P.trans P2)).2 w
      | ct => exact fun σ2 μ2 H2 F2 A2 P2 => n _ _ μ2 σ2 H2 F2 (cut_ok A1 A2 (P.trans P2)).1 (cut_ok A1 A2 (P.trans P2)).2 w
      | bk => exact fun σ2 μ2 H2 F2 A2 P2 => w σ2 μ2 H2 F2 (cut_ok A1 A2 (P.trans P2)).1 (cut_ok A1 A2 (P.trans P2)).2
      | rt d => exact fun σ2 μ2 H2 F2 A2 P2 v as r o => w σ2 μ2 H2 F2 A2 (P.trans P2) v as r (o.start P.dom)
    | false =>
      cases fl with
      | nx => exact fun σ2 μ2 H2 F2 A2 P2 => n _ _ μ2 σ2 H2 F2 A2 (P.trans P2) w
      | ct => exact fun σ2 μ2 H2 F2 A2 P2 => n _ _ μ2 σ2 H2 F2 A2 (P.trans P2) w
      | bk => exact fun σ2 μ2 H2 F2 A2 P2 => w σ2 μ2 H2 F2 A2 (P.trans P2)
      | rt d => exact fun σ2 μ2 H2 F2 A2 P2 v as r o => w σ2 μ2 H2 F2 A2 (P.trans P2) v as r (o.start P.dom)
theorem for_core {g : Z.Tg} {c : Bool} {J : It} {items : List Mi.D} (hg : SemG X tg g) (hb : SemB X gi k st fb) {q : Q} (lk : Lnk X gi k er q) (tk : Takes X W) (A1 : Ab X.K fr S1 μ1 σ H1 F1) (ok : ItOk X.K S1 μ1 H1 F1 J items)
    (w : WS X.K er W (Z.qL c q S1).L S1 μ1 H1 F1 (Z.forL g (fun fr2 S2 => Z.cutR c S1.length (fb (Z.qL c q S1) fr2 S2)) items fr S1) D) :
    ∃ Wv : Nat → Nat → L2.St → Hp → Prop, (∃ m, Wv 0 m σ H1) ∧ ∀ (i m : Nat) (σ : L2.St) (H : Hp), Wv i m σ H → J.stop i H ∧ D.nx σ H ∨ J.go i H ∧ ∃ Nx : L2.St → Hp → Prop, (∀ σ' H', Nx σ' H' → ∃ m', m' < m ∧ Wv (i + 1) m' σ' H') ∧
      ∀ x H', J.yld i H x H' → semG X tg x σ H' fun σ2 H2 => semSs X st { nx := Nx, rt := D.rt, bk := D.nx, ct := Nx } σ2 H2 := by
  refine ⟨fun i m σ' H' => m = items.length - i ∧ i ≤ items.length ∧ ∃ fr' S' μ' F', Ab X.K fr' S' μ' σ' H' F' ∧ Stp (Z.qL c q S1).L S1 μ1 H1 F1 S' μ' H' F' ∧ WS X.K er W (Z.qL c q S1).L S1 μ1 H1 F1 (Z.forL g (fun fr2 S2 => Z.cutR c S1.length (fb (Z.qL c q S1) fr2 S2)) (items.drop i) fr' S') D,
    ⟨_, rfl, Nat.zero_le _, fr, S1, μ1, F1, A1, .refl, by rw [List.drop_zero]; exact w⟩, ?_⟩
  rintro i m σ' H' ⟨rfl, hle, fr', S', μ', F', A', P', w'⟩
  obtain ⟨j1, j2⟩ := ok fr' S' μ' σ' H' F' A' (P'.w A1.hs) i
  by_cases hlt : i < items.length
  · refine .inr ?_
    have e : items[i]? = some (items[i]) := List.getElem?_eq_getElem hlt
    obtain ⟨g1, g2⟩ := j2 _ e
    refine ⟨g1, fun σ2 H2 => ∃ fr2 S2 μ2 F2, Ab X.K fr2 S2 μ2 σ2 H2 F2 ∧ Stp (Z.qL c q S1).L S1 μ1 H1 F1 S2 μ2 H2 F2 ∧ WS X.K er W (Z.qL c q S1).L S1 μ1 H1 F1 (Z.forL g (fun fr2 S2 => Z.cutR c S1.length (fb (Z.qL c q S1) fr2 S2)) (items.drop (i + 1)) fr2 S2) D,
      fun σ2 H2 ⟨fr2, S2, μ2, F2, A2, P2, w2⟩ => ⟨items.length - (i + 1), by omega, rfl, hlt, fr2, S2, μ2, F2, A2, P2, w2⟩, fun x H2 hy => ?_⟩
    obtain ⟨F2, A2, P2, rc⟩ := g2 x H2 hy
    rw [List.drop_eq_getElem_cons hlt] at w'
    unfold Z.forL at w'
    split at w'
    · exact w'.elim
    · rename_i fr1 ea
      have P := P'.trans (P2 _)
      exact hg A2 rc ea _ fun σ3 A3 _ => hb er _ lk.qL W tk fr1 S' μ' σ3 H2 F2 A3 _ (WS.turn A1.hs P w' fun fr4 S4 μ4 σ4 H4 F4 A4 P4 w4 => ⟨fr4, S4, μ4, F4, A4, P4, w4⟩)
  · refine .inl ⟨j1 (by omega), ?_⟩
    rw [List.drop_eq_nil_of_le (by omega)] at w'
    exact w' σ' μ' H' F' A' P'
/-- the want within a locked loop -/
theorem WS.unl {l : Option Nat} {c : Bool} {q : Q} {r : R (Fl × Frame)} (h : LkOk S1 l) (P1 : Stp q.L S μ H F S1 μ1 H1 F1) (w : WS K er W q.L S μ H F (unlR l r) D) : WS K er W (Z.qL c q (lckS S1 l)).L (lckS S1 l) μ1 H1 F1 r D := by
  have main : ∀ {fr' : Frame} {S' : Store} {σ' : L2.St} {μ' : Nat → Addr} {H' F' : Hp}, Ab K fr' S' μ' σ' H' F' → Stp (Z.qL c q (lckS S1 l)).L (lckS S1 l) μ1 H1 F1 S' μ' H' F' → Ab K fr' (unlS S' l) μ' σ' H' F' ∧ Stp q.L S μ H F (unlS S' l) μ' H' F' := fun {fr' S' σ' μ' H' F'} A P => by
    obtain ⟨A2, P2⟩ := unl_ok h P.qL A
    exact ⟨A2, P1.trans P2⟩
  cases r with
  | no => exact w
  | ex cc x S2 => exact fun fr2 σ2 μ2 H2 F2 cls dx A2 P2 ee => w fr2 σ2 μ2 H2 F2 cls dx (main A2 P2).1 (main A2 P2).2 ee
  | ok p S2 =>
    obtain ⟨fl, fr2⟩ := p
    cases fl with
    | nx => exact fun σ2 μ2 H2 F2 A2 P2 => w σ2 μ2 H2 F2 (main A2 P2).1 (main A2 P2).2
    | ct => exact fun σ2 μ2 H2 F2 A2 P2 => w σ2 μ2 H2 F2 (main A2 P2).1 (main A2 P2).2
    | bk => exact fun σ2 μ2 H2 F2 A2 P2 => w σ2 μ2 H2 F2 (main A2 P2).1 (main A2 P2).2
    | rt d => exact fun σ2 μ2 H2 F2 A2 P2 v as r o => w σ2 μ2 H2 F2 (main A2 P2).1 (main A2 P2).2 v as (by rw [unl_len]; exact r) (by
        have o' := o.start P1.dom
        exact ⟨o'.nd, fun a ha => ⟨(o'.fr a ha).1, (o'.fr a ha).2.1, fun n hn => (o'.fr a ha).2.2 n (by rw [unl_len] at hn; exact hn)⟩⟩)
theorem sems_for {g : Z.Tg} {cc : Bool} (hp : PassesOwn (model X.prog X.w) X.A X.env X.xe) (hc : X.calm = true) (hi : SemI X gi k tg it fi) (hg : SemG X tg g) (hb : SemB X gi k st fb) (hfs : ∀ x, foldedSetIterable it X.env x = pure x) : SemS X gi k (.For tg it st [] pos) (Z.fors cc g fi fb) := by
  intro er q lk W tk fr S μ σ H F A D w
  refine ⟨_, ps_for hp hc pi_sem pg_sem pss_sem hfs, ?_⟩
  refine hi er q lk W tk fr S μ σ H F A _ (w.bnd .refl fr σ fun p S1 μ1 H1 F1 A1 P1 w1 lo J ok => ?_)
  exact for_core hg hb lk tk (A1.lck lo) ok (WS.unl lo P1 w1)
/-! ### while -/
theorem whN_lt {t : Frame → Store → R Bool} {b : Frame → Store → R (Fl × Frame)} {n : Nat} : Z.whN t b 0 fr S = .no := rfl
theorem sems_while {cc : Bool} (hp : PassesOwn (model X.prog X.w) X.A X.env X.xe) (ht : SemT X gi k c ft) (hb : SemB X gi k st fb) : SemS X gi k (.While c st [] pos) (Z.whs cc ft fb) := by
  intro er q lk W tk fr S μ σ H F A D w
  refine ⟨_, ps_while hp pt_sem pss_sem, ?_⟩
  have w0 : WS X.K er W q.L S μ H F (Z.wh (ft (Z.qL cc q S)) (fun fr2 S2 => Z.cutR cc S.length (fb (Z.qL cc q S) fr2 S2)) fr S) D := w
  have hne : Z.wh (ft (Z.qL cc q S)) (fun fr2 S2 => Z.cutR cc S.length (fb (Z.qL cc q S) fr2 S2)) fr S ≠ .no := fun z => by
    rw [z] at w0
    exact w0
  obtain ⟨n, hn⟩ := wh_some hne
  rw [hn] at w0
  clear hne hn w
  refine ⟨fun m σ' H' => ∃ fr' S' μ' F', Ab X.K fr' S' μ' σ' H' F' ∧ Stp (Z.qL cc q S).L S μ H F S' μ' H' F' ∧ WS X.K er W (Z.qL cc q S).L S μ H F (Z.whN (ft (Z.qL cc q S)) (fun fr2 S2 => Z.cutR cc S.length (fb (Z.qL cc q S) fr2 S2)) m fr' S') D, ⟨n, fr, S, μ, F, A, .refl, ?_⟩, ?_⟩
  · generalize Z.whN (ft (Z.qL cc q S)) (fun fr2 S2 => Z.cutR cc S.length (fb (Z.qL cc q S) fr2 S2)) n fr S = r at w0
    cases r with
    | no => exact w0
    | ex cc x S2 => exact fun fr2 σ2 μ2 H2 F2 cls dx A2 P2 ee => w0 fr2 σ2 μ2 H2 F2 cls dx A2 P2.qL ee
    | ok p S2 =>
      obtain ⟨fl, fr2⟩ := p
      cases fl with
      | nx => exact fun σ2 μ2 H2 F2 A2 P2 => w0 σ2 μ2 H2 F2 A2 P2.qL
      | ct => exact fun σ2 μ2 H2 F2 A2 P2 => w0 σ2 μ2 H2 F2 A2 P2.qL
      | bk => exact fun σ2 μ2 H2 F2 A2 P2 => w0 σ2 μ2 H2 F2 A2 P2.qL
      | rt d => exact fun σ2 μ2 H2 F2 A2 P2 v as r o => w0 σ2 μ2 H2 F2 A2 P2.qL v as r o
  rintro m σ' H' ⟨fr', S', μ', F', A', P', w'⟩
  cases m with
  | zero => exact w'.elim
  | succ m =>
    unfold Z.whN at w'
    refine ht er _ (lk.qL (c := cc) (S := S)) W tk fr' S' μ' σ' H' F' A' _ (w'.bnd P' fr' σ' fun kk S1 μ1 H1 F1 A1 P1 w1 => ?_)
    cases kk with
    | true =>
      rw [if_pos rfl] at w1
      unfold KT
      dsimp only
      rw [if_pos rfl]
      refine ⟨fun σ2 H2 => ∃ fr2 S2 μ2 F2, Ab X.K fr2 S2 μ2 σ2 H2 F2 ∧ Stp (Z.qL cc q S).L S μ H F S2 μ2 H2 F2 ∧ WS X.K er W (Z.qL cc q S).L S μ H F (Z.whN (ft (Z.qL cc q S)) (fun fr2 S2 => Z.cutR cc S.length (fb (Z.qL cc q S) fr2 S2)) m fr2 S2) D, fun σ2 H2 z => ⟨m, Nat.lt_succ_self m, z⟩, ?_⟩
      exact hb er _ lk.qL W tk fr' S1 μ1 σ' H1 F1 A1 _ (WS.turn A.hs (P'.trans P1) w1 fun fr4 S4 μ4 σ4 H4 F4 A4 P4 w4 => ⟨fr4, S4, μ4, F4, A4, P4, w4⟩)
    | false =>
      rw [if_neg Bool.false_ne_true] at w1
      unfold KT
      dsimp only
      rw [if_neg Bool.false_ne_true]
      exact w1 σ' μ1 H1 F1 A1 (P'.trans P1)
end
end Mi

set_option Elab.async false
set_option linter.all false
set_option maxRecDepth 100000
set_option maxHeartbeats 4000000
/-! N13: comprehensions -/
namespace Mi
open PySem PySem.Spec PyProof.Rows L2
abbrev bx (X : Cx) (scope : Scope) (s : Shared) (H : Hp) (C : Addr) (cl : List (Str × Addr)) (fp : List Addr) : Cx := X.blk s H scope (compEnvC scope cl C X.env) fp
section
variable {X : Cx} {gi : GI} {k : Nat} {N : List Str} {sc scope : Scope} {pos p1 p p2 pp : Pos} {e a b c i o tg it elt : Expr} {es ts ifs : List Expr} {f g h fe : XE} {ft gt : XT} {fi : XI}
variable {er : ER} {W : WX} {L : Nat} {fr fr1 fr2 : Frame} {σ σ1 σ2 : L2.St} {S S1 S2 S0 : Store} {μ μ1 μ2 μ0 : Nat → Addr} {H H1 H2 H0 F F1 F2 F0 : Hp} {as bs : List Addr} {K : PySem.W.Frag} {vs : List Nat}
/-! ### slots of the block -/
theorem wipeF_len (fr : Frame) : ∀ vs : List Nat, (wipeF fr vs).length = fr.length
  | [] => rfl
  | v :: vs => by
    unfold wipeF
    rw [List.length_set, wipeF_len fr vs]
theorem wipeF_out {fr : Frame} {j : Nat} : ∀ {vs : List Nat}, j ∉ vs → (wipeF fr vs)[j]? = fr[j]?
  | [], _ => rfl
  | v :: vs, h => by
    unfold wipeF
    rw [List.getElem?_set_ne (show v ≠ j from fun z => h (by rw [z]; exact List.mem_cons_self)), wipeF_out fun z => h (List.mem_cons_of_mem _ z)]
theorem wipeF_in {fr : Frame} {j : Nat} : ∀ {vs : List Nat}, j ∈ vs → j < fr.length → (wipeF fr vs)[j]? = some none
  | v :: vs, h, hl => by
    unfold wipeF
    by_cases e : v = j
    · subst e
      exact List.getElem?_set_self (by rw [wipeF_len]; exact hl)
    · rw [List.getElem?_set_ne e]
      exact wipeF_in ((List.mem_cons.mp h).resolve_left (Ne.symm e)) hl
theorem wipe_out {σ : L2.St} {j : Nat} : ∀ {vs : List Nat}, j ∉ vs → (wipe σ vs)[j]? = σ[j]?
  | [], _ => rfl
  | v :: vs, h => by
    unfold wipe
    rw [List.getElem?_set_ne (show v ≠ j from fun z => h (by rw [z]; exact List.mem_cons_self)), wipe_out fun z => h (List.mem_cons_of_mem _ z)]
theorem wipe_in {σ : L2.St} {j : Nat} : ∀ {vs : List Nat}, j ∈ vs → j < σ.length → (wipe σ vs)[j]? = some none
  | v :: vs, h, hl => by
    unfold wipe
    by_cases e : v = j
    · subst e
      exact List.getElem?_set_self (by rw [wipe_length]; exact hl)
    · rw [List.getElem?_set_ne e]
      exact wipe_in ((List.mem_cons.mp h).resolve_left (Ne.symm e)) hl
theorem wipe_eq {σ σ2 : L2.St} (hl : σ2.length = σ.length) (h : ∀ j : Nat, j ∉ vs → σ2[j]? = σ[j]?) : wipe σ2 vs = wipe σ vs := List.ext_getElem? fun j => by
  by_cases hj : j ∈ vs
  · by_cases h2 : j < σ.length
    · rw [wipe_in hj h2, wipe_in hj (by omega)]
    · rw [List.getElem?_eq_none (by rw [wipe_length]; omega), List.getElem?_eq_none (by rw [wipe_length]; omega)]
  · rw [wipe_out hj, wipe_out hj, h j hj]
theorem Ab.wipe (A : Ab K fr S μ σ H F) (vs : List Nat) : Ab K (wipeF fr vs) S μ (L2.wipe σ vs) H F := by
  refine ⟨A.hs, by rw [wipe_length, wipeF_len, A.len], fun i d e => ?_⟩
  have hl := (List.getElem?_eq_some_iff.mp e).1
  rw [wipeF_len] at hl
  by_cases hi : i ∈ vs
  · rw [wipeF_in hi hl] at e
    cases e
  · rw [wipeF_out hi] at e
    obtain ⟨v, e1, r⟩ := A.sl i d e
    exact ⟨v, by rw [wipe_out hi]; exact e1, r⟩
theorem wipe_kp {g : Z.Tg} {σ3 : L2.St} (h : ∀ i ∈ g.ix, i ∈ vs) (kp : Kp g.ix (L2.wipe σ vs) σ3) : L2.wipe σ3 vs = L2.wipe σ vs :=
  wipe_eq (kp.1.trans (wipe_length ..)) fun j hj => (kp.2 j fun z => hj (h j z)).trans (wipe_out hj)
/-! ### within the block -/
theorem Cok.blk (c : Cok X gi k N sc) (s : Shared) (H : Hp) (C : Addr) (cl : List (Str × Addr)) (fp : List Addr) : Cok (bx X scope s H C cl fp) gi k N (relS scope sc) :=
  ⟨c.n, by
    show relS scope X.env.scope = _
    rw [c.s], c.nd, c.calm, c.gd, c.rm, c.bi, c.cs⟩
theorem Lnk.blk {q : Q} (lk : Lnk X gi k er q) (s : Shared) (H : Hp) (C : Addr) (cl : List (Str × Addr)) (fp : List Addr) : Lnk (bx X scope s H C cl fp) gi k er q := ⟨lk.df, lk.xo, lk.ta, ⟨lk.co.z, lk.co.cl, lk.co.me, lk.co.ge⟩⟩
abbrev noW : WX := fun _ _ _ _ => False
theorem takes_no {Y : Cx} : Takes Y noW := by
  intro u s' h
  obtain ⟨_, _, _, _, _, _, _, _, _, _, _, _, _, _, _, _, h⟩ := h
  exact h.elim
def blkE (X : Cx) (scope : Scope) (e : Expr) : TE := fun σ H Q => ∀ s H0 C cl fp, semE (bx X scope s H0 C cl fp) e σ H Q
theorem pe_blk (s : Shared) (H : Hp) (C : Addr) (cl : List (Str × Addr)) (fp : List Addr) : PE (bx X scope s H C cl fp) e (blkE X scope e) := ⟨fun pins s' σ H' Q I h => pe_sem.run pins s' σ H' Q I (h s H C cl fp)⟩
def blkG (X : Cx) (scope : Scope) (e : Expr) : TG := fun v σ H Q => ∀ s H0 C cl fp, semG (bx X scope s H0 C cl fp) e v σ H Q
theorem pg_blk (s : Shared) (H : Hp) (C : Addr) (cl : List (Str × Addr)) (fp : List Addr) : PG (bx X scope s H C cl fp) e (blkG X scope e) := ⟨fun pins s' σ H' v u Q I r h => pg_sem.run pins s' σ H' v u Q I r (h s H C cl fp)⟩
def semTs (X : Cx) (es : List Expr) : TT := fun σ H Q => ∃ t, PTs X es t ∧ t σ H Q
theorem pts_sem : PTs X es (semTs X es) := ⟨fun pins s σ H Q I ⟨t, h, q⟩ => h.run pins s σ H Q I q⟩
def blkT (X : Cx) (scope : Scope) (es : List Expr) : TT := fun σ H Q => ∀ s H0 C cl fp, semTs (bx X scope s H0 C cl fp) es σ H Q
theorem pt_blk (s : Shared) (H : Hp) (C : Addr) (cl : List (Str × Addr)) (fp : List Addr) : PTs (bx X scope s H C cl fp) es (blkT X scope es) := ⟨fun pins s' σ H' Q I h => pts_sem.run pins s' σ H' Q I (h s H C cl fp)⟩
/-- the conditions of a comprehension -/
def SemTs (X : Cx) (gi : GI) (k : Nat) (es : List Expr) (f : XT) : Prop := ∀ er q, Lnk X gi k er q → ∀ W, Takes X W → ∀ fr S μ σ H F, Ab X.K fr S μ σ H F → ∀ Q, WR X.K er W q.L fr σ S μ H F (f q fr S) (KT Q) → semTs X es σ H Q
theorem semts_nil : SemTs X gi k [] Z.tt := by
  intro er q lk W tk fr S μ σ H F A Q w
  exact ⟨_, pts_nil, w μ H F A .refl⟩
theorem semts_one (h : SemT X gi k c ft) : SemTs X gi k [c] ft := by
  intro er q lk W tk fr S μ σ H F A Q w
  exact ⟨_, pts_one pt_sem, h er q lk W tk fr S μ σ H F A Q w⟩
/-! ### the list under way -/
theorem Hs.mine (A : Hs K S μ H F) {p : Addr} {o : HO} (hF : F p = none) (hC : ∀ n, n < S.length → μ n ≠ p) : Hs K S μ (upd H p o) F where
  sub := sub_keep A.sub fun b u e nn => by
    rw [upd_ne fun z => nn (by rw [z]; exact hF)]
    exact e
  ce := fun n u e => by
    obtain ⟨ho, h1, h2⟩ := A.ce n u e
    exact ⟨ho, by rw [upd_ne (hC n (List.getElem?_eq_some_iff.mp e).1)]; exact h1, h2⟩
  out := A.out
  inj := A.inj
  tb := A.tb
theorem Stp.mine (P : Stp L S0 μ0 H0 F0 S μ H F) {p : Addr} {o : HO} (hp : H0 p = none) : Stp L S0 μ0 H0 F0 S μ (upd H p o) F where
  f := P.f
  le := P.le
  mu := P.mu
  keep := fun b u e n => by
    rw [upd_ne (ne_of_none e hp)]
    exact P.keep b u e n
  nF := P.nF
  nC := P.nC
  dom := fun a e => by
    by_cases h : a = p
    · rw [h]; exact hp
    · rw [upd_ne h] at e
      exact P.dom a e
  cl := P.cl
  lk := fun n o e => by
    obtain ⟨q1, q2⟩ := P.lk n o e
    exact ⟨q1, fun u z => by
      rw [upd_ne (ne_of_none z hp)]
      exact q2 u z⟩
theorem RepNs.upd {vs : List V} {ds : List D} {M : Nat} {p : Addr} {o : HO} (r : RepNs K M μ F H vs ds as) (h : p ∉ as) : RepNs K M μ F (upd H p o) vs ds as := r.mono (Nat.le_refl _) (fun _ _ => rfl) (fun _ _ h => h) fun b u hb e => by
  rw [upd_ne fun z => h (by rw [← z]; exact hb)]
  exact e
theorem RepN.upd {v : V} {d : D} {M : Nat} {p : Addr} {o : HO} (r : RepN K M μ F H v d as) (h : p ∉ as) : RepN K M μ F (upd H p o) v d as := r.mono (Nat.le_refl _) (fun _ _ => rfl) (fun _ _ h => h) fun b u hb e => by
  rw [upd_ne fun z => h (by rw [← z]; exact hb)]
  exact e
/-- the list at p so far -/
structure Acc (K : PySem.W.Frag) (p : Addr) (ds : List D) (H0 : Hp) (S : Store) (μ : Nat → Addr) (H F : Hp) (bs : List Addr) : Prop where
  r : ∃ acc, H p = some (.lst acc) ∧ RepNs K S.length μ F H acc ds bs
  o : Own (p :: bs) H0 F μ S
theorem Acc.keep {p : Addr} {ds : List D} (A : Acc K p ds H0 S μ H F bs) (P : Stp L S μ H F S1 μ1 H1 F1) : Acc K p ds H0 S1 μ1 H1 F1 bs := by
  obtain ⟨acc, h1, h2⟩ := A.r
  obtain ⟨r, o⟩ := (RepN.newo h1 h2).keep A.o P
  cases r with
  | newo h1 h2 => exact ⟨⟨_, h1, h2⟩, o⟩
theorem Acc.start {p : Addr} (A : Hs K S μ H0 F) (hp : H0 p = none) : Acc K p [] H0 S μ (upd H0 p (.lst [])) F [] := ⟨⟨[], upd_same, .nil⟩, own_new A hp⟩
theorem Acc.push {p : Addr} {ds : List D} (A : Acc K p ds H0 S μ H F bs) {v : V} {d : D} (r : RepN K S.length μ F H v d as) (o : Own as H1 F μ S) (dom : ∀ a, H1 a = none → H0 a = none) (th : ∀ x ∈ p :: bs, ∃ u, H1 x = some u) :
    ∃ acc, H p = some (.lst acc) ∧ acc.length = ds.length ∧ Acc K p (ds ++ [d]) H0 S μ (L2.upd H p (.lst (acc ++ [v]))) F (bs ++ as) := by
  obtain ⟨acc, h1, h2⟩ := A.r
  have oo := A.o.app o dom th
  have np : p ∉ bs ++ as := (List.nodup_cons.mp oo.nd).1
  exact ⟨acc, h1, h2.length, ⟨acc ++ [v], upd_same, RepNs.snoc (h2.upd fun z => np (List.mem_append_left _ z)) (r.upd fun z => np (List.mem_append_right _ z))⟩, oo⟩
theorem bnd_nil {r : R (List D)} : (r.bnd fun es S3 => .ok ([] ++ es) S3) = r := by cases r <;> rfl
theorem bnd_push {r : R (List D)} {ds : List D} {d : D} : ((r.bnd fun es S3 => .ok (d :: es) S3).bnd fun es S3 => .ok (ds ++ es) S3) = r.bnd fun es S3 => .ok ((ds ++ [d]) ++ es) S3 := by
  cases r with
  | ok es S3 => rw [bnd_ok, bnd_ok, bnd_ok, List.append_assoc]; rfl
  | _ => rfl
/-- the finished list -/
theorem Acc.done {p : Addr} {ds : List D} (A0 : Ab K fr S μ σ H F) (P : Stp L S0 μ0 H0 F0 S μ H F) (A : Acc K p ds H0 S μ H F bs) {Q : VK} (w : WR K er W L fr σ S0 μ0 H0 F0 (.ok (Z.mkL ds) S) (KE K H0 Q)) : Q (.ref p) H := by
  obtain ⟨acc, h1, h2⟩ := A.r
  unfold Z.mkL at w
  split at w
  · rename_i xs e
    exact give w A0 P (.new h1 (allT_rep e h2)) (Own.left (as := [p]) A.o)
  · exact give w A0 P (.newo h1 h2) A.o
/-- a turn's result within the block -/
theorem WR.blk {β γ : Type} {W' : WX} {q : Q} {σ3 : L2.St} {fr3 : Frame} {r : R β} {g : β → Store → R γ} {j : γ → Store → (Nat → Addr) → Hp → Hp → Prop} {l : β → Store → (Nat → Addr) → Hp → Hp → Prop}
    (w : WR K er W L fr σ S0 μ0 H0 F0 (match (generalizing := false) r with
      | .ok b S1 => g b S1
      | _ => .no) j) (n : ∀ b S1, r = .ok b S1 → WR K er W L fr σ S0 μ0 H0 F0 (g b S1) j → ∀ μ1 H1 F1, Ab K fr3 S1 μ1 σ3 H1 F1 → Stp q.L S μ H F S1 μ1 H1 F1 → l b S1 μ1 H1 F1) : WR K er noW q.L fr3 σ3 S μ H F r l := by
  cases r with
  | no => exact w.elim
  | ex c x S1 => exact w.elim
  | ok b S1 => exact fun μ1 H1 F1 A1 P1 => n b S1 rfl w μ1 H1 F1 A1 P1
theorem lc_core {own : List (Str × Nat)} {g : Z.Tg} {q : Q} (hv : own.map (·.2) = vs) (hi : ∀ R, WR X.K er W q.L fr σ S μ H F (fi q fr S) (KI X.K R) → semI X tg it σ H R) (hg : ∀ s H C cl fp, SemG (bx X scope s H C cl fp) tg g) (hgi : ∀ i ∈ g.ix, i ∈ vs)
    (ht : ∀ s H C cl fp, SemTs (bx X scope s H C cl fp) gi k ifs ft) (he : ∀ s H C cl fp, SemE (bx X scope s H C cl fp) gi k elt fe) (lk : Lnk X gi k er q) (tk : Takes X W) (A : Ab X.K fr S μ σ H F) {Q : VK} (w : WR X.K er W q.L fr σ S μ H F (Z.lc vs g fi ft fe q fr S) (KE X.K H Q)) :
    tLc (semI X tg it) (blkG X scope tg) (blkT X scope ifs) (blkE X scope elt) (own.map (·.2)) σ H Q := by
  subst hv
  refine hi _ (w.bnd .refl fun p S1 μ1 H1 F1 A1 P1 w1 lo J iok Dl hD => ?_)
  split at w1
  case isFalse => exact w1.elim
  rename_i hlen
  generalize own.map (·.2) = vs at hgi w1 ⊢
  have A2 := A1.lck lo
  have P0 : Stp q.L (lckS S1 p.2) μ1 H1 F1 (lckS S1 p.2) μ1 (upd H1 Dl (.lst [])) F1 := stp_laid hD
  refine ⟨fun i m H' => m = p.1.length - i ∧ i ≤ p.1.length ∧ ∃ S' μ' F' ds bs, Ab X.K fr S' μ' σ H' F' ∧ Stp q.L (lckS S1 p.2) μ1 H1 F1 S' μ' H' F' ∧ Acc X.K Dl ds H1 S' μ' H' F' bs ∧ ds.length ≤ i ∧
      WR X.K er W q.L fr σ S μ H F ((unlR p.2 ((lcL g ft fe q (wipeF fr vs) (p.1.drop i) S').bnd fun es S3 => .ok (ds ++ es) S3)).bnd fun ds S2 => .ok (Z.mkL ds) S2) (KE X.K H Q),
    ⟨_, rfl, Nat.zero_le _, lckS S1 p.2, μ1, F1, [], [], A2.hsof P0 (A2.hs.laid hD), P0, .start A2.hs hD, Nat.le_refl _, ?_⟩, ?_⟩
  · rw [List.drop_zero, bnd_nil]
    exact w1
  rintro i m H' ⟨rfl, hle, S', μ', F', ds, bs, A', P', ac, hdl, w'⟩
  obtain ⟨j1, j2⟩ := iok fr S' μ' σ H' F' A' (P'.w A2.hs) i
  by_cases hlt : i < p.1.length
  · refine .inr ?_
    have e : p.1[i]? = some (p.1[i]) := List.getElem?_eq_getElem hlt
    obtain ⟨g1, g2⟩ := j2 _ e
    refine ⟨g1, fun H2 => ∃ S2 μ2 F2 ds bs, Ab X.K fr S2 μ2 σ H2 F2 ∧ Stp q.L (lckS S1 p.2) μ1 H1 F1 S2 μ2 H2 F2 ∧ Acc X.K Dl ds H1 S2 μ2 H2 F2 bs ∧ ds.length ≤ i + 1 ∧
      WR X.K er W q.L fr σ S μ H F ((unlR p.2 ((lcL g ft fe q (wipeF fr vs) (p.1.drop (i + 1)) S2).bnd fun es S3 => .ok (ds ++ es) S3)).bnd fun ds S2 => .ok (Z.mkL ds) S2) (KE X.K H Q),
      fun H2 ⟨S2, μ2, F2, ds, bs, z⟩ => ⟨p.1.length - (i + 1), by omega, rfl, hlt, S2, μ2, F2, ds, bs, z⟩, fun x H2 hy => ?_⟩
    obtain ⟨F2, A3, P2, rc⟩ := g2 x H2 hy
    rw [List.drop_eq_getElem_cons hlt] at w'
    unfold lcL at w'
    cases ea : asg S' g p.1[i] (wipeF fr vs) with
    | none =>
      rw [ea] at w'
      exact w'.elim
    | some fr1 =>
      rw [ea] at w'
      dsimp only at w'
      intro s0 Hb C cl fp
      refine hg s0 Hb C cl fp (A3.wipe vs) rc ea _ fun σ3 A4 kp => ⟨wipe_kp hgi kp, fun s0 Hb C cl fp => ?_⟩
      refine ht s0 Hb C cl fp er q (lk.blk s0 Hb C cl fp) noW takes_no fr1 S' μ' σ3 H2 F2 A4 _ ?_
      cases et : ft q fr1 S' with
      | no =>
        rw [et] at w'
        exact w'.elim
      | ex c y S3 =>
        rw [et] at w'
        exact w'.elim
      | ok b S3 =>
        rw [et] at w'
        intro μ3 H3 F3 A5 P3
        unfold KT
        cases b with
        | false =>
          dsimp only at w' ⊢
          rw [if_neg Bool.false_ne_true]
          have P23 := (P2 q.L).trans P3
          exact ⟨S3, μ3, F3, ds, bs, A'.hsof P23 A5.hs, P'.trans P23, ac.keep P23, by omega, w'⟩
        | true =>
          dsimp only at w' ⊢
          rw [if_pos rfl]
          intro s0 Hb C cl fp
          refine he s0 Hb C cl fp er q (lk.blk s0 Hb C cl fp) noW takes_no fr1 S3 μ3 σ3 H3 F3 A5 _ ?_
          cases ee : fe q fr1 S3 with
          | no =>
            rw [ee] at w'
            exact w'.elim
          | ex c y S3 =>
            rw [ee] at w'
            exact w'.elim
          | ok d S4 =>
            rw [ee] at w'
            dsimp only at w'
            intro μ4 H4 F4 A6 P4 v as r o
            have P23 := (P2 q.L).trans P3
            have P24 := P23.trans P4
            have ac3 := ac.keep P23
            obtain ⟨acc3, h3, r3⟩ := ac3.r
            have ac4 := ac3.keep P4
            obtain ⟨acc, h4, hal, ac5⟩ := ac4.push r o (fun a z => P'.dom a (P23.dom a z)) (fun y hy => by
              rcases List.mem_cons.mp hy with rfl | hy
              · exact ⟨_, h3⟩
              · exact r3.there y hy)
            have hF := (ac4.o.fr Dl List.mem_cons_self).2.1
            have hC := (ac4.o.fr Dl List.mem_cons_self).2.2
            have P5 := (P'.trans P24).mine (o := .lst (acc ++ [v])) hD
            refine ⟨acc, h4, ?_, S4, μ4, F4, ds ++ [d], bs ++ as, ⟨A6.hs.mine hF hC, A'.len, fun jj dd q => let ⟨u, e1, r1⟩ := A'.sl jj dd q; ⟨u, e1, r1.mono P24.le P24.mu P24.f⟩⟩, P5, ac5, by rw [List.length_append, List.length_cons, List.length_nil]; omega, ?_⟩
            · rw [hal]
              exact Nat.lt_of_le_of_lt (Nat.le_trans hdl (Nat.le_of_lt (Nat.lt_of_lt_of_le hlt hlen))) (by decide)
            · rw [bnd_push] at w'
              exact w'
  · refine .inl ⟨j1 (by omega), ?_⟩
    rw [List.drop_eq_nil_of_le (by omega)] at w'
    obtain ⟨A7, P7⟩ := unl_ok lo P' A'
    have w2 : WR X.K er W q.L fr σ S μ H F (.ok (Z.mkL (ds ++ [])) (unlS S' p.2)) (KE X.K H Q) := w'
    rw [List.append_nil] at w2
    obtain ⟨acc, h1, h2⟩ := ac.r
    have ac2 : Acc X.K Dl ds H (unlS S' p.2) μ' H' F' bs := ⟨⟨acc, h1, by rw [unl_len]; exact h2⟩, ac.o.nd, fun a ha => ⟨P1.dom _ (ac.o.fr a ha).1, (ac.o.fr a ha).2.1, fun n hn => (ac.o.fr a ha).2.2 n (by rw [unl_len] at hn; exact hn)⟩⟩
    exact ac2.done A7 (P1.trans P7) w2
theorem sem_lc {own : List (Str × Nat)} {g : Z.Tg} (hc : X.calm = true) (hN : X.N.Nodup) (ok : BlkOk X.N X.env.scope scope own) (hv : own.map (·.2) = vs) (hi : SemI X gi k tg it fi) (hg : ∀ s H C cl fp, SemG (bx X scope s H C cl fp) tg g) (hgi : ∀ i ∈ g.ix, i ∈ vs)
    (ht : ∀ s H C cl fp, SemTs (bx X scope s H C cl fp) gi k ifs ft) (he : ∀ s H C cl fp, SemE (bx X scope s H C cl fp) gi k elt fe) (hfs : ∀ x, foldedSetIterable it X.env x = pure x) : SemE X gi k (.ListComp elt [⟨tg, it, ifs, 0⟩] scope pos) (Z.lc vs g fi ft fe) := by
  intro er q lk W tk fr S μ σ H F A Q w
  exact ⟨_, pe_lc hc hN pi_sem ok pg_blk pt_blk pe_blk hfs, lc_core hv (fun R w => hi er q lk W tk fr S μ σ H F A R w) hg hgi ht he lk tk A w⟩
/-- x = [..], x a local name -/
theorem sems_setLc {own : List (Str × Nat)} {g : Z.Tg} {i : Nat} {x : Str} {m : Bool} {spos : Pos} (hc : X.calm = true) (hN : X.N.Nodup) (hy : X.N[i]? = some x) (hyl : X.env.scope.names.lookup x = some .local)
    (hsw : swapsWith (.ListComp elt [⟨tg, it, ifs, 0⟩] scope pos) (some (.Name x pp)) spos.line X.env = pure true) (ok : BlkOk X.N X.env.scope scope own) (hv : own.map (·.2) = vs) (hi : SemI X gi k tg it fi) (hg : ∀ s H C cl fp, SemG (bx X scope s H C cl fp) tg g) (hgi : ∀ i ∈ g.ix, i ∈ vs)
    (ht : ∀ s H C cl fp, SemTs (bx X scope s H C cl fp) gi k ifs ft) (he : ∀ s H C cl fp, SemE (bx X scope s H C cl fp) gi k elt fe) (hfs : ∀ x, foldedSetIterable it X.env x = pure x) : SemS X gi k (.Assign [.Name x pp] (.ListComp elt [⟨tg, it, ifs, 0⟩] scope pos) spos) (Z.set i m (Z.lc vs g fi ft fe)) := by
  intro er q lk W tk fr S μ σ H F A D w
  refine ⟨_, ps_setLc hc hN hy hyl hsw pi_sem ok pg_blk pt_blk pe_blk hfs, ?_⟩
  have w0 : WS X.K er W q.L S μ H F ((Z.lc vs g fi ft fe q fr S).bnd fun d S1 => match Z.stD m d S1 with
    | some (e, S2) => .ok (.nx, fr.set i (some e)) S2
    | none => .no) D := w
  refine lc_core (Q := fun v H1 => gName i v σ H1 D.nx) hv (fun R w => hi er q lk W tk fr S μ σ H F A R w) hg hgi ht he lk tk A (w0.bnd .refl fr σ fun d S1 μ1 H1 F1 A1 P1 w1 v as r1 o1 => ?_)
  split at w1
  · rename_i d' S2 e1
    obtain ⟨μ2, F2, A2, P2, r2⟩ := std_ok A1 P1 r1 o1 e1
    exact w1 _ μ2 H1 F2 (A2.set r2) P2
  · exact w1.elim
end
end Mi

set_option Elab.async false
set_option linter.all false
set_option maxRecDepth 100000
set_option maxHeartbeats 4000000
/-! N14: methods of lists and dicts -/
namespace Mi
open PySem PySem.Spec PyProof.Rows L2
section
variable {X : Cx} {gi : GI} {k : Nat} {N : List Str} {sc : Scope} {pos p1 p p2 pp apos cpos : Pos} {e a b c i o : Expr} {es ts : List Expr} {f g h fe : XE} {fa : XA}
variable {er : ER} {W : WX} {L : Nat} {fr fr1 fr2 : Frame} {σ σ1 σ2 : L2.St} {S S1 S2 S0 : Store} {μ μ1 μ2 μ0 : Nat → Addr} {H H1 H2 H0 F F1 F2 F0 : Hp} {as bs : List Addr} {K : PySem.W.Frag}
theorem list_rep (A : Hs K S μ H F) {v : V} {x : D} (r : RepN K S.length μ F H v x as) (e : tyD S x = some "list") : ∃ a vs, v = .ref a ∧ H a = some (.lst vs) := by
  cases r with
  | c r =>
    cases r with
    | t r =>
      rename_i y
      cases y with
      | lst ys =>
        obtain ⟨a, vs, rfl, h1, _⟩ := rep_lst r
        exact ⟨a, vs, rfl, now_lst (A.sub _ _ h1)⟩
      | _ => first | (cases e; done) | exact absurd (Option.some.inj e) (by decide)
    | cell hn =>
      rename_i n
      have e' : (match rd S n with
        | some (.lst _) => some "list"
        | some (.lsto _) => some "list"
        | some (.dic _) => some "dict"
        | some (.dico _) => some "dict"
        | some (.tupo _) => some "tuple"
        | _ => none) = some "list" := e
      cases q : rd S n with
      | none =>
        rw [q] at e'
        cases e'
      | some ob =>
        rw [q] at e'
        obtain ⟨u, _, hu, ho, h1, h2⟩ := rd_cell A q
        subst hu
        cases u with
        | lst xs =>
          cases ho <;> first | exact h2.elim | exact ⟨_, _, rfl, h1⟩
        | lsto xs =>
          cases ho <;> first | exact h2.elim | exact ⟨_, _, rfl, h1⟩
        | lck w =>
          cases w with
          | lst xs => cases ho <;> first | exact h2.elim | exact ⟨_, _, rfl, h1⟩
          | lsto xs => cases ho <;> first | exact h2.elim | exact ⟨_, _, rfl, h1⟩
          | _ => first | (cases e'; done) | exact absurd (Option.some.inj e') (by decide)
        | _ => first | (cases e'; done) | exact absurd (Option.some.inj e') (by decide)
  | new h1 h2 => exact ⟨_, _, rfl, h1⟩
  | newd _ _ => exact absurd (Option.some.inj e) (by decide)
  | newo h1 _ => exact ⟨_, _, rfl, h1⟩
  | tupo _ _ => exact absurd (Option.some.inj e) (by decide)
  | newk _ _ => exact absurd (Option.some.inj e) (by decide)
/-- a method does what mD says -/
def MetS (X : Cx) (id : String) (m : Z.M) : Prop := ∃ r, MtR X id r ∧ ∀ {er : ER} {W : WX} {L : Nat} {fr : Frame} {σ : L2.St} {S0 S : Store} {μ0 μ : Nat → Addr} {H0 F0 H F : Hp} {Q : VK} {x : D} {v : V} {ds : List D} {vs : List V} {as bs : List Addr},
  Ab X.K fr S μ σ H F → Stp L S0 μ0 H0 F0 S μ H F → RepN X.K S.length μ F H v x as → RepNs X.K S.length μ F H vs ds bs → Own bs H0 F μ S → WR X.K er W L fr σ S0 μ0 H0 F0 (Z.mD m x ds S) (KE X.K H0 Q) → r v vs H Q
theorem sem_me {name : Str} {id : String} {m : Z.M} (hm : MetS X id m) (hsl : Slot "list" name id) (hty : typeOf (Value.builtin id) = pure (Value.type "method_descriptor")) (h1 : SemE X gi k o f) (h2 : SemA X gi k (e :: es) fa)
    (q1 : attributeBase o name X.env (eval o X.env) = eval o X.env)
    (q2 : ((backTo cpos (starEach (e :: es) X.env)).all (fun x => !x.1) && (backToKw cpos (keywordEach [] X.env)).all (fun x => x.1.isSome) && decide ((e :: es).length + ([] : List Keyword).length + (if ([] : List Keyword).isEmpty then 0 else 1) < 30)) = true)
    (q3 : (apos.endLine == cpos.line) = true) (q4 : starEach (e :: es) X.env = (false, eval e X.env) :: starEach es X.env) (q5 : (backTo cpos (starEach es X.env)).any (·.1) = false) :
    SemE X gi k (.Call (.Attribute o name apos) (e :: es) [] cpos) (Z.me m f fa) := by
  intro er q lk W tk fr S μ σ H F A Q w
  obtain ⟨r, hr, hn⟩ := hm
  refine ⟨_, pe_bm PySem.F.plainAttrs_list hsl hty hr pe_sem pa_sem q1 q2 q3 q4 q5, h1.go lk tk A .refl w fun x S1 μ1 H1 F1 v as A1 P1 r1 o1 w1 => ?_⟩
  split at w1
  · rename_i ht
    obtain ⟨a, vs, rfl, hl⟩ := list_rep A1.hs r1 ht
    refine ⟨.inl ⟨rfl, _, SqL.of hl⟩, h2.go lk tk A1 P1 w1 fun ds S2 μ2 H2 F2 vs bs A2 P2 r2 o2 l2 w2 => ?_⟩
    obtain ⟨r1', o1'⟩ := r1.keep o1 P2
    exact hn A2 (P1.trans P2) r1' r2 (o2.start P1.dom) w2
  · exact w1.elim
theorem sem_me0 {name : Str} {id : String} {m : Z.M} (hm : MetS X id m) (hsl : Slot "list" name id) (hty : typeOf (Value.builtin id) = pure (Value.type "method_descriptor")) (h1 : SemE X gi k o f)
    (q1 : attributeBase o name X.env (eval o X.env) = eval o X.env) (q3 : (apos.endLine == cpos.line) = true) : SemE X gi k (.Call (.Attribute o name apos) [] [] cpos) (Z.me m f Z.nil) := by
  intro er q lk W tk fr S μ σ H F A Q w
  obtain ⟨r, hr, hn⟩ := hm
  refine ⟨_, pe_bm0 PySem.F.plainAttrs_list hsl hty hr pe_sem q1 q3, h1.go lk tk A .refl w fun x S1 μ1 H1 F1 v as A1 P1 r1 o1 w1 => ?_⟩
  split at w1
  · rename_i ht
    obtain ⟨a, vs, rfl, hl⟩ := list_rep A1.hs r1 ht
    exact ⟨.inl ⟨rfl, _, SqL.of hl⟩, hn A1 P1 r1 .nil .nil w1⟩
  · exact w1.elim
theorem cell_lst (A : Hs K S μ H F) {n : Nat} {xs : List T} (e : S[n]? = some (.lst xs)) : ∃ vs, H (μ n) = some (.lst vs) ∧ RepL K (At F) vs xs := by
  obtain ⟨ho, h1, h2⟩ := A.ce n _ e
  cases ho <;> first | exact h2.elim | exact ⟨_, h1, h2⟩
theorem ns1 {vs : List V} {d : D} {M : Nat} (r : RepNs K M μ F H vs [d] bs) : ∃ v, vs = [v] ∧ RepN K M μ F H v d bs := by
  cases r with
  | cons r1 r2 =>
    cases r2 with
    | nil => exact ⟨_, rfl, by rw [List.append_nil]; exact r1⟩
theorem ns2 {vs : List V} {d d2 : D} {M : Nat} (r : RepNs K M μ F H vs [d, d2] bs) : ∃ v w cs ds, vs = [v, w] ∧ bs = cs ++ ds ∧ RepN K M μ F H v d cs ∧ RepN K M μ F H w d2 ds := by
  cases r with
  | cons r1 r2 =>
    obtain ⟨w, e, r3⟩ := ns1 r2
    subst e
    exact ⟨_, _, _, _, rfl, rfl, r1, r3⟩
theorem give1 {x : T} {Q : VK} {v : V} {n : Nat} {o' : Ob} {ob : Ob} {ho : HO} (w : WR K er W L fr σ S0 μ0 H0 F0 (.ok (.t x) (S.set n o')) (KE K H0 Q)) (A : Ab K fr S μ σ H F) (P : Stp L S0 μ0 H0 F0 S μ H F) (e : S[n]? = some ob) (nl : ∀ u, ob ≠ .lck u) (c : Con K S.length μ F o' ho) (hl : ∀ B, ob.lt B → o'.lt B) (r : Rep K (At F) v x) (ht : ∀ P q, o' = .tbl P q → μ n = P := by intro _ _ z; cases z) : Q v (upd H (μ n) ho) :=
  giveT w (A.wr e c ht) (P.wr A.hs e (fun _ => hl) nl) r
theorem met_append : MetS X "list.append" .append := by
  refine ⟨_, mt_append, ?_⟩
  intro er W L fr σ S0 S μ0 μ H0 F0 H F Q x v ds vs as bs A P r1 r2 o w
  unfold Z.mD at w
  split at w <;> first | (rename_i z _; cases z; done) | (rename_i z; cases z; done) | skip
  · rename_i d
    obtain ⟨u, rfl, q2⟩ := ns1 r2
    unfold Z.appD at w
    split at w
    · rename_i n
      have hv := cell_ref r1
      subst hv
      split at w
      · rename_i xs e1
        split at w
        · rename_i y e2
          obtain ⟨F', sf, A2, P2, rc⟩ := arg_rep A P q2 o e2
          split at w
          · rename_i hl
            obtain ⟨vs, h1, h2⟩ := cell_lst A2.hs e1
            cases rc with
            | t rc =>
              exact ⟨_, vs, u, rfl, rfl, h1, by rw [h2.length]; exact Nat.lt_of_lt_of_le hl (by decide), give1 w A2 P2 e1 (fun _ z => by cases z) (ho := .lst (vs ++ [u])) (h2.snoc rc) (fun _ _ => trivial) .non⟩
          · exact w.elim
        · exact w.elim
      · exact w.elim
    · exact w.elim
  all_goals first | exact w.elim | skip
theorem idx_at {ns : List Int} {i : Int} (h : i ∈ ns) : ns[ns.idxOf i]? = some i ∧ ∀ m : Nat, m < ns.idxOf i → ns[m]? ≠ some i := by
  have hl := List.idxOf_lt_length_iff.mpr h
  refine ⟨by rw [List.getElem?_eq_getElem hl, List.getElem_idxOf hl], fun m hm e => ?_⟩
  have h1 : m < ns.length := Nat.lt_trans hm hl
  have := List.not_of_lt_findIdx (p := (· == i)) (xs := ns) hm
  rw [List.getElem?_eq_getElem h1] at e
  have e := Option.some.inj e
  rw [e] at this
  simp at this
theorem cell_ints (A : Hs K S μ H F) {n : Nat} {xs : List T} {ns : List Int} (e : S[n]? = some (.lst xs)) (q : asI xs = some ns) : H (μ n) = some (.lst (ns.map V.int)) := by
  obtain ⟨vs, h1, h2⟩ := cell_lst A e
  have := asI_eq q
  subst this
  rw [RepL.ints h2] at h1
  exact h1
theorem ints_rep (A : Hs K S μ H F) {v : V} {x : D} {ns : List Int} (r : RepN K S.length μ F H v x as) (e : intsD S x = some ns) : ∃ a, v = .ref a ∧ H a = some (.lst (ns.map V.int)) := by
  unfold intsD at e
  cases q : sq S x with
  | none =>
    rw [q] at e
    cases e
  | some xs =>
    rw [q] at e
    obtain ⟨a, vs, rfl, h1, h2⟩ := sq_rep A r q
    have := asI_eq e
    subst this
    rw [RepL.ints h2] at h1
    exact ⟨a, rfl, h1⟩
theorem met_remove : MetS X "list.remove" .remove := by
  refine ⟨_, mt_remove, ?_⟩
  intro er W L fr σ S0 S μ0 μ H0 F0 H F Q x v ds vs as bs A P r1 r2 o w
  unfold Z.mD at w
  split at w <;> first | (rename_i z _; cases z; done) | (rename_i z; cases z; done) | skip
  all_goals first | exact w.elim | skip
  · rename_i d
    obtain ⟨u, rfl, q2⟩ := ns1 r2
    unfold Z.remD at w
    split at w
    · rename_i n i
      have hv := cell_ref r1
      subst hv
      split at w
      · rename_i xs e1
        split at w
        · rename_i ns e2
          split at w
          · rename_i hi
            have h1 := cell_ints A.hs e1 e2
            rw [rep_int (repT q2).1]
            refine ⟨_, ns, i, ns.idxOf i, rfl, rfl, h1, (idx_at hi).1, (idx_at hi).2, give1 w A P e1 (fun _ z => by cases z) (ho := .lst ((ns.eraseIdx (ns.idxOf i)).map V.int)) RepL.of_ints (fun _ _ => trivial) .non⟩
          · exact w.elim
        · exact w.elim
      · exact w.elim
    · exact w.elim
theorem met_pop : MetS X "list.pop" .pop := by
  refine ⟨_, mt_pop, ?_⟩
  intro er W L fr σ S0 S μ0 μ H0 F0 H F Q x v ds vs as bs A P r1 r2 o w
  unfold Z.mD at w
  split at w <;> first | (rename_i z _; cases z; done) | (rename_i z; cases z; done) | skip
  all_goals first | exact w.elim | skip
  · cases r2
    unfold Z.popD at w
    split at w
    · rename_i n
      have hv := cell_ref r1
      subst hv
      split at w
      · rename_i xs e1
        split at w
        · rename_i y e2
          obtain ⟨vs, h1, h2⟩ := cell_lst A.hs e1
          rw [List.getLast?_eq_getElem?] at e2
          obtain ⟨z, e3, rz⟩ := h2.get' e2
          rw [← h2.length] at e3
          refine ⟨_, vs, z, rfl, rfl, h1, e3, give1 w A P e1 (fun _ z => by cases z) (ho := .lst vs.dropLast) ?_ (fun _ _ => trivial) rz⟩
          show RepL X.K (At F) vs.dropLast xs.dropLast
          rw [List.dropLast_eq_take, List.dropLast_eq_take, h2.length]
          exact h2.take _
        · exact w.elim
      · exact w.elim
    · exact w.elim
theorem met_index : MetS X "list.index" .index := by
  refine ⟨_, mt_index, ?_⟩
  intro er W L fr σ S0 S μ0 μ H0 F0 H F Q x v ds vs as bs A P r1 r2 o w
  unfold Z.mD at w
  split at w <;> first | (rename_i z _; cases z; done) | (rename_i z; cases z; done) | skip
  all_goals first | exact w.elim | skip
  · rename_i d
    obtain ⟨u, rfl, q2⟩ := ns1 r2
    unfold Z.idxD at w
    split at w
    · rename_i i
      split at w
      · rename_i ns e2
        split at w
        · rename_i hi
          obtain ⟨a, rfl, h1⟩ := ints_rep A.hs r1 e2
          rw [rep_int (repT q2).1]
          have gm : ∀ m : Nat, (ns.map V.int)[m]? = (ns[m]?).map V.int := fun m => List.getElem?_map ..
          refine ⟨a, ns.map V.int, .int i, ns.idxOf i, .int i, rfl, rfl, SqL.of h1, rfl, ?_, ?_, ?_, fun m z hm hz => ?_, giveT w A P (.int _)⟩
          · rw [List.all_eq_true]
            intro y hy
            obtain ⟨j, _, rfl⟩ := List.mem_map.mp hy
            rfl
          · rw [gm, (idx_at hi).1]
            rfl
          · show (i == i) = true
            exact beq_self_eq_true i
          · rw [gm] at hz
            cases q : ns[m]? with
            | none =>
              rw [q] at hz
              cases hz
            | some j =>
              rw [q] at hz
              cases hz
              show (j == i) = false
              have := (idx_at hi).2 m hm
              rw [q] at this
              exact beq_eq_false_iff_ne.mpr fun z => this (congrArg some z)
        · exact w.elim
      · exact w.elim
    · exact w.elim
theorem met_count : MetS X "list.count" .count := by
  refine ⟨_, mt_lcount, ?_⟩
  intro er W L fr σ S0 S μ0 μ H0 F0 H F Q x v ds vs as bs A P r1 r2 o w
  unfold Z.mD at w
  split at w <;> first | (rename_i z _; cases z; done) | (rename_i z; cases z; done) | skip
  all_goals first | exact w.elim | skip
  · rename_i d
    obtain ⟨u, rfl, q2⟩ := ns1 r2
    unfold Z.cntD at w
    split at w
    · rename_i i
      split at w
      · rename_i ns e2
        obtain ⟨a, rfl, h1⟩ := ints_rep A.hs r1 e2
        rw [rep_int (repT q2).1]
        exact ⟨a, ns, i, rfl, rfl, SqL.of h1, giveT w A P (.int _)⟩
      · exact w.elim
    · exact w.elim
theorem met_extend : MetS X "list.extend" .extend := by
  refine ⟨_, mt_extend, ?_⟩
  intro er W L fr σ S0 S μ0 μ H0 F0 H F Q x v ds vs as bs A P r1 r2 o w
  unfold Z.mD at w
  split at w <;> first | (rename_i z _; cases z; done) | (rename_i z; cases z; done) | skip
  all_goals first | exact w.elim | skip
  · rename_i d
    obtain ⟨u, rfl, q2⟩ := ns1 r2
    unfold Z.extD at w
    split at w
    · rename_i n
      have hv := cell_ref r1
      subst hv
      split at w
      · rename_i xs e1
        split at w
        · rename_i ys e2
          split at w
          · rename_i hl
            obtain ⟨vs, h1, h2⟩ := cell_lst A.hs e1
            obtain ⟨a, ws, rfl, h3, h4⟩ := sq_rep A.hs q2 e2
            exact ⟨_, a, vs, ws, rfl, rfl, h1, h3, by rw [h2.length, h4.length]; exact line_ok hl, give1 w A P e1 (fun _ z => by cases z) (ho := .lst (vs ++ ws)) (h2.append h4) (fun _ _ => trivial) .non⟩
          · exact w.elim
        · exact w.elim
      · exact w.elim
    · exact w.elim
theorem met_insert : MetS X "list.insert" .insert := by
  refine ⟨_, mt_insert, ?_⟩
  intro er W L fr σ S0 S μ0 μ H0 F0 H F Q x v ds vs as bs A P r1 r2 o w
  unfold Z.mD at w
  split at w <;> first | (rename_i z _; cases z; done) | (rename_i z; cases z; done) | skip
  all_goals first | exact w.elim | skip
  · rename_i i d
    obtain ⟨u1, u, cs, ds, rfl, rfl, q2, r3⟩ := ns2 r2
    unfold Z.insD at w
    split at w
    · rename_i n j
      have hv := cell_ref r1
      subst hv
      split at w
      · rename_i xs e1
        split at w
        · rename_i y e2
          obtain ⟨F', sf, A2, P2, rc⟩ := arg_rep A P r3 o.right e2
          split at w
          · rename_i hl
            obtain ⟨vs, h1, h2⟩ := cell_lst A2.hs e1
            rw [rep_int (repT q2).1]
            cases rc with
            | t rc =>
              refine ⟨_, vs, j, u, rfl, rfl, h1, by rw [h2.length]; exact Nat.lt_of_lt_of_le hl.1 (by decide), hl.2.1, by omega, ?_⟩
              rw [List.append_assoc]
              exact give1 w A2 P2 e1 (fun _ z => by cases z) (ho := .lst (vs.take j.toNat ++ ([u] ++ vs.drop j.toNat))) ((h2.take _).append (.cons rc (h2.drop _))) (fun _ _ => trivial) .non
          · exact w.elim
        · exact w.elim
      · exact w.elim
    · exact w.elim
/-! ### d.get -/
theorem getO {v w : V} {x z : D} {y : D} {Q : VK} {u : V} {kvs : List (Key × T)} (A : Ab K fr S μ σ H F) (P : Stp L S0 μ0 H0 F0 S μ H F) (r1 : RepN K S.length μ F H v x as) (r2 : RepN K S.length μ F H u y bs) {cs : List Addr} (r3 : RepN K S.length μ F H w z cs) (o3 : Own cs H0 F μ S)
    (wt : WR K er W L fr σ S0 μ0 H0 F0 (Z.getD x y z S) (KE K H0 Q)) : ∃ a, v = .ref a ∧ ∃ o, DGet H a u o ∧ Q (o.getD w) H := by
  unfold Z.getD at wt
  split at wt
  · rename_i ff ww e1
    split at wt
    · rename_i kvs kk e2 e3
      obtain ⟨F', sf, A2, P2, rc⟩ := arg_rep A P r3 o3 e1
      obtain ⟨a, vs, rfl, h1, h2⟩ := dct_rep A.hs r1 e2
      cases rc with
      | t rc =>
        have h2' := h2.mono (at_mono sf)
        have ek := kOf_rep (repT r2).1 e3
        cases q : lookK kk kvs with
        | none =>
          rw [q] at wt
          exact ⟨a, rfl, none, .inl ⟨vs, kk, h1, ek, ((look_rep h2').2 q).symm⟩, giveT wt A2 P2 rc⟩
        | some d =>
          rw [q] at wt
          obtain ⟨z, e4, rz⟩ := (look_rep h2').1 _ q
          exact ⟨a, rfl, some z, .inl ⟨vs, kk, h1, ek, e4.symm⟩, giveT wt A2 P2 rz⟩
    · exact wt.elim
  · exact wt.elim
theorem isD_rep (A : Hs K S μ H F) {v : V} {x : D} (r : RepN K S.length μ F H v x as) (e : Z.isDict x S = true) : ∃ a, v = .ref a ∧ IsD H a := by
  unfold Z.isDict at e
  cases q : dct S x with
  | none =>
    rw [q] at e
    cases e
  | some kvs =>
    obtain ⟨a, vs, rfl, h1, _⟩ := dct_rep A r q
    exact ⟨a, rfl, .inl ⟨_, h1⟩⟩
theorem sem_get1 (hu : X.A.units + 64 < cLine) (h1 : SemE X gi k o f) (h2 : SemE X gi k e g) (m : M1 X o (Str.ofString "get") apos e cpos) : SemE X gi k (.Call (.Attribute o (Str.ofString "get") apos) [e] [] cpos) (Z.get1 f g) := by
  intro er q lk W tk fr S μ σ H F A Q w
  refine ⟨_, pe_dget1 (by omega) pe_sem pe_sem m, h1.go lk tk A .refl w fun x S1 μ1 H1 F1 v as A1 P1 r1 o1 w1 => ?_⟩
  split at w1
  · rename_i hd
    obtain ⟨a, rfl, isd⟩ := isD_rep A1.hs r1 hd
    refine ⟨a, rfl, isd, h2.go lk tk A1 P1 w1 fun y S2 μ2 H2 F2 u bs A2 P2 r2 o2 w2 => ?_⟩
    obtain ⟨r1', _⟩ := r1.keep o1 P2
    obtain ⟨a', e, z⟩ := getO (z := .non) (w := .non) A2 (P1.trans P2) r1' r2 (.c (.t .non)) .nil w2 (kvs := [])
    cases e
    exact z
  · exact w1.elim
theorem sem_get2 (hu : X.A.units + 64 < cLine) (h1 : SemE X gi k o f) (h2 : SemE X gi k e g) (h3 : SemE X gi k a h) (m : M2 X o (Str.ofString "get") apos e a cpos) : SemE X gi k (.Call (.Attribute o (Str.ofString "get") apos) [e, a] [] cpos) (Z.get2 f g h) := by
  intro er q lk W tk fr S μ σ H F A Q w
  refine ⟨_, pe_dget2 (by omega) pe_sem pe_sem pe_sem m, h1.go lk tk A .refl w fun x S1 μ1 H1 F1 v as A1 P1 r1 o1 w1 => ?_⟩
  split at w1
  · rename_i hd
    obtain ⟨a, rfl, isd⟩ := isD_rep A1.hs r1 hd
    refine ⟨a, rfl, isd, h2.go lk tk A1 P1 w1 fun y S2 μ2 H2 F2 u bs A2 P2 r2 o2 w2 => ?_⟩
    obtain ⟨r1', o1'⟩ := r1.keep o1 P2
    refine h3.go lk tk A2 (P1.trans P2) w2 fun z S3 μ3 H3 F3 t cs A3 P3 r3 o3 w3 => ?_
    obtain ⟨r1'', _⟩ := r1'.keep o1' P3
    obtain ⟨r2', _⟩ := r2.keep o2 P3
    obtain ⟨a', e, z⟩ := getO A3 (P1.trans (P2.trans P3)) r1'' r2' r3 (o3.start (P1.trans P2).dom) w3 (kvs := [])
    cases e
    exact z
  · exact w1.elim
end
end Mi

set_option Elab.async false
set_option linter.all false
set_option maxRecDepth 100000
set_option maxHeartbeats 4000000
/-! N15: calls with two arguments, calls of a local def; defs by their bodies -/
namespace Mi
open PySem PySem.Spec PyProof.Rows L2
section
variable {X : Cx} {gi : GI} {k : Nat} {N : List Str} {sc : Scope} {pos p1 p p2 pp apos cpos kp : Pos} {e a b c i o : Expr} {es ts : List Expr} {f g h fe : XE} {fa : XA}
variable {er : ER} {W : WX} {L : Nat} {fr fr1 fr2 : Frame} {σ σ1 σ2 : L2.St} {S S1 S2 S0 : Store} {μ μ1 μ2 μ0 : Nat → Addr} {H H1 H2 H0 F F1 F2 F0 : Hp} {as bs : List Addr} {K : PySem.W.Frag}
/-! ### two arguments -/
def CalS2 (X : Cx) (u : Value) (g : D → D → Store → R D) : Prop := ∃ r : List V → Hp → VK → Prop, CallR X u r ∧ ∀ {er : ER} {W : WX} {L : Nat} {fr : Frame} {σ : L2.St} {S0 S : Store} {μ0 μ : Nat → Addr} {H0 F0 H F : Hp} {Q : VK} {x y : D} {v w : V} {as bs : List Addr},
  Ab X.K fr S μ σ H F → Stp L S0 μ0 H0 F0 S μ H F → RepN X.K S.length μ F H v x as → RepN X.K S.length μ F H w y bs → WR X.K er W L fr σ S0 μ0 H0 F0 (g x y S) (KE X.K H0 Q) → r [v, w] H Q
theorem sem_b2 {x : Str} {id : String} {oo : U2} (n : Bi X x (.builtin id)) (hc : CalS2 X (.builtin id) (f2D oo)) (h1 : SemE X gi k e f) (h2 : SemE X gi k a g) (hs1 : starEach [e, a] X.env = (false, eval e X.env) :: starEach [a] X.env) (hs2 : starEach [a] X.env = [(false, eval a X.env)]) (hpl : (backTo pos (starEach [a] X.env)).any (·.1) = false) :
    SemE X gi k (.Call (.Name x p) [e, a] [] pos) (Z.f2 oo f g) := by
  intro er q lk W tk fr S μ σ H F A Q w
  obtain ⟨r, hr, hn⟩ := hc
  refine ⟨_, pe_callB hr n.g n.m n.b (pa_cons pe_sem (pa_cons pe_sem pa_nil hs2) hs1) n.n n.d hs1 hpl, h1.go lk tk A .refl w fun d S1 μ1 H1 F1 v as A1 P1 r1 o1 w1 => h2.go lk tk A1 P1 w1 fun d2 S2 μ2 H2 F2 u bs A2 P2 r2 o2 w2 => ?_⟩
  obtain ⟨r1', _⟩ := r1.keep o1 P2
  exact hn A2 (P1.trans P2) r1' r2 w2
theorem max2S (hc : X.calm = true) : CalS2 X (.builtin "max") (f2D .max2) := by
  refine ⟨_, call_max2 hc, ?_⟩
  intro er W L fr σ S0 S μ0 μ H0 F0 H F Q x y v w as bs A P r1 r2 hw0
  have hw : WR X.K er W L fr σ S0 μ0 H0 F0 (max2D x y S) (KE X.K H0 Q) := hw0
  clear hw0
  unfold max2D at hw
  split at hw
  · rw [rep_int (repT r1).1, rep_int (repT r2).1]
    exact ⟨_, _, rfl, giveT hw A P (.int _)⟩
  · exact hw.elim
theorem min2S (hc : X.calm = true) : CalS2 X (.builtin "min") (f2D .min2) := by
  refine ⟨_, call_min2 hc, ?_⟩
  intro er W L fr σ S0 S μ0 μ H0 F0 H F Q x y v w as bs A P r1 r2 hw0
  have hw : WR X.K er W L fr σ S0 μ0 H0 F0 (min2D x y S) (KE X.K H0 Q) := hw0
  clear hw0
  unfold min2D at hw
  split at hw
  · rw [rep_int (repT r1).1, rep_int (repT r2).1]
    exact ⟨_, _, rfl, giveT hw A P (.int _)⟩
  · exact hw.elim
def maxDf (d : Int) : List Int → Int
  | [] => d
  | y :: ys => ys.foldl max y
theorem foldl_max : ∀ (ys : List Int) (a b : Int), ys.foldl max (max a b) = max a (ys.foldl max b)
  | [], _, _ => rfl
  | y :: ys, a, b => by
    show ys.foldl max (max (max a b) y) = max a (ys.foldl max (max b y))
    rw [← foldl_max ys a (max b y)]
    congr 1
    omega
theorem maxI_foldl : ∀ (ys : List Int) (x : Int), ys.foldl max x = maxI (x :: ys)
  | [], _ => rfl
  | y :: ys, x => by
    show ys.foldl max (max x y) = max x (maxI (y :: ys))
    rw [foldl_max, maxI_foldl ys y]
theorem dp_intl : ∀ ns : List Int, PyData.depthAll (ns.map PyData.int) ≤ 1
  | [] => by decide
  | n :: ns => by
    have := dp_intl ns
    show max (PyData.depth (.int n)) (PyData.depthAll (ns.map PyData.int)) ≤ 1
    exact Nat.max_le.mpr ⟨by show (PyData.int n).depth ≤ 1; unfold PyData.depth; omega, this⟩
theorem cr_maxDf (hc : X.calm = true) (hu : X.A.units + 64 < cLine) : CallRK X (.builtin "max") ["default"] (fun xs zs H Q => ∃ (a : Addr) (ns : List Int) (d : Int), xs = [V.ref a] ∧ zs = [V.int d] ∧ SqL X.K H a (ns.map V.int) ∧ Q (.int (maxDf d ns)) H) := by
  intro pins s σ H xs zs us ws Q I r rz h
  obtain ⟨a, ns, d, rfl, rfl, hs, q⟩ := h
  obtain ⟨its, rv, hl, _⟩ := I.list hs
  obtain ⟨u, rfl, ⟨t, rfl⟩⟩ := vals1 rz
  rw [Vals.ref1 r]
  have hi : IntsAre its ns := rv.ints
  refine PySem.W.max_list_default (xs := ns.map PyData.int) (I.ok.hd hc) hl.isList (by simpa using IntsAre.reads s.heap hi) ?_ (by have := dp_intl ns; omega) ?_ ?_
  · refine ⟨fun x hx y hy => ?_, fun x hx => ?_⟩
    · obtain ⟨i, _, rfl⟩ := List.mem_map.mp hx
      obtain ⟨j, _, rfl⟩ := List.mem_map.mp hy
      rfl
    · obtain ⟨i, _, rfl⟩ := List.mem_map.mp hx
      intro z
      cases z
  · intro e h' tk hk
    have en : ns = [] := List.map_eq_nil_iff.mp e
    subst en
    exact ⟨.int d, H, I.kept hk, ⟨_, rfl⟩, q⟩
  · intro y ys i v h' tk bs e _ rd hk
    cases ns with
    | nil => cases e
    | cons n ns =>
      cases e
      rw [PySem.W.maxD_ints] at rd
      have ev : ∃ t, v = .int (ns.foldl max n) t := by
        cases rd
        exact ⟨_, rfl⟩
      obtain ⟨t2, rfl⟩ := ev
      exact ⟨.int _, H, I.kept hk, ⟨_, rfl⟩, q⟩
theorem sem_maxd (hc : X.calm = true) (hu : X.A.units + 64 < cLine) (n : Bi X "max" (.builtin "max")) (h1 : SemE X gi k a f) (h2 : SemE X gi k b g)
    (hs : starEach [a] X.env = [(false, eval a X.env)]) (he : backTo pos (starEach [a] X.env) = (false, eval a X.env) :: backTo pos (starEach [] X.env)) (hpl : (backTo pos (starEach [a] X.env)).any (·.1) = false)
    (hall : (backToKw pos (keywordEach [⟨some "default", b, kp⟩] X.env)).all (·.1.isSome) = true) (hnone : (backToKw pos (keywordEach [⟨some "default", b, kp⟩] X.env)).any (·.1.isNone) = false) (hks : (backToKw pos (keywordEach [⟨some "default", b, kp⟩] X.env)).filterMap (·.1) = [("default" : Str)]) :
    SemE X gi k (.Call (.Name "max" p) [a] [⟨some "default", b, kp⟩] pos) (Z.f2 .maxd f g) := by
  intro er q lk W tk fr S μ σ H F A Q w
  refine ⟨_, pe_callBK (cr_maxDf hc hu) n.g n.m n.b (pa_cons pe_sem pa_nil hs) (pk_cons pe_sem pk_nil) n.n n.d he hpl hall hnone hks, h1.go lk tk A .refl w fun d S1 μ1 H1 F1 v as A1 P1 r1 o1 w1 => h2.go lk tk A1 P1 w1 fun d2 S2 μ2 H2 F2 u bs A2 P2 r2 o2 w2 => ?_⟩
  obtain ⟨r1', _⟩ := r1.keep o1 P2
  have hw : WR X.K er W q.L fr σ S μ H F (maxdD d d2 S2) (KE X.K H Q) := w2
  unfold maxdD at hw
  split at hw
  · rename_i j
    split at hw
    · rename_i ns e1
      obtain ⟨m, rfl, h1⟩ := ints_rep A2.hs r1' e1
      rw [rep_int (repT r2).1]
      refine ⟨m, ns, j, rfl, rfl, SqL.of h1, ?_⟩
      have : maxDf j ns = if ns = [] then j else maxI ns := by
        cases ns with
        | nil => rfl
        | cons n ns =>
          rw [if_neg (by intro z; cases z)]
          exact maxI_foldl ns n
      rw [this]
      exact giveT hw A2 (P1.trans P2) (.int _)
    · exact hw.elim
  · exact hw.elim
/-! ### the def that a slot holds -/
theorem sem_callv {x : Str} {ii m : Nat} {ok : List Nat} {ar : List (Sum Nat T)} (c : Cok X gi k N sc) (n : Nm X ii x) (hsh : ∀ j ∈ ok, ∃ d, gi.ds[j]? = some d ∧ (m, [], ar) ∈ d.shapes ∧ ar.length = d.ps.length) (hs : ∀ y, Sum.inr y ∈ ar → y.scl = true)
    (ha : SemA X gi k (e :: es) fa) (hl : (e :: es).length = m) (he : starEach (e :: es) X.env = (false, eval e X.env) :: starEach es X.env) (hpl : (backTo pos (starEach es X.env)).any (·.1) = false) : SemE X gi k (.Call (.Name x p) (e :: es) [] pos) (Z.callv ii ok fa ar) := by
  intro er q lk W tk fr S μ σ H F A Q w
  unfold Z.callv at w
  split at w
  · rename_i j a e0
    split at w
    · rename_i hj
      obtain ⟨rfl, hj⟩ := hj
      obtain ⟨d, hd, h1, h2⟩ := hsh j hj
      obtain ⟨fd, F1, e1, e2, e3⟩ := lk.df j d hd
      obtain ⟨g, kb⟩ := e3 _ h1
      obtain ⟨v, ev, rv⟩ := A.sl ii _ e0
      cases rv with
      | t rv =>
        have hv := rep_fn rv
        subst hv
        have hpe : PE X (.Call (.Name x p) (e :: es) [] pos) (fun σ H Q => σ[ii]? = some (some (.ref (q.fa j))) ∧ tGo (spC X.K er (q.call j) d.ps.length) (gV ar) m 0 W (semA X (e :: es)) tNil σ H Q) := by
          refine ⟨fun pins s σ H Q I h => ?_⟩
          obtain ⟨hs, ht⟩ := h
          refine wpAny_Call_Name_kw (thn ((pe_var (pos := p) n.n n.v n.d n.c).run pins s σ H (fun v H1 => v = .ref (q.fa j) ∧ H1 = H) I ⟨.ref (q.fa j), hs, rfl, rfl⟩) fun u s1 ⟨v, H1, I1, r1, q1⟩ => ?_)
          obtain ⟨rfl, rfl⟩ := q1
          cases r1
          refine PySem.W.callWith_K (h₀ := X.base) I.ok.mod.kin e2 (thn (pa_sem (X := X) (es := e :: es) |>.run pos pins s1 σ _ _ I1 ht) ?_) he hpl
          rintro us s2 ⟨vs, H2, I2, r, l1, -, q⟩
          exact ⟨I2.kIn, run_g (ws := []) (zs := []) F1 c.gd c.rm kb (passAt tk σ) I2 r .nil (r.length.symm.trans l1) rfl q⟩
        refine ⟨_, hpe, ev, ha.go lk tk A .refl w fun ds S1 μ1 H1 G1 vs as A1 P1 r1 o1 l1 w1 => ⟨l1.trans hl, rfl, ?_⟩⟩
        have r1' : RepNs X.K S1.length μ1 G1 H1 (vs ++ []) (ds ++ []) as := by rw [List.append_nil, List.append_nil]; exact r1
        refine call_want A1 P1 r1' o1 hs h2 ?_
        rw [List.append_nil]
        exact w1
    · exact w.elim
  · exact w.elim
end
/-! ### a def by its body -/
structure LnkP (P : Program) (w : World) (K : PySem.W.Frag) (mg : Str → Option Value) (base : Heap) (gi : GI) (k : Nat) (er : ER) (q : Q) : Prop where
  df : ∀ n d, gi.ds[n]? = some d → ∃ fd, FnG gi.gd P w K mg base (CX P w) (3 * k) (q.fa n) fd d.ps (spC K er (q.call n) d.ps.length) ∧ mg d.name = some (.ref (q.fa n)) ∧ PySem.W.keepIn K (.ref (q.fa n)) = true ∧
    ∀ s ∈ d.shapes, ∃ g, KBn K fd d.ps s.1 s.2.1 g (gV s.2.2)
  xo : XOk P K mg gi.xs gi.ls q.fa er
  ta : ∀ t ∈ gi.ts, tabF K t.1 = q.fa t.2
  co : CoOk P w K mg base gi k er q
section
variable {P : Program} {w : World} {K : PySem.W.Frag} {mg : Str → Option Value} {base : Heap} {gi : GI} {k : Nat} {er : ER}
theorem start_ab {vs : List V} {ds : List D} {S : Store} {μ : Nat → Addr} {H F : Hp} {N : List Str} {n : Nat} (A : Hs K S μ H F) (r : RepCs K S.length μ F vs ds) (hn : N.length = n) : Ab K (ds.map some ++ List.replicate (n - ds.length) none) S μ (L2.start N vs) H F := by
  refine ⟨A, ?_, fun i d e => ?_⟩
  · unfold L2.start
    rw [List.length_append, List.length_append, List.length_map, List.length_map, List.length_replicate, List.length_replicate, hn, r.length]
  · by_cases h : i < ds.length
    · rw [List.getElem?_append_left (by rw [List.length_map]; exact h), List.getElem?_map] at e
      cases q : ds[i]? with
      | none =>
        rw [q] at e
        cases e
      | some d' =>
        rw [q] at e
        cases e
        obtain ⟨v, e1, rv⟩ := r.get' q
        refine ⟨v, ?_, rv⟩
        unfold L2.start
        rw [List.getElem?_append_left (by rw [List.length_map, r.length]; exact h), List.getElem?_map, e1]
        rfl
    · rw [List.getElem?_append_right (by rw [List.length_map]; omega)] at e
      have := (List.getElem?_replicate ..).symm.trans e
      split at this <;> cases this
/-- what a def that makes lambdas knows of its context -/
structure Mk (X : Cx) (P : Program) (w : World) (K : PySem.W.Frag) (mg : Str → Option Value) (base : Heap) (k : Nat) (qual : Str) (fd : FuncData) : Prop where
  prog : X.prog = P
  w : X.w = w
  K : X.K = K
  mg : X.mg = mg
  base : X.base = base
  rm : Room (3 * k + 2) X.A
  code : X.env.code = fd.code
  qual : X.env.qual = qual ++ ".<locals>."
theorem room_le {m n : Nat} {A : Around} (h : n ≤ m) (r : Room m A) : Room n A := ⟨r.hd, by have := r.dp; omega, by have := r.un; omega⟩
theorem fng_defJ {j : Nat} (hj : 3 * k ≤ j) {prog : List Def} {fa : Nat → Addr} {n : Nat} {d : Def} {x qual : Str} {params : Arguments} {body : List Stmt} {scope : Scope} {dvs : List V} {kws : List (Str × V)} {f : Addr} {fd : FuncData} {N ps : List Str}
    (FD : FunD K x qual params body scope dvs kws f fd) (Sc : FnScope N ps scope) (hd : prog[n]? = some d) (hps : ps.length = d.pars) (hN : N.length = d.slots)
    (bi : ∀ x ∈ gi.bs, mg x = none) (cs : ∀ p ∈ gi.cs, ∃ u, mg p.1 = some u ∧ cV p.2 u)
    (hb : ∀ X, Cok X gi k N scope → (∀ x, X.fn x = true) → PassesOwn (model X.prog X.w) X.A X.env X.xe → (X.stack = X.env :: X.outer ∧ X.env.frame = some X.env.locals) → (X.prog = P ∧ X.w = w ∧ X.K = K ∧ X.mg = mg ∧ X.base = base ∧ Room j X.A ∧ X.env.code = fd.code ∧ X.env.qual = qual ++ ".<locals>.") → SemB X gi k body d.body)
    (lk : ∀ L, LnkP P w K mg base gi k er ⟨callD prog fa k, fa, L⟩) (hk : ∀ c, d.own ≠ .ini c) : FnG gi.gd P w K mg base (CX P w) (j + 1) f fd ps (spC K er (callD prog fa (k + 1) n) ps.length) := by
  refine fng_of FD Sc (fun vs H Q E h => h.1) ?_
  intro cdv A outer s H vs Q E hg hcd hr hsp
  obtain ⟨hv, ds, S, μ, F, hs, rc, wc⟩ := hsp
  have tk : Takes (cxOf (CX P w) P w K mg base N qual scope f cdv A outer s H E) fun cls d x H => E cls d H := takes_of rfl rfl rfl rfl
  have c : Cok (cxOf (CX P w) P w K mg base N qual scope f cdv A outer s H E) gi k N scope := ⟨rfl, rfl, Sc.nd, rfl, hg, room_le (by omega) hr, bi, cs⟩
  have lk' : Lnk (cxOf (CX P w) P w K mg base N qual scope f cdv A outer s H E) gi k er ⟨callD prog fa k, fa, S.length⟩ := ⟨(lk S.length).df, (lk S.length).xo, (lk S.length).ta, (lk S.length).co⟩
  have hl : ds.length = d.pars := rc.length.symm.trans (hv.trans hps)
  have A0 : Ab K (ds.map some ++ List.replicate (d.slots - ds.length) none) S μ (L2.start N vs) H F := start_ab hs rc hN
  have lt : ∀ {S1 : Store}, S.length ≤ S1.length → (S1.take S.length).length = S.length := fun h => by rw [List.length_take, Nat.min_eq_left h]
  have z : callD prog fa (k + 1) n ds S = match d.own with
      | .pl => runD d.body d.slots ⟨callD prog fa k, fa, S.length⟩ ds S
      | .ow => runK d.body d.slots ⟨callD prog fa k, fa, S.length⟩ ds S
      | .ini c => runI (fa c) d.body d.slots ⟨callD prog fa k, fa, S.length⟩ ds S := by
    show (match prog[n]? with
      | some d => if ds.length = d.pars then (match d.own with
          | .pl => runD d.body d.slots ⟨callD prog fa k, fa, S.length⟩ ds S
          | .ow => runK d.body d.slots ⟨callD prog fa k, fa, S.length⟩ ds S
          | .ini c => runI (fa c) d.body d.slots ⟨callD prog fa k, fa, S.length⟩ ds S) else .no
      | none => .no) = _
    rw [hd]
    exact if_pos hl
  rw [z] at wc
  refine hb _ c (fun _ => rfl) PassesOwn.leaving ⟨rfl, rfl⟩ ⟨rfl, rfl, rfl, rfl, rfl, hr, hcd, rfl⟩ er _ lk' _ tk _ S μ _ H F A0 _ ?_
  cases ow : d.own with
  | ini c => exact absurd ow (hk c)
  | pl =>
    rw [ow] at wc
    have wc2 : WC K er S μ H F (runD d.body d.slots ⟨callD prog fa k, fa, S.length⟩ ds S) Q E := wc
    unfold runD at wc2
    dsimp only at wc2
    generalize d.body ⟨callD prog fa k, fa, S.length⟩ (ds.map some ++ List.replicate (d.slots - ds.length) none) S = r at wc2
    cases r with
    | no => exact wc2
    | ex cc x S1 => exact fun fr1 σ1 μ1 H1 F1 cls dx A1 P1 ee => wc2 μ1 H1 F1 cls dx (hs.takeS A1.hs P1) (lt P1.le) P1.take ee
    | ok p S1 =>
      obtain ⟨fl, fr1⟩ := p
      cases fl with
      | nx => exact fun σ1 μ1 H1 F1 A1 P1 => wc2 .non μ1 H1 F1 [] (hs.takeS A1.hs P1) (lt P1.le) P1.take (.c (.t .non)) .nil
      | bk => exact wc2.elim
      | ct => exact wc2.elim
      | rt dd =>
        intro σ1 μ1 H1 F1 A1 P1 v as r o
        dsimp only at wc2
        split at wc2
        · rename_i e2 sn em
          obtain ⟨as', r', nd', -, mem'⟩ := mv_ok 6 em A1.hs r o
          refine wc2 v μ1 H1 F1 as' (hs.takeS A1.hs P1) (lt P1.le) P1.take (by rw [lt P1.le]; exact r') ⟨nd', fun a ha => ?_⟩
          rcases mem' a ha with z | ⟨m, _, _, hm1, hm2, rfl⟩
          · obtain ⟨z1, z2, z3⟩ := o.fr a z
            exact ⟨z1, z2, fun j hj => z3 j (by rw [lt P1.le] at hj; exact Nat.lt_of_lt_of_le hj P1.le)⟩
          · refine ⟨P1.nC m hm1 hm2, A1.hs.out m hm2, fun j hj z => ?_⟩
            rw [lt P1.le] at hj
            have := A1.hs.inj j m (Nat.lt_of_lt_of_le hj P1.le) hm2 z
            omega
        · split at wc2
          · rename_i kvs ek
            obtain ⟨F2, as', q1, q2, q3, q4⟩ := mvd_ok hs A1.hs P1 r ek
            exact wc2 v μ1 H1 F2 as' q1 (lt P1.le) q2 q3 q4
          · exact wc2.elim
  | ow =>
    rw [ow] at wc
    have wc2 : WC K er S μ H F (runK d.body d.slots ⟨callD prog fa k, fa, S.length⟩ ds S) Q E := wc
    unfold runK at wc2
    dsimp only at wc2
    generalize d.body ⟨callD prog fa k, fa, S.length⟩ (ds.map some ++ List.replicate (d.slots - ds.length) none) S = r at wc2
    cases r with
    | no => exact wc2
    | ex cc x S1 => exact fun fr1 σ1 μ1 H1 F1 cls dx A1 P1 ee => wc2 μ1 H1 F1 cls dx (hs.takeS A1.hs P1) (lt P1.le) P1.take ee
    | ok p S1 =>
      obtain ⟨fl, fr1⟩ := p
      cases fl with
      | nx => exact fun σ1 μ1 H1 F1 A1 P1 => wc2 .non μ1 H1 F1 [] (hs.takeS A1.hs P1) (lt P1.le) P1.take (.c (.t .non)) .nil
      | bk => exact wc2.elim
      | ct => exact wc2.elim
      | rt dd =>
        intro σ1 μ1 H1 F1 A1 P1 v as r o
        dsimp only at wc2
        split at wc2
        · rename_i kvs ek
          obtain ⟨as', q3, q4⟩ := mvk_ok hs A1.hs P1 r ek
          exact wc2 v μ1 H1 F1 as' (hs.takeS A1.hs P1) (lt P1.le) P1.take q3 q4
        · exact wc2.elim
theorem fng_def {prog : List Def} {fa : Nat → Addr} {n : Nat} {d : Def} {x qual : Str} {params : Arguments} {body : List Stmt} {scope : Scope} {dvs : List V} {kws : List (Str × V)} {f : Addr} {fd : FuncData} {N ps : List Str}
    (FD : FunD K x qual params body scope dvs kws f fd) (Sc : FnScope N ps scope) (hd : prog[n]? = some d) (hps : ps.length = d.pars) (hN : N.length = d.slots)
    (bi : ∀ x ∈ gi.bs, mg x = none) (cs : ∀ p ∈ gi.cs, ∃ u, mg p.1 = some u ∧ cV p.2 u)
    (hb : ∀ X, Cok X gi k N scope → (∀ x, X.fn x = true) → PassesOwn (model X.prog X.w) X.A X.env X.xe → (X.stack = X.env :: X.outer ∧ X.env.frame = some X.env.locals) → Mk X P w K mg base k qual fd → SemB X gi k body d.body)
    (lk : ∀ L, LnkP P w K mg base gi k er ⟨callD prog fa k, fa, L⟩) (hk : ∀ c, d.own ≠ .ini c := by intro _ z; cases z) : FnG gi.gd P w K mg base (CX P w) (3 * (k + 1)) f fd ps (spC K er (callD prog fa (k + 1) n) ps.length) :=
  fng_defJ (j := 3 * k + 2) (by omega) FD Sc hd hps hN bi cs (fun X c h1 h2 h3 ⟨e1, e2, e3, e4, e5, e6, e7, e8⟩ => hb X c h1 h2 h3 ⟨e1, e2, e3, e4, e5, e6, e7, e8⟩) lk hk
theorem fng_zero {f : Addr} {fd : FuncData} {ps : List Str} {prog : List Def} {fa : Nat → Addr} {n : Nat} : FnG gi.gd P w K mg base (CX P w) 0 f fd ps (spC K er (callD prog fa 0 n) ps.length) where
  n := fun vs H Q E h => h.1
  go := fun A outer s H args us vs Q E _ _ _ _ _ hsp => by
    obtain ⟨_, ds, S, μ, F, _, _, wc⟩ := hsp
    exact wc.elim
/-- all defs of the module, at all levels -/
structure DefOk (P : Program) (w : World) (K : PySem.W.Frag) (mg : Str → Option Value) (base : Heap) (gi : GI) (er : ER) (prog : List Def) (fa : Nat → Addr) (n : Nat) (d : DI) : Prop where
  ex : ∃ fd, mg d.name = some (.ref (fa n)) ∧ PySem.W.keepIn K (.ref (fa n)) = true ∧ (∀ s ∈ d.shapes, ∃ g, KBn K fd d.ps s.1 s.2.1 g (gV s.2.2)) ∧
    ∀ k, (∀ L, LnkP P w K mg base gi k er ⟨callD prog fa k, fa, L⟩) → FnG gi.gd P w K mg base (CX P w) (3 * (k + 1)) (fa n) fd d.ps (spC K er (callD prog fa (k + 1) n) d.ps.length)
/-- .. and of its classes -/
structure ClsOk (P : Program) (w : World) (K : PySem.W.Frag) (mg : Str → Option Value) (base : Heap) (gi : GI) (er : ER) (prog : List Def) (fa : Nat → Addr) (c : CI) : Prop where
  ex : Cls K (fa c.c) ∧ (∀ f ∈ c.fs, NoAttr K (fa c.c) f) ∧ ∃ fI fd, L2.Mk K (fa c.c) fI ∧ mg c.name = some (.ref (fa c.c)) ∧ Binds K fd ("self" :: c.ps) [] ∧
    ∀ k, (∀ L, LnkP P w K mg base gi k er ⟨callD prog fa k, fa, L⟩) → FnG gi.gd P w K mg base (CX P w) (3 * (k + 1) - 1) fI fd ("self" :: c.ps) (spI K er (fa c.c) (callD prog fa (k + 1) c.n) c.ps.length)
structure MethOk (P : Program) (w : World) (K : PySem.W.Frag) (mg : Str → Option Value) (base : Heap) (gi : GI) (er : ER) (prog : List Def) (fa : Nat → Addr) (m : MI) : Prop where
  ex : ∃ fd, Cls K (fa m.c) ∧ Binds K fd m.ps [] ∧ (match m.pr with
      | false => Meth K (fa m.c) m.name (fa m.n)
      | true => ∃ p, PropOf K (fa m.c) m.name p (fa m.n)) ∧
    ∀ k, (∀ L, LnkP P w K mg base gi k er ⟨callD prog fa k, fa, L⟩) → FnG gi.gd P w K mg base (CX P w) (3 * (k + 1) - 1) (fa m.n) fd m.ps (spC K er (callD prog fa (k + 1) m.n) m.ps.length)
/-- .. and of its generators' defs -/
structure GenOk (P : Program) (w : World) (K : PySem.W.Frag) (mg : Str → Option Value) (base : Heap) (gi : GI) (er : ER) (prog : List Def) (fa : Nat → Addr) (g : GnI) : Prop where
  ex : ∃ f fd, mg g.name = some (.ref f) ∧ PySem.W.keepIn K (.ref f) = true ∧ Binds K fd g.ps [] ∧ ∀ k, GnG P w K mg base (3 * k - 3) f fd g.ps (spG K er (callD prog fa k g.n) g.ps.length)
theorem fni_zero {f C : Addr} {fd : FuncData} {ps : List Str} {prog : List Def} {fa : Nat → Addr} {n : Nat} : FnG gi.gd P w K mg base (CX P w) 0 f fd ("self" :: ps) (spI K er C (callD prog fa 0 n) ps.length) where
  n := fun vs H Q E h => by
    obtain ⟨x, dx, ws, e, l, _⟩ := h
    rw [e, List.length_cons, l, List.length_cons]
  go := fun A outer s H args us vs Q E _ _ _ _ _ hsp => by
    obtain ⟨_, _, _, _, _, _, _, _, _, _, _, _, _, _, _, _, wc⟩ := hsp
    exact wc.elim
theorem all_defsC {prog : List Def} {fa : Nat → Addr} (ho : XOk P K mg gi.xs gi.ls fa er) (ht : ∀ t ∈ gi.ts, tabF K t.1 = fa t.2) (h : ∀ n d, gi.ds[n]? = some d → DefOk P w K mg base gi er prog fa n d) (hc : ∀ c ∈ gi.cl, ClsOk P w K mg base gi er prog fa c) (hm : ∀ m ∈ gi.me, MethOk P w K mg base gi er prog fa m) (hg : ∀ g ∈ gi.ge, GenOk P w K mg base gi er prog fa g := by exact fun _ h => nomatch h) : ∀ k L, LnkP P w K mg base gi k er ⟨callD prog fa k, fa, L⟩
  | 0, L => ⟨fun n d e => by
    obtain ⟨fd, h1, h2, h3, _⟩ := (h n d e).ex
    exact ⟨fd, fng_zero (prog := prog) (fa := fa) (n := n), h1, h2, h3⟩, ho, ht, ⟨fun _ _ _ _ => rfl, fun c e => by
      obtain ⟨h1, h2, fI, fd, h3, h4, h5, _⟩ := (hc c e).ex
      exact ⟨h1, h2, fI, fd, h3, h4, h5, fni_zero (prog := prog) (fa := fa) (n := c.n)⟩, fun m e => by
      obtain ⟨fd, h1, h2, h3, _⟩ := (hm m e).ex
      exact ⟨fd, h1, h2, fng_zero (prog := prog) (fa := fa) (n := m.n), h3⟩, fun g e => by
      obtain ⟨f, fd, h1, h2, h3, h4⟩ := (hg g e).ex
      exact ⟨f, fd, h1, h2, h3, h4 0⟩⟩⟩
  | k + 1, L => ⟨fun n d e => by
    obtain ⟨fd, h1, h2, h3, h4⟩ := (h n d e).ex
    exact ⟨fd, h4 k (all_defsC ho ht h hc hm hg k), h1, h2, h3⟩, ho, ht, ⟨fun z => absurd z (Nat.succ_ne_zero k), fun c e => by
      obtain ⟨h1, h2, fI, fd, h3, h4, h5, h6⟩ := (hc c e).ex
      exact ⟨h1, h2, fI, fd, h3, h4, h5, h6 k (all_defsC ho ht h hc hm hg k)⟩, fun m e => by
      obtain ⟨fd, h1, h2, h3, h4⟩ := (hm m e).ex
      exact ⟨fd, h1, h2, h4 k (all_defsC ho ht h hc hm hg k), h3⟩, fun g e => by
      obtain ⟨f, fd, h1, h2, h3, h4⟩ := (hg g e).ex
      exact ⟨f, fd, h1, h2, h3, h4 (k + 1)⟩⟩⟩
theorem all_defs {prog : List Def} {fa : Nat → Addr} (ho : XOk P K mg gi.xs gi.ls fa er) (ht : ∀ t ∈ gi.ts, tabF K t.1 = fa t.2) (h : ∀ n d, gi.ds[n]? = some d → DefOk P w K mg base gi er prog fa n d) (k : Nat) (L : Nat) (hc : ∀ c ∈ gi.cl, ClsOk P w K mg base gi er prog fa c := by exact fun _ h => nomatch h) (hm : ∀ m ∈ gi.me, MethOk P w K mg base gi er prog fa m := by exact fun _ h => nomatch h) (hg : ∀ g ∈ gi.ge, GenOk P w K mg base gi er prog fa g := by exact fun _ h => nomatch h) : LnkP P w K mg base gi k er ⟨callD prog fa k, fa, L⟩ := all_defsC ho ht h hc hm hg k L
end
end Mi

set_option Elab.async false
set_option linter.all false
set_option maxRecDepth 100000
set_option maxHeartbeats 4000000
/-! N16: the end of a law: its def is called at the heap behind the top, where no repr is under way -/
namespace Mi
open PySem PySem.Spec PyProof.Rows L2
section
variable {P : Program} {w : World} {K : PySem.W.Frag} {mg mb : Str → Option Value} {k : Nat} {fa a : Addr} {fd : FuncData} {x : Str} {sp : Sp} {s1 : Shared} {vs : List Value} {ns : List Int}
/-- from one abstract heap that tracks the script at most -/
theorem call_core {H : Hp} (kx : K.In s1.heap) (gl : s1.heap.Ns mainGlobals mg) (bl : s1.heap.Ns builtinsNs mb) (bb : ∀ x : Str, x ≠ "__name__" → mb x = bootBuiltins x) (lim : s1.heap.NoLimit) (hg : s1.gens = #[])
    (ha : s1.heap.get? a = some { cls := .type "list", data := .seq vs.toArray }) (hr : Room k callerA) (F : ∀ base : Heap, K.In base → base.Ns mainGlobals mg → FnG (some []) P w K mg base (CX P w) k fa fd [x] sp) (bd : ∀ (s : Shared) (u : Value), BindsTo s fd ⟨[u], []⟩ [(x, u)])
    (hO : Only H) (hp : sp [.ref a] H (fun v _ => v = .bl true) fun _ _ _ => False) (ok : HOk P w H s1.heap) (only : ∀ b, H b ≠ none → b = a) (hK : H a ≠ none → K.lookup a = none) :
    codeAny (model P w) callerA (.call (.ref fa) ⟨[.ref a], []⟩) (fun r s' => r = .ok (.ret (.bool true)) ∧ OldK s1.heap s'.heap ∧ s'.os = s1.os ∧ AllBare s'.gens) s1 := by
  -- what is a dict is not the script
  have nodict : ∀ {b : Addr} {o : Obj} {es : Array DictEntry} {ep : Nat}, s1.heap.get? b = some o → o.data = .dict es ep → H b = none := by
    intro b o es ep e d
    cases q : H b with
    | none => rfl
    | some u =>
      have eb := only b (by rw [q]; intro z; cases z)
      rw [eb, ha] at e
      cases e
      cases d
  have ns_ : ∀ {b : Addr} {m : Str → Option Value}, s1.heap.Ns b m → (hidT s1.heap H).Ns b m := by
    rintro b m ⟨o, es, ep, e, d, r⟩
    exact ⟨o, es, ep, hidT_get e (nodict e d), d, r⟩
  have kin : K.In (hidT s1.heap H) := by
    intro b o e
    refine hidT_get (kx b o e) ?_
    cases q : H b with
    | none => rfl
    | some u =>
      have nn : H b ≠ none := by rw [q]; intro z; cases z
      have eb := only b nn
      subst eb
      rw [hK nn] at e
      cases e
  obtain ⟨mc, l1, l2⟩ := lim
  have M : Mod K mg (hidT s1.heap H) := { kin := kin, glob := ns_ gl, blt := ⟨mb, ns_ bl, bb⟩, nolimit := ⟨mc, ns_ l1, l2⟩ }
  have e0 : Env0 P w K mg (hidT s1.heap H) callerA [] s1 H :=
    { frames := rfl, mod := M, bs := fun b o e => of_hidT e, bsz := Nat.le_of_eq (hidT_size _ _), funs := trivial, frf := (fun b hb => by cases hb), hok := ok, bare := .of_eq hg }
  have run := (F _ kin (ns_ gl)).go callerA [] s1 H ⟨[.ref a], []⟩ [.ref a] [.ref a] _ _ rfl hr e0 (bd s1 (.ref a)) (.cons rfl .nil) hp
  refine codeAny_mono run ?_
  rintro (e | fl) s' h
  · obtain ⟨_, _, _, _, _, _, _, _, _, _, _, _, h⟩ := h
    exact h.elim
  cases fl with
  | next => exact h.elim
  | brk => exact h.elim
  | cont => exact h.elim
  | ret u =>
    obtain ⟨v, H', os, bare, un, ok', rv, q⟩ := h
    have ev : v = .bl true := q
    subst ev
    have eu : u = Value.bool true := rv
    subst eu
    refine ⟨rfl, OldK.of_keep ?_, os, bare⟩
    intro b o e
    cases q1 : H b with
    | none => exact un.keep b o e q1 (fun z => by cases z) (fun z => by cases z)
    | some u =>
      rcases hO b with z | ⟨ob, xs, z⟩
      · rw [q1] at z
        cases z
      · obtain ⟨y1, _⟩ := ok b _ z
        obtain ⟨y2, _⟩ := ok' b _ (un.frzs b ob _ z)
        rw [e] at y1
        cases y1
        exact y2
theorem law_callG (kx : K.In s1.heap) (gl : s1.heap.Ns mainGlobals mg) (bl : s1.heap.Ns builtinsNs mb) (bb : ∀ x : Str, x ≠ "__name__" → mb x = bootBuiltins x) (lim : s1.heap.NoLimit) (hg : s1.gens = #[])
    (ha : s1.heap.get? a = some { cls := .type "list", data := .seq vs.toArray }) (hi : IntsAre vs ns) (hl : ns.length ≤ sizeLine) (hr : Room k callerA) (F : ∀ base : Heap, K.In base → base.Ns mainGlobals mg → FnG (some []) P w K mg base (CX P w) k fa fd [x] sp) (bd : ∀ (s : Shared) (u : Value), BindsTo s fd ⟨[u], []⟩ [(x, u)])
    (hp : ∀ H : Hp, Only H → SqL K H a (ns.map V.int) → sp [.ref a] H (fun v _ => v = .bl true) fun _ _ _ => False) :
    codeAny (model P w) callerA (.call (.ref fa) ⟨[.ref a], []⟩) (fun r s' => r = .ok (.ret (.bool true)) ∧ OldK s1.heap s'.heap ∧ s'.os = s1.os ∧ AllBare s'.gens) s1 := by
  have lv := hi.length
  cases hk : K.lookup a with
  | some o =>
    have e := kx a o hk
    rw [ha] at e
    cases e
    have on : Only (fun _ => none) := fun _ => .inl rfl
    have sq : SqL K (fun _ => none) a (ns.map V.int) := .inr ⟨_, vs.toArray, _, hk, rfl, rfl, rfl, by rw [List.size_toArray, lv]; exact hl, by simpa using vals_ints hi⟩
    exact call_core kx gl bl bb lim hg ha hr F bd on (hp _ on sq) (fun b u z => by cases z) (fun b z => absurd rfl z) fun z => absurd rfl z
  | none =>
    generalize eo : ({ cls := .type "list", data := .seq vs.toArray } : Obj) = ob at ha
    let H : Hp := fun b => if b = a then some (.frz ob (.lst (ns.map V.int))) else none
    have Ha : H a = some (.frz ob (.lst (ns.map V.int))) := if_pos rfl
    have Hn : ∀ b, b ≠ a → H b = none := fun b z => if_neg z
    have on : Only H := by
      intro b
      by_cases z : b = a
      · exact .inr ⟨_, _, by rw [z]; exact Ha⟩
      · exact .inl (Hn b z)
    have only : ∀ b, H b ≠ none → b = a := by
      intro b z
      by_cases y : b = a
      · exact y
      · exact absurd (Hn b y) z
    refine call_core (H := H) kx gl bl bb lim hg (by rw [eo]; exact ha) hr F bd on (hp H on (.inl (.inr ⟨_, Ha⟩))) ?_ only fun _ => hk
    intro b u z
    have eb := only b (by rw [z]; intro y; cases y)
    subst eb
    rw [Ha] at z
    cases z
    refine ⟨ha, by rw [List.length_map]; exact hl, vs, 0, vals_ints hi, ?_⟩
    rw [eo]
    exact ha
end
/-- the goal that the head leaves -/
theorem walk_G {l : PySem.W.OpenLaw} {n k : Nat} {q : Program} {loose : List Str} {XP : (Str → Option Value) → Heap → Prop} {YP : World → Heap → Prop} {d : DefRec} {x : Str} (hn : l.most = some n) (hn2 : n ≤ sizeLine) (hdf : d.params.defaults = []) (hr : Room k callerA)
    (F : ∀ (w : World) (mg : Str → Option Value) (fa : Addr) (h : Heap), YP w h → h.Ns mainGlobals mg → mg d.name = some (.ref fa) → ∃ (K : PySem.W.Frag) (fd : FuncData) (sp : Sp), K.In h ∧ (∀ (s : Shared) (u : Value), BindsTo s fd ⟨[u], []⟩ [(x, u)]) ∧
      (∀ (H : Hp) (a : Addr) (ns : List Int), ns.length ≤ n → Only H → SqL K H a (ns.map V.int) → sp [.ref a] H (fun v _ => v = .bl true) fun _ _ _ => False) ∧ ∀ base : Heap, K.In base → base.Ns mainGlobals mg → FnG (some []) l.prog w K mg base (CX l.prog w) k fa fd [x] sp) :
    PySem.W.WalkO q loose XP YP l.row.toRowW d [] (fun f vs => PySem.call f vs) := by
  apply Att.attach_call hn hdf
  intro w s0 s1 mg mb fa o pm cd doc a vs ns G Y ho hd hcd hmg hobj hints hlen hg
  obtain ⟨K, fd, sp, kx, bd, hp, hF⟩ := F w mg fa _ Y G.T.g hmg
  exact law_callG kx G.T.g G.T.b G.T.builtins G.T.nolimit hg hobj hints (Nat.le_trans hlen hn2) hr hF bd fun H hO hS => hp H a ns hlen hO hS
/-- the law's promise, from what the small language says of it -/
theorem law_sp {K : PySem.W.Frag} {er : ER} {prog : List Def} {fa : Nat → Addr} {k n : Nat} (H : Hp) (a : Addr) (ns : List Int) (hO : Only H) (hS : SqL K H a (ns.map V.int)) (h : callD prog fa k n [.t (.scr ns)] [] = .ok (.bl true) []) :
    spC K er (callD prog fa k n) 1 [.ref a] H (fun v _ => v = .bl true) fun _ _ _ => False := by
  have hs : Hs K [] (fun _ => 0) H H := ⟨fun _ _ e => .inl e, fun m o e => (by cases e), fun m hm => absurd hm (Nat.not_lt_zero _), fun m j hm => absurd hm (Nat.not_lt_zero _), fun m P q e => by cases e⟩
  have go : Rep K (At H) (.ref a) (.scr ns) → spC K er (callD prog fa k n) 1 [.ref a] H (fun v _ => v = .bl true) fun _ _ _ => False := fun r => by
    refine ⟨rfl, [.t (.scr ns)], [], fun _ => 0, H, hs, .cons (.t r) .nil, ?_⟩
    rw [h]
    intro v μ' H' F' as _ _ _ r _
    exact rep_bl (repT r).1
  rcases hS with (h | ⟨o, h⟩) | h
  · rcases hO a with z | ⟨o, xs, z⟩
    · rw [z] at h
      cases h
    · rw [z] at h
      cases h
  · exact go (.scr (.inl ⟨o, h⟩))
  · exact go (.scr (.inr fun _ => .inr h))
end Mi

set_option Elab.async false
set_option linter.all false
set_option maxRecDepth 100000
set_option maxHeartbeats 4000000
/-! N17: what the generated text uses -/
namespace Mi
open PySem PySem.Spec PyProof.Rows L2
section
variable {X : Cx} {gi : GI} {k : Nat} {N : List Str} {sc : Scope}
theorem isC : CmpS X (compareOp .Is) (cmpD .is_) := by
  refine ⟨_, op_isN, ?_⟩
  intro er W L fr σ S0 S μ0 μ H0 F0 H F Q x y v w as bs A P r1 r2 hw
  unfold cmpD at hw
  split at hw <;> first | (rename_i z; cases z; done) | skip
  all_goals first | exact hw.elim | skip
  all_goals first
    | (refine ⟨rep_non (repT r2).1, ?_⟩
       split at hw
       · rw [isNon_rep (repT r1).1]
         exact giveB hw A P
       · rename_i n
         rw [ref_ne r1 n]
         exact giveB hw A P)
    | skip
theorem isnC : CmpS X (compareOp .IsNot) (cmpD .isn) := by
  refine ⟨_, op_notN, ?_⟩
  intro er W L fr σ S0 S μ0 μ H0 F0 H F Q x y v w as bs A P r1 r2 hw
  unfold cmpD at hw
  split at hw <;> first | (rename_i z; cases z; done) | skip
  all_goals first | exact hw.elim | skip
  all_goals first
    | (refine ⟨rep_non (repT r2).1, ?_⟩
       split at hw
       · rw [isNon_rep (repT r1).1]
         exact giveB hw A P
       · rename_i n
         rw [ref_ne r1 n]
         exact giveB hw A P)
    | skip
theorem swaps_of {v : Expr} {t : Option Expr} {l : Nat} {b : Bool} (hs : X.env.scope = sc) (h : swapsWith v t l { X.env with scope := sc } = pure b) : swapsWith v t l X.env = pure b := by
  subst hs
  exact h
theorem semo_none : SemO X gi k none none := trivial
theorem semo_some {e : Expr} {f : XE} (h : SemE X gi k e f) : SemO X gi k (some e) (some f) := h
/-! ### the arguments of a call -/
def sclA : List (Sum Nat T) → Bool
  | [] => true
  | .inl _ :: r => sclA r
  | .inr x :: r => x.scl && sclA r
theorem sclOk : ∀ {ar : List (Sum Nat T)}, sclA ar = true → ∀ y, Sum.inr y ∈ ar → y.scl = true
  | .inl _ :: r, h, y, hy => sclOk (ar := r) h y ((List.mem_cons.mp hy).resolve_left (by intro z; cases z))
  | .inr x :: r, h, y, hy => by
    have h' : (x.scl && sclA r) = true := h
    rw [Bool.and_eq_true] at h'
    rcases List.mem_cons.mp hy with z | z
    · cases z
      exact h'.1
    · exact sclOk h'.2 y z
/-- which argument, which default -/
def pick {α : Type} (ar : List (Sum Nat Nat)) (us mv ws : List α) : List α := ar.filterMap fun s => match s with
  | .inl k => (us ++ ws)[k]?
  | .inr j => mv[j]?
theorem vals_get {vs : List V} {us : List Value} (h : Vals vs us) : ∀ i : Nat, (∃ v u, vs[i]? = some v ∧ us[i]? = some u ∧ L2.RelV v u) ∨ (vs[i]? = none ∧ us[i]? = none) := by
  induction h with
  | nil => exact fun i => .inr ⟨rfl, rfl⟩
  | cons r _ ih =>
    intro i
    cases i with
    | zero => exact .inl ⟨_, _, rfl, rfl, r⟩
    | succ i => exact ih i
theorem pick_rel {ar : List (Sum Nat Nat)} {vs mz zs : List V} {us mv ws : List Value} (h1 : Vals vs us) (h2 : Vals mz mv) (h3 : Vals zs ws) : Vals (pick ar vs mz zs) (pick ar us mv ws) := by
  induction ar with
  | nil => exact .nil
  | cons s r ih =>
    unfold pick at ih ⊢
    have h13 : Vals (vs ++ zs) (us ++ ws) := h1.append h3
    cases s with
    | inl i =>
      rcases vals_get h13 i with ⟨v, u, e1, e2, r1⟩ | ⟨e1, e2⟩
      · rw [List.filterMap_cons_some (b := v) (by exact e1), List.filterMap_cons_some (b := u) (by exact e2)]
        exact .cons r1 ih
      · rw [List.filterMap_cons_none (by exact e1), List.filterMap_cons_none (by exact e2)]
        exact ih
    | inr i =>
      rcases vals_get h2 i with ⟨v, u, e1, e2, r1⟩ | ⟨e1, e2⟩
      · rw [List.filterMap_cons_some (b := v) (by exact e1), List.filterMap_cons_some (b := u) (by exact e2)]
        exact .cons r1 ih
      · rw [List.filterMap_cons_none (by exact e1), List.filterMap_cons_none (by exact e2)]
        exact ih
end
section
variable {K : PySem.W.Frag} {x qual : Str} {params : Arguments} {body : List Stmt} {scope : Scope} {kws : List (Str × V)} {f : Addr} {fd : FuncData} {ps ks : List Str} {n : Nat}
/-- a call that leaves nothing to a default -/
theorem kb_plain (ar : List (Sum Nat Nat)) (ar' : List (Sum Nat T)) (F : FunD K x qual params body scope [] kws f fd) (e : ∀ vs zs : List V, pick ar vs [] zs = gV ar' vs zs)
    (h : ∀ (kV doc pm : Value) (an : Option Addr) (cdv ct : Value) (us ws : List Value), us.length = n → ws.length = ks.length → bindArgs (PySem.W.fnOf x qual params body scope .none kV doc pm an cdv ct) ⟨us, ks.zip ws⟩ = pure (ps.zip (pick ar us [] ws))) : ∃ g, KBn K fd ps n ks g (gV ar') :=
  ⟨fun us ws => pick ar us [] ws, fun s us ws X l1 l2 => by
    obtain ⟨oc, od, dV, kV, doc, pm, an, cdv, ct, osl, rfl, lk, hcd, hD, hK⟩ := F.ex
    rcases hD with ⟨_, rfl⟩ | ⟨e, _⟩
    · exact .of_eq (h kV doc pm an cdv ct us ws l1 l2)
    · exact absurd rfl e, fun {vs us zs ws} r1 r2 => by rw [← e]; exact pick_rel r1 .nil r2⟩
/-- .. the keyword-only ones of ms are left to their defaults -/
theorem kb_dfl (ar : List (Sum Nat Nat)) (ar' : List (Sum Nat T)) (ms : List (Str × V)) (F : FunD K x qual params body scope [] kws f fd) (hk : kws ≠ []) (hms : ∀ q ∈ ms, q ∈ kws) (e : ∀ vs zs : List V, pick ar vs (ms.map (·.2)) zs = gV ar' vs zs)
    (h : ∀ (D : Addr) (doc pm : Value) (an : Option Addr) (cdv ct : Value) (us mv ws : List Value), us.length = n → mv.length = ms.length → ws.length = ks.length →
      KwChain D ((ms.map (·.1)).zip mv) (bindArgs (PySem.W.fnOf x qual params body scope .none (.ref D) doc pm an cdv ct) ⟨us, ks.zip ws⟩) (ps.zip (pick ar us mv ws))) : ∃ g, KBn K fd ps n ks g (gV ar') := by
  obtain ⟨mv, hb⟩ := F.kbinds0 n ks ms (fun us mv ws => pick ar us mv ws) hk hms pick_rel h
  exact ⟨_, hb.to, fun {vs us zs ws} r1 r2 => by rw [← e]; exact hb.rel r1 r2⟩
end
end Mi

set_option Elab.async false
set_option linter.all false
set_option maxRecDepth 100000
set_option maxHeartbeats 4000000
/-! N18: reckoning with the small language -/
namespace Mi
open PySem L2
section
variable {q : Q} {fr fr1 fr2 : Frame} {S S1 S2 : Store} {a b c e : XE} {ta tb : XT} {h hk : XA} {s t : XB} {it : XI} {d x y : D} {n : Nat}
theorem z_v {i : Nat} (h : fr[i]? = some (some d)) : Z.v i q fr S = .ok d S := by
  unfold Z.v
  rw [h]
theorem z_w {i : Nat} : Z.v i q fr S = (match fr[i]? with
  | some (some d) => .ok d S
  | _ => .no) := rfl
theorem z_k {x : T} : Z.k x q fr S = .ok (.t x) S := rfl
theorem z_g : Z.g n q fr S = .ok (.t (.fn n (q.fa n))) S := rfl
theorem z_nil : Z.nil q fr S = .ok [] S := rfl
theorem z_cons : Z.cons a h q fr S = (a q fr S).bnd fun d S1 => (h q fr S1).bnd fun ds S2 => .ok (d :: ds) S2 := rfl
theorem z_lst : Z.lst h q fr S = (h q fr S).bnd fun ds S1 => .ok (Z.mkL ds) S1 := rfl
theorem z_tup : Z.tup h q fr S = (h q fr S).bnd fun ds S1 => .ok (Z.mkT ds) S1 := rfl
theorem z_bin {o : BO} : Z.bin o a b q fr S = (a q fr S).bnd fun x S1 => (b q fr S1).bnd fun y S2 => bop o x y S2 := rfl
theorem z_cmp {o : CO} : Z.cmp o a b q fr S = (a q fr S).bnd fun x S1 => (b q fr S1).bnd fun y S2 => (cmpD o x y S2).bnd fun b S3 => .ok (.bl b) S3 := rfl
theorem z_tcmp {o : CO} : Z.tcmp o a b q fr S = (a q fr S).bnd fun x S1 => (b q fr S1).bnd fun y S2 => cmpD o x y S2 := rfl
theorem z_ch {o p : CO} : Z.ch o p a b c q fr S = (Z.tch o p a b c q fr S).bnd fun b S => .ok (.bl b) S := rfl
theorem z_tch {o p : CO} : Z.tch o p a b c q fr S = (a q fr S).bnd fun x S1 => (b q fr S1).bnd fun y S2 => (cmpD o x y S2).bnd fun t S3 => if t = true then (c q fr S3).bnd fun z S4 => cmpD p y z S4 else .ok false S3 := rfl
theorem z_tval : Z.tval a q fr S = (a q fr S).bnd fun x S1 => truD x S1 := rfl
theorem z_tnot : Z.tnot ta q fr S = (ta q fr S).bnd fun b S1 => .ok (!b) S1 := rfl
theorem z_tand : Z.tand ta tb q fr S = (ta q fr S).bnd fun x S1 => if x = true then tb q fr S1 else .ok false S1 := rfl
theorem z_tor : Z.tor ta tb q fr S = (ta q fr S).bnd fun x S1 => if x = true then .ok true S1 else tb q fr S1 := rfl
theorem z_neg : Z.neg a q fr S = (a q fr S).bnd fun x S1 => match x with
  | .t (.int i) => .ok (.int (-i)) S1
  | _ => .no := rfl
theorem z_not : Z.not a q fr S = (a q fr S).bnd fun x S1 => (truD x S1).bnd fun b S2 => .ok (.bl (!b)) S2 := rfl
theorem z_and : Z.and a b q fr S = (a q fr S).bnd fun x S1 => (truD x S1).bnd fun t S2 => if t = true then b q fr S2 else .ok x S2 := rfl
theorem z_or : Z.or a b q fr S = (a q fr S).bnd fun x S1 => (truD x S1).bnd fun t S2 => if t = true then .ok x S2 else b q fr S2 := rfl
theorem z_ife : Z.ife ta a b q fr S = (ta q fr S).bnd fun t S1 => if t = true then a q fr S1 else b q fr S1 := rfl
theorem z_ix : Z.ix a b q fr S = (a q fr S).bnd fun x S1 => (b q fr S1).bnd fun y S2 => ixD x y S2 := rfl
theorem z_oN : Z.opt none q fr S = .ok none S := rfl
theorem z_oS : Z.opt (some e) q fr S = (e q fr S).bnd fun x S1 => match x with
  | .t (.int i) => .ok (some i) S1
  | _ => .no := rfl
theorem z_sl {lo hi : Option XE} : Z.sl a lo hi q fr S = (a q fr S).bnd fun x S1 => (Z.opt lo q fr S1).bnd fun l S2 => (Z.opt hi q fr S2).bnd fun h S3 => slD x l h S3 := rfl
theorem z_rev : Z.rev a q fr S = (a q fr S).bnd fun x S1 => revD x S1 := rfl
theorem z_f1 {f : U1} : Z.f1 f a q fr S = (a q fr S).bnd fun x S1 => f1D f x S1 := rfl
theorem z_f2 {f : U2} : Z.f2 f a b q fr S = (a q fr S).bnd fun x S1 => (b q fr S1).bnd fun y S2 => f2D f x y S2 := rfl
theorem z_call {ar : List (Sum Nat T)} : Z.call n h ar q fr S = (h q fr S).bnd fun ds S1 => Z.callA q n ds ar S1 := rfl
theorem z_args : Z.args h hk q fr S = (h q fr S).bnd fun ds S1 => (hk q fr S1).bnd fun es S2 => .ok (ds ++ es) S2 := rfl
theorem z_me {m : Z.M} : Z.me m a h q fr S = (a q fr S).bnd fun x S1 => if tyD S1 x = some "list" then (h q fr S1).bnd fun ds S2 => Z.mD m x ds S2 else .no := rfl
theorem z_skip : Z.skip q fr S = .ok (.nx, fr) S := rfl
theorem z_seq : Z.seq s t q fr S = (s q fr S).bnd fun p S1 => match p.1 with
  | .nx => t q p.2 S1
  | f => .ok (f, p.2) S1 := rfl
theorem z_set {i : Nat} {m : Bool} : Z.set i m a q fr S = (a q fr S).bnd fun d S1 => match Z.stD m d S1 with
  | some (e, S2) => .ok (.nx, fr.set i (some e)) S2
  | none => .no := rfl
theorem z_sett {is : List Nat} {m : Bool} : Z.sett is m a q fr S = (a q fr S).bnd fun d S1 => match Z.stD m d S1 with
  | some (e, S2) => match asg S2 (.tu is) e fr with
    | some fr2 => .ok (.nx, fr2) S2
    | none => .no
  | none => .no := rfl
theorem z_expr : Z.expr a q fr S = (a q fr S).bnd fun _ S1 => .ok (.nx, fr) S1 := rfl
theorem z_ret : Z.ret a q fr S = (a q fr S).bnd fun d S1 => .ok (.rt d, fr) S1 := rfl
theorem z_retn : Z.retn q fr S = .ok (.rt .non, fr) S := rfl
theorem z_brk : Z.brk q fr S = .ok (.bk, fr) S := rfl
theorem z_cnt : Z.cnt q fr S = .ok (.ct, fr) S := rfl
theorem z_ifs : Z.ifs ta s t q fr S = (ta q fr S).bnd fun k S1 => if k = true then s q fr S1 else t q fr S1 := rfl
theorem z_aug {i : Nat} {o : BO} {m : Int} (h : fr[i]? = some (some (.t (.int m)))) : Z.aug i o a q fr S = (a q fr S).bnd fun y S1 => match y with
    | .t (.int n) => match Z.augI o m n with
      | some z => .ok (.nx, fr.set i (some (.int z))) S1
      | none => .no
    | _ => .no := by
  unfold Z.aug
  rw [h]
  try rfl
theorem z_sti : Z.sti a b c q fr S = (c q fr S).bnd fun d S1 => (a q fr S1).bnd fun x S2 => (b q fr S2).bnd fun j S3 => match Z.stiD x j d S3 with
  | some S4 => .ok (.nx, fr) S4
  | none => .no := rfl
theorem z_del : Z.del a b q fr S = (a q fr S).bnd fun x S1 => (b q fr S1).bnd fun j S2 => match Z.delD x j S2 with
  | some S3 => .ok (.nx, fr) S3
  | none => .no := rfl
theorem z_itR : Z.itR a q fr S = (a q fr S).bnd fun x S1 => match x with
  | .t (.int n) => if -(2 ^ 62) ≤ n ∧ n < 2 ^ 62 then .ok ((List.range n.toNat).map fun k : Nat => .int (k : Int), none) S1 else .no
  | _ => .no := rfl
theorem z_fors {cc : Bool} {tg : Z.Tg} : Z.fors cc tg it s q fr S = (it q fr S).bnd fun p S1 => unlR p.2 (Z.forL tg (fun fr2 S2 => Z.cutR cc (lckS S1 p.2).length (s (Z.qL cc q (lckS S1 p.2)) fr2 S2)) p.1 fr (lckS S1 p.2)) := rfl
theorem z_whs {cc : Bool} : Z.whs cc ta s q fr S = Z.wh (ta (Z.qL cc q S)) (fun fr2 S2 => Z.cutR cc S.length (s (Z.qL cc q S) fr2 S2)) fr S := rfl
/-! ### results -/
def post {α : Type} (r : R α) (P : α → Store → Prop) : Prop := match r with
  | .ok a S => P a S
  | _ => False
theorem post_ok {α : Type} {v : α} {P : α → Store → Prop} : post (.ok v S) P = P v S := rfl
theorem post_ex {α : Type} {r : R α} {P : α → Store → Prop} (h : post r P) : ∃ v S, r = .ok v S ∧ P v S := by
  cases r with
  | ok v S => exact ⟨v, S, rfl, h⟩
  | _ => exact h.elim
/-- a loop whose turns all go to their end -/
theorem for_ind {tg : Z.Tg} {b : Frame → Store → R (Fl × Frame)} (I : Nat → Frame → Store → Prop) {items : List D} {fr : Frame} {S : Store}
    (step : ∀ i d fr S, items[i]? = some d → I i fr S → ∃ fr1, asg S tg d fr = some fr1 ∧ ∃ fl fr2 S2, b fr1 S = .ok (fl, fr2) S2 ∧ (fl = .nx ∨ fl = .ct) ∧ I (i + 1) fr2 S2) (h0 : I 0 fr S) :
    ∃ fr2 S2, Z.forL tg b items fr S = .ok (.nx, fr2) S2 ∧ I items.length fr2 S2 := by
  have main : ∀ (m i : Nat) (fr : Frame) (S : Store), m = items.length - i → i ≤ items.length → I i fr S → ∃ fr2 S2, Z.forL tg b (items.drop i) fr S = .ok (.nx, fr2) S2 ∧ I items.length fr2 S2 := by
    intro m
    induction m with
    | zero =>
      intro i fr S hm hi h
      have e : i = items.length := by omega
      subst e
      rw [List.drop_length]
      exact ⟨fr, S, rfl, h⟩
    | succ m ih =>
      intro i fr S hm hi h
      have hlt : i < items.length := by omega
      obtain ⟨fr1, ea, fl, fr2, S2, eb, hf, h2⟩ := step i _ fr S (List.getElem?_eq_getElem hlt) h
      rw [List.drop_eq_getElem_cons hlt]
      unfold Z.forL
      rw [ea]
      dsimp only
      rw [eb, bnd_ok]
      rcases hf with rfl | rfl
      · exact ih (i + 1) fr2 S2 (by omega) hlt h2
      · exact ih (i + 1) fr2 S2 (by omega) hlt h2
  have := main _ 0 fr S rfl (Nat.zero_le _) h0
  rw [List.drop_zero] at this
  exact this
/-- a loop that may be left with a result: the first i at which r i is some -/
theorem for_find {tg : Z.Tg} {b : Frame → Store → R (Fl × Frame)} (I : Nat → Frame → Store → Prop) (E : Nat → Fl × Frame → Store → Prop) {items : List D} {fr : Frame} {S : Store}
    (step : ∀ i d fr S, items[i]? = some d → I i fr S → ∃ fr1, asg S tg d fr = some fr1 ∧ ∃ fl fr2 S2, b fr1 S = .ok (fl, fr2) S2 ∧ (((fl = .nx ∨ fl = .ct) ∧ I (i + 1) fr2 S2) ∨ (fl = .bk ∧ E i (.nx, fr2) S2) ∨ ∃ e, fl = .rt e ∧ E i (.rt e, fr2) S2)) (h0 : I 0 fr S) :
    ∃ p S2, Z.forL tg b items fr S = .ok p S2 ∧ ((p.1 = .nx ∧ I items.length p.2 S2) ∨ ∃ i, i < items.length ∧ E i p S2) := by
  have main : ∀ (m i : Nat) (fr : Frame) (S : Store), m = items.length - i → i ≤ items.length → I i fr S → ∃ p S2, Z.forL tg b (items.drop i) fr S = .ok p S2 ∧ ((p.1 = .nx ∧ I items.length p.2 S2) ∨ ∃ i, i < items.length ∧ E i p S2) := by
    intro m
    induction m with
    | zero =>
      intro i fr S hm hi h
      have e : i = items.length := by omega
      subst e
      rw [List.drop_length]
      exact ⟨(.nx, fr), S, rfl, .inl ⟨rfl, h⟩⟩
    | succ m ih =>
      intro i fr S hm hi h
      have hlt : i < items.length := by omega
      obtain ⟨fr1, ea, fl, fr2, S2, eb, hf⟩ := step i _ fr S (List.getElem?_eq_getElem hlt) h
      rw [List.drop_eq_getElem_cons hlt]
      unfold Z.forL
      rw [ea]
      dsimp only
      rw [eb, bnd_ok]
      rcases hf with ⟨rfl | rfl, h2⟩ | ⟨rfl, h2⟩ | ⟨e, rfl, h2⟩
      · exact ih (i + 1) fr2 S2 (by omega) hlt h2
      · exact ih (i + 1) fr2 S2 (by omega) hlt h2
      · exact ⟨_, _, rfl, .inr ⟨i, hlt, h2⟩⟩
      · exact ⟨_, _, rfl, .inr ⟨i, hlt, h2⟩⟩
  have := main _ 0 fr S rfl (Nat.zero_le _) h0
  rw [List.drop_zero] at this
  exact this
/-- while, with a measure -/
theorem wh_ind {t : Frame → Store → R Bool} {b : Frame → Store → R (Fl × Frame)} {α : Type} (I : α → Frame → Store → Prop) (m : α → Nat) (E : Fl × Frame → Store → Prop)
    (step : ∀ a fr S, I a fr S → ∃ k S1, t fr S = .ok k S1 ∧ (k = false → E (.nx, fr) S1) ∧ (k = true → ∃ fl fr2 S2, b fr S1 = .ok (fl, fr2) S2 ∧ (((fl = .nx ∨ fl = .ct) ∧ ∃ a', m a' < m a ∧ I a' fr2 S2) ∨ (fl = .bk ∧ E (.nx, fr2) S2) ∨ ∃ e, fl = .rt e ∧ E (.rt e, fr2) S2))) :
    ∀ {a : α} {fr : Frame} {S : Store}, I a fr S → ∃ p S2, Z.wh t b fr S = .ok p S2 ∧ E p S2 := by
  have main : ∀ (n : Nat) (a : α) (fr : Frame) (S : Store), m a ≤ n → I a fr S → ∃ p S2, Z.wh t b fr S = .ok p S2 ∧ E p S2 := by
    intro n
    induction n with
    | zero =>
      intro a fr S hn h
      obtain ⟨k, S1, et, h1, h2⟩ := step a fr S h
      rw [wh_eq, et, bnd_ok]
      cases k with
      | false => exact ⟨_, _, rfl, h1 rfl⟩
      | true =>
        rw [if_pos rfl]
        obtain ⟨fl, fr2, S2, eb, hf⟩ := h2 rfl
        rw [eb, bnd_ok]
        rcases hf with ⟨rfl | rfl, a', ha, _⟩ | ⟨rfl, h3⟩ | ⟨e, rfl, h3⟩
        · omega
        · omega
        · exact ⟨_, _, rfl, h3⟩
        · exact ⟨_, _, rfl, h3⟩
    | succ n ih =>
      intro a fr S hn h
      obtain ⟨k, S1, et, h1, h2⟩ := step a fr S h
      rw [wh_eq, et, bnd_ok]
      cases k with
      | false => exact ⟨_, _, rfl, h1 rfl⟩
      | true =>
        rw [if_pos rfl]
        obtain ⟨fl, fr2, S2, eb, hf⟩ := h2 rfl
        rw [eb, bnd_ok]
        rcases hf with ⟨rfl | rfl, a', ha, h3⟩ | ⟨rfl, h3⟩ | ⟨e, rfl, h3⟩
        · exact ih a' fr2 S2 (by omega) h3
        · exact ih a' fr2 S2 (by omega) h3
        · exact ⟨_, _, rfl, h3⟩
        · exact ⟨_, _, rfl, h3⟩
  exact fun {a fr S} h => main _ a fr S (Nat.le_refl _) h
/-- the end of a def -/
theorem run_rt {body : XB} {args : List D} {d e : D} {sn : List Nat} {m : Nat} (h : body { q with L := S.length } (args.map some ++ List.replicate (m - args.length) none) S = .ok (.rt d, fr1) S1) (hm : mv 6 S1 S.length [] d = some (e, sn)) : runD body m q args S = .ok e (S1.take S.length) := by
  unfold runD
  rw [h]
  dsimp only
  rw [hm]
theorem run_rtx {body : XB} {args : List D} {d e : D} {sn : List Nat} {m : Nat} {S1 : Store} (h : ∃ fr1, body { q with L := S.length } (args.map some ++ List.replicate (m - args.length) none) S = .ok (.rt d, fr1) S1) (hm : mv 6 S1 S.length [] d = some (e, sn)) : runD body m q args S = .ok e (S1.take S.length) := h.elim fun _ h => run_rt h hm
theorem run_nx {body : XB} {args : List D} {m : Nat} (h : body { q with L := S.length } (args.map some ++ List.replicate (m - args.length) none) S = .ok (.nx, fr1) S1) : runD body m q args S = .ok .non (S1.take S.length) := by
  unfold runD
  rw [h]
end
end Mi
namespace Mi
open PySem L2
section
variable {q : Q} {fr fr1 fr2 : Frame} {S S1 S2 : Store} {a b c e : XE} {ta tb : XT} {h hk : XA} {s t u : XB} {it : XI} {d x y : D} {n : Nat}
/-! ### statements -/
theorem q_nx (h1 : s q fr S = .ok (.nx, fr1) S1) : Z.seq s t q fr S = t q fr1 S1 := by
  rw [z_seq, h1]
  rfl
theorem q_rt (h1 : s q fr S = .ok (.rt d, fr1) S1) : Z.seq s t q fr S = .ok (.rt d, fr1) S1 := by
  rw [z_seq, h1]
  rfl
theorem q_bk (h1 : s q fr S = .ok (.bk, fr1) S1) : Z.seq s t q fr S = .ok (.bk, fr1) S1 := by
  rw [z_seq, h1]
  rfl
theorem q_ct (h1 : s q fr S = .ok (.ct, fr1) S1) : Z.seq s t q fr S = .ok (.ct, fr1) S1 := by
  rw [z_seq, h1]
  rfl
theorem s_setT {i : Nat} {m : Bool} {x : T} (h : a q fr S = .ok (.t x) S1) : Z.set i m a q fr S = .ok (.nx, fr.set i (some (.t x))) S1 := by
  rw [z_set, h]
  rfl
theorem s_setC {i j : Nat} {m : Bool} (h : a q fr S = .ok (.cell j) S1) : Z.set i m a q fr S = .ok (.nx, fr.set i (some (.cell j))) S1 := by
  rw [z_set, h]
  rfl
/-- a new list is frozen -/
theorem s_setF {i : Nat} {xs : List T} (h : a q fr S = .ok (.new xs) S1) : Z.set i false a q fr S = .ok (.nx, fr.set i (some (.t (.lst xs)))) S1 := by
  rw [z_set, h]
  rfl
/-- .. or laid into the store -/
theorem s_setM {i : Nat} {xs : List T} (h : a q fr S = .ok (.new xs) S1) : Z.set i true a q fr S = .ok (.nx, fr.set i (some (.cell S1.length))) (S1 ++ [.lst xs]) := by
  rw [z_set, h]
  rfl
theorem s_ret (h : a q fr S = .ok d S1) : Z.ret a q fr S = .ok (.rt d, fr) S1 := by
  rw [z_ret, h]
  rfl
theorem s_expr (h : a q fr S = .ok d S1) : Z.expr a q fr S = .ok (.nx, fr) S1 := by
  rw [z_expr, h]
  rfl
theorem s_ifT (h : ta q fr S = .ok true S1) : Z.ifs ta s t q fr S = s q fr S1 := by
  rw [z_ifs, h]
  rfl
theorem s_ifF (h : ta q fr S = .ok false S1) : Z.ifs ta s t q fr S = t q fr S1 := by
  rw [z_ifs, h]
  rfl
theorem s_if {k : Bool} (h : ta q fr S = .ok k S1) : Z.ifs ta s t q fr S = if k = true then s q fr S1 else t q fr S1 := by
  rw [z_ifs, h]
  rfl
theorem s_augI {i : Nat} {m j : Int} (h0 : fr[i]? = some (some (.t (.int m)))) (h : a q fr S = .ok (.t (.int j)) S1) : Z.aug i .add a q fr S = .ok (.nx, fr.set i (some (.int (m + j)))) S1 := by
  rw [z_aug h0, h]
  rfl
/-- xs[i] = x, a list of the store -/
theorem s_stiL {m : Nat} {xs : List T} {i : Int} {kk : Nat} {x : T} (h1 : c q fr S = .ok (.t x) S1) (h2 : a q fr S1 = .ok (.cell m) S1) (h3 : b q fr S1 = .ok (.t (.int i)) S1) (h4 : S1[m]? = some (.lst xs)) (h5 : ixN xs.length i = some kk) :
    Z.sti a b c q fr S = .ok (.nx, fr) (S1.set m (.lst (xs.set kk x))) := by
  rw [z_sti, h1, bnd_ok, h2, bnd_ok, h3, bnd_ok]
  have : Z.stiD (.cell m) (.t (.int i)) (.t x) S1 = some (S1.set m (.lst (xs.set kk x))) := by
    unfold Z.stiD
    dsimp only
    rw [h4]
    dsimp only [Z.arg]
    rw [h5]
  rw [this]
/-! ### values -/
theorem b_add {i j : Int} : bop .add (.t (.int i)) (.t (.int j)) S = .ok (.t (.int (i + j))) S := rfl
theorem b_sub {i j : Int} : bop .sub (.t (.int i)) (.t (.int j)) S = .ok (.t (.int (i - j))) S := rfl
theorem b_mul {i j : Int} (h : mulOk i j) : bop .mul (.t (.int i)) (.t (.int j)) S = .ok (.t (.int (i * j))) S := if_pos h
theorem b_mod {i j : Int} (h : 0 < j) : bop .mod (.t (.int i)) (.t (.int j)) S = .ok (.t (.int (i % j))) S := if_pos h
theorem b_fdiv {i j : Int} (h : divOk i j) : bop .fdiv (.t (.int i)) (.t (.int j)) S = .ok (.t (.int (i / j))) S := if_pos h
theorem b_pow {i j : Int} (h : powOk i j) : bop .pow (.t (.int i)) (.t (.int j)) S = .ok (.t (.int (i ^ j.toNat))) S := if_pos h
theorem b_modS {i j : Int} (h : 0 < j) : bop .mod (.t (.int i)) (.t (.int j)) S = .ok (.t (.int (i % j))) S := if_pos h
theorem b_mulR {i j : Int} (h : -2 ^ 64 < j ∧ j < 2 ^ 64) : bop .mul (.t (.int i)) (.t (.int j)) S = .ok (.t (.int (i * j))) S := if_pos (.inl (.inr h))
theorem b_mulL {i j : Int} (h : -2 ^ 64 < i ∧ i < 2 ^ 64) : bop .mul (.t (.int i)) (.t (.int j)) S = .ok (.t (.int (i * j))) S := if_pos (.inl (.inl h))
theorem b_fdivS {i j : Int} (h : 0 < j ∧ j < 1073741824) : bop .fdiv (.t (.int i)) (.t (.int j)) S = .ok (.t (.int (i / j))) S := if_pos (.inl h)
theorem b_powS {i j : Int} (h : 0 ≤ j ∧ j ≤ 1000000 ∧ -2 ^ 64 < i ∧ i < 2 ^ 64) : bop .pow (.t (.int i)) (.t (.int j)) S = .ok (.t (.int (i ^ j.toNat))) S := if_pos (.inl ⟨h.1, h.2.1, by omega⟩)
theorem c_eqI {i j : Int} : cmpD .eq (.t (.int i)) (.t (.int j)) S = .ok (decide (i = j)) S := rfl
theorem c_neI {i j : Int} : cmpD .ne (.t (.int i)) (.t (.int j)) S = .ok (!decide (i = j)) S := rfl
theorem c_lt {i j : Int} : cmpD .lt (.t (.int i)) (.t (.int j)) S = .ok (decide (i < j)) S := rfl
theorem c_le {i j : Int} : cmpD .le (.t (.int i)) (.t (.int j)) S = .ok (decide (i ≤ j)) S := rfl
theorem c_gt {i j : Int} : cmpD .gt (.t (.int i)) (.t (.int j)) S = .ok (decide (j < i)) S := rfl
theorem c_ge {i j : Int} : cmpD .ge (.t (.int i)) (.t (.int j)) S = .ok (decide (j ≤ i)) S := rfl
theorem tr_bl {k : Bool} : truD (.t (.bl k)) S = .ok k S := rfl
theorem tr_int {i : Int} : truD (.t (.int i)) S = .ok (decide (i ≠ 0)) S := rfl
theorem u_intI {i : Int} : f1D .int (.t (.int i)) S = .ok (.t (.int i)) S := rfl
theorem u_intB {k : Bool} : f1D .int (.t (.bl k)) S = .ok (.t (.int (b2n k))) S := rfl
/-- x[i], by the list of the things -/
theorem i_of {x : D} {ds : List D} {i : Int} {d : D} (h1 : sqd S x = some ds) (h2 : ((ixN ds.length i).bind fun k => ds[k]?) = some d) : ixD x (.t (.int i)) S = .ok d S := by
  unfold ixD
  dsimp only
  rw [h1]
  dsimp only
  rw [h2]
theorem rd_of {m : Nat} {xs : List T} (h : S[m]? = some (.lst xs)) : rd S m = some (.lst xs) := by
  unfold rd
  rw [h]
  rfl
theorem rd_lk {m : Nat} {o : Ob} (h : S[m]? = some (.lck o)) : rd S m = some o := by
  unfold rd
  rw [h]
  rfl
theorem sqd_c {m : Nat} {xs : List T} (h : rd S m = some (.lst xs)) : sqd S (.cell m) = some (xs.map D.t) := by
  unfold sqd
  dsimp only
  rw [h]
theorem sq_c {m : Nat} {xs : List T} (h : rd S m = some (.lst xs)) : sq S (.cell m) = some xs := by
  unfold sq
  dsimp only
  rw [h]
theorem i_cell {m : Nat} {xs : List T} {i : Int} {kk : Nat} {x : T} (h : rd S m = some (.lst xs)) (h1 : ixN xs.length i = some kk) (h2 : xs[kk]? = some x) : ixD (.cell m) (.t (.int i)) S = .ok (.t x) S := by
  refine i_of (sqd_c h) ?_
  rw [List.length_map, h1]
  show (xs.map D.t)[kk]? = _
  rw [List.getElem?_map, h2]
  rfl
/-! ### what is returned -/
def Rt (r : R (Fl × Frame)) (d : D) (S' : Store) : Prop := ∃ fr', r = .ok (.rt d, fr') S'
theorem rt_nx {S' : Store} (h1 : s q fr S = .ok (.nx, fr1) S1) (h2 : Rt (t q fr1 S1) d S') : Rt (Z.seq s t q fr S) d S' := by
  rw [q_nx h1]
  exact h2
theorem rt_st {S' : Store} (h1 : Rt (s q fr S) d S') : Rt (Z.seq s t q fr S) d S' := h1.elim fun _ h => ⟨_, q_rt h⟩
theorem rt_ret {S' : Store} (h : a q fr S = .ok d S') : Rt (Z.ret a q fr S) d S' := ⟨_, s_ret h⟩
theorem rt_ifT {S' : Store} (h : ta q fr S = .ok true S1) (h2 : Rt (s q fr S1) d S') : Rt (Z.ifs ta s t q fr S) d S' := by
  rw [s_ifT h]
  exact h2
theorem rt_ifF {S' : Store} (h : ta q fr S = .ok false S1) (h2 : Rt (t q fr S1) d S') : Rt (Z.ifs ta s t q fr S) d S' := by
  rw [s_ifF h]
  exact h2
theorem rt_of {r : R (Fl × Frame)} {S' : Store} {fr1 : Frame} (h : r = .ok (.rt d, fr1) S') : Rt r d S' := ⟨_, h⟩
theorem run_Rt {body : XB} {args : List D} {d e : D} {sn : List Nat} {m : Nat} {S1 : Store} (h : Rt (body { q with L := S.length } (args.map some ++ List.replicate (m - args.length) none) S) d S1) (hm : mv 6 S1 S.length [] d = some (e, sn)) : runD body m q args S = .ok e (S1.take S.length) := h.elim fun _ h => run_rt h hm
theorem mv_t {x : T} {L : Nat} : mv 6 S L [] (.t x) = some (.t x, []) := rfl
theorem mv_new {xs : List T} {L : Nat} : mv 6 S L [] (.new xs) = some (.new xs, []) := rfl
theorem mv_cell {xs : List T} {L m : Nat} (h : L ≤ m) (h1 : S[m]? = some (.lst xs)) : mv 6 S L [] (.cell m) = some (.new xs, [m]) := by
  unfold mv
  rw [if_neg (Nat.not_lt.mpr h), h1]
  rfl
/-! ### loops as statements -/
theorem s_forF {tg : Z.Tg} {items : List D} {fl : Fl} (hi : it q fr S = .ok (items, none) S1) (hl : Z.forL tg (fun fr2 S2 => Z.cutR false S1.length (s q fr2 S2)) items fr S1 = .ok (fl, fr2) S2) : Z.fors false tg it s q fr S = .ok (fl, fr2) S2 := by
  rw [z_fors, hi, bnd_ok]
  show unlR none (Z.forL tg (fun fr2 S2 => Z.cutR false S1.length (s q fr2 S2)) items fr S1) = _
  rw [hl]
  rfl
theorem cut_f {fl : Fl} {r : R (Fl × Frame)} {L : Nat} (h : r = .ok (fl, fr1) S1) : Z.cutR false L r = .ok (fl, fr1) S1 := by
  rw [h]
  cases fl <;> rfl
theorem i_range {e : XE} {n : Int} (h : e q fr S = .ok (.t (.int n)) S1) (hn : 0 ≤ n ∧ n ≤ 1000000) : Z.itR e q fr S = .ok ((List.range n.toNat).map (fun k : Nat => .int (k : Int)), none) S1 := by
  rw [z_itR, h, bnd_ok]
  exact if_pos ⟨by omega, by omega⟩
theorem range_at {n i : Nat} {d : D} (h : ((List.range n).map (fun k : Nat => D.int (k : Int)))[i]? = some d) : i < n ∧ d = .int (i : Int) := by
  rw [List.getElem?_map] at h
  by_cases hi : i < n
  · rw [List.getElem?_range hi] at h
    cases h
    exact ⟨hi, rfl⟩
  · rw [List.getElem?_eq_none (by rw [List.length_range]; omega)] at h
    cases h
end
end Mi

set_option Elab.async false
set_option linter.all false
set_option maxRecDepth 100000
set_option maxHeartbeats 4000000
/-! N19: == of what is the same; lists of whole numbers, of pairs -/
namespace Mi
open PySem L2
mutual
theorem eqv_self : ∀ {d : T}, d.ok = true → PyData.eqv d.py d.py = true
  | .non, _ => by
    unfold T.py
    simp [PyData.eqv]
  | .bl b, _ => by
    unfold T.py
    simp [PyData.eqv]
  | .int i, _ => by
    unfold T.py
    simp [PyData.eqv]
  | .str x, _ => by
    unfold T.py
    simp [PyData.eqv]
  | .lst ds, o => by
    unfold T.py
    unfold PyData.eqv
    unfold T.ok at o
    exact eqv_selfs o
  | .tup ds, o => by
    unfold T.py
    unfold PyData.eqv
    unfold T.ok at o
    exact eqv_selfs o
  | .dic _, o => by unfold T.ok at o; cases o
  | .fn _ _, o => by unfold T.ok at o; cases o
  | .set _, o => by unfold T.ok at o; cases o
  | .scr _, o => by unfold T.ok at o; cases o
  | .exn _ _, o => by unfold T.ok at o; cases o
  | .exc _ _ _ _, o => by unfold T.ok at o; cases o
  | .dix _, o => by unfold T.ok at o; cases o
theorem eqv_selfs : ∀ {ds : List T}, T.oks ds = true → PyData.eqvAll (T.pys ds) (T.pys ds) = true
  | [], _ => by
    unfold T.pys
    simp [PyData.eqvAll]
  | d :: ds, o => by
    unfold T.oks at o
    rw [Bool.and_eq_true] at o
    unfold T.pys
    unfold PyData.eqvAll
    rw [eqv_self o.1, eqv_selfs o.2]
    rfl
end
section
variable {S : Store} {x y : D} {a b : T}
def gen2 (x y : D) : Bool := match x, y with
  | .t (.int _), .t (.int _) => false
  | .t (.str _), .t (.str _) => false
  | _, _ => true
theorem eqD_gen (hx : tr 6 S x = some a) (hy : tr 6 S y = some b) (oa : okEq a = true) (ob : okEq b = true) (g : gen2 x y = true) : eqD x y S = .ok (a.eqv b) S := by
  unfold eqD
  split
  · cases g
  · cases g
  · rw [hx]
    dsimp only
    rw [hy]
    dsimp only
    rw [if_pos ⟨oa, ob⟩]
/-- the same on both sides -/
theorem eqD_same (hx : tr 6 S x = some a) (hy : tr 6 S y = some a) (o : okEq a = true) : eqD x y S = .ok true S := by
  have o2 := o
  unfold okEq at o2
  rw [Bool.and_eq_true] at o2
  have main : gen2 x y = true → eqD x y S = .ok true S := fun g => by
    rw [eqD_gen hx hy o o g]
    unfold T.eqv
    rw [eqv_self o2.1]
  cases hg : gen2 x y with
  | true => exact main hg
  | false =>
    unfold gen2 at hg
    split at hg
    · rename_i i j
      rw [show tr 6 S (.t (.int i)) = some (.int i) from rfl] at hx
      rw [show tr 6 S (.t (.int j)) = some (.int j) from rfl] at hy
      cases hx
      cases hy
      show R.ok (decide (i = i)) S = _
      rw [decide_eq_true rfl]
    · rename_i i j
      rw [show tr 6 S (.t (.str i)) = some (.str i) from rfl] at hx
      rw [show tr 6 S (.t (.str j)) = some (.str j) from rfl] at hy
      cases hx
      cases hy
      show R.ok (decide (i = i)) S = _
      rw [decide_eq_true rfl]
    · cases hg
theorem c_same (hx : tr 6 S x = some a) (hy : tr 6 S y = some a) (o : okEq a = true) : cmpD .eq x y S = .ok true S := eqD_same hx hy o
theorem c_sameN (hx : tr 6 S x = some a) (hy : tr 6 S y = some a) (o : okEq a = true) : cmpD .ne x y S = .ok false S := by
  show notR (eqD x y S) = _
  rw [eqD_same hx hy o]
  rfl
/-- whole numbers that are not too great -/
def Bd (ns : List Int) : Prop := ∀ n ∈ ns, n.natAbs < 2 ^ 1900
theorem okEq_ints {ns : List Int} (h : Bd ns) : okEq (dints ns) = true := by
  unfold okEq
  rw [ok_ints h, decide_eq_true (Nat.le_trans dp_ints (by decide))]
  rfl
theorem c_eqL {ns ms : List Int} (hx : tr 6 S x = some (dints ns)) (hy : tr 6 S y = some (dints ms)) (h1 : Bd ns) (h2 : Bd ms) : cmpD .eq x y S = .ok (decide (ns = ms)) S := by
  show eqD x y S = _
  have g : gen2 x y = true := by
    unfold gen2
    split
    · cases hx
    · cases hx
    · rfl
  rw [eqD_gen hx hy (okEq_ints h1) (okEq_ints h2) g, eqv_i]
theorem c_neL {ns ms : List Int} (hx : tr 6 S x = some (dints ns)) (hy : tr 6 S y = some (dints ms)) (h1 : Bd ns) (h2 : Bd ms) : cmpD .ne x y S = .ok (!decide (ns = ms)) S := by
  show notR (eqD x y S) = _
  rw [show eqD x y S = _ from c_eqL hx hy h1 h2]
  rfl
theorem c_eqB {p r : Bool} : cmpD .eq (.t (.bl p)) (.t (.bl r)) S = .ok (p == r) S := by
  cases p <;> cases r
  · exact c_same rfl rfl rfl
  · show eqD (.t (.bl false)) (.t (.bl true)) S = _
    rw [eqD_gen (a := .bl false) (b := .bl true) rfl rfl rfl rfl rfl]
    unfold T.eqv T.py
    simp [PyData.eqv]
  · show eqD (.t (.bl true)) (.t (.bl false)) S = _
    rw [eqD_gen (a := .bl true) (b := .bl false) rfl rfl rfl rfl rfl]
    unfold T.eqv T.py
    simp [PyData.eqv]
  · exact c_same rfl rfl rfl
theorem c_neB {p r : Bool} : cmpD .ne (.t (.bl p)) (.t (.bl r)) S = .ok (!(p == r)) S := by
  show notR (eqD (.t (.bl p)) (.t (.bl r)) S) = _
  rw [show eqD (.t (.bl p)) (.t (.bl r)) S = _ from c_eqB]
  rfl
def prT (q : Int × Int) : T := .tup [.int q.1, .int q.2]
theorem okEq_prs {ps : List (Int × Int)} (h : ∀ p ∈ ps, p.1.natAbs < 2 ^ 1900 ∧ p.2.natAbs < 2 ^ 1900) : okEq (.lst (ps.map prT)) = true := by
  have h1 : ∀ p ∈ ps, (prT p).ok = true := fun p hp => by
    unfold prT T.ok T.oks T.oks T.oks
    rw [ok_int (h p hp).1, ok_int (h p hp).2]
    rfl
  have h2 : ∀ p ∈ ps, (prT p).dp ≤ 1 := fun p hp => by
    unfold prT
    simp [T.dp, T.dps]
  unfold okEq
  have a : (T.lst (ps.map prT)).ok = true := by
    unfold T.ok
    rw [oks_all, List.all_eq_true]
    intro t ht
    obtain ⟨p, hp, rfl⟩ := List.mem_map.mp ht
    exact h1 p hp
  have b : (T.lst (ps.map prT)).dp ≤ 60 := by
    unfold T.dp
    have := dps_le (ds := ps.map prT) (n := 1) fun t ht => by
      obtain ⟨p, hp, rfl⟩ := List.mem_map.mp ht
      exact h2 p hp
    omega
  rw [a, decide_eq_true b]
  rfl
end
end Mi

set_option Elab.async false
set_option linter.all false
set_option maxRecDepth 100000
set_option maxHeartbeats 4000000
/-! N20: repr; loops that forget what their turns made -/
namespace Mi
open PySem L2
section
variable {S : Store} {x y : D} {a : T}
theorem allT_tr {S : Store} {f : Nat} : ∀ {ds : List D} {xs ys : List T}, allT ds = some xs → mapO (tr f S) ds = some ys → xs = ys
  | [], xs, ys, h1, h2 => by
    cases h1
    cases h2
    rfl
  | .t x :: ds, xs, ys, h1, h2 => by
    unfold allT at h1
    unfold mapO at h2
    rw [show tr f S (.t x) = some x by cases f <;> rfl] at h2
    dsimp only at h2
    cases q : allT ds with
    | none =>
      rw [q] at h1
      cases h1
    | some zs =>
      rw [q] at h1
      cases q2 : mapO (tr f S) ds with
      | none =>
        rw [q2] at h2
        cases h2
      | some ws =>
        rw [q2] at h2
        cases h1
        cases h2
        rw [allT_tr q q2]
  | .cell _ :: _, xs, ys, h1, h2 => by cases h1
  | .new _ :: _, xs, ys, h1, h2 => by cases h1
  | .newd _ :: _, xs, ys, h1, h2 => by cases h1
  | .newo _ :: _, xs, ys, h1, h2 => by cases h1
  | .tupo _ :: _, xs, ys, h1, h2 => by cases h1
  | .newk _ :: _, xs, ys, h1, h2 => by cases h1
theorem tr_mkL {ds : List D} {xs : List T} (h : mapO (tr 5 S) ds = some xs) : tr 6 S (Z.mkL ds) = some (.lst xs) := by
  unfold Z.mkL
  cases q : allT ds with
  | some zs =>
    dsimp only
    rw [allT_tr q h]
    rfl
  | none =>
    show (mapO (tr 5 S) ds).map T.lst = _
    rw [h]
    rfl
def rpOk (a : T) : Prop := a.ok = true ∧ a.wt ≤ okL ∧ a.dp ≤ 60
theorem u_repr (h : tr 6 S x = some a) (o : rpOk a) : f1D .repr x S = .ok (.t (.str a.show)) S := by
  show reprD x S = _
  unfold reprD
  rw [h]
  dsimp only
  exact if_pos o
theorem c_eqS {u v : Str} : cmpD .eq (.t (.str u)) (.t (.str v)) S = .ok (decide (u = v)) S := rfl
theorem c_neS {u v : Str} : cmpD .ne (.t (.str u)) (.t (.str v)) S = .ok (!decide (u = v)) S := rfl
theorem oks_cons {d : T} {ds : List T} (h : d.ok = true) (hs : T.oks ds = true) : T.oks (d :: ds) = true := by
  unfold T.oks
  rw [h, hs]
  rfl
theorem oks_nil : T.oks [] = true := by
  unfold T.oks
  rfl
theorem ok_lst {ds : List T} (h : T.oks ds = true) : (T.lst ds).ok = true := by
  unfold T.ok
  exact h
theorem ok_tup {ds : List T} (h : T.oks ds = true) : (T.tup ds).ok = true := by
  unfold T.ok
  exact h
/-- what may be shown, with a bound of its size and depth -/
def Rp (a : T) (n k : Nat) : Prop := a.ok = true ∧ a.wt ≤ n ∧ a.dp ≤ k
def Rps (xs : List T) (n k : Nat) : Prop := T.oks xs = true ∧ T.wts xs ≤ n ∧ T.dps xs ≤ k
theorem Rp.ok {a : T} {n k : Nat} (h : Rp a n k) (hn : n ≤ 16000000) (hk : k ≤ 60) : rpOk a := ⟨h.1, by have := h.2.1; have : (okL : Nat) = 16000000 := rfl; omega, by have := h.2.2; omega⟩
theorem Rp.eq {a : T} {n k : Nat} (h : Rp a n k) (hk : k ≤ 60) : okEq a = true := by
  unfold okEq
  rw [h.1, decide_eq_true (by have := h.2.2; omega)]
  rfl
theorem rps_nil {n k : Nat} : Rps [] n k := ⟨oks_nil, by unfold T.wts; omega, by unfold T.dps; omega⟩
theorem rps_cons {d : T} {ds : List T} {n m k : Nat} (h : Rp d n k) (hs : Rps ds m k) : Rps (d :: ds) (n + 2 + m) k := ⟨oks_cons h.1 hs.1, by unfold T.wts; have := h.2.1; have := hs.2.1; omega, by unfold T.dps; have := h.2.2; have := hs.2.2; omega⟩
theorem rp_lst {ds : List T} {n k : Nat} (h : Rps ds n k) : Rp (.lst ds) (n + 2) (k + 1) := ⟨ok_lst h.1, by unfold T.wt; have := h.2.1; omega, by unfold T.dp; have := h.2.2; omega⟩
theorem rp_tup {ds : List T} {n k : Nat} (h : Rps ds n k) : Rp (.tup ds) (n + 3) (k + 1) := ⟨ok_tup h.1, by unfold T.wt; have := h.2.1; omega, by unfold T.dp; have := h.2.2; omega⟩
theorem rp_ints {ns : List Int} {l k : Nat} (h : Bd ns) (hl : ns.length ≤ l) : Rp (dints ns) (l * 1923 + 2) (k + 1) := ⟨ok_ints h, Nat.le_trans wt_ints (by have := Nat.mul_le_mul_right 1923 hl; omega), Nat.le_trans dp_ints (by omega)⟩
theorem rp_int {i : Int} {k : Nat} (h : i.natAbs < 2 ^ 1900) : Rp (.int i) 1921 k := ⟨ok_int h, by unfold T.wt; exact Nat.le_refl _, by unfold T.dp; omega⟩
theorem rp_non {k : Nat} : Rp .non 4 k := ⟨by unfold T.ok; rfl, by unfold T.wt; exact Nat.le_refl _, by unfold T.dp; omega⟩
theorem rp_bl {b : Bool} {k : Nat} : Rp (.bl b) 5 k := ⟨by unfold T.ok; rfl, by unfold T.wt; exact Nat.le_refl _, by unfold T.dp; omega⟩
theorem Rp.mono {a : T} {n m k j : Nat} (h : Rp a n k) (hn : n ≤ m) (hk : k ≤ j) : Rp a m j := ⟨h.1, by have := h.2.1; omega, by have := h.2.2; omega⟩
end
/-! ### statements about what is shown -/
section
variable {q : Q} {fr : Frame} {S S1 S2 : Store} {e1 e2 : XE} {x y : D} {a : T}
theorem e_repr (h1 : e1 q fr S = .ok x S1) (h : tr 6 S1 x = some a) (o : rpOk a) : Z.f1 .repr e1 q fr S = .ok (.t (.str a.show)) S1 := by
  rw [z_f1, h1, bnd_ok, u_repr h o]
/-- repr(x) != repr(y), both the same -/
theorem tc_reprN (h1 : e1 q fr S = .ok x S1) (hx : tr 6 S1 x = some a) (h2 : e2 q fr S1 = .ok y S2) (hy : tr 6 S2 y = some a) (o : rpOk a) : Z.tcmp .ne (Z.f1 .repr e1) (Z.f1 .repr e2) q fr S = .ok false S2 := by
  rw [z_tcmp, e_repr h1 hx o, bnd_ok, e_repr h2 hy o, bnd_ok, c_neS, decide_eq_true rfl]
  rfl
/-- repr(x) != s -/
theorem tc_reprS {i : Nat} (h1 : e1 q fr S = .ok x S1) (hx : tr 6 S1 x = some a) (hi : fr[i]? = some (some (.t (.str a.show)))) (o : rpOk a) : Z.tcmp .ne (Z.f1 .repr e1) (Z.v i) q fr S = .ok false S1 := by
  rw [z_tcmp, e_repr h1 hx o, bnd_ok, z_v hi, bnd_ok, c_neS, decide_eq_true rfl]
  rfl
theorem e_reprS {i : Nat} (h1 : e1 q fr S = .ok x S1) (hx : tr 6 S1 x = some a) (hi : fr[i]? = some (some (.t (.str a.show)))) (o : rpOk a) : Z.cmp .eq (Z.f1 .repr e1) (Z.v i) q fr S = .ok (.bl true) S1 := by
  rw [z_cmp, e_repr h1 hx o, bnd_ok, z_v hi, bnd_ok, c_eqS, decide_eq_true rfl, bnd_ok]
theorem e_reprE (h1 : e1 q fr S = .ok x S1) (hx : tr 6 S1 x = some a) (h2 : e2 q fr S1 = .ok y S2) (hy : tr 6 S2 y = some a) (o : rpOk a) : Z.cmp .eq (Z.f1 .repr e1) (Z.f1 .repr e2) q fr S = .ok (.bl true) S2 := by
  rw [z_cmp, e_repr h1 hx o, bnd_ok, e_repr h2 hy o, bnd_ok, c_eqS, decide_eq_true rfl, bnd_ok]
/-- [x, y] -/
theorem e_lst2 (h1 : e1 q fr S = .ok x S1) (h2 : e2 q fr S1 = .ok y S2) : Z.lst (Z.cons e1 (Z.cons e2 Z.nil)) q fr S = .ok (Z.mkL [x, y]) S2 := by
  rw [z_lst, z_cons, h1, bnd_ok, z_cons, h2, bnd_ok, z_nil, bnd_ok, bnd_ok, bnd_ok]
theorem e_lst1 (h1 : e1 q fr S = .ok x S1) : Z.lst (Z.cons e1 Z.nil) q fr S = .ok (Z.mkL [x]) S1 := by
  rw [z_lst, z_cons, h1, bnd_ok, z_nil, bnd_ok, bnd_ok]
theorem e_lst3 {e3 : XE} {z : D} {S3 : Store} (h1 : e1 q fr S = .ok x S1) (h2 : e2 q fr S1 = .ok y S2) (h3 : e3 q fr S2 = .ok z S3) : Z.lst (Z.cons e1 (Z.cons e2 (Z.cons e3 Z.nil))) q fr S = .ok (Z.mkL [x, y, z]) S3 := by
  rw [z_lst, z_cons, h1, bnd_ok, z_cons, h2, bnd_ok, z_cons, h3, bnd_ok, z_nil, bnd_ok, bnd_ok, bnd_ok, bnd_ok]
theorem tr_L2 {a b : T} (h1 : tr 5 S x = some a) (h2 : tr 5 S y = some b) : tr 6 S (Z.mkL [x, y]) = some (.lst [a, b]) := tr_mkL (by
  unfold mapO
  rw [h1]
  dsimp only
  unfold mapO
  rw [h2]
  rfl)
theorem tr_L3 {z : D} {a b c : T} (h1 : tr 5 S x = some a) (h2 : tr 5 S y = some b) (h3 : tr 5 S z = some c) : tr 6 S (Z.mkL [x, y, z]) = some (.lst [a, b, c]) := tr_mkL (by
  unfold mapO
  rw [h1]
  dsimp only
  unfold mapO
  rw [h2]
  dsimp only
  unfold mapO
  rw [h3]
  rfl)
theorem qL_call {c : Bool} : (Z.qL c q S).call = q.call := by cases c <;> rfl
theorem qL_fa {c : Bool} : (Z.qL c q S).fa = q.fa := by cases c <;> rfl
end
/-! ### loops that forget -/
section
variable {q : Q} {fr fr1 fr2 : Frame} {S S1 S2 : Store} {s : XB} {it : XI}
theorem cut_t {fl : Fl} {r : R (Fl × Frame)} {L : Nat} (h : r = .ok (fl, fr1) S1) (hf : fl = .nx ∨ fl = .ct) : Z.cutR true L r = .ok (fl, Z.hideF L fr1) (S1.take L) := by
  rw [h]
  rcases hf with rfl | rfl <;> rfl
theorem s_forC {tg : Z.Tg} {items : List D} {fl : Fl} {c : Bool} (hi : it q fr S = .ok (items, none) S1) (hl : Z.forL tg (fun fr2 S2 => Z.cutR c S1.length (s (Z.qL c q S1) fr2 S2)) items fr S1 = .ok (fl, fr2) S2) : Z.fors c tg it s q fr S = .ok (fl, fr2) S2 := by
  rw [z_fors, hi, bnd_ok]
  show unlR none (Z.forL tg (fun fr2 S2 => Z.cutR c S1.length (s (Z.qL c q S1) fr2 S2)) items fr S1) = _
  rw [hl]
  rfl
end
end Mi

set_option Elab.async false
set_option linter.all false
set_option maxRecDepth 100000
set_option maxHeartbeats 4000000
/-! N21: the parts of laws that are the same for all: draws, lists, runs, what stays (from tp/, split by split.py) -/
namespace Lw
open PySem PySem.Spec PyProof.Rows L2 Mi
structure Dr where
  c : Int
  k : Int
  b : Bool
def Dr.ts (d : Dr) : List T := [.int d.c, .int d.k, .bl d.b]
def Dr.nx (d : Dr) : Dr := ⟨if d.b = true then d.c / 10 ^ 6 else d.c, d.k + 1, d.b⟩
def mixI (c k : Int) : Int :=
  let n1 := ((c % 1000003 + k * k * 7919 + k) * 48271) % 2147483629
  let n2 := (n1 * n1) % 2147483587
  (n2 * (n2 + 2)) % 2147483579 / 7
def Dr.val (d : Dr) : Int := if d.b = true then d.c % 10 ^ 6 else mixI d.c (d.k + 1)
def BIG : Int := (((10 : Int) ^ (60 : Int).toNat) ^ (60 : Int).toNat) ^ (4 : Int).toNat
def drOf (c : Int) : Dr := ⟨c % BIG, 0, decide ((10 : Int) ^ (18 : Int).toNat ≤ c)⟩
theorem pw1 : powOk 10 60 := .inr ⟨by decide, by decide +kernel⟩
theorem pw2 : powOk ((10 : Int) ^ (60 : Int).toNat) 60 := .inr ⟨by decide, by decide +kernel⟩
theorem pw3 : powOk (((10 : Int) ^ (60 : Int).toNat) ^ (60 : Int).toNat) 4 := .inr ⟨by decide, by decide +kernel⟩
theorem big_pos : 0 < BIG := by decide +kernel
theorem pw4 : powOk 10 18 := .inl (by decide +kernel)
theorem drOf_k {c : Int} : (drOf c).k = 0 := rfl
/-- the draws stand in m, what is made since stands behind -/
def St (S : Store) (m : Nat) (d : Dr) (R : Store) : Store := S.set m (.lst d.ts) ++ R
section
variable {S R : Store} {m : Nat} {d d2 : Dr}
theorem st_get (hm : m < S.length) : (St S m d R)[m]? = some (.lst d.ts) := by
  unfold St
  rw [List.getElem?_append_left (by rw [List.length_set]; exact hm), List.getElem?_set_self hm]
theorem st_set (hm : m < S.length) : (St S m d R).set m (.lst d2.ts) = St S m d2 R := by
  unfold St
  rw [List.set_append_left _ _ (by rw [List.length_set]; exact hm), List.set_set]
theorem st_top {j : Nat} : (St S m d R)[S.length + j]? = R[j]? := by
  unfold St
  rw [List.getElem?_append_right (by rw [List.length_set]; omega), List.length_set, Nat.add_sub_cancel_left]
theorem st_top0 : (St S m d R)[S.length]? = R[0]? := st_top (j := 0)
theorem st_setT {j : Nat} {o : Ob} : (St S m d R).set (S.length + j) o = St S m d (R.set j o) := by
  unfold St
  rw [List.set_append_right _ _ (by rw [List.length_set]; omega), List.length_set, Nat.add_sub_cancel_left]
theorem st_setT0 {o : Ob} : (St S m d R).set S.length o = St S m d (R.set 0 o) := st_setT (j := 0)
theorem st_len : (St S m d R).length = S.length + R.length := by
  unfold St
  rw [List.length_append, List.length_set]
theorem st_app {o : List Ob} : St S m d R ++ o = St S m d (R ++ o) := by
  unfold St
  rw [List.append_assoc]
theorem st_take : (St S m d R).take S.length = S.set m (.lst d.ts) := by
  unfold St
  rw [List.take_append_of_le_length (by rw [List.length_set]; exact Nat.le_refl _), List.take_of_length_le (by rw [List.length_set]; exact Nat.le_refl _)]
theorem st_nil : St S m d [] = S.set m (.lst d.ts) := by
  unfold St
  rw [List.append_nil]
end
/-- xs.append(e) -/
theorem s_app {q : Q} {fr : Mi.Frame} {S S1 : Store} {a : XE} {h : XA} {n : Nat} {xs ys : List T} {x : T} (h1 : a q fr S = .ok (.cell n) S) (h2 : S[n]? = some (.lst ys)) (h3 : h q fr S = .ok [.t x] S1) (h4 : S1[n]? = some (.lst xs)) (hl : xs.length < okL) :
    Z.expr (Z.me .append a h) q fr S = .ok (.nx, fr) (S1.set n (.lst (xs ++ [x]))) := by
  refine s_expr (d := .non) ?_
  rw [z_me, h1, bnd_ok]
  have ht : tyD S (.cell n) = some "list" := by
    unfold tyD
    dsimp only
    rw [rd_of h2]
  rw [if_pos ht, h3, bnd_ok]
  show Z.appD (.cell n) (.t x) S1 = _
  unfold Z.appD
  dsimp only
  rw [h4]
  dsimp only [Z.arg]
  rw [if_pos hl]
theorem st_of {S : Store} {m : Nat} {d : Dr} (h : S[m]? = some (.lst d.ts)) : S = St S m d [] := by
  rw [st_nil]
  have hm := (List.getElem?_eq_some_iff.mp h).1
  have e := (List.getElem?_eq_some_iff.mp h).2
  rw [← e, List.set_getElem_self]
section
variable {S : Store} {a b : List T} {x : T}
theorem b_catTN (h : a.length + b.length ≤ okL) : bop .add (.t (.lst a)) (.new b) S = .ok (.new (a ++ b)) S := if_pos h
theorem b_catTT (h : a.length + b.length ≤ okL) : bop .add (.t (.lst a)) (.t (.lst b)) S = .ok (.new (a ++ b)) S := if_pos h
theorem b_catNN (h : a.length + b.length ≤ okL) : bop .add (.new a) (.new b) S = .ok (.new (a ++ b)) S := if_pos h
theorem b_catNT (h : a.length + b.length ≤ okL) : bop .add (.new a) (.t (.lst b)) S = .ok (.new (a ++ b)) S := if_pos h
theorem b_repN {k : Int} (h : 0 ≤ k ∧ k ≤ 1000000) : bop .mul (.new [x]) (.t (.int k)) S = .ok (.new (List.replicate k.toNat x)) S := by
  have e : (List.replicate k.toNat [x]).flatten = List.replicate k.toNat x := List.flatten_replicate_singleton
  rw [← e]
  refine if_pos ⟨by omega, by omega, ?_⟩
  have : (okL : Nat) = 16000000 := rfl
  rw [List.length_singleton]
  omega
theorem cut_take {xs : List T} {j : Int} (h : 0 ≤ j) : cut xs none (some j) = xs.take j.toNat := by
  unfold cut
  rw [show HT.sIx xs.length 0 none = 0 from rfl, show HT.sIx xs.length xs.length (some j) = min j.toNat xs.length from if_neg (by omega), List.drop_zero, Nat.sub_zero]
  by_cases h2 : j.toNat ≤ xs.length
  · rw [Nat.min_eq_left h2]
  · rw [Nat.min_eq_right (by omega), List.take_of_length_le (Nat.le_refl _), List.take_of_length_le (by omega)]
theorem cut_drop {xs : List T} {j : Int} (h : 0 ≤ j) : cut xs (some j) none = xs.drop j.toNat := by
  unfold cut
  rw [show HT.sIx xs.length xs.length none = xs.length from rfl, show HT.sIx xs.length 0 (some j) = min j.toNat xs.length from if_neg (by omega)]
  by_cases h2 : j.toNat ≤ xs.length
  · rw [Nat.min_eq_left h2, List.take_of_length_le (by rw [List.length_drop]; omega)]
  · rw [Nat.min_eq_right (by omega), Nat.sub_self, List.take_zero, List.drop_of_length_le (by omega)]
theorem all_flat : ∀ ns : List Int, (ns.map T.int).all T.flat = true
  | [] => rfl
  | n :: ns => by
    rw [List.map_cons, List.all_cons, all_flat ns]
    rfl
theorem any_eqI {v : Int} : ∀ ns : List Int, ((ns.map T.int).any fun d => d.eqF (.int v)) = ns.contains v
  | [] => rfl
  | n :: ns => by
    rw [List.map_cons, List.any_cons, any_eqI ns, List.contains_cons]
    congr 1
    show decide (n = v) = (v == n)
    by_cases h : n = v
    · subst h
      rw [decide_eq_true rfl, beq_self_eq_true]
    · rw [decide_eq_false h, beq_eq_false_iff_ne.mpr (Ne.symm h)]
theorem c_inI {v : Int} {y : D} {ns : List Int} (h : sq S y = some (ns.map T.int)) : cmpD .in_ (.t (.int v)) y S = .ok (ns.contains v) S := by
  show inD (.t (.int v)) y S = _
  unfold inD
  dsimp only
  rw [h]
  dsimp only
  rw [if_pos ⟨rfl, all_flat ns⟩, any_eqI]
theorem c_ninI {v : Int} {y : D} {ns : List Int} (h : sq S y = some (ns.map T.int)) : cmpD .nin (.t (.int v)) y S = .ok (!ns.contains v) S := by
  have := c_inI (S := S) (v := v) h
  show notR (inD (.t (.int v)) y S) = _
  rw [show inD (.t (.int v)) y S = .ok (ns.contains v) S from this]
  rfl
/-- [c, ..][i], whole numbers -/
theorem ix_new {xs : List T} {i : Int} {kk : Nat} {x : T} (h1 : ixN xs.length i = some kk) (h2 : xs[kk]? = some x) : ixD (.new xs) (.t (.int i)) S = .ok (.t x) S := by
  refine i_of (ds := xs.map D.t) rfl ?_
  rw [List.length_map, h1]
  show (xs.map D.t)[kk]? = _
  rw [List.getElem?_map, h2]
  rfl
end
/-- a list of whole numbers: frozen, or in the store -/
inductive IsL (S : Store) : D → List Int → Prop
  | t {ns : List Int} : IsL S (.t (.lst (ns.map T.int))) ns
  | c {n : Nat} {ns : List Int} : S[n]? = some (.lst (ns.map T.int)) → IsL S (.cell n) ns
  | k {n : Nat} {ns : List Int} : S[n]? = some (.lck (.lst (ns.map T.int))) → IsL S (.cell n) ns
section
variable {S : Store} {x : D} {ns : List Int}
theorem IsL.sq (h : IsL S x ns) : sq S x = some (ns.map T.int) := by
  cases h with
  | t => rfl
  | c h => exact sq_c (rd_of h)
  | k h => exact sq_c (rd_lk h)
theorem IsL.sqd (h : IsL S x ns) : sqd S x = some ((ns.map T.int).map D.t) := by
  cases h with
  | t => rfl
  | c h => exact sqd_c (rd_of h)
  | k h => exact sqd_c (rd_lk h)
theorem IsL.len (h : IsL S x ns) : f1D .len x S = .ok (.int (ns.length : Nat)) S := by
  show lenD x S = _
  unfold lenD
  rw [h.sqd]
  dsimp only
  rw [List.length_map, List.length_map]
theorem IsL.isi (h : IsL S x ns) : f1D (.isi "list") x S = .ok (.bl true) S := by
  show isiD "list" x S = _
  unfold isiD
  have : tyD S x = some "list" := by
    cases h with
    | t => rfl
    | c h =>
      unfold tyD
      dsimp only
      rw [rd_of h]
    | k h =>
      unfold tyD
      dsimp only
      rw [rd_lk h]
  rw [this]
  rfl
theorem IsL.slot (h : IsL S x ns) : inSlot x = true := by cases h <;> rfl
theorem IsL.arg (h : IsL S x ns) : Z.arg x = some x := by cases h <;> rfl
theorem IsL.app {R : Store} (h : IsL S x ns) : IsL (S ++ R) x ns := by
  cases h with
  | t => exact .t
  | c h => exact .c (by rw [List.getElem?_append_left (List.getElem?_eq_some_iff.mp h).1]; exact h)
  | k h => exact .k (by rw [List.getElem?_append_left (List.getElem?_eq_some_iff.mp h).1]; exact h)
/-- it may be walked -/
theorem IsL.walk (h : IsL S x ns) : ∃ lk : Option Nat, (∀ (q : Q) (fr : Mi.Frame) (e : XE), e q fr S = .ok x S → Z.itEn e q fr S = .ok ((enumT (ns.map T.int)).map D.t, lk) S ∧ Z.itE e q fr S = .ok ((ns.map T.int).map D.t, lk) S) ∧
    (lckS S lk).length = S.length ∧ (∀ y ms, IsL S y ms → IsL (lckS S lk) y ms) ∧ ∀ R, unlS (lckS S lk ++ R) lk = S ++ R := by
  cases h with
  | t =>
    refine ⟨none, fun q fr e he => ⟨?_, ?_⟩, rfl, fun y ms h => h, fun R => rfl⟩
    · unfold Z.itEn
      rw [he]
      rfl
    · unfold Z.itE
      rw [he]
      rfl
  | @k n ns h =>
    refine ⟨none, fun q fr e he => ⟨?_, ?_⟩, rfl, fun y ms h => h, fun R => rfl⟩
    · unfold Z.itEn
      rw [he, bnd_ok]
      dsimp only
      rw [h]
    · unfold Z.itE
      rw [he, bnd_ok]
      dsimp only
      rw [h]
  | @c n ns h =>
    have hn := (List.getElem?_eq_some_iff.mp h).1
    have el := lck_eq h (.inl ⟨_, rfl⟩)
    refine ⟨some n, fun q fr e he => ⟨?_, ?_⟩, lck_len, fun y ms hy => ?_, fun R => ?_⟩
    · unfold Z.itEn
      rw [he, bnd_ok]
      dsimp only
      rw [h]
    · unfold Z.itE
      rw [he, bnd_ok]
      dsimp only
      rw [h]
    · rw [el]
      cases hy with
      | t => exact .t
      | @c j ms hj =>
        by_cases e : n = j
        · subst e
          rw [h] at hj
          have e2 := Ob.lst.inj (Option.some.inj hj)
          exact .k (by rw [List.getElem?_set_self hn, e2])
        · exact .c (by rw [List.getElem?_set_ne e]; exact hj)
      | @k j ms hj =>
        have e : n ≠ j := fun z => by
          subst z
          rw [h] at hj
          cases hj
        exact .k (by rw [List.getElem?_set_ne e]; exact hj)
    · rw [el]
      have e1 : (S.set n (.lck (.lst (ns.map T.int))) ++ R)[n]? = some (.lck (.lst (ns.map T.int))) := by
        rw [List.getElem?_append_left (by rw [List.length_set]; exact hn), List.getElem?_set_self hn]
      unfold unlS
      dsimp only
      rw [e1]
      dsimp only
      rw [List.set_append_left _ _ (by rw [List.length_set]; exact hn), List.set_set]
      have e2 := (List.getElem?_eq_some_iff.mp h).2
      rw [← e2, List.set_getElem_self]
end
theorem s_forLk {q : Q} {fr fr2 : Mi.Frame} {S R : Store} {it : XI} {s : XB} {tg : Z.Tg} {items : List D} {lk : Option Nat} {fl : Fl} (hi : it q fr S = .ok (items, lk) S) (hl : Z.forL tg (fun fr2 S2 => Z.cutR false (lckS S lk).length (s q fr2 S2)) items fr (lckS S lk) = .ok (fl, fr2) (lckS S lk ++ R)) (hu : unlS (lckS S lk ++ R) lk = S ++ R) :
    Z.fors false tg it s q fr S = .ok (fl, fr2) (S ++ R) := by
  rw [z_fors, hi, bnd_ok]
  show unlR lk (Z.forL tg (fun fr2 S2 => Z.cutR false (lckS S lk).length (s q fr2 S2)) items fr (lckS S lk)) = _
  rw [hl]
  show Mi.R.ok (fl, fr2) (unlS (lckS S lk ++ R) lk) = _
  rw [hu]
theorem enum_at {ns : List Int} {i : Nat} {d : D} (h : ((enumT (ns.map T.int)).map D.t)[i]? = some d) : ∃ v, ns[i]? = some v ∧ d = .t (.tup [.int (i : Nat), .int v]) := by
  rw [List.getElem?_map, enumT_get, List.getElem?_map] at h
  cases q : ns[i]? with
  | none =>
    rw [q] at h
    cases h
  | some v =>
    rw [q] at h
    cases h
    exact ⟨v, rfl, rfl⟩
theorem enum_len {ns : List Int} : ((enumT (ns.map T.int)).map D.t).length = ns.length := by
  rw [List.length_map, enumT_len, List.length_map]
theorem not_take {ns : List Int} {i : Nat} {v : Int} (nd : ns.Nodup) (h : ns[i]? = some v) : (ns.take i).contains v = false := by
  rw [Bool.eq_false_iff]
  intro z
  have hm := List.contains_iff_mem.mp z
  obtain ⟨j, hj, ej⟩ := List.getElem_of_mem hm
  rw [List.length_take] at hj
  rw [List.getElem_take] at ej
  obtain ⟨hi, ei⟩ := List.getElem?_eq_some_iff.mp h
  have := List.pairwise_iff_getElem.mp nd j i (by omega) hi (by omega)
  exact this (ej.trans ei.symm)
theorem q_ifF {q : Q} {fr : Mi.Frame} {S S1 : Store} {ta : XT} {s t : XB} (h : ta q fr S = .ok false S1) : Z.seq (Z.ifs ta s Z.skip) t q fr S = t q fr S1 := q_nx ((s_ifF h).trans rfl)
theorem rt_ifF0 {q : Q} {fr : Mi.Frame} {S S1 S' : Store} {ta : XT} {s t : XB} {d : D} (h : ta q fr S = .ok false S1) (h2 : Rt (t q fr S1) d S') : Rt (Z.seq (Z.ifs ta s Z.skip) t q fr S) d S' := by
  rw [q_ifF h]
  exact h2
theorem callA_id {q : Q} {n : Nat} {ds : List D} {ar : List (Sum Nat T)} {S : Store} {es zs : List D} (h1 : mapO Z.arg ds = some es) (h2 : Z.arr es ar = some zs) : Z.callA q n ds ar S = q.call n zs S := by
  unfold Z.callA
  rw [h1]
  dsimp only
  rw [h2]
theorem mapO1 {a b : D} (h : Z.arg a = some b) : mapO Z.arg [a] = some [b] := by
  unfold mapO
  rw [h]
  rfl
theorem mapO2 {a b c d : D} (h : Z.arg a = some b) (h2 : Z.arg c = some d) : mapO Z.arg [a, c] = some [b, d] := by
  unfold mapO
  rw [h, mapO1 h2]
  rfl
theorem mapO3 {a b c d e f : D} (h : Z.arg a = some b) (h2 : Z.arg c = some d) (h3 : Z.arg e = some f) : mapO Z.arg [a, c, e] = some [b, d, f] := by
  unfold mapO
  rw [h, mapO2 h2 h3]
  rfl
/-- f(x), f(x, y), f(x, y, z) -/
theorem e_call1 {q : Q} {n : Nat} {fr : Mi.Frame} {S S1 : Store} {a : XE} {x x' : D} (h : a q fr S = .ok x S1) (hx : Z.arg x = some x') : Z.call n (Z.cons a Z.nil) [.inl 0] q fr S = q.call n [x'] S1 := by
  rw [z_call, z_cons, h, bnd_ok, z_nil, bnd_ok, bnd_ok]
  exact callA_id (mapO1 hx) rfl
theorem e_call2 {q : Q} {n : Nat} {fr : Mi.Frame} {S S1 S2 : Store} {a b : XE} {x y x' y' : D} (h : a q fr S = .ok x S1) (h2 : b q fr S1 = .ok y S2) (hx : Z.arg x = some x') (hy : Z.arg y = some y') : Z.call n (Z.cons a (Z.cons b Z.nil)) [.inl 0, .inl 1] q fr S = q.call n [x', y'] S2 := by
  rw [z_call, z_cons, h, bnd_ok, z_cons, h2, bnd_ok, z_nil, bnd_ok, bnd_ok, bnd_ok]
  exact callA_id (mapO2 hx hy) rfl
theorem e_call3 {q : Q} {n : Nat} {fr : Mi.Frame} {S S1 S2 S3 : Store} {a b c : XE} {x y z x' y' z' : D} (h : a q fr S = .ok x S1) (h2 : b q fr S1 = .ok y S2) (h3 : c q fr S2 = .ok z S3) (hx : Z.arg x = some x') (hy : Z.arg y = some y') (hz : Z.arg z = some z') : Z.call n (Z.cons a (Z.cons b (Z.cons c Z.nil))) [.inl 0, .inl 1, .inl 2] q fr S = q.call n [x', y', z'] S3 := by
  rw [z_call, z_cons, h, bnd_ok, z_cons, h2, bnd_ok, z_cons, h3, bnd_ok, z_nil, bnd_ok, bnd_ok, bnd_ok, bnd_ok]
  exact callA_id (mapO3 hx hy hz) rfl
theorem ixN_at {n i : Nat} (h : i < n) : ixN n ((i : Nat) : Int) = some i := by
  unfold ixN
  rw [if_pos (by omega), if_pos (by omega), Int.toNat_natCast]
theorem map_erase {f : Int → T} : ∀ (xs : List Int) (i : Nat), (xs.map f).eraseIdx i = (xs.eraseIdx i).map f
  | [], _ => rfl
  | _ :: _, 0 => rfl
  | x :: xs, i + 1 => by
    rw [List.map_cons, List.eraseIdx_cons_succ, List.eraseIdx_cons_succ, List.map_cons, map_erase xs i]
/-- left_by, place by place -/
def lb (g : List Int → Nat → List Int) (ms : List Int) : Nat → Nat → List Int → List Int
  | 0, _, xs => xs
  | f + 1, p, xs => match xs[p]? with
    | some v => lb g ms f (p + 1) (if ms.contains v = true then g xs p else xs)
    | none => xs
theorem lb_more {g : List Int → Nat → List Int} (hg : ∀ xs p, (g xs p).length ≤ xs.length) {ms : List Int} : ∀ {f : Nat} {p : Nat} {xs : List Int}, xs.length ≤ p + f → lb g ms (f + 1) p xs = lb g ms f p xs
  | 0, p, xs, h => by
    unfold lb
    rw [List.getElem?_eq_none (by omega)]
  | f + 1, p, xs, h => by
    show (match xs[p]? with
      | some v => lb g ms (f + 1) (p + 1) (if ms.contains v = true then g xs p else xs)
      | none => xs) = match xs[p]? with
      | some v => lb g ms f (p + 1) (if ms.contains v = true then g xs p else xs)
      | none => xs
    cases xs[p]? with
    | none => rfl
    | some v =>
      dsimp only
      refine lb_more hg ?_
      split
      · have := hg xs p
        omega
      · omega
/-- what a dropping pass leaves -/
def pass (ms xs : List Int) : List Int := lb (fun zs i => zs.eraseIdx i) ms xs.length 0 xs
theorem erase_le (xs : List Int) (p : Nat) : (xs.eraseIdx p).length ≤ xs.length := by
  rw [List.length_eraseIdx]
  split <;> omega
theorem lb_le {g : List Int → Nat → List Int} (hg : ∀ xs p, (g xs p).length ≤ xs.length) {ms : List Int} : ∀ (f p : Nat) (xs : List Int), (lb g ms f p xs).length ≤ xs.length
  | 0, _, _ => Nat.le_refl _
  | f + 1, p, xs => by
    unfold lb
    split
    · rename_i v _
      have h2 := hg xs p
      refine Nat.le_trans (lb_le hg f (p + 1) _) ?_
      split <;> omega
    · exact Nat.le_refl _
theorem pass_le (ms xs : List Int) : (pass ms xs).length ≤ xs.length := lb_le erase_le _ _ _
def passN (ms : List Int) : Nat → List Int → List Int
  | 0, xs => xs
  | n + 1, xs => pass ms (passN ms n xs)
theorem passN_le (ms : List Int) : ∀ (n : Nat) (xs : List Int), (passN ms n xs).length ≤ xs.length
  | 0, _ => Nat.le_refl _
  | n + 1, xs => Nat.le_trans (pass_le ms _) (passN_le ms n xs)
/-- what stays: of each run each step-th value, all others -/
def stays (ms : List Int) (step : Int) : Int → List Int → List Int
  | _, [] => []
  | m, v :: r => (if (if ms.contains v = true then m + 1 else 0) % step = 0 then [v] else []) ++ stays ms step (if ms.contains v = true then m + 1 else 0) r
theorem list_at {ns : List Int} {i : Nat} {d : D} (h : ((ns.map T.int).map D.t)[i]? = some d) : ∃ v, ns[i]? = some v ∧ d = .t (.int v) := by
  rw [List.getElem?_map, List.getElem?_map] at h
  cases q : ns[i]? with
  | none =>
    rw [q] at h
    cases h
  | some v =>
    rw [q] at h
    cases h
    exact ⟨v, rfl, rfl⟩
/-! a pass leaves each second value of a run -/
def lv (ms : List Int) : List Int → List Int
  | [] => []
  | [v] => if ms.contains v = true then [] else [v]
  | v :: w :: r => if ms.contains v = true then w :: lv ms r else v :: lv ms (w :: r)
theorem lb_at {ms : List Int} : ∀ (f : Nat) (pre suf : List Int), suf.length ≤ f → lb (fun zs i => zs.eraseIdx i) ms f pre.length (pre ++ suf) = pre ++ lv ms suf
  | 0, pre, [], _ => by
    unfold lb lv
    rfl
  | f + 1, pre, [], _ => by
    unfold lb lv
    rw [List.append_nil, List.getElem?_eq_none (Nat.le_refl _)]
  | f + 1, pre, [v], h => by
    unfold lb lv
    rw [List.getElem?_append_right (Nat.le_refl _), Nat.sub_self]
    show lb _ ms f (pre.length + 1) (if ms.contains v = true then (pre ++ [v]).eraseIdx pre.length else pre ++ [v]) = _
    have e : (pre ++ [v]).eraseIdx pre.length = pre := by
      rw [List.eraseIdx_append_of_length_le (Nat.le_refl _), Nat.sub_self]
      exact List.append_nil _
    rw [e]
    split
    · cases f with
      | zero => exact (List.append_nil _).symm
      | succ f =>
        unfold lb
        rw [List.getElem?_eq_none (by omega)]
        exact (List.append_nil _).symm
    · have := lb_at (ms := ms) f (pre ++ [v]) [] (Nat.zero_le _)
      rw [List.append_nil, List.length_append, List.length_singleton] at this
      rw [this]
      unfold lv
      rw [List.append_nil]
  | f + 1, pre, v :: w :: r, h => by
    unfold lb
    rw [List.getElem?_append_right (Nat.le_refl _), Nat.sub_self]
    show lb _ ms f (pre.length + 1) (if ms.contains v = true then (pre ++ v :: w :: r).eraseIdx pre.length else pre ++ v :: w :: r) = pre ++ (if ms.contains v = true then w :: lv ms r else v :: lv ms (w :: r))
    have e : (pre ++ v :: w :: r).eraseIdx pre.length = (pre ++ [w]) ++ r := by
      rw [List.eraseIdx_append_of_length_le (Nat.le_refl _), Nat.sub_self, List.append_assoc]
      rfl
    have l : ∀ u : Int, pre.length + 1 = (pre ++ [u]).length := fun u => by
      rw [List.length_append]
      rfl
    rw [e]
    split
    · rw [l w, lb_at f (pre ++ [w]) r (by simp only [List.length_cons] at h; omega), List.append_assoc]
      rfl
    · rw [l v, show pre ++ v :: w :: r = (pre ++ [v]) ++ (w :: r) by rw [List.append_assoc]; rfl, lb_at f (pre ++ [v]) (w :: r) (by simp only [List.length_cons] at h ⊢; omega), List.append_assoc]
      rfl
theorem pass_lv (ms xs : List Int) : pass ms xs = lv ms xs := lb_at xs.length [] xs (Nat.le_refl _)
theorem stays_cons {ms : List Int} {s m v : Int} {r : List Int} : stays ms s m (v :: r) = (if (if ms.contains v = true then m + 1 else 0) % s = 0 then [v] else []) ++ stays ms s (if ms.contains v = true then m + 1 else 0) r := rfl
theorem stays_add {ms : List Int} {s : Int} : ∀ (xs : List Int) (m : Int), stays ms s (m + s) xs = stays ms s m xs
  | [], _ => rfl
  | v :: r, m => by
    rw [stays_cons, stays_cons]
    cases ms.contains v with
    | true =>
      rw [if_pos rfl, if_pos rfl, show m + s + 1 = (m + 1) + s by omega, Int.add_emod_right, stays_add r (m + 1)]
    | false => rfl
theorem lv_stays (ms : List Int) : ∀ xs : List Int, lv ms xs = stays ms 2 0 xs
  | [] => rfl
  | [v] => by
    unfold lv stays
    cases ms.contains v <;> rfl
  | v :: w :: r => by
    unfold lv
    cases hv : ms.contains v with
    | true =>
      rw [if_pos rfl, lv_stays ms r, stays_cons, hv, if_pos rfl, stays_cons]
      cases hw : ms.contains w with
      | true =>
        rw [if_pos rfl]
        show w :: stays ms 2 0 r = [w] ++ stays ms 2 (0 + 2) r
        rw [stays_add]
        rfl
      | false => rfl
    | false =>
      rw [if_neg Bool.false_ne_true, lv_stays ms (w :: r), stays_cons (v := v), hv]
      rfl
theorem stays_two {ms : List Int} {s : Int} (h0 : 0 < s) : ∀ (xs : List Int) (m : Int), 0 ≤ m → stays ms 2 (m / s) (stays ms s m xs) = stays ms (s * 2) m xs
  | [], _, _ => rfl
  | v :: r, m, hm => by
    have lhs : stays ms s m (v :: r) = (if (if ms.contains v = true then m + 1 else 0) % s = 0 then [v] else []) ++ stays ms s (if ms.contains v = true then m + 1 else 0) r := rfl
    have rhs : stays ms (s * 2) m (v :: r) = (if (if ms.contains v = true then m + 1 else 0) % (s * 2) = 0 then [v] else []) ++ stays ms (s * 2) (if ms.contains v = true then m + 1 else 0) r := rfl
    rw [lhs, rhs]
    cases hv : ms.contains v with
    | false =>
      rw [if_neg Bool.false_ne_true, Int.zero_emod, Int.zero_emod, if_pos rfl]
      show stays ms 2 (m / s) (v :: stays ms s 0 r) = _
      have ih := stays_two (ms := ms) h0 r 0 (Int.le_refl _)
      rw [Int.zero_ediv] at ih
      rw [stays_cons, hv, if_neg Bool.false_ne_true, ih]
      rfl
    | true =>
      rw [if_pos rfl]
      have ih := stays_two (ms := ms) h0 r (m + 1) (by omega)
      have em := Int.mul_ediv_add_emod m s
      have r1 := Int.emod_nonneg m (b := s) (by omega)
      have r2 := Int.emod_lt_of_pos m h0
      generalize m / s = q at em ih ⊢
      generalize m % s = t at em r1 r2
      by_cases ht : t + 1 = s
      · have u := (Int.ediv_emod_unique (a := m + 1) (r := 0) (q := q + 1) h0).mpr ⟨by rw [Int.mul_add]; omega, by omega, h0⟩
        have e1 : m + 1 = s * (q + 1) := by rw [Int.mul_add]; omega
        rw [u.1] at ih
        rw [if_pos u.2]
        show stays ms 2 q (v :: stays ms s (m + 1) r) = _
        rw [stays_cons, hv, if_pos rfl, ih]
        congr 1
        have e2 : (m + 1) % (s * 2) = s * ((q + 1) % 2) := by
          rw [e1]
          exact Int.mul_emod_mul_of_pos (q + 1) 2 h0
        rw [e2]
        by_cases hz : (q + 1) % 2 = 0
        · rw [hz, Int.mul_zero]
        · rw [if_neg hz, if_neg]
          intro z
          rcases Int.mul_eq_zero.mp z with z | z
          · omega
          · exact hz z
      · have u := (Int.ediv_emod_unique (a := m + 1) (r := t + 1) (q := q) h0).mpr ⟨by omega, by omega, by omega⟩
        rw [u.1] at ih
        have n1 : ¬ (m + 1) % s = 0 := by rw [u.2]; omega
        have n2 : ¬ (m + 1) % (s * 2) = 0 := fun z => n1 (by
          have := Int.emod_emod_of_dvd (m + 1) (Int.dvd_mul_right s 2)
          rw [z] at this
          rw [← this]
          exact Int.zero_emod _)
        rw [if_neg n1, if_neg n2, List.nil_append, List.nil_append]
        exact ih
theorem stays_one (ms : List Int) : ∀ (xs : List Int) (m : Int), stays ms 1 m xs = xs
  | [], _ => rfl
  | v :: r, m => by
    unfold stays
    rw [Int.emod_one, if_pos rfl, stays_one ms r]
    rfl
/-- so many passes -/
theorem passN_stays (ms xs : List Int) : ∀ n : Nat, passN ms n xs = stays ms (2 ^ n) 0 xs
  | 0 => (stays_one ms xs 0).symm
  | n + 1 => by
    show pass ms (passN ms n xs) = _
    rw [passN_stays ms xs n, pass_lv, lv_stays]
    have := stays_two (ms := ms) (s := 2 ^ n) (Int.pow_pos (by decide)) xs 0 (Int.le_refl _)
    rw [Int.zero_ediv] at this
    rw [this, Int.pow_succ]
/-- the places that a pass visits, from p on -/
def vis (ms xs : List Int) : Nat → Nat → List Int
  | 0, _ => []
  | f + 1, p => match xs[p]? with
    | some v => (p : Int) :: vis ms xs f (p + if ms.contains v = true then 2 else 1)
    | none => []
theorem vis_le (ms xs : List Int) : ∀ f p, (vis ms xs f p).length ≤ f
  | 0, _ => Nat.le_refl _
  | f + 1, p => by
    unfold vis
    split
    · rw [List.length_cons]
      exact Nat.succ_le_succ (vis_le ms xs f _)
    · exact Nat.zero_le _
theorem lck_app {S R : Store} {n : Nat} {o : Ob} (h : S[n]? = some o) (ho : (∃ xs, o = .lst xs) ∨ ∃ ds, o = .lsto ds) : lckS (S ++ R) (some n) = lckS S (some n) ++ R := by
  have hn := (List.getElem?_eq_some_iff.mp h).1
  rw [lck_eq h ho, lck_eq (S := S ++ R) (by rw [List.getElem?_append_left hn]; exact h) ho, List.set_append_left _ _ hn]
/-- it may be walked, with more behind the store -/
theorem IsL.walkR {S : Store} {x : D} {ns : List Int} (h : IsL S x ns) : ∃ lk : Option Nat, (∀ (R : Store) (q : Q) (fr : Mi.Frame) (e : XE), e q fr (S ++ R) = .ok x (S ++ R) → Z.itEn e q fr (S ++ R) = .ok ((enumT (ns.map T.int)).map D.t, lk) (S ++ R) ∧ Z.itE e q fr (S ++ R) = .ok ((ns.map T.int).map D.t, lk) (S ++ R)) ∧
    (∀ R, lckS (S ++ R) lk = lckS S lk ++ R) ∧ (lckS S lk).length = S.length ∧ (∀ y ms, IsL S y ms → IsL (lckS S lk) y ms) ∧ ∀ R, unlS (lckS S lk ++ R) lk = S ++ R := by
  obtain ⟨lk, h1, h2, h3, h4⟩ := h.walk
  cases h with
  | t => exact ⟨none, fun R q fr e he => ⟨by unfold Z.itEn; rw [he]; rfl, by unfold Z.itE; rw [he]; rfl⟩, fun _ => rfl, rfl, fun _ _ h => h, fun _ => rfl⟩
  | @k n ns h =>
    refine ⟨none, fun R q fr e he => ?_, fun _ => rfl, rfl, fun _ _ h => h, fun _ => rfl⟩
    have hR : (S ++ R)[n]? = some (.lck (.lst (ns.map T.int))) := by rw [List.getElem?_append_left (List.getElem?_eq_some_iff.mp h).1]; exact h
    constructor
    · unfold Z.itEn
      rw [he, bnd_ok]
      dsimp only
      rw [hR]
    · unfold Z.itE
      rw [he, bnd_ok]
      dsimp only
      rw [hR]
  | @c n ns h =>
    have e1 := (h1 ⟨fun _ _ _ => .no, fun _ => 0, 0⟩ [] (fun _ _ S => .ok (.cell n) S) rfl).2
    have elk : lk = some n := by
      unfold Z.itE at e1
      dsimp only [R.bnd] at e1
      rw [h] at e1
      cases e1
      rfl
    subst elk
    refine ⟨some n, fun R q fr e he => ?_, fun R => lck_app h (.inl ⟨_, rfl⟩), h2, h3, h4⟩
    have hR : (S ++ R)[n]? = some (.lst (ns.map T.int)) := by rw [List.getElem?_append_left (List.getElem?_eq_some_iff.mp h).1]; exact h
    constructor
    · unfold Z.itEn
      rw [he, bnd_ok]
      dsimp only
      rw [hR]
    · unfold Z.itE
      rw [he, bnd_ok]
      dsimp only
      rw [hR]
theorem s_forLkR {q : Q} {fr fr2 : Mi.Frame} {S R R2 : Store} {it : XI} {s : XB} {tg : Z.Tg} {items : List D} {lk : Option Nat} {fl : Fl} (hi : it q fr (S ++ R) = .ok (items, lk) (S ++ R)) (hL : lckS (S ++ R) lk = lckS S lk ++ R) (hl : Z.forL tg (fun fr2 S2 => Z.cutR false (lckS S lk ++ R).length (s q fr2 S2)) items fr (lckS S lk ++ R) = .ok (fl, fr2) (lckS S lk ++ R2)) (hu : unlS (lckS S lk ++ R2) lk = S ++ R2) :
    Z.fors false tg it s q fr (S ++ R) = .ok (fl, fr2) (S ++ R2) := by
  rw [z_fors, hi, bnd_ok]
  show unlR lk (Z.forL tg (fun fr2 S2 => Z.cutR false (lckS (S ++ R) lk).length (s q fr2 S2)) items fr (lckS (S ++ R) lk)) = _
  rw [hL, hl]
  show Mi.R.ok (fl, fr2) (unlS (lckS S lk ++ R2) lk) = _
  rw [hu]
/-- the runs: first place, length; m values of a run are behind us -/
def rn (ms : List Int) : Int → Int → List Int → List (Int × Int)
  | p, m, [] => if 0 < m then [(p - m, m)] else []
  | p, m, v :: r => if ms.contains v = true then rn ms (p + 1) (m + 1) r else if 0 < m then (p - m, m) :: rn ms (p + 1) 0 r else rn ms (p + 1) m r
def pr (q : Int × Int) : T := .tup [.int q.1, .int q.2]
/-- a comprehension of values by themselves -/
theorem lcL_map {α : Type} {q : Q} {fr : Mi.Frame} {S : Store} {tg : Z.Tg} {ts : XT} {el : XE} {enc : α → D} {p : α → Bool} {g : α → D} : ∀ {items : List α}, (∀ a ∈ items, ∃ fr1, asg S tg (enc a) fr = some fr1 ∧ ts q fr1 S = .ok (p a) S ∧ (p a = true → el q fr1 S = .ok (g a) S)) → lcL tg ts el q fr (items.map enc) S = .ok ((items.filter p).map g) S
  | [], _ => rfl
  | a :: items, h => by
    obtain ⟨fr1, e1, e2, e3⟩ := h a List.mem_cons_self
    have ih := lcL_map (items := items) fun b hb => h b (List.mem_cons_of_mem _ hb)
    rw [List.map_cons]
    unfold lcL
    rw [e1]
    dsimp only
    rw [e2]
    cases hp : p a with
    | true =>
      dsimp only
      rw [e3 hp]
      dsimp only
      rw [ih, bnd_ok, List.filter_cons_of_pos hp]
      rfl
    | false =>
      dsimp only
      rw [ih, List.filter_cons_of_neg (by rw [hp]; exact Bool.false_ne_true)]
theorem allT_map : ∀ xs : List T, allT (xs.map D.t) = some xs
  | [] => rfl
  | x :: xs => by
    show (allT (xs.map D.t)).map (x :: ·) = _
    rw [allT_map xs]
    rfl
theorem mkL_T (xs : List T) : Z.mkL (xs.map D.t) = .new xs := by
  unfold Z.mkL
  rw [allT_map]
/-- [.. for .. in e if ..], e not in the store -/
theorem e_lc {α : Type} {q : Q} {fr : Mi.Frame} {S S1 : Store} {vs : List Nat} {tg : Z.Tg} {it : XI} {ts : XT} {el : XE} {enc : α → D} {p : α → Bool} {g : α → T} {items : List α} (hi : it q fr S = .ok (items.map enc, none) S1) (hl : items.length ≤ okL)
    (h : ∀ a ∈ items, ∃ fr1, asg S1 tg (enc a) (wipeF fr vs) = some fr1 ∧ ts q fr1 S1 = .ok (p a) S1 ∧ (p a = true → el q fr1 S1 = .ok (.t (g a)) S1)) : Z.lc vs tg it ts el q fr S = .ok (.new ((items.filter p).map g)) S1 := by
  unfold Z.lc
  rw [hi, bnd_ok, if_pos (by rw [List.length_map]; exact hl)]
  show R.bnd (unlR none (lcL tg ts el q (wipeF fr vs) (items.map enc) S1)) _ = _
  rw [lcL_map (p := p) (g := fun a => .t (g a)) h]
  show Mi.R.ok (Z.mkL ((items.filter p).map fun a => D.t (g a))) S1 = _
  rw [show ((items.filter p).map fun a => D.t (g a)) = ((items.filter p).map g).map D.t by rw [List.map_map]; rfl, mkL_T]
/-- the most -/
def most (d : Int) (ns : List Int) : Int := if ns = [] then d else maxI ns
theorem rn_sum {ms : List Int} : ∀ (xs : List Int) (p m : Int), 0 ≤ m → ((rn ms p m xs).map (·.2)).sum = m + ((xs.filter fun v => ms.contains v).length : Nat)
  | [], p, m, h => by
    unfold rn
    split
    · show m + 0 = m + ((0 : Nat) : Int)
      rfl
    · show (0 : Int) = m + ((0 : Nat) : Int)
      omega
  | v :: r, p, m, h => by
    unfold rn
    cases hc : ms.contains v with
    | true =>
      rw [if_pos rfl, rn_sum r _ _ (by omega), List.filter_cons_of_pos (by exact hc), List.length_cons]
      omega
    | false =>
      rw [if_neg Bool.false_ne_true, List.filter_cons_of_neg (by rw [hc]; exact Bool.false_ne_true)]
      split
      · rw [List.map_cons, List.sum_cons, rn_sum r _ 0 (Int.le_refl _)]
        omega
      · exact rn_sum r _ m h
theorem rn_pos {ms : List Int} : ∀ (xs : List Int) (p m : Int), ∀ q ∈ rn ms p m xs, 0 < q.2
  | [], p, m, q, hq => by
    unfold rn at hq
    split at hq
    · rw [List.mem_singleton.mp hq]
      assumption
    · cases hq
  | v :: r, p, m, q, hq => by
    unfold rn at hq
    split at hq
    · exact rn_pos r _ _ q hq
    · split at hq
      · rcases List.mem_cons.mp hq with rfl | hq
        · assumption
        · exact rn_pos r _ _ q hq
      · exact rn_pos r _ _ q hq
theorem rn_len {ms : List Int} : ∀ (xs : List Int) (p m : Int), (rn ms p m xs).length ≤ xs.length + 1
  | [], p, m => by
    unfold rn
    split
    · exact Nat.le_refl _
    · exact Nat.zero_le _
  | v :: r, p, m => by
    unfold rn
    split
    · exact Nat.le_trans (rn_len r _ _) (Nat.le_succ _)
    · split
      · exact Nat.succ_le_succ (rn_len r _ _)
      · exact Nat.le_trans (rn_len r _ _) (Nat.le_succ _)
theorem bits_lt {l : Int} {a : Nat} (h : 0 ≤ l) : Builtin.Int.intBits l ≤ a ↔ l < 2 ^ a := by
  obtain ⟨n, rfl⟩ := Int.eq_ofNat_of_zero_le h
  unfold Builtin.Int.intBits
  cases n with
  | zero =>
    refine ⟨fun _ => Int.pow_pos (by decide), fun _ => ?_⟩
    show (0 : Nat) ≤ a
    exact Nat.zero_le _
  | succ n =>
    rw [if_neg (by simp; omega)]
    rw [Int.natAbs_natCast]
    have h1 := Nat.log2_lt (n := n + 1) (k := a) (by omega)
    constructor
    · intro z
      have := h1.mp (by omega)
      exact_mod_cast this
    · intro z
      have z2 : n + 1 < 2 ^ a := by exact_mod_cast z
      have := h1.mpr z2
      omega
theorem most_max {ns : List Int} (h : ∀ n ∈ ns, 0 < n) : maxI (0 :: ns) = most 0 ns := by
  unfold most
  cases ns with
  | nil => rfl
  | cons n ns =>
    rw [if_neg (by intro z; cases z)]
    show max 0 (maxI (n :: ns)) = maxI (n :: ns)
    have := h _ (maxI_mem (ns := n :: ns) (by intro z; cases z)).1
    omega
theorem stays_like {ms ns : List Int} {s : Int} : ∀ (xs : List Int) (m : Int), (∀ v ∈ xs, ms.contains v = ns.contains v) → stays ms s m xs = stays ns s m xs
  | [], _, _ => rfl
  | v :: r, m, h => by
    rw [stays_cons, stays_cons, h v List.mem_cons_self, stays_like r _ fun u hu => h u (List.mem_cons_of_mem _ hu)]
theorem rn_like {ms ns : List Int} : ∀ (xs : List Int) (p m : Int), (∀ v ∈ xs, ms.contains v = ns.contains v) → rn ms p m xs = rn ns p m xs
  | [], _, _, _ => rfl
  | v :: r, p, m, h => by
    unfold rn
    have ih : ∀ p m, rn ms p m r = rn ns p m r := fun p m => rn_like r p m fun u hu => h u (List.mem_cons_of_mem _ hu)
    rw [h v List.mem_cons_self, ih, ih, ih]
theorem vis_like {ms ns : List Int} {xs : List Int} (h : ∀ v ∈ xs, ms.contains v = ns.contains v) : ∀ f p, vis ms xs f p = vis ns xs f p
  | 0, _ => rfl
  | f + 1, p => by
    unfold vis
    cases q : xs[p]? with
    | none => rfl
    | some v =>
      dsimp only
      rw [h v (List.mem_of_getElem? q), vis_like h f]
theorem stays_mid {ms : List Int} {s u : Int} (hu : ms.contains u = false) : ∀ (xs ys : List Int) (m : Int), stays ms s m (xs ++ u :: ys) = stays ms s m xs ++ u :: stays ms s 0 ys
  | [], ys, m => by
    rw [List.nil_append, stays_cons, hu, if_neg Bool.false_ne_true, Int.zero_emod, if_pos rfl]
    rfl
  | v :: r, ys, m => by
    rw [List.cons_append, stays_cons, stays_cons, stays_mid hu r ys, List.append_assoc]
theorem pass_stays (ms xs : List Int) : pass ms xs = stays ms 2 0 xs := by rw [pass_lv, lv_stays]
/-- is p visited -/
def vz (ms xs : List Int) : Nat → Bool
  | 0 => true
  | p + 1 => !(vz ms xs p && match xs[p]? with
    | some v => ms.contains v
    | none => false)
/-- the visited places are these -/
theorem vis_at {ms xs : List Int} : ∀ (f p : Nat), xs.length ≤ p + f → vz ms xs p = true → vis ms xs f p = ((List.range' p (xs.length - p)).filter (vz ms xs)).map fun k : Nat => (k : Int)
  | 0, p, h, _ => by
    rw [show xs.length - p = 0 by omega]
    rfl
  | f + 1, p, h, hz => by
    unfold vis
    by_cases hp : p < xs.length
    · have ez : xs[p]? = some xs[p] := List.getElem?_eq_getElem hp
      rw [ez]
      dsimp only
      rw [show xs.length - p = (xs.length - (p + 1)) + 1 by omega, List.range'_succ, List.filter_cons_of_pos hz, List.map_cons]
      congr 1
      have z1 : vz ms xs (p + 1) = !ms.contains xs[p] := by
        show (!(vz ms xs p && match xs[p]? with
          | some v => ms.contains v
          | none => false)) = _
        rw [hz, ez, Bool.true_and]
      cases hc : ms.contains xs[p] with
      | false =>
        rw [hc] at z1
        rw [if_neg Bool.false_ne_true]
        exact vis_at f (p + 1) (by omega) z1
      | true =>
        rw [hc] at z1
        rw [if_pos rfl]
        have z2 : vz ms xs (p + 2) = true := by
          show (!(vz ms xs (p + 1) && _)) = true
          rw [z1]
          rfl
        rw [vis_at f (p + 2) (by omega) z2]
        by_cases h2 : p + 1 < xs.length
        · rw [show xs.length - (p + 1) = (xs.length - (p + 2)) + 1 by omega, List.range'_succ, List.filter_cons_of_neg (by rw [z1]; exact Bool.false_ne_true)]
        · rw [show xs.length - (p + 2) = 0 by omega, show xs.length - (p + 1) = 0 by omega]
          rfl
    · rw [List.getElem?_eq_none (by omega), show xs.length - p = 0 by omega]
      rfl
theorem vis_all (ms xs : List Int) : vis ms xs xs.length 0 = ((List.range xs.length).filter (vz ms xs)).map fun k : Nat => (k : Int) := by
  rw [vis_at xs.length 0 (by omega) rfl, Nat.sub_zero, List.range_eq_range']
section
variable {S : Store} {x : D} {ns : List Int}
theorem ts_ne {d : Dr} {ns : List Int} : d.ts ≠ ns.map T.int := fun h => by
  have h3 : (ns.map T.int)[2]? = some (.bl d.b) := by rw [← h]; rfl
  rw [List.getElem?_map] at h3
  cases q : ns[2]? with
  | none =>
    rw [q] at h3
    cases h3
  | some v =>
    rw [q] at h3
    cases h3
/-- the draws go on -/
theorem IsL.set {m : Nat} {d : Dr} {o : Ob} (h : IsL S x ns) (hm : S[m]? = some (.lst d.ts)) : IsL (S.set m o) x ns := by
  cases h with
  | t => exact .t
  | @c n ns h =>
    refine .c ?_
    by_cases e : m = n
    · subst e
      rw [h] at hm
      exact absurd (Ob.lst.inj (Option.some.inj hm)).symm ts_ne
    · rw [List.getElem?_set_ne e]
      exact h
  | @k n ns h =>
    refine .k ?_
    by_cases e : m = n
    · subst e
      rw [h] at hm
      cases hm
    · rw [List.getElem?_set_ne e]
      exact h
theorem IsL.tr (h : IsL S x ns) : tr 6 S x = some (dints ns) := by
  cases h with
  | t => rfl
  | c h =>
    unfold Mi.tr
    rw [rd_of h]
  | k h =>
    unfold Mi.tr
    rw [rd_lk h]
theorem tr_new {xs : List T} : Mi.tr 6 S (.new xs) = some (.lst xs) := rfl
theorem tr_t {x : T} : Mi.tr 6 S (.t x) = some x := rfl
/-- [.. for .. in x if ..], x a list of whole numbers -/
theorem e_lcI {q : Q} {fr : Mi.Frame} {vs : List Nat} {tg : Z.Tg} {e : XE} {ts : XT} {el : XE} {p : Int → Bool} {g : Int → T} (hx : IsL S x ns) (he : e q fr S = .ok x S) (hl : ns.length ≤ 1000000)
    (h : ∀ S', (∀ y ms, IsL S y ms → IsL S' y ms) → ∀ v ∈ ns, ∃ fr1, asg S' tg (.t (.int v)) (wipeF fr vs) = some fr1 ∧ ts q fr1 S' = .ok (p v) S' ∧ (p v = true → el q fr1 S' = .ok (.t (g v)) S')) :
    Z.lc vs tg (Z.itE e) ts el q fr S = .ok (.new ((ns.filter p).map g)) S := by
  obtain ⟨lk, hi, hlen, hk, hu⟩ := hx.walk
  have hok : (okL : Nat) = 16000000 := rfl
  unfold Z.lc
  rw [(hi q fr e he).2, bnd_ok, if_pos (by rw [List.length_map, List.length_map]; omega)]
  show R.bnd (unlR lk (lcL tg ts el q (wipeF fr vs) ((ns.map T.int).map D.t) (lckS S lk))) _ = _
  have := lcL_map (q := q) (fr := wipeF fr vs) (S := lckS S lk) (tg := tg) (ts := ts) (el := el) (enc := fun v : Int => D.t (.int v)) (p := p) (g := fun v => .t (g v)) (items := ns) fun a ha => h _ hk a ha
  rw [show (ns.map T.int).map D.t = ns.map fun v : Int => D.t (.int v) by rw [List.map_map]; rfl, this]
  show Mi.R.ok (Z.mkL ((ns.filter p).map fun a => D.t (g a))) (unlS (lckS S lk) lk) = _
  have hu0 := hu []
  rw [List.append_nil, List.append_nil] at hu0
  rw [hu0, show ((ns.filter p).map fun a => D.t (g a)) = ((ns.filter p).map g).map D.t by rw [List.map_map]; rfl, mkL_T]
theorem filter_tt {α : Type} {xs : List α} : (xs.filter fun _ => true) = xs := List.filter_eq_self.mpr fun _ _ => rfl
end
section
variable {q : Q} {fr : Mi.Frame} {S S1 S2 : Store} {e1 e2 : XE} {x y : D} {a : T}
theorem tc_sameN (h1 : e1 q fr S = .ok x S1) (h2 : e2 q fr S1 = .ok y S2) (hx : tr 6 S2 x = some a) (hy : tr 6 S2 y = some a) (o : okEq a = true) : Z.tcmp .ne e1 e2 q fr S = .ok false S2 := by
  rw [z_tcmp, h1, bnd_ok, h2, bnd_ok, c_sameN hx hy o]
theorem e_same (h1 : e1 q fr S = .ok x S1) (h2 : e2 q fr S1 = .ok y S2) (hx : tr 6 S2 x = some a) (hy : tr 6 S2 y = some a) (o : okEq a = true) : Z.cmp .eq e1 e2 q fr S = .ok (.bl true) S2 := by
  rw [z_cmp, h1, bnd_ok, h2, bnd_ok, c_same hx hy o, bnd_ok]
theorem tor_F {ta tb : XT} (h1 : ta q fr S = .ok false S1) (h2 : tb q fr S1 = .ok false S2) : Z.tor ta tb q fr S = .ok false S2 := by
  rw [z_tor, h1, bnd_ok, if_neg (by decide), h2]
theorem tand_F {ta tb : XT} {b : Bool} (h1 : ta q fr S = .ok b S1) (h2 : b = true → tb q fr S1 = .ok false S1) : Z.tand ta tb q fr S = .ok false S1 := by
  rw [z_tand, h1, bnd_ok]
  cases b with
  | true => rw [if_pos rfl, h2 rfl]
  | false => rw [if_neg (by decide)]
/-- f(x, y, k=z) -/
theorem e_call21 {n : Nat} {a b c : XE} {x y z x' y' z' : D} {S3 : Store} (h : a q fr S = .ok x S1) (h2 : b q fr S1 = .ok y S2) (h3 : c q fr S2 = .ok z S3) (hx : Z.arg x = some x') (hy : Z.arg y = some y') (hz : Z.arg z = some z') : Z.call n (Z.args (Z.cons a (Z.cons b Z.nil)) (Z.cons c Z.nil)) [.inl 0, .inl 1, .inl 2] q fr S = q.call n [x', y', z'] S3 := by
  rw [z_call, z_args, z_cons, h, bnd_ok, z_cons, h2, bnd_ok, z_nil, bnd_ok, bnd_ok, bnd_ok, z_cons, h3, bnd_ok, z_nil, bnd_ok, bnd_ok, bnd_ok]
  exact callA_id (mapO3 hx hy hz) rfl
end
theorem stays_mem {ms : List Int} {s : Int} : ∀ (xs : List Int) (m v : Int), v ∈ stays ms s m xs → v ∈ xs
  | [], _, _, h => h
  | u :: r, m, v, h => by
    rw [stays_cons] at h
    generalize (if ms.contains u = true then m + 1 else 0) = m2 at h
    rcases List.mem_append.mp h with h | h
    · split at h
      · rw [List.mem_singleton.mp h]
        exact List.mem_cons_self
      · cases h
    · exact List.mem_cons_of_mem _ (stays_mem r _ v h)
theorem bd_passN {ms xs : List Int} {n : Nat} (h : Bd xs) : Bd (passN ms n xs) := fun v hv => by
  rw [passN_stays] at hv
  exact h v (stays_mem _ _ _ hv)
theorem bd_pass {ms xs : List Int} (h : Bd xs) : Bd (pass ms xs) := bd_passN (n := 1) h
theorem step_at {i : Nat} {v : Int} (h : [(1 : Int), 2, 4, 8, 16, 32, 64, 128, 256][i]? = some v) : i ≤ 8 ∧ v = 2 ^ i := by
  match i, h with
  | 0, h => cases h; exact ⟨by omega, rfl⟩
  | 1, h => cases h; exact ⟨by omega, rfl⟩
  | 2, h => cases h; exact ⟨by omega, rfl⟩
  | 3, h => cases h; exact ⟨by omega, rfl⟩
  | 4, h => cases h; exact ⟨by omega, rfl⟩
  | 5, h => cases h; exact ⟨by omega, rfl⟩
  | 6, h => cases h; exact ⟨by omega, rfl⟩
  | 7, h => cases h; exact ⟨by omega, rfl⟩
  | 8, h => cases h; exact ⟨by omega, rfl⟩
def lens (ms xs : List Int) : List Int := (rn ms 0 0 xs).map (·.2)
def sh (far : Bool) (v : Int) : Int := if far = true then v * 10 ^ 18 - 7 else v
theorem sh_inj {far : Bool} {u v : Int} (h : sh far u = sh far v) : u = v := by
  unfold sh at h
  cases far with
  | true =>
    rw [if_pos rfl, if_pos rfl] at h
    omega
  | false => exact h
def Wd (far : Bool) (ns : List Int) : Prop := ∀ v ∈ ns, ∃ u : Int, (-1 ≤ u ∧ u < 15) ∧ v = sh far u
theorem Wd.of {far : Bool} {ns : List Int} (h : ∀ v ∈ ns, -1 ≤ v ∧ v < 15) : Wd far (ns.map (sh far)) := fun v hv => by
  obtain ⟨u, hu, rfl⟩ := List.mem_map.mp hv
  exact ⟨u, h u hu, rfl⟩
theorem Wd.no {far : Bool} {ns : List Int} (h : Wd far ns) {n : Int} (hn : 77 ≤ n ∧ n ≤ 99) : n ∉ ns := fun z => by
  obtain ⟨u, hu, e⟩ := h n z
  unfold sh at e
  cases far with
  | true =>
    rw [if_pos rfl] at e
    omega
  | false =>
    rw [if_neg (by decide)] at e
    omega
theorem big_lt {v : Int} (h : -(2 ^ 100) ≤ v ∧ v ≤ 2 ^ 100) : v.natAbs < 2 ^ 1900 := by
  have e : (2 : Int) ^ 100 = ((2 ^ 100 : Nat) : Int) := by decide
  rw [e] at h
  exact Nat.lt_of_le_of_lt (m := 2 ^ 100) (by omega) (Nat.pow_lt_pow_right (by decide) (by decide))
theorem Wd.bd {far : Bool} {ns : List Int} (h : Wd far ns) : Bd ns := fun v hv => by
  obtain ⟨u, hu, rfl⟩ := h v hv
  refine big_lt ?_
  unfold sh
  cases far with
  | true =>
    rw [if_pos rfl]
    omega
  | false =>
    rw [if_neg (by decide)]
    omega
theorem rn_bd {ms : List Int} : ∀ (xs : List Int) (p m : Int), 0 ≤ m → ∀ q ∈ rn ms p m xs, (p - m ≤ q.1 ∧ q.1 ≤ p + (xs.length : Nat)) ∧ 0 ≤ q.2 ∧ q.2 ≤ m + (xs.length : Nat)
  | [], p, m, h, q, hq => by
    unfold rn at hq
    split at hq
    · rw [List.mem_singleton.mp hq]
      show (p - m ≤ p - m ∧ p - m ≤ p + ((0 : Nat) : Int)) ∧ 0 ≤ m ∧ m ≤ m + ((0 : Nat) : Int)
      omega
    · cases hq
  | v :: r, p, m, h, q, hq => by
    unfold rn at hq
    rw [List.length_cons]
    split at hq
    · have := rn_bd r _ _ (by omega) q hq
      omega
    · split at hq
      · rcases List.mem_cons.mp hq with rfl | hq
        · show (p - m ≤ p - m ∧ p - m ≤ p + ((r.length + 1 : Nat) : Int)) ∧ 0 ≤ m ∧ m ≤ m + ((r.length + 1 : Nat) : Int)
          omega
        · have := rn_bd r _ _ (Int.le_refl _) q hq
          omega
      · have := rn_bd r _ _ h q hq
        omega
theorem okEq_rn {ms xs : List Int} (hl : xs.length ≤ 1000) : okEq (.lst ((rn ms 0 0 xs).map pr)) = true :=
  okEq_prs fun p hp => by
    have := rn_bd xs 0 0 (Int.le_refl _) p hp
    exact ⟨big_lt (by omega), big_lt (by omega)⟩
def more (ms : List Int) : List Int := (ms.reverse ++ [99, 98]).take 12
theorem more_like {ms xs : List Int} (hm : ms.length ≤ 12) (h1 : (99 : Int) ∉ xs) (h2 : (98 : Int) ∉ xs) : ∀ v ∈ xs, (more ms).contains v = ms.contains v := fun v hv => by
  unfold more
  rw [List.take_append, List.take_of_length_le (by rw [List.length_reverse]; exact hm)]
  have e1 : v ≠ 99 := fun z => h1 (z ▸ hv)
  have e2 : v ≠ 98 := fun z => h2 (z ▸ hv)
  have e3 : v ∉ [(99 : Int), 98].take (12 - ms.reverse.length) := fun z => by
    rcases List.mem_cons.mp (List.mem_of_mem_take z) with z | z
    · exact e1 z
    · exact e2 (List.mem_singleton.mp z)
  rw [Bool.eq_iff_iff, List.contains_iff_mem, List.contains_iff_mem, List.mem_append, List.mem_reverse]
  exact ⟨fun z => z.elim id fun z => absurd z e3, .inl⟩
theorem more_nd {ms : List Int} (nd : ms.Nodup) (h1 : (99 : Int) ∉ ms) (h2 : (98 : Int) ∉ ms) : (more ms).Nodup := by
  unfold more
  refine List.Pairwise.sublist (List.take_sublist _ _) ?_
  refine List.pairwise_append.mpr ⟨List.pairwise_reverse.mpr (nd.imp fun h => Ne.symm h), by decide, fun a ha b hb z => ?_⟩
  subst z
  have ha := List.mem_reverse.mp ha
  rcases List.mem_cons.mp hb with z | z
  · exact h1 (z ▸ ha)
  · exact h2 ((List.mem_singleton.mp z) ▸ ha)
theorem more_len {ms : List Int} : (more ms).length ≤ 12 := by
  unfold more
  rw [List.length_take]
  omega
theorem in_range {n p : Nat} {f : Nat → Bool} (h : p < n) : (((List.range n).filter f).map fun k : Nat => (k : Int)).contains (p : Int) = f p := by
  rw [Bool.eq_iff_iff, List.contains_iff_mem, List.mem_map]
  constructor
  · rintro ⟨a, ha, e⟩
    have : a = p := by omega
    subst this
    exact (List.mem_filter.mp ha).2
  · intro hf
    exact ⟨p, List.mem_filter.mpr ⟨List.mem_range.mpr h, hf⟩, rfl⟩
theorem vz_s {ms xs : List Int} {p : Nat} {v : Int} (h : xs[p]? = some v) : vz ms xs (p + 1) = !(vz ms xs p && ms.contains v) := by
  show (!(vz ms xs p && match xs[p]? with
    | some v => ms.contains v
    | none => false)) = _
  rw [h]
theorem b_cat {S : Store} {x y : D} {a b : List T} (hx : sq S x = some a) (hy : sq S y = some b) (h : a.length + b.length ≤ 1000000) : bop .add x y S = .ok (.new (a ++ b)) S := by
  have hok : (okL : Nat) = 16000000 := rfl
  show addD x y S = _
  unfold addD
  split
  · cases hx
  · cases hx
  · rw [hx]
    dsimp only
    rw [hy]
    dsimp only
    rw [if_pos (by omega)]
/-- what far does to a list -/
theorem e_far {q : Q} {fr : Mi.Frame} {S : Store} {x : D} {ns : List Int} {i : Nat} (hx : IsL S x ns) (hi : fr[i]? = some (some x)) (hf : fr.length = 15) (hl : ns.length ≤ 1000000) : Z.lc [12] (.nm 12) (Z.itE (Z.v i)) Z.tt (Z.bin .sub (Z.bin .mul (Z.v 12) (Z.bin .pow (Z.k (.int 10)) (Z.k (.int 18)))) (Z.k (.int 7))) q fr S = .ok (.new ((ns.map (sh true)).map T.int)) S := by
  have h := e_lcI (q := q) (fr := fr) (vs := [12]) (tg := .nm 12) (e := Z.v i) (ts := Z.tt) (el := Z.bin .sub (Z.bin .mul (Z.v 12) (Z.bin .pow (Z.k (.int 10)) (Z.k (.int 18)))) (Z.k (.int 7))) (p := fun _ => true) (g := fun v => .int (sh true v)) hx (z_v hi) hl fun S' _ v _ => by
    refine ⟨(wipeF fr [12]).set 12 (some (.t (.int v))), rfl, rfl, fun _ => ?_⟩
    have h12 : ((wipeF fr [12]).set 12 (some (.t (.int v))))[12]? = some (some (.t (.int v))) := List.getElem?_set_self (by show 12 < (fr.set 12 none).length; rw [List.length_set]; omega)
    rw [z_bin, z_bin, z_v h12, bnd_ok, z_bin, z_k, bnd_ok, z_k, bnd_ok, b_powS (by decide), bnd_ok, b_mulR (by decide), bnd_ok, z_k, bnd_ok, b_sub]
    rfl
  rw [h, filter_tt, List.map_map]
  rfl
/-! the loops of a law: over the draws of all cells, over lists made in place -/
theorem thaw_news : ∀ (xss : List (List T)) (S : Store), mapS (thaw 5) (xss.map D.new) S = some ((List.range' S.length xss.length).map D.cell, S ++ xss.map Ob.lst)
  | [], S => by
    show some (([] : List D), S) = some ([], S ++ [])
    rw [List.append_nil]
  | xs :: xss, S => by
    rw [List.map_cons]
    unfold mapS
    rw [show thaw 5 (.new xs) S = some (.cell S.length, S ++ [.lst xs]) from rfl]
    dsimp only
    rw [thaw_news xss]
    dsimp only
    rw [List.length_cons, List.range'_succ, List.map_cons, List.length_append, List.length_singleton, List.map_cons, List.append_assoc]
    rfl
theorem it_newo {q : Q} {fr : Mi.Frame} {S S1 : Store} {e : XE} {xss : List (List T)} (h : e q fr S = .ok (.newo (xss.map D.new)) S1) : Z.itE e q fr S = .ok ((List.range' S1.length xss.length).map D.cell, some (S1.length + xss.length)) (S1 ++ xss.map Ob.lst ++ [.lsto ((List.range' S1.length xss.length).map D.cell)]) := by
  unfold Z.itE
  rw [h, bnd_ok]
  dsimp only
  rw [show thaw 6 (.newo (xss.map D.new)) S1 = some (.cell (S1 ++ xss.map Ob.lst).length, S1 ++ xss.map Ob.lst ++ [.lsto ((List.range' S1.length xss.length).map D.cell)]) by
    unfold thaw
    rw [thaw_news]]
  dsimp only
  rw [List.getElem?_append_right (Nat.le_refl _), Nat.sub_self, List.length_append, List.length_map]
  rfl
theorem mkL_newo {xss : List (List T)} (h : xss ≠ []) : Z.mkL (xss.map D.new) = .newo (xss.map D.new) := by
  cases xss with
  | nil => exact absurd rfl h
  | cons => rfl
/-- over new lists: t names each of them in turn -/
theorem news_loop {q : Q} {fr : Mi.Frame} {t : Nat} {S S1 : Store} {e : XE} {b : XB} {xss : List (List T)} (J : Nat → Mi.Frame → Store → Prop) (he : e q fr S = .ok (.newo (xss.map D.new)) S1)
    (h0 : J 0 fr (S1 ++ xss.map Ob.lst ++ [.lck (.lsto ((List.range' S1.length xss.length).map D.cell))]))
    (step : ∀ j xs fr' S', xss[j]? = some xs → J j fr' S' → S'[S1.length + xss.length]? = some (.lck (.lsto ((List.range' S1.length xss.length).map D.cell))) → ∃ fr2 S2, b q (fr'.set t (some (.cell (S1.length + j)))) S' = .ok (.nx, fr2) S2 ∧ J (j + 1) fr2 S2 ∧ S2[S1.length + xss.length]? = some (.lck (.lsto ((List.range' S1.length xss.length).map D.cell)))) :
    ∃ fr2 S2, Z.fors false (.nm t) (Z.itE e) b q fr S = .ok (.nx, fr2) (S2.set (S1.length + xss.length) (.lsto ((List.range' S1.length xss.length).map D.cell))) ∧ J xss.length fr2 S2 := by
  generalize hes : (List.range' S1.length xss.length).map D.cell = es at *
  have hle : es.length = xss.length := by rw [← hes, List.length_map, List.length_range']
  have top : (S1 ++ xss.map Ob.lst ++ [Ob.lsto es])[S1.length + xss.length]? = some (.lsto es) := by
    rw [List.getElem?_append_right (by rw [List.length_append, List.length_map]; exact Nat.le_refl _), List.length_append, List.length_map, Nat.sub_self]
    rfl
  have elk : lckS (S1 ++ xss.map Ob.lst ++ [Ob.lsto es]) (some (S1.length + xss.length)) = S1 ++ xss.map Ob.lst ++ [.lck (.lsto es)] := by
    rw [lck_eq top (.inr ⟨_, rfl⟩), List.set_append_right _ _ (by rw [List.length_append, List.length_map]; exact Nat.le_refl _), List.length_append, List.length_map, Nat.sub_self]
    rfl
  have top2 : (S1 ++ xss.map Ob.lst ++ [Ob.lck (.lsto es)])[S1.length + xss.length]? = some (.lck (.lsto es)) := by
    rw [List.getElem?_append_right (by rw [List.length_append, List.length_map]; exact Nat.le_refl _), List.length_append, List.length_map, Nat.sub_self]
    rfl
  let I : Nat → Mi.Frame → Store → Prop := fun i fr' S' => J i fr' S' ∧ S'[S1.length + xss.length]? = some (.lck (.lsto es))
  obtain ⟨fr2, S2, hl, hJ, ht⟩ : ∃ fr2 S2, Z.forL (.nm t) (fun fr2 S2 => Z.cutR false (S1 ++ xss.map Ob.lst ++ [Ob.lck (.lsto es)]).length (b q fr2 S2)) es fr (S1 ++ xss.map Ob.lst ++ [.lck (.lsto es)]) = .ok (.nx, fr2) S2 ∧ I es.length fr2 S2 := by
    refine for_ind I ?_ ⟨h0, top2⟩
    rintro i d fr' S' hd ⟨hJ, hT⟩
    have hi := (List.getElem?_eq_some_iff.mp hd).1
    rw [hle] at hi
    have ed : d = .cell (S1.length + i) := by
      rw [← hes, List.getElem?_map, List.getElem?_range' hi] at hd
      cases hd
      rw [Nat.one_mul]
    subst ed
    refine ⟨_, rfl, ?_⟩
    obtain ⟨fr2, S2, eb, h1, h2⟩ := step i _ fr' S' (List.getElem?_eq_getElem hi) hJ hT
    exact ⟨.nx, fr2, S2, cut_f eb, .inl rfl, h1, h2⟩
  rw [hle] at hJ
  refine ⟨fr2, S2, ?_, hJ⟩
  have hit := it_newo he
  rw [hes] at hit
  rw [z_fors, hit, bnd_ok]
  dsimp only
  rw [elk]
  show unlR (some (S1.length + xss.length)) (Z.forL (.nm t) (fun fr2 S2 => Z.cutR false (S1 ++ xss.map Ob.lst ++ [Ob.lck (.lsto es)]).length (b q fr2 S2)) es fr (S1 ++ xss.map Ob.lst ++ [.lck (.lsto es)])) = _
  rw [hl]
  show Mi.R.ok (Fl.nx, fr2) (unlS S2 (some (S1.length + xss.length))) = _
  unfold unlS
  dsimp only
  rw [ht]
/-- over the draws of all cells -/
theorem cells_loop {q : Q} {fr : Mi.Frame} {t : Nat} {e : XE} {b : XB} {cs : List Int} {P : Mi.Frame → Prop} (he : e q fr [] = .ok (.newo (cs.map fun c => D.new (drOf c).ts)) []) (hP : P fr)
    (good : ∀ fr' S' i c, P fr' → S'[i]? = some (.lst (drOf c).ts) → ∃ fr2 S2, b q (fr'.set t (some (.cell i))) S' = .ok (.nx, fr2) S2 ∧ P fr2 ∧ ∀ j, j < S'.length → j ≠ i → S2[j]? = S'[j]?) :
    ∃ fr2 S2, Z.fors false (.nm t) (Z.itE e) b q fr [] = .ok (.nx, fr2) S2 ∧ P fr2 := by
  have hm : (cs.map fun c => D.new (drOf c).ts) = (cs.map fun c => (drOf c).ts).map D.new := by rw [List.map_map]; rfl
  rw [hm] at he
  obtain ⟨fr2, S2, h1, h2, _⟩ := news_loop (t := t) (b := b) (fun i fr' S' => P fr' ∧ ∀ j c, i ≤ j → cs[j]? = some c → S'[j]? = some (.lst (drOf c).ts)) he ⟨hP, fun j c _ hj => by
      have hl := (List.getElem?_eq_some_iff.mp hj).1
      rw [List.nil_append, List.getElem?_append_left (by rw [List.length_map, List.length_map]; exact hl), List.getElem?_map, List.getElem?_map, hj]
      rfl⟩ (by
    intro j xs fr' S' hx hJ hT
    rw [List.getElem?_map] at hx
    cases hc : cs[j]? with
    | none =>
      rw [hc] at hx
      cases hx
    | some c =>
      have hl := (List.getElem?_eq_some_iff.mp hc).1
      obtain ⟨fr2, S2, eb, hP2, hk⟩ := good fr' S' j c hJ.1 (hJ.2 j c (Nat.le_refl _) hc)
      have e0 : ([] : Store).length + j = j := Nat.zero_add j
      simp only [e0]
      have hl2 := (List.getElem?_eq_some_iff.mp hT).1
      refine ⟨fr2, S2, eb, ⟨hP2, fun i c2 hi h2 => ?_⟩, ?_⟩
      · have h3 := hJ.2 i c2 (by omega) h2
        rw [hk i (List.getElem?_eq_some_iff.mp h3).1 (by omega)]
        exact h3
      · rw [hk _ hl2 (by rw [List.length_map, List.length_nil]; omega)]
        exact hT)
  exact ⟨fr2, _, h1, h2⟩
end Lw

set_option Elab.async false
set_option linter.all false
set_option maxRecDepth 100000
set_option maxHeartbeats 4000000
/-! N23: reckoning by terms -/
namespace Mi
open PySem L2
section
variable {q : Q} {fr fr1 fr2 : Frame} {S S1 S2 S3 S4 : Store} {a b c e : XE} {ta tb : XT} {h hk : XA} {s t : XB} {d x y z : D} {n : Nat}
theorem e_bin {o : BO} (h1 : a q fr S = .ok x S1) (h2 : b q fr S1 = .ok y S2) (h3 : bop o x y S2 = .ok z S2) : Z.bin o a b q fr S = .ok z S2 := by rw [z_bin, h1, bnd_ok, h2, bnd_ok, h3]
theorem e_cmp {o : CO} {k : Bool} (h1 : a q fr S = .ok x S1) (h2 : b q fr S1 = .ok y S2) (h3 : cmpD o x y S2 = .ok k S2) : Z.cmp o a b q fr S = .ok (.t (.bl k)) S2 := by rw [z_cmp, h1, bnd_ok, h2, bnd_ok, h3, bnd_ok]
theorem tc {o : CO} {k : Bool} (h1 : a q fr S = .ok x S1) (h2 : b q fr S1 = .ok y S2) (h3 : cmpD o x y S2 = .ok k S2) : Z.tcmp o a b q fr S = .ok k S2 := by rw [z_tcmp, h1, bnd_ok, h2, bnd_ok, h3]
theorem t_val {k : Bool} (h1 : a q fr S = .ok x S1) (h2 : truD x S1 = .ok k S1) : Z.tval a q fr S = .ok k S1 := by rw [z_tval, h1, bnd_ok, h2]
theorem t_not {k : Bool} (h1 : ta q fr S = .ok k S1) : Z.tnot ta q fr S = .ok (!k) S1 := by rw [z_tnot, h1, bnd_ok]
theorem t_andT {k : Bool} (h1 : ta q fr S = .ok true S1) (h2 : tb q fr S1 = .ok k S2) : Z.tand ta tb q fr S = .ok k S2 := by rw [z_tand, h1, bnd_ok, if_pos rfl, h2]
theorem t_andF (h1 : ta q fr S = .ok false S1) : Z.tand ta tb q fr S = .ok false S1 := by rw [z_tand, h1, bnd_ok, if_neg (by decide)]
theorem t_orT (h1 : ta q fr S = .ok true S1) : Z.tor ta tb q fr S = .ok true S1 := by rw [z_tor, h1, bnd_ok, if_pos rfl]
theorem t_orF {k : Bool} (h1 : ta q fr S = .ok false S1) (h2 : tb q fr S1 = .ok k S2) : Z.tor ta tb q fr S = .ok k S2 := by rw [z_tor, h1, bnd_ok, if_neg (by decide), h2]
theorem e_andT (h1 : a q fr S = .ok (.t (.bl true)) S1) (h2 : b q fr S1 = .ok y S2) : Z.and a b q fr S = .ok y S2 := by rw [z_and, h1, bnd_ok, tr_bl, bnd_ok, if_pos rfl, h2]
theorem e_andF (h1 : a q fr S = .ok (.t (.bl false)) S1) : Z.and a b q fr S = .ok (.t (.bl false)) S1 := by rw [z_and, h1, bnd_ok, tr_bl, bnd_ok, if_neg (by decide)]
theorem e_ix (h1 : a q fr S = .ok x S1) (h2 : b q fr S1 = .ok y S2) (h3 : ixD x y S2 = .ok z S2) : Z.ix a b q fr S = .ok z S2 := by rw [z_ix, h1, bnd_ok, h2, bnd_ok, h3]
theorem e_slR {j : Int} (h1 : a q fr S = .ok x S1) (h2 : b q fr S1 = .ok (.t (.int j)) S2) (h3 : slD x none (some j) S2 = .ok z S2) : Z.sl a none (some b) q fr S = .ok z S2 := by rw [z_sl, h1, bnd_ok, z_oN, bnd_ok, z_oS, h2, bnd_ok, bnd_ok, h3]
theorem e_slL {i : Int} (h1 : a q fr S = .ok x S1) (h2 : b q fr S1 = .ok (.t (.int i)) S2) (h3 : slD x (some i) none S2 = .ok z S2) : Z.sl a (some b) none q fr S = .ok z S2 := by rw [z_sl, h1, bnd_ok, z_oS, h2, bnd_ok, bnd_ok, z_oN, bnd_ok, h3]
theorem e_f1 {f : U1} (h1 : a q fr S = .ok x S1) (h2 : f1D f x S1 = .ok z S1) : Z.f1 f a q fr S = .ok z S1 := by rw [z_f1, h1, bnd_ok, h2]
theorem e_f2 {f : U2} (h1 : a q fr S = .ok x S1) (h2 : b q fr S1 = .ok y S2) (h3 : f2D f x y S2 = .ok z S2) : Z.f2 f a b q fr S = .ok z S2 := by rw [z_f2, h1, bnd_ok, h2, bnd_ok, h3]
theorem e_neg {i : Int} (h1 : a q fr S = .ok (.t (.int i)) S1) : Z.neg a q fr S = .ok (.t (.int (-i))) S1 := by rw [z_neg, h1, bnd_ok]
theorem e_ifeT (h1 : ta q fr S = .ok true S1) (h2 : a q fr S1 = .ok x S2) : Z.ife ta a b q fr S = .ok x S2 := by rw [z_ife, h1, bnd_ok, if_pos rfl, h2]
theorem e_ifeF (h1 : ta q fr S = .ok false S1) (h2 : b q fr S1 = .ok x S2) : Z.ife ta a b q fr S = .ok x S2 := by rw [z_ife, h1, bnd_ok, if_neg (by decide), h2]
theorem e_tup2 (h1 : a q fr S = .ok x S1) (h2 : b q fr S1 = .ok y S2) : Z.tup (Z.cons a (Z.cons b Z.nil)) q fr S = .ok (Z.mkT [x, y]) S2 := by rw [z_tup, z_cons, h1, bnd_ok, z_cons, h2, bnd_ok, z_nil, bnd_ok, bnd_ok, bnd_ok]
theorem e_tup2z (h1 : a q fr S = .ok x S1) (h2 : b q fr S1 = .ok y S2) (h3 : Z.mkT [x, y] = z) : Z.tup (Z.cons a (Z.cons b Z.nil)) q fr S = .ok z S2 := by rw [e_tup2 h1 h2, h3]
theorem e_meL {m : Z.M} {ds : List D} (h1 : a q fr S = .ok x S1) (ht : tyD S1 x = some "list") (h2 : h q fr S1 = .ok ds S2) (h3 : Z.mD m x ds S2 = .ok z S3) : Z.me m a h q fr S = .ok z S3 := by rw [z_me, h1, bnd_ok, if_pos ht, h2, bnd_ok, h3]
theorem a_one (h1 : a q fr S = .ok x S1) : Z.cons a Z.nil q fr S = .ok [x] S1 := by rw [z_cons, h1, bnd_ok, z_nil, bnd_ok]
theorem tc_ne {u : T} (h1 : a q fr S = .ok x S1) (h2 : b q fr S1 = .ok y S2) (hx : tr 6 S2 x = some u) (hy : tr 6 S2 y = some u) (o : okEq u = true) : Z.tcmp .ne a b q fr S = .ok false S2 := by rw [z_tcmp, h1, bnd_ok, h2, bnd_ok, c_sameN hx hy o]
end
end Mi

set_option Elab.async false
set_option linter.all false
set_option maxRecDepth 100000
set_option maxHeartbeats 4000000
/-! N24: sum(x, []) of lists -/
namespace Mi
open PySem PySem.Spec PyProof.Rows L2
section
variable {prog : Program} {w : World} {A : Around} {R : Result → Shared → Prop} {I : Addr} {fp wr : List Addr} {n : Nat} {Pv : Nat → Value → Prop} {St : Nat → Shared → Prop}
abbrev GE : Array GenState → Array GenState → Prop := fun a b => b = a
/-- the lists that follow, laid behind what is there -/
def catV (val : Nat → List Value) : Nat → Nat → List Value → List Value
  | _, 0, acc => acc
  | i, k + 1, acc => catV val (i + 1) k (acc ++ val i)
theorem catV_len (val : Nat → List Value) : ∀ (k i : Nat) (acc : List Value), acc.length ≤ (catV val i k acc).length
  | 0, _, _ => Nat.le_refl _
  | k + 1, i, acc => by
    have := catV_len val k (i + 1) (acc ++ val i)
    rw [List.length_append] at this
    show acc.length ≤ (catV val (i + 1) k (acc ++ val i)).length
    omega
local macro_rules | `(tactic| walk_at "turn") => `(tactic| (
  refine codeAny_builtin F.entry_sum_loop ?_; rw [Around.under_plainId F.plain_sum_loop]
  change wpAny _ (Around.in1 _) (Bind.bind (seqItems? _) _) _ _ _; refine wpAny_bind (wpAny_seqItems (by assumption) rfl ?_)
  change wpAny _ (Around.in1 _) (Bind.bind (tryCatch (pyNext _) _) _) _ _ _; refine wpAny_bind (wpAny_tryCatch ?_)))
theorem sum_lists_loop (W : WalksS prog w A.in1 I fp wr GE n Pv St) (val : Nat → List Value) (adr : Nat → Addr) (cap : Nat → Nat) (hval : ∀ i v, Pv i v → v = Value.ref (adr i)) (S : Addr) (hSf : S ∉ fp) (hda : ∀ i, i < n → adr i ∉ S :: wr) (base : Heap) (hbw : ∀ b o, base.get? b = some o → b ∉ S :: wr) (hstl : ∀ i s, St i s → ∀ b ∈ fp, b < s.heap.objs.size) :
    ∀ (k i : Nat) (s : Shared) (acc : List Value) (p : Addr) (c d : Nat), n - i = k → i ≤ n → St i s → s.heap.get? S = some { cls := .type "list", dict := none, data := .seq #[.ref p] c, slots := #[] } → p ∉ S :: wr →
    PySem.IsL s.heap p acc.toArray d → (∀ j, j < n → PySem.IsL s.heap (adr j) (val j).toArray (cap j)) → (∀ b o, base.get? b = some o → s.heap.get? b = some o) → (catV val i k acc).length ≤ sizeLine →
    (∀ s' p', Moved (S :: wr) GE s s' → ((k = 0 ∧ p' = p) ∨ (p' ∉ S :: wr ∧ S < p')) → (∃ d, PySem.IsL s'.heap p' (catV val i k acc).toArray d) → R (.ok (.ret (.ref p'))) s') → codeAny (model prog w) A (.builtin "sum.loop" ⟨[.ref I, .ref S, rawInt 2, rawInt 0], []⟩) R s := by
  have nSw : S ∉ wr := fun z => absurd (W.sub S z) hSf
  have hsub : wr ⊆ S :: wr := List.subset_cons_of_subset S (List.Subset.refl wr)
  intro k
  induction k with
  | zero =>
    intro i s acc p c d hk hi hst hS hpS hp ha hB hlen hR
    have hin : i = n := by omega
    subst hin
    walk_at "turn"
    refine W.done s _ _ hst fun s' hm => ?_
    exact wpAny_pure (hR s' p (hm.mono fun _ h => hsub h) (.inl ⟨rfl, rfl⟩) ⟨d, hm.heap _ _ (fun h => hpS (hsub h)) hp⟩)
  | succ k ih =>
    intro i s acc p c d hk hi hst hS hpS hp ha hB hlen hR
    have hlt : i < n := by omega
    walk_at "turn"
    refine W.item i s _ _ hlt hst fun v s' hP hst' hm => ?_
    have ev := hval i v hP
    subst ev
    have hS' := hm.heap S _ nSw hS
    have hp' : PySem.IsL s'.heap p acc.toArray d := hm.heap _ _ (fun h => hpS (hsub h)) hp
    have ha' : ∀ j, j < n → PySem.IsL s'.heap (adr j) (val j).toArray (cap j) := fun j hj => hm.heap _ _ (fun h => hda j hj (hsub h)) (ha j hj)
    have hB' : ∀ b o, base.get? b = some o → s'.heap.get? b = some o := fun b o e => hm.heap b o (fun h => hbw b o e (hsub h)) (hB b o e)
    have hl3 : (acc ++ val i).length ≤ sizeLine := Nat.le_trans (catV_len val k (i + 1) (acc ++ val i)) hlen
    rw [List.length_append] at hl3
    show wpAny _ A.in1 ((holding [Value.ref (adr i)] (binaryOp .Add (.ref p) (.ref (adr i)))).attempt >>= _) _ _ _
    refine wpAny_bind (wpAny_attempt (wpAny_holding (PySem.P.add_list hp' (ha' i hlt) ?_ (by rw [List.size_toArray, List.size_toArray]; omega))))
    have hlS : S < s'.heap.objs.size := Heap.lt_size hS'
    have hfl := hstl _ _ hst'
    have hq : s'.heap.objs.size ∉ S :: wr := fun h => by
      rcases List.mem_cons.mp h with h | h
      · rw [← h] at hlS
        exact Nat.lt_irrefl _ hlS
      · exact Nat.lt_irrefl _ (hfl _ (W.sub _ h))
    have neq : S ≠ s'.heap.objs.size := fun z => by
      rw [← z] at hlS
      exact Nat.lt_irrefl _ hlS
    have ea : acc.toArray ++ (val i).toArray = (acc ++ val i).toArray := by simp
    rw [ea]
    show wpAny _ A.in1 (updateSeq S (fun _ => #[.ref s'.heap.objs.size]) >>= _) _ _ _
    have hS1 := Heap.get?_push_of_some { cls := .type "list", data := .seq (acc ++ val i).toArray } hS'
    have hq1 : PySem.IsL (s'.heap.push { cls := .type "list", data := .seq (acc ++ val i).toArray }) s'.heap.objs.size (acc ++ val i).toArray 0 := Heap.get?_push_size _ rfl
    generalize hh1 : s'.heap.push { cls := .type "list", data := .seq (acc ++ val i).toArray } = h1 at hS1 hq1
    have hk1 : ∀ b o, s'.heap.get? b = some o → h1.get? b = some o := fun b o e => by
      rw [← hh1]
      exact Heap.get?_push_of_some _ e
    refine wpAny_bind (wpAny_updateSeq hS1 rfl ?_)
    have hS₂ := Heap.get?_update_self (Obj.mapSeq fun _ => #[Value.ref s'.heap.objs.size]) hS1 rfl
    have hk2 : ∀ b o, b ≠ S → s'.heap.get? b = some o → (h1.update S (Obj.mapSeq fun _ => #[Value.ref s'.heap.objs.size])).get? b = some o := fun b o hb e => (Heap.get?_update_other _ _ (Ne.symm hb)).trans (hk1 b o e)
    have hq2 : PySem.IsL (h1.update S (Obj.mapSeq fun _ => #[Value.ref s'.heap.objs.size])) s'.heap.objs.size (acc ++ val i).toArray 0 := (Heap.get?_update_other _ _ neq).trans hq1
    generalize h1.update S (Obj.mapSeq fun _ => #[Value.ref s'.heap.objs.size]) = h2 at hS₂ hk2 hq2
    refine wpAny_bind (wpAny_letGo ?_)
    have hS3 := Heap.get?_update_self (Obj.mapSeq fun _ => #[Value.ref s'.heap.objs.size]) hS₂ rfl
    have hk3 : ∀ b o, b ≠ S → s'.heap.get? b = some o → (h2.update S (Obj.mapSeq fun _ => #[Value.ref s'.heap.objs.size])).get? b = some o := fun b o hb e => (Heap.get?_update_other _ _ (Ne.symm hb)).trans (hk2 b o hb e)
    have hq3 : PySem.IsL (h2.update S (Obj.mapSeq fun _ => #[Value.ref s'.heap.objs.size])) s'.heap.objs.size (acc ++ val i).toArray 0 := (Heap.get?_update_other _ _ neq).trans hq2
    refine wpAny_bind (wpAny_updateSeq hS₂ rfl (wpAny_pure ⟨plainId_quiet F.plain_sum_loop _, ?_⟩))
    generalize h2.update S (Obj.mapSeq fun _ => #[Value.ref s'.heap.objs.size]) = h3 at hS3 hk3 hq3
    have nS : ∀ b, b ∉ S :: wr → b ≠ S := fun b hb z => hb (z ▸ List.mem_cons_self)
    refine ih (i + 1) _ (acc ++ val i) s'.heap.objs.size _ 0 (by omega) hlt (W.frame _ s' _ _ hst' (Nat.le_refl _) fun b hb o e => hk3 b o (fun z => hSf (z ▸ hb)) e) hS3 hq hq3 (fun j hj => hk3 _ _ (nS _ (hda j hj)) (ha' j hj)) (fun b o e => hk3 b o (nS _ (hbw b o e)) (hB' b o e)) hlen ?_
    intro s'' p' hm'' hp'' hd
    refine hR s'' p' (Moved.trans W.gtrans ((hm.mono fun _ h => hsub h).then_heap (Nat.le_refl _) fun b o hb e => hk3 b o (nS _ hb) e) hm'') (.inr ?_) hd
    rcases hp'' with ⟨_, rfl⟩ | h
    · exact ⟨hq, hlS⟩
    · exact h
/-- sum(l, z): the lists of l, one behind the other -/
theorem call_sum_lists {E : Value → Shared → Prop} {s : Shared} {l z : Addr} {its : List Value} {val : Nat → List Value} {adr : Nat → Addr} {cap : Nat → Nat} {d : Nat} {Q : Value → Shared → Prop} (hh : A.handled = none) (hl : s.heap.IsList l its.toArray) (hits : ∀ i v, its[i]? = some v → v = Value.ref (adr i)) (hval : ∀ i, i < its.length → PySem.IsL s.heap (adr i) (val i).toArray (cap i)) (hz : PySem.IsL s.heap z (#[] : Array Value) d) (hlen : (catV val 0 its.length []).length ≤ sizeLine)
    (h : ∀ s' p', (∀ b o, s.heap.get? b = some o → s'.heap.get? b = some o) → s'.gens = s.gens → s'.os = s.os → s'.drawn = s.drawn → ((its = [] ∧ p' = z) ∨ s.heap.objs.size ≤ p') → (∃ d, PySem.IsL s'.heap p' (catV val 0 its.length []).toArray d) → Q (Value.ref p') s') :
    wpAny (model prog w) A (call (.builtin "sum") [.ref l, .ref z]) Q E s := by
  refine call_function_tree F.kind_sum F.plain_sum F.entry_sum (by unfold argsOk; kernel_rfl) ?_
  unfold Builtin.«sum»
  simp only [List.length_cons, List.length_nil]
  rw [if_neg (by decide)]
  refine wpAny_bind (wpAny_of_eq (show Builtin.Builtins.bindParams "sum" ["start"] 0 ⟨[Value.ref z], []⟩ = pure [some (Value.ref z)] from rfl) ?_)
  refine wpAny_bind (PySem.W.iter_listW (A := A.in1) hh hl fun s₂ e2 W st hfp hnew hold => ?_)
  refine wpAny_bind (wpAny_pure ?_)
  simp only [List.forIn_cons, List.forIn_nil]
  have hz2 : PySem.IsL s₂.heap z (#[] : Array Value) d := hold _ _ hz
  have hT : s₂.TypeIs (.ref z) "list" := ⟨_, hz2, rfl⟩
  refine wpAny_bind (wpAny_bind (wpAny_bind (wpAny_isInstance hT F.sub_list_str ?_))); rw [if_neg Bool.false_ne_true]
  refine wpAny_pure (wpAny_bind (wpAny_bind (wpAny_isInstance hT F.sub_list_bytes ?_))); rw [if_neg Bool.false_ne_true]
  refine wpAny_pure (wpAny_bind (wpAny_bind (wpAny_isInstance hT F.sub_list_bytearray ?_))); rw [if_neg Bool.false_ne_true]
  refine wpAny_pure (wpAny_pure (wpAny_bind (wpAny_newObj_type ?_)))
  have hsz2 : s₂.heap.objs.size = s.heap.objs.size + 1 := by
    rw [e2]
    exact Heap.size_push _ _
  have hSf : s₂.heap.objs.size ∉ [s.heap.objs.size, l] := fun hm => Nat.lt_irrefl _ (hfp _ hm)
  have hbw : ∀ b o, s.heap.get? b = some o → b ∉ s₂.heap.objs.size :: [s.heap.objs.size] := fun b o e hb => by
    have := Heap.lt_size e
    rcases List.mem_cons.mp hb with hb | hb
    · rw [hb, hsz2] at this
      exact absurd (Nat.lt_of_succ_lt this) (Nat.lt_irrefl _)
    · rw [List.mem_singleton.mp hb] at this
      exact Nat.lt_irrefl _ this
  have hkp : ∀ b o, s.heap.get? b = some o → (s₂.heap.push { cls := .type "list", data := .seq #[Value.ref z] }).get? b = some o := fun b o e => Heap.get?_push_of_some _ (hold b o e)
  refine wpAny_pure ⟨plainId_quiet F.plain_sum_loop _, sum_lists_loop W val adr cap (fun i v hv => hits i v (by simpa using hv)) s₂.heap.objs.size hSf (fun i hi => hbw _ _ (hval i (by simpa using hi))) s.heap hbw (fun i s hs b hb => ?_) its.length 0 _ [] z 0 d (by simp) (Nat.zero_le _)
    (W.frame 0 s₂ _ _ st (Nat.le_refl _) fun b _ o e => Heap.get?_push_of_some _ e) (Heap.get?_push_size _ rfl) (hbw _ _ hz) (hkp _ _ hz) (fun j hj => hkp _ _ (hval j (by simpa using hj))) hkp hlen fun s' p' hm hp hd => ?_⟩
  · rcases List.mem_cons.mp hb with rfl | hb
    · obtain ⟨_, e, _⟩ := hs.1
      exact Heap.lt_size e
    · rw [List.mem_singleton.mp hb]
      obtain ⟨_, e, _⟩ := hs.2
      exact Heap.lt_size e
  · have eg : s'.gens = s.gens := by
      have := hm.gens
      rw [this, e2]
    have eo : s'.os = s.os := by
      have := hm.os
      rw [this, e2]
    have ed : s'.drawn = s.drawn := by
      have := hm.drawn
      rw [this, e2]
    refine h s' p' (fun b o e => hm.heap b o (hbw b o e) (hkp b o e)) eg eo ed ?_ hd
    rcases hp with ⟨h0, rfl⟩ | ⟨_, h1⟩
    · exact .inl ⟨List.eq_nil_of_length_eq_zero h0, rfl⟩
    · refine .inr ?_
      rw [hsz2] at h1
      exact Nat.le_of_lt (Nat.lt_of_succ_lt h1)
end
/-! ### the layer's rule -/
def catX {α : Type} (val : Nat → List α) : Nat → Nat → List α → List α
  | _, 0, acc => acc
  | i, k + 1, acc => catX val (i + 1) k (acc ++ val i)
theorem catV_X (val : Nat → List Value) : ∀ (k i : Nat) (acc : List Value), catV val i k acc = catX val i k acc
  | 0, _, _ => rfl
  | k + 1, i, acc => catV_X val k (i + 1) (acc ++ val i)
theorem catX_vals {ys : Nat → List V} {val : Nat → List Value} : ∀ (k i : Nat) (acc : List V) (acc2 : List Value), (∀ j, i ≤ j → j < i + k → Vals (ys j) (val j)) → Vals acc acc2 → Vals (catX ys i k acc) (catX val i k acc2)
  | 0, _, _, _, _, h => h
  | k + 1, i, acc, acc2, hv, h => catX_vals k (i + 1) _ _ (fun j h1 h2 => hv j (by omega) (by omega)) (h.append (hv i (Nat.le_refl _) (by omega)))
theorem catX_rep {K : PySem.W.Frag} {G : Lk} {ys : Nat → List V} {zs : Nat → List T} : ∀ (k i : Nat) (acc : List V) (acc2 : List T), (∀ j, i ≤ j → j < i + k → RepL K G (ys j) (zs j)) → RepL K G acc acc2 → RepL K G (catX ys i k acc) (catX zs i k acc2)
  | 0, _, _, _, _, h => h
  | k + 1, i, acc, acc2, hv, h => catX_rep k (i + 1) _ _ (fun j h1 h2 => hv j (by omega) (by omega)) (h.append (hv i (Nat.le_refl _) (by omega)))
theorem catX_list {α : Type} {val : Nat → List α} : ∀ (xss : List (List α)) (i : Nat) (acc : List α), (∀ j, j < xss.length → xss[j]? = some (val (i + j))) → catX val i xss.length acc = acc ++ xss.flatten
  | [], _, acc, _ => (List.append_nil acc).symm
  | xs :: xss, i, acc, h => by
    have h0 := h 0 (Nat.zero_lt_succ _)
    have e0 : xs = val i := Option.some.inj h0
    show catX val (i + 1) xss.length (acc ++ val i) = _
    rw [catX_list xss (i + 1) (acc ++ val i) (fun j hj => by
      have := h (j + 1) (Nat.succ_lt_succ hj)
      rw [show i + 1 + j = i + (j + 1) by omega]
      exact this), List.flatten_cons, ← e0, List.append_assoc]
section
variable {X : Cx}
def rSumL (K : PySem.W.Frag) : List V → Hp → VK → Prop := fun vs H Q => ∃ (a z : Addr) (os : List V) (ys : Nat → List V), vs = [V.ref a, V.ref z] ∧ SqL K H a os ∧ H z = some (.lst []) ∧ (∀ i v, os[i]? = some v → ∃ b, v = .ref b ∧ H b = some (.lst (ys i))) ∧ (catX ys 0 os.length []).length ≤ sizeLine ∧
  (os = [] → Q (.ref z) H) ∧ ∀ p, H p = none → Q (.ref p) (upd H p (.lst (catX ys 0 os.length [])))
theorem cr_sumL (hc : X.calm = true) : CallR X (.builtin "sum") (rSumL X.K) := by
  intro pins s σ H vs us Q I r h
  obtain ⟨a, z, os, ys, rfl, hs, hz, hit, hlen, q0, q⟩ := h
  obtain ⟨its, rv, hl, _⟩ := I.list hs
  have hus : us = [.ref a, .ref z] := by
    cases r with
    | cons r1 r2 =>
      cases r2 with
      | cons r2 r3 =>
        cases r3
        cases r1
        cases r2
        rfl
  rw [hus]
  have hln := rv.length
  obtain ⟨_, zs, dz, rz, lz, ez⟩ := I.lstM hz
  have ezs : zs = [] := by cases rz; rfl
  subst ezs
  have ex : ∀ i, ∃ (b : Addr) (us : List Value) (n : Nat), i < its.length → its[i]? = some (.ref b) ∧ PySem.IsL s.heap b us.toArray n ∧ Vals (ys i) us := fun i => by
    by_cases hi : i < its.length
    · have ho : os[i]? = some (os[i]'(by omega)) := List.getElem?_eq_getElem (by omega)
      obtain ⟨b, eb, hb⟩ := hit i _ ho
      obtain ⟨u, hu, ru⟩ := rv.get ho
      rw [eb] at ru
      cases ru
      obtain ⟨_, ws, n, rw_, _, ew⟩ := I.lstM hb
      exact ⟨b, ws, n, fun _ => ⟨hu, ew, rw_⟩⟩
    · exact ⟨0, [], 0, fun h => absurd h hi⟩
  let adr : Nat → Addr := fun i => (ex i).choose
  let val : Nat → List Value := fun i => (ex i).choose_spec.choose
  let cap : Nat → Nat := fun i => (ex i).choose_spec.choose_spec.choose
  have hex : ∀ i, i < its.length → its[i]? = some (.ref (adr i)) ∧ PySem.IsL s.heap (adr i) (val i).toArray (cap i) ∧ Vals (ys i) (val i) := fun i => (ex i).choose_spec.choose_spec.choose_spec
  have hvv : Vals (catX ys 0 os.length []) (catX val 0 its.length []) := by
    rw [hln]
    exact catX_vals its.length 0 [] [] (fun j _ hj => (hex j (by omega)).2.2) .nil
  refine call_sum_lists (val := val) (adr := adr) (cap := cap) (I.ok.hd hc) hl.isList (fun i v hv => ?_) (fun i hi => (hex i hi).2.1) ez (by rw [catV_X, ← hvv.length]; exact hlen) fun s' p' hk eg eo ed hp hd => ?_
  · have hi := (List.getElem?_eq_some_iff.mp hv).1
    have := (hex i hi).1
    rw [hv] at this
    exact Option.some.inj this
  · have es : s' = { s with heap := s'.heap, toks := s'.toks } := by
      cases s'
      cases s
      simp only at eg eo ed
      subst eg
      subst eo
      subst ed
      rfl
    rcases hp with ⟨h0, rfl⟩ | hp
    · rw [es]
      refine ⟨.ref _, H, I.kept hk, rfl, q0 ?_⟩
      exact List.eq_nil_of_length_eq_zero (by rw [hln, h0]; rfl)
    · obtain ⟨d, hd⟩ := hd
      rw [catV_X] at hd
      rw [es]
      exact ⟨.ref _, _, I.laid (t' := s'.toks) (o := .lst (catX ys 0 os.length [])) hk hp ⟨hlen, _, d, hvv, hd⟩, rfl, q _ (I.hok.fresh hp)⟩
end
/-- a list of anything -/
def sqdL (S : Store) : D → Option (List D)
  | .newo ds => some ds
  | .cell n => match rd S n with
    | some (.lst xs) => some (xs.map D.t)
    | some (.lsto ds) => some ds
    | _ => none
  | .t (.lst xs) => some (xs.map D.t)
  | .new xs => some (xs.map D.t)
  | _ => none
def sumLD (x : D) (S : Store) : R D := match (sqdL S x).bind (catL S) with
  | some xs => if xs.length ≤ okL then .ok (.new xs) S else .no
  | none => .no
/-- sum(f, []) -/
def Z.suml (f : XE) : XE := fun q fr S => (f q fr S).bnd fun x S1 => sumLD x S1
section
variable {K : PySem.W.Frag} {S : Store} {μ : Nat → Addr} {H F : Hp} {as : List Addr}
theorem sqdL_rep (A : Hs K S μ H F) {v : V} {x : D} {ds : List D} (r : RepN K S.length μ F H v x as) (e : sqdL S x = some ds) : ∃ a vs bs, v = .ref a ∧ H a = some (.lst vs) ∧ RepNs K S.length μ F H vs ds bs ∧ bs.Sublist as := by
  have viaT : ∀ {xs : List T}, sq S x = some xs → ds = xs.map D.t → ∃ a vs bs, v = .ref a ∧ H a = some (.lst vs) ∧ RepNs K S.length μ F H vs ds bs ∧ bs.Sublist as := fun {xs} q1 q2 => by
    subst q2
    obtain ⟨a, vs, rfl, h1, h2⟩ := sq_rep A r q1
    exact ⟨a, vs, [], rfl, h1, h2.toN, List.nil_sublist _⟩
  cases r with
  | c r =>
    cases r with
    | t r =>
      rename_i y
      cases y with
      | lst ys =>
        cases e
        exact viaT rfl rfl
      | _ => cases e
    | cell hn =>
      rename_i n
      unfold sqdL at e
      simp only at e
      split at e
      · rename_i ys q
        cases e
        refine viaT (xs := ys) ?_ rfl
        unfold sq
        simp only [q]
      · rename_i ys q
        cases e
        obtain ⟨u, _, hu, ho, h1, h2⟩ := rd_cell A q
        cases u with
        | lsto zs =>
          cases hu
          cases ho <;> first | exact h2.elim | skip
          exact ⟨_, _, [], rfl, h1, h2.toN, List.nil_sublist _⟩
        | lck o =>
          cases hu
          cases ho <;> first | exact h2.elim | skip
          exact ⟨_, _, [], rfl, h1, h2.toN, List.nil_sublist _⟩
        | _ => cases hu
      · cases e
  | new h1 h2 =>
    cases e
    exact ⟨_, _, [], rfl, h1, h2.toN, List.nil_sublist _⟩
  | newd _ _ => cases e
  | newo h1 h2 =>
    cases e
    exact ⟨_, _, _, rfl, h1, h2, List.sublist_cons_self ..⟩
  | tupo h1 h2 => cases e
  | newk _ _ => cases e
theorem catL_get {S : Store} : ∀ {ds : List D} {xs : List T}, catL S ds = some xs → ∃ xss : List (List T), xss.length = ds.length ∧ xss.flatten = xs ∧ ∀ (j : Nat) (d : D), ds[j]? = some d → ∃ ys, xss[j]? = some ys ∧ sq S d = some ys
  | [], xs, h => by
    cases h
    exact ⟨[], rfl, rfl, fun j d hd => by cases hd⟩
  | d :: ds, xs, h => by
    unfold catL at h
    cases q : sq S d with
    | none =>
      rw [q] at h
      cases h
    | some a =>
      rw [q] at h
      dsimp only at h
      cases q2 : catL S ds with
      | none =>
        rw [q2] at h
        cases h
      | some zs =>
        rw [q2] at h
        cases h
        obtain ⟨xss, h1, h2, h3⟩ := catL_get q2
        refine ⟨a :: xss, by rw [List.length_cons, List.length_cons, h1], by rw [List.flatten_cons, h2], fun j e he => ?_⟩
        cases j with
        | zero =>
          cases he
          exact ⟨a, rfl, q⟩
        | succ j => exact h3 j e he
end
section
variable {X : Cx} {gi : GI} {k : Nat} {pos p1 p2 : Pos} {e a : Expr} {f g : XE}
theorem sem_suml {x : Str} {p p3 : Pos} (hc : X.calm = true) (n : Bi X x (.builtin "sum")) (h1 : SemE X gi k e f) (hs1 : starEach [e, Expr.List [] p3] X.env = (false, eval e X.env) :: starEach [Expr.List [] p3] X.env) (hs2 : starEach [Expr.List [] p3] X.env = [(false, eval (Expr.List [] p3) X.env)]) (hpl : (backTo pos (starEach [Expr.List [] p3] X.env)).any (·.1) = false) :
    SemE X gi k (.Call (.Name x p) [e, .List [] p3] [] pos) (Z.suml f) := by
  intro er q lk W tk fr S μ σ H F A Q w
  have h2 : SemE X gi k (.List [] p3) (Z.lst Z.nil) := sem_lst sea_nil (Nat.zero_le _)
  refine ⟨_, pe_callB (cr_sumL hc) n.g n.m n.b (pa_cons pe_sem (pa_cons pe_sem pa_nil hs2) hs1) n.n n.d hs1 hpl, h1.go lk tk A .refl w fun d S1 μ1 H1 F1 v as A1 P1 r1 o1 w1 => ?_⟩
  have w1' : WR X.K er W q.L fr σ S μ H F ((Z.lst Z.nil q fr S1).bnd fun d2 S2 => match d2 with
    | .new [] => sumLD d S2
    | _ => .no) (KE X.K H Q) := w1
  refine h2.go lk tk A1 P1 w1' fun d2 S2 μ2 H2 F2 u bs A2 P2 r2 o2 w2 => ?_
  split at w2
  · obtain ⟨r1', _⟩ := r1.keep o1 P2
    cases r2 with
    | c r2 => cases r2
    | @new z zs _ hz rz =>
      have ezs : zs = [] := by cases rz; rfl
      subst ezs
      unfold sumLD at w2
      split at w2
      · rename_i xs ex
        split at w2
        · rename_i hxl
          cases q1 : sqdL S2 d with
          | none =>
            rw [q1] at ex
            cases ex
          | some ds =>
            rw [q1] at ex
            have ex : catL S2 ds = some xs := ex
            obtain ⟨a, vs, cs, rfl, ha, hvs, _⟩ := sqdL_rep A2.hs r1' q1
            obtain ⟨xss, e1, e2, e3⟩ := catL_get ex
            have hln := hvs.length
            have hit : ∀ i, ∃ ws : List V, i < vs.length → (∃ b, vs[i]? = some (.ref b) ∧ H2 b = some (.lst ws)) ∧ RepL X.K (At F2) ws ((xss[i]?).getD []) := fun i => by
              by_cases hi : i < vs.length
              · have hd : ds[i]? = some (ds[i]'(by omega)) := List.getElem?_eq_getElem (by omega)
                obtain ⟨v, cs2, hv, rv, _⟩ := hvs.get hd
                obtain ⟨ys, hy, hq⟩ := e3 i _ hd
                obtain ⟨b, ws, rfl, hb, hr⟩ := sq_rep A2.hs rv hq
                exact ⟨ws, fun _ => ⟨⟨b, hv, hb⟩, by rw [hy]; exact hr⟩⟩
              · exact ⟨[], fun h => absurd h hi⟩
            let ys : Nat → List V := fun i => (hit i).choose
            have hys := fun i => (hit i).choose_spec
            have ecat : catX (fun i => (xss[i]?).getD []) 0 vs.length [] = xs := by
              have := catX_list (val := fun i => (xss[i]?).getD []) xss 0 [] (fun j hj => by
                rw [Nat.zero_add, List.getElem?_eq_getElem hj]
                rfl)
              rw [hln, ← e1, this, e2]
              rfl
            have hrep : RepL X.K (At F2) (catX ys 0 vs.length []) xs := by
              rw [← ecat]
              exact catX_rep vs.length 0 [] [] (fun j _ hj => (hys j (by omega)).2) .nil
            refine ⟨a, z, vs, ys, rfl, SqL.of ha, hz, fun i v hv => ?_, ?_, fun h0 => ?_, fun p hp => giveN w2 A2 (P1.trans P2) hp hrep⟩
            · have hi := (List.getElem?_eq_some_iff.mp hv).1
              obtain ⟨b, hb1, hb2⟩ := (hys i hi).1
              rw [hv] at hb1
              exact ⟨b, Option.some.inj hb1, hb2⟩
            · rw [hrep.length, sizeLine_eq]
              have : (okL : Nat) = 16000000 := rfl
              omega
            · have hx0 : xs = [] := by
                rw [← ecat, h0]
                rfl
              subst hx0
              exact give w2 A2 (P1.trans P2) (.new hz .nil) (o2.start P1.dom)
        · exact w2.elim
      · exact w2.elim
  · exact w2.elim
end
end Mi

set_option Elab.async false
set_option linter.all false
set_option maxRecDepth 100000
set_option maxHeartbeats 4000000
/-! N28: a + b of lists of which one may be new and hold new things: what they hold is frozen -/
namespace Mi
open PySem PySem.Spec PyProof.Rows L2
def addfD (x y : Mi.D) (S : Store) : R Mi.D := match fzL S x with
  | some a => match fzL S y with
    | some b => if a.length + b.length ≤ okL then .ok (.new (a ++ b)) S else .no
    | none => .no
  | none => .no
def Z.addf (f g : XE) : XE := fun q fr S => (f q fr S).bnd fun x S1 => (g q fr S1).bnd fun y S2 => addfD x y S2
section
variable {K : PySem.W.Frag} {S : Store} {μ : Nat → Addr} {H F : Hp}
theorem fzL_rep {cs as : List Addr} {v : V} {x : Mi.D} {xs : List T} (A : Hs K S μ H F) (sf : Same F (frz F H cs)) (r : RepN K S.length μ F H v x as) (m : ∀ a ∈ as, a ∈ cs) (e : fzL S x = some xs) : ∃ a vs, v = .ref a ∧ H a = some (.lst vs) ∧ RepL K (At (frz F H cs)) vs xs := by
  unfold fzL at e
  split at e
  · cases r with
    | c r => cases r
    | newo h1 h2 => exact ⟨_, _, rfl, h1, fzs_rep sf h2 (fun a ha => m a (List.mem_cons_of_mem _ ha)) e⟩
  · obtain ⟨a, vs, rfl, h1, g⟩ := sq_rep A r e
    exact ⟨a, vs, rfl, h1, g.mono (at_mono sf)⟩
end
section
variable {X : Cx} {gi : GI} {k : Nat} {a b : Expr} {f g : XE} {pos : Pos}
theorem sem_addf (h1 : SemE X gi k a f) (h2 : SemE X gi k b g) : SemE X gi k (.BinOp a .Add b pos) (Z.addf f g) := by
  intro er q lk W tk fr S μ σ H F A Q w
  refine ⟨_, pe_op op_cat pe_sem pe_sem, tOp_go (D1 := addfD) h1 h2 lk tk A w ?_⟩
  intro S2 μ2 H2 F2 x y v u as bs A1 P1 r1 r2 o w1
  unfold addfD at w1
  split at w1
  · rename_i xs e1
    split at w1
    · rename_i ys e2
      split at w1
      · rename_i hl
        have sf := frz_same (H := H2) fun c hc => (o.fr c hc).2.1
        obtain ⟨A2, P2⟩ := A1.frzd P1 o
        obtain ⟨p, vs, rfl, g1, q1⟩ := fzL_rep A1.hs sf r1 (fun c hc => List.mem_append_left _ hc) e1
        obtain ⟨p', ws, rfl, g2, q2⟩ := fzL_rep A1.hs sf r2 (fun c hc => List.mem_append_right _ hc) e2
        refine ⟨p, p', vs, ws, rfl, rfl, g1, g2, ?_, fun c hc => giveN w1 A2 P2 hc (q1.append q2)⟩
        rw [q1.length, q2.length]
        exact line_ok hl
      · exact w1.elim
    · exact w1.elim
  · exact w1.elim
end
end Mi

set_option Elab.async false
set_option linter.all false
set_option maxRecDepth 100000
set_option maxHeartbeats 4000000
/-! N29: raise C(e); try: e except C as n: v = n; err.f; isinstance(err, C) -/
namespace Mi
open PySem PySem.Spec PyProof.Rows L2
/-- an error that was caught: y its field ("": it has none) -/
def xT (c : Nat) (C : Addr) (y : Str) (x : T) : T := if y = ("" : Str) then .exn c C else .exc c C y x
theorem xT_f {c : Nat} {C : Addr} {y : Str} {x : T} (h : y ≠ ("" : Str)) : xT c C y x = .exc c C y x := if_neg h
namespace Z
/-- raise C('..') of a class without a field -/
def raisE (c : Nat) : XB := fun _ _ S => .ex c .non S
def raise (c : Nat) (f : XE) : XB := fun q fr S => (f q fr S).bnd fun d S1 => match fz 6 d with
  | some x => .ex c x S1
  | none => .no
/-- i: the clause's name, j: where the error is kept; cs: the classes caught and their fields -/
def tryx (f : XE) (cs : List (Nat × Str)) (i j : Nat) : XB := fun q fr S => match f q fr S with
  | .ok _ S1 => .ok (.nx, fr) S1
  | .ex c x S1 => match cs.lookup c with
    | some y => .ok (.nx, ((fr.set i (some (.t (xT c (q.fa c) y x)))).set j (some (.t (xT c (q.fa c) y x)))).set i none) S1
    | none => .no
  | .no => .no
def attr (j : Nat) (y : Str) (ns : List Nat) : XE := fun q fr S => match fr[j]? with
  | some (some (.t (.exc c C g x))) => if C = q.fa c ∧ g = y ∧ c ∈ ns then .ok (.t x) S else .no
  | _ => .no
def isx (j : Nat) (ns ys : List Nat) : XE := fun q fr S => match fr[j]? with
  | some (some (.t (.exc c C _ _))) => if C = q.fa c ∧ c ∈ ns then .ok (.bl (ys.contains c)) S else .no
  | some (some (.t (.exn c C))) => if C = q.fa c ∧ c ∈ ns then .ok (.bl (ys.contains c)) S else .no
  | _ => .no
end Z
section
variable {K : PySem.W.Frag} {L : Nat} {fr : Frame} {S : Store} {μ : Nat → Addr} {σ : L2.St} {H F : Hp}
/-- something new and frozen -/
theorem laidF (A : Ab K fr S μ σ H F) {p : Addr} {o : HO} (hp : H p = none) : Ab K fr S μ σ (upd H p o) (upd F p o) ∧ Stp L S μ H F S μ (upd H p o) (upd F p o) := by
  have Fp : F p = none := by
    cases q : F p with
    | none => rfl
    | some u =>
      obtain ⟨w, hw⟩ := now_some (A.hs.sub p u q)
      rw [hp] at hw
      cases hw
  have sf : Same F (upd F p o) := fun a u e => by
    rw [upd_ne (ne_of_none e Fp)]
    exact e
  have hs : Hs K S μ (upd H p o) (upd F p o) := by
    refine ⟨fun a u e => ?_, fun n u e => ?_, fun n hn => ?_, A.hs.inj, A.hs.tb⟩
    · by_cases ha : a = p
      · subst ha
        rw [upd_same] at e
        cases e
        exact .inl upd_same
      · rw [upd_ne ha] at e
        exact now_keep (fun w z => by rw [upd_ne ha]; exact z) (A.hs.sub a u e)
    · obtain ⟨ho, h1, h2⟩ := A.hs.ce n u e
      exact ⟨ho, by rw [upd_ne (ne_of_none h1 hp)]; exact h1, h2.mono (Nat.le_refl _) (fun _ _ => rfl) sf⟩
    · obtain ⟨ho, h1, h2⟩ := A.hs.ce n _ (List.getElem?_eq_getElem hn)
      rw [upd_ne (ne_of_none h1 hp)]
      exact A.hs.out n hn
  refine ⟨⟨hs, A.len, fun i d e => ?_⟩, ⟨sf, Nat.le_refl _, fun _ _ => rfl, fun b u e _ => ?_, fun a u e n => ?_, fun n h1 h2 => absurd h2 (Nat.not_lt.mpr h1), fun a e => ?_, fun n _ u u' e1 e2 B h => ?_, fun n u e => ⟨e, fun w z => ?_⟩⟩⟩
  · obtain ⟨v, e1, r⟩ := A.sl i d e
    exact ⟨v, e1, r.mono (Nat.le_refl _) (fun _ _ => rfl) sf⟩
  · rw [upd_ne (ne_of_none e hp)]
    exact e
  · by_cases ha : a = p
    · rw [ha]
      exact hp
    · rw [upd_ne ha] at e
      rw [n] at e
      cases e
  · by_cases ha : a = p
    · rw [ha, upd_same] at e
      cases e
    · rw [upd_ne ha] at e
      exact e
  · rw [e1] at e2
    cases e2
    exact h
  · rw [upd_ne (ne_of_none z hp)]
    exact z
theorem Ab.unset (A : Ab K fr S μ σ H F) {i : Nat} : Ab K (fr.set i none) S μ (σ.set i none) H F := by
  refine ⟨A.hs, by rw [List.length_set, List.length_set, A.len], fun j d e => ?_⟩
  by_cases h : i = j
  · subst h
    have hl := (List.getElem?_eq_some_iff.mp e).1
    rw [List.length_set] at hl
    rw [List.getElem?_set_self hl] at e
    cases e
  · rw [List.getElem?_set_ne h] at e
    obtain ⟨w, e1, r1⟩ := A.sl j d e
    exact ⟨w, by rw [List.getElem?_set_ne h]; exact e1, r1⟩
end
section
variable {X : Cx} {gi : GI} {k : Nat} {N : List Str} {sc : Scope} {pos p p' p2 pe pv pn pa pc : Pos} {e : Expr} {f : XE}
theorem sems_raise {x : XN} (c : Cok X gi k N sc) (hx : x ∈ gi.xs) (hg : sc.names.lookup x.name = some .globalImplicit) (hd : (x.name == ("__debug__" : Str)) = false) (h1 : SemE X gi k e f)
    (hs : starEach [e] X.env = (false, eval e X.env) :: starEach [] X.env) (hpl : (backTo pos (starEach [] X.env)).any (·.1) = false) (hf : x.f ≠ ("" : Str) := by decide) : SemS X gi k (.Raise (some (.Call (.Name x.name p) [e] [] pos)) none p2) (Z.raise x.c f) := by
  intro er q lk W tk fr S μ σ H F A D w
  obtain ⟨fI, T⟩ := lk.xo.own x hx hf
  have hm := lk.xo.gl x hx
  refine ⟨_, ps_raise c.calm tk (pmk_x T hm (lk.xo.sup fun z => by rw [z] at hx; cases hx) c.rm (pa_cons pe_sem pa_nil hs) (c.gl hg) hd hs hpl), h1.run lk tk A w fun d S1 μ1 H1 F1 v as A1 P1 r1 o1 w1 => ?_⟩
  cases ex : fz 6 d with
  | none =>
    rw [ex] at w1
    exact w1.elim
  | some y =>
    rw [ex] at w1
    refine ⟨v, rfl, fun dd hdd => ?_⟩
    obtain ⟨A2, P2⟩ := A1.frzd P1 o1
    have ry := fz_rep (frz_same (H := H1) fun a ha => (o1.fr a ha).2.1) r1 (fun _ h => h) ex
    obtain ⟨A3, P3⟩ := laidF (L := q.L) (o := .xd [(x.f, v)]) A2 hdd
    refine w1 fr σ μ1 _ _ (.ref (q.fa x.c)) (some dd) A3 (P2.trans P3) ?_
    rw [lk.xo.er]
    exact .inl ⟨x.name, x.f, dd, v, hx, hf, rfl, rfl, upd_same, ry.mono (at_mono P3.f)⟩
/-- raise C('..') of a class without a field -/
theorem sems_raisE {x : XN} {m : Str} {j : Nat} (c : Cok X gi k N sc) (hx : x ∈ gi.xs) (hg : sc.names.lookup x.name = some .globalImplicit) (hd : (x.name == ("__debug__" : Str)) = false) (hf : x.f = ("" : Str)) :
    SemS X gi k (.Raise (some (.Call (.Name x.name p) [.Constant (.str m) j pe] [] pos)) none p2) (Z.raisE x.c) := by
  intro er q lk W tk fr S μ σ H F A D w
  have T := lk.xo.ownE x hx hf
  obtain ⟨le, ex⟩ := T.ex
  refine ⟨_, ps_raise c.calm tk (pmk_own (excBase_b le) ex (lk.xo.gl x hx) T.kC (raises_own T.sE T.ty) (c.gl hg) hd), ?_⟩
  refine w fr σ μ H F (.ref (q.fa x.c)) none A .refl ?_
  rw [lk.xo.er]
  obtain ⟨xc, xn, xf⟩ := x
  dsimp only at hf
  subst hf
  exact .inr ⟨xn, hx, rfl, rfl, rfl⟩
theorem Cok.tr (c : Cok X gi k N sc) (pn : List (Addr × Obj)) (xe : Value → Shared → Prop) : Cok (X.tr pn xe) gi k N sc := ⟨c.n, c.s, c.nd, c.calm, c.gd, c.rm, c.bi, c.cs⟩
/-- the error that a clause puts into its slot -/
theorem try_put {cs : List (Nat × Str)} {i j : Nat} {er : ER} {q : Q} {W : WX} {fr : Frame} {S S1 : Store} {μ μ1 : Nat → Addr} {σ : L2.St} {H F H1 F1 : Hp} {D : Ends} {c' : Nat} {x : T} {cls : Value} {dx : Option Addr}
    (lk : Lnk X gi k er q) (hcs : ∀ y ∈ cs, ∃ nm, XN.mk y.1 nm y.2 ∈ gi.xs) (A1 : Ab X.K fr S1 μ1 σ H1 F1) (P1 : Stp q.L S μ H F S1 μ1 H1 F1) (ee : erX X.K gi.xs q.fa c' x cls dx H1 F1)
    (w : WS X.K er W q.L S μ H F (match cs.lookup c' with | some y => .ok (.nx, ((fr.set i (some (.t (xT c' (q.fa c') y x)))).set j (some (.t (xT c' (q.fa c') y x)))).set i none) S1 | none => .no) D) :
    wPut X.K (cs.map fun y => .ref (q.fa y.1)) i j D cls dx σ H1 := by
  split at w
  · rename_i y ey
    have hy : (c', y) ∈ cs := by
      have : ∀ l : List (Nat × Str), l.lookup c' = some y → (c', y) ∈ l := fun l => by
        induction l with
        | nil => intro z; cases z
        | cons a l ih =>
          intro z
          obtain ⟨a1, a2⟩ := a
          rw [List.lookup_cons] at z
          split at z
          · rename_i hb
            cases z
            rw [beq_iff_eq.mp hb]
            exact List.mem_cons_self
          · exact List.mem_cons_of_mem _ (ih z)
      exact this cs ey
    obtain ⟨nm2, hm2⟩ := hcs _ hy
    have any : ∀ l : List (Nat × Str), (∀ y ∈ l, ∃ nm, XN.mk y.1 nm y.2 ∈ gi.xs) → PySem.W.exmAny X.K (.ref (q.fa c')) (l.map fun y => .ref (q.fa y.1)) = some (l.any fun y => c' == y.1) := fun l => by
      induction l with
      | nil => intro _; rfl
      | cons a l ih =>
        intro hl
        obtain ⟨nm3, hm3⟩ := hl a List.mem_cons_self
        have e1 := lk.xo.exm _ hm2 _ hm3
        have e2 := ih fun y hy => hl y (List.mem_cons_of_mem _ hy)
        rw [List.map_cons, List.any_cons]
        unfold PySem.W.exmAny
        rw [e1, e2]
    have hex : PySem.W.exmAny X.K (.ref (q.fa c')) (cs.map fun y => .ref (q.fa y.1)) = some true := by
      rw [any cs hcs]
      exact congrArg some (List.any_eq_true.mpr ⟨_, hy, beq_self_eq_true c'⟩)
    rcases ee with ⟨nm, fd, dd, u, hmem, hfd, rfl, rfl, hF, ru⟩ | ⟨nm, hmem, rfl, rfl, rfl⟩
    · have ef2 : fd = y := lk.xo.uq _ hmem _ hm2 rfl
      subst ef2
      rw [xT_f hfd] at w
      refine ⟨hex, q.fa c', rfl, fun a ha => ?_⟩
      obtain ⟨A2, P2⟩ := laidF (L := q.L) (o := exv a (q.fa c') (some dd)) A1 ha
      have rx : Rep X.K (At (upd F1 a (exv a (q.fa c') (some dd)))) (.ref a) (.exc c' (q.fa c') fd x) := by
        refine .exc (d := dd) (v := u) upd_same ?_ (ru.mono (at_mono P2.f))
        exact P2.f _ _ hF
      exact w _ μ1 _ _ (((A2.set (i := i) (.t rx)).set (i := j) (.t rx)).unset (i := i)) (P1.trans P2)
    · have ef2 : ("" : Str) = y := lk.xo.uq _ hmem _ hm2 rfl
      subst ef2
      refine ⟨hex, q.fa c', rfl, fun a ha => ?_⟩
      obtain ⟨A2, P2⟩ := laidF (L := q.L) (o := exv a (q.fa c') none) A1 ha
      have rx : Rep X.K (At (upd F1 a (exv a (q.fa c') none))) (.ref a) (xT c' (q.fa c') "" .non) := .exn _ upd_same
      exact w _ μ1 _ _ (((A2.set (i := i) (.t rx)).set (i := j) (.t rx)).unset (i := i)) (P1.trans P2)
  · exact w.elim
/-- what the clauses catch -/
theorem try_core {cs : List (Nat × Str)} {i j : Nat} {n v : Str} {test : Expr} {er : ER} {q : Q} {W : WX} {fr : Frame} {S : Store} {μ : Nat → Addr} {σ : L2.St} {H F : Hp} {D : Ends} (c : Cok X gi k N sc) (hz : X.stack = X.env :: X.outer ∧ X.env.frame = some X.env.locals) (hi : N[i]? = some n) (hj : N[j]? = some v) (hn : sc.names.lookup n = some .local) (hv : sc.names.lookup v = some .local) (hdn : (n == ("__debug__" : Str)) = false) (hcn : (n == ("__classdict__" : Str)) = false)
    (lk : Lnk X gi k er q) (hcs : ∀ y ∈ cs, ∃ nm, XN.mk y.1 nm y.2 ∈ gi.xs) (ht : TestR X test (cs.map fun y => .ref (q.fa y.1))) (h1 : ∀ pn xe W Q, Takes (X.tr pn xe) W → WR X.K er W q.L fr σ S μ H F (f q fr S) (KE X.K H Q) → semE (X.tr pn xe) e σ H Q) (hsw : ∀ pn xe, swapsWith e none pe.line (X.tr pn xe).env = pure false) (A : Ab X.K fr S μ σ H F) (w : WS X.K er W q.L S μ H F (Z.tryx f cs i j q fr S) D) :
    ∃ t, PS X (.Try [.Expr e pe] [.ExceptHandler (some test) (some n) [.Assign [.Name v pv] (.Name n pn) pa] pc] [] [] pos) t ∧ t D σ H := by
  have kn : X.env.kindOf n = some .local := by
    show X.env.scope.names.lookup n = _
    rw [c.s]
    exact hn
  have kv : X.env.kindOf v = some .local := by
    show X.env.scope.names.lookup v = _
    rw [c.s]
    exact hv
  refine ⟨_, ps_try_put hz.1 hz.2 (by rw [c.n]; exact c.nd) (by rw [c.n]; exact hi) kn (by rw [c.n]; exact hj) kv hdn hcn ht, fun pn' xe tk2 hp2 => ?_⟩
  have lk2 : Lnk (X.tr pn' xe) gi k er q := ⟨lk.df, lk.xo, lk.ta, ⟨lk.co.z, lk.co.cl, lk.co.me, lk.co.ge⟩⟩
  refine ⟨_, pss_cons (ps_expr pe_sem (hsw pn' xe)) pss_nil, h1 pn' xe _ _ tk2 ?_⟩
  unfold Z.tryx at w
  cases ef : f q fr S with
  | no =>
    rw [ef] at w
    exact w.elim
  | ok d S1 =>
    rw [ef] at w
    exact fun μ1 H1 F1 A1 P1 u as r o => w σ μ1 H1 F1 A1 P1
  | ex c' x S1 =>
    rw [ef] at w
    intro μ1 H1 F1 cls dx A1 P1 ee
    rw [lk.xo.er] at ee
    exact try_put lk hcs A1 P1 ee w
/-- except C as n -/
theorem sems_try1 {i j : Nat} {n v nm : Str} {y : Nat × Str} {pt : Pos} (c : Cok X gi k N sc) (hz : X.stack = X.env :: X.outer ∧ X.env.frame = some X.env.locals) (hi : N[i]? = some n) (hj : N[j]? = some v) (hn : sc.names.lookup n = some .local) (hv : sc.names.lookup v = some .local) (hdn : (n == ("__debug__" : Str)) = false) (hcn : (n == ("__classdict__" : Str)) = false)
    (h : XN.mk y.1 nm y.2 ∈ gi.xs) (hg : sc.names.lookup nm = some .globalImplicit) (hd : (nm == ("__debug__" : Str)) = false) (h1 : ∀ pn xe, SemE (X.tr pn xe) gi k e f) (hsw : ∀ pn xe, swapsWith e none pe.line (X.tr pn xe).env = pure false) :
    SemS X gi k (.Try [.Expr e pe] [.ExceptHandler (some (.Name nm pt)) (some n) [.Assign [.Name v pv] (.Name n pn) pa] pc] [] [] pos) (Z.tryx f [y] i j) := by
  intro er q lk W tk fr S μ σ H F A D w
  have hm := lk.xo.gl _ h
  exact try_core c hz hi hj hn hv hdn hcn lk (fun z hz => by rw [List.mem_singleton.mp hz]; exact ⟨nm, h⟩) (test_one (c.gl hg) hd hm) (fun pn xe W Q tk w => h1 pn xe er q ⟨lk.df, lk.xo, lk.ta, ⟨lk.co.z, lk.co.cl, lk.co.me, lk.co.ge⟩⟩ W tk fr S μ σ H F A Q w) hsw A w
/-- except (C, D) as n -/
theorem sems_try2 {i j : Nat} {n v nm nm2 : Str} {y z : Nat × Str} {jt : Nat} {pt pt2 pt3 : Pos} (c : Cok X gi k N sc) (hz : X.stack = X.env :: X.outer ∧ X.env.frame = some X.env.locals) (hi : N[i]? = some n) (hj : N[j]? = some v) (hn : sc.names.lookup n = some .local) (hv : sc.names.lookup v = some .local) (hdn : (n == ("__debug__" : Str)) = false) (hcn : (n == ("__classdict__" : Str)) = false)
    (h : XN.mk y.1 nm y.2 ∈ gi.xs) (hg : sc.names.lookup nm = some .globalImplicit) (hd : (nm == ("__debug__" : Str)) = false) (h2 : XN.mk z.1 nm2 z.2 ∈ gi.xs) (hg2 : sc.names.lookup nm2 = some .globalImplicit) (hd2 : (nm2 == ("__debug__" : Str)) = false) (h1 : ∀ pn xe, SemE (X.tr pn xe) gi k e f) (hsw : ∀ pn xe, swapsWith e none pe.line (X.tr pn xe).env = pure false) :
    SemS X gi k (.Try [.Expr e pe] [.ExceptHandler (some (.Tuple [.Name nm pt, .Name nm2 pt2] jt pt3)) (some n) [.Assign [.Name v pv] (.Name n pn) pa] pc] [] [] pos) (Z.tryx f [y, z] i j) := by
  intro er q lk W tk fr S μ σ H F A D w
  have hm := lk.xo.gl _ h
  have hm2 := lk.xo.gl _ h2
  refine try_core c hz hi hj hn hv hdn hcn lk (fun u hu => ?_) (test_two (c.gl hg) hd hm (c.gl hg2) hd2 hm2) (fun pn xe W Q tk w => h1 pn xe er q ⟨lk.df, lk.xo, lk.ta, ⟨lk.co.z, lk.co.cl, lk.co.me, lk.co.ge⟩⟩ W tk fr S μ σ H F A Q w) hsw A w
  rcases List.mem_cons.mp hu with rfl | hu
  · exact ⟨nm, h⟩
  · rw [List.mem_singleton.mp hu]
    exact ⟨nm2, h2⟩
/-- except of 3 classes -/
theorem sems_try3 {i j : Nat} {n v nm0 nm1 nm2 : Str} {y0 y1 y2 : Nat × Str} {jt : Nat} {ptt pt0 pt1 pt2 : Pos} (c : Cok X gi k N sc) (hz : X.stack = X.env :: X.outer ∧ X.env.frame = some X.env.locals) (hi : N[i]? = some n) (hj : N[j]? = some v) (hn : sc.names.lookup n = some .local) (hv : sc.names.lookup v = some .local) (hdn : (n == ("__debug__" : Str)) = false) (hcn : (n == ("__classdict__" : Str)) = false)
    (h0 : XN.mk y0.1 nm0 y0.2 ∈ gi.xs) (hg0 : sc.names.lookup nm0 = some .globalImplicit) (hd0 : (nm0 == ("__debug__" : Str)) = false) (h1 : XN.mk y1.1 nm1 y1.2 ∈ gi.xs) (hg1 : sc.names.lookup nm1 = some .globalImplicit) (hd1 : (nm1 == ("__debug__" : Str)) = false) (h2 : XN.mk y2.1 nm2 y2.2 ∈ gi.xs) (hg2 : sc.names.lookup nm2 = some .globalImplicit) (hd2 : (nm2 == ("__debug__" : Str)) = false) (hh : ∀ pn xe, SemE (X.tr pn xe) gi k e f) (hsw : ∀ pn xe, swapsWith e none pe.line (X.tr pn xe).env = pure false) :
    SemS X gi k (.Try [.Expr e pe] [.ExceptHandler (some (.Tuple [.Name nm0 pt0, .Name nm1 pt1, .Name nm2 pt2] jt ptt)) (some n) [.Assign [.Name v pv] (.Name n pn) pa] pc] [] [] pos) (Z.tryx f [y0, y1, y2] i j) := by
  intro er q lk W tk fr S μ σ H F A D w
  have hm0 := lk.xo.gl _ h0
  have hm1 := lk.xo.gl _ h1
  have hm2 := lk.xo.gl _ h2
  refine try_core c hz hi hj hn hv hdn hcn lk (fun u hu => ?_) (test_three (c.gl hg0) hd0 hm0 (c.gl hg1) hd1 hm1 (c.gl hg2) hd2 hm2) (fun pn xe W Q tk w => hh pn xe er q ⟨lk.df, lk.xo, lk.ta, ⟨lk.co.z, lk.co.cl, lk.co.me, lk.co.ge⟩⟩ W tk fr S μ σ H F A Q w) hsw A w
  simp only [List.mem_cons, List.not_mem_nil, or_false] at hu
  rcases hu with rfl | rfl | rfl
  · exact ⟨nm0, h0⟩
  · exact ⟨nm1, h1⟩
  · exact ⟨nm2, h2⟩
/-- except of 4 classes -/
theorem sems_try4 {i j : Nat} {n v nm0 nm1 nm2 nm3 : Str} {y0 y1 y2 y3 : Nat × Str} {jt : Nat} {ptt pt0 pt1 pt2 pt3 : Pos} (c : Cok X gi k N sc) (hz : X.stack = X.env :: X.outer ∧ X.env.frame = some X.env.locals) (hi : N[i]? = some n) (hj : N[j]? = some v) (hn : sc.names.lookup n = some .local) (hv : sc.names.lookup v = some .local) (hdn : (n == ("__debug__" : Str)) = false) (hcn : (n == ("__classdict__" : Str)) = false)
    (h0 : XN.mk y0.1 nm0 y0.2 ∈ gi.xs) (hg0 : sc.names.lookup nm0 = some .globalImplicit) (hd0 : (nm0 == ("__debug__" : Str)) = false) (h1 : XN.mk y1.1 nm1 y1.2 ∈ gi.xs) (hg1 : sc.names.lookup nm1 = some .globalImplicit) (hd1 : (nm1 == ("__debug__" : Str)) = false) (h2 : XN.mk y2.1 nm2 y2.2 ∈ gi.xs) (hg2 : sc.names.lookup nm2 = some .globalImplicit) (hd2 : (nm2 == ("__debug__" : Str)) = false) (h3 : XN.mk y3.1 nm3 y3.2 ∈ gi.xs) (hg3 : sc.names.lookup nm3 = some .globalImplicit) (hd3 : (nm3 == ("__debug__" : Str)) = false) (hh : ∀ pn xe, SemE (X.tr pn xe) gi k e f) (hsw : ∀ pn xe, swapsWith e none pe.line (X.tr pn xe).env = pure false) :
    SemS X gi k (.Try [.Expr e pe] [.ExceptHandler (some (.Tuple [.Name nm0 pt0, .Name nm1 pt1, .Name nm2 pt2, .Name nm3 pt3] jt ptt)) (some n) [.Assign [.Name v pv] (.Name n pn) pa] pc] [] [] pos) (Z.tryx f [y0, y1, y2, y3] i j) := by
  intro er q lk W tk fr S μ σ H F A D w
  have hm0 := lk.xo.gl _ h0
  have hm1 := lk.xo.gl _ h1
  have hm2 := lk.xo.gl _ h2
  have hm3 := lk.xo.gl _ h3
  refine try_core c hz hi hj hn hv hdn hcn lk (fun u hu => ?_) (test_four (c.gl hg0) hd0 hm0 (c.gl hg1) hd1 hm1 (c.gl hg2) hd2 hm2 (c.gl hg3) hd3 hm3) (fun pn xe W Q tk w => hh pn xe er q ⟨lk.df, lk.xo, lk.ta, ⟨lk.co.z, lk.co.cl, lk.co.me, lk.co.ge⟩⟩ W tk fr S μ σ H F A Q w) hsw A w
  simp only [List.mem_cons, List.not_mem_nil, or_false] at hu
  rcases hu with rfl | rfl | rfl | rfl
  · exact ⟨nm0, h0⟩
  · exact ⟨nm1, h1⟩
  · exact ⟨nm2, h2⟩
  · exact ⟨nm3, h3⟩
theorem exc_slot {j c : Nat} {C : Addr} {y : Str} {x : T} {fr : Frame} {S : Store} {μ : Nat → Addr} {σ : L2.St} {H F : Hp} {K : PySem.W.Frag} (A : Ab K fr S μ σ H F) (h : fr[j]? = some (some (.t (.exc c C y x)))) :
    ∃ a d u, σ[j]? = some (some (.ref a)) ∧ H a = some (exv a C (some d)) ∧ H d = some (.xd [(y, u)]) ∧ Rep K (At F) u x := by
  obtain ⟨v, e1, r⟩ := A.sl j _ h
  cases r with
  | t r =>
    obtain ⟨a, d, u, rfl, h1, h2, h3⟩ := rep_exc r
    exact ⟨a, d, u, e1, now_ex (A.hs.sub _ _ h1) (fun _ z => by have z' : HO.ext _ = HO.dK _ := z; cases z'), now_ex (A.hs.sub _ _ h2) (fun _ z => by cases z), h3⟩
/-- err.f -/
theorem sem_attr {j : Nat} {x y : Str} {ns : List Nat} (n : Nm X j x) (hn : ∀ c ∈ ns, ∃ nm, XN.mk c nm y ∈ gi.xs) (hb : attributeBase (.Name x p) y X.env (eval (.Name x p) X.env) = eval (.Name x p) X.env) (hy : y ≠ ("" : Str) := by decide) : SemE X gi k (.Attribute (.Name x p) y pos) (Z.attr j y ns) := by
  intro er q lk W tk fr S μ σ H F A Q w
  unfold Z.attr at w
  split at w
  · rename_i c C g u e0
    split at w
    · rename_i hc
      obtain ⟨rfl, rfl, hc⟩ := hc
      obtain ⟨nm, hm⟩ := hn c hc
      obtain ⟨fI, T⟩ := lk.xo.own _ hm hy
      obtain ⟨a, d, z, e1, h1, h2, h3⟩ := exc_slot A e0
      exact ⟨_, pe_exa T (pe_var n.n n.v n.d n.c) hb, .ref a, e1, a, d, z, rfl, h1, h2, giveT w A .refl h3⟩
    · exact w.elim
  · exact w.elim
/-- what stands in a slot that holds an error -/
theorem exn_slot {j c : Nat} {C : Addr} {fr : Frame} {S : Store} {μ : Nat → Addr} {σ : L2.St} {H F : Hp} {K : PySem.W.Frag} (A : Ab K fr S μ σ H F) (h : fr[j]? = some (some (.t (.exn c C)))) : ∃ a, σ[j]? = some (some (.ref a)) ∧ H a = some (exv a C none) := by
  obtain ⟨v, e1, r⟩ := A.sl j _ h
  cases r with
  | t r =>
    obtain ⟨a, rfl, h1⟩ := rep_exn r
    exact ⟨a, e1, now_ex (A.hs.sub _ _ h1) (fun _ z => by have z' : HO.ext _ = HO.dK _ := z; cases z')⟩
theorem any_slot {j c : Nat} {C : Addr} {x : T} {fr : Frame} {S : Store} {μ : Nat → Addr} {σ : L2.St} {H F : Hp} {K : PySem.W.Frag} (A : Ab K fr S μ σ H F) (h : fr[j]? = some (some (.t x))) (hx : x = .exn c C ∨ ∃ y u, x = .exc c C y u) :
    ∃ a dd, σ[j]? = some (some (.ref a)) ∧ H a = some (exv a C dd) ∧ ∀ d, dd = some d → ∃ f v, H d = some (.xd [(f, v)]) := by
  rcases hx with rfl | ⟨y, u, rfl⟩
  · obtain ⟨a, e1, h1⟩ := exn_slot A h
    exact ⟨a, none, e1, h1, fun d z => by cases z⟩
  · obtain ⟨a, d, w, e1, h1, h2, h3⟩ := exc_slot A h
    exact ⟨a, some d, e1, h1, fun d' z => by cases z; exact ⟨_, _, h2⟩⟩
theorem isx_cases {j : Nat} {ns ys : List Nat} {q : Q} {fr : Frame} {S : Store} {K : PySem.W.Frag} {er : ER} {W : WX} {σ : L2.St} {μ : Nat → Addr} {H F : Hp} {Q : D → Store → (Nat → Addr) → Hp → Hp → Prop} (w : WR K er W q.L fr σ S μ H F (Z.isx j ns ys q fr S) Q) :
    ∃ c x, fr[j]? = some (some (.t x)) ∧ (x = .exn c (q.fa c) ∨ ∃ y u, x = .exc c (q.fa c) y u) ∧ c ∈ ns ∧ WR K er W q.L fr σ S μ H F (.ok (.bl (ys.contains c)) S) Q := by
  unfold Z.isx at w
  split at w
  · rename_i c C g u e0
    split at w
    · rename_i hc
      obtain ⟨rfl, hc⟩ := hc
      exact ⟨c, _, e0, .inr ⟨_, _, rfl⟩, hc, w⟩
    · exact w.elim
  · rename_i c C e0
    split at w
    · rename_i hc
      obtain ⟨rfl, hc⟩ := hc
      exact ⟨c, _, e0, .inl rfl, hc, w⟩
    · exact w.elim
  · exact w.elim
/-- isinstance(err, B) of a built-in class B -/
theorem sem_isxB {j : Nat} {x bn : Str} {b : String} {ns ks : List Nat} (n : Nm X j x) (ni : Bi X "isinstance" (.builtin "isinstance")) (nv : Bi X bn (.type b)) (hb : b ∈ bAsk) (hk : ∀ c ∈ ns, ks.contains c = (b == bNm (gi.ls.contains c))) (hn : ∀ c ∈ ns, ∃ nm y, XN.mk c nm y ∈ gi.xs)
    (he : starEach [.Name x p, .Name bn p2] X.env = (false, eval (.Name x p) X.env) :: starEach [.Name bn p2] X.env) (hs : starEach [.Name bn p2] X.env = [(false, eval (.Name bn p2) X.env)]) (hpl : (backTo pos (starEach [.Name bn p2] X.env)).any (·.1) = false) :
    SemE X gi k (.Call (.Name "isinstance" p') [.Name x p, .Name bn p2] [] pos) (Z.isx j ns ks) := by
  intro er q lk W tk fr S μ σ H F A Q w
  obtain ⟨c, x, e0, hx, hc, w⟩ := isx_cases w
  obtain ⟨nm, y, hm⟩ := hn c hc
  obtain ⟨a, dd, e1, h1, h2⟩ := any_slot A e0 hx
  have T := lk.xo.ob _ hm
  rw [hk c hc] at w
  exact ⟨_, pe_callB (call_isX T (lk.xo.kve _ hm b hb)) ni.g ni.m ni.b (pa_cons (pe_var n.n n.v n.d n.c) (pa_cons (pe_bltn (v := .ty b) nv.g nv.m nv.b rfl nv.n nv.d) pa_nil hs) he) ni.n ni.d he hpl, .ref a, e1, a, dd, .ty b, rfl, fun u r => r, h1, h2, giveT w A .refl (.bl _)⟩
/-- isinstance(err, ValueError) -/
theorem sem_isxV {j : Nat} {x : Str} {ns : List Nat} (n : Nm X j x) (ni : Bi X "isinstance" (.builtin "isinstance")) (nv : Bi X "ValueError" (.type "ValueError")) (hn : ∀ c ∈ ns, ∃ nm y, XN.mk c nm y ∈ gi.xs) (hl : ∀ c ∈ ns, gi.ls.contains c = false)
    (he : starEach [.Name x p, .Name "ValueError" p2] X.env = (false, eval (.Name x p) X.env) :: starEach [.Name "ValueError" p2] X.env) (hs : starEach [.Name "ValueError" p2] X.env = [(false, eval (.Name "ValueError" p2) X.env)]) (hpl : (backTo pos (starEach [.Name "ValueError" p2] X.env)).any (·.1) = false) :
    SemE X gi k (.Call (.Name "isinstance" p') [.Name x p, .Name "ValueError" p2] [] pos) (Z.isx j ns ns) :=
  sem_isxB n ni nv (by decide) (fun c hc => by rw [List.contains_iff_mem.mpr hc, hl c hc]; decide) hn he hs hpl
/-- isinstance(err, C) -/
theorem sem_isxO {j : Nat} {x : Str} {ns : List Nat} {t : XN} (n : Nm X j x) (ni : Bi X "isinstance" (.builtin "isinstance")) (ht : t ∈ gi.xs) (c0 : Cok X gi k N sc) (hg : sc.names.lookup t.name = some .globalImplicit) (hd : (t.name == ("__debug__" : Str)) = false) (hn : ∀ c ∈ ns, ∃ nm y, XN.mk c nm y ∈ gi.xs)
    (he : starEach [.Name x p, .Name t.name p2] X.env = (false, eval (.Name x p) X.env) :: starEach [.Name t.name p2] X.env) (hs : starEach [.Name t.name p2] X.env = [(false, eval (.Name t.name p2) X.env)]) (hpl : (backTo pos (starEach [.Name t.name p2] X.env)).any (·.1) = false) :
    SemE X gi k (.Call (.Name "isinstance" p') [.Name x p, .Name t.name p2] [] pos) (Z.isx j ns [t.c]) := by
  intro er q lk W tk fr S μ σ H F A Q w
  obtain ⟨c, x, e0, hx, hc, w⟩ := isx_cases w
  obtain ⟨nm, y, hm⟩ := hn c hc
  obtain ⟨a, dd, e1, h1, h2⟩ := any_slot A e0 hx
  have T := lk.xo.ob _ hm
  have hm2 := lk.xo.gl _ ht
  have ek : [t.c].contains c = (c == t.c) := by
    rw [List.contains_cons, List.contains_nil, Bool.or_false]
  rw [ek] at w
  exact ⟨_, pe_callB (call_isX T (lk.xo.kit _ hm _ ht)) ni.g ni.m ni.b (pa_cons (pe_var n.n n.v n.d n.c) (pa_cons (pe_glob (v := .ref (q.fa t.c)) (c0.gl hg) hm2 rfl hd) pa_nil hs) he) ni.n ni.d he hpl, .ref a, e1, a, dd, .ref (q.fa t.c), rfl, fun u r => r, h1, h2, giveT w A .refl (.bl _)⟩
end
end Mi

set_option Elab.async false
set_option linter.all false
set_option maxRecDepth 100000
set_option maxHeartbeats 4000000
/-! N30: what the module's top leaves of its error classes -/
namespace Mi
open PySem PySem.W PySem.Calls PyProof.Rows PySem.HandSPX PySem.Spec
/-- its text -/
structure XTxt (d : XD) : Prop where
  body : ∃ (msg : Str) (j : Nat) (p0 p1 p2 p3 p4 p5 q1 q2 q3 q4 : Pos), d.body = iB d.f msg j p0 p1 p2 p3 p4 p5 q1 q2 q3 q4 ∧ (p2.endLine == p4.line) = true
  binds : ∀ (doc pm : Value) (an : Option Addr) (cda cc : Addr) (ct : Value) (s : Shared) (u v : Value), BindsTo s (ksFn "__init__" d.qual d.params d.body d.scope .none .none doc pm an (.ref cda) ct cc) ⟨[u, v], []⟩ [("self", u), (d.f, v)]
  ar : ∃ ar, (d.params.posonlyargs ++ d.params.args).head? = some ar ∧ ar.arg = "self"
  k : d.scope.kind = .function
  co : d.scope.isCoroutine = false
  gen : d.scope.isGenerator = false
  nc : ∀ x ∈ d.scope.names, x.2 ≠ .cell
  ks : d.scope.names.lookup ("super" : Str) = some .globalImplicit
  kc : d.scope.names.lookup ("__class__" : Str) = some .free
  ka : d.scope.names.lookup ("self" : Str) = some .local
  kf : d.scope.names.lookup d.f = some .local
  fs : d.f ≠ "self"
  df : (d.f == ("__debug__" : Str)) = false
section
variable {K : Frag} {file : Str} {xs : List XD} {d : XD} {P : Program}
theorem own_of (c : xcB K file xs d = true) (e : fnI K d.nm = d.val) (t : XTxt d) (hf : P.main.file = file) (ht : (P.main.scope.names.lookup ("super" : Str)).isSome = false) :
    OwnX P K (He.ga K d.nm) (He.ma K (He.ga K d.nm) "__init__") d.f := by
  unfold xcB at c
  obtain ⟨c1, c⟩ := He.ba c
  obtain ⟨c2, c⟩ := He.ba c
  obtain ⟨c3, c⟩ := He.ba c
  obtain ⟨c4, c⟩ := He.ba c
  obtain ⟨c5, c⟩ := He.ba c
  obtain ⟨c6, c⟩ := He.ba c
  obtain ⟨c7, c⟩ := He.ba c
  obtain ⟨c8, c⟩ := He.ba c
  obtain ⟨c9, c⟩ := He.ba c
  obtain ⟨c10, c⟩ := He.ba c
  obtain ⟨c11, c⟩ := He.ba c
  obtain ⟨c12, c⟩ := He.ba c
  obtain ⟨c13, c⟩ := He.ba c
  obtain ⟨c14, c⟩ := He.ba c
  obtain ⟨c15, c⟩ := He.ba c
  obtain ⟨c16, c⟩ := He.ba c
  obtain ⟨c17, c⟩ := He.ba c
  obtain ⟨c18, c⟩ := He.ba c
  obtain ⟨c19, c⟩ := He.ba c
  obtain ⟨c20, c⟩ := He.ba c
  obtain ⟨c21, c⟩ := He.ba c
  have hcls : ∃ cd, clsIn K (He.ga K d.nm) = some cd ∧ cd.mro = .ref (He.ga K d.nm) :: bTail d.le ∧ cd.hasDict = true ∧ excOver K (He.ga K d.nm) (bTail d.le) = true ∧ takerIn K (He.ga K d.nm) d.f = some none := by
    unfold clsB at c2
    split at c2
    · rename_i cd hcd
      obtain ⟨a1, a2⟩ := He.ba c2
      obtain ⟨a2, a3⟩ := He.ba a2
      obtain ⟨a3, a4⟩ := He.ba a3
      exact ⟨cd, hcd, of_decide_eq_true a1, a2, a3, of_decide_eq_true a4⟩
    · cases c2
  obtain ⟨cd, q1, q2, q3, q4, q5⟩ := hcls
  refine ⟨⟨d.le, ⟨cd, q1, q2, q3⟩, c3, of_decide_eq_true c10, q4⟩, q5, of_decide_eq_true c4, of_decide_eq_true c5, of_decide_eq_true c6, of_decide_eq_true c7, c8, of_decide_eq_true c9, of_decide_eq_true c11, of_decide_eq_true c12, of_decide_eq_true c13, of_decide_eq_true c14, of_decide_eq_true c15, c16, of_decide_eq_true c17, of_decide_eq_true c18, of_decide_eq_true c19, of_decide_eq_true c20, ⟨?_⟩, ht⟩
  unfold initB at c1
  unfold fnI at e
  generalize He.ma K (He.ga K d.nm) "__init__" = fI at c1 e
  split at c1
  · rename_i oc od fd osl ho
    rw [ho] at e
    have e := Option.some.inj e
    obtain ⟨a1, k1⟩ := He.ba c1
    obtain ⟨a2, k2⟩ := He.ba k1
    obtain ⟨a3, a4⟩ := He.ba k2
    clear c1 k1 k2
    replace a2 := of_decide_eq_true a2
    replace a3 := of_decide_eq_true a3
    obtain ⟨name, qualname, params, fbody, scope, globals, closure, defaults, kwdefaults, doc, pyModule, annotations, code, closureTuple, builtins⟩ := fd
    dsimp only at a1 a2 a3 a4 e ho
    simp only [Prod.mk.injEq] at e
    obtain ⟨rfl, rfl, rfl, rfl, rfl, rfl, rfl, e8⟩ := e
    subst a2 a3
    unfold cellB at a4
    split at a4
    · rename_i nm cc
      rw [List.map_cons, List.map_nil] at e8
      have e9 : nm = ("__class__" : Str) := (List.cons.injEq _ _ _ _ ▸ e8 : _ ∧ _).1
      subst e9
      split at a4
      · rename_i cl cld v csl hcell
        have a4 := of_decide_eq_true a4
        subst a4
        unfold codeB at a1
        split at a1
        · rename_i cda
          obtain ⟨b1, b2⟩ := He.ba a1
          split at b2
          · rename_i ccl cdd vs ccs hcode
            split at b2
            · rename_i fl tf hvs
              obtain ⟨msg, j, p0, p1, p2, p3, p4, p5, q1, q2, q3, q4, hbody, hpl⟩ := t.body
              obtain ⟨ar, har, har2⟩ := t.ar
              have tb := t.binds
              rw [hbody] at ho tb
              exact ⟨oc, od, osl, d.qual, msg, d.params, d.scope, doc, pyModule, annotations, cda, cc, closureTuple, ar, j, p0, p1, p2, p3, p4, p5, q1, q2, q3, q4, ho, b1, ⟨ccl, cdd, vs, ccs, fl, tf, hcode, hvs, by rw [hf]; exact b2⟩, ⟨cl, cld, csl, hcell⟩, fun s u v => tb doc pyModule annotations cda cc closureTuple s u v, har, har2, t.k, t.co, t.gen, t.nc, t.ks, t.kc, t.ka, t.kf, t.fs, t.df, hpl⟩
            · cases b2
          · cases b2
        · cases a1
      · cases a4
    · cases a4
  · cases c1
variable {fa : List He.Fa} {fn : List He.DefD} {mg : Str → Option Value} {ns : List XN} {ls : List Nat} {faf : Nat → Addr}
theorem SaysX.dd (c : SaysX fa fn xs file K) : He.SaysD fa fn K := congrArg (fun z : AlX => z.1) c
theorem SaysX.at_ (c : SaysX fa fn xs file K) (h : d ∈ xs) : (if d.f = ("" : Str) then xeB K xs d else xcB K file xs d) = true := List.all_eq_true.mp (show (xs.all fun d => if d.f = ("" : Str) then xeB K xs d else xcB K file xs d) = true from congrArg (fun z : AlX => z.2.1) c) d h
theorem SaysX.x (c : SaysX fa fn xs file K) (h : d ∈ xs) (hf : d.f ≠ ("" : Str)) : xcB K file xs d = true := by
  have z := c.at_ h
  rw [if_neg hf] at z
  exact z
theorem SaysX.e (c : SaysX fa fn xs file K) (h : d ∈ xs) (hf : d.f = ("" : Str)) : xeB K xs d = true := by
  have z := c.at_ h
  rw [if_pos hf] at z
  exact z
theorem SaysX.v (c : SaysX fa fn xs file K) (h : d ∈ xs) (hf : d.f ≠ ("" : Str)) : fnI K d.nm = d.val := by
  have e : xs.map (fun d => if d.f = ("" : Str) then none else fnI K d.nm) = xs.map (fun d => if d.f = ("" : Str) then none else d.val) := congrArg (fun z : AlX => z.2.2) c
  obtain ⟨i, hi⟩ := List.getElem?_of_mem h
  have := congrArg (fun l : List FnI => l[i]?) e
  rw [List.getElem?_map, List.getElem?_map, hi] at this
  have z := Option.some.inj this
  dsimp only at z
  rw [if_neg hf, if_neg hf] at z
  exact z
/-- what both kinds of classes have -/
structure XBoth (K : Frag) (xs : List XD) (d : XD) : Prop where
  b : OwnB K (He.ga K d.nm)
  k : ∀ b ∈ bAsk, kitOne K (.ref (He.ga K d.nm)) (.type b) = some (b == bNm d.le)
  y : ∀ y ∈ xs, exmOne K (.ref (He.ga K d.nm)) (.ref (He.ga K y.nm)) = some (decide (d.nm = y.nm)) ∧ kitOne K (.ref (He.ga K d.nm)) (.ref (He.ga K y.nm)) = some (decide (d.nm = y.nm))
theorem ys_of (c : (xs.all fun y => decide (exmOne K (.ref (He.ga K d.nm)) (.ref (He.ga K y.nm)) = some (decide (d.nm = y.nm))) && decide (kitOne K (.ref (He.ga K d.nm)) (.ref (He.ga K y.nm)) = some (decide (d.nm = y.nm)))) = true) :
    ∀ y ∈ xs, exmOne K (.ref (He.ga K d.nm)) (.ref (He.ga K y.nm)) = some (decide (d.nm = y.nm)) ∧ kitOne K (.ref (He.ga K d.nm)) (.ref (He.ga K y.nm)) = some (decide (d.nm = y.nm)) := fun y hy => by
  obtain ⟨z1, z2⟩ := He.ba (List.all_eq_true.mp c y hy)
  exact ⟨of_decide_eq_true z1, of_decide_eq_true z2⟩
theorem ks_of (c : (bAsk.all fun b => decide (kitOne K (.ref (He.ga K d.nm)) (.type b) = some (b == bNm d.le))) = true) : ∀ b ∈ bAsk, kitOne K (.ref (He.ga K d.nm)) (.type b) = some (b == bNm d.le) := fun b hb => of_decide_eq_true (List.all_eq_true.mp c b hb)
theorem own_e (c : xeB K xs d = true) : OwnE K (He.ga K d.nm) ∧ XBoth K xs d := by
  unfold xeB at c
  obtain ⟨c1, c⟩ := He.ba c
  obtain ⟨c2, c⟩ := He.ba c
  obtain ⟨c3, c⟩ := He.ba c
  obtain ⟨c4, c⟩ := He.ba c
  obtain ⟨c5, c⟩ := He.ba c
  obtain ⟨c6, c⟩ := He.ba c
  obtain ⟨c7, c⟩ := He.ba c
  obtain ⟨c8, c⟩ := He.ba c
  obtain ⟨c9, c⟩ := He.ba c
  obtain ⟨c10, c⟩ := He.ba c
  obtain ⟨c11, c⟩ := He.ba c
  obtain ⟨c12, c⟩ := He.ba c
  have c4 : ∃ cd, clsIn K (He.ga K d.nm) = some cd ∧ cd.mro = .ref (He.ga K d.nm) :: bTail d.le := by
    unfold mroB at c4
    split at c4
    · rename_i cd h
      exact ⟨cd, h, of_decide_eq_true c4⟩
    · cases c4
  obtain ⟨cd, c41, c42⟩ := c4
  exact ⟨⟨⟨d.le, cd, c41, c42⟩, ⟨d.le, c1⟩, c2, of_decide_eq_true c7, of_decide_eq_true c3⟩, ⟨⟨cd, c41⟩, of_decide_eq_true c5, of_decide_eq_true c6, of_decide_eq_true c7, of_decide_eq_true c8, of_decide_eq_true c9, of_decide_eq_true c10, of_decide_eq_true c11⟩, ks_of c12, ys_of c⟩
theorem both_x (c : xcB K file xs d = true) (b : OwnB K (He.ga K d.nm)) : XBoth K xs d := by
  unfold xcB at c
  obtain ⟨c1, c⟩ := He.ba c
  obtain ⟨c2, c⟩ := He.ba c
  obtain ⟨c3, c⟩ := He.ba c
  obtain ⟨c4, c⟩ := He.ba c
  obtain ⟨c5, c⟩ := He.ba c
  obtain ⟨c6, c⟩ := He.ba c
  obtain ⟨c7, c⟩ := He.ba c
  obtain ⟨c8, c⟩ := He.ba c
  obtain ⟨c9, c⟩ := He.ba c
  obtain ⟨c10, c⟩ := He.ba c
  obtain ⟨c11, c⟩ := He.ba c
  obtain ⟨c12, c⟩ := He.ba c
  obtain ⟨c13, c⟩ := He.ba c
  obtain ⟨c14, c⟩ := He.ba c
  obtain ⟨c15, c⟩ := He.ba c
  obtain ⟨c16, c⟩ := He.ba c
  obtain ⟨c17, c⟩ := He.ba c
  obtain ⟨c18, c⟩ := He.ba c
  obtain ⟨c19, c⟩ := He.ba c
  obtain ⟨c20, c⟩ := He.ba c
  obtain ⟨c21, c⟩ := He.ba c
  exact ⟨b, ks_of c21, ys_of c⟩
/-- the classes are as the layer wants them -/
theorem xok_of (c : SaysX fa fn xs file K) (hf : P.main.file = file) (ht : (P.main.scope.names.lookup ("super" : Str)).isSome = false) (hs : mg "super" = none) (hm : ∀ x ∈ ns, mg x.name = some (.ref (He.ga K x.name)) ∧ faf x.c = He.ga K x.name)
    (hd : ∀ x ∈ ns, ∃ d ∈ xs, d.nm = x.name ∧ d.f = x.f ∧ d.le = ls.contains x.c ∧ (d.f ≠ ("" : Str) → XTxt d)) (inj : ∀ x ∈ ns, ∀ y ∈ ns, decide (x.name = y.name) = (x.c == y.c)) (uq : ∀ x ∈ ns, ∀ y ∈ ns, x.c = y.c → x.f = y.f) : XOk P K mg ns ls faf (erX K ns faf) := by
  have both : ∀ d ∈ xs, (d.f ≠ ("" : Str) → XTxt d) → XBoth K xs d := fun d hd t => by
    by_cases hq : d.f = ("" : Str)
    · exact (own_e (c.e hd hq)).2
    · exact both_x (c.x hd hq) (own_of (c.x hd hq) (c.v hd hq) (t hq) hf ht).b
  have all : ∀ x ∈ ns, ∀ y ∈ ns, exmOne K (.ref (faf x.c)) (.ref (faf y.c)) = some (x.c == y.c) ∧ kitOne K (.ref (faf x.c)) (.ref (faf y.c)) = some (x.c == y.c) ∧ ∀ b ∈ bAsk, kitOne K (.ref (faf x.c)) (.type b) = some (b == bNm (ls.contains x.c)) := fun x hx y hy => by
    obtain ⟨d, hdx, e1, e2, e3, t⟩ := hd x hx
    obtain ⟨d2, hdy, f1, f2, f3, t2⟩ := hd y hy
    have B := both d hdx t
    obtain ⟨z1, z2⟩ := B.y d2 hdy
    have z3 := B.k
    rw [e1, f1, inj x hx y hy] at z1 z2
    rw [e1, e3] at z3
    rw [(hm x hx).2, (hm y hy).2]
    exact ⟨z1, z2, z3⟩
  refine ⟨rfl, fun x hx hq => ?_, fun x hx hq => ?_, fun x hx => ?_, fun x hx => ?_, fun _ => hs, fun x hx y hy => (all x hx y hy).1, fun x hx y hy => (all x hx y hy).2.1, fun x hx => (all x hx x hx).2.2, uq⟩
  · obtain ⟨d, hdx, e1, e2, e3, t⟩ := hd x hx
    have hq' : d.f ≠ ("" : Str) := by rw [e2]; exact hq
    have o := own_of (c.x hdx hq') (c.v hdx hq') (t hq') hf ht
    rw [e1, e2] at o
    rw [(hm x hx).2]
    exact ⟨_, o⟩
  · obtain ⟨d, hdx, e1, e2, e3, t⟩ := hd x hx
    have o := (own_e (c.e hdx (e2.trans hq))).1
    rw [e1] at o
    rw [(hm x hx).2]
    exact o
  · obtain ⟨d, hdx, e1, e2, e3, t⟩ := hd x hx
    have o := (both d hdx t).b
    rw [e1] at o
    rw [(hm x hx).2]
    exact o
  · rw [(hm x hx).2]
    exact (hm x hx).1
end
end Mi

set_option Elab.async false
set_option linter.all false
set_option maxRecDepth 100000
set_option maxHeartbeats 4000000
/-! N31: what is made is frozen at once; {}; tuple(e); t + u of tuples -/
namespace Mi
open PySem PySem.Spec PyProof.Rows L2
namespace Z
def fzE (f : XE) : XE := fun q fr S => (f q fr S).bnd fun d S1 => match fz 6 d with
  | some x => .ok (.t x) S1
  | none => .no
def dict0 : XE := fun _ _ S => .ok (.newd []) S
def tupl (f : XE) : XE := fun q fr S => (f q fr S).bnd fun d S1 => match sq S1 d with
  | some xs => .ok (.t (.tup xs)) S1
  | none => .no
def tcat (f g : XE) : XE := fun q fr S => (f q fr S).bnd fun x S1 => (g q fr S1).bnd fun y S2 => match x, y with
  | .t (.tup xs), .t (.tup ys) => if xs.length + ys.length ≤ okL then .ok (.t (.tup (xs ++ ys))) S2 else .no
  | _, _ => .no
end Z
section
variable {X : Cx} {gi : GI} {k : Nat} {e a b : Expr} {f g : XE} {p pos : Pos}
theorem sem_fzE (h1 : SemE X gi k e f) : SemE X gi k e (Z.fzE f) := by
  intro er q lk W tk fr S μ σ H F A Q w
  have w' : WR X.K er W q.L fr σ S μ H F ((f q fr S).bnd fun d S1 => match fz 6 d with
    | some x => .ok (.t x) S1
    | none => .no) (KE X.K H Q) := w
  refine h1 er q lk W tk fr S μ σ H F A Q (w'.bnd .refl fun d S1 μ1 H1 F1 A1 P1 w1 v as r o => ?_)
  cases ex : fz 6 d with
  | none =>
    rw [ex] at w1
    exact w1.elim
  | some x =>
    rw [ex] at w1
    obtain ⟨A2, P2⟩ := A1.frzd P1 o
    exact giveT w1 A2 P2 (fz_rep (frz_same (H := H1) fun a ha => (o.fr a ha).2.1) r (fun _ h => h) ex)
theorem sem_dict0 : SemE X gi k (.Dict [] [] pos) Z.dict0 := by
  intro er q lk W tk fr S μ σ H F A Q w
  refine ⟨_, pe_dnewK, fun d hd => ?_⟩
  have P2 := stp_laid (L := q.L) (S := S) (μ := μ) (F := F) (o := .dK []) hd
  refine give w (A.hsof P2 (A.hs.laid hd)) P2 (.newd upd_same .nil) ?_
  exact own_new A.hs hd
theorem sem_tupl (n : Bi X "tuple" (.type "tuple")) (h1 : SemE X gi k e f) (hs : starEach [e] X.env = [(false, eval e X.env)]) : SemE X gi k (.Call (.Name "tuple" p) [e] [] pos) (Z.tupl f) := by
  intro er q lk W tk fr S μ σ H F A Q w
  refine ⟨_, pe_callTy call_tuple_of n.g n.m n.b pa_sem n.n n.d hs rfl, arg1 h1 lk tk A w hs fun d S1 μ1 H1 F1 v as A1 P1 r1 o1 w1 => ?_⟩
  cases ex : sq S1 d with
  | none =>
    rw [ex] at w1
    exact w1.elim
  | some xs =>
    rw [ex] at w1
    obtain ⟨p, vs, rfl, h1, h2⟩ := sq_rep A1.hs r1 ex
    refine ⟨p, vs, rfl, .inl ⟨SqL.of h1, fun l hl => ?_⟩⟩
    obtain ⟨A2, P2⟩ := laidF (L := q.L) (o := .tup vs) A1 hl
    exact giveT w1 A2 (P1.trans P2) (.tup upd_same (h2.mono (at_mono P2.f)))
theorem sem_tcat (h1 : SemE X gi k a f) (h2 : SemE X gi k b g) : SemE X gi k (.BinOp a .Add b pos) (Z.tcat f g) := by
  intro er q lk W tk fr S μ σ H F A Q w
  let D1 : Mi.D → Mi.D → Store → R Mi.D := fun x y S2 => match x, y with
    | .t (.tup xs), .t (.tup ys) => if xs.length + ys.length ≤ okL then .ok (.t (.tup (xs ++ ys))) S2 else .no
    | _, _ => .no
  refine ⟨_, pe_op op_catA pe_sem pe_sem, tOp_go (D1 := D1) h1 h2 lk tk A w ?_⟩
  intro S2 μ2 H2 F2 x y v u as bs A1 P1 r1 r2 o w1
  replace w1 : WR X.K er W q.L fr σ S μ H F (match x, y with
    | .t (.tup xs), .t (.tup ys) => if xs.length + ys.length ≤ okL then .ok (.t (.tup (xs ++ ys))) S2 else .no
    | _, _ => .no) (KE X.K H Q) := w1
  split at w1
  · rename_i xs ys
    split at w1
    · rename_i hl
      obtain ⟨p1, vs, rfl, g1, q1⟩ := rep_tup (repT r1).1
      obtain ⟨p2, ws, rfl, g2, q2⟩ := rep_tup (repT r2).1
      have k1 := now_tup (A1.hs.sub _ _ g1)
      have k2 := now_tup (A1.hs.sub _ _ g2)
      refine ⟨p1, p2, vs, ws, rfl, rfl, SqT.of k1, SqT.of k2, by rw [q1.length, q2.length]; exact line_ok hl, fun hv => ?_, fun hv hw => ?_, fun hv hw c hc => ?_⟩
      · subst hv
        have := q1.length
        have hx : xs = [] := List.length_eq_zero_iff.mp this.symm
        subst hx
        exact giveT w1 A1 P1 (.tup g2 q2)
      · subst hw
        have := q2.length
        have hx : ys = [] := List.length_eq_zero_iff.mp this.symm
        subst hx
        rw [List.append_nil] at w1
        exact giveT w1 A1 P1 (.tup g1 q1)
      · obtain ⟨A2, P2⟩ := laidF (L := q.L) (o := .tup (vs ++ ws)) A1 hc
        exact giveT w1 A2 (P1.trans P2) (.tup upd_same ((q1.append q2).mono (at_mono P2.f)))
    · exact w1.elim
  · exact w1.elim
end
end Mi

set_option Elab.async false
set_option linter.all false
set_option maxRecDepth 100000
set_option maxHeartbeats 4000000
/-! N33: comprehensions of two sources -/
namespace Mi
open PySem PySem.Spec PyProof.Rows L2
/-- the second source's turns for each thing of the first -/
def lcL2 (vs1 : List Nat) (g : Z.Tg) (ft : XT) (fi1 : XI) (g1 : Z.Tg) (ft1 : XT) (fe : XE) (q : Q) (fr : Frame) : List D → Store → R (List D)
  | [], S => .ok [] S
  | d :: ds, S => match asg S g d fr with
    | none => .no
    | some fr1 => match ft q fr1 S with
      | .ok true S1 => match fi1 q fr1 S1 with
        | .ok p S2 => if p.1.length ≤ 4000 then match unlR p.2 (lcL g1 ft1 fe q (wipeF fr1 vs1) p.1 (lckS S2 p.2)) with
            | .ok es S3 => (lcL2 vs1 g ft fi1 g1 ft1 fe q fr ds S3).bnd fun es2 S4 => .ok (es ++ es2) S4
            | _ => .no
          else .no
        | _ => .no
      | .ok false S1 => lcL2 vs1 g ft fi1 g1 ft1 fe q fr ds S1
      | _ => .no
def Z.lc2 (vs : List Nat) (g : Z.Tg) (fi : XI) (ft : XT) (vs1 : List Nat) (g1 : Z.Tg) (fi1 : XI) (ft1 : XT) (fe : XE) : XE := fun q fr S => (fi q fr S).bnd fun p S1 => if p.1.length ≤ 4000 then (unlR p.2 (lcL2 vs1 g ft fi1 g1 ft1 fe q (wipeF fr vs) p.1 (lckS S1 p.2))).bnd fun ds S2 => .ok (Z.mkL ds) S2 else .no
section
variable {X : Cx} {gi : GI} {k : Nat} {scope : Scope} {pos p1 p pp : Pos} {tg it tg1 it1 elt : Expr} {ifs ifs1 : List Expr} {fe : XE} {ft ft1 : XT} {fi fi1 : XI}
variable {er : ER} {W : WX} {fr : Frame} {σ : L2.St} {S : Store} {μ : Nat → Addr} {H F : Hp} {vs vs1 : List Nat}
def blkI (X : Cx) (scope : Scope) (tg it : Expr) : TI := fun σ H R => ∀ s H0 C cl fp, semI (bx X scope s H0 C cl fp) tg it σ H R
theorem pi_blk (s : Shared) (H : Hp) (C : Addr) (cl : List (Str × Addr)) (fp : List Addr) : PI (bx X scope s H C cl fp) tg it (blkI X scope tg it) := ⟨fun pins s' σ H' R I h => pi_sem.run pins s' σ H' R I (h s H C cl fp)⟩
/-- a name of the block's own that an inner block captures -/
theorem Cok.nlC {N : List Str} {sc : Scope} {s : Shared} {C : Addr} {cl : List (Str × Addr)} {fp : List Addr} (c : Cok (bx X scope s H C cl fp) gi k N sc) {i : Nat} {x : Str} (h : N[i]? = some x) (l : sc.names.lookup x = some .cell) (f : (scope.names.lookup x == some .cell) = true) : Nl (bx X scope s H C cl fp) i x :=
  ⟨by rw [c.n]; exact c.nd, by rw [c.n]; exact h, .inr (by rw [c.s]; exact l), .inl f⟩
/-- what is done with the inner turns -/
def inR (l l1 : Option Nat) (ds : List D) (rest : Store → R (List D)) (r : R (List D)) : R D :=
  (unlR l ((match unlR l1 r with
    | .ok es S3 => (rest S3).bnd fun es2 S4 => .ok (es ++ es2) S4
    | _ => .no : R (List D)).bnd fun es S3 => .ok (ds ++ es) S3)).bnd fun ds S2 => .ok (Z.mkL ds) S2
theorem inR_push {l l1 : Option Nat} {ds : List D} {rest : Store → R (List D)} {d : D} {r : R (List D)} : inR l l1 ds rest (r.bnd fun es S => .ok (d :: es) S) = inR l l1 (ds ++ [d]) rest r := by
  cases r with
  | ok es S3 =>
    rw [bnd_ok]
    unfold inR
    show (unlR l (((rest (unlS S3 l1)).bnd fun es2 S4 => .ok ((d :: es) ++ es2) S4).bnd fun es S3 => .ok (ds ++ es) S3)).bnd _ = (unlR l (((rest (unlS S3 l1)).bnd fun es2 S4 => .ok (es ++ es2) S4).bnd fun es S3 => .ok ((ds ++ [d]) ++ es) S3)).bnd _
    cases rest (unlS S3 l1) with
    | ok es2 S4 =>
      rw [bnd_ok, bnd_ok, bnd_ok, bnd_ok, List.append_assoc]
      rfl
    | _ => rfl
  | _ => rfl
theorem inR_end {l l1 : Option Nat} {ds : List D} {rest : Store → R (List D)} {S : Store} : inR l l1 ds rest (.ok [] S) = (unlR l ((rest (unlS S l1)).bnd fun es S3 => .ok (ds ++ es) S3)).bnd fun ds S2 => .ok (Z.mkL ds) S2 := by
  unfold inR
  show (unlR l (((rest (unlS S l1)).bnd fun es2 S4 => .ok ([] ++ es2) S4).bnd fun es S3 => .ok (ds ++ es) S3)).bnd _ = _
  rw [bnd_nil]
theorem StpW.mine {S0 : Store} {μ0 : Nat → Addr} {H0 F0 : Hp} (P : StpW S0 μ0 H0 F0 S μ H F) {p : Addr} {o : HO} (hp : ∀ n, n < S0.length → μ0 n ≠ p) (hF : F p = none) : StpW S0 μ0 H0 F0 S μ (upd H p o) F where
  f := P.f
  le := P.le
  mu := P.mu
  lk := fun n o e => by
    obtain ⟨q1, q2⟩ := P.lk n o e
    exact ⟨q1, fun u z => by
      rw [upd_ne (hp n (List.getElem?_eq_some_iff.mp e).1)]
      exact q2 u z⟩
  kf := fun b o e nf => by
    rw [upd_ne fun z => ?_]
    · exact P.kf b o e nf
    · cases q : F0 b with
      | none => exact nf q
      | some u =>
        have h1 := P.f _ _ q
        rw [z, hF] at h1
        cases h1
/-- a lock taken on the way is taken off again -/
theorem unl_ok2 {K : PySem.W.Frag} {L : Nat} {l : Option Nat} {S0 S4 : Store} {μ0 μ4 : Nat → Addr} {H0 F0 H4 F4 : Hp} (h : LkOk S4 l) (P0 : Stp L S0 μ0 H0 F0 S4 μ4 H4 F4) (Pw : StpW (lckS S4 l) μ4 H4 F4 S μ H F) (P : Stp L S0 μ0 H0 F0 S μ H F) (A : Ab K fr S μ σ H F) : Ab K fr (unlS S l) μ σ H F ∧ Stp L S0 μ0 H0 F0 (unlS S l) μ H F := by
  cases l with
  | none => exact ⟨A, P⟩
  | some n =>
    obtain ⟨o, e, z⟩ := h
    rw [lck_eq e z] at Pw
    have hn := (List.getElem?_eq_some_iff.mp e).1
    have e2 : S[n]? = some (.lck o) := (Pw.lk n o (List.getElem?_set_self hn)).1
    have eu : unlS S (some n) = S.set n o := by
      unfold unlS
      simp only
      rw [e2]
    rw [eu]
    refine ⟨A.re e2 (fun ho c => ?_) (fun P' q' z2 => by subst z2; rcases z with ⟨_, z⟩ | ⟨_, z⟩ <;> cases z), P.f, ?_, P.mu, P.keep, P.nF, fun m h1 h2 => P.nC m h1 (by rw [List.length_set] at h2; exact h2), P.dom, fun m hm u u' e1 e3 B hB => ?_, fun m u e1 => ?_⟩
    · rcases z with ⟨xs, rfl⟩ | ⟨xs, rfl⟩
      · cases ho <;> first | exact c.elim | exact c
      · cases ho <;> first | exact c.elim | exact c
    · rw [List.length_set]
      exact P.le
    · by_cases hnm : n = m
      · subst hnm
        rw [List.getElem?_set_self (List.getElem?_eq_some_iff.mp e2).1] at e3
        cases e3
        have z2 := P.cl n hm u _ e1 e2 B hB
        rcases z with ⟨xs, rfl⟩ | ⟨xs, rfl⟩
        · trivial
        · exact z2
      · exact P.cl m hm u u' e1 (by rw [List.getElem?_set_ne hnm] at e3; exact e3) B hB
    · have hm : n ≠ m := fun q => by
        subst q
        have := (P0.lk n u e1).1
        rw [e] at this
        cases this
        rcases z with ⟨xs, z⟩ | ⟨xs, z⟩ <;> cases z
      obtain ⟨q1, q2⟩ := P.lk m u e1
      exact ⟨by rw [List.getElem?_set_ne hm]; exact q1, q2⟩
theorem lc2_core {own : List (Str × Nat)} {g g1 : Z.Tg} {q : Q} (hv : own.map (·.2) = vs) (hi : ∀ R, WR X.K er W q.L fr σ S μ H F (fi q fr S) (KI X.K R) → semI X tg it σ H R) (hg : ∀ s H C cl fp, SemG (bx X scope s H C cl fp) tg g) (hgi : ∀ i ∈ g.ix, i ∈ vs)
    (ht : ∀ s H C cl fp, SemTs (bx X scope s H C cl fp) gi k ifs ft) (hi1 : ∀ s H C cl fp, SemI (bx X scope s H C cl fp) gi k tg1 it1 fi1) (hg1 : ∀ s H C cl fp, SemG (bx X scope s H C cl fp) tg1 g1) (hgi1 : ∀ i ∈ g1.ix, i ∈ vs1)
    (ht1 : ∀ s H C cl fp, SemTs (bx X scope s H C cl fp) gi k ifs1 ft1) (he : ∀ s H C cl fp, SemE (bx X scope s H C cl fp) gi k elt fe) (lk : Lnk X gi k er q) (tk : Takes X W) (A : Ab X.K fr S μ σ H F) {Q : VK} (w : WR X.K er W q.L fr σ S μ H F (Z.lc2 vs g fi ft vs1 g1 fi1 ft1 fe q fr S) (KE X.K H Q)) :
    tLc2 (semI X tg it) (blkG X scope tg) (blkT X scope ifs) (blkI X scope tg1 it1) (blkG X scope tg1) (blkT X scope ifs1) (blkE X scope elt) (own.map (·.2)) vs1 σ H Q := by
  subst hv
  refine hi _ (w.bnd .refl fun p S1 μ1 H1 F1 A1 P1 w1 lo J iok Dl hD => ?_)
  split at w1
  case isFalse => exact w1.elim
  rename_i hlen
  generalize own.map (·.2) = vs at hgi w1 ⊢
  have A2 := A1.lck lo
  have P0 : Stp q.L (lckS S1 p.2) μ1 H1 F1 (lckS S1 p.2) μ1 (upd H1 Dl (.lst [])) F1 := stp_laid hD
  refine ⟨fun i m H' => m = p.1.length - i ∧ i ≤ p.1.length ∧ ∃ S' μ' F' ds bs, Ab X.K fr S' μ' σ H' F' ∧ Stp q.L (lckS S1 p.2) μ1 H1 F1 S' μ' H' F' ∧ Acc X.K Dl ds H1 S' μ' H' F' bs ∧ ds.length ≤ i * 4000 ∧
      WR X.K er W q.L fr σ S μ H F ((unlR p.2 ((lcL2 vs1 g ft fi1 g1 ft1 fe q (wipeF fr vs) (p.1.drop i) S').bnd fun es S3 => .ok (ds ++ es) S3)).bnd fun ds S2 => .ok (Z.mkL ds) S2) (KE X.K H Q),
    ⟨_, rfl, Nat.zero_le _, lckS S1 p.2, μ1, F1, [], [], A2.hsof P0 (A2.hs.laid hD), P0, .start A2.hs hD, Nat.le_refl _, ?_⟩, ?_⟩
  · rw [List.drop_zero, bnd_nil]
    exact w1
  rintro i m H' ⟨rfl, hle, S', μ', F', ds, bs, A', P', ac, hdl, w'⟩
  obtain ⟨j1, j2⟩ := iok fr S' μ' σ H' F' A' (P'.w A2.hs) i
  by_cases hlt : i < p.1.length
  · refine .inr ?_
    have e : p.1[i]? = some (p.1[i]) := List.getElem?_eq_getElem hlt
    obtain ⟨gg1, gg2⟩ := j2 _ e
    have step : ∀ S2 μ2 H2 F2 ds bs, Ab X.K fr S2 μ2 σ H2 F2 → Stp q.L (lckS S1 p.2) μ1 H1 F1 S2 μ2 H2 F2 → Acc X.K Dl ds H1 S2 μ2 H2 F2 bs → ds.length ≤ (i + 1) * 4000 →
        WR X.K er W q.L fr σ S μ H F ((unlR p.2 ((lcL2 vs1 g ft fi1 g1 ft1 fe q (wipeF fr vs) (p.1.drop (i + 1)) S2).bnd fun es S3 => .ok (ds ++ es) S3)).bnd fun ds S2 => .ok (Z.mkL ds) S2) (KE X.K H Q) →
        ∃ S2 μ2 F2 ds bs, Ab X.K fr S2 μ2 σ H2 F2 ∧ Stp q.L (lckS S1 p.2) μ1 H1 F1 S2 μ2 H2 F2 ∧ Acc X.K Dl ds H1 S2 μ2 H2 F2 bs ∧ ds.length ≤ (i + 1) * 4000 ∧
      WR X.K er W q.L fr σ S μ H F ((unlR p.2 ((lcL2 vs1 g ft fi1 g1 ft1 fe q (wipeF fr vs) (p.1.drop (i + 1)) S2).bnd fun es S3 => .ok (ds ++ es) S3)).bnd fun ds S2 => .ok (Z.mkL ds) S2) (KE X.K H Q) := fun S2 μ2 H2 F2 ds bs a b c d e => ⟨S2, μ2, F2, ds, bs, a, b, c, d, e⟩
    refine ⟨gg1, fun H2 => ∃ S2 μ2 F2 ds bs, Ab X.K fr S2 μ2 σ H2 F2 ∧ Stp q.L (lckS S1 p.2) μ1 H1 F1 S2 μ2 H2 F2 ∧ Acc X.K Dl ds H1 S2 μ2 H2 F2 bs ∧ ds.length ≤ (i + 1) * 4000 ∧
      WR X.K er W q.L fr σ S μ H F ((unlR p.2 ((lcL2 vs1 g ft fi1 g1 ft1 fe q (wipeF fr vs) (p.1.drop (i + 1)) S2).bnd fun es S3 => .ok (ds ++ es) S3)).bnd fun ds S2 => .ok (Z.mkL ds) S2) (KE X.K H Q),
      fun H2 ⟨S2, μ2, F2, ds, bs, z⟩ => ⟨p.1.length - (i + 1), by omega, rfl, hlt, S2, μ2, F2, ds, bs, z⟩, fun x H2 hy => ?_⟩
    obtain ⟨F2, A3, P2, rc⟩ := gg2 x H2 hy
    rw [List.drop_eq_getElem_cons hlt] at w'
    unfold lcL2 at w'
    cases ea : asg S' g p.1[i] (wipeF fr vs) with
    | none =>
      rw [ea] at w'
      exact w'.elim
    | some fr1 =>
      rw [ea] at w'
      dsimp only at w'
      intro s0 Hb C cl fp
      refine hg s0 Hb C cl fp (A3.wipe vs) rc ea _ fun σ3 A4 kp => ⟨wipe_kp hgi kp, fun s0 Hb C cl fp => ?_⟩
      refine ht s0 Hb C cl fp er q (lk.blk s0 Hb C cl fp) noW takes_no fr1 S' μ' σ3 H2 F2 A4 _ ?_
      cases et : ft q fr1 S' with
      | no =>
        rw [et] at w'
        exact w'.elim
      | ex c y S3 =>
        rw [et] at w'
        exact w'.elim
      | ok b S3 =>
        rw [et] at w'
        intro μ3 H3 F3 A5 P3
        unfold KT
        cases b with
        | false =>
          dsimp only at w' ⊢
          rw [if_neg Bool.false_ne_true]
          have P23 := (P2 q.L).trans P3
          exact step S3 μ3 H3 F3 ds bs (A'.hsof P23 A5.hs) (P'.trans P23) (ac.keep P23) (by omega) w'
        | true =>
          dsimp only at w' ⊢
          rw [if_pos rfl]
          intro s0 Hb C cl fp
          refine hi1 s0 Hb C cl fp er q (lk.blk s0 Hb C cl fp) noW takes_no fr1 S3 μ3 σ3 H3 F3 A5 _ ?_
          cases ei : fi1 q fr1 S3 with
          | no =>
            rw [ei] at w'
            exact w'.elim
          | ex c y S4 =>
            rw [ei] at w'
            exact w'.elim
          | ok r S4 =>
            rw [ei] at w'
            dsimp only at w'
            intro μ4 H4 F4 A6 P4 lo1 J1 iok1
            split at w'
            case isFalse => exact w'.elim
            rename_i hlen1
            have P24 := ((P2 q.L).trans P3).trans P4
            have A7 := A6.lck lo1
            have ac4 := ac.keep P24
            have hM : ∀ n, n < (lckS S4 r.2).length → μ4 n ≠ Dl := fun n hn => (ac4.o.fr Dl List.mem_cons_self).2.2 n (by rw [lck_len] at hn; exact hn)
            have w0 : WR X.K er W q.L fr σ S μ H F (inR p.2 r.2 ds (lcL2 vs1 g ft fi1 g1 ft1 fe q (wipeF fr vs) (p.1.drop (i + 1))) (lcL g1 ft1 fe q (wipeF fr1 vs1) r.1 (lckS S4 r.2))) (KE X.K H Q) := w'
            refine ⟨fun j m H' => m = r.1.length - j ∧ j ≤ r.1.length ∧ ∃ S' μ' F' ds bs, Ab X.K fr1 S' μ' σ3 H' F' ∧ Stp q.L (lckS S1 p.2) μ1 H1 F1 S' μ' H' F' ∧ StpW (lckS S4 r.2) μ4 H4 F4 S' μ' H' F' ∧ Acc X.K Dl ds H1 S' μ' H' F' bs ∧ ds.length ≤ i * 4000 + j ∧
                WR X.K er W q.L fr σ S μ H F (inR p.2 r.2 ds (lcL2 vs1 g ft fi1 g1 ft1 fe q (wipeF fr vs) (p.1.drop (i + 1))) (lcL g1 ft1 fe q (wipeF fr1 vs1) (r.1.drop j) S')) (KE X.K H Q),
              ⟨_, rfl, Nat.zero_le _, lckS S4 r.2, μ4, F4, ds, bs, A7, (P'.trans P24).trans (stp_lck lo1), .refl, ?_, by omega, by rw [List.drop_zero]; exact w0⟩, ?_⟩
            · obtain ⟨acc, h1, h2⟩ := ac4.r
              exact ⟨⟨acc, h1, by rw [lck_len]; exact h2⟩, ac4.o.nd, fun a ha => ⟨(ac4.o.fr a ha).1, (ac4.o.fr a ha).2.1, fun n hn => (ac4.o.fr a ha).2.2 n (by rw [lck_len] at hn; exact hn)⟩⟩
            rintro j m H5 ⟨rfl, hle1, S5, μ5, F5, ds, bs, A8, P8, P8w, ac, hdl, w'⟩
            obtain ⟨j3, j4⟩ := iok1 fr1 S5 μ5 σ3 H5 F5 A8 P8w j
            by_cases hlt1 : j < r.1.length
            · refine .inr ?_
              have e : r.1[j]? = some (r.1[j]) := List.getElem?_eq_getElem hlt1
              obtain ⟨g3, g4⟩ := j4 _ e
              refine ⟨g3, fun H6 => ∃ S' μ' F' ds bs, Ab X.K fr1 S' μ' σ3 H6 F' ∧ Stp q.L (lckS S1 p.2) μ1 H1 F1 S' μ' H6 F' ∧ StpW (lckS S4 r.2) μ4 H4 F4 S' μ' H6 F' ∧ Acc X.K Dl ds H1 S' μ' H6 F' bs ∧ ds.length ≤ i * 4000 + (j + 1) ∧
                  WR X.K er W q.L fr σ S μ H F (inR p.2 r.2 ds (lcL2 vs1 g ft fi1 g1 ft1 fe q (wipeF fr vs) (p.1.drop (i + 1))) (lcL g1 ft1 fe q (wipeF fr1 vs1) (r.1.drop (j + 1)) S')) (KE X.K H Q),
                fun H6 ⟨S', μ', F', ds, bs, z⟩ => ⟨r.1.length - (j + 1), by omega, rfl, hlt1, S', μ', F', ds, bs, z⟩, fun x H6 hy => ?_⟩
              obtain ⟨F6, A9, P9, rc⟩ := g4 x H6 hy
              rw [List.drop_eq_getElem_cons hlt1] at w'
              unfold lcL at w'
              cases ea : asg S5 g1 r.1[j] (wipeF fr1 vs1) with
              | none =>
                rw [ea] at w'
                exact w'.elim
              | some fr2 =>
                rw [ea] at w'
                dsimp only at w'
                intro s0 Hb C cl fp
                refine hg1 s0 Hb C cl fp (A9.wipe vs1) rc ea _ fun σ4 A10 kp1 => ⟨wipe_kp hgi1 kp1, fun s0 Hb C cl fp => ?_⟩
                refine ht1 s0 Hb C cl fp er q (lk.blk s0 Hb C cl fp) noW takes_no fr2 S5 μ5 σ4 H6 F6 A10 _ ?_
                cases et : ft1 q fr2 S5 with
                | no =>
                  rw [et] at w'
                  exact w'.elim
                | ex c y S3 =>
                  rw [et] at w'
                  exact w'.elim
                | ok b S7 =>
                  rw [et] at w'
                  intro μ7 H7 F7 A11 P11
                  unfold KT
                  cases b with
                  | false =>
                    dsimp only at w' ⊢
                    rw [if_neg Bool.false_ne_true]
                    have P23 := (P9 q.L).trans P11
                    exact ⟨S7, μ7, F7, ds, bs, A8.hsof P23 A11.hs, P8.trans P23, P8w.step A8.hs P23, ac.keep P23, by omega, w'⟩
                  | true =>
                    dsimp only at w' ⊢
                    rw [if_pos rfl]
                    intro s0 Hb C cl fp
                    refine he s0 Hb C cl fp er q (lk.blk s0 Hb C cl fp) noW takes_no fr2 S7 μ7 σ4 H7 F7 A11 _ ?_
                    cases ee : fe q fr2 S7 with
                    | no =>
                      rw [ee] at w'
                      exact w'.elim
                    | ex c y S3 =>
                      rw [ee] at w'
                      exact w'.elim
                    | ok d S9 =>
                      rw [ee] at w'
                      dsimp only at w'
                      intro μ9 H9 F9 A12 P12 v as rr o
                      have P23 := (P9 q.L).trans P11
                      have P24' := P23.trans P12
                      have ac3 := ac.keep P23
                      obtain ⟨acc3, h3, r3⟩ := ac3.r
                      have ac5 := ac3.keep P12
                      have domA : ∀ a, H7 a = none → H1 a = none := fun a z => P8.dom a (P23.dom a z)
                      obtain ⟨acc, h4, hal, ac6⟩ := ac5.push rr o domA (fun y hy => by
                        rcases List.mem_cons.mp hy with rfl | hy
                        · exact ⟨_, h3⟩
                        · exact r3.there y hy)
                      have hF := (ac5.o.fr Dl List.mem_cons_self).2.1
                      have hC := (ac5.o.fr Dl List.mem_cons_self).2.2
                      refine ⟨acc, h4, ?_, S9, μ9, F9, ds ++ [d], bs ++ as, ⟨A12.hs.mine hF hC, A8.len, fun jj dd q => let ⟨u, e1, r1⟩ := A8.sl jj dd q; ⟨u, e1, r1.mono P24'.le P24'.mu P24'.f⟩⟩, (P8.trans P24').mine hD, (P8w.step A8.hs P24').mine hM hF, ac6, by rw [List.length_append, List.length_cons, List.length_nil]; omega, ?_⟩
                      · rw [hal]
                        refine Nat.lt_of_lt_of_le (m := 4000 * 4000) ?_ (by decide)
                        have : i < 4000 := Nat.lt_of_lt_of_le hlt hlen
                        have : j < 4000 := Nat.lt_of_lt_of_le hlt1 hlen1
                        omega
                      · rw [inR_push] at w'
                        exact w'
            · refine .inl ⟨j3 (by omega), ?_⟩
              rw [List.drop_eq_nil_of_le (show r.1.length ≤ j by omega)] at w'
              have w2 : WR X.K er W q.L fr σ S μ H F (inR p.2 r.2 ds (lcL2 vs1 g ft fi1 g1 ft1 fe q (wipeF fr vs) (p.1.drop (i + 1))) (.ok [] S5)) (KE X.K H Q) := w'
              rw [inR_end] at w2
              obtain ⟨A13, P14⟩ := unl_ok2 lo1 (P'.trans P24) P8w P8 A8
              obtain ⟨acc, h1, h2⟩ := ac.r
              have ac2 : Acc X.K Dl ds H1 (unlS S5 r.2) μ5 H5 F5 bs := ⟨⟨acc, h1, by rw [unl_len]; exact h2⟩, ac.o.nd, fun a ha => ⟨(ac.o.fr a ha).1, (ac.o.fr a ha).2.1, fun n hn => (ac.o.fr a ha).2.2 n (by rw [unl_len] at hn; exact hn)⟩⟩
              exact step (unlS S5 r.2) μ5 H5 F5 ds bs (A2.hsof P14 A13.hs) P14 ac2 (by have : j ≤ 4000 := Nat.le_trans hle1 hlen1; omega) w2
  · refine .inl ⟨j1 (by omega), ?_⟩
    rw [List.drop_eq_nil_of_le (by omega)] at w'
    obtain ⟨A7, P7⟩ := unl_ok lo P' A'
    have w2 : WR X.K er W q.L fr σ S μ H F (.ok (Z.mkL (ds ++ [])) (unlS S' p.2)) (KE X.K H Q) := w'
    rw [List.append_nil] at w2
    obtain ⟨acc, h1, h2⟩ := ac.r
    have ac2 : Acc X.K Dl ds H (unlS S' p.2) μ' H' F' bs := ⟨⟨acc, h1, by rw [unl_len]; exact h2⟩, ac.o.nd, fun a ha => ⟨P1.dom _ (ac.o.fr a ha).1, (ac.o.fr a ha).2.1, fun n hn => (ac.o.fr a ha).2.2 n (by rw [unl_len] at hn; exact hn)⟩⟩
    exact ac2.done A7 (P1.trans P7) w2
theorem sem_lc2 {own : List (Str × Nat)} {g g1 : Z.Tg} (hc : X.calm = true) (hN : X.N.Nodup) (ok : BlkOk X.N X.env.scope scope own) (hv : own.map (·.2) = vs) (hv1 : ∀ i ∈ vs1, i ∈ vs) (hi : SemI X gi k tg it fi) (hg : ∀ s H C cl fp, SemG (bx X scope s H C cl fp) tg g) (hgi : ∀ i ∈ g.ix, i ∈ vs)
    (ht : ∀ s H C cl fp, SemTs (bx X scope s H C cl fp) gi k ifs ft) (hi1 : ∀ s H C cl fp, SemI (bx X scope s H C cl fp) gi k tg1 it1 fi1) (hg1 : ∀ s H C cl fp, SemG (bx X scope s H C cl fp) tg1 g1) (hgi1 : ∀ i ∈ g1.ix, i ∈ vs1)
    (ht1 : ∀ s H C cl fp, SemTs (bx X scope s H C cl fp) gi k ifs1 ft1) (he : ∀ s H C cl fp, SemE (bx X scope s H C cl fp) gi k elt fe) (hfs : ∀ x, foldedSetIterable it X.env x = pure x) (hfs1 : ∀ env x, foldedSetIterable it1 env x = pure x) :
    SemE X gi k (.ListComp elt [⟨tg, it, ifs, 0⟩, ⟨tg1, it1, ifs1, 0⟩] scope pos) (Z.lc2 vs g fi ft vs1 g1 fi1 ft1 fe) := by
  intro er q lk W tk fr S μ σ H F A Q w
  exact ⟨_, pe_lc2 hc hN pi_sem ok (by rw [hv]; exact hv1) pg_blk pt_blk pi_blk pg_blk pt_blk pe_blk hfs hfs1, lc2_core hv (fun R w => hi er q lk W tk fr S μ σ H F A R w) hg hgi ht hi1 hg1 hgi1 ht1 he lk tk A w⟩
theorem sems_setLc2 {own : List (Str × Nat)} {g g1 : Z.Tg} {i : Nat} {x : Str} {m : Bool} {spos : Pos} (hc : X.calm = true) (hN : X.N.Nodup) (hy : X.N[i]? = some x) (hyl : X.env.scope.names.lookup x = some .local)
    (hsw : swapsWith (.ListComp elt [⟨tg, it, ifs, 0⟩, ⟨tg1, it1, ifs1, 0⟩] scope pos) (some (.Name x pp)) spos.line X.env = pure true) (ok : BlkOk X.N X.env.scope scope own) (hv : own.map (·.2) = vs) (hv1 : ∀ i ∈ vs1, i ∈ vs) (hi : SemI X gi k tg it fi) (hg : ∀ s H C cl fp, SemG (bx X scope s H C cl fp) tg g) (hgi : ∀ i ∈ g.ix, i ∈ vs)
    (ht : ∀ s H C cl fp, SemTs (bx X scope s H C cl fp) gi k ifs ft) (hi1 : ∀ s H C cl fp, SemI (bx X scope s H C cl fp) gi k tg1 it1 fi1) (hg1 : ∀ s H C cl fp, SemG (bx X scope s H C cl fp) tg1 g1) (hgi1 : ∀ i ∈ g1.ix, i ∈ vs1)
    (ht1 : ∀ s H C cl fp, SemTs (bx X scope s H C cl fp) gi k ifs1 ft1) (he : ∀ s H C cl fp, SemE (bx X scope s H C cl fp) gi k elt fe) (hfs : ∀ x, foldedSetIterable it X.env x = pure x) (hfs1 : ∀ env x, foldedSetIterable it1 env x = pure x) :
    SemS X gi k (.Assign [.Name x pp] (.ListComp elt [⟨tg, it, ifs, 0⟩, ⟨tg1, it1, ifs1, 0⟩] scope pos) spos) (Z.set i m (Z.lc2 vs g fi ft vs1 g1 fi1 ft1 fe)) := by
  intro er q lk W tk fr S μ σ H F A D w
  refine ⟨_, ps_setLc2 hc hN hy hyl hsw pi_sem ok (by rw [hv]; exact hv1) pg_blk pt_blk pi_blk pg_blk pt_blk pe_blk hfs hfs1, ?_⟩
  have w0 : WS X.K er W q.L S μ H F ((Z.lc2 vs g fi ft vs1 g1 fi1 ft1 fe q fr S).bnd fun d S1 => match Z.stD m d S1 with
    | some (e, S2) => .ok (.nx, fr.set i (some e)) S2
    | none => .no) D := w
  refine lc2_core (Q := fun v H1 => gName i v σ H1 D.nx) hv (fun R w => hi er q lk W tk fr S μ σ H F A R w) hg hgi ht hi1 hg1 hgi1 ht1 he lk tk A (w0.bnd .refl fr σ fun d S1 μ1 H1 F1 A1 P1 w1 v as r1 o1 => ?_)
  split at w1
  · rename_i d' S2 e1
    obtain ⟨μ2, F2, A2, P2, r2⟩ := std_ok A1 P1 r1 o1 e1
    exact w1 _ μ2 H1 F2 (A2.set r2) P2
  · exact w1.elim
end
end Mi

set_option Elab.async false
set_option linter.all false
set_option maxRecDepth 100000
set_option maxHeartbeats 4000000
/-! Ld1: a dict that a slot names, locked while it is walked -/
namespace Mi
open PySem PySem.Spec PyProof.Rows L2
inductive Dk where
  | keys | items | vals
def dkD : Dk → List (Key × T) → List D
  | .keys, kvs => kvs.map fun p => .t (keyT p.1)
  | .items, kvs => kvs.map fun p => .t (.tup [keyT p.1, p.2])
  | .vals, kvs => kvs.map fun p => .t p.2
def lkdS (S : Store) : D → Option (List (Key × T))
  | .t (.dic kvs) => some kvs
  | .cell n => match S[n]? with
    | some (.lck (.dic kvs)) => some kvs
    | _ => none
  | _ => none
def Z.itD (kd : Dk) (i : Nat) : XI := fun q fr S => match fr[i]? with
  | some (some x) => match lkdS S x with
    | some kvs => .ok (dkD kd kvs, none) S
    | none => .no
  | _ => .no
def lkOf (fr : Frame) (S : Store) (i : Nat) : Option (Store × Option Nat) := match fr[i]? with
  | some (some (.t (.dic _))) => some (S, none)
  | some (some (.cell n)) => match S[n]? with
    | some (.dic kvs) => some (S.set n (.lck (.dic kvs)), some n)
    | _ => none
  | _ => none
def noEx {α : Type} : R α → R α
  | .ok a S => .ok a S
  | _ => .no
def Z.lkE (i : Nat) (f : XE) : XE := fun q fr S => match lkOf fr S i with
  | some p => noEx (unlR p.2 (f q fr p.1))
  | none => .no
def Z.lkB (i : Nat) (f : XB) : XB := fun q fr S => match lkOf fr S i with
  | some p => noEx (unlR p.2 (f q fr p.1))
  | none => .no
section
variable {X : Cx} {gi : GI} {k : Nat} {N : List Str} {sc scope : Scope} {pos p1 p p2 pp apos cpos : Pos} {e a b c i o tg it elt tg1 it1 : Expr} {es ts ifs ifs1 : List Expr} {st : List Stmt} {s : Stmt} {f g h fe : XE} {fb : XB} {ft ft1 : XT} {fi fi1 : XI}
variable {er : ER} {W : WX} {L : Nat} {fr fr1 fr2 : Frame} {σ σ1 σ2 : L2.St} {S S1 S2 S0 : Store} {μ μ1 μ2 μ0 : Nat → Addr} {H H1 H2 H0 F F1 F2 F0 : Hp} {as bs : List Addr} {K : PySem.W.Frag} {vs vs1 : List Nat} {D : Ends}
/-- the dict that slot i names stands locked -/
def Lkd (K : PySem.W.Frag) (i : Nat) (fr : Frame) (S : Store) (μ : Nat → Addr) (σ : L2.St) (H F : Hp) : Prop := ∃ (d : Addr) (o : Obj) (ws : List (Key × V)), σ[i]? = some (some (.ref d)) ∧ H d = some (.frz o (.dK ws)) ∧
  ((∃ kvs, fr[i]? = some (some (.t (.dic kvs))) ∧ F d = some (.dK ws) ∧ RepK K (At F) ws kvs) ∨ ∃ n kvs, fr[i]? = some (some (.cell n)) ∧ μ n = d ∧ S[n]? = some (.lck (.dic kvs)))
/-- what the walk of a locked dict needs -/
def StD (K : PySem.W.Frag) (S : Store) (μ : Nat → Addr) (H F : Hp) (d : Addr) (o : Obj) (ws : List (Key × V)) (kvs : List (Key × T)) : Prop := ∀ S' μ' H' F', Hs K S' μ' H' F' → StpW S μ H F S' μ' H' F' → H' d = some (.frz o (.dK ws)) ∧ RepK K (At F') ws kvs
theorem lkd_std {i : Nat} (A : Hs K S μ H F) (l : Lkd K i fr S μ σ H F) : ∃ d o ws kvs x, σ[i]? = some (some (.ref d)) ∧ H d = some (.frz o (.dK ws)) ∧ fr[i]? = some (some x) ∧ lkdS S x = some kvs ∧ StD K S μ H F d o ws kvs := by
  obtain ⟨d, o, ws, e1, e2, ⟨kvs, e3, e4, r⟩ | ⟨n, kvs, e3, rfl, e5⟩⟩ := l
  · exact ⟨d, o, ws, kvs, _, e1, e2, e3, rfl, fun S' μ' H' F' A' P => ⟨P.kf d _ e2 (by rw [e4]; intro z; cases z), r.mono (at_mono P.f)⟩⟩
  · refine ⟨μ n, o, ws, kvs, _, e1, e2, e3, ?_, fun S' μ' H' F' A' P => ⟨(P.lk n _ e5).2 _ e2, ?_⟩⟩
    · show (match S[n]? with
        | some (.lck (.dic kvs)) => some kvs
        | _ => none) = some kvs
      rw [e5]
    · obtain ⟨ho, h1, h2⟩ := A.ce n _ e5
      rw [e2] at h1
      cases h1
      have h2' : RepK K (At F) ws kvs := h2
      exact h2'.mono (at_mono P.f)
theorem key_rep {G : Lk} (k : Key) : Rep K G (kV k) (keyT k) := by
  cases k with
  | inl i => exact .int i
  | inr x => exact .str x
theorem itok_keys {d : Addr} {o : Obj} {ws : List (Key × V)} {kvs : List (Key × T)} (h : StD K S μ H F d o ws kvs) : ItOk K S μ H F (Itk d o ws) (dkD .keys kvs) := by
  intro fr' S' μ' σ' H' F' A P i
  obtain ⟨h1, h2⟩ := h S' μ' H' F' A.hs P
  have hl := h2.length
  unfold dkD
  refine ⟨fun hi => ⟨h1, by rw [List.length_map] at hi; omega⟩, fun dd hd => ?_⟩
  rw [List.getElem?_map] at hd
  cases q : kvs[i]? with
  | none =>
    rw [q] at hd
    cases hd
  | some y =>
    obtain ⟨k, y⟩ := y
    rw [q] at hd
    cases hd
    obtain ⟨v, e, r⟩ := h2.get' q
    refine ⟨⟨h1, (List.getElem?_eq_some_iff.mp e).1⟩, fun x H2 hy => ?_⟩
    obtain ⟨rfl, k2, v2, e2, rfl⟩ := hy
    rw [e] at e2
    cases e2
    exact ⟨F', A, fun _ => .refl, .t (key_rep k)⟩
theorem itok_vals {d : Addr} {o : Obj} {ws : List (Key × V)} {kvs : List (Key × T)} (h : StD K S μ H F d o ws kvs) : ItOk K S μ H F (Itd d o ws) (dkD .vals kvs) := by
  intro fr' S' μ' σ' H' F' A P i
  obtain ⟨h1, h2⟩ := h S' μ' H' F' A.hs P
  have hl := h2.length
  unfold dkD
  refine ⟨fun hi => ⟨h1, by rw [List.length_map] at hi; omega⟩, fun dd hd => ?_⟩
  rw [List.getElem?_map] at hd
  cases q : kvs[i]? with
  | none =>
    rw [q] at hd
    cases hd
  | some y =>
    obtain ⟨k, y⟩ := y
    rw [q] at hd
    cases hd
    obtain ⟨v, e, r⟩ := h2.get' q
    refine ⟨⟨h1, (List.getElem?_eq_some_iff.mp e).1⟩, fun x H2 hy => ?_⟩
    obtain ⟨rfl, k2, e2⟩ := hy
    rw [e] at e2
    cases e2
    exact ⟨F', A, fun _ => .refl, .t r⟩
theorem itok_items {d : Addr} {o : Obj} {ws : List (Key × V)} {kvs : List (Key × T)} (h : StD K S μ H F d o ws kvs) : ItOk K S μ H F (Iti d o ws) (dkD .items kvs) := by
  intro fr' S' μ' σ' H' F' A P i
  obtain ⟨h1, h2⟩ := h S' μ' H' F' A.hs P
  have hl := h2.length
  unfold dkD
  refine ⟨fun hi => ⟨h1, by rw [List.length_map] at hi; omega⟩, fun dd hd => ?_⟩
  rw [List.getElem?_map] at hd
  cases q : kvs[i]? with
  | none =>
    rw [q] at hd
    cases hd
  | some y =>
    obtain ⟨k, y⟩ := y
    rw [q] at hd
    cases hd
    obtain ⟨v, e, r⟩ := h2.get' q
    refine ⟨⟨h1, (List.getElem?_eq_some_iff.mp e).1⟩, fun x H2 hy => ?_⟩
    obtain ⟨T, k2, v2, e2, rfl, hT, rfl⟩ := hy
    rw [e] at e2
    cases e2
    obtain ⟨A2, P2⟩ := A.side (o := .tup [kV k, v]) hT
    exact ⟨_, A2, P2, .t (.tup upd_same (.cons (key_rep k) (.cons (r.mono (at_mono (P2 0).f)) .nil)))⟩
/-- the expression that is walked -/
def DkE (X : Cx) (i : Nat) (kd : Dk) (tg it : Expr) : Prop := ∀ σ H R d o ws, σ[i]? = some (some (.ref d)) → H d = some (.frz o (.dK ws)) → R (match kd with
  | .keys => Itk d o ws
  | .items => Iti d o ws
  | .vals => Itd d o ws) H → semI X tg it σ H R
theorem dke_keys {i : Nat} {x : Str} (n : Nm X i x) : DkE X i .keys tg (.Name x pos) := fun σ H R d o ws e1 e2 r => ⟨_, pi_keys (pe_var n.n n.v n.d n.c), _, e1, d, o, rfl, .inl ⟨ws, e2, r⟩⟩
theorem dke_vals {i : Nat} {x : Str} (n : Nm X i x) (hbase : attributeBase (.Name x pos) "values" X.env (eval (.Name x pos) X.env) = eval (.Name x pos) X.env := by rfl) (hline : (apos.endLine == cpos.line) = true := by rfl) : DkE X i .vals tg (.Call (.Attribute (.Name x pos) "values" apos) [] [] cpos) := fun σ H R d o ws e1 e2 r => ⟨_, pi_values (pe_var n.n n.v n.d n.c) hbase hline, _, e1, d, o, ws, rfl, e2, r⟩
theorem dke_items {i : Nat} {x : Str} {elts : List Expr} {kk : Nat} {tpos : Pos} (n : Nm X i x) (hbase : attributeBase (.Name x pos) "items" X.env (eval (.Name x pos) X.env) = eval (.Name x pos) X.env := by rfl) (hline : (apos.endLine == cpos.line) = true := by rfl) : DkE X i .items (.Tuple elts kk tpos) (.Call (.Attribute (.Name x pos) "items" apos) [] [] cpos) := fun σ H R d o ws e1 e2 r => ⟨_, pi_items (pe_var n.n n.v n.d n.c) hbase hline, _, e1, d, o, ws, rfl, e2, r⟩
theorem semi_d {i : Nat} {kd : Dk} {q : Q} (he : DkE X i kd tg it) (A : Ab X.K fr S μ σ H F) (l : Lkd X.K i fr S μ σ H F) (R : It → Hp → Prop) (w : WR X.K er W q.L fr σ S μ H F (Z.itD kd i q fr S) (KI X.K R)) : semI X tg it σ H R := by
  obtain ⟨d, o, ws, kvs, x, e1, e2, e3, e4, sd⟩ := lkd_std A.hs l
  unfold Z.itD at w
  rw [e3] at w
  dsimp only at w
  rw [e4] at w
  have w2 := w μ H F A .refl trivial
  refine he σ H R d o ws e1 e2 ?_
  cases kd with
  | keys => exact w2 _ (itok_keys sd)
  | vals => exact w2 _ (itok_vals sd)
  | items => exact w2 _ (itok_items sd)
/-! ### locking -/
theorem Ab.lockF {d : Addr} {ws : List (Key × V)} {od : Obj} (A : Ab K fr S μ σ H F) (hF : F d = some (.dK ws)) : Ab K fr S μ σ (upd H d (.frz od (.dK ws))) F := by
  refine ⟨⟨fun a o e => ?_, fun n o e => ?_, A.hs.out, A.hs.inj, A.hs.tb⟩, A.len, A.sl⟩
  · by_cases h : a = d
    · subst h
      rw [hF] at e
      cases e
      exact .inr ⟨ws, rfl, od, upd_same⟩
    · exact now_keep (fun u z => by rw [upd_ne h]; exact z) (A.hs.sub a o e)
  · obtain ⟨ho, h1, h2⟩ := A.hs.ce n o e
    have hn := A.hs.out n (List.getElem?_eq_some_iff.mp e).1
    exact ⟨ho, by rw [upd_ne fun z => by rw [z, hF] at hn; cases hn]; exact h1, h2⟩
theorem Ab.unlF {d : Addr} {ws : List (Key × V)} (A : Ab K fr S μ σ H F) (hF : F d = some (.dK ws)) : Ab K fr S μ σ (upd H d (.dK ws)) F := by
  refine ⟨⟨fun a o e => ?_, fun n o e => ?_, A.hs.out, A.hs.inj, A.hs.tb⟩, A.len, A.sl⟩
  · by_cases h : a = d
    · subst h
      rw [hF] at e
      cases e
      exact .inl upd_same
    · exact now_keep (fun u z => by rw [upd_ne h]; exact z) (A.hs.sub a o e)
  · obtain ⟨ho, h1, h2⟩ := A.hs.ce n o e
    have hn := A.hs.out n (List.getElem?_eq_some_iff.mp e).1
    exact ⟨ho, by rw [upd_ne fun z => by rw [z, hF] at hn; cases hn]; exact h1, h2⟩
theorem upd_none {d a : Addr} {u : HO} : upd H d u a = none ↔ a ≠ d ∧ H a = none := by
  constructor
  · intro h
    by_cases z : a = d
    · rw [z, upd_same] at h
      cases h
    · rw [upd_ne z] at h
      exact ⟨z, h⟩
  · rintro ⟨h1, h2⟩
    rw [upd_ne h1]
    exact h2
theorem Stp.unlF {d : Addr} {u w : HO} (A : Hs K S μ H F) (hF : F d ≠ none) (hH : H d = some u) (P : Stp L S μ (upd H d w) F S2 μ2 H2 F2) : Stp L S μ H F S2 μ2 (upd H2 d u) F2 where
  f := P.f
  le := P.le
  mu := P.mu
  keep := fun b o e n => by
    by_cases h : b = d
    · subst h
      rw [hH] at e
      cases e
      exact upd_same
    · rw [upd_ne h]
      exact P.keep b o (by rw [upd_ne h]; exact e) n
  nF := fun a o e n => (upd_none.mp (P.nF a o e n)).2
  nC := fun n h1 h2 => (upd_none.mp (P.nC n h1 h2)).2
  dom := fun a e => (upd_none.mp (P.dom a (upd_none.mp e).2)).2
  cl := P.cl
  lk := fun n o e => by
    obtain ⟨q1, q2⟩ := P.lk n o e
    have hn : μ n ≠ d := fun z => hF (by rw [← z]; exact A.out n (List.getElem?_eq_some_iff.mp e).1)
    exact ⟨q1, fun u z => by
      rw [upd_ne hn]
      exact q2 u (by rw [upd_ne hn]; exact z)⟩
/-- what a lock gives: the state within, and the way back -/
theorem lock_go {i : Nat} {p : Store × Option Nat} (A : Ab K fr S μ σ H F) (e : lkOf fr S i = some p) : (Lkd K i fr S μ σ H F ∧ p = (S, none)) ∨
    ∃ d u, H d = some u ∧ Mut (some u) ∧ ∀ od, Ab K fr p.1 μ σ (upd H d (.frz od u)) F ∧ Lkd K i fr p.1 μ σ (upd H d (.frz od u)) F ∧ ∀ {fr2 : Frame} {σ2 : L2.St} {S2 : Store} {μ2 : Nat → Addr} {H2 F2 : Hp} {L : Nat}, Ab K fr2 S2 μ2 σ2 H2 F2 → Stp L p.1 μ (upd H d (.frz od u)) F S2 μ2 H2 F2 →
      H2 d = some (.frz od u) ∧ Ab K fr2 (unlS S2 p.2) μ2 σ2 (upd H2 d u) F2 ∧ Stp L S μ H F (unlS S2 p.2) μ2 (upd H2 d u) F2 ∧ ∀ {v : V} {dd : Mi.D} {as : List Addr}, RepN K S2.length μ2 F2 H2 v dd as → Own as (upd H d (.frz od u)) F2 μ2 S2 → RepN K (unlS S2 p.2).length μ2 F2 (upd H2 d u) v dd as ∧ Own as H F2 μ2 (unlS S2 p.2) := by
  unfold lkOf at e
  split at e
  · rename_i kvs e1
    cases e
    obtain ⟨v, e2, r⟩ := A.sl i _ e1
    cases r with
    | t r =>
      obtain ⟨d, ws, rfl, h1, h2⟩ := rep_dic r
      have h1 : F d = some (.dK ws) := h1
      rcases A.hs.sub _ _ h1 with z | ⟨kv2, q, ob, z⟩
      · refine .inr ⟨d, _, z, trivial, fun od => ⟨A.lockF h1, ⟨d, od, ws, e2, upd_same, .inl ⟨kvs, e1, h1, h2⟩⟩, fun {fr2 σ2 S2 μ2 H2 F2 L} A2 P => ?_⟩⟩
        have hF2 := P.f _ _ h1
        refine ⟨?_, A2.unlF hF2, P.unlF A.hs (by rw [h1]; intro z; cases z) z, fun {v dd as} r o => ⟨r.upd fun hd => ?_, ⟨o.nd, fun a ha => ?_⟩⟩⟩
        · exact P.keep d _ upd_same fun n hn q => by
            have := A.hs.out n hn
            rw [q, h1] at this
            cases this
        · have := (o.fr _ hd).2.1
          rw [hF2] at this
          cases this
        · obtain ⟨z1, z2, z3⟩ := o.fr a ha
          exact ⟨(upd_none.mp z1).2, z2, z3⟩
      · cases q
        exact .inl ⟨⟨d, ob, ws, e2, z, .inl ⟨kvs, e1, h1, h2⟩⟩, rfl⟩
  · rename_i n e1
    split at e
    · rename_i kvs e3
      cases e
      obtain ⟨v, e2, r⟩ := A.sl i _ e1
      cases r with
      | cell hn =>
        obtain ⟨ho, h1, h2⟩ := A.hs.ce n _ e3
        cases ho <;> first | exact h2.elim | skip
        rename_i ws
        refine .inr ⟨μ n, _, h1, trivial, fun od => ⟨A.wr e3 (show Con K S.length μ F (.lck (.dic kvs)) (.frz od (.dK ws)) from h2), ⟨μ n, od, ws, e2, upd_same, .inr ⟨n, kvs, e1, rfl, List.getElem?_set_self hn⟩⟩, fun {fr2 σ2 S2 μ2 H2 F2 L} A2 P => ?_⟩⟩
        have hs : (S.set n (.lck (.dic kvs)))[n]? = some (.lck (.dic kvs)) := List.getElem?_set_self hn
        obtain ⟨q1, q2⟩ := P.lk n _ hs
        have q2 := q2 _ upd_same
        have hmu : μ2 n = μ n := P.mu n (by rw [List.length_set]; exact hn)
        obtain ⟨ho2, g1, g2⟩ := A2.hs.ce n _ q1
        rw [hmu, q2] at g1
        cases g1
        have g2 : RepK K (At F2) ws kvs := g2
        have eu : unlS S2 (some n) = S2.set n (.dic kvs) := by
          unfold unlS
          simp only
          rw [q1]
        have hout : F2 (μ n) = none := by
          rw [← hmu]
          exact A2.hs.out n (List.getElem?_eq_some_iff.mp q1).1
        dsimp only
        rw [eu]
        refine ⟨q2, ?_, ?_, fun {v dd as} r o => ?_⟩
        · have := A2.wr q1 (show Con K S2.length μ2 F2 (.dic kvs) (.dK ws) from g2)
          rw [hmu] at this
          exact this
        · refine ⟨P.f, ?_, fun m hm => P.mu m (by rw [List.length_set]; exact hm), fun b o e nb => ?_, fun a o e n => (upd_none.mp (P.nF a o e n)).2, fun m h3 h4 => (upd_none.mp (P.nC m (by rw [List.length_set]; exact h3) (by rw [List.length_set] at h4; exact h4))).2, fun a e => (upd_none.mp (P.dom a (upd_none.mp e).2)).2, fun m hm o o' f1 f2 B hB => ?_, fun m o f1 => ?_⟩
          · have := P.le
            rw [List.length_set] at this ⊢
            exact this
          · have hb : b ≠ μ n := fun z => nb n hn z.symm
            rw [upd_ne hb]
            exact P.keep b o (by rw [upd_ne hb]; exact e) fun m hm => nb m (by rw [List.length_set] at hm; exact hm)
          · by_cases hmn : n = m
            · subst hmn
              rw [List.getElem?_set_self (List.getElem?_eq_some_iff.mp q1).1] at f2
              cases f2
              trivial
            · rw [List.getElem?_set_ne hmn] at f2
              exact P.cl m hm o o' (by rw [List.getElem?_set_ne hmn]; exact f1) f2 B hB
          · have hmn : n ≠ m := fun z => by
              subst z
              rw [e3] at f1
              cases f1
            have hm := (List.getElem?_eq_some_iff.mp f1).1
            have hne : μ m ≠ μ n := fun z => hmn (A.hs.inj m n hm hn z).symm
            obtain ⟨r1, r2⟩ := P.lk m o (by rw [List.getElem?_set_ne hmn]; exact f1)
            refine ⟨by rw [List.getElem?_set_ne hmn]; exact r1, fun u z => ?_⟩
            rw [upd_ne hne]
            exact r2 u (by rw [upd_ne hne]; exact z)
        · rw [List.length_set]
          refine ⟨r.upd fun hd => ?_, ⟨o.nd, fun a ha => ?_⟩⟩
          · exact (o.fr _ hd).2.2 n (List.getElem?_eq_some_iff.mp q1).1 hmu
          · obtain ⟨z1, z2, z3⟩ := o.fr a ha
            exact ⟨(upd_none.mp z1).2, z2, fun m hm => z3 m (by rw [List.length_set] at hm; exact hm)⟩
    · cases e
  · cases e
/-! ### expressions and statements under a lock -/
def SemEK (i : Nat) (X : Cx) (gi : GI) (k : Nat) (e : Expr) (f : XE) : Prop := ∀ er q, Lnk X gi k er q → ∀ W, Takes X W → ∀ fr S μ σ H F, Ab X.K fr S μ σ H F → Lkd X.K i fr S μ σ H F → ∀ Q, WR X.K er W q.L fr σ S μ H F (f q fr S) (KE X.K H Q) → semE X e σ H Q
def SemSK (i : Nat) (X : Cx) (gi : GI) (k : Nat) (s : Stmt) (f : XB) : Prop := ∀ er q, Lnk X gi k er q → ∀ W, Takes X W → ∀ fr S μ σ H F, Ab X.K fr S μ σ H F → Lkd X.K i fr S μ σ H F → ∀ D : Ends, WS X.K er W q.L S μ H F (f q fr S) D → ∃ t, PS X s t ∧ t D σ H
def semSt (X : Cx) (s : Stmt) : TS := fun D σ H => ∃ t, PS X s t ∧ t D σ H
theorem ps_semSt : PS X s (semSt X s) := ⟨fun pins s' σ H D I ⟨t, h, q⟩ => h.run pins s' σ H D I q⟩
theorem unlS_none : unlS S none = S := rfl
theorem sem_lkE {i : Nat} (h : SemEK i X gi k e f) : SemE X gi k e (Z.lkE i f) := by
  intro er q lk W tk fr S μ σ H F A Q w
  unfold Z.lkE at w
  split at w
  case h_2 => exact w.elim
  rename_i p ep
  rcases lock_go A ep with ⟨l, rfl⟩ | ⟨d, u, hd, hm, go⟩
  · refine h er q lk noW takes_no fr S μ σ H F A l Q ?_
    dsimp only at w
    cases ef : f q fr S with
    | no => rw [ef] at w; exact w.elim
    | ex c x S1 => rw [ef] at w; exact w.elim
    | ok dd S1 => rw [ef] at w; exact w
  · refine ⟨_, pe_lock pe_sem, d, u, hd, hm, fun od => ?_⟩
    obtain ⟨A1, l1, back⟩ := go od
    refine h er q lk noW takes_no fr p.1 μ σ _ F A1 l1 _ ?_
    cases ef : f q fr p.1 with
    | no => rw [ef] at w; exact w.elim
    | ex c x S1 => rw [ef] at w; exact w.elim
    | ok dd S1 =>
      rw [ef] at w
      intro μ1 H1 F1 A2 P2 v as r o
      obtain ⟨b1, b2, b3, b4⟩ := back A2 P2
      obtain ⟨r2, o2⟩ := b4 r o
      exact ⟨b1, w μ1 _ F1 b2 b3 v as r2 o2⟩
theorem sems_lkB {i : Nat} (h : SemSK i X gi k s fb) : SemS X gi k s (Z.lkB i fb) := by
  intro er q lk W tk fr S μ σ H F A D w
  unfold Z.lkB at w
  split at w
  case h_2 => exact w.elim
  rename_i p ep
  rcases lock_go A ep with ⟨l, rfl⟩ | ⟨d, u, hd, hm, go⟩
  · refine h er q lk noW takes_no fr S μ σ H F A l D ?_
    dsimp only at w
    cases ef : fb q fr S with
    | no => rw [ef] at w; exact w.elim
    | ex c x S1 => rw [ef] at w; exact w.elim
    | ok dd S1 =>
      rw [ef] at w
      obtain ⟨fl, fr1⟩ := dd
      cases fl <;> exact w
  · refine ⟨_, ps_lock ps_semSt, d, u, hd, hm, fun od => ?_⟩
    obtain ⟨A1, l1, back⟩ := go od
    refine h er q lk noW takes_no fr p.1 μ σ _ F A1 l1 _ ?_
    cases ef : fb q fr p.1 with
    | no => rw [ef] at w; exact w.elim
    | ex c x S1 => rw [ef] at w; exact w.elim
    | ok dd S1 =>
      rw [ef] at w
      obtain ⟨fl, fr1⟩ := dd
      cases fl with
      | nx => exact fun σ1 μ1 H1 F1 A2 P2 => let ⟨b1, b2, b3, b4⟩ := back A2 P2; ⟨b1, w σ1 μ1 _ F1 b2 b3⟩
      | bk => exact fun σ1 μ1 H1 F1 A2 P2 => let ⟨b1, b2, b3, b4⟩ := back A2 P2; ⟨b1, w σ1 μ1 _ F1 b2 b3⟩
      | ct => exact fun σ1 μ1 H1 F1 A2 P2 => let ⟨b1, b2, b3, b4⟩ := back A2 P2; ⟨b1, w σ1 μ1 _ F1 b2 b3⟩
      | rt dd => exact fun σ1 μ1 H1 F1 A2 P2 v as r o => let ⟨b1, b2, b3, b4⟩ := back A2 P2; ⟨b1, w σ1 μ1 _ F1 b2 b3 v as (b4 r o).1 (b4 r o).2⟩
/-! ### loops and comprehensions over a dict -/
theorem sems_forD {i : Nat} {kd : Dk} {g : Z.Tg} {cc : Bool} (hp : PassesOwn (model X.prog X.w) X.A X.env X.xe) (hc : X.calm = true) (he : DkE X i kd tg it) (hg : SemG X tg g) (hb : SemB X gi k st fb) (hfs : ∀ x, foldedSetIterable it X.env x = pure x) : SemS X gi k (.For tg it st [] pos) (Z.lkB i (Z.fors cc g (Z.itD kd i) fb)) := by
  refine sems_lkB fun er q lk W tk fr S μ σ H F A l D w => ?_
  refine ⟨_, ps_for hp hc pi_sem pg_sem pss_sem hfs, ?_⟩
  refine semi_d (W := W) (er := er) (q := q) he A l _ (w.bnd .refl fr σ fun p S1 μ1 H1 F1 A1 P1 w1 lo J ok => ?_)
  exact for_core hg hb lk tk (A1.lck lo) ok (WS.unl lo P1 w1)
theorem sem_lcD {i : Nat} {kd : Dk} {own : List (Str × Nat)} {g : Z.Tg} (hc : X.calm = true) (hN : X.N.Nodup) (ok : BlkOk X.N X.env.scope scope own) (hv : own.map (·.2) = vs) (hi : DkE X i kd tg it) (hg : ∀ s H C cl fp, SemG (bx X scope s H C cl fp) tg g) (hgi : ∀ i ∈ g.ix, i ∈ vs)
    (ht : ∀ s H C cl fp, SemTs (bx X scope s H C cl fp) gi k ifs ft) (he : ∀ s H C cl fp, SemE (bx X scope s H C cl fp) gi k elt fe) (hfs : ∀ x, foldedSetIterable it X.env x = pure x) : SemE X gi k (.ListComp elt [⟨tg, it, ifs, 0⟩] scope pos) (Z.lkE i (Z.lc vs g (Z.itD kd i) ft fe)) := by
  refine sem_lkE fun er q lk W tk fr S μ σ H F A l Q w => ?_
  exact ⟨_, pe_lc hc hN pi_sem ok pg_blk pt_blk pe_blk hfs, lc_core hv (semi_d hi A l) hg hgi ht he lk tk A w⟩
theorem sem_lc2D {i : Nat} {kd : Dk} {own : List (Str × Nat)} {g g1 : Z.Tg} (hc : X.calm = true) (hN : X.N.Nodup) (ok : BlkOk X.N X.env.scope scope own) (hv : own.map (·.2) = vs) (hv1 : ∀ i ∈ vs1, i ∈ vs) (hi : DkE X i kd tg it) (hg : ∀ s H C cl fp, SemG (bx X scope s H C cl fp) tg g) (hgi : ∀ i ∈ g.ix, i ∈ vs)
    (ht : ∀ s H C cl fp, SemTs (bx X scope s H C cl fp) gi k ifs ft) (hi1 : ∀ s H C cl fp, SemI (bx X scope s H C cl fp) gi k tg1 it1 fi1) (hg1 : ∀ s H C cl fp, SemG (bx X scope s H C cl fp) tg1 g1) (hgi1 : ∀ i ∈ g1.ix, i ∈ vs1)
    (ht1 : ∀ s H C cl fp, SemTs (bx X scope s H C cl fp) gi k ifs1 ft1) (he : ∀ s H C cl fp, SemE (bx X scope s H C cl fp) gi k elt fe) (hfs : ∀ x, foldedSetIterable it X.env x = pure x) (hfs1 : ∀ env x, foldedSetIterable it1 env x = pure x) :
    SemE X gi k (.ListComp elt [⟨tg, it, ifs, 0⟩, ⟨tg1, it1, ifs1, 0⟩] scope pos) (Z.lkE i (Z.lc2 vs g (Z.itD kd i) ft vs1 g1 fi1 ft1 fe)) := by
  refine sem_lkE fun er q lk W tk fr S μ σ H F A l Q w => ?_
  exact ⟨_, pe_lc2 hc hN pi_sem ok (by rw [hv]; exact hv1) pg_blk pt_blk pi_blk pg_blk pt_blk pe_blk hfs hfs1, lc2_core hv (semi_d hi A l) hg hgi ht hi1 hg1 hgi1 ht1 he lk tk A w⟩
end
end Mi

set_option Elab.async false
set_option linter.all false
set_option maxRecDepth 100000
set_option maxHeartbeats 4000000
/-! Ld2: dicts made of others, d[k] += n, xs += ys, d != {}, all(xs) -/
namespace Mi
open PySem PySem.Spec PyProof.Rows L2
/-- a built-in of one value, any -/
def Z.cl (g : D → Store → R D) (f : XE) : XE := fun q fr S => (f q fr S).bnd fun x S1 => g x S1
def asB : List T → Option (List Bool)
  | [] => some []
  | .bl i :: xs => (asB xs).map (i :: ·)
  | _ :: _ => none
theorem asB_map : ∀ ns : List Bool, asB (ns.map T.bl) = some ns
  | [] => rfl
  | n :: ns => by
    show (asB (ns.map T.bl)).map (n :: ·) = some (n :: ns)
    rw [asB_map ns]
    rfl
theorem asB_eq : ∀ {xs : List T} {ns : List Bool}, asB xs = some ns → xs = ns.map T.bl
  | [], ns, h => by cases h; rfl
  | x :: xs, ns, h => by
    cases x with
    | bl i =>
      unfold asB at h
      cases e : asB xs with
      | none =>
        rw [e] at h
        cases h
      | some ms =>
        rw [e] at h
        cases h
        rw [asB_eq e]
        rfl
    | _ => cases h
def allBD (x : D) (S : Store) : R D := match (sq S x).bind asB with
  | some bs => .ok (.bl (bs.all id)) S
  | none => .no
def pairsT : List T → Option (List (Key × T))
  | [] => some []
  | .tup [k, x] :: r => match kOf k with
    | some k => (pairsT r).map ((k, x) :: ·)
    | none => none
  | _ :: _ => none
def mergeT (kvs more : List (Key × T)) : List (Key × T) := more.foldl (fun acc kv => Mi.putK kv.1 kv.2 acc) kvs
def dictD (x : D) (S : Store) : R D := match dct S x with
  | some kvs => .ok (.newd kvs) S
  | none => match Z.stD false x S with
    | some (.t (.lst ys), S2) => match pairsT ys with
      | some kvs => .ok (.newd (mergeT [] kvs)) S2
      | none => .no
    | _ => .no
def neED (x : D) (S : Store) : R Bool := match dct S x with
  | some kvs => .ok (!kvs.isEmpty) S
  | none => .no
/-- x != {} -/
def Z.tneE (f : XE) : XT := fun q fr S => (f q fr S).bnd fun x S1 => neED x S1
def getID (x j : D) (S : Store) : Option Int := match j with
  | .t f => match dct S x, kOf f with
    | some kvs, some k => match lookK k kvs with
      | some (.int a) => some a
      | _ => none
    | _, _ => none
  | _ => none
def dputD (x j : D) (y : T) (S : Store) : Option Store := match x, j with
  | .cell n, .t f => match S[n]?, kOf f with
    | some (.dic kvs), some k => if kvs.length < okL then some (S.set n (.dic (Mi.putK k y kvs))) else none
    | _, _ => none
  | _, _ => none
/-- o[i] += e, whole numbers, a dict -/
def Z.augd (o i e : XE) : XB := fun q fr S => (o q fr S).bnd fun x S1 => (i q fr S1).bnd fun j S2 => match getID x j S2 with
  | some a => (e q fr S2).bnd fun y S3 => match y with
    | .t (.int b) => match dputD x j (.int (a + b)) S3 with
      | some S4 => .ok (.nx, fr) S4
      | none => .no
    | _ => .no
  | none => .no
/-- x += e, a list of the store -/
def Z.augl (i : Nat) (f : XE) : XB := fun q fr S => match fr[i]? with
  | some (some (.cell n)) => (f q fr S).bnd fun y S1 => match S1[n]?, sq S1 y with
    | some (.lst xs), some ys => if xs.length + ys.length ≤ okL then .ok (.nx, fr) (S1.set n (.lst (xs ++ ys))) else .no
    | _, _ => .no
  | _ => .no
section
variable {X : Cx} {gi : GI} {k : Nat} {N : List Str} {sc scope : Scope} {pos p1 p p2 pp apos cpos tpos : Pos} {e a b c i o : Expr} {f g h fe : XE}
variable {er : ER} {W : WX} {L : Nat} {fr : Frame} {σ : L2.St} {S S1 S2 S0 : Store} {μ μ1 μ2 μ0 : Nat → Addr} {H H1 H2 H0 F F1 F2 F0 : Hp} {as bs : List Addr} {K : PySem.W.Frag} {D : Ends}
theorem sem_clB {x : Str} {id : String} {g : Mi.D → Store → R Mi.D} (n : Bi X x (.builtin id)) (hc : CalS X (.builtin id) g) (h1 : SemE X gi k e f) (hs : starEach [e] X.env = [(false, eval e X.env)]) : SemE X gi k (.Call (.Name x p) [e] [] pos) (Z.cl g f) := by
  intro er q lk W tk fr S μ σ H F A Q w
  obtain ⟨r, hr, hn⟩ := hc
  exact ⟨_, pe_callB hr n.g n.m n.b pa_sem n.n n.d hs rfl, arg1 h1 lk tk A w hs fun d S1 μ1 H1 F1 v as A1 P1 r1 o1 w1 => hn A1 P1 r1 o1 w1⟩
theorem sem_clT {x : Str} {id : String} {g : Mi.D → Store → R Mi.D} (n : Bi X x (.type id)) (hc : CalS X (.type id) g) (h1 : SemE X gi k e f) (hs : starEach [e] X.env = [(false, eval e X.env)]) : SemE X gi k (.Call (.Name x p) [e] [] pos) (Z.cl g f) := by
  intro er q lk W tk fr S μ σ H F A Q w
  obtain ⟨r, hr, hn⟩ := hc
  exact ⟨_, pe_callTy hr n.g n.m n.b pa_sem n.n n.d hs rfl, arg1 h1 lk tk A w hs fun d S1 μ1 H1 F1 v as A1 P1 r1 o1 w1 => hn A1 P1 r1 o1 w1⟩
theorem repB {G : Lk} : ∀ {vs : List V} {ns : List Bool}, RepL K G vs (ns.map T.bl) → vs = ns.map V.bl
  | _, [], h => by cases h; rfl
  | _, n :: ns, h => by
    cases h with
    | cons h1 h2 => rw [rep_bl h1, repB h2]; rfl
theorem allBS (hc : X.calm = true) : CalS X (.builtin "all") allBD := by
  refine ⟨_, cr_all hc, ?_⟩
  intro er W L fr σ S0 S μ0 μ H0 F0 H F Q x v as A P r1 o hw
  unfold allBD at hw
  split at hw
  · rename_i bs e
    cases q : sq S x with
    | none => rw [q] at e; cases e
    | some xs =>
      rw [q] at e
      obtain rfl := asB_eq (show asB xs = some bs from e)
      obtain ⟨p, vs, rfl, h1, h2⟩ := sq_rep A.hs r1 q
      obtain rfl := repB h2
      exact ⟨p, bs, rfl, SqL.of h1, giveT hw A P (.bl _)⟩
  · exact hw.elim
theorem giveDd {xs : List (Key × T)} {Q : VK} {vs : List (Key × V)} {p : Addr} (w : WR K er W L fr σ S0 μ0 H0 F0 (.ok (.newd xs) S) (KE K H0 Q)) (A : Ab K fr S μ σ H F) (P : Stp L S0 μ0 H0 F0 S μ H F) (hp : H p = none) (r : RepK K (At F) vs xs) : Q (.ref p) (upd H p (.dK vs)) := by
  have P2 := stp_laid (L := L) (S := S) (μ := μ) (F := F) (o := .dK vs) hp
  refine give w (A.hsof P2 (A.hs.laid hp)) (P.trans P2) (.newd upd_same r) ?_
  exact (own_new A.hs hp).start P.dom
theorem pairs_rep : ∀ {ys : List T} {kvs : List (Key × T)} {vs : List V}, pairsT ys = some kvs → RepL K (At F) vs ys → Sub F H → ∃ (ps : List Addr) (ws : List (Key × V)), vs = ps.map V.ref ∧ Paired (fun p kv => SqT K H p [kV kv.1, kv.2]) ps ws ∧ RepK K (At F) ws kvs
  | [], kvs, vs, e, r, s => by
    cases e
    cases r
    exact ⟨[], [], rfl, .nil, .nil⟩
  | y :: ys, kvs, vs, e, r, s => by
    cases r with
    | cons r1 r2 =>
      unfold pairsT at e
      split at e
      · rename_i heq
        cases heq
      · rename_i k x r' heq
        cases heq
        split at e
        · rename_i kk ek
          cases q : pairsT ys with
          | none => rw [q] at e; cases e
          | some zs =>
            rw [q] at e
            cases e
            obtain ⟨ps, ws, rfl, h1, h2⟩ := pairs_rep q r2 s
            obtain ⟨a, us, rfl, g1, g2⟩ := rep_tup r1
            cases g2 with
            | cons g2 g3 =>
              cases g3 with
              | cons g3 g4 =>
                cases g4
                rename_i u w
                have := kOf_rep g2 ek
                subst this
                exact ⟨a :: ps, (kk, w) :: ws, rfl, .cons (SqT.of (now_tup (s _ _ g1))) h1, .cons g3 h2⟩
        · cases e
      · cases e
theorem merge_rep {G : Lk} : ∀ {ws : List (Key × V)} {kvs : List (Key × T)} {vs : List (Key × V)} {acc : List (Key × T)}, RepK K G ws kvs → RepK K G vs acc → RepK K G (mergeK vs ws) (mergeT acc kvs)
  | _, _, _, _, .nil, h => h
  | _ :: _, _, vs, acc, .cons r t, h => merge_rep (vs := L2.putK vs _ _) (acc := Mi.putK _ _ acc) t (putK_rep r h)
theorem dictS (hc : X.calm = true) : CalS X (.type "dict") dictD := by
  refine ⟨_, cal_or call_dictD (call_dictP hc), ?_⟩
  intro er W L fr σ S0 S μ0 μ H0 F0 H F Q x v as A P r1 o hw
  unfold dictD at hw
  split at hw
  · rename_i kvs e
    obtain ⟨p, vs, rfl, h1, h2⟩ := dct_rep A.hs r1 e
    exact .inl ⟨p, vs, rfl, h1, fun m hm => giveDd hw A P hm h2⟩
  · split at hw
    · rename_i ys S2 e
      split at hw
      · rename_i kvs e2
        obtain ⟨μ2, F2, A2, P2, r2⟩ := std_ok A P r1 o e
        cases r2 with
        | t r2 =>
          obtain ⟨a, vs, rfl, h1, h2⟩ := rep_lst r2
          obtain ⟨ps, ws, rfl, h3, h4⟩ := pairs_rep e2 h2 A2.hs.sub
          exact .inr ⟨a, ps, ws, rfl, SqL.of (now_lst (A2.hs.sub _ _ h1)), h3, fun m hm => giveDd hw A2 P2 hm (merge_rep h4 .nil)⟩
      · exact hw.elim
    · exact hw.elim
def rNe0 : R2 := fun x y H Q => ∃ a b ks, x = .ref a ∧ y = .ref b ∧ Rd H a (.dK ks) ∧ H b = some (.dK []) ∧ Q (.bl (!ks.isEmpty)) H
theorem op_ne0 (hu : X.A.units < cLine) : OpR X (compareOp .NotEq) rNe0 := by
  intro pins s σ H x y v u Q I rx ry h
  obtain ⟨a, b, ks, rfl, rfl, ea, eb, q⟩ := h
  obtain rfl : v = Value.ref a := rx
  obtain rfl : u = Value.ref b := ry
  obtain ⟨_, ya, va, ra, da⟩ := dk_rd I.hok ea
  obtain ⟨_, yb, vb, rb, db⟩ := dk_of I.hok eb
  cases rb
  have hl : ks.length = va.length := Paired.length ra
  refine PySem.W.keq_ne (knd := mixKind X.prog X.w) (r := true) ya yb da db hu (fun e => ?_) (fin_bl I q ?_)
  · have : va = [] := List.eq_nil_of_length_eq_zero (by rw [e]; rfl)
    subst this
    have := hits_all (κ := Key) (A := X.A.in1) (s := s) (ks := []) (kvs := []) .nil .nil (fun p hp => by cases hp)
    exact this
  · cases ks with
    | nil =>
      have : va = [] := List.eq_nil_of_length_eq_zero hl.symm
      subst this
      rfl
    | cons p ks =>
      cases va with
      | nil => cases hl
      | cons _ _ => rfl
theorem semt_neE (hu : X.A.units + 64 < cLine) (h1 : SemE X gi k a f) (hm : behindInMarks .NotEq (.Dict [] [] p) = false) : SemT X gi k (.Compare a [.NotEq] [.Dict [] [] p] pos) (Z.tneE f) := by
  intro er q lk W tk fr S μ σ H F A Q w
  refine ⟨_, pt_cmpR (op_ne0 (by omega)) pe_sem pe_sem hm, ?_⟩
  have h2 : SemE X gi k (.Dict [] [] p) Z.dict0 := sem_dict0
  refine h1.go lk tk A .refl w fun x S1 μ1 H1 F1 v as A1 P1 r1 o1 w1 => ?_
  have w1' : WR X.K er W q.L fr σ S μ H F ((Z.dict0 q fr S1).bnd fun d2 S2 => match d2 with
    | .newd [] => neED x S2
    | _ => .no) (KT Q) := w1
  refine h2.go lk tk A1 P1 w1' fun d2 S2 μ2 H2 F2 u bs A2 P2 r2 o2 w2 => ?_
  split at w2
  · obtain ⟨r1', _⟩ := r1.keep o1 P2
    cases r2 with
    | c r2 => cases r2
    | @newd z zs _ hz rz =>
      cases rz
      unfold neED at w2
      split at w2
      · rename_i kvs e
        obtain ⟨a, vs, rfl, h1, h2⟩ := dct_rep A2.hs r1' e
        refine ⟨a, z, vs, rfl, rfl, h1, hz, _, rfl, ?_⟩
        have := w2 μ2 H2 F2 A2 (P1.trans P2)
        have e : vs.isEmpty = kvs.isEmpty := by
          cases h2 <;> rfl
        rw [e]
        exact this
      · exact w2.elim
  · exact w2.elim
theorem dput_ok {x j : Mi.D} {y : T} {v u w : V} {bs : List Addr} (A : Ab K fr S μ σ H F) (P : Stp L S0 μ0 H0 F0 S μ H F) (r1 : RepN K S.length μ F H v x as) (r2 : RepN K S.length μ F H u j bs) (r3 : Rep K (At F) w y) (e : dputD x j y S = some S2) :
    ∃ a H2, Ab K fr S2 μ σ H2 F ∧ Stp L S0 μ0 H0 F0 S2 μ H2 F ∧ v = .ref a ∧ DPut H a u w H2 := by
  unfold dputD at e
  split at e
  · rename_i n f
    split at e
    · rename_i kvs kk e1 e2
      split at e
      · rename_i hl
        cases e
        cases r1 with
        | c r1 =>
          cases r1 with
          | cell hn =>
            obtain ⟨ho, h1, h2⟩ := A.hs.ce n _ e1
            cases ho <;> first | exact h2.elim | skip
            rename_i vs
            have h2' : RepK K (At F) vs kvs := h2
            refine ⟨μ n, _, A.wr e1 (ho := .dK (L2.putK vs kk w)) (putK_rep r3 h2'), P.wr A.hs e1 (fun _ _ _ => trivial) (fun _ z => by cases z), rfl, .inl ⟨vs, kk, h1, kOf_rep (repT r2).1 e2, ?_, rfl⟩⟩
            rw [h2'.length]
            exact Nat.lt_of_lt_of_le hl (by decide)
      · cases e
    · cases e
  · cases e
theorem getID_rep {x j : Mi.D} {z : Int} {v u : V} {bs : List Addr} (A : Hs K S μ H F) (r1 : RepN K S.length μ F H v x as) (r2 : RepN K S.length μ F H u j bs) (e : getID x j S = some z) : ∃ a, v = .ref a ∧ DGet H a u (some (.int z)) := by
  unfold getID at e
  split at e
  · rename_i f
    split at e
    · rename_i kvs kk e1 e2
      split at e
      · rename_i m e3
        cases e
        obtain ⟨a, vs, rfl, h1, h2⟩ := dct_rep A r1 e1
        obtain ⟨w, e4, rz⟩ := (look_rep h2).1 _ e3
        obtain rfl := rep_int rz
        exact ⟨a, rfl, .inl ⟨vs, kk, h1, kOf_rep (repT r2).1 e2, e4.symm⟩⟩
      · cases e
    · cases e
  · cases e
theorem sems_augd (hu : X.A.units + 64 < cLine) (h0 : SemE X gi k o f) (h1 : SemE X gi k i g) (h2 : SemE X gi k e h)
    (ha : ∀ ov iv new, augStore i ov iv new = (do holding [new, ov, iv] (setItem ov iv new); release [new, ov, iv] []; pure .next)) : SemS X gi k (.AugAssign (.Subscript o i tpos) .Add e pos) (Z.augd f g h) := by
  intro er q lk W tk fr S μ σ H F A D w
  refine ⟨_, ps_daug (by omega) pe_sem pe_sem pe_sem in_add ha, ?_⟩
  have w0 : WS X.K er W q.L S μ H F ((f q fr S).bnd fun x S1 => (g q fr S1).bnd fun j S2 => match getID x j S2 with
    | some a => (h q fr S2).bnd fun y S3 => match y with
      | .t (.int b) => match dputD x j (.int (a + b)) S3 with
        | some S4 => .ok (.nx, fr) S4
        | none => .no
      | _ => .no
    | none => .no) D := w
  refine h0.run lk tk A w0 fun x S1 μ1 H1 F1 v as A1 P1 r1 o1 w1 => ?_
  refine h1.runP lk tk A1 P1 w1 fun j S2 μ2 H2 F2 u bs A2 P2 r2 o2 w2 => ?_
  obtain ⟨r1, o1⟩ := r1.keep o1 P2
  split at w2
  · rename_i z ez
    obtain ⟨a, rfl, g⟩ := getID_rep A2.hs r1 r2 ez
    refine ⟨a, _, rfl, g, h2.runP lk tk A2 (P1.trans P2) w2 fun y S3 μ3 H3 F3 t cs A3 P3 r3 o3 w3 => ?_⟩
    obtain ⟨r1, o1⟩ := r1.keep o1 P3
    obtain ⟨r2, o2⟩ := r2.keep o2 P3
    split at w3
    · rename_i b
      split at w3
      · rename_i S4 e4
        obtain ⟨a', H4, A4, P4, e5, g4⟩ := dput_ok A3 ((P1.trans P2).trans P3) r1 r2 (.int _) e4
        cases e5
        exact ⟨_, _, rfl, rep_int (repT r3).1, H4, g4, w3 σ _ H4 _ A4 P4⟩
      · exact w3.elim
    · exact w3.elim
  · exact w2.elim
theorem sems_augl {i : Nat} {x : Str} (n : Nl X i x) (h1 : SemE X gi k e f) : SemS X gi k (.AugAssign (.Name x pp) .Add e pos) (Z.augl i f) := by
  intro er q lk W tk fr S μ σ H F A D w
  unfold Z.augl at w
  split at w
  · rename_i m e0
    obtain ⟨v, e1, rv⟩ := A.sl i _ e0
    cases rv with
    | cell hm =>
      refine ⟨_, ps_aug n.nd n.n n.l pe_sem iop_ext n.f, _, e1, h1.run lk tk A w fun d S1 μ1 H1 F1 u as A1 P1 r1 o1 w1 => ?_⟩
      split at w1
      · rename_i xs ys e2 e3
        split at w1
        · rename_i hl
          obtain ⟨ho, g1, g2⟩ := A1.hs.ce m _ e2
          cases ho <;> first | exact g2.elim | skip
          rename_i vs
          have g2' : RepL X.K (At F1) vs xs := g2
          obtain ⟨p, zs, rfl, h1, h2⟩ := sq_rep A1.hs r1 e3
          have hmu : μ1 m = μ m := P1.mu m hm
          have A2 := A1.wr e2 (o' := .lst (xs ++ ys)) (ho := .lst (vs ++ zs)) (g2'.append h2)
          have P2 := P1.wr A1.hs e2 (o' := .lst (xs ++ ys)) (ho := .lst (vs ++ zs)) (fun _ _ _ => trivial) (fun _ z => by cases z)
          rw [hmu] at A2 P2 g1
          refine ⟨_, _, vs, zs, rfl, rfl, g1, h1, ?_, ?_⟩
          · rw [g2'.length, h2.length, sizeLine_eq]
            have : (okL : Nat) = 16000000 := rfl
            omega
          · have e4 : σ.set i (some (V.ref (μ m))) = σ := by
              refine List.ext_getElem? fun jj => ?_
              by_cases hj : i = jj
              · subst hj
                rw [List.getElem?_set_self (List.getElem?_eq_some_iff.mp e1).1, e1]
              · rw [List.getElem?_set_ne hj]
            show D.nx (σ.set i (some (V.ref (μ m)))) _
            rw [e4]
            exact w1 σ μ1 _ F1 A2 P2
        · exact w1.elim
      · exact w1.elim
  · exact w.elim
end
end Mi

set_option Elab.async false
set_option linter.all false
set_option maxRecDepth 100000
set_option maxHeartbeats 4000000
/-! Gw2: a display of a dict -/
namespace Mi
open PySem PySem.Spec PyProof.Rows L2
/-- the pairs, from the left; what is new in a value is frozen -/
def Z.prs : List (XE × XE) → Q → Frame → Store → R (List (Key × T))
  | [], _, _, S => .ok [] S
  | (fk, fv) :: r, q, fr, S => (fk q fr S).bnd fun x S1 => match x with
    | .t y => match kOf y with
      | some k => (fv q fr S1).bnd fun d S2 => match Z.arg d with
        | some (.t z) => (Z.prs r q fr S2).bnd fun kvs S3 => .ok ((k, z) :: kvs) S3
        | _ => .no
      | none => .no
    | _ => .no
def Z.disp (ps : List (XE × XE)) : XE := fun q fr S => (Z.prs ps q fr S).bnd fun kvs S1 => if (kvs.map (·.1)).Nodup ∧ kvs.length ≤ 15 then .ok (.newd kvs) S1 else .no
theorem putK_new {k : Key} {x : V} {kvs : List (Key × V)} (h : k ∉ kvs.map (·.1)) : L2.putK kvs k x = kvs ++ [(k, x)] := by
  unfold L2.putK
  rw [if_neg]
  intro z
  obtain ⟨p, hp, e⟩ := List.any_eq_true.mp z
  exact h (List.mem_map.mpr ⟨p, hp, of_decide_eq_true e⟩)
theorem mergeK_new : ∀ {more kvs : List (Key × V)}, ((kvs ++ more).map (·.1)).Nodup → mergeK kvs more = kvs ++ more
  | [], kvs, _ => (List.append_nil _).symm
  | p :: more, kvs, h => by
    show mergeK (L2.putK kvs p.1 p.2) more = _
    have hp : p.1 ∉ kvs.map (·.1) := fun z => by
      rw [List.map_append, List.map_cons] at h
      exact (List.nodup_append.mp h).2.2 _ z _ List.mem_cons_self rfl
    rw [putK_new hp, mergeK_new (by rw [List.append_assoc]; exact h), List.append_assoc]
    rfl
theorem bnd_assoc {α β γ : Type} {r : R α} {f : α → Store → R β} {g : β → Store → R γ} : (r.bnd f).bnd g = r.bnd fun a S => (f a S).bnd g := by cases r <;> rfl
inductive SemPs (X : Cx) (gi : GI) (k : Nat) : List (Option Expr) → List Expr → List (XE × XE) → Prop
  | nil : SemPs X gi k [] [] []
  | cons {a b : Expr} {ks : List (Option Expr)} {vs : List Expr} {f g : XE} {ps : List (XE × XE)} : SemE X gi k a f → SemE X gi k b g → SemPs X gi k ks vs ps → SemPs X gi k (some a :: ks) (b :: vs) ((f, g) :: ps)
def trsP (X : Cx) : List (Option Expr) → List Expr → List (TE × TE)
  | some a :: ks, b :: vs => (semE X a, semE X b) :: trsP X ks vs
  | _, _ => []
section
variable {X : Cx} {gi : GI} {k : Nat} {pos : Pos} {keys : List (Option Expr)} {values : List Expr} {ps : List (XE × XE)}
theorem pps_sem (h : SemPs X gi k keys values ps) : PPs X pos keys values (trsP X keys values) := by
  induction h with
  | nil => exact pps_nil
  | cons h1 h2 _ ih => exact pps_cons pe_sem pe_sem ih
variable {er : ER} {W : WX} {q : Q}
theorem prs_go (hp : SemPs X gi k keys values ps) (lk : Lnk X gi k er q) (tk : Takes X W) : ∀ {fr : Frame} {S : Store} {μ : Nat → Addr} {σ : L2.St} {H F : Hp} (A : Ab X.K fr S μ σ H F) {S0 : Store} {μ0 : Nat → Addr} {H0 F0 : Hp} (P : Stp q.L S0 μ0 H0 F0 S μ H F) {γ : Type} {g : List (Key × T) → Store → R γ} {j : γ → Store → (Nat → Addr) → Hp → Hp → Prop} (w : WR X.K er W q.L fr σ S0 μ0 H0 F0 ((Z.prs ps q fr S).bnd g) j) {Q : List (V × V) → Hp → Prop}
    (n : ∀ kvs vs S1 μ1 H1 F1, Ab X.K fr S1 μ1 σ H1 F1 → Stp q.L S μ H F S1 μ1 H1 F1 → RepK X.K (At F1) vs kvs → WR X.K er W q.L fr σ S0 μ0 H0 F0 (g kvs S1) j → Q (vs.map fun kv => (kV kv.1, kv.2)) H1), tPairs (trsP X keys values) σ H Q := by
  induction hp with
  | nil =>
    intro fr S μ σ H F A S0 μ0 H0 F0 P γ g j w Q n
    exact n [] [] S μ H F A .refl .nil w
  | cons h1 h2 _ ih =>
    intro fr S μ σ H F A S0 μ0 H0 F0 P γ g j w Q n
    unfold Z.prs at w
    rw [bnd_assoc] at w
    refine h1.go lk tk A P w fun x S1 μ1 H1 F1 v as A1 P1 r1 o1 w1 => ?_
    split at w1
    case h_2 => exact w1.elim
    rename_i y
    split at w1
    case h_2 => exact w1.elim
    rename_i kk ek
    obtain rfl := kOf_rep (repT r1).1 ek
    rw [bnd_assoc] at w1
    refine h2.go lk tk A1 (P.trans P1) w1 fun d S2 μ2 H2 F2 u bs A2 P2 r2 o2 w2 => ?_
    split at w2
    case h_2 => exact w2.elim
    rename_i z ea
    obtain ⟨F', sf, A3, P3, rc⟩ := arg_rep A2 P2 r2 o2 ea
    cases rc with
    | t rz =>
      rw [bnd_assoc] at w2
      exact ih A3 ((P.trans P1).trans P3) w2 fun kvs vs S4 μ4 H4 F4 A4 P4 rk w4 => n ((kk, z) :: kvs) ((kk, u) :: vs) S4 μ4 H4 F4 A4 (P1.trans (P3.trans P4)) (.cons (rz.mono (at_mono P4.f)) rk) w4
variable {K : PySem.W.Frag} {L : Nat} {fr : Frame} {S S0 : Store} {μ μ0 : Nat → Addr} {σ : L2.St} {H F H0 F0 : Hp} {p : Addr} {o : HO}
theorem Ab.put (A : Ab K fr S μ σ H F) (hF : F p = none) (hμ : ∀ n, n < S.length → μ n ≠ p) : Ab K fr S μ σ (upd H p o) F := by
  refine ⟨⟨fun a u e => ?_, fun n u e => ?_, A.hs.out, A.hs.inj, A.hs.tb⟩, A.len, A.sl⟩
  · have h : a ≠ p := fun z => by
      rw [z, hF] at e
      cases e
    exact now_keep (fun u z => by rw [upd_ne h]; exact z) (A.hs.sub a u e)
  · obtain ⟨ho, h1, h2⟩ := A.hs.ce n u e
    exact ⟨ho, by rw [upd_ne (hμ n (List.getElem?_eq_some_iff.mp e).1)]; exact h1, h2⟩
theorem Stp.put (P : Stp L S0 μ0 H0 F0 S μ H F) (h0 : H0 p = none) : Stp L S0 μ0 H0 F0 S μ (upd H p o) F where
  f := P.f
  le := P.le
  mu := P.mu
  keep := fun b u e n => by
    rw [upd_ne (ne_of_none e h0)]
    exact P.keep b u e n
  nF := P.nF
  nC := P.nC
  dom := fun a e => by
    by_cases h : a = p
    · rw [h]
      exact h0
    · rw [upd_ne h] at e
      exact P.dom a e
  cl := P.cl
  lk := fun n u e => ⟨(P.lk n u e).1, fun u' z => by
    rw [upd_ne (ne_of_none z h0)]
    exact (P.lk n u e).2 u' z⟩
theorem sem_disp (h : SemPs X gi k keys values ps) (hall : keys.all (·.isSome) = true) (hl : keys.length = values.length) (h0 : keys ≠ []) (h15 : keys.length ≤ 15) : SemE X gi k (.Dict keys values pos) (Z.disp ps) := by
  intro er q lk W tk fr S μ σ H F A Q w
  refine ⟨_, pe_disp (pps_sem h) hall hl h0 h15, fun p hp => ?_⟩
  have P0 := stp_laid (L := q.L) (S := S) (μ := μ) (F := F) (o := .dK []) hp
  have A0 := A.hsof P0 (A.hs.laid hp)
  have o0 : Own [p] H F μ S := own_new A.hs hp
  have r0 : RepN X.K S.length μ F (upd H p (.dK [])) (.ref p) (.newd []) [p] := .newd upd_same .nil
  refine prs_go h lk tk A0 P0 w fun kvs vs S1 μ1 H1 F1 A1 P1 rk w1 => ?_
  obtain ⟨r1, o1⟩ := r0.keep o0 P1
  have hp1 : H1 p = some (.dK []) := by
    cases r1 with
    | newd g1 g2 =>
      cases g2
      exact g1
  split at w1
  case isFalse => exact w1.elim
  rename_i hc
  obtain ⟨c1, c2⟩ := hc
  refine ⟨hp1, vs, rfl, by rw [rk.length]; exact c2, ?_⟩
  rw [mergeK_new (kvs := []) (by rw [List.nil_append, rk.keys]; exact c1), List.nil_append]
  obtain ⟨z1, z2, z3⟩ := o1.fr p List.mem_cons_self
  exact give w1 (A1.put z2 z3) ((P0.trans P1).put hp) (.newd upd_same rk) ⟨o1.nd, o1.fr⟩
end
end Mi

set_option Elab.async false
set_option linter.all false
set_option maxRecDepth 100000
set_option maxHeartbeats 4000000
/-! Kd9: min of a list of lists of whole numbers -/
namespace Mi
open PySem PySem.W PySem.Calls PyProof.Rows PySem.HandSPX PySem.Spec L2
abbrev dnI (r : List Int) : T := .lst (r.map T.int)
def asLL : List T → Option (List (List Int))
  | [] => some []
  | .lst xs :: ys => match asI xs with
    | some ns => (asLL ys).map (ns :: ·)
    | none => none
  | _ :: _ => none
theorem asLL_map : ∀ rows : List (List Int), asLL (rows.map dnI) = some rows
  | [] => rfl
  | r :: rows => by
    rw [List.map_cons]
    unfold asLL
    rw [asI_map]
    dsimp only
    rw [asLL_map rows]
    rfl
theorem asLL_eq : ∀ {xs : List T} {rows : List (List Int)}, asLL xs = some rows → xs = rows.map dnI
  | [], rows, h => by cases h; rfl
  | x :: xs, rows, h => by
    cases x with
    | lst ys =>
      unfold asLL at h
      cases e : asI ys with
      | none =>
        rw [e] at h
        cases h
      | some ns =>
        rw [e] at h
        dsimp only at h
        cases e2 : asLL xs with
        | none =>
          rw [e2] at h
          cases h
        | some rs =>
          rw [e2] at h
          cases h
          rw [asLL_eq e2, asI_eq e]
          rfl
    | _ => cases h
def minLD (x : D) (S : Store) : R D := match (sq S x).bind asLL with
  | some (r :: rows) => if T.oks ((r :: rows).map dnI) = true then .ok (.t (dnI (minOf r rows))) S else .no
  | _ => .no
theorem py_ints : ∀ r : List Int, T.pys (r.map T.int) = r.map Datum.toD
  | [] => rfl
  | n :: r => by
    show PyData.int n :: T.pys (r.map T.int) = _
    rw [py_ints r]
    rfl
theorem py_rows : ∀ rows : List (List Int), T.pys (rows.map dnI) = rows.map Datum.toD
  | [] => rfl
  | r :: rows => by
    show PyData.list (T.pys (r.map T.int)) :: T.pys (rows.map dnI) = _
    rw [py_ints r, py_rows rows]
    rfl
theorem one_ints {h : Heap} : ∀ {us : List Value} {ns ms : List Int} {as bs : List Addr}, ReadsAll h us (ns.map Datum.toD) as → ReadsAll h us (ms.map Datum.toD) bs → ns = ms
  | [], ns, ms, as, bs, h1, h2 => by
    cases ns with
    | cons => cases h1
    | nil =>
      cases ms with
      | cons => cases h2
      | nil => rfl
  | u :: us, ns, ms, as, bs, h1, h2 => by
    cases ns with
    | nil => cases h1
    | cons n ns =>
      cases ms with
      | nil => cases h2
      | cons m ms =>
        cases h1 with
        | cons a1 a2 =>
          cases h2 with
          | cons b1 b2 =>
            rw [one_ints a2 b2]
            have a1 : Reads h u (.int n) _ := a1
            have b1 : Reads h u (.int m) _ := b1
            cases a1
            cases b1
            rfl
/-- one value holds one list -/
theorem one_row {h : Heap} {u : Value} {r s : List Int} {as bs : List Addr} (h1 : Reads h u (Datum.toD r) as) (h2 : Reads h u (Datum.toD s) bs) : r = s := by
  have h1 : Reads h u (.list (r.map Datum.toD)) as := h1
  have h2 : Reads h u (.list (s.map Datum.toD)) bs := h2
  cases h1 with
  | list a1 a2 a3 a4 =>
    cases h2 with
    | list b1 b2 b3 b4 =>
      rw [a1] at b1
      cases b1
      rw [a3] at b3
      cases b3
      exact one_ints a4 b4
section
variable {X : Cx} {K : PySem.W.Frag}
theorem cr_minL (hc : X.calm = true) (hu : X.A.units + 64 < cLine) : CallR X (.builtin "min") (fun vs H Q => ∃ (a : Addr) (us : List V) (r : List Int) (rows : List (List Int)), vs = [V.ref a] ∧ H a = some (.lst us) ∧ RepL X.K (Now H) us ((r :: rows).map dnI) ∧ T.oks ((r :: rows).map dnI) = true ∧ ∀ (i : Nat) (u : V), us[i]? = some u → (r :: rows)[i]? = some (minOf r rows) → Q u H) := by
  intro pins s σ H vs us Q I r h
  obtain ⟨a, vs', r0, rows, rfl, ha, rp, hok, q⟩ := h
  rw [Vals.ref1 r]
  obtain ⟨its, rv, hl, _⟩ := I.list (SqL.of ha)
  obtain ⟨as, rd⟩ := Dp.readsAll I (T.pys ((r0 :: rows).map dnI)) vs' its (oks_dp hok rp) rv
  rw [py_rows] at rd
  refine min_list_datum (α := List Int) (x := r0) (xs := rows) (I.ok.hd hc) hl.isList ⟨as, rd⟩ (by show X.A.units + 1 + 1 < cLine; omega) fun i v h' tk hi ⟨bs, hd⟩ hk => ?_
  obtain ⟨cs, h1, h2, _, _⟩ := readsAll_at rd i v (by rw [← List.getElem?_toArray]; exact hi)
  rw [List.length_map] at h2
  have e : (((r0 :: rows).map Datum.toD).getD i PyData.none) = Datum.toD (r0 :: rows)[i] := by
    rw [List.getD_eq_getElem?_getD, List.getElem?_map, List.getElem?_eq_getElem h2]
    rfl
  rw [e] at h1
  have e2 : (r0 :: rows)[i] = minOf r0 rows := one_row (Reads.keeps hk h1) hd
  have hi : its[i]? = some v := by rw [← List.getElem?_toArray]; exact hi
  have hlt : i < vs'.length := by
    rw [rv.length]
    exact (List.getElem?_eq_some_iff.mp hi).1
  obtain ⟨u, e3, e4⟩ := rv.get (List.getElem?_eq_getElem hlt)
  rw [hi] at e3
  cases e3
  exact ⟨vs'[i], H, I.kept (t' := tk) hk, e4, q i _ (List.getElem?_eq_getElem hlt) (by rw [List.getElem?_eq_getElem h2, e2])⟩
theorem minLS (hc : X.calm = true) (hu : X.A.units + 64 < cLine) : CalS X (.builtin "min") minLD := by
  refine ⟨_, cr_minL hc hu, ?_⟩
  intro er W L fr σ S0 S μ0 μ H0 F0 H F Q x v as A P r1 o hw
  unfold minLD at hw
  split at hw
  · rename_i r rows e
    split at hw
    case isFalse => exact hw.elim
    rename_i hok
    cases q : sq S x with
    | none =>
      rw [q] at e
      cases e
    | some xs =>
      rw [q] at e
      have ex := asLL_eq e
      subst ex
      obtain ⟨p, vs, rfl, h1, h2⟩ := sq_rep A.hs r1 q
      refine ⟨p, vs, r, rows, rfl, h1, repL_rd A.hs.sub h2, hok, fun i u hi hm => ?_⟩
      obtain ⟨d, hd, hr⟩ := h2.get hi
      rw [List.getElem?_map, hm] at hd
      cases hd
      exact giveT hw A P hr
  · exact hw.elim
end
end Mi

set_option Elab.async false
set_option linter.all false
set_option maxRecDepth 100000
set_option maxHeartbeats 4000000
/-! Wk3: a class's __init__ by its body; what the module's top leaves of the class -/
namespace Mi
open PySem PySem.Spec PyProof.Rows L2
section
variable {P : Program} {w : World} {K : PySem.W.Frag} {mg : Str → Option Value} {base : Heap} {gi : GI} {k : Nat} {er : ER}
theorem fng_ini {prog : List Def} {fa : Nat → Addr} {n cn : Nat} {d : Def} {x qual : Str} {params : Arguments} {body : List Stmt} {scope : Scope} {dvs : List V} {kws : List (Str × V)} {f : Addr} {fd : FuncData} {N ps : List Str}
    (FD : FunD K x qual params body scope dvs kws f fd) (Sc : FnScope N ("self" :: ps) scope) (hd : prog[n]? = some d) (ow : d.own = .ini cn) (hps : ps.length = d.pars) (hN : N.length = d.slots)
    (bi : ∀ x ∈ gi.bs, mg x = none) (cs : ∀ p ∈ gi.cs, ∃ u, mg p.1 = some u ∧ cV p.2 u)
    (hb : ∀ X, Cok X gi k N scope → (∀ x, X.fn x = true) → PassesOwn (model X.prog X.w) X.A X.env X.xe → (X.stack = X.env :: X.outer ∧ X.env.frame = some X.env.locals) → SemB X gi k body d.body)
    (lk : ∀ L, LnkP P w K mg base gi k er ⟨callD prog fa k, fa, L⟩) : FnG gi.gd P w K mg base (CX P w) (3 * (k + 1) - 1) f fd ("self" :: ps) (spI K er (fa cn) (callD prog fa (k + 1) n) ps.length) := by
  show FnG gi.gd P w K mg base (CX P w) ((3 * k + 1) + 1) f fd ("self" :: ps) _
  refine fng_of FD Sc (fun vs H Q E h => ?_) ?_
  · obtain ⟨y, dx, ws, e, l, _⟩ := h
    rw [e, List.length_cons, l, List.length_cons]
  intro cdv A outer s H vs Q E hg hcd hr hsp
  obtain ⟨y, dx, ws, rfl, hl, ds, S, μ, H0, F, hs, rc, hy, hdx, ne, eH, wc⟩ := hsp
  have tk : Takes (cxOf (CX P w) P w K mg base N qual scope f cdv A outer s H E) fun cls d x H => E cls d H := takes_of rfl rfl rfl rfl
  have c : Cok (cxOf (CX P w) P w K mg base N qual scope f cdv A outer s H E) gi k N scope := ⟨rfl, rfl, Sc.nd, rfl, hg, room_le (by omega) hr, bi, cs⟩
  have lk' : Lnk (cxOf (CX P w) P w K mg base N qual scope f cdv A outer s H E) gi k er ⟨callD prog fa k, fa, S.length⟩ := ⟨(lk S.length).df, (lk S.length).xo, (lk S.length).ta, (lk S.length).co⟩
  have hld : ds.length = d.pars := rc.length.symm.trans (hl.trans hps)
  -- the instance is laid
  have hy2 : upd H0 dx (.own y) y = none := by rw [upd_ne (Ne.symm ne)]; exact hy
  have hs1 : Hs K S μ (upd H0 dx (.own y)) F := hs.laid (o := HO.own y) hdx
  have hs2 : Hs K S μ H F := by rw [eH]; exact hs1.laid (o := HO.ins (fa cn) dx []) hy2
  have Hy : H y = some (.ins (fa cn) dx []) := by rw [eH, upd_same]
  have hF : F y = none := free_F hs.sub hy
  have hC : ∀ n, n < S.length → μ n ≠ y := free_C hs hy
  have t := Thw.snoc hs2 (o := Ob.ins (fa cn) []) (ho := HO.ins (fa cn) dx []) Hy ⟨rfl, .nil⟩ hF hC
  have P0 : Stp S.length S μ H0 F S μ H F := by
    have a := stp_laid (L := S.length) (S := S) (μ := μ) (F := F) (o := HO.own y) hdx
    have b := stp_laid (L := S.length) (S := S) (μ := μ) (F := F) (o := HO.ins (fa cn) dx []) hy2
    rw [← eH] at b
    exact a.trans b
  have Pt : Stp S.length S μ H0 F (S ++ [Ob.ins (fa cn) []]) (muS μ S.length y) H F := t.stp P0 fun a ha => by
    rw [List.mem_singleton.mp ha]
    exact hy
  have rc2 : RepCs K (S ++ [Ob.ins (fa cn) []]).length (muS μ S.length y) F (.ref y :: ws) (.cell S.length :: ds) :=
    .cons cell_new (rc.mono t.le t.mu sameF)
  have A0 : Ab K ((D.cell S.length :: ds).map some ++ List.replicate (d.slots - (D.cell S.length :: ds).length) none) (S ++ [Ob.ins (fa cn) []]) (muS μ S.length y) (L2.start N (.ref y :: ws)) H F := start_ab t.hs rc2 hN
  have lt : ∀ {S1 : Store}, S.length ≤ S1.length → (S1.take S.length).length = S.length := fun h => by rw [List.length_take, Nat.min_eq_left h]
  have z : callD prog fa (k + 1) n ds S = runI (fa cn) d.body d.slots ⟨callD prog fa k, fa, S.length⟩ ds S := by
    show (match prog[n]? with
      | some d => if ds.length = d.pars then (match d.own with
          | .pl => runD d.body d.slots ⟨callD prog fa k, fa, S.length⟩ ds S
          | .ow => runK d.body d.slots ⟨callD prog fa k, fa, S.length⟩ ds S
          | .ini c => runI (fa c) d.body d.slots ⟨callD prog fa k, fa, S.length⟩ ds S) else .no
      | none => .no) = _
    rw [hd]
    dsimp only
    rw [if_pos hld, ow]
  rw [z] at wc
  refine hb _ c (fun _ => rfl) PassesOwn.leaving ⟨rfl, rfl⟩ er _ lk' _ tk _ _ _ _ H F A0 _ ?_
  have wc2 : WCI K er y S μ H0 F (runI (fa cn) d.body d.slots ⟨callD prog fa k, fa, S.length⟩ ds S) Q E := wc
  unfold runI at wc2
  dsimp only at wc2
  generalize d.body ⟨callD prog fa k, fa, S.length⟩ ((D.cell S.length :: ds).map some ++ List.replicate (d.slots - (D.cell S.length :: ds).length) none) (S ++ [Ob.ins (fa cn) []]) = r at wc2
  have le1 : S.length < (S ++ [Ob.ins (fa cn) []]).length := by rw [List.length_append]; exact Nat.lt_succ_self _
  cases r with
  | no => exact wc2
  | ex cc x S1 => exact fun fr1 σ1 μ1 H1 F1 cls dx A1 P1 ee => wc2 μ1 H1 F1 cls dx (hs.takeS A1.hs (Pt.trans P1)) (lt (Pt.trans P1).le) (Pt.trans P1).take ee
  | ok p S1 =>
    obtain ⟨fl, fr1⟩ := p
    cases fl with
    | nx => exact fun σ1 μ1 H1 F1 A1 P1 => wc2 μ1 H1 F1 A1.hs rfl (Nat.lt_of_lt_of_le le1 P1.le) ((P1.mu _ le1).trans muS_same) (Pt.trans P1)
    | bk => exact wc2.elim
    | ct => exact wc2.elim
    | rt dd => exact wc2.elim
end
/-! ### properties -/
theorem propB_ok {K : PySem.W.Frag} {C f : Str} (h : propB K C f = true) : PropOf K (He.ga K C) f (He.ma K (He.ga K C) f) (pgAt C f K) := by
  obtain ⟨h1, h⟩ := He.ba h
  obtain ⟨h2, h⟩ := He.ba h
  obtain ⟨h3, h⟩ := He.ba h
  refine ⟨He.eqO_ok h1, He.eqO_ok h2, of_decide_eq_true h3, ?_⟩
  unfold pgAt
  split at h
  · rename_i g rest e
    rw [e]
    exact ⟨rest, rfl⟩
  · cases h
section
variable {fa : List He.Fa} {fn : List He.DefD} {xs : List XD} {file : Str} {ps : List (Str × Str)} {pf : List He5.DefA} {K : PySem.W.Frag}
theorem SaysW.x (c : SaysW fa fn xs file ps pf K) : SaysX fa fn xs file K := congrArg (fun z : AlW => z.1) c
theorem SaysW.p (c : SaysW fa fn xs file ps pf K) {p : Str × Str} (h : p ∈ ps) : propB K p.1 p.2 = true :=
  List.all_eq_true.mp (He.ba (show ((ps.all fun p => propB K p.1 p.2) && pf.all fun d => d.ok K) = true from congrArg (fun z : AlW => z.2.1) c)).1 p h
theorem SaysW.g (c : SaysW fa fn xs file ps pf K) (i : Nat) {d : He5.DefA} (h : pf[i]? = some d := by rfl) : ∃ fd, FunD K d.name d.qual d.params d.body d.scope (d.dvs K) (d.kws K) (d.at_ K) fd := by
  have c2 := (He.ba (show ((ps.all fun p => propB K p.1 p.2) && pf.all fun d => d.ok K) = true from congrArg (fun z : AlW => z.2.1) c)).2
  have e : pf.map (fun d => He5.fnA K (d.at_ K)) = pf.map He5.DefA.val := congrArg (fun z : AlW => z.2.2) c
  have e2 : (pf.map fun d => He5.fnA K (d.at_ K))[i]? = (pf.map He5.DefA.val)[i]? := by rw [e]
  rw [List.getElem?_map, List.getElem?_map, h] at e2
  exact He5.DefA.funD (Option.some.inj e2) (List.all_eq_true.mp c2 d (List.mem_of_getElem? h))
end
/-- parameters without defaults are bound as they come -/
theorem binds_of {K : PySem.W.Frag} {fd : FuncData} {ps : List Str} (h : ∀ (s : Shared) (us : List Value), us.length = ps.length → BindsTo s fd ⟨us, []⟩ (ps.zip us)) : Binds K fd ps [] := fun s us _ hl => by
  rw [List.append_nil] at hl ⊢
  exact h s us hl
end Mi

set_option Elab.async false
set_option linter.all false
set_option maxRecDepth 100000
set_option maxHeartbeats 4000000
/-! Ge1: list(g(..)) of a generator whose last row is a yield from a new list -/
namespace Mi
open PySem PySem.Spec PyProof.Rows L2
/-! ### a list's iterator under yield from -/
section
variable {prog : Program} {w : World} {A : Around} {E : Value → Shared → Prop} {s : Shared}
theorem li_item {it l : Addr} {j : Nat} {vs : Array Value} {x : Value} {Q : Option Value → Shared → Prop} (at1 : s.heap.IsListIter it l j) (ll : s.heap.IsList l vs) (e : vs[j]? = some x) (k : ∀ h2, h2.IsListIter it l (j + 1) → Heap.SameBut it s.heap h2 → Q (some x) { s with heap := h2 }) :
    wpAny (model prog w) A (callSpecial? (.ref it) "__next__") Q E s := by
  obtain ⟨oi, hi, ci, di⟩ := id at1
  obtain ⟨ol, h1, _, nl, d1⟩ := ll
  refine wpAny_callSpecial?_slot (name := Str.ofString "__next__") at1.typeIs slot_listiter_next (wpAny_call_entry slot_listiter_next at1.typeIs entry_listiter_next ?_ (args_listiter_next _))
  show wpAny (model prog w) _ (field (.ref it) 0 >>= _) _ E s
  refine wpAny_bind (wpAny_field hi di (x := .ref l) rfl ?_)
  show wpAny (model prog w) _ (if (Value.ref l == Value.none) = true then _ else _) _ E s
  rw [if_neg (show (Value.ref l == Value.none) ≠ true from Bool.false_ne_true)]
  show wpAny (model prog w) _ (field (.ref it) 1 >>= _) _ E s
  refine wpAny_bind (wpAny_field hi di (x := .int j 0) rfl ?_)
  show wpAny (model prog w) _ (seqItems? (.ref l) >>= _) _ E s
  refine wpAny_bind (wpAny_seqItems h1 d1 ?_)
  simp only [Int.toNat_natCast, e]
  refine wpAny_bind (wpAny_setField hi di (by simp) (wpAny_pure ⟨x, rfl, k _ ⟨_, Heap.get?_update_self _ hi (Obj.isFreed_of_fields (Obj.data_mapFields di _)), (Obj.cls_mapFields ..).trans ci, by rw [Obj.data_mapFields di]; simp [rawInt]⟩ (Heap.SameBut.update ..)⟩))
theorem li_end {it l : Addr} {j : Nat} {vs : Array Value} {Q : Option Value → Shared → Prop} (hh : A.handled = none) (at1 : s.heap.IsListIter it l j) (ll : s.heap.IsList l vs) (e : vs[j]? = none) (k : ∀ ev h2, StopX ev h2 → Heap.ExtBut it s.heap h2 → E ev { s with heap := h2 }) :
    wpAny (model prog w) A (callSpecial? (.ref it) "__next__") Q E s := by
  obtain ⟨oi, hi, ci, di⟩ := id at1
  obtain ⟨ol, h1, _, nl, d1⟩ := ll
  refine wpAny_callSpecial?_slot (name := Str.ofString "__next__") at1.typeIs slot_listiter_next (wpAny_call_entry slot_listiter_next at1.typeIs entry_listiter_next ?_ (args_listiter_next _))
  show wpAny (model prog w) _ (field (.ref it) 0 >>= _) _ E s
  refine wpAny_bind (wpAny_field hi di (x := .ref l) rfl ?_)
  show wpAny (model prog w) _ (if (Value.ref l == Value.none) = true then _ else _) _ E s
  rw [if_neg (show (Value.ref l == Value.none) ≠ true from Bool.false_ne_true)]
  show wpAny (model prog w) _ (field (.ref it) 1 >>= _) _ E s
  refine wpAny_bind (wpAny_field hi di (x := .int j 0) rfl ?_)
  show wpAny (model prog w) _ (seqItems? (.ref l) >>= _) _ E s
  refine wpAny_bind (wpAny_seqItems h1 d1 ?_)
  simp only [Int.toNat_natCast, e]
  refine wpAny_bind (wpAny_rule (wpAny_bind (wpAny_setField hi di (by simp) ?_)))
  show wpAny (model prog w) _ (newExc (.type "StopIteration") [] >>= _) _ E _
  refine wpAny_bind ?_
  simp only [newExc, newTuple]
  refine wpAny_bind (wpAny_newObj_type ?_ (by size_fits))
  refine wpAny_bind (m := firstArgMember _ _) (wpAny_of_eq (a := Value.none) (by first | rfl | (simp only [firstArgMember]; rfl)) (wpAny_newObj_type ?_ (by size_fits)))
  simp only [raiseNew]
  refine wpAny_bind (wpAny_handled ?_)
  first | rw [show A.in1.handled = none from hh] | rw [hh]
  refine wpAny_bind (wpAny_pure (wpAny_throw (k _ _ ⟨_, _, _, rfl, Heap.get?_push_size _ rfl, rfl, rfl, ?_⟩ (((Heap.SameBut.update ..).extBut.push _).push _))))
  first | rfl | (rw [Array.getElem?_append_left (by decide)]; rfl) | kernel_rfl
end
theorem close_li : typeLookup (.type "list_iterator") "close" = pure none := by
  rw [typeLookup_type, builtinLookup_eq_fast]
  kernel_rfl
def tYfL (te : TE) : TYf := fun σ H Q => te σ H fun x H1 => ∃ a xs, x = .ref a ∧ H1 a = some (.lst xs) ∧ Q xs H1
theorem yf_lst {X : Cx} {e : Expr} {te : TE} (he : PE X e te) : YfE X e (tYfL te) := by
  refine ⟨fun pins s σ H Q I want => ?_⟩
  refine thn (he.run pins s σ H _ I want) fun v s1 got => ?_
  obtain ⟨x, H1, I1, r1, a, xs, rfl, ha, hq⟩ := got
  obtain rfl : v = Value.ref a := r1
  obtain ⟨hlen, its, c0, rits, hob⟩ := I1.hok a _ ha
  have il : s1.heap.IsList a its.toArray := ⟨_, hob, rfl, c0, rfl⟩
  refine ⟨"list", il.typeIs, by decide, wpAny_pyIter_list il ?_⟩
  have kp : ∀ b o, s1.heap.get? b = some o → (s1.heap.push { cls := .type "list_iterator", data := .fields #[.ref a, .int 0 0] }).get? b = some o := fun b o e => Heap.get?_push_of_some _ e
  have young : ∀ b o, s1.heap.get? b = some o → b ≠ s1.heap.objs.size := fun b o e => Nat.ne_of_lt (Heap.lt_size e)
  refine ⟨s1.heap.objs.size, H1, xs, fun j h => h.IsListIter s1.heap.objs.size a j ∧ h.IsList a its.toArray, rfl, I1.kept (t' := s1.toks) kp, .inr I1.sz, Nat.ne_of_gt I1.lt, ?_, I1.hok.fresh (Nat.le_refl _), fun p hp => young p.1 _ (I1.pin p hp).1, ⟨⟨_, Heap.get?_push_size _ rfl, rfl, rfl⟩, ⟨_, kp _ _ hob, rfl, c0, rfl⟩⟩, ⟨⟨"list_iterator", ?_, close_li, by decide⟩, ?_, ?_, ?_⟩, hq⟩
  · intro y c hy
    obtain ⟨v, o, ho, _⟩ := I1.cell y c hy
    exact young c o ho
  · rintro j h ⟨⟨o, ho, hc, _⟩, _⟩
    exact ⟨o, ho, hc⟩
  · rintro j h h' ⟨⟨o, ho, r⟩, o2, ho2, r2⟩ hk
    exact ⟨⟨o, hk _ o (.inl rfl) ho, r⟩, o2, hk _ o2 (.inr (by rw [ha]; exact fun z => by cases z)) ho2, r2⟩
  · rintro A' j x s2 Q' E' hA hx ⟨q1, q2⟩ hQ
    obtain ⟨u, hu, ru⟩ := rits.get hx
    have hne : a ≠ s1.heap.objs.size := young a _ hob
    refine li_item q1 q2 (x := u) (by simpa using hu) fun h' q1' hs => hQ u h' s2.toks ru ⟨q1', ?_⟩ fun b o hb eb => hs.extBut b o hb eb
    obtain ⟨o2, ho2, r2⟩ := q2
    exact ⟨o2, hs.extBut _ _ hne ho2, r2⟩
  · rintro A' s2 Q' E' hA ⟨q1, q2⟩ hE
    have hnone : its.toArray[xs.length]? = none := by
      have e := rits.length
      have e2 : its[xs.length]? = none := List.getElem?_eq_none_iff.mpr (by omega)
      simpa using e2
    exact li_end hA q1 q2 hnone fun e h' hS hk => hE e h' s2.toks hS fun b o hb eb => hk b o hb eb
/-! ### the rows ahead of it, and it -/
/-- what is yielded from -/
def yfE (l : List Stmt) : Expr := match l.getLast? with
  | some (.Expr (.YieldFrom e _) _) => e
  | _ => .Name "" ⟨0, 0, 0, 0⟩
def endY (D : GEnds) (ys : List V) : Ends := { nx := fun _ _ => False, rt := fun v H => ∃ a xs, v = .ref a ∧ H a = some (.lst xs) ∧ ys.length + xs.length ≤ sizeLine ∧ ∀ σ, D.nx (ys ++ xs) σ H, bk := fun _ _ => False, ct := fun _ _ => False }
def gT (X : Cx) (e : Expr) : List Stmt → TGn
  | [] => tGThen (tGFrom (tYfL (semE X e))) tG0
  | s :: l => tGThen (tPlain (semSt X s)) (gT X e l)
theorem gss_l {X : Cx} {e : Expr} {yp pos : Pos} (hc : X.A.handled = none) (hi : interactive X.env = false) : ∀ l : List Stmt, GSs X (l ++ [.Expr (.YieldFrom e yp) pos]) (gT X e l)
  | [] => gss_cons (gs_yieldFrom (yf_lst pe_sem) hc hi) gss_nil
  | s :: l => gss_cons (gs_ps ps_semSt) (gss_l hc hi l)
/-- one row, then the rest; a row ahead of the yield hands nothing back -/
def Z.seqG (f g : XB) : XB := fun q fr S => (f q fr S).bnd fun p S1 => match p.1 with
  | .nx => g q p.2 S1
  | _ => .no
def SemGr (X : Cx) (gi : GI) (k : Nat) (l : List Stmt) (e : Expr) (f : XB) : Prop := ∀ er q, Lnk X gi k er q → ∀ W, Takes X W → ∀ fr S μ σ H F, Ab X.K fr S μ σ H F → ∀ (D : GEnds) (ys : List V), WS X.K er W q.L S μ H F (f q fr S) (endY D ys) → gT X e l D ys σ H
section
variable {X : Cx} {gi : GI} {k : Nat} {s : Stmt} {rest : List Stmt} {fb gb : XB} {e : Expr} {fe : XE}
theorem semgr_last (h : SemE X gi k e fe) : SemGr X gi k [] e (Z.seq (Z.ret fe) Z.skip) := by
  intro er q lk W tk fr S μ σ H F A D ys w
  have w1 : WS X.K er W q.L S μ H F ((fe q fr S).bnd fun (d : Mi.D) S1 => Mi.R.ok (Fl.rt d, fr) S1) (endY D ys) := by
    have w0 : WS X.K er W q.L S μ H F (((fe q fr S).bnd fun (d : Mi.D) S1 => Mi.R.ok (Fl.rt d, fr) S1).bnd fun (p : Fl × Frame) S1 => match p.1 with
      | .nx => Z.skip q p.2 S1
      | f => .ok (f, p.2) S1) (endY D ys) := w
    rw [bnd_assoc] at w0
    exact w0
  refine h.run lk tk A w1 fun d S1 μ1 H1 F1 v as A1 P1 r1 o1 w2 => ?_
  obtain ⟨a, xs, rfl, ha, hl, hn⟩ := w2 σ μ1 H1 F1 A1 P1 v as r1 o1
  exact ⟨a, xs, rfl, ha, hl, hn σ⟩
theorem semgr_cons (h1 : SemS X gi k s fb) (h2 : SemGr X gi k rest e gb) : SemGr X gi k (s :: rest) e (Z.seqG fb gb) := by
  intro er q lk W tk fr S μ σ H F A D ys w
  have w1 : WS X.K er W q.L S μ H F ((fb q fr S).bnd fun p S1 => match p.1 with
    | .nx => gb q p.2 S1
    | _ => .no) (endY D ys) := w
  refine h1 er q lk W tk fr S μ σ H F A _ ?_
  cases ef : fb q fr S with
  | no => rw [ef] at w1; exact w1
  | ex c x S1 => rw [ef] at w1; exact w1
  | ok p S1 =>
    rw [ef] at w1
    obtain ⟨fl, fr1⟩ := p
    cases fl with
    | nx => exact fun σ1 μ1 H1 F1 A1 P1 => h2 er q lk W tk fr1 S1 μ1 σ1 H1 F1 A1 D ys (WS.later w1 P1)
    | bk => exact w1.elim
    | ct => exact w1.elim
    | rt d => exact w1.elim
end
/-- the def n is run -/
def Z.wake (n : Nat) : XB := fun q fr S => match q.call n (fr.filterMap id) S with
  | .ok (.new xs) S1 => if xs.length ≤ okL then .ok (.rt (.new xs), fr) S1 else .no
  | .ex c x S1 => .ex c x S1
  | _ => .no
/-- what a generator's body comes to -/
def genR (r : R (Fl × Frame)) (S : Store) : R D := match r with
  | .ok (.rt d, _) S1 => match mv 6 S1 S.length [] d with
    | some (.new xs, _) => if xs.length ≤ okL then .ok (.new xs) (S1.take S.length) else .no
    | _ => .no
  | .ex c x S1 => .ex c x (S1.take S.length)
  | _ => .no
section
variable {P : Program} {w : World} {K : PySem.W.Frag} {mg : Str → Option Value} {base : Heap} {er : ER} {prog : List Def} {fa : Nat → Addr}
theorem wake_run {n nW m : Nat} {b : XB} {slots k : Nat} {ds : List D} {S : Store} (hW : prog[nW]? = some ⟨Z.wake n, m, m, .pl⟩) (hd : prog[n]? = some ⟨b, slots, m, .pl⟩) (hl : ds.length = m) :
    callD prog fa (k + 2) nW ds S = genR (b ⟨callD prog fa k, fa, S.length⟩ (ds.map some ++ List.replicate (slots - ds.length) none) S) S := by
  have e1 : callD prog fa (k + 2) nW ds S = runD (Z.wake n) m ⟨callD prog fa (k + 1), fa, S.length⟩ ds S := by
    show (match prog[nW]? with
      | some d => if ds.length = d.pars then (match d.own with
          | .pl => runD d.body d.slots ⟨callD prog fa (k + 1), fa, S.length⟩ ds S
          | .ow => runK d.body d.slots ⟨callD prog fa (k + 1), fa, S.length⟩ ds S
          | .ini c => runI (fa c) d.body d.slots ⟨callD prog fa (k + 1), fa, S.length⟩ ds S) else .no
      | none => .no) = _
    rw [hW]
    exact if_pos hl
  have e2 : callD prog fa (k + 1) n ds S = runD b slots ⟨callD prog fa k, fa, S.length⟩ ds S := by
    show (match prog[n]? with
      | some d => if ds.length = d.pars then (match d.own with
          | .pl => runD d.body d.slots ⟨callD prog fa k, fa, S.length⟩ ds S
          | .ow => runK d.body d.slots ⟨callD prog fa k, fa, S.length⟩ ds S
          | .ini c => runI (fa c) d.body d.slots ⟨callD prog fa k, fa, S.length⟩ ds S) else .no
      | none => .no) = _
    rw [hd]
    exact if_pos hl
  have e3 : (ds.map some ++ List.replicate (m - ds.length) none : Frame).filterMap id = ds := by
    rw [hl, Nat.sub_self, List.replicate_zero, List.append_nil, List.filterMap_map]
    exact List.filterMap_some
  rw [e1]
  unfold runD
  dsimp only
  unfold Z.wake
  dsimp only
  rw [e3, e2]
  unfold runD
  dsimp only
  generalize b ⟨callD prog fa k, fa, S.length⟩ (ds.map some ++ List.replicate (slots - ds.length) none) S = r
  cases r with
  | no => rfl
  | ex c x S1 =>
    dsimp only
    rw [List.take_take, Nat.min_self]
    rfl
  | ok p S1 =>
    obtain ⟨fl, fr1⟩ := p
    cases fl with
    | nx => rfl
    | bk => rfl
    | ct => rfl
    | rt d =>
      unfold genR
      dsimp only
      cases em : mv 6 S1 S.length [] d with
      | some pe =>
        obtain ⟨d2, sn⟩ := pe
        cases d2 <;> try rfl
        rename_i xs
        dsimp only
        by_cases hx : xs.length ≤ okL
        · rw [if_pos hx, if_pos hx]
          dsimp only
          rw [mv_new]
          dsimp only
          rw [List.take_take, Nat.min_self]
        · rw [if_neg hx, if_neg hx]
      | none =>
        dsimp only
        cases ek : mvd S1 S.length d with
        | some kvs => rfl
        | none => rfl
theorem gen_ok {gi : GI} (gi0 : Option (List Code) → GI) {n nW : Nat} {x qual : Str} {params : Arguments} {body l : List Stmt} {e : Expr} {yp pos : Pos} {scope : Scope} {f : Addr} {fd : FuncData} {N ps : List Str} {b : XB} {slots : Nat}
    (FD : FunD K x qual params body scope [] [] f fd) (Sc : GScope N ps scope) (hbody : body = l ++ [.Expr (.YieldFrom e yp) pos]) (hW : prog[nW]? = some ⟨Z.wake n, ps.length, ps.length, .pl⟩) (hd : prog[n]? = some ⟨b, slots, ps.length, .pl⟩) (hN : N.length = slots)
    (hgd : ∀ gd, (gi0 gd).gd = gd) (bi : ∀ gd, ∀ x ∈ (gi0 gd).bs, mg x = none) (cs : ∀ gd, ∀ p ∈ (gi0 gd).cs, ∃ u, mg p.1 = some u ∧ cV p.2 u)
    (hb : ∀ gd X k, Cok X (gi0 gd) k N scope → (∀ x, X.fn x = true) → PassesOwn (model X.prog X.w) X.A X.env X.xe → (X.stack = X.env :: X.outer ∧ X.env.frame = some X.env.locals) → SemGr X (gi0 gd) k l e b)
    (lk : ∀ gd k L, LnkP P w K mg base (gi0 gd) k er ⟨callD prog fa k, fa, L⟩) (bd : Binds K fd ps []) (hm : mg x = some (.ref f)) : GenOk P w K mg base gi er prog fa ⟨x, ps, nW⟩ := by
  refine ⟨f, fd, hm, FD.kp, bd, fun k => ?_⟩
  have none_ : ∀ k, k ≤ 1 → ∀ ds S, callD prog fa k nW ds S = .no := fun k hk ds S => by
    match k, hk with
    | 0, _ => rfl
    | 1, _ =>
      show (match prog[nW]? with
        | some d => if ds.length = d.pars then (match d.own with
            | .pl => runD d.body d.slots ⟨callD prog fa 0, fa, S.length⟩ ds S
            | .ow => runK d.body d.slots ⟨callD prog fa 0, fa, S.length⟩ ds S
            | .ini c => runI (fa c) d.body d.slots ⟨callD prog fa 0, fa, S.length⟩ ds S) else .no
        | none => .no) = _
      rw [hW]
      dsimp only
      split
      · rfl
      · rfl
  have empty : ∀ k, k ≤ 1 → GnG P w K mg base 0 f fd ps (spG K er (callD prog fa k nW) ps.length) := fun k hk =>
    ⟨fun vs H Q E h => h.1, fun A outer s H args us vs Q E hr e0 hb r hsp => by
      obtain ⟨_, ds, S, μ, F, _, _, wc⟩ := hsp
      rw [none_ k hk] at wc
      exact wc.elim⟩
  match k with
  | 0 => exact empty 0 (Nat.zero_le _)
  | 1 => exact empty 1 (Nat.le_refl _)
  | k + 2 =>
    rw [show 3 * (k + 2) - 3 = (3 * k + 2) + 1 from by omega]
    obtain ⟨oc, od, dV, kV, doc, pm, an, cdv, ct, osl, rfl, lkp, hcd, -, -⟩ := FD.ex
    refine gfn_of lkp hcd Sc (fun vs H Q E h => h.1) fun A outer s H vs Q E pn hr hsp => ?_
    obtain ⟨hv, ds, S, μ, F, hs, rc, wc⟩ := hsp
    have hl : ds.length = ps.length := rc.length.symm.trans hv
    rw [wake_run hW hd hl] at wc
    subst hbody
    have c : Cok (gcxOf P w K mg base N qual scope f cdv A outer s H E pn) (gi0 A.guards) k N scope := ⟨rfl, rfl, Sc.nd, rfl, (hgd A.guards).symm, room_le (by omega) hr, bi _, cs _⟩
    refine ⟨_, gss_l (e := e) (yp := yp) (pos := pos) c.rm.hd (by
      show (scope.kind == .module && _) = false
      rw [Sc.kind]
      rfl) l, ?_⟩
    have lk' : Lnk (gcxOf P w K mg base N qual scope f cdv A outer s H E pn) (gi0 A.guards) k er ⟨callD prog fa k, fa, S.length⟩ := ⟨(lk _ k S.length).df, (lk _ k S.length).xo, (lk _ k S.length).ta, (lk _ k S.length).co⟩
    have A0 : Ab K (ds.map some ++ List.replicate (slots - ds.length) none) S μ (L2.start N vs) H F := start_ab hs rc hN
    have lt : ∀ {S1 : Store}, S.length ≤ S1.length → (S1.take S.length).length = S.length := fun h => by rw [List.length_take, Nat.min_eq_left h]
    refine hb _ _ k c (fun _ => rfl) owns_gcx ⟨rfl, rfl⟩ er _ lk' _ takes_gcx _ S μ _ H F A0 _ _ ?_
    unfold genR at wc
    generalize b ⟨callD prog fa k, fa, S.length⟩ (ds.map some ++ List.replicate (slots - ds.length) none) S = r at wc ⊢
    cases r with
    | no => exact wc
    | ex cc x S1 => exact fun fr1 σ1 μ1 H1 F1 cls dx A1 P1 ee => wc μ1 H1 F1 cls dx (hs.takeS A1.hs P1) (lt P1.le) P1.take ee
    | ok p S1 =>
      obtain ⟨fl, fr1⟩ := p
      cases fl with
      | nx => exact wc.elim
      | bk => exact wc.elim
      | ct => exact wc.elim
      | rt d =>
        intro σ1 μ1 H1 F1 A1 P1 v as r o
        dsimp only at wc
        cases em : mv 6 S1 S.length [] d with
        | none =>
          rw [em] at wc
          exact wc.elim
        | some pe =>
          obtain ⟨d2, sn⟩ := pe
          rw [em] at wc
          obtain ⟨as', r', -, -, -⟩ := mv_ok 6 em A1.hs r o
          cases d2 <;> try exact wc.elim
          rename_i xs
          dsimp only at wc
          split at wc
          case isFalse => exact wc.elim
          rename_i hx
          have wc : WCG K er S μ H F (.ok (.new xs) (S1.take S.length)) Q E := wc
          cases r' with
          | c r => cases r
          | new h1 h2 =>
            rename_i a us
            have hl : us.length ≤ sizeLine := by
              rw [h2.length]
              exact Nat.le_trans hx (by decide)
            exact ⟨a, us, rfl, h1, by rw [List.length_nil, Nat.zero_add]; exact hl, fun _ => wc us μ1 H1 F1 (hs.takeS A1.hs P1) (lt P1.le) P1.take h2 hl⟩
end
/-- .. and it is no StopIteration -/
def wStop (K : PySem.W.Frag) (W : WX) : WX := fun cls d σ H => W cls d σ H ∧ PySem.W.subIn K cls (.type "StopIteration") = some false
theorem sub_stop {K : PySem.W.Frag} {C : Addr} {cd : ClassData} {le : Bool} (h : PySem.W.clsIn K C = some cd) (m : cd.mro = .ref C :: bTail le) : PySem.W.subIn K (.ref C) (.type "StopIteration") = some false := by
  show (PySem.W.clsIn K C).bind _ = _
  rw [h]
  show (if cd.mro.isEmpty then none else some (cd.mro.contains _)) = _
  rw [m]
  cases le <;> rfl
theorem pe_lgen {X : Cx} {k : Nat} {f : Addr} {fd : FuncData} {ps : List Str} {sp : SpG} {W : WX} {g nm : Str} {e : Expr} {es : List Expr} {t : TA} {p p2 pos pos2 : Pos} (F : GnG X.prog X.w X.K X.mg X.base k f fd ps sp) (tk : Takes X W) (hr : Room (k + 3) X.A)
    (hg : Gl X g) (hm : X.mg g = some (.ref f)) (hk : PySem.W.keepIn X.K (.ref f) = true) (hb : Binds X.K fd ps []) (nl : Bi X nm (.type "list")) (ha : PA X (e :: es) t) (hdb : (g == ("__debug__" : Str)) = false) (he : starEach (e :: es) X.env = (false, eval e X.env) :: starEach es X.env) (hpl : (backTo pos2 (starEach es X.env)).any (·.1) = false)
    (hs : starEach [.Call (.Name g p2) (e :: es) [] pos2] X.env = (false, eval (.Call (.Name g p2) (e :: es) [] pos2) X.env) :: starEach [] X.env) :
    PE X (.Call (.Name nm p) [.Call (.Name g p2) (e :: es) [] pos2] [] pos) (fun σ H Q => t σ H fun vs H1 => sp (vs ++ []) H1 (fun ys H2 => ∀ p, H2 p = none → Q (.ref p) (upd H2 p (.lst ys))) (WE (wStop X.K W) σ)) := by
  refine ⟨fun pins s σ H Q I want => wpAny_Call_Name_kw (ld_blt I nl.g nl.m nl.b ?_ nl.n nl.d)⟩
  refine PyProof.Rows.callWith_type1 ?_ hs rfl
  rw [hs]
  refine Calls.spliced_cons (thn ((pgen_call (E := WE (wStop X.K W) σ) F (Room.mono hr (by omega)) hg hm hk hb .nil ha hdb he hpl).run pins s σ H _ I want) fun u s1 got => ?_)
  obtain ⟨H1, sc, ex, I1, hex, hG⟩ := got
  have hsz : sc.heap.objs.size ≤ s1.heap.objs.size := by
    obtain ⟨a, g, c, _, h1, h2, _⟩ := hG
    exact Nat.le_trans h1 (Nat.le_of_lt h2)
  refine Calls.spliced_nil (call_list_new hr I1.ok.frames hG (fun L s' acc cap H' ys q0 q1 q2 hl q3 q4 q5 q6 q7 q8 => ⟨.ref L, upd H' L (.lst ys), I1.drained (Nat.le_trans hsz q0) hl q1 q2 hex q3 q4 q5 q6 q7, rfl, q8 L q7⟩) fun ev s' gn hc => ?_)
  have kin : X.K.In s'.heap := by
    obtain ⟨a, B, H', cls, d, _, fl, _, ub, _⟩ := id hc
    refine I1.ok.mod.kin.keeps fun b o eb => fl.1 b o (ub.keep b o (I1.bs b o eb).1 (I1.bs b o eb).2 ?_)
    intro hm
    rcases List.mem_cons.mp (I1.stkSub b hm) with z | z
    · have h1 := Heap.lt_size eb
      rw [z] at h1
      exact Nat.lt_irrefl _ (Nat.lt_of_lt_of_le h1 (Nat.le_trans I1.ok.bsz I1.ok.above))
    · exact I1.ok.nofr eb z
  refine ⟨notStop_of (E := WE (wStop X.K W) σ) (fun cls d H hq => hq.2) kin hc, passAt tk σ pins H1 sc ev (s'.setGen gn .finished) I1 ?_⟩
  obtain ⟨a, B, H', cls, d, z1, fl, z2, ub, z3, z4, z5, z6⟩ := hc
  exact ⟨a, B, H', cls, d, z1, fl, z2, ub, z3, z4, allBare_setGen z5 rfl, z6.1⟩
namespace Z
def lgen (n : Nat) (h : XA) : XE := fun q fr S => (h q fr S).bnd fun ds S1 => match mapO arg ds with
  | some es => match q.call n es S1 with
    | .ok (.new xs) S2 => .ok (.new xs) S2
    | .ex c x S2 => .ex c x S2
    | _ => .no
  | none => .no
end Z
section
variable {X : Cx} {gi : GI} {k : Nat} {N : List Str} {sc : Scope}
theorem sem_lgen {x nm : Str} {g : GnI} {e : Expr} {es : List Expr} {fa : XA} {p p2 pos pos2 : Pos} (c : Cok X gi k N sc) (hg : sc.names.lookup x = some .globalImplicit) (hm : g ∈ gi.ge) (hx : g.name = x) (nl : Bi X nm (.type "list")) (ha : SemA X gi k (e :: es) fa) (hl : (e :: es).length = g.ps.length) (hdb : (x == ("__debug__" : Str)) = false)
    (he : starEach (e :: es) X.env = (false, eval e X.env) :: starEach es X.env) (hpl : (backTo pos2 (starEach es X.env)).any (·.1) = false) (hs : starEach [.Call (.Name x p2) (e :: es) [] pos2] X.env = (false, eval (.Call (.Name x p2) (e :: es) [] pos2) X.env) :: starEach [] X.env) :
    SemE X gi k (.Call (.Name nm p) [.Call (.Name x p2) (e :: es) [] pos2] [] pos) (Z.lgen g.n fa) := by
  intro er q lk W tk fr S μ σ H F A Q w
  subst hx
  obtain ⟨f, fd, h1, h2, h3, h4⟩ := lk.co.ge g hm
  cases k with
  | zero =>
    have none_ := lk.co.z rfl
    have P : PE X (.Call (.Name nm p) [.Call (.Name g.name p2) (e :: es) [] pos2] [] pos) (fun σ H Q => semA X (e :: es) σ H fun _ _ => False) := by
      refine ⟨fun pins s σ H Q I want => wpAny_Call_Name_kw (ld_blt I nl.g nl.m nl.b ?_ nl.n nl.d)⟩
      refine PyProof.Rows.callWith_type1 ?_ hs rfl
      rw [hs]
      refine Calls.spliced_cons (wpAny_Call_Name_kw (ld_glob I (c.gl hg) h1 ?_ hdb))
      exact PySem.W.callWith_K (h₀ := X.base) I.ok.mod.kin h2 (thn (pa_sem.run pos2 pins s σ H (fun _ _ => False) I want) fun us s1 ⟨vs, H2, I2, r, q⟩ => q.elim) he hpl
    refine ⟨_, P, ha.go lk tk A .refl w fun ds S1 μ1 H1 F1 vs as A1 P1 r1 o1 l1 w1 => ?_⟩
    split at w1
    · rw [none_] at w1
      exact w1.elim
    · exact w1.elim
  | succ k =>
    refine ⟨_, pe_lgen (W := W) h4 tk (Room.mono c.rm (by omega)) (c.gl hg) h1 h2 h3 nl pa_sem hdb he hpl hs, ha.go lk tk A .refl w fun ds S1 μ1 H1 F1 vs as A1 P1 r1 o1 l1 w1 => ?_⟩
    split at w1
    case h_2 => exact w1.elim
    rename_i ds2 e1
    obtain ⟨F', _, A2, P2, rc⟩ := mapO_arg A1 P1 r1 o1 e1
    rw [List.append_nil]
    refine ⟨l1.trans hl, ds2, S1, μ1, F', A2.hs, rc, ?_⟩
    cases e3 : q.call g.n ds2 S1 with
    | no =>
      rw [e3] at w1
      exact w1.elim
    | ok d S' =>
      rw [e3] at w1
      cases d <;> try exact w1.elim
      rename_i xs
      intro us μ' H' F2 hs' hl' P' rep hlen p hp
      have P3 := P'.any (L := q.L)
      exact giveN w1 (A2.hsof P' hs') (P2.trans P3) hp rep
    | ex cc y S' =>
      rw [e3] at w1
      intro μ' H' F2 cls dx hs' hl' P' ee
      have P3 := P'.any (L := q.L)
      refine ⟨w1 μ' H' F2 cls dx (A2.hsof P' hs') (P2.trans P3) ee, ?_⟩
      rw [lk.xo.er] at ee
      rcases ee with ⟨nm, fl, dd, u, hmem, hfd, rfl, -⟩ | ⟨nm, hmem, rfl, -⟩
      · obtain ⟨fI, T⟩ := lk.xo.own _ hmem hfd
        obtain ⟨le, ⟨cd, h5, h6, -⟩, -⟩ := T.bx
        exact sub_stop h5 h6
      · obtain ⟨le, cd, h5, h6⟩ := (lk.xo.ownE _ hmem rfl).mr
        exact sub_stop h5 h6
end
end Mi

set_option Elab.async false
set_option linter.all false
set_option maxRecDepth 100000
set_option maxHeartbeats 4000000
/-! Ge2: sorted of a list of lists of whole numbers -/
namespace Mi
open PySem PySem.W PySem.Calls PyProof.Rows PySem.HandSPX PySem.Spec L2
/-- .. as sorted puts them -/
def sortLL (rows : List (List Int)) : List (List Int) := rows.mergeSort (dataLe false Datum.toD)
theorem sortLL_perm (rows : List (List Int)) : (sortLL rows).Perm rows := List.mergeSort_perm _ _
def sortLD (x : D) (S : Store) : R D := match (sq S x).bind asLL with
  | some rows => if T.oks (rows.map dnI) = true then .ok (.new ((sortLL rows).map dnI)) S else .no
  | none => .no
theorem alike_ints : ∀ r s : List Int, alikeAll (r.map Datum.toD) (s.map Datum.toD) = true
  | [], [] => by unfold alikeAll; rfl
  | [], _ :: _ => by unfold alikeAll; rfl
  | _ :: _, [] => by unfold alikeAll; rfl
  | a :: r, b :: s => by
    show alikeAll (PyData.int a :: r.map Datum.toD) (PyData.int b :: s.map Datum.toD) = true
    unfold alikeAll
    rw [alike_ints r s]
    unfold alike
    rfl
theorem alike_rows (r s : List Int) : alike (Datum.toD r) (Datum.toD s) = true := by
  show alike (.list (r.map Datum.toD)) (.list (s.map Datum.toD)) = true
  unfold alike
  exact alike_ints r s
theorem each_two {α β γ : Type} {P : α → β → Prop} {G : α → γ → Prop} : ∀ {as : List α} {bs : List β} {cs : List γ}, Paired P as bs → EachIs G as cs → EachIs (fun b c => ∃ a, P a b ∧ G a c) bs cs
  | _, _, _, .nil, .nil => .nil
  | _, _, _, .cons h t, .cons h' t' => .cons ⟨_, h, h'⟩ (each_two t t')
theorem each_back {α β γ : Type} {P : α → β → Prop} {G : α → γ → Prop} : ∀ {bs : List β} {cs : List γ}, EachIs (fun b c => ∃ a, P a b ∧ G a c) bs cs → ∃ as : List α, Paired P as bs ∧ EachIs G as cs
  | _, _, .nil => ⟨[], .nil, .nil⟩
  | _, _, .cons ⟨a, h, h'⟩ t => by
    obtain ⟨as, h1, h2⟩ := each_back t
    exact ⟨a :: as, .cons h h1, .cons h' h2⟩
theorem each_reads {h : Heap} : ∀ {us : List Value} {rows : List (List Int)} {as : List Addr}, ReadsAll h us (rows.map Datum.toD) as → EachIs (fun v b => ∃ as, Reads h v (Datum.toD b) as) us rows
  | us, [], as, r => by
    cases us with
    | nil => exact .nil
    | cons => cases r
  | us, x :: rows, as, r => by
    cases us with
    | nil => cases r
    | cons u us =>
      cases r with
      | cons a1 a2 => exact .cons ⟨_, a1⟩ (each_reads a2)
section
variable {X : Cx} {K : PySem.W.Frag}
theorem cr_sortL (hu : X.A.units + 64 < cLine) : CallR X (.builtin "sorted") (fun vs H Q => ∃ (a : Addr) (us : List V) (rows : List (List Int)) (G : V → List Int → Prop), vs = [V.ref a] ∧ H a = some (.lst us) ∧ RepL X.K (Now H) us (rows.map dnI) ∧ T.oks (rows.map dnI) = true ∧ EachIs G us rows ∧ ∀ (ys : List V) (p : Addr), EachIs G ys (sortLL rows) → H p = none → Q (.ref p) (upd H p (.lst ys))) := by
  intro pins s σ H vs us Q I r h
  obtain ⟨a, vs', rows, G, rfl, ha, rp, hok, hg, q⟩ := h
  rw [Vals.ref1 r]
  obtain ⟨its, rv, hl, hsz⟩ := I.list (SqL.of ha)
  obtain ⟨as, rd⟩ := Dp.readsAll I (T.pys (rows.map dnI)) vs' its (oks_dp hok rp) rv
  rw [py_rows] at rd
  have hlen : vs'.length = rows.length := by rw [rp.length, List.length_map]
  refine sorted_data (bs := rows) (enc := Datum.toD) (R := fun v r => ∃ u, RelV u v ∧ G u r) hl.isList (each_two rv hg) (each_reads rd) (AllAlike.of alike_rows) (.inr fun d hd => ?_) (by rw [← hlen]; exact hsz) (fun b _ => ?_) fun out e1 e2 => ?_
  · obtain ⟨r, _, rfl⟩ := List.mem_map.mp hd
    exact ⟨(fun z => by cases z), (fun xs z => by cases z)⟩
  · have h1 : (Datum.toD b : PyData).depth ≤ 1 := Datum.depth_le b
    omega
  · obtain ⟨ys, h1, h2⟩ := each_back e2
    obtain ⟨e, he⟩ := sortedAll_at s.heap its out.toArray
    have hy : ys.length ≤ sizeLine := by
      have h3 : ys.length = out.length := h1.length
      rw [h3, e1, ← hlen]
      exact hsz
    exact ⟨.ref (s.heap.objs.size + 1), _, I.laid (a := s.heap.objs.size + 1) (o := .lst ys) (t' := s.toks) (fun b u hb => sortedAll_old hb) (Nat.le_succ _) ⟨hy, out, e, h1, he⟩, rfl, q ys _ h2 (I.hok.fresh (Nat.le_succ _))⟩
theorem repL_each {G : Lk} : ∀ {us : List V} {rows : List (List Int)}, RepL K G us (rows.map dnI) → EachIs (fun u r => Rep K G u (dnI r)) us rows
  | us, [], h => by
    cases h
    exact .nil
  | us, r :: rows, h => by
    cases h with
    | cons h1 h2 => exact .cons h1 (repL_each h2)
theorem each_repL {G : Lk} : ∀ {us : List V} {rows : List (List Int)}, EachIs (fun u r => Rep K G u (dnI r)) us rows → RepL K G us (rows.map dnI)
  | _, _, .nil => .nil
  | _, _, .cons h t => .cons h (each_repL t)
theorem sortLS (hu : X.A.units + 64 < cLine) : CalS X (.builtin "sorted") sortLD := by
  refine ⟨_, cr_sortL hu, ?_⟩
  intro er W L fr σ S0 S μ0 μ H0 F0 H F Q x v as A P r1 o hw
  unfold sortLD at hw
  split at hw
  · rename_i rows e
    split at hw
    case isFalse => exact hw.elim
    rename_i hok
    cases q : sq S x with
    | none =>
      rw [q] at e
      cases e
    | some xs =>
      rw [q] at e
      have ex := asLL_eq e
      subst ex
      obtain ⟨p, vs, rfl, h1, h2⟩ := sq_rep A.hs r1 q
      exact ⟨p, vs, rows, _, rfl, h1, repL_rd A.hs.sub h2, hok, repL_each h2, fun ys p h3 hp => giveN hw A P hp (each_repL h3)⟩
  · exact hw.elim
end
end Mi

set_option Elab.async false
set_option linter.all false
set_option maxRecDepth 100000
set_option maxHeartbeats 4000000
namespace Lw
open PySem PySem.Spec PyProof.Rows L2 Mi
abbrev pw : Program := PySem.Challenge.pw_midwalk_k11_whole_numbers_of_lists_befor
def top (i : Nat) : Stmt := pw.main.body.getD i (.Pass ⟨0, 0, 0, 0⟩)
abbrev s_is_whole : Stmt := top 9
abbrev N_is_whole : List Str := [("thing" : Str)]
abbrev P_is_whole : List Str := [("thing" : Str)]
abbrev sc_is_whole : Scope := defScope s_is_whole
theorem fs_is_whole : FnScope N_is_whole P_is_whole sc_is_whole := ⟨rfl, rfl, rfl, by decide +kernel, rfl, by decide +kernel, by decide +kernel⟩
abbrev F_is_whole (K : PySem.W.Frag) (f : Addr) (fd : FuncData) : Prop := FunD K "is_whole" "is_whole" (defArgs s_is_whole) (defBody s_is_whole) sc_is_whole [] [] f fd
abbrev s_is_list_up_to : Stmt := top 11
abbrev N_is_list_up_to : List Str := [("thing" : Str), ("most" : Str)]
abbrev P_is_list_up_to : List Str := [("thing" : Str), ("most" : Str)]
abbrev sc_is_list_up_to : Scope := defScope s_is_list_up_to
theorem fs_is_list_up_to : FnScope N_is_list_up_to P_is_list_up_to sc_is_list_up_to := ⟨rfl, rfl, rfl, by decide +kernel, rfl, by decide +kernel, by decide +kernel⟩
abbrev F_is_list_up_to (K : PySem.W.Frag) (f : Addr) (fd : FuncData) : Prop := FunD K "is_list_up_to" "is_list_up_to" (defArgs s_is_list_up_to) (defBody s_is_list_up_to) sc_is_list_up_to [] [] f fd
abbrev s_first_wrong_mark : Stmt := top 12
abbrev N_first_wrong_mark : List Str := [("marked" : Str), ("index" : Str), ("number" : Str)]
abbrev P_first_wrong_mark : List Str := [("marked" : Str)]
abbrev sc_first_wrong_mark : Scope := defScope s_first_wrong_mark
theorem fs_first_wrong_mark : FnScope N_first_wrong_mark P_first_wrong_mark sc_first_wrong_mark := ⟨rfl, rfl, rfl, by decide +kernel, rfl, by decide +kernel, by decide +kernel⟩
abbrev F_first_wrong_mark (K : PySem.W.Frag) (f : Addr) (fd : FuncData) : Prop := FunD K "first_wrong_mark" "first_wrong_mark" (defArgs s_first_wrong_mark) (defBody s_first_wrong_mark) sc_first_wrong_mark [] [] f fd
abbrev s_first_not_whole : Stmt := top 13
abbrev N_first_not_whole : List Str := [("things" : Str), ("index" : Str), ("thing" : Str)]
abbrev P_first_not_whole : List Str := [("things" : Str)]
abbrev sc_first_not_whole : Scope := defScope s_first_not_whole
theorem fs_first_not_whole : FnScope N_first_not_whole P_first_not_whole sc_first_not_whole := ⟨rfl, rfl, rfl, by decide +kernel, rfl, by decide +kernel, by decide +kernel⟩
abbrev F_first_not_whole (K : PySem.W.Frag) (f : Addr) (fd : FuncData) : Prop := FunD K "first_not_whole" "first_not_whole" (defArgs s_first_not_whole) (defBody s_first_not_whole) sc_first_not_whole [] [] f fd
abbrev s_check_values : Stmt := top 14
abbrev N_check_values : List Str := [("values" : Str), ("wrong" : Str)]
abbrev P_check_values : List Str := [("values" : Str)]
abbrev sc_check_values : Scope := defScope s_check_values
theorem fs_check_values : FnScope N_check_values P_check_values sc_check_values := ⟨rfl, rfl, rfl, by decide +kernel, rfl, by decide +kernel, by decide +kernel⟩
abbrev F_check_values (K : PySem.W.Frag) (f : Addr) (fd : FuncData) : Prop := FunD K "check_values" "check_values" (defArgs s_check_values) (defBody s_check_values) sc_check_values [] [] f fd
abbrev s_check_marked : Stmt := top 15
abbrev N_check_marked : List Str := [("marked" : Str), ("wrong" : Str)]
abbrev P_check_marked : List Str := [("marked" : Str)]
abbrev sc_check_marked : Scope := defScope s_check_marked
theorem fs_check_marked : FnScope N_check_marked P_check_marked sc_check_marked := ⟨rfl, rfl, rfl, by decide +kernel, rfl, by decide +kernel, by decide +kernel⟩
abbrev F_check_marked (K : PySem.W.Frag) (f : Addr) (fd : FuncData) : Prop := FunD K "check_marked" "check_marked" (defArgs s_check_marked) (defBody s_check_marked) sc_check_marked [] [] f fd
abbrev s_longest_gone : Stmt := top 22
abbrev N_longest_gone : List Str := [("passes" : Str)]
abbrev P_longest_gone : List Str := [("passes" : Str)]
abbrev sc_longest_gone : Scope := defScope s_longest_gone
theorem fs_longest_gone : FnScope N_longest_gone P_longest_gone sc_longest_gone := ⟨rfl, rfl, rfl, by decide +kernel, rfl, by decide +kernel, by decide +kernel⟩
abbrev F_longest_gone (K : PySem.W.Frag) (f : Addr) (fd : FuncData) : Prop := FunD K "longest_gone" "longest_gone" (defArgs s_longest_gone) (defBody s_longest_gone) sc_longest_gone [] [] f fd
abbrev s_number_before : Stmt := top 23
abbrev N_number_before : List Str := [("marked" : Str), ("values" : Str), ("passes" : Str), ("kinds" : Str), ("gone" : Str), ("left" : Str), ("ends" : Str), ("value" : Str), ("length" : Str)]
abbrev P_number_before : List Str := [("marked" : Str), ("values" : Str), ("passes" : Str)]
abbrev sc_number_before : Scope := defScope s_number_before
theorem fs_number_before : FnScope N_number_before P_number_before sc_number_before := ⟨rfl, rfl, rfl, by decide +kernel, rfl, by decide +kernel, by decide +kernel⟩
abbrev F_number_before (K : PySem.W.Frag) (f : Addr) (fd : FuncData) : Prop := FunD K "number_before" "number_before" (defArgs s_number_before) (defBody s_number_before) sc_number_before [] [] f fd
abbrev s_power : Stmt := top 24
abbrev N_power : List Str := [("base" : Str), ("exponent" : Str), ("product" : Str), ("_" : Str)]
abbrev P_power : List Str := [("base" : Str), ("exponent" : Str)]
abbrev sc_power : Scope := defScope s_power
theorem fs_power : FnScope N_power P_power sc_power := ⟨rfl, rfl, rfl, by decide +kernel, rfl, by decide +kernel, by decide +kernel⟩
abbrev F_power (K : PySem.W.Frag) (f : Addr) (fd : FuncData) : Prop := FunD K "power" "power" (defArgs s_power) (defBody s_power) sc_power [] [] f fd
abbrev s_lists_before : Stmt := top 25
abbrev N_lists_before : List Str := [("marked" : Str), ("values" : Str), ("singles" : Str), ("ends" : Str), ("begun" : Str), ("value" : Str), ("dropped" : Str), ("number" : Str), ("row" : Str), ("gone" : Str)]
abbrev P_lists_before : List Str := [("marked" : Str), ("values" : Str)]
abbrev sc_lists_before : Scope := defScope s_lists_before
theorem fs_lists_before : FnScope N_lists_before P_lists_before sc_lists_before := ⟨rfl, rfl, rfl, by decide +kernel, rfl, by decide +kernel, by decide +kernel⟩
abbrev F_lists_before (K : PySem.W.Frag) (f : Addr) (fd : FuncData) : Prop := FunD K "lists_before" "lists_before" (defArgs s_lists_before) (defBody s_lists_before) sc_lists_before [] [] f fd
abbrev s_is_whole_up_to : Stmt := top 10
abbrev N_is_whole_up_to : List Str := [("thing" : Str), ("most" : Str)]
abbrev P_is_whole_up_to : List Str := [("thing" : Str), ("most" : Str)]
abbrev sc_is_whole_up_to : Scope := defScope s_is_whole_up_to
theorem fs_is_whole_up_to : FnScope N_is_whole_up_to P_is_whole_up_to sc_is_whole_up_to := ⟨rfl, rfl, rfl, by decide +kernel, rfl, by decide +kernel, by decide +kernel⟩
abbrev F_is_whole_up_to (K : PySem.W.Frag) (f : Addr) (fd : FuncData) : Prop := FunD K "is_whole_up_to" "is_whole_up_to" (defArgs s_is_whole_up_to) (defBody s_is_whole_up_to) sc_is_whole_up_to [] [] f fd
abbrev s_check_passes : Stmt := top 16
abbrev N_check_passes : List Str := [("passes" : Str), ("most" : Str)]
abbrev P_check_passes : List Str := [("passes" : Str), ("most" : Str)]
abbrev sc_check_passes : Scope := defScope s_check_passes
theorem fs_check_passes : FnScope N_check_passes P_check_passes sc_check_passes := ⟨rfl, rfl, rfl, by decide +kernel, rfl, by decide +kernel, by decide +kernel⟩
abbrev F_check_passes (K : PySem.W.Frag) (f : Addr) (fd : FuncData) : Prop := FunD K "check_passes" "check_passes" (defArgs s_check_passes) (defBody s_check_passes) sc_check_passes [] [] f fd
abbrev s_count_before : Stmt := top 20
abbrev N_count_before : List Str := [("marked" : Str), ("values" : Str), ("passes" : Str)]
abbrev P_count_before : List Str := [("marked" : Str), ("values" : Str), ("passes" : Str)]
abbrev sc_count_before : Scope := defScope s_count_before
theorem fs_count_before : FnScope N_count_before P_count_before sc_count_before := ⟨rfl, rfl, rfl, by decide +kernel, rfl, by decide +kernel, by decide +kernel⟩
abbrev F_count_before (K : PySem.W.Frag) (f : Addr) (fd : FuncData) : Prop := FunD K "count_before" "count_before" (defArgs s_count_before) (defBody s_count_before) sc_count_before [] [("passes", .int (1))] f fd
abbrev s_left_by : Stmt := top 27
abbrev N_left_by : List Str := [("body" : Str), ("marked" : Str), ("values" : Str), ("rest" : Str), ("place" : Str)]
abbrev P_left_by : List Str := [("body" : Str), ("marked" : Str), ("values" : Str)]
abbrev sc_left_by : Scope := defScope s_left_by
theorem fs_left_by : FnScope N_left_by P_left_by sc_left_by := ⟨rfl, rfl, rfl, by decide +kernel, rfl, by decide +kernel, by decide +kernel⟩
abbrev F_left_by (K : PySem.W.Frag) (f : Addr) (fd : FuncData) : Prop := FunD K "left_by" "left_by" (defArgs s_left_by) (defBody s_left_by) sc_left_by [] [] f fd
abbrev s_drop_visited : Stmt := top 28
abbrev N_drop_visited : List Str := [("rest" : Str), ("place" : Str)]
abbrev P_drop_visited : List Str := [("rest" : Str), ("place" : Str)]
abbrev sc_drop_visited : Scope := defScope s_drop_visited
theorem fs_drop_visited : FnScope N_drop_visited P_drop_visited sc_drop_visited := ⟨rfl, rfl, rfl, by decide +kernel, rfl, by decide +kernel, by decide +kernel⟩
abbrev F_drop_visited (K : PySem.W.Frag) (f : Addr) (fd : FuncData) : Prop := FunD K "drop_visited" "drop_visited" (defArgs s_drop_visited) (defBody s_drop_visited) sc_drop_visited [] [] f fd
abbrev s_check_both : Stmt := top 30
abbrev N_check_both : List Str := [("marked" : Str), ("values" : Str)]
abbrev P_check_both : List Str := [("marked" : Str), ("values" : Str)]
abbrev sc_check_both : Scope := defScope s_check_both
theorem fs_check_both : FnScope N_check_both P_check_both sc_check_both := ⟨rfl, rfl, rfl, by decide +kernel, rfl, by decide +kernel, by decide +kernel⟩
abbrev F_check_both (K : PySem.W.Frag) (f : Addr) (fd : FuncData) : Prop := FunD K "check_both" "check_both" (defArgs s_check_both) (defBody s_check_both) sc_check_both [] [] f fd
abbrev s_after_passes : Stmt := top 31
abbrev N_after_passes : List Str := [("marked" : Str), ("values" : Str), ("passes" : Str), ("rest" : Str), ("_" : Str)]
abbrev P_after_passes : List Str := [("marked" : Str), ("values" : Str), ("passes" : Str)]
abbrev sc_after_passes : Scope := defScope s_after_passes
theorem fs_after_passes : FnScope N_after_passes P_after_passes sc_after_passes := ⟨rfl, rfl, rfl, by decide +kernel, rfl, by decide +kernel, by decide +kernel⟩
abbrev F_after_passes (K : PySem.W.Frag) (f : Addr) (fd : FuncData) : Prop := FunD K "after_passes" "after_passes" (defArgs s_after_passes) (defBody s_after_passes) sc_after_passes [] [("passes", .int (1))] f fd
abbrev s_draws : Stmt := top 33
abbrev N_draws : List Str := [("_law_cell" : Str)]
abbrev P_draws : List Str := [("_law_cell" : Str)]
abbrev sc_draws : Scope := defScope s_draws
theorem fs_draws : FnScope N_draws P_draws sc_draws := ⟨rfl, rfl, rfl, by decide +kernel, rfl, by decide +kernel, by decide +kernel⟩
abbrev F_draws (K : PySem.W.Frag) (f : Addr) (fd : FuncData) : Prop := FunD K "_law_draws" "_law_draws" (defArgs s_draws) (defBody s_draws) sc_draws [] [] f fd
abbrev s_next : Stmt := top 34
abbrev N_next : List Str := [("_law_draws_here" : Str), ("_law_k" : Str), ("_law_number" : Str)]
abbrev P_next : List Str := [("_law_draws_here" : Str)]
abbrev sc_next : Scope := defScope s_next
theorem fs_next : FnScope N_next P_next sc_next := ⟨rfl, rfl, rfl, by decide +kernel, rfl, by decide +kernel, by decide +kernel⟩
abbrev F_next (K : PySem.W.Frag) (f : Addr) (fd : FuncData) : Prop := FunD K "_law_next" "_law_next" (defArgs s_next) (defBody s_next) sc_next [] [] f fd
abbrev s_marks : Stmt := top 35
abbrev N_marks : List Str := [("_law_draws_here" : Str), ("_law_most" : Str), ("_law_wide" : Str), ("_law_told" : Str), ("_law_k" : Str), ("_law_value" : Str)]
abbrev P_marks : List Str := [("_law_draws_here" : Str), ("_law_most" : Str)]
abbrev sc_marks : Scope := defScope s_marks
theorem fs_marks : FnScope N_marks P_marks sc_marks := ⟨rfl, rfl, rfl, by decide +kernel, rfl, by decide +kernel, by decide +kernel⟩
abbrev F_marks (K : PySem.W.Frag) (f : Addr) (fd : FuncData) : Prop := FunD K "_law_marks" "_law_marks" (defArgs s_marks) (defBody s_marks) sc_marks [] [] f fd
abbrev s_list : Stmt := top 36
abbrev N_list : List Str := [("_law_draws_here" : Str), ("_law_most" : Str), ("_law_kind" : Str), ("_law_told" : Str), ("_law_k" : Str), ("_law_pick" : Str), ("_law_seldom" : Str)]
abbrev P_list : List Str := [("_law_draws_here" : Str), ("_law_most" : Str)]
abbrev sc_list : Scope := defScope s_list
theorem fs_list : FnScope N_list P_list sc_list := ⟨rfl, rfl, rfl, by decide +kernel, rfl, by decide +kernel, by decide +kernel⟩
abbrev F_list (K : PySem.W.Frag) (f : Addr) (fd : FuncData) : Prop := FunD K "_law_list" "_law_list" (defArgs s_list) (defBody s_list) sc_list [] [] f fd
abbrev s_l_power : Stmt := top 37
abbrev N_l_power : List Str := [("_law_one" : Str), ("_law_times" : Str), ("_law_told" : Str), ("_law_k" : Str)]
abbrev P_l_power : List Str := [("_law_one" : Str), ("_law_times" : Str)]
abbrev sc_l_power : Scope := defScope s_l_power
theorem fs_l_power : FnScope N_l_power P_l_power sc_l_power := ⟨rfl, rfl, rfl, by decide +kernel, rfl, by decide +kernel, by decide +kernel⟩
abbrev F_l_power (K : PySem.W.Frag) (f : Addr) (fd : FuncData) : Prop := FunD K "_law_power" "_law_power" (defArgs s_l_power) (defBody s_l_power) sc_l_power [] [] f fd
abbrev s_due : Stmt := top 38
abbrev N_due : List Str := [("_law_marks_here" : Str), ("_law_row" : Str), ("_law_a_passes" : Str), ("_law_stay" : Str), ("_law_lost" : Str), ("_law_gap" : Str), ("_law_value" : Str), ("_law_more" : Str)]
abbrev P_due : List Str := [("_law_marks_here" : Str), ("_law_row" : Str), ("_law_a_passes" : Str)]
abbrev sc_due : Scope := defScope s_due
theorem fs_due : FnScope N_due P_due sc_due := ⟨rfl, rfl, rfl, by decide +kernel, rfl, by decide +kernel, by decide +kernel⟩
abbrev F_due (K : PySem.W.Frag) (f : Addr) (fd : FuncData) : Prop := FunD K "_law_due" "_law_due" (defArgs s_due) (defBody s_due) sc_due [] [] f fd
abbrev s_right : Stmt := top 39
abbrev N_right : List Str := [("_law_draws_here" : Str), ("_law_marks_here" : Str), ("_law_row" : Str), ("_law_a_passes" : Str), ("_law_befores" : Str), ("_law_due_here" : Str), ("_law_two" : Str), ("_law_some" : Str)]
abbrev P_right : List Str := [("_law_draws_here" : Str)]
abbrev sc_right : Scope := defScope s_right
theorem fs_right : FnScope N_right P_right sc_right := ⟨rfl, rfl, rfl, by decide +kernel, rfl, by decide +kernel, by decide +kernel⟩
abbrev F_right (K : PySem.W.Frag) (f : Addr) (fd : FuncData) : Prop := FunD K "_law_right" "_law_right" (defArgs s_right) (defBody s_right) sc_right [] [] f fd
abbrev s_law : Stmt := top 40
abbrev N_law : List Str := [("_law_script" : Str), ("_law_draws_here" : Str), ("_law_marks_here" : Str), ("_law_row" : Str), ("_law_a_passes" : Str), ("_law_lost" : Str), ("_law_cell" : Str)]
abbrev P_law : List Str := [("_law_script" : Str)]
abbrev sc_law : Scope := defScope s_law
theorem fs_law : FnScope N_law P_law sc_law := ⟨rfl, rfl, rfl, by decide +kernel, rfl, by decide +kernel, by decide +kernel⟩
abbrev F_law (K : PySem.W.Frag) (f : Addr) (fd : FuncData) : Prop := FunD K "law" "law" (defArgs s_law) (defBody s_law) sc_law [] [] f fd
abbrev s_each_before : Stmt := top 21
abbrev N_each_before : List Str := [("marked" : Str), ("values" : Str), ("count" : Str)]
abbrev P_each_before : List Str := [("marked" : Str), ("values" : Str)]
abbrev sc_each_before : Scope := defScope s_each_before
theorem gs_each_before : GScope N_each_before P_each_before sc_each_before := ⟨rfl, rfl, rfl, by decide +kernel, rfl, by decide +kernel, by decide +kernel⟩
abbrev F_each_before (K : PySem.W.Frag) (f : Addr) (fd : FuncData) : Prop := FunD K "each_before" "each_before" (defArgs s_each_before) (defBody s_each_before) sc_each_before [] [] f fd
abbrev n_is_whole : Nat := 0
abbrev n_is_list_up_to : Nat := 1
abbrev n_first_wrong_mark : Nat := 2
abbrev n_first_not_whole : Nat := 3
abbrev n_check_values : Nat := 4
abbrev n_check_marked : Nat := 5
abbrev n_longest_gone : Nat := 6
abbrev n_number_before : Nat := 7
abbrev n_power : Nat := 8
abbrev n_lists_before : Nat := 9
abbrev n_is_whole_up_to : Nat := 10
abbrev n_check_passes : Nat := 11
abbrev n_count_before : Nat := 12
abbrev n_left_by : Nat := 13
abbrev n_drop_visited : Nat := 14
abbrev n_check_both : Nat := 15
abbrev n_after_passes : Nat := 16
abbrev n_draws : Nat := 17
abbrev n_next : Nat := 18
abbrev n_marks : Nat := 19
abbrev n_list : Nat := 20
abbrev n_l_power : Nat := 21
abbrev n_due : Nat := 22
abbrev n_right : Nat := 23
abbrev n_law : Nat := 24
abbrev n_each_before : Nat := 25
abbrev okv_2 : List Nat := [n_drop_visited]
abbrev gn_each_before : GnI := ⟨"each_before", P_each_before, 26⟩
abbrev di_is_whole : DI := ⟨"is_whole", P_is_whole, [(1, [], [.inl 0])]⟩
abbrev di_is_list_up_to : DI := ⟨"is_list_up_to", P_is_list_up_to, [(2, [], [.inl 0, .inl 1])]⟩
abbrev di_first_wrong_mark : DI := ⟨"first_wrong_mark", P_first_wrong_mark, [(1, [], [.inl 0])]⟩
abbrev di_first_not_whole : DI := ⟨"first_not_whole", P_first_not_whole, [(1, [], [.inl 0])]⟩
abbrev di_check_values : DI := ⟨"check_values", P_check_values, [(1, [], [.inl 0])]⟩
abbrev di_check_marked : DI := ⟨"check_marked", P_check_marked, [(1, [], [.inl 0])]⟩
abbrev di_longest_gone : DI := ⟨"longest_gone", P_longest_gone, [(1, [], [.inl 0])]⟩
abbrev di_number_before : DI := ⟨"number_before", P_number_before, [(3, [], [.inl 0, .inl 1, .inl 2])]⟩
abbrev di_power : DI := ⟨"power", P_power, [(2, [], [.inl 0, .inl 1])]⟩
abbrev di_lists_before : DI := ⟨"lists_before", P_lists_before, [(2, [], [.inl 0, .inl 1])]⟩
abbrev di_is_whole_up_to : DI := ⟨"is_whole_up_to", P_is_whole_up_to, [(2, [], [.inl 0, .inl 1])]⟩
abbrev di_check_passes : DI := ⟨"check_passes", P_check_passes, [(2, [], [.inl 0, .inl 1])]⟩
abbrev di_count_before : DI := ⟨"count_before", P_count_before, [(2, [("passes" : Str)], [.inl 0, .inl 1, .inl 2])]⟩
abbrev di_left_by : DI := ⟨"left_by", P_left_by, [(3, [], [.inl 0, .inl 1, .inl 2])]⟩
abbrev di_drop_visited : DI := ⟨"drop_visited", P_drop_visited, [(2, [], [.inl 0, .inl 1])]⟩
abbrev di_check_both : DI := ⟨"check_both", P_check_both, [(2, [], [.inl 0, .inl 1])]⟩
abbrev di_after_passes : DI := ⟨"after_passes", P_after_passes, [(2, [("passes" : Str)], [.inl 0, .inl 1, .inl 2])]⟩
abbrev di_draws : DI := ⟨"_law_draws", P_draws, [(1, [], [.inl 0])]⟩
abbrev di_next : DI := ⟨"_law_next", P_next, [(1, [], [.inl 0])]⟩
abbrev di_marks : DI := ⟨"_law_marks", P_marks, [(2, [], [.inl 0, .inl 1])]⟩
abbrev di_list : DI := ⟨"_law_list", P_list, [(2, [], [.inl 0, .inl 1])]⟩
abbrev di_l_power : DI := ⟨"_law_power", P_l_power, [(2, [], [.inl 0, .inl 1])]⟩
abbrev di_due : DI := ⟨"_law_due", P_due, [(3, [], [.inl 0, .inl 1, .inl 2])]⟩
abbrev di_right : DI := ⟨"_law_right", P_right, [(1, [], [.inl 0])]⟩
abbrev di_law : DI := ⟨"law", P_law, []⟩
def gi : GI := ⟨[("bool" : Str), ("enumerate" : Str), ("int" : Str), ("isinstance" : Str), ("len" : Str), ("list" : Str), ("range" : Str), ("sorted" : Str), ("sum" : Str)], [("MOST_VALUES", (.int 120)), ("MOST_MARKED", (.int 12)), ("MOST_PASSES", (.int 8)), ("MOST_PASSES_BEFORE", (.int 4)), ("MOST_LISTS", (.int 5000))], [di_is_whole, di_is_list_up_to, di_first_wrong_mark, di_first_not_whole, di_check_values, di_check_marked, di_longest_gone, di_number_before, di_power, di_lists_before, di_is_whole_up_to, di_check_passes, di_count_before, di_left_by, di_drop_visited, di_check_both, di_after_passes, di_draws, di_next, di_marks, di_list, di_l_power, di_due, di_right, di_law], [], [], [], [], [], [gn_each_before], some []⟩
def gi0 (gd : Option (List Code)) : GI := ⟨[("bool" : Str), ("enumerate" : Str), ("int" : Str), ("isinstance" : Str), ("len" : Str), ("list" : Str), ("range" : Str), ("sorted" : Str), ("sum" : Str)], [("MOST_VALUES", (.int 120)), ("MOST_MARKED", (.int 12)), ("MOST_PASSES", (.int 8)), ("MOST_PASSES_BEFORE", (.int 4)), ("MOST_LISTS", (.int 5000))], [di_is_whole, di_is_list_up_to, di_first_wrong_mark, di_first_not_whole, di_check_values, di_check_marked, di_longest_gone, di_number_before, di_power, di_lists_before], [], [], [], [], [], [], gd⟩
noncomputable def b_is_whole : XB := (Z.seq (Z.ret (Z.and (Z.f1 (.isi "int") (Z.v 0)) (Z.not (Z.f1 (.isi "bool") (Z.v 0))))) Z.skip)
noncomputable def b_is_list_up_to : XB := (Z.seq (Z.ret (Z.and (Z.f1 (.isi "list") (Z.v 0)) (Z.cmp .le (Z.f1 .len (Z.v 0)) (Z.v 1)))) Z.skip)
noncomputable def b_first_wrong_mark_0 : XB := (Z.seq (Z.ifs (Z.tor (Z.tnot (Z.tval (Z.call n_is_whole (Z.cons (Z.v 2) Z.nil) [.inl 0]))) (Z.tcmp .in_ (Z.v 2) (Z.sl (Z.v 0) none (some (Z.v 1))))) (Z.seq (Z.ret (Z.v 1)) Z.skip) Z.skip) Z.skip)
noncomputable def b_first_wrong_mark : XB := (Z.seq (Z.fors false (.tu [1, 2]) (Z.itEn (Z.v 0)) b_first_wrong_mark_0) (Z.seq (Z.ret (Z.k .non)) Z.skip))
noncomputable def b_first_not_whole_0 : XB := (Z.seq (Z.ifs (Z.tnot (Z.tval (Z.call n_is_whole (Z.cons (Z.v 2) Z.nil) [.inl 0]))) (Z.seq (Z.ret (Z.v 1)) Z.skip) Z.skip) Z.skip)
noncomputable def b_first_not_whole : XB := (Z.seq (Z.fors false (.tu [1, 2]) (Z.itEn (Z.v 0)) b_first_not_whole_0) (Z.seq (Z.ret (Z.k .non)) Z.skip))
noncomputable def b_check_values : XB := (Z.seq (Z.ifs (Z.tnot (Z.tval (Z.call n_is_list_up_to (Z.cons (Z.v 0) (Z.cons (Z.k (.int 120)) Z.nil)) [.inl 0, .inl 1]))) (Z.seq Z.never Z.skip) Z.skip) (Z.seq (Z.set 1 false (Z.call n_first_not_whole (Z.cons (Z.v 0) Z.nil) [.inl 0])) (Z.seq (Z.ifs (Z.tcmp .isn (Z.v 1) (Z.k .non)) (Z.seq Z.never Z.skip) Z.skip) Z.skip)))
noncomputable def b_check_marked : XB := (Z.seq (Z.ifs (Z.tnot (Z.tval (Z.call n_is_list_up_to (Z.cons (Z.v 0) (Z.cons (Z.k (.int 12)) Z.nil)) [.inl 0, .inl 1]))) (Z.seq Z.never Z.skip) Z.skip) (Z.seq (Z.set 1 false (Z.call n_first_wrong_mark (Z.cons (Z.v 0) Z.nil) [.inl 0])) (Z.seq (Z.ifs (Z.tcmp .isn (Z.v 1) (Z.k .non)) (Z.seq Z.never Z.skip) Z.skip) Z.skip)))
noncomputable def b_longest_gone : XB := (Z.seq (Z.ret (Z.bin .sub (Z.bin .shl (Z.k (.int 1)) (Z.v 0)) (Z.k (.int 1)))) Z.skip)
noncomputable def b_number_before : XB := (Z.seq (Z.set 3 false (Z.f1 .len (Z.v 0))) (Z.seq (Z.set 4 false (Z.call n_longest_gone (Z.cons (Z.v 2) Z.nil) [.inl 0])) (Z.seq (Z.set 5 false (Z.f1 .len (Z.lc [7] (.nm 7) (Z.itE (Z.v 1)) (Z.tcmp .in_ (Z.v 7) (Z.v 0)) (Z.v 7)))) (Z.seq (Z.set 6 false (Z.f1 .sum (Z.lc [8] (.nm 8) (Z.itR (Z.bin .add (Z.v 4) (Z.k (.int 1)))) Z.tt (Z.call n_power (Z.cons (Z.v 3) (Z.cons (Z.v 8) Z.nil)) [.inl 0, .inl 1])))) (Z.seq (Z.ret (Z.bin .mul (Z.call n_power (Z.cons (Z.v 3) (Z.cons (Z.bin .mul (Z.v 4) (Z.v 5)) Z.nil)) [.inl 0, .inl 1]) (Z.call n_power (Z.cons (Z.v 6) (Z.cons (Z.bin .add (Z.bin .sub (Z.f1 .len (Z.v 1)) (Z.v 5)) (Z.k (.int 1))) Z.nil)) [.inl 0, .inl 1]))) Z.skip)))))
noncomputable def b_power_0 : XB := (Z.seq (Z.aug 2 .mul (Z.v 0)) Z.skip)
noncomputable def b_power : XB := (Z.seq (Z.set 2 false (Z.k (.int 1))) (Z.seq (Z.fors false (.nm 3) (Z.itR (Z.v 1)) b_power_0) (Z.seq (Z.ret (Z.v 2)) Z.skip)))
noncomputable def b_lists_before_0 : XB := (Z.seq (Z.set 6 false (Z.ife (Z.tcmp .in_ (Z.v 5) (Z.v 0)) (Z.v 2) (Z.v 3))) (Z.seq (Z.set 4 false (Z.lc2 [8, 9] (.nm 8) (Z.itE (Z.v 4)) Z.tt [9] (.nm 9) (Z.itE (Z.v 6)) Z.tt (Z.bin .add (Z.bin .add (Z.v 8) (Z.v 9)) (Z.lst (Z.cons (Z.v 5) Z.nil))))) Z.skip))
noncomputable def b_lists_before : XB := (Z.seq (Z.set 2 false (Z.lc [7] (.nm 7) (Z.itE (Z.v 0)) Z.tt (Z.lst (Z.cons (Z.v 7) Z.nil)))) (Z.seq (Z.set 3 false (Z.addf (Z.lst (Z.cons (Z.lst Z.nil) Z.nil)) (Z.v 2))) (Z.seq (Z.set 4 false (Z.lst (Z.cons (Z.lst Z.nil) Z.nil))) (Z.seq (Z.fors false (.nm 5) (Z.itE (Z.v 1)) b_lists_before_0) (Z.seq (Z.ret (Z.lc2 [8, 9] (.nm 8) (Z.itE (Z.v 4)) Z.tt [9] (.nm 9) (Z.itE (Z.v 3)) Z.tt (Z.bin .add (Z.v 8) (Z.v 9)))) Z.skip)))))
noncomputable def b_is_whole_up_to : XB := (Z.seq (Z.ret (Z.and (Z.call n_is_whole (Z.cons (Z.v 0) Z.nil) [.inl 0]) (Z.ch .le .le (Z.k (.int 0)) (Z.v 0) (Z.v 1)))) Z.skip)
noncomputable def b_check_passes : XB := (Z.seq (Z.ifs (Z.tnot (Z.tval (Z.call n_is_whole_up_to (Z.cons (Z.v 0) (Z.cons (Z.v 1) Z.nil)) [.inl 0, .inl 1]))) (Z.seq Z.never Z.skip) Z.skip) Z.skip)
noncomputable def b_count_before : XB := (Z.seq (Z.expr (Z.call n_check_marked (Z.cons (Z.v 0) Z.nil) [.inl 0])) (Z.seq (Z.expr (Z.call n_check_values (Z.cons (Z.v 1) Z.nil) [.inl 0])) (Z.seq (Z.expr (Z.call n_check_passes (Z.cons (Z.v 2) (Z.cons (Z.k (.int 4)) Z.nil)) [.inl 0, .inl 1])) (Z.seq (Z.ret (Z.call n_number_before (Z.cons (Z.v 0) (Z.cons (Z.v 1) (Z.cons (Z.v 2) Z.nil))) [.inl 0, .inl 1, .inl 2])) Z.skip))))
noncomputable def b_left_by_0 : XB := (Z.seq (Z.ifs (Z.tcmp .in_ (Z.ix (Z.v 3) (Z.v 4)) (Z.v 1)) (Z.seq (Z.expr (Z.callv 0 okv_2 (Z.cons (Z.v 3) (Z.cons (Z.v 4) Z.nil)) [.inl 0, .inl 1])) Z.skip) Z.skip) (Z.seq (Z.aug 4 .add (Z.k (.int 1))) Z.skip))
noncomputable def t_left_by_0 : XT := (Z.tcmp .lt (Z.v 4) (Z.f1 .len (Z.v 3)))
noncomputable def b_left_by : XB := (Z.seq (Z.set 3 true (Z.f1 .list (Z.v 2))) (Z.seq (Z.set 4 false (Z.k (.int 0))) (Z.seq (Z.whs false t_left_by_0 b_left_by_0) (Z.seq (Z.ret (Z.v 3)) Z.skip))))
noncomputable def b_drop_visited : XB := (Z.seq (Z.del (Z.v 0) (Z.v 1)) Z.skip)
noncomputable def b_check_both : XB := (Z.seq (Z.expr (Z.call n_check_marked (Z.cons (Z.v 0) Z.nil) [.inl 0])) (Z.seq (Z.expr (Z.call n_check_values (Z.cons (Z.v 1) Z.nil) [.inl 0])) Z.skip))
noncomputable def b_after_passes_0 : XB := (Z.seq (Z.set 3 false (Z.call n_left_by (Z.cons (Z.g n_drop_visited) (Z.cons (Z.v 0) (Z.cons (Z.v 3) Z.nil))) [.inl 0, .inl 1, .inl 2])) Z.skip)
noncomputable def b_after_passes : XB := (Z.seq (Z.expr (Z.call n_check_both (Z.cons (Z.v 0) (Z.cons (Z.v 1) Z.nil)) [.inl 0, .inl 1])) (Z.seq (Z.expr (Z.call n_check_passes (Z.cons (Z.v 2) (Z.cons (Z.k (.int 8)) Z.nil)) [.inl 0, .inl 1])) (Z.seq (Z.set 3 false (Z.f1 .list (Z.v 1))) (Z.seq (Z.fors false (.nm 4) (Z.itR (Z.v 2)) b_after_passes_0) (Z.seq (Z.ret (Z.v 3)) Z.skip)))))
noncomputable def b_draws : XB := (Z.seq (Z.ret (Z.lst (Z.cons (Z.bin .mod (Z.f1 .int (Z.v 0)) (Z.bin .pow (Z.bin .pow (Z.bin .pow (Z.k (.int 10)) (Z.k (.int 60))) (Z.k (.int 60))) (Z.k (.int 4)))) (Z.cons (Z.k (.int 0)) (Z.cons (Z.cmp .ge (Z.v 0) (Z.bin .pow (Z.k (.int 10)) (Z.k (.int 18)))) Z.nil))))) Z.skip)
noncomputable def b_next : XB := (Z.seq (Z.sti (Z.v 0) (Z.k (.int 1)) (Z.bin .add (Z.ix (Z.v 0) (Z.k (.int 1))) (Z.k (.int 1)))) (Z.seq (Z.set 1 false (Z.ix (Z.v 0) (Z.k (.int 1)))) (Z.seq (Z.ifs (Z.tval (Z.ix (Z.v 0) (Z.k (.int 2)))) (Z.seq (Z.set 2 false (Z.bin .mod (Z.f1 .int (Z.ix (Z.v 0) (Z.k (.int 0)))) (Z.bin .pow (Z.k (.int 10)) (Z.k (.int 6))))) (Z.seq (Z.sti (Z.v 0) (Z.k (.int 0)) (Z.bin .fdiv (Z.ix (Z.v 0) (Z.k (.int 0))) (Z.bin .pow (Z.k (.int 10)) (Z.k (.int 6))))) (Z.seq (Z.ret (Z.v 2)) Z.skip))) Z.skip) (Z.seq (Z.set 2 false (Z.bin .mod (Z.f1 .int (Z.bin .mul (Z.bin .add (Z.bin .add (Z.bin .mod (Z.f1 .int (Z.ix (Z.v 0) (Z.k (.int 0)))) (Z.k (.int 1000003))) (Z.bin .mul (Z.bin .mul (Z.v 1) (Z.v 1)) (Z.k (.int 7919)))) (Z.v 1)) (Z.k (.int 48271)))) (Z.k (.int 2147483629)))) (Z.seq (Z.set 2 false (Z.bin .mod (Z.f1 .int (Z.bin .mul (Z.v 2) (Z.v 2))) (Z.k (.int 2147483587)))) (Z.seq (Z.ret (Z.bin .fdiv (Z.bin .mod (Z.f1 .int (Z.bin .mul (Z.v 2) (Z.bin .add (Z.v 2) (Z.k (.int 2))))) (Z.k (.int 2147483579))) (Z.k (.int 7)))) Z.skip))))))
noncomputable def b_marks_0 : XB := (Z.seq (Z.set 5 false (Z.bin .sub (Z.bin .mod (Z.f1 .int (Z.call n_next (Z.cons (Z.v 0) Z.nil) [.inl 0])) (Z.ix (Z.lst (Z.cons (Z.k (.int 6)) (Z.cons (Z.k (.int 16)) Z.nil))) (Z.f1 .int (Z.v 2)))) (Z.k (.int 1)))) (Z.seq (Z.set 3 false (Z.bin .add (Z.v 3) (Z.bin .mul (Z.lst (Z.cons (Z.v 5) Z.nil)) (Z.f1 .int (Z.cmp .nin (Z.v 5) (Z.v 3)))))) Z.skip))
noncomputable def b_marks : XB := (Z.seq (Z.set 2 false (Z.and (Z.cmp .gt (Z.v 1) (Z.k (.int 3))) (Z.cmp .eq (Z.bin .mod (Z.f1 .int (Z.call n_next (Z.cons (Z.v 0) Z.nil) [.inl 0])) (Z.k (.int 4))) (Z.k (.int 0))))) (Z.seq (Z.set 3 false (Z.lst Z.nil)) (Z.seq (Z.fors false (.nm 4) (Z.itR (Z.bin .mod (Z.f1 .int (Z.call n_next (Z.cons (Z.v 0) Z.nil) [.inl 0])) (Z.bin .add (Z.ix (Z.lst (Z.cons (Z.v 1) (Z.cons (Z.k (.int 12)) Z.nil))) (Z.f1 .int (Z.v 2))) (Z.k (.int 1))))) b_marks_0) (Z.seq (Z.ret (Z.v 3)) Z.skip))))
noncomputable def b_list_0 : XB := (Z.seq (Z.set 5 false (Z.f1 .int (Z.call n_next (Z.cons (Z.v 0) Z.nil) [.inl 0]))) (Z.seq (Z.set 6 false (Z.ix (Z.lst (Z.cons (Z.k (.int 1)) (Z.cons (Z.bin .mod (Z.f1 .int (Z.v 5)) (Z.k (.int 6))) Z.nil))) (Z.f1 .int (Z.cmp .eq (Z.bin .mod (Z.f1 .int (Z.v 5)) (Z.k (.int 7))) (Z.k (.int 0)))))) (Z.seq (Z.expr (Z.me .append (Z.v 3) (Z.cons (Z.ix (Z.lst (Z.cons (Z.bin .sub (Z.bin .mod (Z.f1 .int (Z.v 5)) (Z.k (.int 6))) (Z.k (.int 1))) (Z.cons (Z.bin .mod (Z.f1 .int (Z.v 5)) (Z.k (.int 3))) (Z.cons (Z.bin .mod (Z.f1 .int (Z.v 5)) (Z.k (.int 2))) (Z.cons (Z.v 6) (Z.cons (Z.bin .sub (Z.bin .mod (Z.f1 .int (Z.v 5)) (Z.k (.int 16))) (Z.k (.int 1))) Z.nil)))))) (Z.v 2)) Z.nil))) Z.skip)))
noncomputable def b_list : XB := (Z.seq (Z.set 2 false (Z.bin .mod (Z.f1 .int (Z.call n_next (Z.cons (Z.v 0) Z.nil) [.inl 0])) (Z.k (.int 5)))) (Z.seq (Z.set 3 true (Z.lst Z.nil)) (Z.seq (Z.fors false (.nm 4) (Z.itR (Z.bin .mod (Z.f1 .int (Z.call n_next (Z.cons (Z.v 0) Z.nil) [.inl 0])) (Z.bin .add (Z.v 1) (Z.k (.int 1))))) b_list_0) (Z.seq (Z.ret (Z.v 3)) Z.skip))))
noncomputable def b_l_power_0 : XB := (Z.seq (Z.set 2 false (Z.bin .mul (Z.v 2) (Z.v 0))) Z.skip)
noncomputable def b_l_power : XB := (Z.seq (Z.set 2 false (Z.k (.int 1))) (Z.seq (Z.fors false (.nm 3) (Z.itR (Z.v 1)) b_l_power_0) (Z.seq (Z.ret (Z.v 2)) Z.skip)))
noncomputable def b_due : XB := (Z.seq (Z.set 3 false (Z.f1 .len (Z.lc [6] (.nm 6) (Z.itE (Z.v 1)) (Z.tcmp .in_ (Z.v 6) (Z.v 0)) (Z.v 6)))) (Z.seq (Z.set 4 false (Z.bin .sub (Z.ix (Z.lst (Z.cons (Z.k (.int 1)) (Z.cons (Z.k (.int 2)) (Z.cons (Z.k (.int 4)) (Z.cons (Z.k (.int 8)) (Z.cons (Z.k (.int 16)) (Z.cons (Z.k (.int 32)) (Z.cons (Z.k (.int 64)) (Z.cons (Z.k (.int 128)) (Z.cons (Z.k (.int 256)) Z.nil)))))))))) (Z.v 2)) (Z.k (.int 1)))) (Z.seq (Z.set 5 false (Z.f1 .sum (Z.lc [7] (.nm 7) (Z.itR (Z.bin .add (Z.v 4) (Z.k (.int 1)))) Z.tt (Z.call n_l_power (Z.cons (Z.f1 .len (Z.v 0)) (Z.cons (Z.v 7) Z.nil)) [.inl 0, .inl 1])))) (Z.seq (Z.ret (Z.bin .mul (Z.call n_l_power (Z.cons (Z.f1 .len (Z.v 0)) (Z.cons (Z.bin .mul (Z.v 4) (Z.v 3)) Z.nil)) [.inl 0, .inl 1]) (Z.call n_l_power (Z.cons (Z.v 5) (Z.cons (Z.bin .add (Z.bin .sub (Z.f1 .len (Z.v 1)) (Z.v 3)) (Z.k (.int 1))) Z.nil)) [.inl 0, .inl 1]))) Z.skip))))
noncomputable def b_right_0 : XB := (Z.seq (Z.ifs (Z.tor (Z.tcmp .gt (Z.call n_count_before (Z.args (Z.cons (Z.v 1) (Z.cons (Z.v 2) Z.nil)) (Z.cons (Z.k (.int 1)) Z.nil)) [.inl 0, .inl 1, .inl 2]) (Z.k (.int 200))) (Z.tcmp .gt (Z.call n_count_before (Z.args (Z.cons (Z.v 1) (Z.cons (Z.v 2) Z.nil)) (Z.cons (Z.k (.int 2)) Z.nil)) [.inl 0, .inl 1, .inl 2]) (Z.k (.int 3000)))) (Z.seq (Z.ret (Z.k (.bl true))) Z.skip) Z.skip) (Z.seq (Z.set 4 false (Z.lgen 26 (Z.cons (Z.v 1) (Z.cons (Z.v 2) Z.nil)))) (Z.seq (Z.set 5 false (Z.f1 .sum (Z.lc [7] (.nm 7) (Z.itE (Z.v 4)) Z.tt (Z.call n_count_before (Z.args (Z.cons (Z.v 1) (Z.cons (Z.v 7) Z.nil)) (Z.cons (Z.bin .sub (Z.v 3) (Z.k (.int 1))) Z.nil)) [.inl 0, .inl 1, .inl 2])))) (Z.seq (Z.ifs (Z.tcmp .ne (Z.call n_count_before (Z.args (Z.cons (Z.v 1) (Z.cons (Z.v 2) Z.nil)) (Z.cons (Z.v 3) Z.nil)) [.inl 0, .inl 1, .inl 2]) (Z.v 5)) (Z.seq (Z.ret (Z.k (.bl false))) Z.skip) Z.skip) (Z.seq (Z.ifs (Z.tcmp .ne (Z.lc [7] (.nm 7) (Z.itE (Z.v 4)) (Z.tcmp .ne (Z.call n_after_passes (Z.args (Z.cons (Z.v 1) (Z.cons (Z.v 7) Z.nil)) (Z.cons (Z.k (.int 1)) Z.nil)) [.inl 0, .inl 1, .inl 2]) (Z.v 2)) (Z.v 7)) (Z.lst Z.nil)) (Z.seq (Z.ret (Z.k (.bl false))) Z.skip) Z.skip) (Z.seq (Z.set 6 false (Z.suml (Z.fzE (Z.lc [7] (.nm 7) (Z.itE (Z.v 4)) Z.tt (Z.lgen 26 (Z.cons (Z.v 1) (Z.cons (Z.v 7) Z.nil))))))) (Z.seq (Z.ifs (Z.tcmp .ne (Z.lc [7] (.nm 7) (Z.itE (Z.v 6)) (Z.tcmp .ne (Z.call n_after_passes (Z.args (Z.cons (Z.v 1) (Z.cons (Z.v 7) Z.nil)) (Z.cons (Z.k (.int 2)) Z.nil)) [.inl 0, .inl 1, .inl 2]) (Z.v 2)) (Z.v 7)) (Z.lst Z.nil)) (Z.seq (Z.ret (Z.k (.bl false))) Z.skip) Z.skip) (Z.seq (Z.ifs (Z.tcmp .ne (Z.f1 .len (Z.v 6)) (Z.call n_count_before (Z.args (Z.cons (Z.v 1) (Z.cons (Z.v 2) Z.nil)) (Z.cons (Z.k (.int 2)) Z.nil)) [.inl 0, .inl 1, .inl 2])) (Z.seq (Z.ret (Z.k (.bl false))) Z.skip) Z.skip) Z.skip))))))))
noncomputable def b_right : XB := (Z.seq (Z.set 1 false (Z.call n_marks (Z.cons (Z.v 0) (Z.cons (Z.k (.int 2)) Z.nil)) [.inl 0, .inl 1])) (Z.seq (Z.set 2 false (Z.call n_list (Z.cons (Z.v 0) (Z.cons (Z.k (.int 4)) Z.nil)) [.inl 0, .inl 1])) (Z.seq (Z.fors false (.nm 3) (Z.itE (Z.lst (Z.cons (Z.k (.int 1)) (Z.cons (Z.k (.int 2)) Z.nil)))) b_right_0) (Z.seq (Z.ret (Z.k (.bl true))) Z.skip))))
noncomputable def b_law_1 : XB := (Z.seq (Z.ifs (Z.tcmp .ne (Z.call n_count_before (Z.args (Z.cons (Z.v 2) (Z.cons (Z.v 3) Z.nil)) (Z.cons (Z.v 4) Z.nil)) [.inl 0, .inl 1, .inl 2]) (Z.call n_due (Z.cons (Z.v 2) (Z.cons (Z.v 3) (Z.cons (Z.v 4) Z.nil))) [.inl 0, .inl 1, .inl 2])) (Z.seq (Z.ret (Z.k (.bl false))) Z.skip) Z.skip) Z.skip)
noncomputable def b_law_0 : XB := (Z.seq (Z.ifs (Z.tor (Z.tnot (Z.tval (Z.call n_right (Z.cons (Z.v 1) Z.nil) [.inl 0]))) (Z.tnot (Z.tval (Z.call n_right (Z.cons (Z.v 1) Z.nil) [.inl 0])))) (Z.seq (Z.ret (Z.k (.bl false))) Z.skip) Z.skip) (Z.seq (Z.set 2 false (Z.call n_marks (Z.cons (Z.v 1) (Z.cons (Z.k (.int 4)) Z.nil)) [.inl 0, .inl 1])) (Z.seq (Z.set 3 false (Z.call n_list (Z.cons (Z.v 1) (Z.cons (Z.k (.int 40)) Z.nil)) [.inl 0, .inl 1])) (Z.seq (Z.fors false (.nm 4) (Z.itR (Z.k (.int 5))) b_law_1) Z.skip))))
noncomputable def b_law_2 : XB := (Z.seq (Z.ifs (Z.tor (Z.tcmp .ne (Z.call n_count_before (Z.args (Z.cons (Z.lst (Z.cons (Z.k (.int 7)) Z.nil)) (Z.cons (Z.lst Z.nil) Z.nil)) (Z.cons (Z.v 4) Z.nil)) [.inl 0, .inl 1, .inl 2]) (Z.bin .add (Z.v 5) (Z.k (.int 1)))) (Z.tcmp .ne (Z.call n_count_before (Z.args (Z.cons (Z.lst Z.nil) (Z.cons (Z.lst (Z.cons (Z.k (.int 1)) (Z.cons (Z.k (.int 2)) Z.nil))) Z.nil)) (Z.cons (Z.v 4) Z.nil)) [.inl 0, .inl 1, .inl 2]) (Z.k (.int 1)))) (Z.seq (Z.ret (Z.k (.bl false))) Z.skip) Z.skip) (Z.seq (Z.ifs (Z.tcmp .ne (Z.call n_count_before (Z.args (Z.cons (Z.lst (Z.cons (Z.k (.int 7)) Z.nil)) (Z.cons (Z.lst (Z.cons (Z.k (.int 7)) (Z.cons (Z.k (.int 7)) Z.nil))) Z.nil)) (Z.cons (Z.v 4) Z.nil)) [.inl 0, .inl 1, .inl 2]) (Z.bin .add (Z.v 5) (Z.k (.int 1)))) (Z.seq (Z.ret (Z.k (.bl false))) Z.skip) Z.skip) (Z.seq (Z.ifs (Z.tcmp .ne (Z.call n_count_before (Z.args (Z.cons (Z.lst (Z.cons (Z.k (.int 7)) Z.nil)) (Z.cons (Z.lst (Z.cons (Z.k (.int 8)) Z.nil)) Z.nil)) (Z.cons (Z.v 4) Z.nil)) [.inl 0, .inl 1, .inl 2]) (Z.bin .mul (Z.bin .add (Z.v 5) (Z.k (.int 1))) (Z.bin .add (Z.v 5) (Z.k (.int 1))))) (Z.seq (Z.ret (Z.k (.bl false))) Z.skip) Z.skip) Z.skip)))
noncomputable def b_law : XB := (Z.seq (Z.fors false (.nm 1) (Z.itE (Z.lc [6] (.nm 6) (Z.itE (Z.bin .add (Z.sl (Z.v 0) none (some (Z.k (.int 6)))) (Z.lst (Z.cons (Z.k (.int 0)) Z.nil)))) Z.tt (Z.call n_draws (Z.cons (Z.v 6) Z.nil) [.inl 0]))) b_law_0) (Z.seq (Z.fors false (.tu [4, 5]) (Z.itE (Z.fzE (Z.lst (Z.cons (Z.tup (Z.cons (Z.k (.int 0)) (Z.cons (Z.k (.int 0)) Z.nil))) (Z.cons (Z.tup (Z.cons (Z.k (.int 1)) (Z.cons (Z.k (.int 1)) Z.nil))) (Z.cons (Z.tup (Z.cons (Z.k (.int 2)) (Z.cons (Z.k (.int 3)) Z.nil))) (Z.cons (Z.tup (Z.cons (Z.k (.int 3)) (Z.cons (Z.k (.int 7)) Z.nil))) (Z.cons (Z.tup (Z.cons (Z.k (.int 4)) (Z.cons (Z.k (.int 15)) Z.nil))) Z.nil)))))))) b_law_2) (Z.seq (Z.ret (Z.k (.bl true))) Z.skip)))
noncomputable def b_each_before : XB := (Z.seqG (Z.expr (Z.call n_check_marked (Z.cons (Z.v 0) Z.nil) [.inl 0])) (Z.seqG (Z.expr (Z.call n_check_values (Z.cons (Z.v 1) Z.nil) [.inl 0])) (Z.seqG (Z.set 2 false (Z.call n_number_before (Z.cons (Z.v 0) (Z.cons (Z.v 1) (Z.cons (Z.k (.int 1)) Z.nil))) [.inl 0, .inl 1, .inl 2])) (Z.seqG (Z.ifs (Z.tcmp .gt (Z.v 2) (Z.k (.int 5000))) (Z.seq Z.never Z.skip) Z.skip) (Z.seq (Z.ret (Z.cl sortLD (Z.fzE (Z.call n_lists_before (Z.cons (Z.v 0) (Z.cons (Z.v 1) Z.nil)) [.inl 0, .inl 1])))) Z.skip)))))
noncomputable def prog : List Def := [⟨b_is_whole, 1, 1, .pl⟩, ⟨b_is_list_up_to, 2, 2, .pl⟩, ⟨b_first_wrong_mark, 3, 1, .pl⟩, ⟨b_first_not_whole, 3, 1, .pl⟩, ⟨b_check_values, 2, 1, .pl⟩, ⟨b_check_marked, 2, 1, .pl⟩, ⟨b_longest_gone, 1, 1, .pl⟩, ⟨b_number_before, 9, 3, .pl⟩, ⟨b_power, 4, 2, .pl⟩, ⟨b_lists_before, 10, 2, .pl⟩, ⟨b_is_whole_up_to, 2, 2, .pl⟩, ⟨b_check_passes, 2, 2, .pl⟩, ⟨b_count_before, 3, 3, .pl⟩, ⟨b_left_by, 5, 3, .pl⟩, ⟨b_drop_visited, 2, 2, .pl⟩, ⟨b_check_both, 2, 2, .pl⟩, ⟨b_after_passes, 5, 3, .pl⟩, ⟨b_draws, 1, 1, .pl⟩, ⟨b_next, 3, 1, .pl⟩, ⟨b_marks, 6, 2, .pl⟩, ⟨b_list, 7, 2, .pl⟩, ⟨b_l_power, 4, 2, .pl⟩, ⟨b_due, 8, 3, .pl⟩, ⟨b_right, 8, 1, .pl⟩, ⟨b_law, 7, 1, .pl⟩, ⟨b_each_before, 3, 2, .pl⟩, ⟨Z.wake n_each_before, 2, 2, .pl⟩]
theorem cd_is_whole {fa : Nat → Addr} {k : Nat} {S : Store} {a0 : D} : callD prog fa (k + 1) n_is_whole [a0] S = runD b_is_whole 1 ⟨callD prog fa k, fa, S.length⟩ [a0] S := rfl
theorem cd_is_list_up_to {fa : Nat → Addr} {k : Nat} {S : Store} {a0 : D} {a1 : D} : callD prog fa (k + 1) n_is_list_up_to [a0, a1] S = runD b_is_list_up_to 2 ⟨callD prog fa k, fa, S.length⟩ [a0, a1] S := rfl
theorem cd_first_wrong_mark {fa : Nat → Addr} {k : Nat} {S : Store} {a0 : D} : callD prog fa (k + 1) n_first_wrong_mark [a0] S = runD b_first_wrong_mark 3 ⟨callD prog fa k, fa, S.length⟩ [a0] S := rfl
theorem cd_first_not_whole {fa : Nat → Addr} {k : Nat} {S : Store} {a0 : D} : callD prog fa (k + 1) n_first_not_whole [a0] S = runD b_first_not_whole 3 ⟨callD prog fa k, fa, S.length⟩ [a0] S := rfl
theorem cd_check_values {fa : Nat → Addr} {k : Nat} {S : Store} {a0 : D} : callD prog fa (k + 1) n_check_values [a0] S = runD b_check_values 2 ⟨callD prog fa k, fa, S.length⟩ [a0] S := rfl
theorem cd_check_marked {fa : Nat → Addr} {k : Nat} {S : Store} {a0 : D} : callD prog fa (k + 1) n_check_marked [a0] S = runD b_check_marked 2 ⟨callD prog fa k, fa, S.length⟩ [a0] S := rfl
theorem cd_longest_gone {fa : Nat → Addr} {k : Nat} {S : Store} {a0 : D} : callD prog fa (k + 1) n_longest_gone [a0] S = runD b_longest_gone 1 ⟨callD prog fa k, fa, S.length⟩ [a0] S := rfl
theorem cd_number_before {fa : Nat → Addr} {k : Nat} {S : Store} {a0 : D} {a1 : D} {a2 : D} : callD prog fa (k + 1) n_number_before [a0, a1, a2] S = runD b_number_before 9 ⟨callD prog fa k, fa, S.length⟩ [a0, a1, a2] S := rfl
theorem cd_power {fa : Nat → Addr} {k : Nat} {S : Store} {a0 : D} {a1 : D} : callD prog fa (k + 1) n_power [a0, a1] S = runD b_power 4 ⟨callD prog fa k, fa, S.length⟩ [a0, a1] S := rfl
theorem cd_lists_before {fa : Nat → Addr} {k : Nat} {S : Store} {a0 : D} {a1 : D} : callD prog fa (k + 1) n_lists_before [a0, a1] S = runD b_lists_before 10 ⟨callD prog fa k, fa, S.length⟩ [a0, a1] S := rfl
theorem cd_is_whole_up_to {fa : Nat → Addr} {k : Nat} {S : Store} {a0 : D} {a1 : D} : callD prog fa (k + 1) n_is_whole_up_to [a0, a1] S = runD b_is_whole_up_to 2 ⟨callD prog fa k, fa, S.length⟩ [a0, a1] S := rfl
theorem cd_check_passes {fa : Nat → Addr} {k : Nat} {S : Store} {a0 : D} {a1 : D} : callD prog fa (k + 1) n_check_passes [a0, a1] S = runD b_check_passes 2 ⟨callD prog fa k, fa, S.length⟩ [a0, a1] S := rfl
theorem cd_count_before {fa : Nat → Addr} {k : Nat} {S : Store} {a0 : D} {a1 : D} {a2 : D} : callD prog fa (k + 1) n_count_before [a0, a1, a2] S = runD b_count_before 3 ⟨callD prog fa k, fa, S.length⟩ [a0, a1, a2] S := rfl
theorem cd_left_by {fa : Nat → Addr} {k : Nat} {S : Store} {a0 : D} {a1 : D} {a2 : D} : callD prog fa (k + 1) n_left_by [a0, a1, a2] S = runD b_left_by 5 ⟨callD prog fa k, fa, S.length⟩ [a0, a1, a2] S := rfl
theorem cd_drop_visited {fa : Nat → Addr} {k : Nat} {S : Store} {a0 : D} {a1 : D} : callD prog fa (k + 1) n_drop_visited [a0, a1] S = runD b_drop_visited 2 ⟨callD prog fa k, fa, S.length⟩ [a0, a1] S := rfl
theorem cd_check_both {fa : Nat → Addr} {k : Nat} {S : Store} {a0 : D} {a1 : D} : callD prog fa (k + 1) n_check_both [a0, a1] S = runD b_check_both 2 ⟨callD prog fa k, fa, S.length⟩ [a0, a1] S := rfl
theorem cd_after_passes {fa : Nat → Addr} {k : Nat} {S : Store} {a0 : D} {a1 : D} {a2 : D} : callD prog fa (k + 1) n_after_passes [a0, a1, a2] S = runD b_after_passes 5 ⟨callD prog fa k, fa, S.length⟩ [a0, a1, a2] S := rfl
theorem cd_draws {fa : Nat → Addr} {k : Nat} {S : Store} {a0 : D} : callD prog fa (k + 1) n_draws [a0] S = runD b_draws 1 ⟨callD prog fa k, fa, S.length⟩ [a0] S := rfl
theorem cd_next {fa : Nat → Addr} {k : Nat} {S : Store} {a0 : D} : callD prog fa (k + 1) n_next [a0] S = runD b_next 3 ⟨callD prog fa k, fa, S.length⟩ [a0] S := rfl
theorem cd_marks {fa : Nat → Addr} {k : Nat} {S : Store} {a0 : D} {a1 : D} : callD prog fa (k + 1) n_marks [a0, a1] S = runD b_marks 6 ⟨callD prog fa k, fa, S.length⟩ [a0, a1] S := rfl
theorem cd_list {fa : Nat → Addr} {k : Nat} {S : Store} {a0 : D} {a1 : D} : callD prog fa (k + 1) n_list [a0, a1] S = runD b_list 7 ⟨callD prog fa k, fa, S.length⟩ [a0, a1] S := rfl
theorem cd_l_power {fa : Nat → Addr} {k : Nat} {S : Store} {a0 : D} {a1 : D} : callD prog fa (k + 1) n_l_power [a0, a1] S = runD b_l_power 4 ⟨callD prog fa k, fa, S.length⟩ [a0, a1] S := rfl
theorem cd_due {fa : Nat → Addr} {k : Nat} {S : Store} {a0 : D} {a1 : D} {a2 : D} : callD prog fa (k + 1) n_due [a0, a1, a2] S = runD b_due 8 ⟨callD prog fa k, fa, S.length⟩ [a0, a1, a2] S := rfl
theorem cd_right {fa : Nat → Addr} {k : Nat} {S : Store} {a0 : D} : callD prog fa (k + 1) n_right [a0] S = runD b_right 8 ⟨callD prog fa k, fa, S.length⟩ [a0] S := rfl
theorem cd_law {fa : Nat → Addr} {k : Nat} {S : Store} {a0 : D} : callD prog fa (k + 1) n_law [a0] S = runD b_law 7 ⟨callD prog fa k, fa, S.length⟩ [a0] S := rfl
theorem cd_each_before {fa : Nat → Addr} {k : Nat} {S : Store} {a0 : D} {a1 : D} : callD prog fa (k + 1) n_each_before [a0, a1] S = runD b_each_before 3 ⟨callD prog fa k, fa, S.length⟩ [a0, a1] S := rfl
end Lw

set_option Elab.async false
set_option linter.all false
set_option maxRecDepth 100000
set_option maxHeartbeats 4000000
namespace Lw
open PySem PySem.Spec PyProof.Rows L2 Mi
local macro_rules | `(tactic| walk_at "vi") => `(tactic| first | exact .inl rfl | exact .inr (.inl rfl) | exact .inr (.inr rfl) | exact .inr rfl)
local macro_rules | `(tactic| walk_at "sub") => `(tactic| (repeat (first | assumption | exact List.mem_cons_self | (rcases List.mem_cons.mp (by assumption) with rfl | h; exact List.mem_cons_self))))
theorem sg_each_before {X : Cx} {k : Nat} {gd : Option (List Code)} (c : Cok X (gi0 gd) k N_each_before sc_each_before) (hf : ∀ x, X.fn x = true) (hp : PassesOwn (model X.prog X.w) X.A X.env X.xe) (hz : X.stack = X.env :: X.outer ∧ X.env.frame = some X.env.locals) : SemGr X (gi0 gd) k ((defBody s_each_before).take 4) (yfE (defBody s_each_before)) b_each_before := (semgr_cons (sems_expr (sem_call (n := n_check_marked) (ar := [.inl 0]) c rfl rfl rfl (List.mem_of_getElem? (i := 0) rfl) (sclOk rfl) rfl (sea_cons (sem_v (c.nm (i := 0) rfl (by walk_at "vi"))) sea_nil rfl) rfl rfl rfl rfl) rfl) (semgr_cons (sems_expr (sem_call (n := n_check_values) (ar := [.inl 0]) c rfl rfl rfl (List.mem_of_getElem? (i := 0) rfl) (sclOk rfl) rfl (sea_cons (sem_v (c.nm (i := 1) rfl (by walk_at "vi"))) sea_nil rfl) rfl rfl rfl rfl) rfl) (semgr_cons (sems_set (c.nl hf (i := 2) rfl (by walk_at "vi")) (sem_call (n := n_number_before) (ar := [.inl 0, .inl 1, .inl 2]) c rfl rfl rfl (List.mem_of_getElem? (i := 0) rfl) (sclOk rfl) rfl (sea_cons (sem_v (c.nm (i := 0) rfl (by walk_at "vi"))) (sea_cons (sem_v (c.nm (i := 1) rfl (by walk_at "vi"))) (sea_cons sem_int sea_nil rfl) rfl) rfl) rfl rfl rfl rfl) rfl) (semgr_cons (sems_if (semt_cmp gtC (sem_v (c.nm (i := 2) rfl (by walk_at "vi"))) (sem_gk c rfl (List.mem_of_getElem? (i := 4) rfl)) rfl) (semb_cons sems_never semb_nil) semb_nil) (semgr_last (sem_clB (c.b rfl (List.mem_of_getElem? (i := 7) rfl)) (sortLS c.un) (sem_fzE (sem_call (n := n_lists_before) (ar := [.inl 0, .inl 1]) c rfl rfl rfl (List.mem_of_getElem? (i := 0) rfl) (sclOk rfl) rfl (sea_cons (sem_v (c.nm (i := 0) rfl (by walk_at "vi"))) (sea_cons (sem_v (c.nm (i := 1) rfl (by walk_at "vi"))) sea_nil rfl) rfl) rfl rfl rfl rfl)) rfl))))))
theorem sb0_is_whole {X : Cx} {k : Nat} {gd : Option (List Code)} (c : Cok X (gi0 gd) k N_is_whole sc_is_whole) (hf : ∀ x, X.fn x = true) (hp : PassesOwn (model X.prog X.w) X.A X.env X.xe) (hz : X.stack = X.env :: X.outer ∧ X.env.frame = some X.env.locals) : SemB X (gi0 gd) k (defBody s_is_whole) b_is_whole := (semb_cons (sems_ret (sem_and (sem_isi (c.b rfl (List.mem_of_getElem? (i := 3) rfl)) (c.b rfl (List.mem_of_getElem? (i := 2) rfl)) (sem_v (c.nm (i := 0) rfl (by walk_at "vi"))) rfl rfl rfl) (sem_one (sem_not (sem_isi (c.b rfl (List.mem_of_getElem? (i := 3) rfl)) (c.b rfl (List.mem_of_getElem? (i := 0) rfl)) (sem_v (c.nm (i := 0) rfl (by walk_at "vi"))) rfl rfl rfl))))) semb_nil)
theorem sb0_is_list_up_to {X : Cx} {k : Nat} {gd : Option (List Code)} (c : Cok X (gi0 gd) k N_is_list_up_to sc_is_list_up_to) (hf : ∀ x, X.fn x = true) (hp : PassesOwn (model X.prog X.w) X.A X.env X.xe) (hz : X.stack = X.env :: X.outer ∧ X.env.frame = some X.env.locals) : SemB X (gi0 gd) k (defBody s_is_list_up_to) b_is_list_up_to := (semb_cons (sems_ret (sem_and (sem_isi (c.b rfl (List.mem_of_getElem? (i := 3) rfl)) (c.b rfl (List.mem_of_getElem? (i := 5) rfl)) (sem_v (c.nm (i := 0) rfl (by walk_at "vi"))) rfl rfl rfl) (sem_one (sem_cmp leC (sem_b1 (c.b rfl (List.mem_of_getElem? (i := 4) rfl)) lenS (sem_v (c.nm (i := 0) rfl (by walk_at "vi"))) rfl) (sem_v (c.nm (i := 1) rfl (by walk_at "vi"))) rfl)))) semb_nil)
theorem sb0_first_wrong_mark {X : Cx} {k : Nat} {gd : Option (List Code)} (c : Cok X (gi0 gd) k N_first_wrong_mark sc_first_wrong_mark) (hf : ∀ x, X.fn x = true) (hp : PassesOwn (model X.prog X.w) X.A X.env X.xe) (hz : X.stack = X.env :: X.outer ∧ X.env.frame = some X.env.locals) : SemB X (gi0 gd) k (defBody s_first_wrong_mark) b_first_wrong_mark := (semb_cons (sems_for (cc := false) hp c.calm (semi_en (c.gl rfl) (c.bi _ (List.mem_of_getElem? (i := 1) rfl)) (sem_v (c.nm (i := 0) rfl (by walk_at "vi"))) rfl) (semg_tu c.calm (semgs_cons (c.nl hf (i := 1) rfl (by walk_at "vi")) (semgs_cons (c.nl hf (i := 2) rfl (by walk_at "vi")) semgs_nil rfl) rfl) rfl rfl) (show SemB X (gi0 gd) k _ b_first_wrong_mark_0 from (semb_cons (sems_if (semt_w (semw_or (semt_not (semt_val (sem_call (n := n_is_whole) (ar := [.inl 0]) c rfl rfl rfl (List.mem_of_getElem? (i := 0) rfl) (sclOk rfl) rfl (sea_cons (sem_v (c.nm (i := 2) rfl (by walk_at "vi"))) sea_nil rfl) rfl rfl rfl rfl) (fun _ => rfl))) (semw_or1 (semt_cmp (inC c.un) (sem_v (c.nm (i := 2) rfl (by walk_at "vi"))) (sem_sl (sem_v (c.nm (i := 0) rfl (by walk_at "vi"))) semo_none (semo_some (sem_v (c.nm (i := 1) rfl (by walk_at "vi"))))) rfl)))) (semb_cons (sems_ret (sem_v (c.nm (i := 1) rfl (by walk_at "vi")))) semb_nil) semb_nil) semb_nil)) (fun _ => rfl)) (semb_cons (sems_ret sem_non) semb_nil))
theorem sb0_first_not_whole {X : Cx} {k : Nat} {gd : Option (List Code)} (c : Cok X (gi0 gd) k N_first_not_whole sc_first_not_whole) (hf : ∀ x, X.fn x = true) (hp : PassesOwn (model X.prog X.w) X.A X.env X.xe) (hz : X.stack = X.env :: X.outer ∧ X.env.frame = some X.env.locals) : SemB X (gi0 gd) k (defBody s_first_not_whole) b_first_not_whole := (semb_cons (sems_for (cc := false) hp c.calm (semi_en (c.gl rfl) (c.bi _ (List.mem_of_getElem? (i := 1) rfl)) (sem_v (c.nm (i := 0) rfl (by walk_at "vi"))) rfl) (semg_tu c.calm (semgs_cons (c.nl hf (i := 1) rfl (by walk_at "vi")) (semgs_cons (c.nl hf (i := 2) rfl (by walk_at "vi")) semgs_nil rfl) rfl) rfl rfl) (show SemB X (gi0 gd) k _ b_first_not_whole_0 from (semb_cons (sems_if (semt_not (semt_val (sem_call (n := n_is_whole) (ar := [.inl 0]) c rfl rfl rfl (List.mem_of_getElem? (i := 0) rfl) (sclOk rfl) rfl (sea_cons (sem_v (c.nm (i := 2) rfl (by walk_at "vi"))) sea_nil rfl) rfl rfl rfl rfl) (fun _ => rfl))) (semb_cons (sems_ret (sem_v (c.nm (i := 1) rfl (by walk_at "vi")))) semb_nil) semb_nil) semb_nil)) (fun _ => rfl)) (semb_cons (sems_ret sem_non) semb_nil))
theorem sb0_check_values {X : Cx} {k : Nat} {gd : Option (List Code)} (c : Cok X (gi0 gd) k N_check_values sc_check_values) (hf : ∀ x, X.fn x = true) (hp : PassesOwn (model X.prog X.w) X.A X.env X.xe) (hz : X.stack = X.env :: X.outer ∧ X.env.frame = some X.env.locals) : SemB X (gi0 gd) k (defBody s_check_values) b_check_values := (semb_cons (sems_if (semt_not (semt_val (sem_call (n := n_is_list_up_to) (ar := [.inl 0, .inl 1]) c rfl rfl rfl (List.mem_of_getElem? (i := 0) rfl) (sclOk rfl) rfl (sea_cons (sem_v (c.nm (i := 0) rfl (by walk_at "vi"))) (sea_cons (sem_gk c rfl (List.mem_of_getElem? (i := 0) rfl)) sea_nil rfl) rfl) rfl rfl rfl rfl) (fun _ => rfl))) (semb_cons sems_never semb_nil) semb_nil) (semb_cons (sems_set (c.nl hf (i := 1) rfl (by walk_at "vi")) (sem_call (n := n_first_not_whole) (ar := [.inl 0]) c rfl rfl rfl (List.mem_of_getElem? (i := 0) rfl) (sclOk rfl) rfl (sea_cons (sem_v (c.nm (i := 0) rfl (by walk_at "vi"))) sea_nil rfl) rfl rfl rfl rfl) rfl) (semb_cons (sems_if (semt_cmp isnC (sem_v (c.nm (i := 1) rfl (by walk_at "vi"))) sem_non rfl) (semb_cons sems_never semb_nil) semb_nil) semb_nil)))
theorem sb0_check_marked {X : Cx} {k : Nat} {gd : Option (List Code)} (c : Cok X (gi0 gd) k N_check_marked sc_check_marked) (hf : ∀ x, X.fn x = true) (hp : PassesOwn (model X.prog X.w) X.A X.env X.xe) (hz : X.stack = X.env :: X.outer ∧ X.env.frame = some X.env.locals) : SemB X (gi0 gd) k (defBody s_check_marked) b_check_marked := (semb_cons (sems_if (semt_not (semt_val (sem_call (n := n_is_list_up_to) (ar := [.inl 0, .inl 1]) c rfl rfl rfl (List.mem_of_getElem? (i := 0) rfl) (sclOk rfl) rfl (sea_cons (sem_v (c.nm (i := 0) rfl (by walk_at "vi"))) (sea_cons (sem_gk c rfl (List.mem_of_getElem? (i := 1) rfl)) sea_nil rfl) rfl) rfl rfl rfl rfl) (fun _ => rfl))) (semb_cons sems_never semb_nil) semb_nil) (semb_cons (sems_set (c.nl hf (i := 1) rfl (by walk_at "vi")) (sem_call (n := n_first_wrong_mark) (ar := [.inl 0]) c rfl rfl rfl (List.mem_of_getElem? (i := 0) rfl) (sclOk rfl) rfl (sea_cons (sem_v (c.nm (i := 0) rfl (by walk_at "vi"))) sea_nil rfl) rfl rfl rfl rfl) rfl) (semb_cons (sems_if (semt_cmp isnC (sem_v (c.nm (i := 1) rfl (by walk_at "vi"))) sem_non rfl) (semb_cons sems_never semb_nil) semb_nil) semb_nil)))
theorem sb0_longest_gone {X : Cx} {k : Nat} {gd : Option (List Code)} (c : Cok X (gi0 gd) k N_longest_gone sc_longest_gone) (hf : ∀ x, X.fn x = true) (hp : PassesOwn (model X.prog X.w) X.A X.env X.xe) (hz : X.stack = X.env :: X.outer ∧ X.env.frame = some X.env.locals) : SemB X (gi0 gd) k (defBody s_longest_gone) b_longest_gone := (semb_cons (sems_ret (sem_bin op_subS (sem_bin op_shlS sem_int (sem_v (c.nm (i := 0) rfl (by walk_at "vi")))) sem_int)) semb_nil)
theorem sb0_number_before {X : Cx} {k : Nat} {gd : Option (List Code)} (c : Cok X (gi0 gd) k N_number_before sc_number_before) (hf : ∀ x, X.fn x = true) (hp : PassesOwn (model X.prog X.w) X.A X.env X.xe) (hz : X.stack = X.env :: X.outer ∧ X.env.frame = some X.env.locals) : SemB X (gi0 gd) k (defBody s_number_before) b_number_before := (semb_cons (sems_set (c.nl hf (i := 3) rfl (by walk_at "vi")) (sem_b1 (c.b rfl (List.mem_of_getElem? (i := 4) rfl)) lenS (sem_v (c.nm (i := 0) rfl (by walk_at "vi"))) rfl) rfl) (semb_cons (sems_set (c.nl hf (i := 4) rfl (by walk_at "vi")) (sem_call (n := n_longest_gone) (ar := [.inl 0]) c rfl rfl rfl (List.mem_of_getElem? (i := 0) rfl) (sclOk rfl) rfl (sea_cons (sem_v (c.nm (i := 2) rfl (by walk_at "vi"))) sea_nil rfl) rfl rfl rfl rfl) rfl) (semb_cons (sems_set (c.nl hf (i := 5) rfl (by walk_at "vi")) (sem_b1 (c.b rfl (List.mem_of_getElem? (i := 4) rfl)) lenS (sem_lc (own := [("value", 7)]) c.calm (by show X.N.Nodup; rw [c.n]; exact c.nd) (by rw [c.n, c.s]; exact blkOk_by rfl) rfl (semi_e (sem_v (c.nm (i := 1) rfl (by walk_at "vi")))) (fun s1 h1 c1 l1 p1 => (semg_nm ((c.blk s1 h1 c1 l1 p1).nlB (i := 7) rfl rfl))) (by decide) (fun s1 h1 c1 l1 p1 => (semts_one (semt_cmp (inC (c.blk s1 h1 c1 l1 p1).un) (sem_v ((c.blk s1 h1 c1 l1 p1).nm (i := 7) rfl (by walk_at "vi"))) (sem_v ((c.blk s1 h1 c1 l1 p1).nm (i := 0) rfl (by walk_at "vi"))) rfl))) (fun s1 h1 c1 l1 p1 => (sem_v ((c.blk s1 h1 c1 l1 p1).nm (i := 7) rfl (by walk_at "vi")))) (fun _ => rfl)) rfl) rfl) (semb_cons (sems_set (c.nl hf (i := 6) rfl (by walk_at "vi")) (sem_b1 (c.b rfl (List.mem_of_getElem? (i := 8) rfl)) (sumS c.calm) (sem_lc (own := [("length", 8)]) c.calm (by show X.N.Nodup; rw [c.n]; exact c.nd) (by rw [c.n, c.s]; exact blkOk_by rfl) rfl (semi_r1 (c.gl rfl) (c.bi _ (List.mem_of_getElem? (i := 6) rfl)) (sem_bin op_addS (sem_v (c.nm (i := 4) rfl (by walk_at "vi"))) sem_int) rfl) (fun s2 h2 c2 l2 p2 => (semg_nm ((c.blk s2 h2 c2 l2 p2).nlB (i := 8) rfl rfl))) (by decide) (fun s2 h2 c2 l2 p2 => semts_nil) (fun s2 h2 c2 l2 p2 => (sem_call (n := n_power) (ar := [.inl 0, .inl 1]) (c.blk s2 h2 c2 l2 p2) rfl rfl rfl (List.mem_of_getElem? (i := 0) rfl) (sclOk rfl) rfl (sea_cons (sem_v ((c.blk s2 h2 c2 l2 p2).nm (i := 3) rfl (by walk_at "vi"))) (sea_cons (sem_v ((c.blk s2 h2 c2 l2 p2).nm (i := 8) rfl (by walk_at "vi"))) sea_nil rfl) rfl) rfl rfl rfl rfl)) (fun _ => rfl)) rfl) rfl) (semb_cons (sems_ret (sem_bin op_mulS (sem_call (n := n_power) (ar := [.inl 0, .inl 1]) c rfl rfl rfl (List.mem_of_getElem? (i := 0) rfl) (sclOk rfl) rfl (sea_cons (sem_v (c.nm (i := 3) rfl (by walk_at "vi"))) (sea_cons (sem_bin op_mulS (sem_v (c.nm (i := 4) rfl (by walk_at "vi"))) (sem_v (c.nm (i := 5) rfl (by walk_at "vi")))) sea_nil rfl) rfl) rfl rfl rfl rfl) (sem_call (n := n_power) (ar := [.inl 0, .inl 1]) c rfl rfl rfl (List.mem_of_getElem? (i := 0) rfl) (sclOk rfl) rfl (sea_cons (sem_v (c.nm (i := 6) rfl (by walk_at "vi"))) (sea_cons (sem_bin op_addS (sem_bin op_subS (sem_b1 (c.b rfl (List.mem_of_getElem? (i := 4) rfl)) lenS (sem_v (c.nm (i := 1) rfl (by walk_at "vi"))) rfl) (sem_v (c.nm (i := 5) rfl (by walk_at "vi")))) sem_int) sea_nil rfl) rfl) rfl rfl rfl rfl))) semb_nil)))))
theorem sb0_power {X : Cx} {k : Nat} {gd : Option (List Code)} (c : Cok X (gi0 gd) k N_power sc_power) (hf : ∀ x, X.fn x = true) (hp : PassesOwn (model X.prog X.w) X.A X.env X.xe) (hz : X.stack = X.env :: X.outer ∧ X.env.frame = some X.env.locals) : SemB X (gi0 gd) k (defBody s_power) b_power := (semb_cons (sems_set (c.nl hf (i := 2) rfl (by walk_at "vi")) sem_int rfl) (semb_cons (sems_for (cc := false) hp c.calm (semi_r1 (c.gl rfl) (c.bi _ (List.mem_of_getElem? (i := 6) rfl)) (sem_v (c.nm (i := 1) rfl (by walk_at "vi"))) rfl) (semg_nm (c.nl hf (i := 3) rfl (by walk_at "vi"))) (show SemB X (gi0 gd) k _ b_power_0 from (semb_cons (sems_aug (c.nl hf (i := 2) rfl (by walk_at "vi")) aug_mul (sem_v (c.nm (i := 0) rfl (by walk_at "vi")))) semb_nil)) (fun _ => rfl)) (semb_cons (sems_ret (sem_v (c.nm (i := 2) rfl (by walk_at "vi")))) semb_nil)))
theorem sb0_lists_before {X : Cx} {k : Nat} {gd : Option (List Code)} (c : Cok X (gi0 gd) k N_lists_before sc_lists_before) (hf : ∀ x, X.fn x = true) (hp : PassesOwn (model X.prog X.w) X.A X.env X.xe) (hz : X.stack = X.env :: X.outer ∧ X.env.frame = some X.env.locals) : SemB X (gi0 gd) k (defBody s_lists_before) b_lists_before := (semb_cons (sems_setLc (own := [("number", 7)]) c.calm (by show X.N.Nodup; rw [c.n]; exact c.nd) (by rw [c.n]; rfl) (by rw [c.s]; rfl) (swaps_of c.s rfl) (by rw [c.n, c.s]; exact blkOk_by rfl) rfl (semi_e (sem_v (c.nm (i := 0) rfl (by walk_at "vi")))) (fun s3 h3 c3 l3 p3 => (semg_nm ((c.blk s3 h3 c3 l3 p3).nlB (i := 7) rfl rfl))) (by decide) (fun s3 h3 c3 l3 p3 => semts_nil) (fun s3 h3 c3 l3 p3 => (sem_lst (sea_cons (sem_v ((c.blk s3 h3 c3 l3 p3).nm (i := 7) rfl (by walk_at "vi"))) sea_nil rfl) (Nat.le_of_ble_eq_true rfl))) (fun _ => rfl)) (semb_cons (sems_set (c.nl hf (i := 3) rfl (by walk_at "vi")) (sem_addf (sem_lst (sea_cons (sem_lst sea_nil (Nat.le_of_ble_eq_true rfl)) sea_nil rfl) (Nat.le_of_ble_eq_true rfl)) (sem_v (c.nm (i := 2) rfl (by walk_at "vi")))) rfl) (semb_cons (sems_set (c.nl hf (i := 4) rfl (by walk_at "vi")) (sem_lst (sea_cons (sem_lst sea_nil (Nat.le_of_ble_eq_true rfl)) sea_nil rfl) (Nat.le_of_ble_eq_true rfl)) rfl) (semb_cons (sems_for (cc := false) hp c.calm (semi_e (sem_v (c.nm (i := 1) rfl (by walk_at "vi")))) (semg_nm (c.nl hf (i := 5) rfl (by walk_at "vi"))) (show SemB X (gi0 gd) k _ b_lists_before_0 from (semb_cons (sems_set (c.nl hf (i := 6) rfl (by walk_at "vi")) (sem_ife (semt_cmp (inC c.un) (sem_v (c.nm (i := 5) rfl (by walk_at "vi"))) (sem_v (c.nm (i := 0) rfl (by walk_at "vi"))) rfl) (sem_v (c.nm (i := 2) rfl (by walk_at "vi"))) (sem_v (c.nm (i := 3) rfl (by walk_at "vi")))) rfl) (semb_cons (sems_setLc2 (own := [("row", 8), ("gone", 9)]) (vs1 := [9]) c.calm (by show X.N.Nodup; rw [c.n]; exact c.nd) (by rw [c.n]; rfl) (by rw [c.s]; rfl) (swaps_of c.s rfl) (by rw [c.n, c.s]; exact blkOk_by rfl) rfl (by decide) (semi_e (sem_v (c.nm (i := 4) rfl (by walk_at "vi")))) (fun s4 h4 c4 l4 p4 => (semg_nm ((c.blk s4 h4 c4 l4 p4).nlB (i := 8) rfl rfl))) (by decide) (fun s4 h4 c4 l4 p4 => semts_nil) (fun s4 h4 c4 l4 p4 => (semi_e (sem_v ((c.blk s4 h4 c4 l4 p4).nm (i := 6) rfl (by walk_at "vi"))))) (fun s4 h4 c4 l4 p4 => (semg_nm ((c.blk s4 h4 c4 l4 p4).nlB (i := 9) rfl rfl))) (by decide) (fun s4 h4 c4 l4 p4 => semts_nil) (fun s4 h4 c4 l4 p4 => (sem_bin op_addS (sem_bin op_addS (sem_v ((c.blk s4 h4 c4 l4 p4).nm (i := 8) rfl (by walk_at "vi"))) (sem_v ((c.blk s4 h4 c4 l4 p4).nm (i := 9) rfl (by walk_at "vi")))) (sem_lst (sea_cons (sem_v ((c.blk s4 h4 c4 l4 p4).nm (i := 5) rfl (by walk_at "vi"))) sea_nil rfl) (Nat.le_of_ble_eq_true rfl)))) (fun _ => rfl) (fun _ _ => rfl)) semb_nil))) (fun _ => rfl)) (semb_cons (sems_ret (sem_lc2 (own := [("row", 8), ("gone", 9)]) (vs1 := [9]) c.calm (by show X.N.Nodup; rw [c.n]; exact c.nd) (by rw [c.n, c.s]; exact blkOk_by rfl) rfl (by decide) (semi_e (sem_v (c.nm (i := 4) rfl (by walk_at "vi")))) (fun s5 h5 c5 l5 p5 => (semg_nm ((c.blk s5 h5 c5 l5 p5).nlB (i := 8) rfl rfl))) (by decide) (fun s5 h5 c5 l5 p5 => semts_nil) (fun s5 h5 c5 l5 p5 => (semi_e (sem_v ((c.blk s5 h5 c5 l5 p5).nm (i := 3) rfl (by walk_at "vi"))))) (fun s5 h5 c5 l5 p5 => (semg_nm ((c.blk s5 h5 c5 l5 p5).nlB (i := 9) rfl rfl))) (by decide) (fun s5 h5 c5 l5 p5 => semts_nil) (fun s5 h5 c5 l5 p5 => (sem_bin op_addS (sem_v ((c.blk s5 h5 c5 l5 p5).nm (i := 8) rfl (by walk_at "vi"))) (sem_v ((c.blk s5 h5 c5 l5 p5).nm (i := 9) rfl (by walk_at "vi"))))) (fun _ => rfl) (fun _ _ => rfl))) semb_nil)))))
theorem sb_is_whole {X : Cx} {k : Nat} (c : Cok X gi k N_is_whole sc_is_whole) (hf : ∀ x, X.fn x = true) (hp : PassesOwn (model X.prog X.w) X.A X.env X.xe) (hz : X.stack = X.env :: X.outer ∧ X.env.frame = some X.env.locals) : SemB X gi k (defBody s_is_whole) b_is_whole := (semb_cons (sems_ret (sem_and (sem_isi (c.b rfl (List.mem_of_getElem? (i := 3) rfl)) (c.b rfl (List.mem_of_getElem? (i := 2) rfl)) (sem_v (c.nm (i := 0) rfl (by walk_at "vi"))) rfl rfl rfl) (sem_one (sem_not (sem_isi (c.b rfl (List.mem_of_getElem? (i := 3) rfl)) (c.b rfl (List.mem_of_getElem? (i := 0) rfl)) (sem_v (c.nm (i := 0) rfl (by walk_at "vi"))) rfl rfl rfl))))) semb_nil)
theorem sb_is_list_up_to {X : Cx} {k : Nat} (c : Cok X gi k N_is_list_up_to sc_is_list_up_to) (hf : ∀ x, X.fn x = true) (hp : PassesOwn (model X.prog X.w) X.A X.env X.xe) (hz : X.stack = X.env :: X.outer ∧ X.env.frame = some X.env.locals) : SemB X gi k (defBody s_is_list_up_to) b_is_list_up_to := (semb_cons (sems_ret (sem_and (sem_isi (c.b rfl (List.mem_of_getElem? (i := 3) rfl)) (c.b rfl (List.mem_of_getElem? (i := 5) rfl)) (sem_v (c.nm (i := 0) rfl (by walk_at "vi"))) rfl rfl rfl) (sem_one (sem_cmp leC (sem_b1 (c.b rfl (List.mem_of_getElem? (i := 4) rfl)) lenS (sem_v (c.nm (i := 0) rfl (by walk_at "vi"))) rfl) (sem_v (c.nm (i := 1) rfl (by walk_at "vi"))) rfl)))) semb_nil)
theorem sb_first_wrong_mark {X : Cx} {k : Nat} (c : Cok X gi k N_first_wrong_mark sc_first_wrong_mark) (hf : ∀ x, X.fn x = true) (hp : PassesOwn (model X.prog X.w) X.A X.env X.xe) (hz : X.stack = X.env :: X.outer ∧ X.env.frame = some X.env.locals) : SemB X gi k (defBody s_first_wrong_mark) b_first_wrong_mark := (semb_cons (sems_for (cc := false) hp c.calm (semi_en (c.gl rfl) (c.bi _ (List.mem_of_getElem? (i := 1) rfl)) (sem_v (c.nm (i := 0) rfl (by walk_at "vi"))) rfl) (semg_tu c.calm (semgs_cons (c.nl hf (i := 1) rfl (by walk_at "vi")) (semgs_cons (c.nl hf (i := 2) rfl (by walk_at "vi")) semgs_nil rfl) rfl) rfl rfl) (show SemB X gi k _ b_first_wrong_mark_0 from (semb_cons (sems_if (semt_w (semw_or (semt_not (semt_val (sem_call (n := n_is_whole) (ar := [.inl 0]) c rfl rfl rfl (List.mem_of_getElem? (i := 0) rfl) (sclOk rfl) rfl (sea_cons (sem_v (c.nm (i := 2) rfl (by walk_at "vi"))) sea_nil rfl) rfl rfl rfl rfl) (fun _ => rfl))) (semw_or1 (semt_cmp (inC c.un) (sem_v (c.nm (i := 2) rfl (by walk_at "vi"))) (sem_sl (sem_v (c.nm (i := 0) rfl (by walk_at "vi"))) semo_none (semo_some (sem_v (c.nm (i := 1) rfl (by walk_at "vi"))))) rfl)))) (semb_cons (sems_ret (sem_v (c.nm (i := 1) rfl (by walk_at "vi")))) semb_nil) semb_nil) semb_nil)) (fun _ => rfl)) (semb_cons (sems_ret sem_non) semb_nil))
theorem sb_first_not_whole {X : Cx} {k : Nat} (c : Cok X gi k N_first_not_whole sc_first_not_whole) (hf : ∀ x, X.fn x = true) (hp : PassesOwn (model X.prog X.w) X.A X.env X.xe) (hz : X.stack = X.env :: X.outer ∧ X.env.frame = some X.env.locals) : SemB X gi k (defBody s_first_not_whole) b_first_not_whole := (semb_cons (sems_for (cc := false) hp c.calm (semi_en (c.gl rfl) (c.bi _ (List.mem_of_getElem? (i := 1) rfl)) (sem_v (c.nm (i := 0) rfl (by walk_at "vi"))) rfl) (semg_tu c.calm (semgs_cons (c.nl hf (i := 1) rfl (by walk_at "vi")) (semgs_cons (c.nl hf (i := 2) rfl (by walk_at "vi")) semgs_nil rfl) rfl) rfl rfl) (show SemB X gi k _ b_first_not_whole_0 from (semb_cons (sems_if (semt_not (semt_val (sem_call (n := n_is_whole) (ar := [.inl 0]) c rfl rfl rfl (List.mem_of_getElem? (i := 0) rfl) (sclOk rfl) rfl (sea_cons (sem_v (c.nm (i := 2) rfl (by walk_at "vi"))) sea_nil rfl) rfl rfl rfl rfl) (fun _ => rfl))) (semb_cons (sems_ret (sem_v (c.nm (i := 1) rfl (by walk_at "vi")))) semb_nil) semb_nil) semb_nil)) (fun _ => rfl)) (semb_cons (sems_ret sem_non) semb_nil))
theorem sb_check_values {X : Cx} {k : Nat} (c : Cok X gi k N_check_values sc_check_values) (hf : ∀ x, X.fn x = true) (hp : PassesOwn (model X.prog X.w) X.A X.env X.xe) (hz : X.stack = X.env :: X.outer ∧ X.env.frame = some X.env.locals) : SemB X gi k (defBody s_check_values) b_check_values := (semb_cons (sems_if (semt_not (semt_val (sem_call (n := n_is_list_up_to) (ar := [.inl 0, .inl 1]) c rfl rfl rfl (List.mem_of_getElem? (i := 0) rfl) (sclOk rfl) rfl (sea_cons (sem_v (c.nm (i := 0) rfl (by walk_at "vi"))) (sea_cons (sem_gk c rfl (List.mem_of_getElem? (i := 0) rfl)) sea_nil rfl) rfl) rfl rfl rfl rfl) (fun _ => rfl))) (semb_cons sems_never semb_nil) semb_nil) (semb_cons (sems_set (c.nl hf (i := 1) rfl (by walk_at "vi")) (sem_call (n := n_first_not_whole) (ar := [.inl 0]) c rfl rfl rfl (List.mem_of_getElem? (i := 0) rfl) (sclOk rfl) rfl (sea_cons (sem_v (c.nm (i := 0) rfl (by walk_at "vi"))) sea_nil rfl) rfl rfl rfl rfl) rfl) (semb_cons (sems_if (semt_cmp isnC (sem_v (c.nm (i := 1) rfl (by walk_at "vi"))) sem_non rfl) (semb_cons sems_never semb_nil) semb_nil) semb_nil)))
theorem sb_check_marked {X : Cx} {k : Nat} (c : Cok X gi k N_check_marked sc_check_marked) (hf : ∀ x, X.fn x = true) (hp : PassesOwn (model X.prog X.w) X.A X.env X.xe) (hz : X.stack = X.env :: X.outer ∧ X.env.frame = some X.env.locals) : SemB X gi k (defBody s_check_marked) b_check_marked := (semb_cons (sems_if (semt_not (semt_val (sem_call (n := n_is_list_up_to) (ar := [.inl 0, .inl 1]) c rfl rfl rfl (List.mem_of_getElem? (i := 0) rfl) (sclOk rfl) rfl (sea_cons (sem_v (c.nm (i := 0) rfl (by walk_at "vi"))) (sea_cons (sem_gk c rfl (List.mem_of_getElem? (i := 1) rfl)) sea_nil rfl) rfl) rfl rfl rfl rfl) (fun _ => rfl))) (semb_cons sems_never semb_nil) semb_nil) (semb_cons (sems_set (c.nl hf (i := 1) rfl (by walk_at "vi")) (sem_call (n := n_first_wrong_mark) (ar := [.inl 0]) c rfl rfl rfl (List.mem_of_getElem? (i := 0) rfl) (sclOk rfl) rfl (sea_cons (sem_v (c.nm (i := 0) rfl (by walk_at "vi"))) sea_nil rfl) rfl rfl rfl rfl) rfl) (semb_cons (sems_if (semt_cmp isnC (sem_v (c.nm (i := 1) rfl (by walk_at "vi"))) sem_non rfl) (semb_cons sems_never semb_nil) semb_nil) semb_nil)))
theorem sb_longest_gone {X : Cx} {k : Nat} (c : Cok X gi k N_longest_gone sc_longest_gone) (hf : ∀ x, X.fn x = true) (hp : PassesOwn (model X.prog X.w) X.A X.env X.xe) (hz : X.stack = X.env :: X.outer ∧ X.env.frame = some X.env.locals) : SemB X gi k (defBody s_longest_gone) b_longest_gone := (semb_cons (sems_ret (sem_bin op_subS (sem_bin op_shlS sem_int (sem_v (c.nm (i := 0) rfl (by walk_at "vi")))) sem_int)) semb_nil)
theorem sb_number_before {X : Cx} {k : Nat} (c : Cok X gi k N_number_before sc_number_before) (hf : ∀ x, X.fn x = true) (hp : PassesOwn (model X.prog X.w) X.A X.env X.xe) (hz : X.stack = X.env :: X.outer ∧ X.env.frame = some X.env.locals) : SemB X gi k (defBody s_number_before) b_number_before := (semb_cons (sems_set (c.nl hf (i := 3) rfl (by walk_at "vi")) (sem_b1 (c.b rfl (List.mem_of_getElem? (i := 4) rfl)) lenS (sem_v (c.nm (i := 0) rfl (by walk_at "vi"))) rfl) rfl) (semb_cons (sems_set (c.nl hf (i := 4) rfl (by walk_at "vi")) (sem_call (n := n_longest_gone) (ar := [.inl 0]) c rfl rfl rfl (List.mem_of_getElem? (i := 0) rfl) (sclOk rfl) rfl (sea_cons (sem_v (c.nm (i := 2) rfl (by walk_at "vi"))) sea_nil rfl) rfl rfl rfl rfl) rfl) (semb_cons (sems_set (c.nl hf (i := 5) rfl (by walk_at "vi")) (sem_b1 (c.b rfl (List.mem_of_getElem? (i := 4) rfl)) lenS (sem_lc (own := [("value", 7)]) c.calm (by show X.N.Nodup; rw [c.n]; exact c.nd) (by rw [c.n, c.s]; exact blkOk_by rfl) rfl (semi_e (sem_v (c.nm (i := 1) rfl (by walk_at "vi")))) (fun s1 h1 c1 l1 p1 => (semg_nm ((c.blk s1 h1 c1 l1 p1).nlB (i := 7) rfl rfl))) (by decide) (fun s1 h1 c1 l1 p1 => (semts_one (semt_cmp (inC (c.blk s1 h1 c1 l1 p1).un) (sem_v ((c.blk s1 h1 c1 l1 p1).nm (i := 7) rfl (by walk_at "vi"))) (sem_v ((c.blk s1 h1 c1 l1 p1).nm (i := 0) rfl (by walk_at "vi"))) rfl))) (fun s1 h1 c1 l1 p1 => (sem_v ((c.blk s1 h1 c1 l1 p1).nm (i := 7) rfl (by walk_at "vi")))) (fun _ => rfl)) rfl) rfl) (semb_cons (sems_set (c.nl hf (i := 6) rfl (by walk_at "vi")) (sem_b1 (c.b rfl (List.mem_of_getElem? (i := 8) rfl)) (sumS c.calm) (sem_lc (own := [("length", 8)]) c.calm (by show X.N.Nodup; rw [c.n]; exact c.nd) (by rw [c.n, c.s]; exact blkOk_by rfl) rfl (semi_r1 (c.gl rfl) (c.bi _ (List.mem_of_getElem? (i := 6) rfl)) (sem_bin op_addS (sem_v (c.nm (i := 4) rfl (by walk_at "vi"))) sem_int) rfl) (fun s2 h2 c2 l2 p2 => (semg_nm ((c.blk s2 h2 c2 l2 p2).nlB (i := 8) rfl rfl))) (by decide) (fun s2 h2 c2 l2 p2 => semts_nil) (fun s2 h2 c2 l2 p2 => (sem_call (n := n_power) (ar := [.inl 0, .inl 1]) (c.blk s2 h2 c2 l2 p2) rfl rfl rfl (List.mem_of_getElem? (i := 0) rfl) (sclOk rfl) rfl (sea_cons (sem_v ((c.blk s2 h2 c2 l2 p2).nm (i := 3) rfl (by walk_at "vi"))) (sea_cons (sem_v ((c.blk s2 h2 c2 l2 p2).nm (i := 8) rfl (by walk_at "vi"))) sea_nil rfl) rfl) rfl rfl rfl rfl)) (fun _ => rfl)) rfl) rfl) (semb_cons (sems_ret (sem_bin op_mulS (sem_call (n := n_power) (ar := [.inl 0, .inl 1]) c rfl rfl rfl (List.mem_of_getElem? (i := 0) rfl) (sclOk rfl) rfl (sea_cons (sem_v (c.nm (i := 3) rfl (by walk_at "vi"))) (sea_cons (sem_bin op_mulS (sem_v (c.nm (i := 4) rfl (by walk_at "vi"))) (sem_v (c.nm (i := 5) rfl (by walk_at "vi")))) sea_nil rfl) rfl) rfl rfl rfl rfl) (sem_call (n := n_power) (ar := [.inl 0, .inl 1]) c rfl rfl rfl (List.mem_of_getElem? (i := 0) rfl) (sclOk rfl) rfl (sea_cons (sem_v (c.nm (i := 6) rfl (by walk_at "vi"))) (sea_cons (sem_bin op_addS (sem_bin op_subS (sem_b1 (c.b rfl (List.mem_of_getElem? (i := 4) rfl)) lenS (sem_v (c.nm (i := 1) rfl (by walk_at "vi"))) rfl) (sem_v (c.nm (i := 5) rfl (by walk_at "vi")))) sem_int) sea_nil rfl) rfl) rfl rfl rfl rfl))) semb_nil)))))
theorem sb_power {X : Cx} {k : Nat} (c : Cok X gi k N_power sc_power) (hf : ∀ x, X.fn x = true) (hp : PassesOwn (model X.prog X.w) X.A X.env X.xe) (hz : X.stack = X.env :: X.outer ∧ X.env.frame = some X.env.locals) : SemB X gi k (defBody s_power) b_power := (semb_cons (sems_set (c.nl hf (i := 2) rfl (by walk_at "vi")) sem_int rfl) (semb_cons (sems_for (cc := false) hp c.calm (semi_r1 (c.gl rfl) (c.bi _ (List.mem_of_getElem? (i := 6) rfl)) (sem_v (c.nm (i := 1) rfl (by walk_at "vi"))) rfl) (semg_nm (c.nl hf (i := 3) rfl (by walk_at "vi"))) (show SemB X gi k _ b_power_0 from (semb_cons (sems_aug (c.nl hf (i := 2) rfl (by walk_at "vi")) aug_mul (sem_v (c.nm (i := 0) rfl (by walk_at "vi")))) semb_nil)) (fun _ => rfl)) (semb_cons (sems_ret (sem_v (c.nm (i := 2) rfl (by walk_at "vi")))) semb_nil)))
theorem sb_lists_before {X : Cx} {k : Nat} (c : Cok X gi k N_lists_before sc_lists_before) (hf : ∀ x, X.fn x = true) (hp : PassesOwn (model X.prog X.w) X.A X.env X.xe) (hz : X.stack = X.env :: X.outer ∧ X.env.frame = some X.env.locals) : SemB X gi k (defBody s_lists_before) b_lists_before := (semb_cons (sems_setLc (own := [("number", 7)]) c.calm (by show X.N.Nodup; rw [c.n]; exact c.nd) (by rw [c.n]; rfl) (by rw [c.s]; rfl) (swaps_of c.s rfl) (by rw [c.n, c.s]; exact blkOk_by rfl) rfl (semi_e (sem_v (c.nm (i := 0) rfl (by walk_at "vi")))) (fun s3 h3 c3 l3 p3 => (semg_nm ((c.blk s3 h3 c3 l3 p3).nlB (i := 7) rfl rfl))) (by decide) (fun s3 h3 c3 l3 p3 => semts_nil) (fun s3 h3 c3 l3 p3 => (sem_lst (sea_cons (sem_v ((c.blk s3 h3 c3 l3 p3).nm (i := 7) rfl (by walk_at "vi"))) sea_nil rfl) (Nat.le_of_ble_eq_true rfl))) (fun _ => rfl)) (semb_cons (sems_set (c.nl hf (i := 3) rfl (by walk_at "vi")) (sem_addf (sem_lst (sea_cons (sem_lst sea_nil (Nat.le_of_ble_eq_true rfl)) sea_nil rfl) (Nat.le_of_ble_eq_true rfl)) (sem_v (c.nm (i := 2) rfl (by walk_at "vi")))) rfl) (semb_cons (sems_set (c.nl hf (i := 4) rfl (by walk_at "vi")) (sem_lst (sea_cons (sem_lst sea_nil (Nat.le_of_ble_eq_true rfl)) sea_nil rfl) (Nat.le_of_ble_eq_true rfl)) rfl) (semb_cons (sems_for (cc := false) hp c.calm (semi_e (sem_v (c.nm (i := 1) rfl (by walk_at "vi")))) (semg_nm (c.nl hf (i := 5) rfl (by walk_at "vi"))) (show SemB X gi k _ b_lists_before_0 from (semb_cons (sems_set (c.nl hf (i := 6) rfl (by walk_at "vi")) (sem_ife (semt_cmp (inC c.un) (sem_v (c.nm (i := 5) rfl (by walk_at "vi"))) (sem_v (c.nm (i := 0) rfl (by walk_at "vi"))) rfl) (sem_v (c.nm (i := 2) rfl (by walk_at "vi"))) (sem_v (c.nm (i := 3) rfl (by walk_at "vi")))) rfl) (semb_cons (sems_setLc2 (own := [("row", 8), ("gone", 9)]) (vs1 := [9]) c.calm (by show X.N.Nodup; rw [c.n]; exact c.nd) (by rw [c.n]; rfl) (by rw [c.s]; rfl) (swaps_of c.s rfl) (by rw [c.n, c.s]; exact blkOk_by rfl) rfl (by decide) (semi_e (sem_v (c.nm (i := 4) rfl (by walk_at "vi")))) (fun s4 h4 c4 l4 p4 => (semg_nm ((c.blk s4 h4 c4 l4 p4).nlB (i := 8) rfl rfl))) (by decide) (fun s4 h4 c4 l4 p4 => semts_nil) (fun s4 h4 c4 l4 p4 => (semi_e (sem_v ((c.blk s4 h4 c4 l4 p4).nm (i := 6) rfl (by walk_at "vi"))))) (fun s4 h4 c4 l4 p4 => (semg_nm ((c.blk s4 h4 c4 l4 p4).nlB (i := 9) rfl rfl))) (by decide) (fun s4 h4 c4 l4 p4 => semts_nil) (fun s4 h4 c4 l4 p4 => (sem_bin op_addS (sem_bin op_addS (sem_v ((c.blk s4 h4 c4 l4 p4).nm (i := 8) rfl (by walk_at "vi"))) (sem_v ((c.blk s4 h4 c4 l4 p4).nm (i := 9) rfl (by walk_at "vi")))) (sem_lst (sea_cons (sem_v ((c.blk s4 h4 c4 l4 p4).nm (i := 5) rfl (by walk_at "vi"))) sea_nil rfl) (Nat.le_of_ble_eq_true rfl)))) (fun _ => rfl) (fun _ _ => rfl)) semb_nil))) (fun _ => rfl)) (semb_cons (sems_ret (sem_lc2 (own := [("row", 8), ("gone", 9)]) (vs1 := [9]) c.calm (by show X.N.Nodup; rw [c.n]; exact c.nd) (by rw [c.n, c.s]; exact blkOk_by rfl) rfl (by decide) (semi_e (sem_v (c.nm (i := 4) rfl (by walk_at "vi")))) (fun s5 h5 c5 l5 p5 => (semg_nm ((c.blk s5 h5 c5 l5 p5).nlB (i := 8) rfl rfl))) (by decide) (fun s5 h5 c5 l5 p5 => semts_nil) (fun s5 h5 c5 l5 p5 => (semi_e (sem_v ((c.blk s5 h5 c5 l5 p5).nm (i := 3) rfl (by walk_at "vi"))))) (fun s5 h5 c5 l5 p5 => (semg_nm ((c.blk s5 h5 c5 l5 p5).nlB (i := 9) rfl rfl))) (by decide) (fun s5 h5 c5 l5 p5 => semts_nil) (fun s5 h5 c5 l5 p5 => (sem_bin op_addS (sem_v ((c.blk s5 h5 c5 l5 p5).nm (i := 8) rfl (by walk_at "vi"))) (sem_v ((c.blk s5 h5 c5 l5 p5).nm (i := 9) rfl (by walk_at "vi"))))) (fun _ => rfl) (fun _ _ => rfl))) semb_nil)))))
theorem sb_is_whole_up_to {X : Cx} {k : Nat} (c : Cok X gi k N_is_whole_up_to sc_is_whole_up_to) (hf : ∀ x, X.fn x = true) (hp : PassesOwn (model X.prog X.w) X.A X.env X.xe) (hz : X.stack = X.env :: X.outer ∧ X.env.frame = some X.env.locals) : SemB X gi k (defBody s_is_whole_up_to) b_is_whole_up_to := (semb_cons (sems_ret (sem_and (sem_call (n := n_is_whole) (ar := [.inl 0]) c rfl rfl rfl (List.mem_of_getElem? (i := 0) rfl) (sclOk rfl) rfl (sea_cons (sem_v (c.nm (i := 0) rfl (by walk_at "vi"))) sea_nil rfl) rfl rfl rfl rfl) (sem_one (sem_ch leC leC sem_int (sem_v (c.nm (i := 0) rfl (by walk_at "vi"))) (sem_v (c.nm (i := 1) rfl (by walk_at "vi"))) rfl)))) semb_nil)
theorem sb_check_passes {X : Cx} {k : Nat} (c : Cok X gi k N_check_passes sc_check_passes) (hf : ∀ x, X.fn x = true) (hp : PassesOwn (model X.prog X.w) X.A X.env X.xe) (hz : X.stack = X.env :: X.outer ∧ X.env.frame = some X.env.locals) : SemB X gi k (defBody s_check_passes) b_check_passes := (semb_cons (sems_if (semt_not (semt_val (sem_call (n := n_is_whole_up_to) (ar := [.inl 0, .inl 1]) c rfl rfl rfl (List.mem_of_getElem? (i := 0) rfl) (sclOk rfl) rfl (sea_cons (sem_v (c.nm (i := 0) rfl (by walk_at "vi"))) (sea_cons (sem_v (c.nm (i := 1) rfl (by walk_at "vi"))) sea_nil rfl) rfl) rfl rfl rfl rfl) (fun _ => rfl))) (semb_cons sems_never semb_nil) semb_nil) semb_nil)
theorem sb_count_before {X : Cx} {k : Nat} (c : Cok X gi k N_count_before sc_count_before) (hf : ∀ x, X.fn x = true) (hp : PassesOwn (model X.prog X.w) X.A X.env X.xe) (hz : X.stack = X.env :: X.outer ∧ X.env.frame = some X.env.locals) : SemB X gi k (defBody s_count_before) b_count_before := (semb_cons (sems_expr (sem_call (n := n_check_marked) (ar := [.inl 0]) c rfl rfl rfl (List.mem_of_getElem? (i := 0) rfl) (sclOk rfl) rfl (sea_cons (sem_v (c.nm (i := 0) rfl (by walk_at "vi"))) sea_nil rfl) rfl rfl rfl rfl) rfl) (semb_cons (sems_expr (sem_call (n := n_check_values) (ar := [.inl 0]) c rfl rfl rfl (List.mem_of_getElem? (i := 0) rfl) (sclOk rfl) rfl (sea_cons (sem_v (c.nm (i := 1) rfl (by walk_at "vi"))) sea_nil rfl) rfl rfl rfl rfl) rfl) (semb_cons (sems_expr (sem_call (n := n_check_passes) (ar := [.inl 0, .inl 1]) c rfl rfl rfl (List.mem_of_getElem? (i := 0) rfl) (sclOk rfl) rfl (sea_cons (sem_v (c.nm (i := 2) rfl (by walk_at "vi"))) (sea_cons (sem_gk c rfl (List.mem_of_getElem? (i := 3) rfl)) sea_nil rfl) rfl) rfl rfl rfl rfl) rfl) (semb_cons (sems_ret (sem_call (n := n_number_before) (ar := [.inl 0, .inl 1, .inl 2]) c rfl rfl rfl (List.mem_of_getElem? (i := 0) rfl) (sclOk rfl) rfl (sea_cons (sem_v (c.nm (i := 0) rfl (by walk_at "vi"))) (sea_cons (sem_v (c.nm (i := 1) rfl (by walk_at "vi"))) (sea_cons (sem_v (c.nm (i := 2) rfl (by walk_at "vi"))) sea_nil rfl) rfl) rfl) rfl rfl rfl rfl)) semb_nil))))
theorem sb_left_by {X : Cx} {k : Nat} (c : Cok X gi k N_left_by sc_left_by) (hf : ∀ x, X.fn x = true) (hp : PassesOwn (model X.prog X.w) X.A X.env X.xe) (hz : X.stack = X.env :: X.outer ∧ X.env.frame = some X.env.locals) : SemB X gi k (defBody s_left_by) b_left_by := (semb_cons (sems_set (c.nl hf (i := 3) rfl (by walk_at "vi")) (sem_t1 (c.b rfl (List.mem_of_getElem? (i := 5) rfl)) (listS c.calm) (sem_v (c.nm (i := 2) rfl (by walk_at "vi"))) rfl) rfl) (semb_cons (sems_set (c.nl hf (i := 4) rfl (by walk_at "vi")) sem_int rfl) (semb_cons (sems_while (cc := false) hp (show SemT X gi k _ t_left_by_0 from (semt_cmp ltC (sem_v (c.nm (i := 4) rfl (by walk_at "vi"))) (sem_b1 (c.b rfl (List.mem_of_getElem? (i := 4) rfl)) lenS (sem_v (c.nm (i := 3) rfl (by walk_at "vi"))) rfl) rfl)) (show SemB X gi k _ b_left_by_0 from (semb_cons (sems_if (semt_cmp (inC c.un) (sem_ix c.un (sem_v (c.nm (i := 3) rfl (by walk_at "vi"))) (sem_v (c.nm (i := 4) rfl (by walk_at "vi"))) (fun _ _ => rfl)) (sem_v (c.nm (i := 1) rfl (by walk_at "vi"))) rfl) (semb_cons (sems_expr (sem_callv (m := 2) (ok := okv_2) (ar := [.inl 0, .inl 1]) c (c.nm (i := 0) rfl (by walk_at "vi")) (List.forall_mem_cons.mpr ⟨⟨_, rfl, (List.mem_of_getElem? (i := 0) rfl), rfl⟩, (fun _ h => nomatch h)⟩) (sclOk rfl) (sea_cons (sem_v (c.nm (i := 3) rfl (by walk_at "vi"))) (sea_cons (sem_v (c.nm (i := 4) rfl (by walk_at "vi"))) sea_nil rfl) rfl) rfl rfl rfl) rfl) semb_nil) semb_nil) (semb_cons (sems_aug (c.nl hf (i := 4) rfl (by walk_at "vi")) aug_add sem_int) semb_nil)))) (semb_cons (sems_ret (sem_v (c.nm (i := 3) rfl (by walk_at "vi")))) semb_nil))))
theorem sb_drop_visited {X : Cx} {k : Nat} (c : Cok X gi k N_drop_visited sc_drop_visited) (hf : ∀ x, X.fn x = true) (hp : PassesOwn (model X.prog X.w) X.A X.env X.xe) (hz : X.stack = X.env :: X.outer ∧ X.env.frame = some X.env.locals) : SemB X gi k (defBody s_drop_visited) b_drop_visited := (semb_cons (sems_del (sem_v (c.nm (i := 0) rfl (by walk_at "vi"))) (sem_v (c.nm (i := 1) rfl (by walk_at "vi")))) semb_nil)
theorem sb_check_both {X : Cx} {k : Nat} (c : Cok X gi k N_check_both sc_check_both) (hf : ∀ x, X.fn x = true) (hp : PassesOwn (model X.prog X.w) X.A X.env X.xe) (hz : X.stack = X.env :: X.outer ∧ X.env.frame = some X.env.locals) : SemB X gi k (defBody s_check_both) b_check_both := (semb_cons (sems_expr (sem_call (n := n_check_marked) (ar := [.inl 0]) c rfl rfl rfl (List.mem_of_getElem? (i := 0) rfl) (sclOk rfl) rfl (sea_cons (sem_v (c.nm (i := 0) rfl (by walk_at "vi"))) sea_nil rfl) rfl rfl rfl rfl) rfl) (semb_cons (sems_expr (sem_call (n := n_check_values) (ar := [.inl 0]) c rfl rfl rfl (List.mem_of_getElem? (i := 0) rfl) (sclOk rfl) rfl (sea_cons (sem_v (c.nm (i := 1) rfl (by walk_at "vi"))) sea_nil rfl) rfl rfl rfl rfl) rfl) semb_nil))
theorem sb_after_passes {X : Cx} {k : Nat} (c : Cok X gi k N_after_passes sc_after_passes) (hf : ∀ x, X.fn x = true) (hp : PassesOwn (model X.prog X.w) X.A X.env X.xe) (hz : X.stack = X.env :: X.outer ∧ X.env.frame = some X.env.locals) : SemB X gi k (defBody s_after_passes) b_after_passes := (semb_cons (sems_expr (sem_call (n := n_check_both) (ar := [.inl 0, .inl 1]) c rfl rfl rfl (List.mem_of_getElem? (i := 0) rfl) (sclOk rfl) rfl (sea_cons (sem_v (c.nm (i := 0) rfl (by walk_at "vi"))) (sea_cons (sem_v (c.nm (i := 1) rfl (by walk_at "vi"))) sea_nil rfl) rfl) rfl rfl rfl rfl) rfl) (semb_cons (sems_expr (sem_call (n := n_check_passes) (ar := [.inl 0, .inl 1]) c rfl rfl rfl (List.mem_of_getElem? (i := 0) rfl) (sclOk rfl) rfl (sea_cons (sem_v (c.nm (i := 2) rfl (by walk_at "vi"))) (sea_cons (sem_gk c rfl (List.mem_of_getElem? (i := 2) rfl)) sea_nil rfl) rfl) rfl rfl rfl rfl) rfl) (semb_cons (sems_set (c.nl hf (i := 3) rfl (by walk_at "vi")) (sem_t1 (c.b rfl (List.mem_of_getElem? (i := 5) rfl)) (listS c.calm) (sem_v (c.nm (i := 1) rfl (by walk_at "vi"))) rfl) rfl) (semb_cons (sems_for (cc := false) hp c.calm (semi_r1 (c.gl rfl) (c.bi _ (List.mem_of_getElem? (i := 6) rfl)) (sem_v (c.nm (i := 2) rfl (by walk_at "vi"))) rfl) (semg_nm (c.nl hf (i := 4) rfl (by walk_at "vi"))) (show SemB X gi k _ b_after_passes_0 from (semb_cons (sems_set (c.nl hf (i := 3) rfl (by walk_at "vi")) (sem_call (n := n_left_by) (ar := [.inl 0, .inl 1, .inl 2]) c rfl rfl rfl (List.mem_of_getElem? (i := 0) rfl) (sclOk rfl) rfl (sea_cons (sem_g c rfl (n := n_drop_visited) rfl rfl) (sea_cons (sem_v (c.nm (i := 0) rfl (by walk_at "vi"))) (sea_cons (sem_v (c.nm (i := 3) rfl (by walk_at "vi"))) sea_nil rfl) rfl) rfl) rfl rfl rfl rfl) rfl) semb_nil)) (fun _ => rfl)) (semb_cons (sems_ret (sem_v (c.nm (i := 3) rfl (by walk_at "vi")))) semb_nil)))))
theorem sb_draws {X : Cx} {k : Nat} (c : Cok X gi k N_draws sc_draws) (hf : ∀ x, X.fn x = true) (hp : PassesOwn (model X.prog X.w) X.A X.env X.xe) (hz : X.stack = X.env :: X.outer ∧ X.env.frame = some X.env.locals) : SemB X gi k (defBody s_draws) b_draws := (semb_cons (sems_ret (sem_lst (sea_cons (sem_bin op_modS (sem_t1 (c.b rfl (List.mem_of_getElem? (i := 2) rfl)) intS (sem_v (c.nm (i := 0) rfl (by walk_at "vi"))) rfl) (sem_bin op_powS (sem_bin op_powS (sem_bin op_powS sem_int sem_int) sem_int) sem_int)) (sea_cons sem_int (sea_cons (sem_cmp geC (sem_v (c.nm (i := 0) rfl (by walk_at "vi"))) (sem_bin op_powS sem_int sem_int) rfl) sea_nil rfl) rfl) rfl) (Nat.le_of_ble_eq_true rfl))) semb_nil)
theorem sb_next {X : Cx} {k : Nat} (c : Cok X gi k N_next sc_next) (hf : ∀ x, X.fn x = true) (hp : PassesOwn (model X.prog X.w) X.A X.env X.xe) (hz : X.stack = X.env :: X.outer ∧ X.env.frame = some X.env.locals) : SemB X gi k (defBody s_next) b_next := (semb_cons (sems_sti c.un (sem_v (c.nm (i := 0) rfl (by walk_at "vi"))) sem_int (sem_bin op_addS (sem_ix c.un (sem_v (c.nm (i := 0) rfl (by walk_at "vi"))) sem_int (fun _ _ => rfl)) sem_int) rfl rfl rfl (fun _ => rfl)) (semb_cons (sems_set (c.nl hf (i := 1) rfl (by walk_at "vi")) (sem_ix c.un (sem_v (c.nm (i := 0) rfl (by walk_at "vi"))) sem_int (fun _ _ => rfl)) rfl) (semb_cons (sems_if (semt_val (sem_ix c.un (sem_v (c.nm (i := 0) rfl (by walk_at "vi"))) sem_int (fun _ _ => rfl)) (fun _ => rfl)) (semb_cons (sems_set (c.nl hf (i := 2) rfl (by walk_at "vi")) (sem_bin op_modS (sem_t1 (c.b rfl (List.mem_of_getElem? (i := 2) rfl)) intS (sem_ix c.un (sem_v (c.nm (i := 0) rfl (by walk_at "vi"))) sem_int (fun _ _ => rfl)) rfl) (sem_bin op_powS sem_int sem_int)) rfl) (semb_cons (sems_sti c.un (sem_v (c.nm (i := 0) rfl (by walk_at "vi"))) sem_int (sem_bin op_fdivS (sem_ix c.un (sem_v (c.nm (i := 0) rfl (by walk_at "vi"))) sem_int (fun _ _ => rfl)) (sem_bin op_powS sem_int sem_int)) rfl rfl rfl (fun _ => rfl)) (semb_cons (sems_ret (sem_v (c.nm (i := 2) rfl (by walk_at "vi")))) semb_nil))) semb_nil) (semb_cons (sems_set (c.nl hf (i := 2) rfl (by walk_at "vi")) (sem_bin op_modS (sem_t1 (c.b rfl (List.mem_of_getElem? (i := 2) rfl)) intS (sem_bin op_mulS (sem_bin op_addS (sem_bin op_addS (sem_bin op_modS (sem_t1 (c.b rfl (List.mem_of_getElem? (i := 2) rfl)) intS (sem_ix c.un (sem_v (c.nm (i := 0) rfl (by walk_at "vi"))) sem_int (fun _ _ => rfl)) rfl) sem_int) (sem_bin op_mulS (sem_bin op_mulS (sem_v (c.nm (i := 1) rfl (by walk_at "vi"))) (sem_v (c.nm (i := 1) rfl (by walk_at "vi")))) sem_int)) (sem_v (c.nm (i := 1) rfl (by walk_at "vi")))) sem_int) rfl) sem_int) rfl) (semb_cons (sems_set (c.nl hf (i := 2) rfl (by walk_at "vi")) (sem_bin op_modS (sem_t1 (c.b rfl (List.mem_of_getElem? (i := 2) rfl)) intS (sem_bin op_mulS (sem_v (c.nm (i := 2) rfl (by walk_at "vi"))) (sem_v (c.nm (i := 2) rfl (by walk_at "vi")))) rfl) sem_int) rfl) (semb_cons (sems_ret (sem_bin op_fdivS (sem_bin op_modS (sem_t1 (c.b rfl (List.mem_of_getElem? (i := 2) rfl)) intS (sem_bin op_mulS (sem_v (c.nm (i := 2) rfl (by walk_at "vi"))) (sem_bin op_addS (sem_v (c.nm (i := 2) rfl (by walk_at "vi"))) sem_int)) rfl) sem_int) sem_int)) semb_nil))))))
theorem sb_marks {X : Cx} {k : Nat} (c : Cok X gi k N_marks sc_marks) (hf : ∀ x, X.fn x = true) (hp : PassesOwn (model X.prog X.w) X.A X.env X.xe) (hz : X.stack = X.env :: X.outer ∧ X.env.frame = some X.env.locals) : SemB X gi k (defBody s_marks) b_marks := (semb_cons (sems_set (c.nl hf (i := 2) rfl (by walk_at "vi")) (sem_and (sem_cmp gtC (sem_v (c.nm (i := 1) rfl (by walk_at "vi"))) sem_int rfl) (sem_one (sem_cmp (eqC c.un) (sem_bin op_modS (sem_t1 (c.b rfl (List.mem_of_getElem? (i := 2) rfl)) intS (sem_call (n := n_next) (ar := [.inl 0]) c rfl rfl rfl (List.mem_of_getElem? (i := 0) rfl) (sclOk rfl) rfl (sea_cons (sem_v (c.nm (i := 0) rfl (by walk_at "vi"))) sea_nil rfl) rfl rfl rfl rfl) rfl) sem_int) sem_int rfl))) rfl) (semb_cons (sems_set (c.nl hf (i := 3) rfl (by walk_at "vi")) (sem_lst sea_nil (Nat.le_of_ble_eq_true rfl)) rfl) (semb_cons (sems_for (cc := false) hp c.calm (semi_r1 (c.gl rfl) (c.bi _ (List.mem_of_getElem? (i := 6) rfl)) (sem_bin op_modS (sem_t1 (c.b rfl (List.mem_of_getElem? (i := 2) rfl)) intS (sem_call (n := n_next) (ar := [.inl 0]) c rfl rfl rfl (List.mem_of_getElem? (i := 0) rfl) (sclOk rfl) rfl (sea_cons (sem_v (c.nm (i := 0) rfl (by walk_at "vi"))) sea_nil rfl) rfl rfl rfl rfl) rfl) (sem_bin op_addS (sem_ix c.un (sem_lst (sea_cons (sem_v (c.nm (i := 1) rfl (by walk_at "vi"))) (sea_cons sem_int sea_nil rfl) rfl) (Nat.le_of_ble_eq_true rfl)) (sem_t1 (c.b rfl (List.mem_of_getElem? (i := 2) rfl)) intS (sem_v (c.nm (i := 2) rfl (by walk_at "vi"))) rfl) (fun _ _ => rfl)) sem_int)) rfl) (semg_nm (c.nl hf (i := 4) rfl (by walk_at "vi"))) (show SemB X gi k _ b_marks_0 from (semb_cons (sems_set (c.nl hf (i := 5) rfl (by walk_at "vi")) (sem_bin op_subS (sem_bin op_modS (sem_t1 (c.b rfl (List.mem_of_getElem? (i := 2) rfl)) intS (sem_call (n := n_next) (ar := [.inl 0]) c rfl rfl rfl (List.mem_of_getElem? (i := 0) rfl) (sclOk rfl) rfl (sea_cons (sem_v (c.nm (i := 0) rfl (by walk_at "vi"))) sea_nil rfl) rfl rfl rfl rfl) rfl) (sem_ix c.un (sem_lst (sea_cons sem_int (sea_cons sem_int sea_nil rfl) rfl) (Nat.le_of_ble_eq_true rfl)) (sem_t1 (c.b rfl (List.mem_of_getElem? (i := 2) rfl)) intS (sem_v (c.nm (i := 2) rfl (by walk_at "vi"))) rfl) (fun _ _ => rfl))) sem_int) rfl) (semb_cons (sems_set (c.nl hf (i := 3) rfl (by walk_at "vi")) (sem_bin op_addS (sem_v (c.nm (i := 3) rfl (by walk_at "vi"))) (sem_bin op_mulS (sem_lst (sea_cons (sem_v (c.nm (i := 5) rfl (by walk_at "vi"))) sea_nil rfl) (Nat.le_of_ble_eq_true rfl)) (sem_t1 (c.b rfl (List.mem_of_getElem? (i := 2) rfl)) intS (sem_cmp (ninC c.un) (sem_v (c.nm (i := 5) rfl (by walk_at "vi"))) (sem_v (c.nm (i := 3) rfl (by walk_at "vi"))) rfl) rfl))) rfl) semb_nil))) (fun _ => rfl)) (semb_cons (sems_ret (sem_v (c.nm (i := 3) rfl (by walk_at "vi")))) semb_nil))))
theorem sb_list {X : Cx} {k : Nat} (c : Cok X gi k N_list sc_list) (hf : ∀ x, X.fn x = true) (hp : PassesOwn (model X.prog X.w) X.A X.env X.xe) (hz : X.stack = X.env :: X.outer ∧ X.env.frame = some X.env.locals) : SemB X gi k (defBody s_list) b_list := (semb_cons (sems_set (c.nl hf (i := 2) rfl (by walk_at "vi")) (sem_bin op_modS (sem_t1 (c.b rfl (List.mem_of_getElem? (i := 2) rfl)) intS (sem_call (n := n_next) (ar := [.inl 0]) c rfl rfl rfl (List.mem_of_getElem? (i := 0) rfl) (sclOk rfl) rfl (sea_cons (sem_v (c.nm (i := 0) rfl (by walk_at "vi"))) sea_nil rfl) rfl rfl rfl rfl) rfl) sem_int) rfl) (semb_cons (sems_set (c.nl hf (i := 3) rfl (by walk_at "vi")) (sem_lst sea_nil (Nat.le_of_ble_eq_true rfl)) rfl) (semb_cons (sems_for (cc := false) hp c.calm (semi_r1 (c.gl rfl) (c.bi _ (List.mem_of_getElem? (i := 6) rfl)) (sem_bin op_modS (sem_t1 (c.b rfl (List.mem_of_getElem? (i := 2) rfl)) intS (sem_call (n := n_next) (ar := [.inl 0]) c rfl rfl rfl (List.mem_of_getElem? (i := 0) rfl) (sclOk rfl) rfl (sea_cons (sem_v (c.nm (i := 0) rfl (by walk_at "vi"))) sea_nil rfl) rfl rfl rfl rfl) rfl) (sem_bin op_addS (sem_v (c.nm (i := 1) rfl (by walk_at "vi"))) sem_int)) rfl) (semg_nm (c.nl hf (i := 4) rfl (by walk_at "vi"))) (show SemB X gi k _ b_list_0 from (semb_cons (sems_set (c.nl hf (i := 5) rfl (by walk_at "vi")) (sem_t1 (c.b rfl (List.mem_of_getElem? (i := 2) rfl)) intS (sem_call (n := n_next) (ar := [.inl 0]) c rfl rfl rfl (List.mem_of_getElem? (i := 0) rfl) (sclOk rfl) rfl (sea_cons (sem_v (c.nm (i := 0) rfl (by walk_at "vi"))) sea_nil rfl) rfl rfl rfl rfl) rfl) rfl) (semb_cons (sems_set (c.nl hf (i := 6) rfl (by walk_at "vi")) (sem_ix c.un (sem_lst (sea_cons sem_int (sea_cons (sem_bin op_modS (sem_t1 (c.b rfl (List.mem_of_getElem? (i := 2) rfl)) intS (sem_v (c.nm (i := 5) rfl (by walk_at "vi"))) rfl) sem_int) sea_nil rfl) rfl) (Nat.le_of_ble_eq_true rfl)) (sem_t1 (c.b rfl (List.mem_of_getElem? (i := 2) rfl)) intS (sem_cmp (eqC c.un) (sem_bin op_modS (sem_t1 (c.b rfl (List.mem_of_getElem? (i := 2) rfl)) intS (sem_v (c.nm (i := 5) rfl (by walk_at "vi"))) rfl) sem_int) sem_int rfl) rfl) (fun _ _ => rfl)) rfl) (semb_cons (sems_expr (sem_me met_append PySem.F.slot_list_append PySem.F.type_list_append (sem_v (c.nm (i := 3) rfl (by walk_at "vi"))) (sea_cons (sem_ix c.un (sem_lst (sea_cons (sem_bin op_subS (sem_bin op_modS (sem_t1 (c.b rfl (List.mem_of_getElem? (i := 2) rfl)) intS (sem_v (c.nm (i := 5) rfl (by walk_at "vi"))) rfl) sem_int) sem_int) (sea_cons (sem_bin op_modS (sem_t1 (c.b rfl (List.mem_of_getElem? (i := 2) rfl)) intS (sem_v (c.nm (i := 5) rfl (by walk_at "vi"))) rfl) sem_int) (sea_cons (sem_bin op_modS (sem_t1 (c.b rfl (List.mem_of_getElem? (i := 2) rfl)) intS (sem_v (c.nm (i := 5) rfl (by walk_at "vi"))) rfl) sem_int) (sea_cons (sem_v (c.nm (i := 6) rfl (by walk_at "vi"))) (sea_cons (sem_bin op_subS (sem_bin op_modS (sem_t1 (c.b rfl (List.mem_of_getElem? (i := 2) rfl)) intS (sem_v (c.nm (i := 5) rfl (by walk_at "vi"))) rfl) sem_int) sem_int) sea_nil rfl) rfl) rfl) rfl) rfl) (Nat.le_of_ble_eq_true rfl)) (sem_v (c.nm (i := 2) rfl (by walk_at "vi"))) (fun _ _ => rfl)) sea_nil rfl) rfl rfl rfl rfl rfl) rfl) semb_nil)))) (fun _ => rfl)) (semb_cons (sems_ret (sem_v (c.nm (i := 3) rfl (by walk_at "vi")))) semb_nil))))
theorem sb_l_power {X : Cx} {k : Nat} (c : Cok X gi k N_l_power sc_l_power) (hf : ∀ x, X.fn x = true) (hp : PassesOwn (model X.prog X.w) X.A X.env X.xe) (hz : X.stack = X.env :: X.outer ∧ X.env.frame = some X.env.locals) : SemB X gi k (defBody s_l_power) b_l_power := (semb_cons (sems_set (c.nl hf (i := 2) rfl (by walk_at "vi")) sem_int rfl) (semb_cons (sems_for (cc := false) hp c.calm (semi_r1 (c.gl rfl) (c.bi _ (List.mem_of_getElem? (i := 6) rfl)) (sem_v (c.nm (i := 1) rfl (by walk_at "vi"))) rfl) (semg_nm (c.nl hf (i := 3) rfl (by walk_at "vi"))) (show SemB X gi k _ b_l_power_0 from (semb_cons (sems_set (c.nl hf (i := 2) rfl (by walk_at "vi")) (sem_bin op_mulS (sem_v (c.nm (i := 2) rfl (by walk_at "vi"))) (sem_v (c.nm (i := 0) rfl (by walk_at "vi")))) rfl) semb_nil)) (fun _ => rfl)) (semb_cons (sems_ret (sem_v (c.nm (i := 2) rfl (by walk_at "vi")))) semb_nil)))
theorem sb_due {X : Cx} {k : Nat} (c : Cok X gi k N_due sc_due) (hf : ∀ x, X.fn x = true) (hp : PassesOwn (model X.prog X.w) X.A X.env X.xe) (hz : X.stack = X.env :: X.outer ∧ X.env.frame = some X.env.locals) : SemB X gi k (defBody s_due) b_due := (semb_cons (sems_set (c.nl hf (i := 3) rfl (by walk_at "vi")) (sem_b1 (c.b rfl (List.mem_of_getElem? (i := 4) rfl)) lenS (sem_lc (own := [("_law_value", 6)]) c.calm (by show X.N.Nodup; rw [c.n]; exact c.nd) (by rw [c.n, c.s]; exact blkOk_by rfl) rfl (semi_e (sem_v (c.nm (i := 1) rfl (by walk_at "vi")))) (fun s6 h6 c6 l6 p6 => (semg_nm ((c.blk s6 h6 c6 l6 p6).nlB (i := 6) rfl rfl))) (by decide) (fun s6 h6 c6 l6 p6 => (semts_one (semt_cmp (inC (c.blk s6 h6 c6 l6 p6).un) (sem_v ((c.blk s6 h6 c6 l6 p6).nm (i := 6) rfl (by walk_at "vi"))) (sem_v ((c.blk s6 h6 c6 l6 p6).nm (i := 0) rfl (by walk_at "vi"))) rfl))) (fun s6 h6 c6 l6 p6 => (sem_v ((c.blk s6 h6 c6 l6 p6).nm (i := 6) rfl (by walk_at "vi")))) (fun _ => rfl)) rfl) rfl) (semb_cons (sems_set (c.nl hf (i := 4) rfl (by walk_at "vi")) (sem_bin op_subS (sem_ix c.un (sem_lst (sea_cons sem_int (sea_cons sem_int (sea_cons sem_int (sea_cons sem_int (sea_cons sem_int (sea_cons sem_int (sea_cons sem_int (sea_cons sem_int (sea_cons sem_int sea_nil rfl) rfl) rfl) rfl) rfl) rfl) rfl) rfl) rfl) (Nat.le_of_ble_eq_true rfl)) (sem_v (c.nm (i := 2) rfl (by walk_at "vi"))) (fun _ _ => rfl)) sem_int) rfl) (semb_cons (sems_set (c.nl hf (i := 5) rfl (by walk_at "vi")) (sem_b1 (c.b rfl (List.mem_of_getElem? (i := 8) rfl)) (sumS c.calm) (sem_lc (own := [("_law_more", 7)]) c.calm (by show X.N.Nodup; rw [c.n]; exact c.nd) (by rw [c.n, c.s]; exact blkOk_by rfl) rfl (semi_r1 (c.gl rfl) (c.bi _ (List.mem_of_getElem? (i := 6) rfl)) (sem_bin op_addS (sem_v (c.nm (i := 4) rfl (by walk_at "vi"))) sem_int) rfl) (fun s7 h7 c7 l7 p7 => (semg_nm ((c.blk s7 h7 c7 l7 p7).nlB (i := 7) rfl rfl))) (by decide) (fun s7 h7 c7 l7 p7 => semts_nil) (fun s7 h7 c7 l7 p7 => (sem_call (n := n_l_power) (ar := [.inl 0, .inl 1]) (c.blk s7 h7 c7 l7 p7) rfl rfl rfl (List.mem_of_getElem? (i := 0) rfl) (sclOk rfl) rfl (sea_cons (sem_b1 ((c.blk s7 h7 c7 l7 p7).b rfl (List.mem_of_getElem? (i := 4) rfl)) lenS (sem_v ((c.blk s7 h7 c7 l7 p7).nm (i := 0) rfl (by walk_at "vi"))) rfl) (sea_cons (sem_v ((c.blk s7 h7 c7 l7 p7).nm (i := 7) rfl (by walk_at "vi"))) sea_nil rfl) rfl) rfl rfl rfl rfl)) (fun _ => rfl)) rfl) rfl) (semb_cons (sems_ret (sem_bin op_mulS (sem_call (n := n_l_power) (ar := [.inl 0, .inl 1]) c rfl rfl rfl (List.mem_of_getElem? (i := 0) rfl) (sclOk rfl) rfl (sea_cons (sem_b1 (c.b rfl (List.mem_of_getElem? (i := 4) rfl)) lenS (sem_v (c.nm (i := 0) rfl (by walk_at "vi"))) rfl) (sea_cons (sem_bin op_mulS (sem_v (c.nm (i := 4) rfl (by walk_at "vi"))) (sem_v (c.nm (i := 3) rfl (by walk_at "vi")))) sea_nil rfl) rfl) rfl rfl rfl rfl) (sem_call (n := n_l_power) (ar := [.inl 0, .inl 1]) c rfl rfl rfl (List.mem_of_getElem? (i := 0) rfl) (sclOk rfl) rfl (sea_cons (sem_v (c.nm (i := 5) rfl (by walk_at "vi"))) (sea_cons (sem_bin op_addS (sem_bin op_subS (sem_b1 (c.b rfl (List.mem_of_getElem? (i := 4) rfl)) lenS (sem_v (c.nm (i := 1) rfl (by walk_at "vi"))) rfl) (sem_v (c.nm (i := 3) rfl (by walk_at "vi")))) sem_int) sea_nil rfl) rfl) rfl rfl rfl rfl))) semb_nil))))
theorem sb_right {X : Cx} {k : Nat} (c : Cok X gi k N_right sc_right) (hf : ∀ x, X.fn x = true) (hp : PassesOwn (model X.prog X.w) X.A X.env X.xe) (hz : X.stack = X.env :: X.outer ∧ X.env.frame = some X.env.locals) : SemB X gi k (defBody s_right) b_right := (semb_cons (sems_set (c.nl hf (i := 1) rfl (by walk_at "vi")) (sem_call (n := n_marks) (ar := [.inl 0, .inl 1]) c rfl rfl rfl (List.mem_of_getElem? (i := 0) rfl) (sclOk rfl) rfl (sea_cons (sem_v (c.nm (i := 0) rfl (by walk_at "vi"))) (sea_cons sem_int sea_nil rfl) rfl) rfl rfl rfl rfl) rfl) (semb_cons (sems_set (c.nl hf (i := 2) rfl (by walk_at "vi")) (sem_call (n := n_list) (ar := [.inl 0, .inl 1]) c rfl rfl rfl (List.mem_of_getElem? (i := 0) rfl) (sclOk rfl) rfl (sea_cons (sem_v (c.nm (i := 0) rfl (by walk_at "vi"))) (sea_cons sem_int sea_nil rfl) rfl) rfl rfl rfl rfl) rfl) (semb_cons (sems_for (cc := false) hp c.calm (semi_e (sem_lst (sea_cons sem_int (sea_cons sem_int sea_nil rfl) rfl) (Nat.le_of_ble_eq_true rfl))) (semg_nm (c.nl hf (i := 3) rfl (by walk_at "vi"))) (show SemB X gi k _ b_right_0 from (semb_cons (sems_if (semt_w (semw_or (semt_cmp gtC (sem_callK (n := n_count_before) (ar := [.inl 0, .inl 1, .inl 2]) c rfl rfl rfl (List.mem_of_getElem? (i := 0) rfl) (sclOk rfl) rfl (sea_cons (sem_v (c.nm (i := 1) rfl (by walk_at "vi"))) (sea_cons (sem_v (c.nm (i := 2) rfl (by walk_at "vi"))) sea_nil rfl) rfl) rfl (sek_cons sem_int sek_nil) rfl rfl rfl rfl rfl rfl) sem_int rfl) (semw_or1 (semt_cmp gtC (sem_callK (n := n_count_before) (ar := [.inl 0, .inl 1, .inl 2]) c rfl rfl rfl (List.mem_of_getElem? (i := 0) rfl) (sclOk rfl) rfl (sea_cons (sem_v (c.nm (i := 1) rfl (by walk_at "vi"))) (sea_cons (sem_v (c.nm (i := 2) rfl (by walk_at "vi"))) sea_nil rfl) rfl) rfl (sek_cons sem_int sek_nil) rfl rfl rfl rfl rfl rfl) sem_int rfl)))) (semb_cons (sems_ret sem_bl) semb_nil) semb_nil) (semb_cons (sems_set (c.nl hf (i := 4) rfl (by walk_at "vi")) (sem_lgen (g := gn_each_before) c rfl (List.mem_of_getElem? (i := 0) rfl) rfl (c.b rfl (List.mem_of_getElem? (i := 5) rfl)) (sea_cons (sem_v (c.nm (i := 1) rfl (by walk_at "vi"))) (sea_cons (sem_v (c.nm (i := 2) rfl (by walk_at "vi"))) sea_nil rfl) rfl) rfl rfl rfl rfl rfl) rfl) (semb_cons (sems_set (c.nl hf (i := 5) rfl (by walk_at "vi")) (sem_b1 (c.b rfl (List.mem_of_getElem? (i := 8) rfl)) (sumS c.calm) (sem_lc (own := [("_law_some", 7)]) c.calm (by show X.N.Nodup; rw [c.n]; exact c.nd) (by rw [c.n, c.s]; exact blkOk_by rfl) rfl (semi_e (sem_v (c.nm (i := 4) rfl (by walk_at "vi")))) (fun s8 h8 c8 l8 p8 => (semg_nm ((c.blk s8 h8 c8 l8 p8).nlB (i := 7) rfl rfl))) (by decide) (fun s8 h8 c8 l8 p8 => semts_nil) (fun s8 h8 c8 l8 p8 => (sem_callK (n := n_count_before) (ar := [.inl 0, .inl 1, .inl 2]) (c.blk s8 h8 c8 l8 p8) rfl rfl rfl (List.mem_of_getElem? (i := 0) rfl) (sclOk rfl) rfl (sea_cons (sem_v ((c.blk s8 h8 c8 l8 p8).nm (i := 1) rfl (by walk_at "vi"))) (sea_cons (sem_v ((c.blk s8 h8 c8 l8 p8).nm (i := 7) rfl (by walk_at "vi"))) sea_nil rfl) rfl) rfl (sek_cons (sem_bin op_subS (sem_v ((c.blk s8 h8 c8 l8 p8).nm (i := 3) rfl (by walk_at "vi"))) sem_int) sek_nil) rfl rfl rfl rfl rfl rfl)) (fun _ => rfl)) rfl) rfl) (semb_cons (sems_if (semt_cmp (neC c.un) (sem_callK (n := n_count_before) (ar := [.inl 0, .inl 1, .inl 2]) c rfl rfl rfl (List.mem_of_getElem? (i := 0) rfl) (sclOk rfl) rfl (sea_cons (sem_v (c.nm (i := 1) rfl (by walk_at "vi"))) (sea_cons (sem_v (c.nm (i := 2) rfl (by walk_at "vi"))) sea_nil rfl) rfl) rfl (sek_cons (sem_v (c.nm (i := 3) rfl (by walk_at "vi"))) sek_nil) rfl rfl rfl rfl rfl rfl) (sem_v (c.nm (i := 5) rfl (by walk_at "vi"))) rfl) (semb_cons (sems_ret sem_bl) semb_nil) semb_nil) (semb_cons (sems_if (semt_cmp (neC c.un) (sem_lc (own := [("_law_some", 7)]) c.calm (by show X.N.Nodup; rw [c.n]; exact c.nd) (by rw [c.n, c.s]; exact blkOk_by rfl) rfl (semi_e (sem_v (c.nm (i := 4) rfl (by walk_at "vi")))) (fun s9 h9 c9 l9 p9 => (semg_nm ((c.blk s9 h9 c9 l9 p9).nlB (i := 7) rfl rfl))) (by decide) (fun s9 h9 c9 l9 p9 => (semts_one (semt_cmp (neC (c.blk s9 h9 c9 l9 p9).un) (sem_callK (n := n_after_passes) (ar := [.inl 0, .inl 1, .inl 2]) (c.blk s9 h9 c9 l9 p9) rfl rfl rfl (List.mem_of_getElem? (i := 0) rfl) (sclOk rfl) rfl (sea_cons (sem_v ((c.blk s9 h9 c9 l9 p9).nm (i := 1) rfl (by walk_at "vi"))) (sea_cons (sem_v ((c.blk s9 h9 c9 l9 p9).nm (i := 7) rfl (by walk_at "vi"))) sea_nil rfl) rfl) rfl (sek_cons sem_int sek_nil) rfl rfl rfl rfl rfl rfl) (sem_v ((c.blk s9 h9 c9 l9 p9).nm (i := 2) rfl (by walk_at "vi"))) rfl))) (fun s9 h9 c9 l9 p9 => (sem_v ((c.blk s9 h9 c9 l9 p9).nm (i := 7) rfl (by walk_at "vi")))) (fun _ => rfl)) (sem_lst sea_nil (Nat.le_of_ble_eq_true rfl)) rfl) (semb_cons (sems_ret sem_bl) semb_nil) semb_nil) (semb_cons (sems_set (c.nl hf (i := 6) rfl (by walk_at "vi")) (sem_suml c.calm (c.b rfl (List.mem_of_getElem? (i := 8) rfl)) (sem_fzE (sem_lc (own := [("_law_some", 7)]) c.calm (by show X.N.Nodup; rw [c.n]; exact c.nd) (by rw [c.n, c.s]; exact blkOk_by rfl) rfl (semi_e (sem_v (c.nm (i := 4) rfl (by walk_at "vi")))) (fun s10 h10 c10 l10 p10 => (semg_nm ((c.blk s10 h10 c10 l10 p10).nlB (i := 7) rfl rfl))) (by decide) (fun s10 h10 c10 l10 p10 => semts_nil) (fun s10 h10 c10 l10 p10 => (sem_lgen (g := gn_each_before) (c.blk s10 h10 c10 l10 p10) rfl (List.mem_of_getElem? (i := 0) rfl) rfl ((c.blk s10 h10 c10 l10 p10).b rfl (List.mem_of_getElem? (i := 5) rfl)) (sea_cons (sem_v ((c.blk s10 h10 c10 l10 p10).nm (i := 1) rfl (by walk_at "vi"))) (sea_cons (sem_v ((c.blk s10 h10 c10 l10 p10).nm (i := 7) rfl (by walk_at "vi"))) sea_nil rfl) rfl) rfl rfl rfl rfl rfl)) (fun _ => rfl))) rfl rfl rfl) rfl) (semb_cons (sems_if (semt_cmp (neC c.un) (sem_lc (own := [("_law_some", 7)]) c.calm (by show X.N.Nodup; rw [c.n]; exact c.nd) (by rw [c.n, c.s]; exact blkOk_by rfl) rfl (semi_e (sem_v (c.nm (i := 6) rfl (by walk_at "vi")))) (fun s11 h11 c11 l11 p11 => (semg_nm ((c.blk s11 h11 c11 l11 p11).nlB (i := 7) rfl rfl))) (by decide) (fun s11 h11 c11 l11 p11 => (semts_one (semt_cmp (neC (c.blk s11 h11 c11 l11 p11).un) (sem_callK (n := n_after_passes) (ar := [.inl 0, .inl 1, .inl 2]) (c.blk s11 h11 c11 l11 p11) rfl rfl rfl (List.mem_of_getElem? (i := 0) rfl) (sclOk rfl) rfl (sea_cons (sem_v ((c.blk s11 h11 c11 l11 p11).nm (i := 1) rfl (by walk_at "vi"))) (sea_cons (sem_v ((c.blk s11 h11 c11 l11 p11).nm (i := 7) rfl (by walk_at "vi"))) sea_nil rfl) rfl) rfl (sek_cons sem_int sek_nil) rfl rfl rfl rfl rfl rfl) (sem_v ((c.blk s11 h11 c11 l11 p11).nm (i := 2) rfl (by walk_at "vi"))) rfl))) (fun s11 h11 c11 l11 p11 => (sem_v ((c.blk s11 h11 c11 l11 p11).nm (i := 7) rfl (by walk_at "vi")))) (fun _ => rfl)) (sem_lst sea_nil (Nat.le_of_ble_eq_true rfl)) rfl) (semb_cons (sems_ret sem_bl) semb_nil) semb_nil) (semb_cons (sems_if (semt_cmp (neC c.un) (sem_b1 (c.b rfl (List.mem_of_getElem? (i := 4) rfl)) lenS (sem_v (c.nm (i := 6) rfl (by walk_at "vi"))) rfl) (sem_callK (n := n_count_before) (ar := [.inl 0, .inl 1, .inl 2]) c rfl rfl rfl (List.mem_of_getElem? (i := 0) rfl) (sclOk rfl) rfl (sea_cons (sem_v (c.nm (i := 1) rfl (by walk_at "vi"))) (sea_cons (sem_v (c.nm (i := 2) rfl (by walk_at "vi"))) sea_nil rfl) rfl) rfl (sek_cons sem_int sek_nil) rfl rfl rfl rfl rfl rfl) rfl) (semb_cons (sems_ret sem_bl) semb_nil) semb_nil) semb_nil))))))))) (fun _ => rfl)) (semb_cons (sems_ret sem_bl) semb_nil))))
theorem sb_law {X : Cx} {k : Nat} (c : Cok X gi k N_law sc_law) (hf : ∀ x, X.fn x = true) (hp : PassesOwn (model X.prog X.w) X.A X.env X.xe) (hz : X.stack = X.env :: X.outer ∧ X.env.frame = some X.env.locals) : SemB X gi k (defBody s_law) b_law := (semb_cons (sems_for (cc := false) hp c.calm (semi_e (sem_lc (own := [("_law_cell", 6)]) c.calm (by show X.N.Nodup; rw [c.n]; exact c.nd) (by rw [c.n, c.s]; exact blkOk_by rfl) rfl (semi_e (sem_bin op_addS (sem_sl (sem_v (c.nm (i := 0) rfl (by walk_at "vi"))) semo_none (semo_some sem_int)) (sem_lst (sea_cons sem_int sea_nil rfl) (Nat.le_of_ble_eq_true rfl)))) (fun s12 h12 c12 l12 p12 => (semg_nm ((c.blk s12 h12 c12 l12 p12).nlB (i := 6) rfl rfl))) (by decide) (fun s12 h12 c12 l12 p12 => semts_nil) (fun s12 h12 c12 l12 p12 => (sem_call (n := n_draws) (ar := [.inl 0]) (c.blk s12 h12 c12 l12 p12) rfl rfl rfl (List.mem_of_getElem? (i := 0) rfl) (sclOk rfl) rfl (sea_cons (sem_v ((c.blk s12 h12 c12 l12 p12).nm (i := 6) rfl (by walk_at "vi"))) sea_nil rfl) rfl rfl rfl rfl)) (fun _ => rfl))) (semg_nm (c.nl hf (i := 1) rfl (by walk_at "vi"))) (show SemB X gi k _ b_law_0 from (semb_cons (sems_if (semt_w (semw_or (semt_not (semt_val (sem_call (n := n_right) (ar := [.inl 0]) c rfl rfl rfl (List.mem_of_getElem? (i := 0) rfl) (sclOk rfl) rfl (sea_cons (sem_v (c.nm (i := 1) rfl (by walk_at "vi"))) sea_nil rfl) rfl rfl rfl rfl) (fun _ => rfl))) (semw_or1 (semt_not (semt_val (sem_call (n := n_right) (ar := [.inl 0]) c rfl rfl rfl (List.mem_of_getElem? (i := 0) rfl) (sclOk rfl) rfl (sea_cons (sem_v (c.nm (i := 1) rfl (by walk_at "vi"))) sea_nil rfl) rfl rfl rfl rfl) (fun _ => rfl)))))) (semb_cons (sems_ret sem_bl) semb_nil) semb_nil) (semb_cons (sems_set (c.nl hf (i := 2) rfl (by walk_at "vi")) (sem_call (n := n_marks) (ar := [.inl 0, .inl 1]) c rfl rfl rfl (List.mem_of_getElem? (i := 0) rfl) (sclOk rfl) rfl (sea_cons (sem_v (c.nm (i := 1) rfl (by walk_at "vi"))) (sea_cons sem_int sea_nil rfl) rfl) rfl rfl rfl rfl) rfl) (semb_cons (sems_set (c.nl hf (i := 3) rfl (by walk_at "vi")) (sem_call (n := n_list) (ar := [.inl 0, .inl 1]) c rfl rfl rfl (List.mem_of_getElem? (i := 0) rfl) (sclOk rfl) rfl (sea_cons (sem_v (c.nm (i := 1) rfl (by walk_at "vi"))) (sea_cons sem_int sea_nil rfl) rfl) rfl rfl rfl rfl) rfl) (semb_cons (sems_for (cc := false) hp c.calm (semi_r1 (c.gl rfl) (c.bi _ (List.mem_of_getElem? (i := 6) rfl)) sem_int rfl) (semg_nm (c.nl hf (i := 4) rfl (by walk_at "vi"))) (show SemB X gi k _ b_law_1 from (semb_cons (sems_if (semt_cmp (neC c.un) (sem_callK (n := n_count_before) (ar := [.inl 0, .inl 1, .inl 2]) c rfl rfl rfl (List.mem_of_getElem? (i := 0) rfl) (sclOk rfl) rfl (sea_cons (sem_v (c.nm (i := 2) rfl (by walk_at "vi"))) (sea_cons (sem_v (c.nm (i := 3) rfl (by walk_at "vi"))) sea_nil rfl) rfl) rfl (sek_cons (sem_v (c.nm (i := 4) rfl (by walk_at "vi"))) sek_nil) rfl rfl rfl rfl rfl rfl) (sem_call (n := n_due) (ar := [.inl 0, .inl 1, .inl 2]) c rfl rfl rfl (List.mem_of_getElem? (i := 0) rfl) (sclOk rfl) rfl (sea_cons (sem_v (c.nm (i := 2) rfl (by walk_at "vi"))) (sea_cons (sem_v (c.nm (i := 3) rfl (by walk_at "vi"))) (sea_cons (sem_v (c.nm (i := 4) rfl (by walk_at "vi"))) sea_nil rfl) rfl) rfl) rfl rfl rfl rfl) rfl) (semb_cons (sems_ret sem_bl) semb_nil) semb_nil) semb_nil)) (fun _ => rfl)) semb_nil))))) (fun _ => rfl)) (semb_cons (sems_for (cc := false) hp c.calm (semi_e (sem_fzE (sem_lst (sea_cons (sem_tup (sea_cons sem_int (sea_cons sem_int sea_nil rfl) rfl) (Nat.le_of_ble_eq_true rfl)) (sea_cons (sem_tup (sea_cons sem_int (sea_cons sem_int sea_nil rfl) rfl) (Nat.le_of_ble_eq_true rfl)) (sea_cons (sem_tup (sea_cons sem_int (sea_cons sem_int sea_nil rfl) rfl) (Nat.le_of_ble_eq_true rfl)) (sea_cons (sem_tup (sea_cons sem_int (sea_cons sem_int sea_nil rfl) rfl) (Nat.le_of_ble_eq_true rfl)) (sea_cons (sem_tup (sea_cons sem_int (sea_cons sem_int sea_nil rfl) rfl) (Nat.le_of_ble_eq_true rfl)) sea_nil rfl) rfl) rfl) rfl) rfl) (Nat.le_of_ble_eq_true rfl)))) (semg_tu c.calm (semgs_cons (c.nl hf (i := 4) rfl (by walk_at "vi")) (semgs_cons (c.nl hf (i := 5) rfl (by walk_at "vi")) semgs_nil rfl) rfl) rfl rfl) (show SemB X gi k _ b_law_2 from (semb_cons (sems_if (semt_w (semw_or (semt_cmp (neC c.un) (sem_callK (n := n_count_before) (ar := [.inl 0, .inl 1, .inl 2]) c rfl rfl rfl (List.mem_of_getElem? (i := 0) rfl) (sclOk rfl) rfl (sea_cons (sem_lst (sea_cons sem_int sea_nil rfl) (Nat.le_of_ble_eq_true rfl)) (sea_cons (sem_lst sea_nil (Nat.le_of_ble_eq_true rfl)) sea_nil rfl) rfl) rfl (sek_cons (sem_v (c.nm (i := 4) rfl (by walk_at "vi"))) sek_nil) rfl rfl rfl rfl rfl rfl) (sem_bin op_addS (sem_v (c.nm (i := 5) rfl (by walk_at "vi"))) sem_int) rfl) (semw_or1 (semt_cmp (neC c.un) (sem_callK (n := n_count_before) (ar := [.inl 0, .inl 1, .inl 2]) c rfl rfl rfl (List.mem_of_getElem? (i := 0) rfl) (sclOk rfl) rfl (sea_cons (sem_lst sea_nil (Nat.le_of_ble_eq_true rfl)) (sea_cons (sem_lst (sea_cons sem_int (sea_cons sem_int sea_nil rfl) rfl) (Nat.le_of_ble_eq_true rfl)) sea_nil rfl) rfl) rfl (sek_cons (sem_v (c.nm (i := 4) rfl (by walk_at "vi"))) sek_nil) rfl rfl rfl rfl rfl rfl) sem_int rfl)))) (semb_cons (sems_ret sem_bl) semb_nil) semb_nil) (semb_cons (sems_if (semt_cmp (neC c.un) (sem_callK (n := n_count_before) (ar := [.inl 0, .inl 1, .inl 2]) c rfl rfl rfl (List.mem_of_getElem? (i := 0) rfl) (sclOk rfl) rfl (sea_cons (sem_lst (sea_cons sem_int sea_nil rfl) (Nat.le_of_ble_eq_true rfl)) (sea_cons (sem_lst (sea_cons sem_int (sea_cons sem_int sea_nil rfl) rfl) (Nat.le_of_ble_eq_true rfl)) sea_nil rfl) rfl) rfl (sek_cons (sem_v (c.nm (i := 4) rfl (by walk_at "vi"))) sek_nil) rfl rfl rfl rfl rfl rfl) (sem_bin op_addS (sem_v (c.nm (i := 5) rfl (by walk_at "vi"))) sem_int) rfl) (semb_cons (sems_ret sem_bl) semb_nil) semb_nil) (semb_cons (sems_if (semt_cmp (neC c.un) (sem_callK (n := n_count_before) (ar := [.inl 0, .inl 1, .inl 2]) c rfl rfl rfl (List.mem_of_getElem? (i := 0) rfl) (sclOk rfl) rfl (sea_cons (sem_lst (sea_cons sem_int sea_nil rfl) (Nat.le_of_ble_eq_true rfl)) (sea_cons (sem_lst (sea_cons sem_int sea_nil rfl) (Nat.le_of_ble_eq_true rfl)) sea_nil rfl) rfl) rfl (sek_cons (sem_v (c.nm (i := 4) rfl (by walk_at "vi"))) sek_nil) rfl rfl rfl rfl rfl rfl) (sem_bin op_mulS (sem_bin op_addS (sem_v (c.nm (i := 5) rfl (by walk_at "vi"))) sem_int) (sem_bin op_addS (sem_v (c.nm (i := 5) rfl (by walk_at "vi"))) sem_int)) rfl) (semb_cons (sems_ret sem_bl) semb_nil) semb_nil) semb_nil)))) (fun _ => rfl)) (semb_cons (sems_ret sem_bl) semb_nil)))
end Lw

set_option Elab.async false
set_option linter.all false
set_option maxRecDepth 100000
set_option maxHeartbeats 4000000
namespace Lw
open PySem PySem.Spec PyProof.Rows L2 Mi
local macro_rules | `(tactic| walk_at "vi") => `(tactic| first | exact .inl rfl | exact .inr (.inl rfl) | exact .inr (.inr rfl) | exact .inr rfl)
local macro_rules | `(tactic| walk_at "sub") => `(tactic| (repeat (first | assumption | exact List.mem_cons_self | (rcases List.mem_cons.mp (by assumption) with rfl | h; exact List.mem_cons_self))))
def d_is_whole : He.DefD := ⟨("is_whole", none), "is_whole", "is_whole", defArgs s_is_whole, defBody s_is_whole, sc_is_whole, [], []⟩
def d_is_list_up_to : He.DefD := ⟨("is_list_up_to", none), "is_list_up_to", "is_list_up_to", defArgs s_is_list_up_to, defBody s_is_list_up_to, sc_is_list_up_to, [], []⟩
def d_first_wrong_mark : He.DefD := ⟨("first_wrong_mark", none), "first_wrong_mark", "first_wrong_mark", defArgs s_first_wrong_mark, defBody s_first_wrong_mark, sc_first_wrong_mark, [], []⟩
def d_first_not_whole : He.DefD := ⟨("first_not_whole", none), "first_not_whole", "first_not_whole", defArgs s_first_not_whole, defBody s_first_not_whole, sc_first_not_whole, [], []⟩
def d_check_values : He.DefD := ⟨("check_values", none), "check_values", "check_values", defArgs s_check_values, defBody s_check_values, sc_check_values, [], []⟩
def d_check_marked : He.DefD := ⟨("check_marked", none), "check_marked", "check_marked", defArgs s_check_marked, defBody s_check_marked, sc_check_marked, [], []⟩
def d_longest_gone : He.DefD := ⟨("longest_gone", none), "longest_gone", "longest_gone", defArgs s_longest_gone, defBody s_longest_gone, sc_longest_gone, [], []⟩
def d_number_before : He.DefD := ⟨("number_before", none), "number_before", "number_before", defArgs s_number_before, defBody s_number_before, sc_number_before, [], []⟩
def d_power : He.DefD := ⟨("power", none), "power", "power", defArgs s_power, defBody s_power, sc_power, [], []⟩
def d_lists_before : He.DefD := ⟨("lists_before", none), "lists_before", "lists_before", defArgs s_lists_before, defBody s_lists_before, sc_lists_before, [], []⟩
def d_is_whole_up_to : He.DefD := ⟨("is_whole_up_to", none), "is_whole_up_to", "is_whole_up_to", defArgs s_is_whole_up_to, defBody s_is_whole_up_to, sc_is_whole_up_to, [], []⟩
def d_check_passes : He.DefD := ⟨("check_passes", none), "check_passes", "check_passes", defArgs s_check_passes, defBody s_check_passes, sc_check_passes, [], []⟩
def d_count_before : He.DefD := ⟨("count_before", none), "count_before", "count_before", defArgs s_count_before, defBody s_count_before, sc_count_before, [], [("passes", .int (1))]⟩
def d_left_by : He.DefD := ⟨("left_by", none), "left_by", "left_by", defArgs s_left_by, defBody s_left_by, sc_left_by, [], []⟩
def d_drop_visited : He.DefD := ⟨("drop_visited", none), "drop_visited", "drop_visited", defArgs s_drop_visited, defBody s_drop_visited, sc_drop_visited, [], []⟩
def d_check_both : He.DefD := ⟨("check_both", none), "check_both", "check_both", defArgs s_check_both, defBody s_check_both, sc_check_both, [], []⟩
def d_after_passes : He.DefD := ⟨("after_passes", none), "after_passes", "after_passes", defArgs s_after_passes, defBody s_after_passes, sc_after_passes, [], [("passes", .int (1))]⟩
def d_draws : He.DefD := ⟨("_law_draws", none), "_law_draws", "_law_draws", defArgs s_draws, defBody s_draws, sc_draws, [], []⟩
def d_next : He.DefD := ⟨("_law_next", none), "_law_next", "_law_next", defArgs s_next, defBody s_next, sc_next, [], []⟩
def d_marks : He.DefD := ⟨("_law_marks", none), "_law_marks", "_law_marks", defArgs s_marks, defBody s_marks, sc_marks, [], []⟩
def d_list : He.DefD := ⟨("_law_list", none), "_law_list", "_law_list", defArgs s_list, defBody s_list, sc_list, [], []⟩
def d_l_power : He.DefD := ⟨("_law_power", none), "_law_power", "_law_power", defArgs s_l_power, defBody s_l_power, sc_l_power, [], []⟩
def d_due : He.DefD := ⟨("_law_due", none), "_law_due", "_law_due", defArgs s_due, defBody s_due, sc_due, [], []⟩
def d_right : He.DefD := ⟨("_law_right", none), "_law_right", "_law_right", defArgs s_right, defBody s_right, sc_right, [], []⟩
def d_law : He.DefD := ⟨("law", none), "law", "law", defArgs s_law, defBody s_law, sc_law, [], []⟩
def d_each_before : He.DefD := ⟨("each_before", none), "each_before", "each_before", defArgs s_each_before, defBody s_each_before, sc_each_before, [], []⟩
def fn : List He.DefD := [d_is_whole, d_is_list_up_to, d_first_wrong_mark, d_first_not_whole, d_check_values, d_check_marked, d_longest_gone, d_number_before, d_power, d_lists_before, d_is_whole_up_to, d_check_passes, d_count_before, d_left_by, d_drop_visited, d_check_both, d_after_passes, d_draws, d_next, d_marks, d_list, d_l_power, d_due, d_right, d_law, d_each_before]
def fa : List He.Fa := [.glo "is_whole", .glo "is_list_up_to", .glo "first_wrong_mark", .glo "first_not_whole", .glo "check_values", .glo "check_marked", .glo "longest_gone", .glo "number_before", .glo "power", .glo "lists_before", .glo "is_whole_up_to", .glo "check_passes", .glo "count_before", .glo "left_by", .glo "drop_visited", .glo "check_both", .glo "after_passes", .glo "_law_draws", .glo "_law_next", .glo "_law_marks", .glo "_law_list", .glo "_law_power", .glo "_law_due", .glo "_law_right", .glo "law", .glo "each_before", .int "MOST_VALUES" 120, .int "MOST_MARKED" 12, .int "MOST_PASSES" 8, .int "MOST_PASSES_BEFORE" 4, .int "MOST_LISTS" 5000, .free "bool", .free "enumerate", .free "int", .free "isinstance", .free "len", .free "list", .free "range", .free "sorted", .free "sum"]
def loose0 : List Str := [("InvalidValues" : Str), ("InvalidMarked" : Str), ("InvalidPasses" : Str), ("TooMany" : Str), ("MOST_VALUES" : Str), ("MOST_MARKED" : Str), ("MOST_PASSES" : Str), ("is_whole" : Str), ("is_whole_up_to" : Str), ("is_list_up_to" : Str), ("first_wrong_mark" : Str), ("first_not_whole" : Str), ("check_values" : Str), ("check_marked" : Str), ("check_passes" : Str), ("MOST_PASSES_BEFORE" : Str), ("MOST_LISTS" : Str), ("count_before" : Str), ("each_before" : Str), ("longest_gone" : Str), ("number_before" : Str), ("power" : Str), ("lists_before" : Str), ("left_by" : Str), ("drop_visited" : Str), ("check_both" : Str), ("after_passes" : Str), ("_law_draws" : Str), ("_law_next" : Str), ("_law_marks" : Str)]
def loose1 : List Str := [("_law_list" : Str), ("_law_power" : Str), ("_law_due" : Str), ("_law_right" : Str)]
def loose : List Str := loose0 ++ loose1
abbrev lawAt : Nat := 40
theorem fx_is_whole {K : PySem.W.Frag} {h : Heap} {mg : Str → Option Value} (X : K.In h) (G : h.Ns mainGlobals mg) (c : He.SaysD fa fn K) : ∃ f fd, F_is_whole K f fd ∧ mg "is_whole" = some (.ref f) := by
  obtain ⟨fd, F⟩ := c.def_ 0 (d := d_is_whole) rfl
  exact ⟨_, fd, F, He.glo_ok X G (c.fact 0 (f := .glo "is_whole") rfl)⟩
theorem fx_is_list_up_to {K : PySem.W.Frag} {h : Heap} {mg : Str → Option Value} (X : K.In h) (G : h.Ns mainGlobals mg) (c : He.SaysD fa fn K) : ∃ f fd, F_is_list_up_to K f fd ∧ mg "is_list_up_to" = some (.ref f) := by
  obtain ⟨fd, F⟩ := c.def_ 1 (d := d_is_list_up_to) rfl
  exact ⟨_, fd, F, He.glo_ok X G (c.fact 1 (f := .glo "is_list_up_to") rfl)⟩
theorem fx_first_wrong_mark {K : PySem.W.Frag} {h : Heap} {mg : Str → Option Value} (X : K.In h) (G : h.Ns mainGlobals mg) (c : He.SaysD fa fn K) : ∃ f fd, F_first_wrong_mark K f fd ∧ mg "first_wrong_mark" = some (.ref f) := by
  obtain ⟨fd, F⟩ := c.def_ 2 (d := d_first_wrong_mark) rfl
  exact ⟨_, fd, F, He.glo_ok X G (c.fact 2 (f := .glo "first_wrong_mark") rfl)⟩
theorem fx_first_not_whole {K : PySem.W.Frag} {h : Heap} {mg : Str → Option Value} (X : K.In h) (G : h.Ns mainGlobals mg) (c : He.SaysD fa fn K) : ∃ f fd, F_first_not_whole K f fd ∧ mg "first_not_whole" = some (.ref f) := by
  obtain ⟨fd, F⟩ := c.def_ 3 (d := d_first_not_whole) rfl
  exact ⟨_, fd, F, He.glo_ok X G (c.fact 3 (f := .glo "first_not_whole") rfl)⟩
theorem fx_check_values {K : PySem.W.Frag} {h : Heap} {mg : Str → Option Value} (X : K.In h) (G : h.Ns mainGlobals mg) (c : He.SaysD fa fn K) : ∃ f fd, F_check_values K f fd ∧ mg "check_values" = some (.ref f) := by
  obtain ⟨fd, F⟩ := c.def_ 4 (d := d_check_values) rfl
  exact ⟨_, fd, F, He.glo_ok X G (c.fact 4 (f := .glo "check_values") rfl)⟩
theorem fx_check_marked {K : PySem.W.Frag} {h : Heap} {mg : Str → Option Value} (X : K.In h) (G : h.Ns mainGlobals mg) (c : He.SaysD fa fn K) : ∃ f fd, F_check_marked K f fd ∧ mg "check_marked" = some (.ref f) := by
  obtain ⟨fd, F⟩ := c.def_ 5 (d := d_check_marked) rfl
  exact ⟨_, fd, F, He.glo_ok X G (c.fact 5 (f := .glo "check_marked") rfl)⟩
theorem fx_longest_gone {K : PySem.W.Frag} {h : Heap} {mg : Str → Option Value} (X : K.In h) (G : h.Ns mainGlobals mg) (c : He.SaysD fa fn K) : ∃ f fd, F_longest_gone K f fd ∧ mg "longest_gone" = some (.ref f) := by
  obtain ⟨fd, F⟩ := c.def_ 6 (d := d_longest_gone) rfl
  exact ⟨_, fd, F, He.glo_ok X G (c.fact 6 (f := .glo "longest_gone") rfl)⟩
theorem fx_number_before {K : PySem.W.Frag} {h : Heap} {mg : Str → Option Value} (X : K.In h) (G : h.Ns mainGlobals mg) (c : He.SaysD fa fn K) : ∃ f fd, F_number_before K f fd ∧ mg "number_before" = some (.ref f) := by
  obtain ⟨fd, F⟩ := c.def_ 7 (d := d_number_before) rfl
  exact ⟨_, fd, F, He.glo_ok X G (c.fact 7 (f := .glo "number_before") rfl)⟩
theorem fx_power {K : PySem.W.Frag} {h : Heap} {mg : Str → Option Value} (X : K.In h) (G : h.Ns mainGlobals mg) (c : He.SaysD fa fn K) : ∃ f fd, F_power K f fd ∧ mg "power" = some (.ref f) := by
  obtain ⟨fd, F⟩ := c.def_ 8 (d := d_power) rfl
  exact ⟨_, fd, F, He.glo_ok X G (c.fact 8 (f := .glo "power") rfl)⟩
theorem fx_lists_before {K : PySem.W.Frag} {h : Heap} {mg : Str → Option Value} (X : K.In h) (G : h.Ns mainGlobals mg) (c : He.SaysD fa fn K) : ∃ f fd, F_lists_before K f fd ∧ mg "lists_before" = some (.ref f) := by
  obtain ⟨fd, F⟩ := c.def_ 9 (d := d_lists_before) rfl
  exact ⟨_, fd, F, He.glo_ok X G (c.fact 9 (f := .glo "lists_before") rfl)⟩
theorem fx_is_whole_up_to {K : PySem.W.Frag} {h : Heap} {mg : Str → Option Value} (X : K.In h) (G : h.Ns mainGlobals mg) (c : He.SaysD fa fn K) : ∃ f fd, F_is_whole_up_to K f fd ∧ mg "is_whole_up_to" = some (.ref f) := by
  obtain ⟨fd, F⟩ := c.def_ 10 (d := d_is_whole_up_to) rfl
  exact ⟨_, fd, F, He.glo_ok X G (c.fact 10 (f := .glo "is_whole_up_to") rfl)⟩
theorem fx_check_passes {K : PySem.W.Frag} {h : Heap} {mg : Str → Option Value} (X : K.In h) (G : h.Ns mainGlobals mg) (c : He.SaysD fa fn K) : ∃ f fd, F_check_passes K f fd ∧ mg "check_passes" = some (.ref f) := by
  obtain ⟨fd, F⟩ := c.def_ 11 (d := d_check_passes) rfl
  exact ⟨_, fd, F, He.glo_ok X G (c.fact 11 (f := .glo "check_passes") rfl)⟩
theorem fx_count_before {K : PySem.W.Frag} {h : Heap} {mg : Str → Option Value} (X : K.In h) (G : h.Ns mainGlobals mg) (c : He.SaysD fa fn K) : ∃ f fd, F_count_before K f fd ∧ mg "count_before" = some (.ref f) := by
  obtain ⟨fd, F⟩ := c.def_ 12 (d := d_count_before) rfl
  exact ⟨_, fd, F, He.glo_ok X G (c.fact 12 (f := .glo "count_before") rfl)⟩
theorem fx_left_by {K : PySem.W.Frag} {h : Heap} {mg : Str → Option Value} (X : K.In h) (G : h.Ns mainGlobals mg) (c : He.SaysD fa fn K) : ∃ f fd, F_left_by K f fd ∧ mg "left_by" = some (.ref f) := by
  obtain ⟨fd, F⟩ := c.def_ 13 (d := d_left_by) rfl
  exact ⟨_, fd, F, He.glo_ok X G (c.fact 13 (f := .glo "left_by") rfl)⟩
theorem fx_drop_visited {K : PySem.W.Frag} {h : Heap} {mg : Str → Option Value} (X : K.In h) (G : h.Ns mainGlobals mg) (c : He.SaysD fa fn K) : ∃ f fd, F_drop_visited K f fd ∧ mg "drop_visited" = some (.ref f) := by
  obtain ⟨fd, F⟩ := c.def_ 14 (d := d_drop_visited) rfl
  exact ⟨_, fd, F, He.glo_ok X G (c.fact 14 (f := .glo "drop_visited") rfl)⟩
theorem fx_check_both {K : PySem.W.Frag} {h : Heap} {mg : Str → Option Value} (X : K.In h) (G : h.Ns mainGlobals mg) (c : He.SaysD fa fn K) : ∃ f fd, F_check_both K f fd ∧ mg "check_both" = some (.ref f) := by
  obtain ⟨fd, F⟩ := c.def_ 15 (d := d_check_both) rfl
  exact ⟨_, fd, F, He.glo_ok X G (c.fact 15 (f := .glo "check_both") rfl)⟩
theorem fx_after_passes {K : PySem.W.Frag} {h : Heap} {mg : Str → Option Value} (X : K.In h) (G : h.Ns mainGlobals mg) (c : He.SaysD fa fn K) : ∃ f fd, F_after_passes K f fd ∧ mg "after_passes" = some (.ref f) := by
  obtain ⟨fd, F⟩ := c.def_ 16 (d := d_after_passes) rfl
  exact ⟨_, fd, F, He.glo_ok X G (c.fact 16 (f := .glo "after_passes") rfl)⟩
theorem fx_draws {K : PySem.W.Frag} {h : Heap} {mg : Str → Option Value} (X : K.In h) (G : h.Ns mainGlobals mg) (c : He.SaysD fa fn K) : ∃ f fd, F_draws K f fd ∧ mg "_law_draws" = some (.ref f) := by
  obtain ⟨fd, F⟩ := c.def_ 17 (d := d_draws) rfl
  exact ⟨_, fd, F, He.glo_ok X G (c.fact 17 (f := .glo "_law_draws") rfl)⟩
theorem fx_next {K : PySem.W.Frag} {h : Heap} {mg : Str → Option Value} (X : K.In h) (G : h.Ns mainGlobals mg) (c : He.SaysD fa fn K) : ∃ f fd, F_next K f fd ∧ mg "_law_next" = some (.ref f) := by
  obtain ⟨fd, F⟩ := c.def_ 18 (d := d_next) rfl
  exact ⟨_, fd, F, He.glo_ok X G (c.fact 18 (f := .glo "_law_next") rfl)⟩
theorem fx_marks {K : PySem.W.Frag} {h : Heap} {mg : Str → Option Value} (X : K.In h) (G : h.Ns mainGlobals mg) (c : He.SaysD fa fn K) : ∃ f fd, F_marks K f fd ∧ mg "_law_marks" = some (.ref f) := by
  obtain ⟨fd, F⟩ := c.def_ 19 (d := d_marks) rfl
  exact ⟨_, fd, F, He.glo_ok X G (c.fact 19 (f := .glo "_law_marks") rfl)⟩
theorem fx_list {K : PySem.W.Frag} {h : Heap} {mg : Str → Option Value} (X : K.In h) (G : h.Ns mainGlobals mg) (c : He.SaysD fa fn K) : ∃ f fd, F_list K f fd ∧ mg "_law_list" = some (.ref f) := by
  obtain ⟨fd, F⟩ := c.def_ 20 (d := d_list) rfl
  exact ⟨_, fd, F, He.glo_ok X G (c.fact 20 (f := .glo "_law_list") rfl)⟩
theorem fx_l_power {K : PySem.W.Frag} {h : Heap} {mg : Str → Option Value} (X : K.In h) (G : h.Ns mainGlobals mg) (c : He.SaysD fa fn K) : ∃ f fd, F_l_power K f fd ∧ mg "_law_power" = some (.ref f) := by
  obtain ⟨fd, F⟩ := c.def_ 21 (d := d_l_power) rfl
  exact ⟨_, fd, F, He.glo_ok X G (c.fact 21 (f := .glo "_law_power") rfl)⟩
theorem fx_due {K : PySem.W.Frag} {h : Heap} {mg : Str → Option Value} (X : K.In h) (G : h.Ns mainGlobals mg) (c : He.SaysD fa fn K) : ∃ f fd, F_due K f fd ∧ mg "_law_due" = some (.ref f) := by
  obtain ⟨fd, F⟩ := c.def_ 22 (d := d_due) rfl
  exact ⟨_, fd, F, He.glo_ok X G (c.fact 22 (f := .glo "_law_due") rfl)⟩
theorem fx_right {K : PySem.W.Frag} {h : Heap} {mg : Str → Option Value} (X : K.In h) (G : h.Ns mainGlobals mg) (c : He.SaysD fa fn K) : ∃ f fd, F_right K f fd ∧ mg "_law_right" = some (.ref f) := by
  obtain ⟨fd, F⟩ := c.def_ 23 (d := d_right) rfl
  exact ⟨_, fd, F, He.glo_ok X G (c.fact 23 (f := .glo "_law_right") rfl)⟩
theorem fx_law {K : PySem.W.Frag} {h : Heap} {mg : Str → Option Value} (X : K.In h) (G : h.Ns mainGlobals mg) (c : He.SaysD fa fn K) : ∃ f fd, F_law K f fd ∧ mg "law" = some (.ref f) := by
  obtain ⟨fd, F⟩ := c.def_ 24 (d := d_law) rfl
  exact ⟨_, fd, F, He.glo_ok X G (c.fact 24 (f := .glo "law") rfl)⟩
theorem fx_each_before {K : PySem.W.Frag} {h : Heap} {mg : Str → Option Value} (X : K.In h) (G : h.Ns mainGlobals mg) (c : He.SaysD fa fn K) : ∃ f fd, F_each_before K f fd ∧ mg "each_before" = some (.ref f) := by
  obtain ⟨fd, F⟩ := c.def_ 25 (d := d_each_before) rfl
  exact ⟨_, fd, F, He.glo_ok X G (c.fact 25 (f := .glo "each_before") rfl)⟩
theorem fi_MOST_VALUES {K : PySem.W.Frag} {h : Heap} {mg : Str → Option Value} (X : K.In h) (G : h.Ns mainGlobals mg) (c : He.SaysD fa fn K) : ∃ t, mg "MOST_VALUES" = some (.int 120 t) := He.int_ok X G (c.fact 26 (f := .int "MOST_VALUES" 120) rfl)
theorem fi_MOST_MARKED {K : PySem.W.Frag} {h : Heap} {mg : Str → Option Value} (X : K.In h) (G : h.Ns mainGlobals mg) (c : He.SaysD fa fn K) : ∃ t, mg "MOST_MARKED" = some (.int 12 t) := He.int_ok X G (c.fact 27 (f := .int "MOST_MARKED" 12) rfl)
theorem fi_MOST_PASSES {K : PySem.W.Frag} {h : Heap} {mg : Str → Option Value} (X : K.In h) (G : h.Ns mainGlobals mg) (c : He.SaysD fa fn K) : ∃ t, mg "MOST_PASSES" = some (.int 8 t) := He.int_ok X G (c.fact 28 (f := .int "MOST_PASSES" 8) rfl)
theorem fi_MOST_PASSES_BEFORE {K : PySem.W.Frag} {h : Heap} {mg : Str → Option Value} (X : K.In h) (G : h.Ns mainGlobals mg) (c : He.SaysD fa fn K) : ∃ t, mg "MOST_PASSES_BEFORE" = some (.int 4 t) := He.int_ok X G (c.fact 29 (f := .int "MOST_PASSES_BEFORE" 4) rfl)
theorem fi_MOST_LISTS {K : PySem.W.Frag} {h : Heap} {mg : Str → Option Value} (X : K.In h) (G : h.Ns mainGlobals mg) (c : He.SaysD fa fn K) : ∃ t, mg "MOST_LISTS" = some (.int 5000 t) := He.int_ok X G (c.fact 30 (f := .int "MOST_LISTS" 5000) rfl)
theorem ff_bool {K : PySem.W.Frag} {h : Heap} {mg : Str → Option Value} (X : K.In h) (G : h.Ns mainGlobals mg) (c : He.SaysD fa fn K) : mg "bool" = none := He.free_ok X G (c.fact 31 (f := .free "bool") rfl)
theorem ff_enumerate {K : PySem.W.Frag} {h : Heap} {mg : Str → Option Value} (X : K.In h) (G : h.Ns mainGlobals mg) (c : He.SaysD fa fn K) : mg "enumerate" = none := He.free_ok X G (c.fact 32 (f := .free "enumerate") rfl)
theorem ff_int {K : PySem.W.Frag} {h : Heap} {mg : Str → Option Value} (X : K.In h) (G : h.Ns mainGlobals mg) (c : He.SaysD fa fn K) : mg "int" = none := He.free_ok X G (c.fact 33 (f := .free "int") rfl)
theorem ff_isinstance {K : PySem.W.Frag} {h : Heap} {mg : Str → Option Value} (X : K.In h) (G : h.Ns mainGlobals mg) (c : He.SaysD fa fn K) : mg "isinstance" = none := He.free_ok X G (c.fact 34 (f := .free "isinstance") rfl)
theorem ff_len {K : PySem.W.Frag} {h : Heap} {mg : Str → Option Value} (X : K.In h) (G : h.Ns mainGlobals mg) (c : He.SaysD fa fn K) : mg "len" = none := He.free_ok X G (c.fact 35 (f := .free "len") rfl)
theorem ff_list {K : PySem.W.Frag} {h : Heap} {mg : Str → Option Value} (X : K.In h) (G : h.Ns mainGlobals mg) (c : He.SaysD fa fn K) : mg "list" = none := He.free_ok X G (c.fact 36 (f := .free "list") rfl)
theorem ff_range {K : PySem.W.Frag} {h : Heap} {mg : Str → Option Value} (X : K.In h) (G : h.Ns mainGlobals mg) (c : He.SaysD fa fn K) : mg "range" = none := He.free_ok X G (c.fact 37 (f := .free "range") rfl)
theorem ff_sorted {K : PySem.W.Frag} {h : Heap} {mg : Str → Option Value} (X : K.In h) (G : h.Ns mainGlobals mg) (c : He.SaysD fa fn K) : mg "sorted" = none := He.free_ok X G (c.fact 38 (f := .free "sorted") rfl)
theorem ff_sum {K : PySem.W.Frag} {h : Heap} {mg : Str → Option Value} (X : K.In h) (G : h.Ns mainGlobals mg) (c : He.SaysD fa fn K) : mg "sum" = none := He.free_ok X G (c.fact 39 (f := .free "sum") rfl)
theorem bi_ok {K : PySem.W.Frag} {h : Heap} {mg : Str → Option Value} (X : K.In h) (G : h.Ns mainGlobals mg) (c : He.SaysD fa fn K) : ∀ x ∈ gi.bs, mg x = none := List.forall_mem_cons.mpr ⟨ff_bool X G c, List.forall_mem_cons.mpr ⟨ff_enumerate X G c, List.forall_mem_cons.mpr ⟨ff_int X G c, List.forall_mem_cons.mpr ⟨ff_isinstance X G c, List.forall_mem_cons.mpr ⟨ff_len X G c, List.forall_mem_cons.mpr ⟨ff_list X G c, List.forall_mem_cons.mpr ⟨ff_range X G c, List.forall_mem_cons.mpr ⟨ff_sorted X G c, List.forall_mem_cons.mpr ⟨ff_sum X G c, (fun _ h => nomatch h)⟩⟩⟩⟩⟩⟩⟩⟩⟩
theorem cs_ok {K : PySem.W.Frag} {h : Heap} {mg : Str → Option Value} (X : K.In h) (G : h.Ns mainGlobals mg) (c : He.SaysD fa fn K) : ∀ p ∈ gi.cs, ∃ u, mg p.1 = some u ∧ cV p.2 u := List.forall_mem_cons.mpr ⟨(let ⟨t, e⟩ := fi_MOST_VALUES X G c; ⟨_, e, t, rfl⟩), List.forall_mem_cons.mpr ⟨(let ⟨t, e⟩ := fi_MOST_MARKED X G c; ⟨_, e, t, rfl⟩), List.forall_mem_cons.mpr ⟨(let ⟨t, e⟩ := fi_MOST_PASSES X G c; ⟨_, e, t, rfl⟩), List.forall_mem_cons.mpr ⟨(let ⟨t, e⟩ := fi_MOST_PASSES_BEFORE X G c; ⟨_, e, t, rfl⟩), List.forall_mem_cons.mpr ⟨(let ⟨t, e⟩ := fi_MOST_LISTS X G c; ⟨_, e, t, rfl⟩), (fun _ h => nomatch h)⟩⟩⟩⟩⟩
def names : List Str := [("is_whole" : Str), ("is_list_up_to" : Str), ("first_wrong_mark" : Str), ("first_not_whole" : Str), ("check_values" : Str), ("check_marked" : Str), ("longest_gone" : Str), ("number_before" : Str), ("power" : Str), ("lists_before" : Str), ("is_whole_up_to" : Str), ("check_passes" : Str), ("count_before" : Str), ("left_by" : Str), ("drop_visited" : Str), ("check_both" : Str), ("after_passes" : Str), ("_law_draws" : Str), ("_law_next" : Str), ("_law_marks" : Str), ("_law_list" : Str), ("_law_power" : Str), ("_law_due" : Str), ("_law_right" : Str), ("law" : Str), ("each_before" : Str)]
def faOf (mg : Str → Option Value) (n : Nat) : Addr := match names[n]? with
  | some x => match mg x with
    | some (.ref f) => f
    | _ => 0
  | none => 0
theorem faOf_eq {mg : Str → Option Value} {n : Nat} {x : Str} {f : Addr} (h : names[n]? = some x) (e : mg x = some (.ref f)) : faOf mg n = f := by
  unfold faOf
  rw [h]
  dsimp only
  rw [e]
theorem dok_is_whole {P : Program} {w : World} {base : Heap} {er : ER} {K : PySem.W.Frag} {h : Heap} {mg : Str → Option Value} (X : K.In h) (G : h.Ns mainGlobals mg) (c : He.SaysD fa fn K) : DefOk P w K mg base gi er prog (faOf mg) 0 di_is_whole := by
  obtain ⟨f, fd, F, e⟩ := fx_is_whole X G c
  have ef : faOf mg 0 = f := faOf_eq rfl e
  refine ⟨fd, by rw [ef]; exact e, by rw [ef]; exact F.kp, List.forall_mem_cons.mpr ⟨(kb_plain (n := 1) (ks := []) (ps := P_is_whole) [.inl 0] [.inl 0] F (fun _ _ => rfl) fun _ _ _ _ _ _ us ws l1 l2 => match us, ws, l1, l2 with | [_], [], _, _ => rfl), (fun _ h => nomatch h)⟩, fun k lk => ?_⟩
  rw [ef]
  exact fng_def F fs_is_whole rfl rfl rfl (bi_ok X G c) (cs_ok X G c) (fun X c hf hp hz hm => sb_is_whole c hf hp hz) lk
theorem dok_is_list_up_to {P : Program} {w : World} {base : Heap} {er : ER} {K : PySem.W.Frag} {h : Heap} {mg : Str → Option Value} (X : K.In h) (G : h.Ns mainGlobals mg) (c : He.SaysD fa fn K) : DefOk P w K mg base gi er prog (faOf mg) 1 di_is_list_up_to := by
  obtain ⟨f, fd, F, e⟩ := fx_is_list_up_to X G c
  have ef : faOf mg 1 = f := faOf_eq rfl e
  refine ⟨fd, by rw [ef]; exact e, by rw [ef]; exact F.kp, List.forall_mem_cons.mpr ⟨(kb_plain (n := 2) (ks := []) (ps := P_is_list_up_to) [.inl 0, .inl 1] [.inl 0, .inl 1] F (fun _ _ => rfl) fun _ _ _ _ _ _ us ws l1 l2 => match us, ws, l1, l2 with | [_, _], [], _, _ => rfl), (fun _ h => nomatch h)⟩, fun k lk => ?_⟩
  rw [ef]
  exact fng_def F fs_is_list_up_to rfl rfl rfl (bi_ok X G c) (cs_ok X G c) (fun X c hf hp hz hm => sb_is_list_up_to c hf hp hz) lk
theorem dok_first_wrong_mark {P : Program} {w : World} {base : Heap} {er : ER} {K : PySem.W.Frag} {h : Heap} {mg : Str → Option Value} (X : K.In h) (G : h.Ns mainGlobals mg) (c : He.SaysD fa fn K) : DefOk P w K mg base gi er prog (faOf mg) 2 di_first_wrong_mark := by
  obtain ⟨f, fd, F, e⟩ := fx_first_wrong_mark X G c
  have ef : faOf mg 2 = f := faOf_eq rfl e
  refine ⟨fd, by rw [ef]; exact e, by rw [ef]; exact F.kp, List.forall_mem_cons.mpr ⟨(kb_plain (n := 1) (ks := []) (ps := P_first_wrong_mark) [.inl 0] [.inl 0] F (fun _ _ => rfl) fun _ _ _ _ _ _ us ws l1 l2 => match us, ws, l1, l2 with | [_], [], _, _ => rfl), (fun _ h => nomatch h)⟩, fun k lk => ?_⟩
  rw [ef]
  exact fng_def F fs_first_wrong_mark rfl rfl rfl (bi_ok X G c) (cs_ok X G c) (fun X c hf hp hz hm => sb_first_wrong_mark c hf hp hz) lk
theorem dok_first_not_whole {P : Program} {w : World} {base : Heap} {er : ER} {K : PySem.W.Frag} {h : Heap} {mg : Str → Option Value} (X : K.In h) (G : h.Ns mainGlobals mg) (c : He.SaysD fa fn K) : DefOk P w K mg base gi er prog (faOf mg) 3 di_first_not_whole := by
  obtain ⟨f, fd, F, e⟩ := fx_first_not_whole X G c
  have ef : faOf mg 3 = f := faOf_eq rfl e
  refine ⟨fd, by rw [ef]; exact e, by rw [ef]; exact F.kp, List.forall_mem_cons.mpr ⟨(kb_plain (n := 1) (ks := []) (ps := P_first_not_whole) [.inl 0] [.inl 0] F (fun _ _ => rfl) fun _ _ _ _ _ _ us ws l1 l2 => match us, ws, l1, l2 with | [_], [], _, _ => rfl), (fun _ h => nomatch h)⟩, fun k lk => ?_⟩
  rw [ef]
  exact fng_def F fs_first_not_whole rfl rfl rfl (bi_ok X G c) (cs_ok X G c) (fun X c hf hp hz hm => sb_first_not_whole c hf hp hz) lk
theorem dok_check_values {P : Program} {w : World} {base : Heap} {er : ER} {K : PySem.W.Frag} {h : Heap} {mg : Str → Option Value} (X : K.In h) (G : h.Ns mainGlobals mg) (c : He.SaysD fa fn K) : DefOk P w K mg base gi er prog (faOf mg) 4 di_check_values := by
  obtain ⟨f, fd, F, e⟩ := fx_check_values X G c
  have ef : faOf mg 4 = f := faOf_eq rfl e
  refine ⟨fd, by rw [ef]; exact e, by rw [ef]; exact F.kp, List.forall_mem_cons.mpr ⟨(kb_plain (n := 1) (ks := []) (ps := P_check_values) [.inl 0] [.inl 0] F (fun _ _ => rfl) fun _ _ _ _ _ _ us ws l1 l2 => match us, ws, l1, l2 with | [_], [], _, _ => rfl), (fun _ h => nomatch h)⟩, fun k lk => ?_⟩
  rw [ef]
  exact fng_def F fs_check_values rfl rfl rfl (bi_ok X G c) (cs_ok X G c) (fun X c hf hp hz hm => sb_check_values c hf hp hz) lk
theorem dok_check_marked {P : Program} {w : World} {base : Heap} {er : ER} {K : PySem.W.Frag} {h : Heap} {mg : Str → Option Value} (X : K.In h) (G : h.Ns mainGlobals mg) (c : He.SaysD fa fn K) : DefOk P w K mg base gi er prog (faOf mg) 5 di_check_marked := by
  obtain ⟨f, fd, F, e⟩ := fx_check_marked X G c
  have ef : faOf mg 5 = f := faOf_eq rfl e
  refine ⟨fd, by rw [ef]; exact e, by rw [ef]; exact F.kp, List.forall_mem_cons.mpr ⟨(kb_plain (n := 1) (ks := []) (ps := P_check_marked) [.inl 0] [.inl 0] F (fun _ _ => rfl) fun _ _ _ _ _ _ us ws l1 l2 => match us, ws, l1, l2 with | [_], [], _, _ => rfl), (fun _ h => nomatch h)⟩, fun k lk => ?_⟩
  rw [ef]
  exact fng_def F fs_check_marked rfl rfl rfl (bi_ok X G c) (cs_ok X G c) (fun X c hf hp hz hm => sb_check_marked c hf hp hz) lk
theorem dok_longest_gone {P : Program} {w : World} {base : Heap} {er : ER} {K : PySem.W.Frag} {h : Heap} {mg : Str → Option Value} (X : K.In h) (G : h.Ns mainGlobals mg) (c : He.SaysD fa fn K) : DefOk P w K mg base gi er prog (faOf mg) 6 di_longest_gone := by
  obtain ⟨f, fd, F, e⟩ := fx_longest_gone X G c
  have ef : faOf mg 6 = f := faOf_eq rfl e
  refine ⟨fd, by rw [ef]; exact e, by rw [ef]; exact F.kp, List.forall_mem_cons.mpr ⟨(kb_plain (n := 1) (ks := []) (ps := P_longest_gone) [.inl 0] [.inl 0] F (fun _ _ => rfl) fun _ _ _ _ _ _ us ws l1 l2 => match us, ws, l1, l2 with | [_], [], _, _ => rfl), (fun _ h => nomatch h)⟩, fun k lk => ?_⟩
  rw [ef]
  exact fng_def F fs_longest_gone rfl rfl rfl (bi_ok X G c) (cs_ok X G c) (fun X c hf hp hz hm => sb_longest_gone c hf hp hz) lk
theorem dok_number_before {P : Program} {w : World} {base : Heap} {er : ER} {K : PySem.W.Frag} {h : Heap} {mg : Str → Option Value} (X : K.In h) (G : h.Ns mainGlobals mg) (c : He.SaysD fa fn K) : DefOk P w K mg base gi er prog (faOf mg) 7 di_number_before := by
  obtain ⟨f, fd, F, e⟩ := fx_number_before X G c
  have ef : faOf mg 7 = f := faOf_eq rfl e
  refine ⟨fd, by rw [ef]; exact e, by rw [ef]; exact F.kp, List.forall_mem_cons.mpr ⟨(kb_plain (n := 3) (ks := []) (ps := P_number_before) [.inl 0, .inl 1, .inl 2] [.inl 0, .inl 1, .inl 2] F (fun _ _ => rfl) fun _ _ _ _ _ _ us ws l1 l2 => match us, ws, l1, l2 with | [_, _, _], [], _, _ => rfl), (fun _ h => nomatch h)⟩, fun k lk => ?_⟩
  rw [ef]
  exact fng_def F fs_number_before rfl rfl rfl (bi_ok X G c) (cs_ok X G c) (fun X c hf hp hz hm => sb_number_before c hf hp hz) lk
theorem dok_power {P : Program} {w : World} {base : Heap} {er : ER} {K : PySem.W.Frag} {h : Heap} {mg : Str → Option Value} (X : K.In h) (G : h.Ns mainGlobals mg) (c : He.SaysD fa fn K) : DefOk P w K mg base gi er prog (faOf mg) 8 di_power := by
  obtain ⟨f, fd, F, e⟩ := fx_power X G c
  have ef : faOf mg 8 = f := faOf_eq rfl e
  refine ⟨fd, by rw [ef]; exact e, by rw [ef]; exact F.kp, List.forall_mem_cons.mpr ⟨(kb_plain (n := 2) (ks := []) (ps := P_power) [.inl 0, .inl 1] [.inl 0, .inl 1] F (fun _ _ => rfl) fun _ _ _ _ _ _ us ws l1 l2 => match us, ws, l1, l2 with | [_, _], [], _, _ => rfl), (fun _ h => nomatch h)⟩, fun k lk => ?_⟩
  rw [ef]
  exact fng_def F fs_power rfl rfl rfl (bi_ok X G c) (cs_ok X G c) (fun X c hf hp hz hm => sb_power c hf hp hz) lk
theorem dok_lists_before {P : Program} {w : World} {base : Heap} {er : ER} {K : PySem.W.Frag} {h : Heap} {mg : Str → Option Value} (X : K.In h) (G : h.Ns mainGlobals mg) (c : He.SaysD fa fn K) : DefOk P w K mg base gi er prog (faOf mg) 9 di_lists_before := by
  obtain ⟨f, fd, F, e⟩ := fx_lists_before X G c
  have ef : faOf mg 9 = f := faOf_eq rfl e
  refine ⟨fd, by rw [ef]; exact e, by rw [ef]; exact F.kp, List.forall_mem_cons.mpr ⟨(kb_plain (n := 2) (ks := []) (ps := P_lists_before) [.inl 0, .inl 1] [.inl 0, .inl 1] F (fun _ _ => rfl) fun _ _ _ _ _ _ us ws l1 l2 => match us, ws, l1, l2 with | [_, _], [], _, _ => rfl), (fun _ h => nomatch h)⟩, fun k lk => ?_⟩
  rw [ef]
  exact fng_def F fs_lists_before rfl rfl rfl (bi_ok X G c) (cs_ok X G c) (fun X c hf hp hz hm => sb_lists_before c hf hp hz) lk
theorem dok_is_whole_up_to {P : Program} {w : World} {base : Heap} {er : ER} {K : PySem.W.Frag} {h : Heap} {mg : Str → Option Value} (X : K.In h) (G : h.Ns mainGlobals mg) (c : He.SaysD fa fn K) : DefOk P w K mg base gi er prog (faOf mg) 10 di_is_whole_up_to := by
  obtain ⟨f, fd, F, e⟩ := fx_is_whole_up_to X G c
  have ef : faOf mg 10 = f := faOf_eq rfl e
  refine ⟨fd, by rw [ef]; exact e, by rw [ef]; exact F.kp, List.forall_mem_cons.mpr ⟨(kb_plain (n := 2) (ks := []) (ps := P_is_whole_up_to) [.inl 0, .inl 1] [.inl 0, .inl 1] F (fun _ _ => rfl) fun _ _ _ _ _ _ us ws l1 l2 => match us, ws, l1, l2 with | [_, _], [], _, _ => rfl), (fun _ h => nomatch h)⟩, fun k lk => ?_⟩
  rw [ef]
  exact fng_def F fs_is_whole_up_to rfl rfl rfl (bi_ok X G c) (cs_ok X G c) (fun X c hf hp hz hm => sb_is_whole_up_to c hf hp hz) lk
theorem dok_check_passes {P : Program} {w : World} {base : Heap} {er : ER} {K : PySem.W.Frag} {h : Heap} {mg : Str → Option Value} (X : K.In h) (G : h.Ns mainGlobals mg) (c : He.SaysD fa fn K) : DefOk P w K mg base gi er prog (faOf mg) 11 di_check_passes := by
  obtain ⟨f, fd, F, e⟩ := fx_check_passes X G c
  have ef : faOf mg 11 = f := faOf_eq rfl e
  refine ⟨fd, by rw [ef]; exact e, by rw [ef]; exact F.kp, List.forall_mem_cons.mpr ⟨(kb_plain (n := 2) (ks := []) (ps := P_check_passes) [.inl 0, .inl 1] [.inl 0, .inl 1] F (fun _ _ => rfl) fun _ _ _ _ _ _ us ws l1 l2 => match us, ws, l1, l2 with | [_, _], [], _, _ => rfl), (fun _ h => nomatch h)⟩, fun k lk => ?_⟩
  rw [ef]
  exact fng_def F fs_check_passes rfl rfl rfl (bi_ok X G c) (cs_ok X G c) (fun X c hf hp hz hm => sb_check_passes c hf hp hz) lk
theorem dok_count_before {P : Program} {w : World} {base : Heap} {er : ER} {K : PySem.W.Frag} {h : Heap} {mg : Str → Option Value} (X : K.In h) (G : h.Ns mainGlobals mg) (c : He.SaysD fa fn K) : DefOk P w K mg base gi er prog (faOf mg) 12 di_count_before := by
  obtain ⟨f, fd, F, e⟩ := fx_count_before X G c
  have ef : faOf mg 12 = f := faOf_eq rfl e
  refine ⟨fd, by rw [ef]; exact e, by rw [ef]; exact F.kp, List.forall_mem_cons.mpr ⟨(kb_dfl (n := 2) (ks := [("passes" : Str)]) (ps := P_count_before) [.inl 0, .inl 1, .inl 2] [.inl 0, .inl 1, .inl 2] [] F (by decide) (fun _ h => nomatch h) (fun _ _ => rfl) fun D doc pm an cdv ct us mv ws l1 l2 l3 => match us, mv, ws, l1, l2, l3 with | [_, _], [], [_], _, _, _ => rfl), (fun _ h => nomatch h)⟩, fun k lk => ?_⟩
  rw [ef]
  exact fng_def F fs_count_before rfl rfl rfl (bi_ok X G c) (cs_ok X G c) (fun X c hf hp hz hm => sb_count_before c hf hp hz) lk
theorem dok_left_by {P : Program} {w : World} {base : Heap} {er : ER} {K : PySem.W.Frag} {h : Heap} {mg : Str → Option Value} (X : K.In h) (G : h.Ns mainGlobals mg) (c : He.SaysD fa fn K) : DefOk P w K mg base gi er prog (faOf mg) 13 di_left_by := by
  obtain ⟨f, fd, F, e⟩ := fx_left_by X G c
  have ef : faOf mg 13 = f := faOf_eq rfl e
  refine ⟨fd, by rw [ef]; exact e, by rw [ef]; exact F.kp, List.forall_mem_cons.mpr ⟨(kb_plain (n := 3) (ks := []) (ps := P_left_by) [.inl 0, .inl 1, .inl 2] [.inl 0, .inl 1, .inl 2] F (fun _ _ => rfl) fun _ _ _ _ _ _ us ws l1 l2 => match us, ws, l1, l2 with | [_, _, _], [], _, _ => rfl), (fun _ h => nomatch h)⟩, fun k lk => ?_⟩
  rw [ef]
  exact fng_def F fs_left_by rfl rfl rfl (bi_ok X G c) (cs_ok X G c) (fun X c hf hp hz hm => sb_left_by c hf hp hz) lk
theorem dok_drop_visited {P : Program} {w : World} {base : Heap} {er : ER} {K : PySem.W.Frag} {h : Heap} {mg : Str → Option Value} (X : K.In h) (G : h.Ns mainGlobals mg) (c : He.SaysD fa fn K) : DefOk P w K mg base gi er prog (faOf mg) 14 di_drop_visited := by
  obtain ⟨f, fd, F, e⟩ := fx_drop_visited X G c
  have ef : faOf mg 14 = f := faOf_eq rfl e
  refine ⟨fd, by rw [ef]; exact e, by rw [ef]; exact F.kp, List.forall_mem_cons.mpr ⟨(kb_plain (n := 2) (ks := []) (ps := P_drop_visited) [.inl 0, .inl 1] [.inl 0, .inl 1] F (fun _ _ => rfl) fun _ _ _ _ _ _ us ws l1 l2 => match us, ws, l1, l2 with | [_, _], [], _, _ => rfl), (fun _ h => nomatch h)⟩, fun k lk => ?_⟩
  rw [ef]
  exact fng_def F fs_drop_visited rfl rfl rfl (bi_ok X G c) (cs_ok X G c) (fun X c hf hp hz hm => sb_drop_visited c hf hp hz) lk
theorem dok_check_both {P : Program} {w : World} {base : Heap} {er : ER} {K : PySem.W.Frag} {h : Heap} {mg : Str → Option Value} (X : K.In h) (G : h.Ns mainGlobals mg) (c : He.SaysD fa fn K) : DefOk P w K mg base gi er prog (faOf mg) 15 di_check_both := by
  obtain ⟨f, fd, F, e⟩ := fx_check_both X G c
  have ef : faOf mg 15 = f := faOf_eq rfl e
  refine ⟨fd, by rw [ef]; exact e, by rw [ef]; exact F.kp, List.forall_mem_cons.mpr ⟨(kb_plain (n := 2) (ks := []) (ps := P_check_both) [.inl 0, .inl 1] [.inl 0, .inl 1] F (fun _ _ => rfl) fun _ _ _ _ _ _ us ws l1 l2 => match us, ws, l1, l2 with | [_, _], [], _, _ => rfl), (fun _ h => nomatch h)⟩, fun k lk => ?_⟩
  rw [ef]
  exact fng_def F fs_check_both rfl rfl rfl (bi_ok X G c) (cs_ok X G c) (fun X c hf hp hz hm => sb_check_both c hf hp hz) lk
theorem dok_after_passes {P : Program} {w : World} {base : Heap} {er : ER} {K : PySem.W.Frag} {h : Heap} {mg : Str → Option Value} (X : K.In h) (G : h.Ns mainGlobals mg) (c : He.SaysD fa fn K) : DefOk P w K mg base gi er prog (faOf mg) 16 di_after_passes := by
  obtain ⟨f, fd, F, e⟩ := fx_after_passes X G c
  have ef : faOf mg 16 = f := faOf_eq rfl e
  refine ⟨fd, by rw [ef]; exact e, by rw [ef]; exact F.kp, List.forall_mem_cons.mpr ⟨(kb_dfl (n := 2) (ks := [("passes" : Str)]) (ps := P_after_passes) [.inl 0, .inl 1, .inl 2] [.inl 0, .inl 1, .inl 2] [] F (by decide) (fun _ h => nomatch h) (fun _ _ => rfl) fun D doc pm an cdv ct us mv ws l1 l2 l3 => match us, mv, ws, l1, l2, l3 with | [_, _], [], [_], _, _, _ => rfl), (fun _ h => nomatch h)⟩, fun k lk => ?_⟩
  rw [ef]
  exact fng_def F fs_after_passes rfl rfl rfl (bi_ok X G c) (cs_ok X G c) (fun X c hf hp hz hm => sb_after_passes c hf hp hz) lk
theorem dok_draws {P : Program} {w : World} {base : Heap} {er : ER} {K : PySem.W.Frag} {h : Heap} {mg : Str → Option Value} (X : K.In h) (G : h.Ns mainGlobals mg) (c : He.SaysD fa fn K) : DefOk P w K mg base gi er prog (faOf mg) 17 di_draws := by
  obtain ⟨f, fd, F, e⟩ := fx_draws X G c
  have ef : faOf mg 17 = f := faOf_eq rfl e
  refine ⟨fd, by rw [ef]; exact e, by rw [ef]; exact F.kp, List.forall_mem_cons.mpr ⟨(kb_plain (n := 1) (ks := []) (ps := P_draws) [.inl 0] [.inl 0] F (fun _ _ => rfl) fun _ _ _ _ _ _ us ws l1 l2 => match us, ws, l1, l2 with | [_], [], _, _ => rfl), (fun _ h => nomatch h)⟩, fun k lk => ?_⟩
  rw [ef]
  exact fng_def F fs_draws rfl rfl rfl (bi_ok X G c) (cs_ok X G c) (fun X c hf hp hz hm => sb_draws c hf hp hz) lk
theorem dok_next {P : Program} {w : World} {base : Heap} {er : ER} {K : PySem.W.Frag} {h : Heap} {mg : Str → Option Value} (X : K.In h) (G : h.Ns mainGlobals mg) (c : He.SaysD fa fn K) : DefOk P w K mg base gi er prog (faOf mg) 18 di_next := by
  obtain ⟨f, fd, F, e⟩ := fx_next X G c
  have ef : faOf mg 18 = f := faOf_eq rfl e
  refine ⟨fd, by rw [ef]; exact e, by rw [ef]; exact F.kp, List.forall_mem_cons.mpr ⟨(kb_plain (n := 1) (ks := []) (ps := P_next) [.inl 0] [.inl 0] F (fun _ _ => rfl) fun _ _ _ _ _ _ us ws l1 l2 => match us, ws, l1, l2 with | [_], [], _, _ => rfl), (fun _ h => nomatch h)⟩, fun k lk => ?_⟩
  rw [ef]
  exact fng_def F fs_next rfl rfl rfl (bi_ok X G c) (cs_ok X G c) (fun X c hf hp hz hm => sb_next c hf hp hz) lk
theorem dok_marks {P : Program} {w : World} {base : Heap} {er : ER} {K : PySem.W.Frag} {h : Heap} {mg : Str → Option Value} (X : K.In h) (G : h.Ns mainGlobals mg) (c : He.SaysD fa fn K) : DefOk P w K mg base gi er prog (faOf mg) 19 di_marks := by
  obtain ⟨f, fd, F, e⟩ := fx_marks X G c
  have ef : faOf mg 19 = f := faOf_eq rfl e
  refine ⟨fd, by rw [ef]; exact e, by rw [ef]; exact F.kp, List.forall_mem_cons.mpr ⟨(kb_plain (n := 2) (ks := []) (ps := P_marks) [.inl 0, .inl 1] [.inl 0, .inl 1] F (fun _ _ => rfl) fun _ _ _ _ _ _ us ws l1 l2 => match us, ws, l1, l2 with | [_, _], [], _, _ => rfl), (fun _ h => nomatch h)⟩, fun k lk => ?_⟩
  rw [ef]
  exact fng_def F fs_marks rfl rfl rfl (bi_ok X G c) (cs_ok X G c) (fun X c hf hp hz hm => sb_marks c hf hp hz) lk
theorem dok_list {P : Program} {w : World} {base : Heap} {er : ER} {K : PySem.W.Frag} {h : Heap} {mg : Str → Option Value} (X : K.In h) (G : h.Ns mainGlobals mg) (c : He.SaysD fa fn K) : DefOk P w K mg base gi er prog (faOf mg) 20 di_list := by
  obtain ⟨f, fd, F, e⟩ := fx_list X G c
  have ef : faOf mg 20 = f := faOf_eq rfl e
  refine ⟨fd, by rw [ef]; exact e, by rw [ef]; exact F.kp, List.forall_mem_cons.mpr ⟨(kb_plain (n := 2) (ks := []) (ps := P_list) [.inl 0, .inl 1] [.inl 0, .inl 1] F (fun _ _ => rfl) fun _ _ _ _ _ _ us ws l1 l2 => match us, ws, l1, l2 with | [_, _], [], _, _ => rfl), (fun _ h => nomatch h)⟩, fun k lk => ?_⟩
  rw [ef]
  exact fng_def F fs_list rfl rfl rfl (bi_ok X G c) (cs_ok X G c) (fun X c hf hp hz hm => sb_list c hf hp hz) lk
theorem dok_l_power {P : Program} {w : World} {base : Heap} {er : ER} {K : PySem.W.Frag} {h : Heap} {mg : Str → Option Value} (X : K.In h) (G : h.Ns mainGlobals mg) (c : He.SaysD fa fn K) : DefOk P w K mg base gi er prog (faOf mg) 21 di_l_power := by
  obtain ⟨f, fd, F, e⟩ := fx_l_power X G c
  have ef : faOf mg 21 = f := faOf_eq rfl e
  refine ⟨fd, by rw [ef]; exact e, by rw [ef]; exact F.kp, List.forall_mem_cons.mpr ⟨(kb_plain (n := 2) (ks := []) (ps := P_l_power) [.inl 0, .inl 1] [.inl 0, .inl 1] F (fun _ _ => rfl) fun _ _ _ _ _ _ us ws l1 l2 => match us, ws, l1, l2 with | [_, _], [], _, _ => rfl), (fun _ h => nomatch h)⟩, fun k lk => ?_⟩
  rw [ef]
  exact fng_def F fs_l_power rfl rfl rfl (bi_ok X G c) (cs_ok X G c) (fun X c hf hp hz hm => sb_l_power c hf hp hz) lk
theorem dok_due {P : Program} {w : World} {base : Heap} {er : ER} {K : PySem.W.Frag} {h : Heap} {mg : Str → Option Value} (X : K.In h) (G : h.Ns mainGlobals mg) (c : He.SaysD fa fn K) : DefOk P w K mg base gi er prog (faOf mg) 22 di_due := by
  obtain ⟨f, fd, F, e⟩ := fx_due X G c
  have ef : faOf mg 22 = f := faOf_eq rfl e
  refine ⟨fd, by rw [ef]; exact e, by rw [ef]; exact F.kp, List.forall_mem_cons.mpr ⟨(kb_plain (n := 3) (ks := []) (ps := P_due) [.inl 0, .inl 1, .inl 2] [.inl 0, .inl 1, .inl 2] F (fun _ _ => rfl) fun _ _ _ _ _ _ us ws l1 l2 => match us, ws, l1, l2 with | [_, _, _], [], _, _ => rfl), (fun _ h => nomatch h)⟩, fun k lk => ?_⟩
  rw [ef]
  exact fng_def F fs_due rfl rfl rfl (bi_ok X G c) (cs_ok X G c) (fun X c hf hp hz hm => sb_due c hf hp hz) lk
theorem dok_right {P : Program} {w : World} {base : Heap} {er : ER} {K : PySem.W.Frag} {h : Heap} {mg : Str → Option Value} (X : K.In h) (G : h.Ns mainGlobals mg) (c : He.SaysD fa fn K) : DefOk P w K mg base gi er prog (faOf mg) 23 di_right := by
  obtain ⟨f, fd, F, e⟩ := fx_right X G c
  have ef : faOf mg 23 = f := faOf_eq rfl e
  refine ⟨fd, by rw [ef]; exact e, by rw [ef]; exact F.kp, List.forall_mem_cons.mpr ⟨(kb_plain (n := 1) (ks := []) (ps := P_right) [.inl 0] [.inl 0] F (fun _ _ => rfl) fun _ _ _ _ _ _ us ws l1 l2 => match us, ws, l1, l2 with | [_], [], _, _ => rfl), (fun _ h => nomatch h)⟩, fun k lk => ?_⟩
  rw [ef]
  exact fng_def F fs_right rfl rfl rfl (bi_ok X G c) (cs_ok X G c) (fun X c hf hp hz hm => sb_right c hf hp hz) lk
theorem dok_law {P : Program} {w : World} {base : Heap} {er : ER} {K : PySem.W.Frag} {h : Heap} {mg : Str → Option Value} (X : K.In h) (G : h.Ns mainGlobals mg) (c : He.SaysD fa fn K) : DefOk P w K mg base gi er prog (faOf mg) 24 di_law := by
  obtain ⟨f, fd, F, e⟩ := fx_law X G c
  have ef : faOf mg 24 = f := faOf_eq rfl e
  refine ⟨fd, by rw [ef]; exact e, by rw [ef]; exact F.kp, (fun _ h => nomatch h), fun k lk => ?_⟩
  rw [ef]
  exact fng_def F fs_law rfl rfl rfl (bi_ok X G c) (cs_ok X G c) (fun X c hf hp hz hm => sb_law c hf hp hz) lk
theorem dok0_is_whole {gd : Option (List Code)} {P : Program} {w : World} {base : Heap} {er : ER} {K : PySem.W.Frag} {h : Heap} {mg : Str → Option Value} (X : K.In h) (G : h.Ns mainGlobals mg) (c : He.SaysD fa fn K) : DefOk P w K mg base (gi0 gd) er prog (faOf mg) 0 di_is_whole := by
  obtain ⟨f, fd, F, e⟩ := fx_is_whole X G c
  have ef : faOf mg 0 = f := faOf_eq rfl e
  refine ⟨fd, by rw [ef]; exact e, by rw [ef]; exact F.kp, List.forall_mem_cons.mpr ⟨(kb_plain (n := 1) (ks := []) (ps := P_is_whole) [.inl 0] [.inl 0] F (fun _ _ => rfl) fun _ _ _ _ _ _ us ws l1 l2 => match us, ws, l1, l2 with | [_], [], _, _ => rfl), (fun _ h => nomatch h)⟩, fun k lk => ?_⟩
  rw [ef]
  exact fng_def F fs_is_whole rfl rfl rfl (bi_ok X G c) (cs_ok X G c) (fun X c hf hp hz hm => sb0_is_whole c hf hp hz) lk
theorem dok0_is_list_up_to {gd : Option (List Code)} {P : Program} {w : World} {base : Heap} {er : ER} {K : PySem.W.Frag} {h : Heap} {mg : Str → Option Value} (X : K.In h) (G : h.Ns mainGlobals mg) (c : He.SaysD fa fn K) : DefOk P w K mg base (gi0 gd) er prog (faOf mg) 1 di_is_list_up_to := by
  obtain ⟨f, fd, F, e⟩ := fx_is_list_up_to X G c
  have ef : faOf mg 1 = f := faOf_eq rfl e
  refine ⟨fd, by rw [ef]; exact e, by rw [ef]; exact F.kp, List.forall_mem_cons.mpr ⟨(kb_plain (n := 2) (ks := []) (ps := P_is_list_up_to) [.inl 0, .inl 1] [.inl 0, .inl 1] F (fun _ _ => rfl) fun _ _ _ _ _ _ us ws l1 l2 => match us, ws, l1, l2 with | [_, _], [], _, _ => rfl), (fun _ h => nomatch h)⟩, fun k lk => ?_⟩
  rw [ef]
  exact fng_def F fs_is_list_up_to rfl rfl rfl (bi_ok X G c) (cs_ok X G c) (fun X c hf hp hz hm => sb0_is_list_up_to c hf hp hz) lk
theorem dok0_first_wrong_mark {gd : Option (List Code)} {P : Program} {w : World} {base : Heap} {er : ER} {K : PySem.W.Frag} {h : Heap} {mg : Str → Option Value} (X : K.In h) (G : h.Ns mainGlobals mg) (c : He.SaysD fa fn K) : DefOk P w K mg base (gi0 gd) er prog (faOf mg) 2 di_first_wrong_mark := by
  obtain ⟨f, fd, F, e⟩ := fx_first_wrong_mark X G c
  have ef : faOf mg 2 = f := faOf_eq rfl e
  refine ⟨fd, by rw [ef]; exact e, by rw [ef]; exact F.kp, List.forall_mem_cons.mpr ⟨(kb_plain (n := 1) (ks := []) (ps := P_first_wrong_mark) [.inl 0] [.inl 0] F (fun _ _ => rfl) fun _ _ _ _ _ _ us ws l1 l2 => match us, ws, l1, l2 with | [_], [], _, _ => rfl), (fun _ h => nomatch h)⟩, fun k lk => ?_⟩
  rw [ef]
  exact fng_def F fs_first_wrong_mark rfl rfl rfl (bi_ok X G c) (cs_ok X G c) (fun X c hf hp hz hm => sb0_first_wrong_mark c hf hp hz) lk
theorem dok0_first_not_whole {gd : Option (List Code)} {P : Program} {w : World} {base : Heap} {er : ER} {K : PySem.W.Frag} {h : Heap} {mg : Str → Option Value} (X : K.In h) (G : h.Ns mainGlobals mg) (c : He.SaysD fa fn K) : DefOk P w K mg base (gi0 gd) er prog (faOf mg) 3 di_first_not_whole := by
  obtain ⟨f, fd, F, e⟩ := fx_first_not_whole X G c
  have ef : faOf mg 3 = f := faOf_eq rfl e
  refine ⟨fd, by rw [ef]; exact e, by rw [ef]; exact F.kp, List.forall_mem_cons.mpr ⟨(kb_plain (n := 1) (ks := []) (ps := P_first_not_whole) [.inl 0] [.inl 0] F (fun _ _ => rfl) fun _ _ _ _ _ _ us ws l1 l2 => match us, ws, l1, l2 with | [_], [], _, _ => rfl), (fun _ h => nomatch h)⟩, fun k lk => ?_⟩
  rw [ef]
  exact fng_def F fs_first_not_whole rfl rfl rfl (bi_ok X G c) (cs_ok X G c) (fun X c hf hp hz hm => sb0_first_not_whole c hf hp hz) lk
theorem dok0_check_values {gd : Option (List Code)} {P : Program} {w : World} {base : Heap} {er : ER} {K : PySem.W.Frag} {h : Heap} {mg : Str → Option Value} (X : K.In h) (G : h.Ns mainGlobals mg) (c : He.SaysD fa fn K) : DefOk P w K mg base (gi0 gd) er prog (faOf mg) 4 di_check_values := by
  obtain ⟨f, fd, F, e⟩ := fx_check_values X G c
  have ef : faOf mg 4 = f := faOf_eq rfl e
  refine ⟨fd, by rw [ef]; exact e, by rw [ef]; exact F.kp, List.forall_mem_cons.mpr ⟨(kb_plain (n := 1) (ks := []) (ps := P_check_values) [.inl 0] [.inl 0] F (fun _ _ => rfl) fun _ _ _ _ _ _ us ws l1 l2 => match us, ws, l1, l2 with | [_], [], _, _ => rfl), (fun _ h => nomatch h)⟩, fun k lk => ?_⟩
  rw [ef]
  exact fng_def F fs_check_values rfl rfl rfl (bi_ok X G c) (cs_ok X G c) (fun X c hf hp hz hm => sb0_check_values c hf hp hz) lk
theorem dok0_check_marked {gd : Option (List Code)} {P : Program} {w : World} {base : Heap} {er : ER} {K : PySem.W.Frag} {h : Heap} {mg : Str → Option Value} (X : K.In h) (G : h.Ns mainGlobals mg) (c : He.SaysD fa fn K) : DefOk P w K mg base (gi0 gd) er prog (faOf mg) 5 di_check_marked := by
  obtain ⟨f, fd, F, e⟩ := fx_check_marked X G c
  have ef : faOf mg 5 = f := faOf_eq rfl e
  refine ⟨fd, by rw [ef]; exact e, by rw [ef]; exact F.kp, List.forall_mem_cons.mpr ⟨(kb_plain (n := 1) (ks := []) (ps := P_check_marked) [.inl 0] [.inl 0] F (fun _ _ => rfl) fun _ _ _ _ _ _ us ws l1 l2 => match us, ws, l1, l2 with | [_], [], _, _ => rfl), (fun _ h => nomatch h)⟩, fun k lk => ?_⟩
  rw [ef]
  exact fng_def F fs_check_marked rfl rfl rfl (bi_ok X G c) (cs_ok X G c) (fun X c hf hp hz hm => sb0_check_marked c hf hp hz) lk
theorem dok0_longest_gone {gd : Option (List Code)} {P : Program} {w : World} {base : Heap} {er : ER} {K : PySem.W.Frag} {h : Heap} {mg : Str → Option Value} (X : K.In h) (G : h.Ns mainGlobals mg) (c : He.SaysD fa fn K) : DefOk P w K mg base (gi0 gd) er prog (faOf mg) 6 di_longest_gone := by
  obtain ⟨f, fd, F, e⟩ := fx_longest_gone X G c
  have ef : faOf mg 6 = f := faOf_eq rfl e
  refine ⟨fd, by rw [ef]; exact e, by rw [ef]; exact F.kp, List.forall_mem_cons.mpr ⟨(kb_plain (n := 1) (ks := []) (ps := P_longest_gone) [.inl 0] [.inl 0] F (fun _ _ => rfl) fun _ _ _ _ _ _ us ws l1 l2 => match us, ws, l1, l2 with | [_], [], _, _ => rfl), (fun _ h => nomatch h)⟩, fun k lk => ?_⟩
  rw [ef]
  exact fng_def F fs_longest_gone rfl rfl rfl (bi_ok X G c) (cs_ok X G c) (fun X c hf hp hz hm => sb0_longest_gone c hf hp hz) lk
theorem dok0_number_before {gd : Option (List Code)} {P : Program} {w : World} {base : Heap} {er : ER} {K : PySem.W.Frag} {h : Heap} {mg : Str → Option Value} (X : K.In h) (G : h.Ns mainGlobals mg) (c : He.SaysD fa fn K) : DefOk P w K mg base (gi0 gd) er prog (faOf mg) 7 di_number_before := by
  obtain ⟨f, fd, F, e⟩ := fx_number_before X G c
  have ef : faOf mg 7 = f := faOf_eq rfl e
  refine ⟨fd, by rw [ef]; exact e, by rw [ef]; exact F.kp, List.forall_mem_cons.mpr ⟨(kb_plain (n := 3) (ks := []) (ps := P_number_before) [.inl 0, .inl 1, .inl 2] [.inl 0, .inl 1, .inl 2] F (fun _ _ => rfl) fun _ _ _ _ _ _ us ws l1 l2 => match us, ws, l1, l2 with | [_, _, _], [], _, _ => rfl), (fun _ h => nomatch h)⟩, fun k lk => ?_⟩
  rw [ef]
  exact fng_def F fs_number_before rfl rfl rfl (bi_ok X G c) (cs_ok X G c) (fun X c hf hp hz hm => sb0_number_before c hf hp hz) lk
theorem dok0_power {gd : Option (List Code)} {P : Program} {w : World} {base : Heap} {er : ER} {K : PySem.W.Frag} {h : Heap} {mg : Str → Option Value} (X : K.In h) (G : h.Ns mainGlobals mg) (c : He.SaysD fa fn K) : DefOk P w K mg base (gi0 gd) er prog (faOf mg) 8 di_power := by
  obtain ⟨f, fd, F, e⟩ := fx_power X G c
  have ef : faOf mg 8 = f := faOf_eq rfl e
  refine ⟨fd, by rw [ef]; exact e, by rw [ef]; exact F.kp, List.forall_mem_cons.mpr ⟨(kb_plain (n := 2) (ks := []) (ps := P_power) [.inl 0, .inl 1] [.inl 0, .inl 1] F (fun _ _ => rfl) fun _ _ _ _ _ _ us ws l1 l2 => match us, ws, l1, l2 with | [_, _], [], _, _ => rfl), (fun _ h => nomatch h)⟩, fun k lk => ?_⟩
  rw [ef]
  exact fng_def F fs_power rfl rfl rfl (bi_ok X G c) (cs_ok X G c) (fun X c hf hp hz hm => sb0_power c hf hp hz) lk
theorem dok0_lists_before {gd : Option (List Code)} {P : Program} {w : World} {base : Heap} {er : ER} {K : PySem.W.Frag} {h : Heap} {mg : Str → Option Value} (X : K.In h) (G : h.Ns mainGlobals mg) (c : He.SaysD fa fn K) : DefOk P w K mg base (gi0 gd) er prog (faOf mg) 9 di_lists_before := by
  obtain ⟨f, fd, F, e⟩ := fx_lists_before X G c
  have ef : faOf mg 9 = f := faOf_eq rfl e
  refine ⟨fd, by rw [ef]; exact e, by rw [ef]; exact F.kp, List.forall_mem_cons.mpr ⟨(kb_plain (n := 2) (ks := []) (ps := P_lists_before) [.inl 0, .inl 1] [.inl 0, .inl 1] F (fun _ _ => rfl) fun _ _ _ _ _ _ us ws l1 l2 => match us, ws, l1, l2 with | [_, _], [], _, _ => rfl), (fun _ h => nomatch h)⟩, fun k lk => ?_⟩
  rw [ef]
  exact fng_def F fs_lists_before rfl rfl rfl (bi_ok X G c) (cs_ok X G c) (fun X c hf hp hz hm => sb0_lists_before c hf hp hz) lk
theorem dok0 {gd : Option (List Code)} {P : Program} {w : World} {base : Heap} {er : ER} {K : PySem.W.Frag} {h : Heap} {mg : Str → Option Value} (X : K.In h) (G : h.Ns mainGlobals mg) (c : He.SaysD fa fn K) : ∀ n d, (gi0 gd).ds[n]? = some d → DefOk P w K mg base (gi0 gd) er prog (faOf mg) n d
  | 0, _, e => by
    cases e
    exact dok0_is_whole X G c
  | 1, _, e => by
    cases e
    exact dok0_is_list_up_to X G c
  | 2, _, e => by
    cases e
    exact dok0_first_wrong_mark X G c
  | 3, _, e => by
    cases e
    exact dok0_first_not_whole X G c
  | 4, _, e => by
    cases e
    exact dok0_check_values X G c
  | 5, _, e => by
    cases e
    exact dok0_check_marked X G c
  | 6, _, e => by
    cases e
    exact dok0_longest_gone X G c
  | 7, _, e => by
    cases e
    exact dok0_number_before X G c
  | 8, _, e => by
    cases e
    exact dok0_power X G c
  | 9, _, e => by
    cases e
    exact dok0_lists_before X G c
  | n + 10, _, e => by
    exact nomatch e
theorem gok_each_before {P : Program} {w : World} {base : Heap} {K : PySem.W.Frag} {h : Heap} {mg : Str → Option Value} (X : K.In h) (G : h.Ns mainGlobals mg) (c : He.SaysD fa fn K) (xo : XOk P K mg gi.xs gi.ls (faOf mg) (erX K gi.xs (faOf mg))) : GenOk P w K mg base gi (erX K gi.xs (faOf mg)) prog (faOf mg) gn_each_before := by
  obtain ⟨f, fd, F, e⟩ := fx_each_before X G c
  exact gen_ok gi0 (n := n_each_before) F gs_each_before (l := (defBody s_each_before).take 4) (e := yfE (defBody s_each_before)) (yp := _) (pos := _) rfl rfl rfl rfl (fun _ => rfl) (fun gd => bi_ok X G c) (fun gd => cs_ok X G c) (fun gd X k c hf hp hz => sg_each_before c hf hp hz) (fun gd k L => all_defs (gi := gi0 gd) xo (fun _ h => nomatch h) (dok0 X G c) k L) (binds_of (L2.FunD.bindsA (ps := P_each_before) F fun _ _ _ _ _ _ us hl => match us, hl with | [_, _], _ => rfl)) e
theorem dok {P : Program} {w : World} {base : Heap} {er : ER} {K : PySem.W.Frag} {h : Heap} {mg : Str → Option Value} (X : K.In h) (G : h.Ns mainGlobals mg) (c : He.SaysD fa fn K) : ∀ n d, gi.ds[n]? = some d → DefOk P w K mg base gi er prog (faOf mg) n d
  | 0, _, e => by
    cases e
    exact dok_is_whole X G c
  | 1, _, e => by
    cases e
    exact dok_is_list_up_to X G c
  | 2, _, e => by
    cases e
    exact dok_first_wrong_mark X G c
  | 3, _, e => by
    cases e
    exact dok_first_not_whole X G c
  | 4, _, e => by
    cases e
    exact dok_check_values X G c
  | 5, _, e => by
    cases e
    exact dok_check_marked X G c
  | 6, _, e => by
    cases e
    exact dok_longest_gone X G c
  | 7, _, e => by
    cases e
    exact dok_number_before X G c
  | 8, _, e => by
    cases e
    exact dok_power X G c
  | 9, _, e => by
    cases e
    exact dok_lists_before X G c
  | 10, _, e => by
    cases e
    exact dok_is_whole_up_to X G c
  | 11, _, e => by
    cases e
    exact dok_check_passes X G c
  | 12, _, e => by
    cases e
    exact dok_count_before X G c
  | 13, _, e => by
    cases e
    exact dok_left_by X G c
  | 14, _, e => by
    cases e
    exact dok_drop_visited X G c
  | 15, _, e => by
    cases e
    exact dok_check_both X G c
  | 16, _, e => by
    cases e
    exact dok_after_passes X G c
  | 17, _, e => by
    cases e
    exact dok_draws X G c
  | 18, _, e => by
    cases e
    exact dok_next X G c
  | 19, _, e => by
    cases e
    exact dok_marks X G c
  | 20, _, e => by
    cases e
    exact dok_list X G c
  | 21, _, e => by
    cases e
    exact dok_l_power X G c
  | 22, _, e => by
    cases e
    exact dok_due X G c
  | 23, _, e => by
    cases e
    exact dok_right X G c
  | 24, _, e => by
    cases e
    exact dok_law X G c
  | n + 25, _, e => by
    exact nomatch e
theorem law_ok {P : Program} {w : World} {K : PySem.W.Frag} {h : Heap} {mg : Str → Option Value} (X : K.In h) (G : h.Ns mainGlobals mg) (c : He.SaysD fa fn K) {f : Addr} (e : mg "law" = some (.ref f)) (k : Nat) : ∃ fd, F_law K f fd ∧ ∀ base : Heap, FnG (some []) P w K mg base (CX P w) (3 * (k + 1)) f fd P_law (spC K (erX K gi.xs (faOf mg)) (callD prog (faOf mg) (k + 1) 24) 1) := by
  have xo : XOk P K mg gi.xs gi.ls (faOf mg) (erX K gi.xs (faOf mg)) := xok_nil
  obtain ⟨f', fd, F, e'⟩ := fx_law X G c
  have ee := e.symm.trans e'
  cases ee
  exact ⟨fd, F, fun base => fng_def F fs_law rfl rfl rfl (bi_ok X G c) (cs_ok X G c) (fun X c hf hp hz hm => sb_law c hf hp hz) (all_defsC xo (fun _ h => nomatch h) (dok X G c) (fun _ h => nomatch h) (fun _ h => nomatch h) (List.forall_mem_cons.mpr ⟨gok_each_before X G c xo, (fun _ h => nomatch h)⟩) k)⟩
end Lw

set_option Elab.async false
set_option linter.all false
set_option maxRecDepth 100000
set_option maxHeartbeats 4000000
namespace Lw
open PySem PySem.Spec PyProof.Rows L2 Mi
local macro_rules | `(tactic| walk_at "ev") => `(tactic| simp only [z_w, z_k, z_g, z_nil, z_cons, z_lst, z_bin, z_cmp, z_tcmp, z_ch, z_tch, z_tval, z_tnot, z_tand, z_tor, z_not, z_and, z_or, z_ife, z_ix, z_oN, z_oS, z_sl, z_rev, z_f1, z_f2, z_call, bnd_ok, b_add, b_sub, b_modS, b_mulR, b_fdivS, b_powS, c_eqI, c_neI, c_lt, c_le, c_gt, c_ge, tr_bl, tr_int, u_intI, u_intB, List.getElem?_cons_zero, List.getElem?_cons_succ, List.set_cons_zero, List.set_cons_succ, if_true, if_false, Bool.false_eq_true, D.int, D.bl, D.non, List.map_cons, List.map_nil, List.replicate, List.cons_append, List.nil_append, List.length_cons, List.length_nil, Int.reduceLT, Int.reduceLE, Int.reduceNeg, Int.reducePow, Int.reduceToNat, Nat.reduceLT, Nat.reducePow, Nat.reduceAdd, and_self, and_true, true_and, *])
theorem sp_next {fa : Nat → Addr} {k m : Nat} {S : Store} {d : Dr} (h : S[m]? = some (.lst d.ts)) (hk : 0 ≤ d.k ∧ d.k ≤ 1000000000) : callD prog fa (k + 1) n_next [.cell m] S = .ok (.int d.val) (S.set m (.lst d.nx.ts)) := by
  rw [cd_next]
  obtain ⟨c0, k0, b0⟩ := d
  have hk' : 0 ≤ k0 ∧ k0 ≤ 1000000000 := hk
  have hm := (List.getElem?_eq_some_iff.mp h).1
  have h0 : S[m]? = some (.lst [.int c0, .int k0, .bl b0]) := h
  have e1 : ixD (.cell m) (.t (.int 1)) S = .ok (.t (.int k0)) S := i_cell (kk := 1) (rd_of h0) rfl rfl
  -- the draws' number goes up
  have h1 : (S.set m (.lst [.int c0, .int (k0 + 1), .bl b0]))[m]? = some (.lst [.int c0, .int (k0 + 1), .bl b0]) := List.getElem?_set_self hm
  have step : ∀ {q : Q} {x y : Option D} {t : XB}, Z.seq (Z.sti (Z.v 0) (Z.k (.int 1)) (Z.bin .add (Z.ix (Z.v 0) (Z.k (.int 1))) (Z.k (.int 1)))) t q [some (.cell m), x, y] S = t q [some (.cell m), x, y] (S.set m (.lst [.int c0, .int (k0 + 1), .bl b0])) := fun {q x y t} => by
    refine (q_nx (s_stiL (xs := [.int c0, .int k0, .bl b0]) (kk := 1) (x := .int (k0 + 1)) ?_ rfl rfl h0 rfl)).trans rfl
    walk_at "ev"
  generalize hS1 : S.set m (.lst [.int c0, .int (k0 + 1), .bl b0]) = S1 at h1 step
  have f0 : ixD (.cell m) (.t (.int 0)) S1 = .ok (.t (.int c0)) S1 := i_cell (kk := 0) (rd_of h1) rfl rfl
  have f1 : ixD (.cell m) (.t (.int 1)) S1 = .ok (.t (.int (k0 + 1))) S1 := i_cell (kk := 1) (rd_of h1) rfl rfl
  have f2 : ixD (.cell m) (.t (.int 2)) S1 = .ok (.t (.bl b0)) S1 := i_cell (kk := 2) (rd_of h1) rfl rfl
  clear e1 h0
  have lS : S1.length = S.length := by rw [← hS1, List.length_set]
  cases b0 with
  | true =>
    refine (run_Rt (d := .int (c0 % 10 ^ 6)) (S1 := S1.set m (.lst [.int (c0 / 10 ^ 6), .int (k0 + 1), .bl true])) ?_ mv_t).trans ?_
    · show Rt (b_next _ [some (.cell m), none, none] S) _ _
      unfold b_next
      rw [step]
      refine rt_nx (s_setT (x := .int (k0 + 1)) (S1 := S1) ?_) ?_
      · walk_at "ev"
      refine rt_st (rt_ifT (S1 := S1) ?_ ?_)
      · walk_at "ev"
      refine rt_nx (s_setT (x := .int (c0 % 10 ^ 6)) (S1 := S1) ?_) ?_
      · walk_at "ev"
      refine rt_nx (s_stiL (xs := [.int c0, .int (k0 + 1), .bl true]) (kk := 0) (x := .int (c0 / 10 ^ 6)) ?_ rfl rfl h1 rfl) ?_
      · walk_at "ev"
      exact rt_st (rt_ret rfl)
    · rw [List.take_of_length_le (by rw [List.length_set, lS]; exact Nat.le_refl _), ← hS1, List.set_set]
      rfl
  | false =>
    let n1 := ((c0 % 1000003 + (k0 + 1) * (k0 + 1) * 7919 + (k0 + 1)) * 48271) % 2147483629
    let n2 := (n1 * n1) % 2147483587
    have r1 : 0 ≤ n1 ∧ n1 < 2147483629 := ⟨Int.emod_nonneg _ (by decide), Int.emod_lt_of_pos _ (by decide)⟩
    have r2 : 0 ≤ n2 ∧ n2 < 2147483587 := ⟨Int.emod_nonneg _ (by decide), Int.emod_lt_of_pos _ (by decide)⟩
    refine (run_Rt (d := .int (mixI c0 (k0 + 1))) (S1 := S1) ?_ mv_t).trans ?_
    · show Rt (b_next _ [some (.cell m), none, none] S) _ _
      unfold b_next
      rw [step]
      refine rt_nx (s_setT (x := .int (k0 + 1)) (S1 := S1) ?_) ?_
      · walk_at "ev"
      refine rt_nx (S1 := S1) ((s_ifF ?_).trans rfl) ?_
      · walk_at "ev"
      refine rt_nx (s_setT (x := .int n1) (S1 := S1) ?_) ?_
      · have z : bop .mul (.t (.int (k0 + 1))) (.t (.int (k0 + 1))) S1 = .ok (.t (.int ((k0 + 1) * (k0 + 1)))) S1 := b_mulL ⟨by omega, by omega⟩
        walk_at "ev"
        rfl
      refine rt_nx (s_setT (x := .int n2) (S1 := S1) ?_) ?_
      · have z : bop .mul (.t (.int n1)) (.t (.int n1)) S1 = .ok (.t (.int (n1 * n1))) S1 := b_mulL ⟨by omega, by omega⟩
        walk_at "ev"
        rfl
      refine rt_st (rt_ret ?_)
      have z : bop .mul (.t (.int n2)) (.t (.int (n2 + 2))) S1 = .ok (.t (.int (n2 * (n2 + 2)))) S1 := b_mulL ⟨by omega, by omega⟩
      walk_at "ev"
      rfl
    · rw [List.take_of_length_le (by rw [lS]; exact Nat.le_refl _), ← hS1]
      rfl
theorem sp_draws {fa : Nat → Addr} {k : Nat} {S : Store} {c : Int} : callD prog fa (k + 1) n_draws [.t (.int c)] S = .ok (.new (drOf c).ts) S := by
  rw [cd_draws]
  refine (run_Rt (d := .new (drOf c).ts) (S1 := S) ?_ mv_new).trans (by rw [List.take_length])
  show Rt (b_draws _ [some (.t (.int c))] S) _ _
  unfold b_draws
  refine rt_st (rt_ret ?_)
  have p1 : ∀ S : Store, bop .pow (.t (.int 10)) (.t (.int 60)) S = .ok (.t (.int ((10 : Int) ^ (60 : Int).toNat))) S := fun _ => b_pow pw1
  have p2 : ∀ S : Store, bop .pow (.t (.int ((10 : Int) ^ (60 : Int).toNat))) (.t (.int 60)) S = .ok (.t (.int (((10 : Int) ^ (60 : Int).toNat) ^ (60 : Int).toNat))) S := fun _ => b_pow pw2
  have p3 : ∀ S : Store, bop .pow (.t (.int (((10 : Int) ^ (60 : Int).toNat) ^ (60 : Int).toNat))) (.t (.int 4)) S = .ok (.t (.int BIG)) S := fun _ => b_pow pw3
  have p4 : ∀ S : Store, bop .pow (.t (.int 10)) (.t (.int 18)) S = .ok (.t (.int ((10 : Int) ^ (18 : Int).toNat))) S := fun _ => b_pow pw4
  have p5 : ∀ S : Store, bop .mod (.t (.int c)) (.t (.int BIG)) S = .ok (.t (.int (c % BIG))) S := fun _ => b_mod big_pos
  simp only [z_lst, z_cons, z_bin, z_f1, z_w, z_k, z_nil, z_cmp, List.getElem?_cons_zero, bnd_ok, u_intI, p1, p2, p3, p4, p5, c_ge]
  rfl
section
variable {S R : Store} {m : Nat} {d d2 : Dr}
end
/-- int(_law_next(..)) -/
theorem e_next {q : Q} {fa : Nat → Addr} {k i m : Nat} {fr : Mi.Frame} {S : Store} {d : Dr} (hq : q.call = callD prog fa (k + 1)) (hf : fr[i]? = some (some (.cell m))) (h : S[m]? = some (.lst d.ts)) (hk : 0 ≤ d.k ∧ d.k ≤ 1000000000) :
    Z.f1 .int (Z.call n_next (Z.cons (Z.v i) Z.nil) [.inl 0]) q fr S = .ok (.t (.int d.val)) (S.set m (.lst d.nx.ts)) := by
  rw [z_f1, z_call, z_cons, z_v hf, bnd_ok, z_nil, bnd_ok, bnd_ok]
  have : Z.callA q n_next [.cell m] [.inl 0] S = callD prog fa (k + 1) n_next [.cell m] S := by
    rw [← hq]
    rfl
  rw [this, sp_next h hk, bnd_ok]
  rfl
theorem e_nextS {q : Q} {fa : Nat → Addr} {k i m : Nat} {fr : Mi.Frame} {S R : Store} {d : Dr} (hq : q.call = callD prog fa (k + 1)) (hf : fr[i]? = some (some (.cell m))) (hm : m < S.length) (hk : 0 ≤ d.k ∧ d.k ≤ 1000000000) :
    Z.f1 .int (Z.call n_next (Z.cons (Z.v i) Z.nil) [.inl 0]) q fr (St S m d R) = .ok (.t (.int d.val)) (St S m d.nx R) := by
  rw [e_next hq hf (st_get hm) hk, st_set hm]
theorem sp_list {fa : Nat → Addr} {k m : Nat} {S : Store} {d : Dr} {most : Int} (h : S[m]? = some (.lst d.ts)) (hk : 0 ≤ d.k ∧ d.k ≤ 800000000) (hm : 0 ≤ most ∧ most ≤ 1000) :
    ∃ (xs : List Int) (d2 : Dr), callD prog fa (k + 2) n_list [.cell m, .t (.int most)] S = .ok (.new (xs.map T.int)) (S.set m (.lst d2.ts)) ∧ (d.k ≤ d2.k ∧ d2.k ≤ d.k + 1002) ∧ (xs.length : Int) ≤ most ∧ ∀ v ∈ xs, -1 ≤ v ∧ v < 15 := by
  have hml := (List.getElem?_eq_some_iff.mp h).1
  have eS := st_of h
  generalize hq : (⟨callD prog fa (k + 1), fa, S.length⟩ : Q) = q
  have qc : q.call = callD prog fa (k + 1) := by rw [← hq]
  have d1 : d.nx.k = d.k + 1 := rfl
  have d2k : d.nx.nx.k = d.k + 2 := by show d.k + 1 + 1 = _; omega
  -- the number of turns
  generalize hn : d.nx.val % (most + 1) = n
  have hn' : 0 ≤ n ∧ n ≤ most := by
    have h1 : 0 < most + 1 := by omega
    have a := Int.emod_nonneg d.nx.val (b := most + 1) (by omega)
    have b := Int.emod_lt_of_pos d.nx.val h1
    omega
  have kd : 0 ≤ d.val % 5 ∧ d.val % 5 < 5 := ⟨Int.emod_nonneg _ (by decide), Int.emod_lt_of_pos _ (by decide)⟩
  generalize hkd : d.val % 5 = kind at kd
  let I : Nat → Mi.Frame → Store → Prop := fun i fr S' => ∃ (xs : List Int) (e : Dr) (a b c : Option D), fr = [some (.cell m), some (.t (.int most)), some (.t (.int kind)), some (.cell S.length), a, b, c] ∧ S' = St S m e [.lst (xs.map T.int)] ∧ xs.length = i ∧ e.k = d.k + 2 + i ∧ ∀ v ∈ xs, -1 ≤ v ∧ v < 15
  have loop : ∃ fr2 S2, Z.forL (.nm 4) (fun fr2 S2 => Z.cutR false (St S m d.nx.nx [.lst []]).length (b_list_0 q fr2 S2)) ((List.range n.toNat).map fun k : Nat => .int (k : Int)) [some (.cell m), some (.t (.int most)), some (.t (.int kind)), some (.cell S.length), none, none, none] (St S m d.nx.nx [.lst []]) = .ok (.nx, fr2) S2 ∧ I ((List.range n.toNat).map fun k : Nat => D.int (k : Int)).length fr2 S2 := by
    refine for_ind I ?_ ⟨[], d.nx.nx, none, none, none, rfl, rfl, rfl, by rw [d2k]; simp, fun v z => by cases z⟩
    rintro i x fr S' hx ⟨xs, e, a, b, c, rfl, rfl, hl, he, hv⟩
    obtain ⟨hi, rfl⟩ := range_at hx
    refine ⟨_, rfl, ?_⟩
    have hek : 0 ≤ e.k ∧ e.k ≤ 1000000000 := by omega
    generalize hp : e.val = pick
    -- the value picked
    have hs : ∃ sd : Int, 0 ≤ sd ∧ sd < 6 ∧ ∀ fr' : Mi.Frame, fr'[5]? = some (some (.t (.int pick))) → ∀ S', Z.ix (Z.lst (Z.cons (Z.k (.int 1)) (Z.cons (Z.bin .mod (Z.f1 .int (Z.v 5)) (Z.k (.int 6))) Z.nil))) (Z.f1 .int (Z.cmp .eq (Z.bin .mod (Z.f1 .int (Z.v 5)) (Z.k (.int 7))) (Z.k (.int 0)))) q fr' S' = .ok (.t (.int sd)) S' := by
      by_cases hz : pick % 7 = 0
      · refine ⟨pick % 6, Int.emod_nonneg _ (by decide), Int.emod_lt_of_pos _ (by decide), fun fr' h5 S' => ?_⟩
        simp only [z_ix, z_lst, z_cons, z_k, z_bin, z_f1, z_w, z_nil, z_cmp, h5, bnd_ok, u_intI, b_modS, c_eqI, u_intB, Int.reduceLT]
        rw [decide_eq_true hz]
        rfl
      · refine ⟨1, by decide, by decide, fun fr' h5 S' => ?_⟩
        simp only [z_ix, z_lst, z_cons, z_k, z_bin, z_f1, z_w, z_nil, z_cmp, h5, bnd_ok, u_intI, b_modS, c_eqI, u_intB, Int.reduceLT]
        rw [decide_eq_false hz]
        rfl
    obtain ⟨sd, s1, s2, es⟩ := hs
    have hv2 : ∃ v : Int, -1 ≤ v ∧ v < 15 ∧ ∀ fr' : Mi.Frame, fr'[5]? = some (some (.t (.int pick))) → fr'[6]? = some (some (.t (.int sd))) → fr'[2]? = some (some (.t (.int kind))) → ∀ S', Z.ix (Z.lst (Z.cons (Z.bin .sub (Z.bin .mod (Z.f1 .int (Z.v 5)) (Z.k (.int 6))) (Z.k (.int 1))) (Z.cons (Z.bin .mod (Z.f1 .int (Z.v 5)) (Z.k (.int 3))) (Z.cons (Z.bin .mod (Z.f1 .int (Z.v 5)) (Z.k (.int 2))) (Z.cons (Z.v 6) (Z.cons (Z.bin .sub (Z.bin .mod (Z.f1 .int (Z.v 5)) (Z.k (.int 16))) (Z.k (.int 1))) Z.nil)))))) (Z.v 2) q fr' S' = .ok (.t (.int v)) S' := by
      have ev : ∀ (i v : Int), ((ixN 5 i).bind fun j => [T.int (pick % 6 - 1), .int (pick % 3), .int (pick % 2), .int sd, .int (pick % 16 - 1)][j]?) = some (.int v) → i = kind → -1 ≤ v ∧ v < 15 → ∃ v : Int, -1 ≤ v ∧ v < 15 ∧ ∀ fr' : Mi.Frame, fr'[5]? = some (some (.t (.int pick))) → fr'[6]? = some (some (.t (.int sd))) → fr'[2]? = some (some (.t (.int kind))) → ∀ S', Z.ix (Z.lst (Z.cons (Z.bin .sub (Z.bin .mod (Z.f1 .int (Z.v 5)) (Z.k (.int 6))) (Z.k (.int 1))) (Z.cons (Z.bin .mod (Z.f1 .int (Z.v 5)) (Z.k (.int 3))) (Z.cons (Z.bin .mod (Z.f1 .int (Z.v 5)) (Z.k (.int 2))) (Z.cons (Z.v 6) (Z.cons (Z.bin .sub (Z.bin .mod (Z.f1 .int (Z.v 5)) (Z.k (.int 16))) (Z.k (.int 1))) Z.nil)))))) (Z.v 2) q fr' S' = .ok (.t (.int v)) S' := fun i v hi hk hb => by
        subst hk
        refine ⟨v, hb.1, hb.2, fun fr' h5 h6 h2 S' => ?_⟩
        simp only [z_ix, z_lst, z_cons, z_k, z_bin, z_f1, z_w, z_nil, h5, h6, h2, bnd_ok, u_intI, b_modS, b_sub, Int.reduceLT]
        refine i_of (ds := [D.t (.int (pick % 6 - 1)), .t (.int (pick % 3)), .t (.int (pick % 2)), .t (.int sd), .t (.int (pick % 16 - 1))]) rfl ?_
        show ((ixN 5 i).bind fun j => ([T.int (pick % 6 - 1), .int (pick % 3), .int (pick % 2), .int sd, .int (pick % 16 - 1)].map D.t)[j]?) = _
        cases q1 : ixN 5 i with
        | none =>
          rw [q1] at hi
          cases hi
        | some j =>
          rw [q1] at hi
          show ([T.int (pick % 6 - 1), .int (pick % 3), .int (pick % 2), .int sd, .int (pick % 16 - 1)].map D.t)[j]? = _
          rw [List.getElem?_map, show [T.int (pick % 6 - 1), .int (pick % 3), .int (pick % 2), .int sd, .int (pick % 16 - 1)][j]? = some (.int v) from hi]
          rfl
      have m6 : 0 ≤ pick % 6 ∧ pick % 6 < 6 := ⟨Int.emod_nonneg _ (by decide), Int.emod_lt_of_pos _ (by decide)⟩
      have m3 : 0 ≤ pick % 3 ∧ pick % 3 < 3 := ⟨Int.emod_nonneg _ (by decide), Int.emod_lt_of_pos _ (by decide)⟩
      have m2 : 0 ≤ pick % 2 ∧ pick % 2 < 2 := ⟨Int.emod_nonneg _ (by decide), Int.emod_lt_of_pos _ (by decide)⟩
      have m16 : 0 ≤ pick % 16 ∧ pick % 16 < 16 := ⟨Int.emod_nonneg _ (by decide), Int.emod_lt_of_pos _ (by decide)⟩
      have hc : kind = 0 ∨ kind = 1 ∨ kind = 2 ∨ kind = 3 ∨ kind = 4 := by omega
      rcases hc with h | h | h | h | h
      · exact ev 0 (pick % 6 - 1) rfl h.symm (by omega)
      · exact ev 1 (pick % 3) rfl h.symm (by omega)
      · exact ev 2 (pick % 2) rfl h.symm (by omega)
      · exact ev 3 sd rfl h.symm (by omega)
      · exact ev 4 (pick % 16 - 1) rfl h.symm (by omega)
    obtain ⟨v, v1, v2, ev⟩ := hv2
    refine ⟨.nx, [some (.cell m), some (.t (.int most)), some (.t (.int kind)), some (.cell S.length), some (.int i), some (.t (.int pick)), some (.t (.int sd))], St S m e.nx [.lst ((xs ++ [v]).map T.int)], cut_f ?_, .inl rfl, xs ++ [v], e.nx, _, _, _, rfl, rfl, ?_, ?_, ?_⟩
    · have ht : (St S m e.nx [.lst (xs.map T.int)])[S.length]? = some (.lst (xs.map T.int)) := st_top0
      unfold b_list_0
      refine (q_nx (s_setT (x := .int pick) (by rw [← hp]; exact e_nextS qc rfl hml hek))).trans ?_
      refine (q_nx (s_setT (x := .int sd) (es _ rfl _))).trans ?_
      refine (q_nx ((s_app (n := S.length) (xs := xs.map T.int) (x := .int v) rfl ht ?_ ht ?_).trans (congrArg (R.ok _) st_setT0))).trans ?_
      · rw [z_cons, ev _ rfl rfl rfl, bnd_ok]
        rfl
      · rw [List.length_map, hl]
        have : (okL : Nat) = 16000000 := rfl
        omega
      rw [List.map_append]
      rfl
    · rw [List.length_append, hl]
      rfl
    · show e.k + 1 = _
      rw [he]
      omega
    · intro u hu
      rcases List.mem_append.mp hu with hu | hu
      · exact hv u hu
      · rw [List.mem_singleton.mp hu]
        exact ⟨v1, v2⟩
  obtain ⟨fr2, S2, hl, xs, e, a, b, c, rfl, rfl, hlen, he, hv⟩ := loop
  rw [List.length_map, List.length_range] at hlen he
  refine ⟨xs, e, ?_, by omega, by omega, hv⟩
  rw [cd_list]
  refine (run_Rt (d := .cell S.length) (e := .new (xs.map T.int)) (S1 := St S m e [.lst (xs.map T.int)]) ?_ (mv_cell (Nat.le_refl _) st_top0)).trans (by rw [st_take])
  rw [hq]
  show Rt (b_list q [some (.cell m), some (.t (.int most)), none, none, none, none, none] S) _ _
  unfold b_list
  refine rt_nx (s_setT (x := .int kind) (S1 := St S m d.nx []) ?_) ?_
  · rw [← hkd, z_bin]
    have e1 := e_nextS (i := 0) (fr := [some (.cell m), some (.t (.int most)), none, none, none, none, none]) (R := []) qc rfl hml (d := d) (by omega)
    rw [← eS] at e1
    rw [e1, bnd_ok, z_k, bnd_ok, b_modS (by decide)]
  refine rt_nx (s_setM (xs := []) (S1 := St S m d.nx []) rfl) ?_
  rw [st_len, st_app]
  refine rt_nx (s_forF (i_range (n := n) (S1 := St S m d.nx.nx [.lst []]) ?_ ⟨hn'.1, by omega⟩) hl) ?_
  · rw [z_bin]
    rw [e_nextS (i := 0) qc rfl hml (by omega), bnd_ok, z_bin, z_w]
    show ((bop .add (.t (.int most)) (.t (.int 1)) _).bnd fun y S2 => bop .mod _ y S2) = _
    rw [b_add, bnd_ok, b_mod (by omega), hn]
    rfl
  exact rt_st (rt_ret rfl)
end Lw

set_option Elab.async false
set_option linter.all false
set_option maxRecDepth 100000
set_option maxHeartbeats 4000000
namespace Lw
open PySem PySem.Spec PyProof.Rows L2 Mi
theorem marks_body {q : Q} {fa : Nat → Addr} {k m : Nat} {S : Store} {most : Int} {w : Bool} {i : Nat} {ms : List Int} {e : Dr} {a b : Option D} (qc : q.call = callD prog fa (k + 1)) (hml : m < S.length) (hek : 0 ≤ e.k ∧ e.k ≤ 1000000000) (hl : ms.length ≤ 1000) :
    ∃ v : Int, -1 ≤ v ∧ v < 15 ∧ b_marks_0 q [some (.cell m), some (.t (.int most)), some (.t (.bl w)), some (.t (.lst (ms.map T.int))), some (.int i), b] (St S m e []) = .ok (.nx, [some (.cell m), some (.t (.int most)), some (.t (.bl w)), some (.t (.lst ((if ms.contains v = true then ms else ms ++ [v]).map T.int))), some (.int i), some (.int v)]) (St S m e.nx []) := by
  have hj : ∃ j : Int, (j = 6 ∨ j = 16) ∧ ∀ S', ixD (.new [T.int 6, .int 16]) (.t (.int (b2n w))) S' = .ok (.t (.int j)) S' := by
    cases w with
    | true => exact ⟨16, .inr rfl, fun _ => rfl⟩
    | false => exact ⟨6, .inl rfl, fun _ => rfl⟩
  obtain ⟨j, hj, ej⟩ := hj
  have hj0 : 0 < j := by omega
  have mj : 0 ≤ e.val % j ∧ e.val % j < j := ⟨Int.emod_nonneg _ (by omega), Int.emod_lt_of_pos _ hj0⟩
  refine ⟨e.val % j - 1, by omega, by omega, ?_⟩
  generalize hv : e.val % j - 1 = v
  unfold b_marks_0
  have mk1 : ∀ v : T, Z.mkL [D.t v] = .new [v] := fun _ => rfl
  have mk2 : Z.mkL [D.t (.int 6), .t (.int 16)] = .new [T.int 6, .int 16] := rfl
  refine (q_nx (s_setT (x := .int v) (S1 := St S m e.nx []) ?_)).trans ?_
  · have x1 := e_nextS (q := q) (i := 0) (R := []) (d := e) (fr := [some (.cell m), some (.t (.int most)), some (.t (.bl w)), some (.t (.lst (ms.map T.int))), some (.int i), b]) qc rfl hml hek
    have x2 : ∀ S', bop .mod (.t (.int e.val)) (.t (.int j)) S' = .ok (.t (.int (e.val % j))) S' := fun _ => b_mod hj0
    simp only [z_bin, z_ix, z_lst, z_cons, z_nil, z_k, bnd_ok, mk2, x1, x2]
    simp only [z_f1, z_w, List.getElem?_cons_zero, List.getElem?_cons_succ, bnd_ok, u_intB, ej, x2, b_sub, hv]
  refine (q_nx (s_setF (xs := (if ms.contains v = true then ms else ms ++ [v]).map T.int) (S1 := St S m e.nx []) ?_)).trans rfl
  have x3 : ∀ S', cmpD .nin (.t (.int v)) (.t (.lst (ms.map T.int))) S' = .ok (!ms.contains v) S' := fun _ => c_ninI rfl
  have x4 : ∀ S' (n : Int), 0 ≤ n ∧ n ≤ 1000000 → bop .mul (.new [T.int v]) (.t (.int n)) S' = .ok (.new (List.replicate n.toNat (T.int v))) S' := fun _ _ h => b_repN h
  simp only [z_bin, z_lst, z_cons, z_nil, z_k, z_f1, z_cmp, z_w, List.set_cons_succ, List.set_cons_zero, List.getElem?_cons_zero, List.getElem?_cons_succ, bnd_ok, mk1, x3, u_intB]
  cases hc : ms.contains v with
  | true =>
    rw [if_pos rfl, x4 _ (b2n (!true)) ⟨by decide, by decide⟩, bnd_ok, b_catTN (by rw [List.length_map]; have : (okL : Nat) = 16000000 := rfl; show ms.length + 0 ≤ okL; omega)]
    show R.ok (D.new (ms.map T.int ++ [])) _ = _
    rw [List.append_nil]
  | false =>
    rw [if_neg (by decide), x4 _ (b2n (!false)) ⟨by decide, by decide⟩, bnd_ok, b_catTN (by rw [List.length_map]; have : (okL : Nat) = 16000000 := rfl; show ms.length + 1 ≤ okL; omega)]
    rw [List.map_append]
    rfl
theorem sp_marks {fa : Nat → Addr} {k m : Nat} {S : Store} {d : Dr} {most : Int} (h : S[m]? = some (.lst d.ts)) (hk : 0 ≤ d.k ∧ d.k ≤ 800000000) (hm : 0 ≤ most ∧ most ≤ 12) :
    ∃ (ms : List Int) (d2 : Dr), callD prog fa (k + 2) n_marks [.cell m, .t (.int most)] S = .ok (.t (.lst (ms.map T.int))) (S.set m (.lst d2.ts)) ∧ (d.k ≤ d2.k ∧ d2.k ≤ d.k + 20) ∧ ms.length ≤ 12 ∧ (most ≤ 3 → (ms.length : Int) ≤ most) ∧ ms.Nodup ∧ ∀ v ∈ ms, -1 ≤ v ∧ v < 15 := by
  have hml := (List.getElem?_eq_some_iff.mp h).1
  have eS := st_of h
  generalize hq : (⟨callD prog fa (k + 1), fa, S.length⟩ : Q) = q
  have qc : q.call = callD prog fa (k + 1) := by rw [← hq]
  -- from the second row on
  have main : ∀ (w : Bool) (e0 : Dr), (w = true → 3 < most) → 0 ≤ e0.k ∧ e0.k ≤ 900000000 → ∃ (ms : List Int) (d2 : Dr), Rt (Z.seq (Z.set 3 false (Z.lst Z.nil)) (Z.seq (Z.fors false (.nm 4) (Z.itR (Z.bin .mod (Z.f1 .int (Z.call n_next (Z.cons (Z.v 0) Z.nil) [.inl 0])) (Z.bin .add (Z.ix (Z.lst (Z.cons (Z.v 1) (Z.cons (Z.k (.int 12)) Z.nil))) (Z.f1 .int (Z.v 2))) (Z.k (.int 1))))) b_marks_0) (Z.seq (Z.ret (Z.v 3)) Z.skip)) q [some (.cell m), some (.t (.int most)), some (.t (.bl w)), none, none, none] (St S m e0 [])) (.t (.lst (ms.map T.int))) (St S m d2 []) ∧ (e0.k ≤ d2.k ∧ d2.k ≤ e0.k + 13) ∧ ms.length ≤ 12 ∧ (most ≤ 3 → (ms.length : Int) ≤ most) ∧ ms.Nodup ∧ ∀ v ∈ ms, -1 ≤ v ∧ v < 15 := by
    intro w e0 hw he0
    have hN : ∃ N : Int, (0 ≤ N ∧ N ≤ 12 ∧ (most ≤ 3 → N ≤ most)) ∧ ∀ S', ixD (.new [T.int most, .int 12]) (.t (.int (b2n w))) S' = .ok (.t (.int N)) S' := by
      cases w with
      | true => exact ⟨12, ⟨by decide, by decide, fun z => by have := hw rfl; omega⟩, fun _ => rfl⟩
      | false => exact ⟨most, ⟨hm.1, hm.2, fun _ => Int.le_refl _⟩, fun _ => rfl⟩
    obtain ⟨N, hN, eN⟩ := hN
    have hn' : 0 ≤ e0.val % (N + 1) ∧ e0.val % (N + 1) < N + 1 := ⟨Int.emod_nonneg _ (by omega), Int.emod_lt_of_pos _ (by omega)⟩
    generalize hn : e0.val % (N + 1) = n at hn'
    let I : Nat → Mi.Frame → Store → Prop := fun i fr S' => ∃ (ms : List Int) (e : Dr) (a b : Option D), fr = [some (.cell m), some (.t (.int most)), some (.t (.bl w)), some (.t (.lst (ms.map T.int))), a, b] ∧ S' = St S m e [] ∧ ms.length ≤ i ∧ e.k = e0.k + 1 + i ∧ ms.Nodup ∧ ∀ v ∈ ms, -1 ≤ v ∧ v < 15
    have loop : ∃ fr2 S2, Z.forL (.nm 4) (fun fr2 S2 => Z.cutR false (St S m e0.nx []).length (b_marks_0 q fr2 S2)) ((List.range n.toNat).map fun k : Nat => .int (k : Int)) [some (.cell m), some (.t (.int most)), some (.t (.bl w)), some (.t (.lst [])), none, none] (St S m e0.nx []) = .ok (.nx, fr2) S2 ∧ I ((List.range n.toNat).map fun k : Nat => D.int (k : Int)).length fr2 S2 := by
      refine for_ind I ?_ ⟨[], e0.nx, none, none, rfl, rfl, Nat.zero_le _, by show e0.k + 1 = _; simp, List.nodup_nil, fun v z => by cases z⟩
      rintro i x fr S' hx ⟨ms, e, a, b, rfl, rfl, hl, he, nd, hv⟩
      obtain ⟨hi, rfl⟩ := range_at hx
      refine ⟨_, rfl, ?_⟩
      obtain ⟨v, v1, v2, eb⟩ := marks_body (most := most) (w := w) (i := i) (ms := ms) (a := a) (b := b) qc hml (e := e) (by omega) (by omega)
      refine ⟨.nx, _, _, cut_f eb, .inl rfl, _, e.nx, _, _, rfl, rfl, ?_, ?_, ?_, ?_⟩
      · split
        · omega
        · rw [List.length_append, List.length_singleton]
          omega
      · show e.k + 1 = _
        rw [he]
        omega
      · split
        · exact nd
        · rename_i hc
          refine List.nodup_append.mpr ⟨nd, List.nodup_cons.mpr ⟨(fun z => by cases z), List.nodup_nil⟩, fun x hx y hy z => ?_⟩
          rw [List.mem_singleton.mp hy] at z
          rw [z] at hx
          exact hc (List.contains_iff_mem.mpr hx)
      · intro u hu
        split at hu
        · exact hv u hu
        · rcases List.mem_append.mp hu with hu | hu
          · exact hv u hu
          · rw [List.mem_singleton.mp hu]
            exact ⟨v1, v2⟩
    obtain ⟨fr2, S2, hl, ms, e, a, b, rfl, rfl, hlen, he, nd, hv⟩ := loop
    rw [List.length_map, List.length_range] at hlen he
    refine ⟨ms, e, ?_, by omega, by omega, fun z => by have := hN.2.2 z; omega, nd, hv⟩
    refine rt_nx (s_setF (xs := []) (S1 := St S m e0 []) rfl) ?_
    refine rt_nx (s_forF (i_range (n := n) (S1 := St S m e0.nx []) ?_ ⟨by omega, by omega⟩) hl) ?_
    · have x1 := e_nextS (q := q) (i := 0) (R := []) (d := e0) (fr := [some (.cell m), some (.t (.int most)), some (.t (.bl w)), some (.t (.lst [])), none, none]) qc rfl hml (by omega)
      have mk2 : Z.mkL [D.t (.int most), .t (.int 12)] = .new [T.int most, .int 12] := rfl
      have x2 : ∀ S', bop .mod (.t (.int e0.val)) (.t (.int (N + 1))) S' = .ok (.t (.int n)) S' := fun _ => by rw [← hn]; exact b_mod (by omega)
      simp only [List.set_cons_succ, List.set_cons_zero, z_bin, z_ix, z_lst, z_cons, z_nil, z_k, z_w, List.getElem?_cons_zero, List.getElem?_cons_succ, bnd_ok, mk2, x1]
      simp only [z_f1, z_w, List.getElem?_cons_zero, List.getElem?_cons_succ, bnd_ok, u_intB, eN, b_add, x2]
    exact rt_st (rt_ret rfl)
  by_cases h3 : 3 < most
  · obtain ⟨ms, d2, hR, b1, b2, b3, b4, b5⟩ := main (decide (d.val % 4 = 0)) d.nx (fun _ => h3) (by show 0 ≤ d.k + 1 ∧ d.k + 1 ≤ _; omega)
    have b1' : d.k + 1 ≤ d2.k ∧ d2.k ≤ d.k + 1 + 13 := b1
    refine ⟨ms, d2, ?_, by omega, b2, b3, b4, b5⟩
    rw [cd_marks]
    refine (run_Rt (S1 := St S m d2 []) ?_ mv_t).trans (by rw [st_take])
    rw [hq]
    show Rt (b_marks q [some (.cell m), some (.t (.int most)), none, none, none, none] S) _ _
    unfold b_marks
    refine rt_nx (s_setT (x := .bl (decide (d.val % 4 = 0))) (S1 := St S m d.nx []) ?_) hR
    have x1 := e_nextS (q := q) (i := 0) (R := []) (d := d) (fr := [some (.cell m), some (.t (.int most)), none, none, none, none]) qc rfl hml (by omega)
    rw [← eS] at x1
    have c3 : decide (3 < most) = true := decide_eq_true h3
    simp only [z_and, z_cmp, z_bin, z_w, z_k, List.getElem?_cons_zero, List.getElem?_cons_succ, bnd_ok, c_gt, c3, tr_bl, D.bl, if_true, x1, b_modS, Int.reduceLT, c_eqI]
  · obtain ⟨ms, d2, hR, b1, b2, b3, b4, b5⟩ := main false d (fun z => by cases z) (by omega)
    refine ⟨ms, d2, ?_, by omega, b2, b3, b4, b5⟩
    rw [cd_marks]
    refine (run_Rt (S1 := St S m d2 []) ?_ mv_t).trans (by rw [st_take])
    rw [hq]
    show Rt (b_marks q [some (.cell m), some (.t (.int most)), none, none, none, none] S) _ _
    unfold b_marks
    refine rt_nx (s_setT (x := .bl false) (S1 := St S m d []) ?_) hR
    have c3 : decide (3 < most) = false := decide_eq_false h3
    rw [← eS]
    simp only [z_and, z_cmp, z_bin, z_w, z_k, List.getElem?_cons_zero, List.getElem?_cons_succ, bnd_ok, c_gt, c3, tr_bl, D.bl, Bool.false_eq_true, if_false]
section
variable {S : Store} {x : D} {ns : List Int}
end
theorem sp_is_whole {fa : Nat → Addr} {k : Nat} {S : Store} {i : Int} : callD prog fa (k + 1) n_is_whole [.t (.int i)] S = .ok (.bl true) S := by
  rw [cd_is_whole]
  exact (run_Rt (d := .bl true) (S1 := S) ⟨_, rfl⟩ mv_t).trans (by rw [List.take_length])
theorem sp_is_list {fa : Nat → Addr} {k : Nat} {S : Store} {x : D} {ns : List Int} {m : Int} (h : IsL S x ns) : callD prog fa (k + 1) n_is_list_up_to [x, .t (.int m)] S = .ok (.bl (decide ((ns.length : Int) ≤ m))) S := by
  rw [cd_is_list_up_to]
  refine (run_Rt (d := .bl (decide ((ns.length : Int) ≤ m))) (S1 := S) ?_ mv_t).trans (by rw [List.take_length])
  show Rt (b_is_list_up_to _ [some x, some (.t (.int m))] S) _ _
  unfold b_is_list_up_to
  refine rt_st (rt_ret ?_)
  simp only [z_and, z_cmp, z_f1, z_w, List.getElem?_cons_zero, List.getElem?_cons_succ, bnd_ok, h.isi, h.len, D.bl, D.int, tr_bl, if_true, c_le]
/-- is_whole of what stands in a slot -/
theorem e_whole {q : Q} {fa : Nat → Addr} {k i : Nat} {fr : Mi.Frame} {S : Store} {v : Int} (hq : q.call = callD prog fa (k + 1)) (hf : fr[i]? = some (some (.t (.int v)))) : Z.call n_is_whole (Z.cons (Z.v i) Z.nil) [.inl 0] q fr S = .ok (.bl true) S := by
  rw [z_call, z_cons, z_v hf, bnd_ok, z_nil, bnd_ok, bnd_ok]
  have : Z.callA q n_is_whole [.t (.int v)] [.inl 0] S = callD prog fa (k + 1) n_is_whole [.t (.int v)] S := by
    rw [← hq]
    rfl
  rw [this, sp_is_whole]
theorem sp_not_whole {fa : Nat → Addr} {k : Nat} {S : Store} {x : D} {ns : List Int} (h : IsL S x ns) : callD prog fa (k + 2) n_first_not_whole [x] S = .ok .non S := by
  generalize hq : (⟨callD prog fa (k + 1), fa, S.length⟩ : Q) = q
  have qc : q.call = callD prog fa (k + 1) := by rw [← hq]
  obtain ⟨lk, hi, hlen, hk, hu⟩ := h.walk
  let I : Nat → Mi.Frame → Store → Prop := fun i fr S' => ∃ a b : Option D, fr = [some x, a, b] ∧ S' = lckS S lk
  have loop : ∃ fr2 S2, Z.forL (.tu [1, 2]) (fun fr2 S2 => Z.cutR false (lckS S lk).length (b_first_not_whole_0 q fr2 S2)) ((enumT (ns.map T.int)).map D.t) [some x, none, none] (lckS S lk) = .ok (.nx, fr2) S2 ∧ I ((enumT (ns.map T.int)).map D.t).length fr2 S2 := by
    refine for_ind I ?_ ⟨_, _, rfl, rfl⟩
    rintro i d fr S' hx ⟨a, b, rfl, rfl⟩
    obtain ⟨v, hv, rfl⟩ := enum_at hx
    refine ⟨_, rfl, .nx, _, _, cut_f (fr1 := [some x, some (.t (.int (i : Nat))), some (.t (.int v))]) (S1 := lckS S lk) ?_, .inl rfl, _, _, rfl, rfl⟩
    unfold b_first_not_whole_0
    refine (q_nx ((s_ifF ?_).trans rfl)).trans rfl
    rw [z_tnot, z_tval, e_whole (v := v) qc rfl]
    rfl
  obtain ⟨fr2, S2, hl, a, b, rfl, rfl⟩ := loop
  rw [cd_first_not_whole]
  refine (run_Rt (d := .non) (S1 := S) ?_ mv_t).trans (by rw [List.take_length])
  rw [hq]
  show Rt (b_first_not_whole q [some x, none, none] S) _ _
  unfold b_first_not_whole
  have e0 := s_forLk (fl := .nx) (R := []) (hi q [some x, none, none] (Z.v 0) (z_v rfl)).1 (by rw [List.append_nil]; exact hl) (hu [])
  rw [List.append_nil] at e0
  exact rt_nx e0 (rt_st (rt_ret rfl))
theorem sp_wrong_mark {fa : Nat → Addr} {k : Nat} {S : Store} {x : D} {ns : List Int} (h : IsL S x ns) (nd : ns.Nodup) : callD prog fa (k + 2) n_first_wrong_mark [x] S = .ok .non S := by
  generalize hq : (⟨callD prog fa (k + 1), fa, S.length⟩ : Q) = q
  have qc : q.call = callD prog fa (k + 1) := by rw [← hq]
  obtain ⟨lk, hi, hlen, hk, hu⟩ := h.walk
  have h' := hk x ns h
  let I : Nat → Mi.Frame → Store → Prop := fun i fr S' => ∃ a b : Option D, fr = [some x, a, b] ∧ S' = lckS S lk
  have loop : ∃ fr2 S2, Z.forL (.tu [1, 2]) (fun fr2 S2 => Z.cutR false (lckS S lk).length (b_first_wrong_mark_0 q fr2 S2)) ((enumT (ns.map T.int)).map D.t) [some x, none, none] (lckS S lk) = .ok (.nx, fr2) S2 ∧ I ((enumT (ns.map T.int)).map D.t).length fr2 S2 := by
    refine for_ind I ?_ ⟨_, _, rfl, rfl⟩
    rintro i d fr S' hx ⟨a, b, rfl, rfl⟩
    obtain ⟨v, hv, rfl⟩ := enum_at hx
    refine ⟨_, rfl, .nx, _, _, cut_f (fr1 := [some x, some (.t (.int (i : Nat))), some (.t (.int v))]) (S1 := lckS S lk) ?_, .inl rfl, _, _, rfl, rfl⟩
    unfold b_first_wrong_mark_0
    refine (q_nx ((s_ifF ?_).trans rfl)).trans rfl
    rw [z_tor, z_tnot, z_tval, e_whole (v := v) qc rfl, bnd_ok, tr_bl, bnd_ok, bnd_ok]
    show Z.tcmp .in_ (Z.v 2) (Z.sl (Z.v 0) none (some (Z.v 1))) q [some x, some (.t (.int (i : Nat))), some (.t (.int v))] (lckS S lk) = _
    rw [z_tcmp, z_v rfl, bnd_ok, z_sl, z_v rfl, bnd_ok, z_oN, bnd_ok, z_oS, z_v rfl, bnd_ok, bnd_ok]
    have e1 : slD x none (some ((i : Nat) : Int)) (lckS S lk) = .ok (.new ((ns.take i).map T.int)) (lckS S lk) := by
      unfold slD
      have : sqS (lckS S lk) x = some (ns.map T.int) := by
        cases h' with
        | t => rfl
        | c h => exact (IsL.c h).sq
        | k h => exact (IsL.k h).sq
      rw [this]
      dsimp only
      rw [cut_take (by omega), Int.toNat_natCast, List.map_take]
    rw [e1, bnd_ok, c_inI (ns := ns.take i) rfl, not_take nd hv]
  obtain ⟨fr2, S2, hl, a, b, rfl, rfl⟩ := loop
  rw [cd_first_wrong_mark]
  refine (run_Rt (d := .non) (S1 := S) ?_ mv_t).trans (by rw [List.take_length])
  rw [hq]
  show Rt (b_first_wrong_mark q [some x, none, none] S) _ _
  unfold b_first_wrong_mark
  have e0 := s_forLk (fl := .nx) (R := []) (hi q [some x, none, none] (Z.v 0) (z_v rfl)).1 (by rw [List.append_nil]; exact hl) (hu [])
  rw [List.append_nil] at e0
  exact rt_nx e0 (rt_st (rt_ret rfl))
theorem sp_check_values {fa : Nat → Addr} {k : Nat} {S : Store} {x : D} {ns : List Int} (h : IsL S x ns) (hl : ns.length ≤ 120) : callD prog fa (k + 3) n_check_values [x] S = .ok .non S := by
  generalize hq : (⟨callD prog fa (k + 2), fa, S.length⟩ : Q) = q
  have qc : q.call = callD prog fa (k + 2) := by rw [← hq]
  rw [cd_check_values]
  refine (run_nx (fr1 := [some x, some (.t .non)]) (S1 := S) ?_).trans (by rw [List.take_length])
  rw [hq]
  show b_check_values q [some x, none] S = _
  unfold b_check_values
  have e1 : Z.call n_is_list_up_to (Z.cons (Z.v 0) (Z.cons (Z.k (.int 120)) Z.nil)) [.inl 0, .inl 1] q [some x, none] S = .ok (.bl true) S := by
    rw [e_call2 (z_v rfl) z_k h.arg rfl, qc, sp_is_list h, decide_eq_true (by omega)]
  have e2 : Z.call n_first_not_whole (Z.cons (Z.v 0) Z.nil) [.inl 0] q [some x, none] S = .ok .non S := by
    rw [e_call1 (z_v rfl) h.arg, qc, sp_not_whole h]
  refine (q_ifF (S1 := S) ?_).trans ?_
  · rw [z_tnot, z_tval, e1]
    rfl
  refine (q_nx (s_setT e2)).trans ?_
  exact (q_ifF (S1 := S) rfl).trans rfl
theorem sp_check_marked {fa : Nat → Addr} {k : Nat} {S : Store} {x : D} {ns : List Int} (h : IsL S x ns) (hl : ns.length ≤ 12) (nd : ns.Nodup) : callD prog fa (k + 3) n_check_marked [x] S = .ok .non S := by
  generalize hq : (⟨callD prog fa (k + 2), fa, S.length⟩ : Q) = q
  have qc : q.call = callD prog fa (k + 2) := by rw [← hq]
  rw [cd_check_marked]
  refine (run_nx (fr1 := [some x, some (.t .non)]) (S1 := S) ?_).trans (by rw [List.take_length])
  rw [hq]
  show b_check_marked q [some x, none] S = _
  unfold b_check_marked
  have e1 : Z.call n_is_list_up_to (Z.cons (Z.v 0) (Z.cons (Z.k (.int 12)) Z.nil)) [.inl 0, .inl 1] q [some x, none] S = .ok (.bl true) S := by
    rw [e_call2 (z_v rfl) z_k h.arg rfl, qc, sp_is_list h, decide_eq_true (by omega)]
  have e2 : Z.call n_first_wrong_mark (Z.cons (Z.v 0) Z.nil) [.inl 0] q [some x, none] S = .ok .non S := by
    rw [e_call1 (z_v rfl) h.arg, qc, sp_wrong_mark h nd]
  refine (q_ifF (S1 := S) ?_).trans ?_
  · rw [z_tnot, z_tval, e1]
    rfl
  refine (q_nx (s_setT e2)).trans ?_
  exact (q_ifF (S1 := S) rfl).trans rfl
theorem sp_check_both {fa : Nat → Addr} {k : Nat} {S : Store} {x y : D} {ms ns : List Int} (hx : IsL S x ms) (hm : ms.length ≤ 12) (nd : ms.Nodup) (hy : IsL S y ns) (hl : ns.length ≤ 120) : callD prog fa (k + 4) n_check_both [x, y] S = .ok .non S := by
  generalize hq : (⟨callD prog fa (k + 3), fa, S.length⟩ : Q) = q
  have qc : q.call = callD prog fa (k + 3) := by rw [← hq]
  rw [cd_check_both]
  refine (run_nx (fr1 := [some x, some y]) (S1 := S) ?_).trans (by rw [List.take_length])
  rw [hq]
  show b_check_both q [some x, some y] S = _
  unfold b_check_both
  refine (q_nx (s_expr (d := .non) (S1 := S) ?_)).trans ((q_nx (s_expr (d := .non) (S1 := S) ?_)).trans rfl)
  · rw [e_call1 (z_v rfl) hx.arg, qc, sp_check_marked hx hm nd]
  · rw [e_call1 (z_v rfl) hy.arg, qc, sp_check_values hy hl]
theorem sp_up_to {fa : Nat → Addr} {k : Nat} {S : Store} {i m : Int} : callD prog fa (k + 2) n_is_whole_up_to [.t (.int i), .t (.int m)] S = .ok (.bl (decide (0 ≤ i ∧ i ≤ m))) S := by
  generalize hq : (⟨callD prog fa (k + 1), fa, S.length⟩ : Q) = q
  have qc : q.call = callD prog fa (k + 1) := by rw [← hq]
  rw [cd_is_whole_up_to]
  refine (run_Rt (d := .bl (decide (0 ≤ i ∧ i ≤ m))) (S1 := S) ?_ mv_t).trans (by rw [List.take_length])
  rw [hq]
  show Rt (b_is_whole_up_to q [some (.t (.int i)), some (.t (.int m))] S) _ _
  unfold b_is_whole_up_to
  refine rt_st (rt_ret ?_)
  rw [z_and, e_whole (v := i) qc rfl, bnd_ok]
  show R.bnd (.ok true S) _ = _
  rw [bnd_ok, if_pos rfl]
  simp only [z_ch, z_tch, z_k, z_w, List.getElem?_cons_zero, List.getElem?_cons_succ, bnd_ok, c_le]
  by_cases h : 0 ≤ i
  · rw [decide_eq_true h, if_pos rfl, bnd_ok]
    have : decide (0 ≤ i ∧ i ≤ m) = decide (i ≤ m) := by
      by_cases h2 : i ≤ m
      · rw [decide_eq_true h2, decide_eq_true ⟨h, h2⟩]
      · rw [decide_eq_false h2, decide_eq_false fun z => h2 z.2]
    rw [this]
  · rw [decide_eq_false h, if_neg (by decide), bnd_ok, decide_eq_false fun z => h z.1]
theorem sp_check_passes {fa : Nat → Addr} {k : Nat} {S : Store} {i m : Int} (h : 0 ≤ i ∧ i ≤ m) : callD prog fa (k + 3) n_check_passes [.t (.int i), .t (.int m)] S = .ok .non S := by
  generalize hq : (⟨callD prog fa (k + 2), fa, S.length⟩ : Q) = q
  have qc : q.call = callD prog fa (k + 2) := by rw [← hq]
  rw [cd_check_passes]
  refine (run_nx (fr1 := [some (.t (.int i)), some (.t (.int m))]) (S1 := S) ?_).trans (by rw [List.take_length])
  rw [hq]
  show b_check_passes q [some (.t (.int i)), some (.t (.int m))] S = _
  unfold b_check_passes
  refine (q_ifF (S1 := S) ?_).trans rfl
  rw [z_tnot, z_tval, e_call2 (z_v rfl) (z_v rfl) rfl rfl, qc, sp_up_to, decide_eq_true h]
  rfl
end Lw

set_option Elab.async false
set_option linter.all false
set_option maxRecDepth 100000
set_option maxHeartbeats 4000000
namespace Lw
open PySem PySem.Spec PyProof.Rows L2 Mi
theorem sp_drop_visited {fa : Nat → Addr} {k m i : Nat} {S : Store} {xs : List Int} (h : S[m]? = some (.lst (xs.map T.int))) (hi : i < xs.length) (hl : xs.length ≤ 1000000) : callD prog fa (k + 1) n_drop_visited [.cell m, .t (.int (i : Nat))] S = .ok .non (S.set m (.lst ((xs.eraseIdx i).map T.int))) := by
  rw [cd_drop_visited]
  have hm := (List.getElem?_eq_some_iff.mp h).1
  refine (run_nx (fr1 := [some (.cell m), some (.t (.int (i : Nat)))]) (S1 := S.set m (.lst ((xs.eraseIdx i).map T.int))) ?_).trans (by rw [List.take_of_length_le (by rw [List.length_set]; exact Nat.le_refl _)])
  show b_drop_visited _ [some (.cell m), some (.t (.int (i : Nat)))] S = _
  unfold b_drop_visited
  refine (q_nx (S1 := S.set m (.lst ((xs.eraseIdx i).map T.int))) (fr1 := [some (.cell m), some (.t (.int (i : Nat)))]) ?_).trans rfl
  rw [z_del, z_v rfl, bnd_ok, z_v rfl, bnd_ok]
  have e : Z.delD (.cell m) (.t (.int (i : Nat))) S = some (S.set m (.lst ((xs.eraseIdx i).map T.int))) := by
    unfold Z.delD
    dsimp only
    rw [h]
    dsimp only
    have ei : ixN (xs.map T.int).length ((i : Nat) : Int) = some i := by
      rw [List.length_map]
      exact ixN_at hi
    rw [ei]
    dsimp only
    rw [if_pos (by rw [List.length_map]; have : (okL : Nat) = 16000000 := rfl; omega)]
    congr 3
    exact map_erase xs i
  rw [e]
/-- what left_by does: body drops by g -/
theorem sp_left_by {fa : Nat → Addr} {k n : Nat} {S : Store} {x y : D} {ms xs : List Int} {g : List Int → Nat → List Int} (hn : n ∈ okv_2) (hg : ∀ xs p, (g xs p).length ≤ xs.length)
    (hb : ∀ {S : Store} {m i : Nat} {xs : List Int}, S[m]? = some (.lst (xs.map T.int)) → i < xs.length → xs.length ≤ 1000 → callD prog fa (k + 1) n [.cell m, .t (.int (i : Nat))] S = .ok .non (S.set m (.lst ((g xs i).map T.int))))
    (hx : IsL S x ms) (hy : IsL S y xs) (hl : xs.length ≤ 1000) : callD prog fa (k + 2) n_left_by [.t (.fn n (fa n)), x, y] S = .ok (.new ((lb g ms xs.length 0 xs).map T.int)) S := by
  generalize hq : (⟨callD prog fa (k + 1), fa, S.length⟩ : Q) = q
  have qc : q.call = callD prog fa (k + 1) := by rw [← hq]
  have qf : q.fa = fa := by rw [← hq]
  have top : ∀ zs : List Int, (S ++ [Ob.lst (zs.map T.int)])[S.length]? = some (.lst (zs.map T.int)) := fun zs => by
    rw [List.getElem?_append_right (Nat.le_refl _), Nat.sub_self]
    rfl
  have put : ∀ (zs : List Int) (o : Ob), (S ++ [Ob.lst (zs.map T.int)]).set S.length o = S ++ [o] := fun zs o => by
    rw [List.set_append_right _ _ (Nat.le_refl _), Nat.sub_self]
    rfl
  -- the loop: fuel, place, what is left
  let I : Nat × Nat × List Int → Mi.Frame → Store → Prop := fun a fr S' => fr = [some (.t (.fn n (fa n))), some x, some y, some (.cell S.length), some (.t (.int (a.2.1 : Nat)))] ∧ S' = S ++ [Ob.lst (a.2.2.map T.int)] ∧ a.2.2.length ≤ a.2.1 + a.1 ∧ a.2.2.length ≤ xs.length ∧ lb g ms a.1 a.2.1 a.2.2 = lb g ms xs.length 0 xs
  obtain ⟨p, S2, ew, fr2, zs, ep, eS2⟩ : ∃ p S2, Z.wh (t_left_by_0 q) (fun fr2 S2 => Z.cutR false (S ++ [Ob.lst (xs.map T.int)]).length (b_left_by_0 q fr2 S2)) [some (.t (.fn n (fa n))), some x, some y, some (.cell S.length), some (.t (.int 0))] (S ++ [Ob.lst (xs.map T.int)]) = .ok p S2 ∧ ∃ a, ∃ _ : Unit, p = (.nx, [some (.t (.fn n (fa n))), some x, some y, some (.cell S.length), a]) ∧ S2 = S ++ [Ob.lst ((lb g ms xs.length 0 xs).map T.int)] := by
    refine wh_ind I (fun a => a.1) (fun p S2 => ∃ a, ∃ _ : Unit, p = (.nx, [some (.t (.fn n (fa n))), some x, some y, some (.cell S.length), a]) ∧ S2 = S ++ [Ob.lst ((lb g ms xs.length 0 xs).map T.int)]) ?_ (a := (xs.length, 0, xs)) ⟨rfl, rfl, by show xs.length ≤ 0 + xs.length; omega, Nat.le_refl _, rfl⟩
    rintro ⟨f, pl, zs⟩ fr S' ⟨rfl, rfl, h1, h2, h3⟩
    have h1 : zs.length ≤ pl + f := h1
    have h2 : zs.length ≤ xs.length := h2
    have h3 : lb g ms f pl zs = lb g ms xs.length 0 xs := h3
    refine ⟨decide ((pl : Int) < (zs.length : Nat)), S ++ [Ob.lst (zs.map T.int)], ?_, fun hk => ?_, fun hk => ?_⟩
    · unfold t_left_by_0
      rw [z_tcmp, z_v rfl, bnd_ok, z_f1, z_v rfl, bnd_ok, (IsL.c (top zs)).len, bnd_ok]
      rfl
    · have hge : zs.length ≤ pl := by
        have := of_decide_eq_false hk
        omega
      refine ⟨_, (), rfl, ?_⟩
      have e : lb g ms f pl zs = zs := by
        cases f with
        | zero => rfl
        | succ f =>
          unfold lb
          rw [List.getElem?_eq_none hge]
      rw [← h3, e]
    · have hlt : pl < zs.length := by
        have := of_decide_eq_true hk
        omega
      cases f with
      | zero => omega
      | succ f =>
        have ez : zs[pl]? = some (zs[pl]) := List.getElem?_eq_getElem hlt
        generalize zs[pl] = v at ez
        have h3' : lb g ms f (pl + 1) (if ms.contains v = true then g zs pl else zs) = lb g ms xs.length 0 xs := by
          rw [← h3]
          show _ = (match zs[pl]? with
            | some v => lb g ms f (pl + 1) (if ms.contains v = true then g zs pl else zs)
            | none => zs)
          rw [ez]
        have ht : Z.tcmp .in_ (Z.ix (Z.v 3) (Z.v 4)) (Z.v 1) q [some (.t (.fn n (fa n))), some x, some y, some (.cell S.length), some (.t (.int (pl : Nat)))] (S ++ [Ob.lst (zs.map T.int)]) = .ok (ms.contains v) (S ++ [Ob.lst (zs.map T.int)]) := by
          rw [z_tcmp, z_ix, z_v rfl, bnd_ok, z_v rfl, bnd_ok]
          rw [i_cell (x := .int v) (rd_of (top zs)) (by rw [List.length_map]; exact ixN_at hlt) (by rw [List.getElem?_map, ez]; rfl), bnd_ok, z_v rfl, bnd_ok]
          exact c_inI hx.app.sq
        have hcall : Z.expr (Z.callv 0 okv_2 (Z.cons (Z.v 3) (Z.cons (Z.v 4) Z.nil)) [.inl 0, .inl 1]) q [some (.t (.fn n (fa n))), some x, some y, some (.cell S.length), some (.t (.int (pl : Nat)))] (S ++ [Ob.lst (zs.map T.int)]) = .ok (.nx, [some (.t (.fn n (fa n))), some x, some y, some (.cell S.length), some (.t (.int (pl : Nat)))]) (S ++ [Ob.lst ((g zs pl).map T.int)]) := by
          refine s_expr (d := .non) ?_
          show (if fa n = q.fa n ∧ n ∈ okv_2 then _ else _) = _
          rw [if_pos ⟨by rw [qf], hn⟩, z_cons, z_v rfl, bnd_ok, z_cons, z_v rfl, bnd_ok, z_nil, bnd_ok, bnd_ok, bnd_ok]
          rw [callA_id (mapO2 rfl rfl) rfl, qc, hb (top zs) hlt (by omega), put]
        have hstep : b_left_by_0 q [some (.t (.fn n (fa n))), some x, some y, some (.cell S.length), some (.t (.int (pl : Nat)))] (S ++ [Ob.lst (zs.map T.int)]) = .ok (.nx, [some (.t (.fn n (fa n))), some x, some y, some (.cell S.length), some (.t (.int ((pl + 1 : Nat))))]) (S ++ [Ob.lst ((if ms.contains v = true then g zs pl else zs).map T.int)]) := by
          unfold b_left_by_0
          cases hc : ms.contains v with
          | true =>
            rw [hc] at ht
            refine (q_nx ((s_ifT ht).trans ((q_nx hcall).trans rfl))).trans ?_
            exact (q_nx (s_augI rfl rfl)).trans rfl
          | false =>
            rw [hc] at ht
            refine (q_ifF ht).trans ?_
            exact (q_nx (s_augI rfl rfl)).trans rfl
        refine ⟨.nx, _, _, cut_f hstep, .inl ⟨.inl rfl, (f, pl + 1, if ms.contains v = true then g zs pl else zs), Nat.lt_succ_self f, rfl, rfl, ?_, ?_, h3'⟩⟩
        · show (if ms.contains v = true then g zs pl else zs).length ≤ pl + 1 + f
          have := hg zs pl
          split <;> omega
        · show (if ms.contains v = true then g zs pl else zs).length ≤ xs.length
          have := hg zs pl
          split <;> omega
  subst ep
  subst eS2
  rw [cd_left_by]
  refine (run_Rt (d := .cell S.length) (e := .new ((lb g ms xs.length 0 xs).map T.int)) (S1 := S ++ [Ob.lst ((lb g ms xs.length 0 xs).map T.int)]) ?_ (mv_cell (Nat.le_refl _) (top _))).trans (by rw [List.take_append_of_le_length (Nat.le_refl _), List.take_length])
  rw [hq]
  show Rt (b_left_by q [some (.t (.fn n (fa n))), some x, some y, none, none] S) _ _
  unfold b_left_by
  refine rt_nx (s_setM (xs := xs.map T.int) (S1 := S) ?_) ?_
  · rw [z_f1, z_v rfl, bnd_ok]
    show listD y S = _
    unfold listD
    rw [hy.sq]
  refine rt_nx (s_setT (x := .int 0) (S1 := S ++ [Ob.lst (xs.map T.int)]) rfl) ?_
  refine rt_nx (fr1 := [some (.t (.fn n (fa n))), some x, some y, some (.cell S.length), fr2]) (S1 := S ++ [Ob.lst ((lb g ms xs.length 0 xs).map T.int)]) ?_ (rt_st (rt_ret rfl))
  exact z_whs.trans ew
theorem sp_left_visited {fa : Nat → Addr} {k : Nat} {S : Store} {x y : D} {ms xs : List Int} (hv : n_drop_visited ∈ okv_2) (hx : IsL S x ms) (hy : IsL S y xs) (hl : xs.length ≤ 1000) : callD prog fa (k + 2) n_left_by [.t (.fn n_drop_visited (fa n_drop_visited)), x, y] S = .ok (.new ((pass ms xs).map T.int)) S :=
  sp_left_by (g := fun zs i => zs.eraseIdx i) hv erase_le (fun h1 h2 h3 => sp_drop_visited h1 h2 (by omega)) hx hy hl
theorem sp_after_passes {fa : Nat → Addr} {k : Nat} {S : Store} {x y : D} {ms xs : List Int} {t : Int} (hv : n_drop_visited ∈ okv_2) (hx : IsL S x ms) (hm : ms.length ≤ 12) (nd : ms.Nodup) (hy : IsL S y xs) (hl : xs.length ≤ 120) (ht : 0 ≤ t ∧ t ≤ 8) : callD prog fa (k + 5) n_after_passes [x, y, .t (.int t)] S = .ok (.t (.lst ((passN ms t.toNat xs).map T.int))) S := by
  generalize hq : (⟨callD prog fa (k + 4), fa, S.length⟩ : Q) = q
  have qc : q.call = callD prog fa (k + 4) := by rw [← hq]
  have qf : q.fa = fa := by rw [← hq]
  let I : Nat → Mi.Frame → Store → Prop := fun i fr S' => ∃ a : Option D, fr = [some x, some y, some (.t (.int t)), some (.t (.lst ((passN ms i xs).map T.int))), a] ∧ S' = S
  have loop : ∃ fr2 S2, Z.forL (.nm 4) (fun fr2 S2 => Z.cutR false S.length (b_after_passes_0 q fr2 S2)) ((List.range t.toNat).map fun k : Nat => .int (k : Int)) [some x, some y, some (.t (.int t)), some (.t (.lst (xs.map T.int))), none] S = .ok (.nx, fr2) S2 ∧ I ((List.range t.toNat).map fun k : Nat => D.int (k : Int)).length fr2 S2 := by
    refine for_ind I ?_ ⟨_, rfl, rfl⟩
    rintro i d fr S' hd ⟨a, rfl, rfl⟩
    obtain ⟨hi, rfl⟩ := range_at hd
    refine ⟨_, rfl, .nx, [some x, some y, some (.t (.int t)), some (.t (.lst ((passN ms (i + 1) xs).map T.int))), some (.int i)], S', cut_f ?_, .inl rfl, _, rfl, rfl⟩
    unfold b_after_passes_0
    refine (q_nx (s_setF (xs := (passN ms (i + 1) xs).map T.int) (S1 := S') ?_)).trans rfl
    rw [e_call3 z_g (z_v rfl) (z_v rfl) rfl hx.arg rfl, qc, qf]
    exact sp_left_visited (k := k + 2) hv hx .t (by have := passN_le ms i xs; omega)
  obtain ⟨fr2, S2, hl2, a, rfl, rfl⟩ := loop
  rw [List.length_map, List.length_range] at hl2
  rw [cd_after_passes]
  refine (run_Rt (S1 := S2) ?_ mv_t).trans (by rw [List.take_length])
  rw [hq]
  show Rt (b_after_passes q [some x, some y, some (.t (.int t)), none, none] S2) _ _
  unfold b_after_passes
  refine rt_nx (s_expr (d := .non) (S1 := S2) ?_) ?_
  · rw [e_call2 (z_v rfl) (z_v rfl) hx.arg hy.arg, qc, sp_check_both hx hm nd hy hl]
  refine rt_nx (s_expr (d := .non) (S1 := S2) ?_) ?_
  · rw [e_call2 (z_v rfl) z_k rfl rfl, qc]
    exact sp_check_passes (k := k + 1) ht
  refine rt_nx (s_setF (xs := xs.map T.int) (S1 := S2) ?_) ?_
  · rw [z_f1, z_v rfl, bnd_ok]
    show listD y S2 = _
    unfold listD
    rw [hy.sq]
  exact rt_nx (s_forF (i_range (n := t) (S1 := S2) (z_v rfl) ⟨ht.1, by omega⟩) hl2) (rt_st (rt_ret rfl))
end Lw

set_option Elab.async false
set_option linter.all false
set_option maxRecDepth 100000
set_option maxHeartbeats 4000000
namespace Lw
open PySem PySem.Spec PyProof.Rows L2 Mi
/-! the lists from which a list comes -/
def stayN (ms xs : List Int) : Nat := (xs.filter fun v => ms.contains v).length
def gon (ms : List Int) (v : Int) : List (List Int) := if ms.contains v = true then ms.map fun m => [m] else [] :: ms.map fun m => [m]
def stepB (ms : List Int) (B : List (List Int)) (v : Int) : List (List Int) := B.flatMap fun row => (gon ms v).map fun gone => row ++ gone ++ [v]
def begB (ms xs : List Int) : List (List Int) := xs.foldl (stepB ms) [[]]
def endB (ms : List Int) : List (List Int) := [] :: ms.map fun m => [m]
def bef (ms xs : List Int) : List (List Int) := (begB ms xs).flatMap fun row => (endB ms).map fun gone => row ++ gone
/-- a weight: A for each marked value, C for each other -/
def wt (ms : List Int) (A C : Nat) : List Int → Nat
  | [] => 1
  | v :: xs => (if ms.contains v = true then A else C) * wt ms A C xs
def geo (k m : Nat) : Nat := ((List.range m).map fun j => k ^ j).sum
def num (ms xs : List Int) (p : Nat) : Nat := ms.length ^ ((2 ^ p - 1) * stayN ms xs) * geo ms.length (2 ^ p) ^ (xs.length - stayN ms xs + 1)
theorem stay_le (ms xs : List Int) : stayN ms xs ≤ xs.length := List.length_filter_le _ _
theorem wt_app {ms : List Int} {A C : Nat} : ∀ x y : List Int, wt ms A C (x ++ y) = wt ms A C x * wt ms A C y
  | [], y => (Nat.one_mul _).symm
  | v :: x, y => by
    show _ * wt ms A C (x ++ y) = _ * wt ms A C x * _
    rw [wt_app x y, Nat.mul_assoc]
theorem wt_pow {ms : List Int} {A C : Nat} : ∀ xs : List Int, wt ms A C xs = A ^ stayN ms xs * C ^ (xs.length - stayN ms xs)
  | [] => rfl
  | v :: xs => by
    have h := stay_le ms xs
    unfold wt
    rw [wt_pow xs]
    cases hc : ms.contains v with
    | true =>
      have e : stayN ms (v :: xs) = stayN ms xs + 1 := by
        unfold stayN
        rw [List.filter_cons_of_pos (by exact hc), List.length_cons]
      rw [if_pos rfl, e, List.length_cons, show xs.length + 1 - (stayN ms xs + 1) = xs.length - stayN ms xs by omega, Nat.pow_succ, ← Nat.mul_assoc, Nat.mul_comm A]
    | false =>
      have e : stayN ms (v :: xs) = stayN ms xs := by
        unfold stayN
        rw [List.filter_cons_of_neg (by rw [hc]; exact Bool.false_ne_true)]
      rw [if_neg Bool.false_ne_true, e, List.length_cons, show xs.length + 1 - stayN ms xs = xs.length - stayN ms xs + 1 by omega, Nat.pow_succ, Nat.mul_left_comm, Nat.mul_comm C]
theorem num_wt (ms xs : List Int) (p : Nat) : num ms xs p = wt ms (ms.length ^ (2 ^ p - 1)) (geo ms.length (2 ^ p)) xs * geo ms.length (2 ^ p) := by
  unfold num
  rw [wt_pow, Nat.pow_mul, Nat.pow_succ, Nat.mul_assoc]
theorem sum_flat {α : Type} (f : α → List (List Int)) (w : List Int → Nat) : ∀ B : List α, ((B.flatMap f).map w).sum = (B.map fun b => ((f b).map w).sum).sum
  | [] => rfl
  | b :: B => by
    rw [List.flatMap_cons, List.map_append, List.sum_append, sum_flat f w B, List.map_cons, List.sum_cons]
theorem sum_mul {α : Type} (f : α → Nat) (c : Nat) : ∀ B : List α, (B.map fun b => c * f b).sum = c * (B.map f).sum
  | [] => rfl
  | b :: B => by
    rw [List.map_cons, List.sum_cons, sum_mul f c B, List.map_cons, List.sum_cons, Nat.mul_add]
theorem sum_mulR {α : Type} (f : α → Nat) (c : Nat) (B : List α) : (B.map fun b => f b * c).sum = (B.map f).sum * c := by
  rw [Nat.mul_comm, ← sum_mul]
  congr 1
  exact List.map_congr_left fun b _ => Nat.mul_comm _ _
theorem sum_one {α : Type} : ∀ B : List α, (B.map fun _ => 1).sum = B.length
  | [] => rfl
  | b :: B => by
    rw [List.map_cons, List.sum_cons, sum_one B, List.length_cons, Nat.add_comm]
theorem sum_single {ms : List Int} {A C : Nat} : ∀ l : List Int, (∀ m ∈ l, m ∈ ms) → ((l.map fun m => [m]).map (wt ms A C)).sum = l.length * A
  | [], _ => (Nat.zero_mul A).symm
  | m :: l, h => by
    rw [List.map_cons, List.map_cons, List.sum_cons, sum_single l fun x hx => h x (List.mem_cons_of_mem _ hx), List.length_cons, Nat.add_mul, Nat.one_mul, Nat.add_comm]
    congr 1
    unfold wt wt
    rw [if_pos (List.contains_iff_mem.mpr (h m List.mem_cons_self)), Nat.mul_one]
theorem sum_endB {ms : List Int} {A C : Nat} : ((endB ms).map (wt ms A C)).sum = 1 + ms.length * A := by
  unfold endB
  rw [List.map_cons, List.sum_cons, sum_single ms fun _ h => h]
  rfl
theorem sum_stepB {ms : List Int} {A C : Nat} (B : List (List Int)) (v : Int) : ((stepB ms B v).map (wt ms A C)).sum = (B.map (wt ms A C)).sum * (if ms.contains v = true then ms.length * A * A else (1 + ms.length * A) * C) := by
  unfold stepB
  rw [sum_flat, ← sum_mulR]
  congr 1
  refine List.map_congr_left fun row _ => ?_
  have e : (((gon ms v).map fun gone => row ++ gone ++ [v]).map (wt ms A C)) = (gon ms v).map fun gone => wt ms A C row * (wt ms A C gone * wt ms A C [v]) := by
    rw [List.map_map]
    refine List.map_congr_left fun g _ => ?_
    show wt ms A C (row ++ g ++ [v]) = _
    rw [wt_app, wt_app, Nat.mul_assoc]
  rw [e, sum_mul, sum_mulR]
  congr 1
  have e2 : wt ms A C [v] = if ms.contains v = true then A else C := by
    unfold wt wt
    rw [Nat.mul_one]
  rw [e2]
  unfold gon
  cases hc : ms.contains v with
  | true =>
    rw [if_pos rfl, if_pos rfl, if_pos rfl]
    rw [sum_single ms fun _ h => h]
  | false =>
    rw [if_neg Bool.false_ne_true, if_neg Bool.false_ne_true, if_neg Bool.false_ne_true, List.map_cons, List.sum_cons, sum_single ms fun _ h => h]
    rfl
theorem sum_foldB {ms : List Int} {A C : Nat} : ∀ (xs : List Int) (B : List (List Int)), ((xs.foldl (stepB ms) B).map (wt ms A C)).sum = (B.map (wt ms A C)).sum * wt ms (ms.length * A * A) ((1 + ms.length * A) * C) xs
  | [], B => (Nat.mul_one _).symm
  | v :: xs, B => by
    rw [List.foldl_cons, sum_foldB xs, sum_stepB, Nat.mul_assoc]
    rfl
theorem sum_begB {ms xs : List Int} {A C : Nat} : ((begB ms xs).map (wt ms A C)).sum = wt ms (ms.length * A * A) ((1 + ms.length * A) * C) xs := by
  unfold begB
  rw [sum_foldB]
  exact Nat.one_mul _
theorem sum_bef {ms xs : List Int} {A C : Nat} : ((bef ms xs).map (wt ms A C)).sum = wt ms (ms.length * A * A) ((1 + ms.length * A) * C) xs * (1 + ms.length * A) := by
  unfold bef
  rw [sum_flat, ← sum_begB, ← sum_mulR]
  congr 1
  refine List.map_congr_left fun row _ => ?_
  have e : (((endB ms).map fun gone => row ++ gone).map (wt ms A C)) = (endB ms).map fun gone => wt ms A C row * wt ms A C gone := by
    rw [List.map_map]
    exact List.map_congr_left fun g _ => wt_app row g
  rw [e, sum_mul, sum_endB]
theorem wt_one {ms : List Int} : ∀ xs : List Int, wt ms 1 1 xs = 1
  | [] => rfl
  | v :: xs => by
    unfold wt
    rw [wt_one xs, ite_self]
theorem len_wt (ms : List Int) (B : List (List Int)) : (B.map (wt ms 1 1)).sum = B.length := by
  rw [← sum_one B]
  congr 1
  exact List.map_congr_left fun b _ => wt_one b
theorem geo1 (k : Nat) : geo k 1 = 1 := rfl
theorem geo2 (k : Nat) : geo k 2 = 1 + k := by
  show 1 + (k ^ 1 + 0) = 1 + k
  rw [Nat.pow_one, Nat.add_zero]
theorem geo4 (k : Nat) : geo k 4 = (1 + k * k) * (1 + k) := by
  show 1 + (k ^ 1 + (k ^ 2 + (k ^ 3 + 0))) = _
  have h2 : k ^ 2 = k * k := Nat.pow_two k
  have h3 : k ^ 3 = k * k * k := by rw [Nat.pow_succ, h2]
  rw [Nat.pow_one, h2, h3, Nat.add_mul, Nat.one_mul, Nat.mul_add, Nat.mul_one]
  omega
theorem begB_len (ms xs : List Int) : (begB ms xs).length = wt ms ms.length (1 + ms.length) xs := by
  rw [← len_wt ms, sum_begB, Nat.mul_one, Nat.mul_one, Nat.mul_one]
theorem bef_len (ms xs : List Int) : (bef ms xs).length = num ms xs 1 := by
  rw [← len_wt ms, sum_bef, num_wt, Nat.mul_one, Nat.mul_one, Nat.mul_one]
  show _ = wt ms (ms.length ^ 1) (geo ms.length 2) xs * geo ms.length 2
  rw [geo2, Nat.pow_one]
theorem num0 (ms xs : List Int) : num ms xs 0 = 1 := by
  rw [num_wt]
  show wt ms (ms.length ^ 0) 1 xs * 1 = 1
  rw [Nat.pow_zero, wt_one]
theorem sum_num1 (ms xs : List Int) : ((bef ms xs).map fun b => num ms b 1).sum = num ms xs 2 := by
  have e : ((bef ms xs).map fun b => num ms b 1) = (bef ms xs).map fun b => wt ms ms.length (1 + ms.length) b * (1 + ms.length) := List.map_congr_left fun b _ => by
    rw [num_wt]
    show wt ms (ms.length ^ 1) (geo ms.length 2) b * geo ms.length 2 = _
    rw [geo2, Nat.pow_one]
  rw [e, sum_mulR, sum_bef, num_wt]
  show _ = wt ms (ms.length ^ 3) (geo ms.length 4) xs * geo ms.length 4
  rw [geo4, Nat.pow_succ, Nat.pow_two, Nat.mul_assoc]
theorem sum_num (ms xs : List Int) {p : Nat} (hp : p = 1 ∨ p = 2) : ((bef ms xs).map fun b => num ms b (p - 1)).sum = num ms xs p := by
  rcases hp with rfl | rfl
  · rw [show ((bef ms xs).map fun b => num ms b (1 - 1)) = (bef ms xs).map fun _ => 1 from List.map_congr_left fun b _ => num0 ms b, sum_one, bef_len]
  · exact sum_num1 ms xs
/-- no step has fewer of them -/
theorem wt_take {ms : List Int} : ∀ (xs : List Int) (i : Nat), wt ms ms.length (1 + ms.length) (xs.take i) ≤ wt ms ms.length (1 + ms.length) xs ∧ 1 ≤ wt ms ms.length (1 + ms.length) xs
  | [], i => by
    rw [List.take_nil]
    exact ⟨Nat.le_refl _, Nat.le_refl _⟩
  | v :: xs, i => by
    have f1 : 1 ≤ (if ms.contains v = true then ms.length else 1 + ms.length) := by
      split
      · rename_i h
        exact List.length_pos_of_mem (List.contains_iff_mem.mp h)
      · omega
    have p1 : 1 ≤ wt ms ms.length (1 + ms.length) (v :: xs) := Nat.mul_le_mul f1 (wt_take xs 0).2
    refine ⟨?_, p1⟩
    cases i with
    | zero => exact p1
    | succ i => exact Nat.mul_le_mul_left _ (wt_take xs i).1
theorem begB_take (ms xs : List Int) (i : Nat) : (begB ms (xs.take i)).length ≤ num ms xs 1 := by
  rw [begB_len, ← bef_len, ← len_wt ms, sum_bef, Nat.mul_one, Nat.mul_one, Nat.mul_one]
  have h := (wt_take (ms := ms) xs i).1
  exact Nat.le_trans h (Nat.le_mul_of_pos_right _ (by omega))
/-! each of them leads to it -/
theorem lv_off {ms : List Int} {v : Int} (h : ms.contains v = false) (r : List Int) : lv ms (v :: r) = v :: lv ms r := by
  cases r with
  | nil =>
    unfold lv
    rw [h]
    rfl
  | cons w r =>
    conv => lhs; unfold lv
    rw [h]
    rfl
theorem lv_on {ms : List Int} {m v : Int} (h : ms.contains m = true) (r : List Int) : lv ms (m :: v :: r) = v :: lv ms r := by
  conv => lhs; unfold lv
  rw [if_pos h]
theorem lv_step {ms g : List Int} {v : Int} (hg : g ∈ gon ms v) (r : List Int) : lv ms (g ++ v :: r) = v :: lv ms r := by
  have sg : ∀ g ∈ ms.map fun m => [m], lv ms (g ++ v :: r) = v :: lv ms r := fun g hg => by
    obtain ⟨m, hm, rfl⟩ := List.mem_map.mp hg
    exact lv_on (List.contains_iff_mem.mpr hm) r
  unfold gon at hg
  cases hc : ms.contains v with
  | true =>
    rw [if_pos hc] at hg
    exact sg g hg
  | false =>
    rw [if_neg (by rw [hc]; exact Bool.false_ne_true)] at hg
    rcases List.mem_cons.mp hg with rfl | hg
    · exact lv_off hc r
    · exact sg g hg
theorem beg_lv {ms : List Int} : ∀ (xs : List Int) (B : List (List Int)), ∀ b ∈ xs.foldl (stepB ms) B, ∃ b0 ∈ B, ∃ t, b = b0 ++ t ∧ t.length ≤ 2 * xs.length ∧ (∀ v ∈ t, v ∈ xs ∨ v ∈ ms) ∧ ∀ r, lv ms (t ++ r) = xs ++ lv ms r
  | [], B, b, h => ⟨b, h, [], (List.append_nil b).symm, Nat.le_refl _, (fun v hv => by cases hv), fun r => rfl⟩
  | v :: xs, B, b, h => by
    rw [List.foldl_cons] at h
    obtain ⟨b1, h1, t, rfl, h2, h3, h4⟩ := beg_lv xs (stepB ms B v) b h
    unfold stepB at h1
    obtain ⟨b0, h5, h6⟩ := List.mem_flatMap.mp h1
    obtain ⟨g, h7, rfl⟩ := List.mem_map.mp h6
    have gl : g.length ≤ 1 ∧ ∀ w ∈ g, w ∈ ms := by
      have sg : ∀ g ∈ ms.map fun m => [m], g.length ≤ 1 ∧ ∀ w ∈ g, w ∈ ms := fun g hg => by
        obtain ⟨m, hm, rfl⟩ := List.mem_map.mp hg
        exact ⟨Nat.le_refl _, fun w hw => by rw [List.mem_singleton.mp hw]; exact hm⟩
      unfold gon at h7
      split at h7
      · exact sg g h7
      · rcases List.mem_cons.mp h7 with rfl | h7
        · exact ⟨Nat.zero_le _, fun w hw => by cases hw⟩
        · exact sg g h7
    refine ⟨b0, h5, g ++ [v] ++ t, by rw [List.append_assoc, List.append_assoc, List.append_assoc], ?_, fun w hw => ?_, fun r => ?_⟩
    · rw [List.length_append, List.length_append, List.length_singleton, List.length_cons]
      have := gl.1
      omega
    · rcases List.mem_append.mp hw with hw | hw
      · rcases List.mem_append.mp hw with hw | hw
        · exact .inr (gl.2 w hw)
        · rw [List.mem_singleton.mp hw]
          exact .inl List.mem_cons_self
      · rcases h3 w hw with z | z
        · exact .inl (List.mem_cons_of_mem _ z)
        · exact .inr z
    · rw [List.append_assoc, List.append_assoc]
      show lv ms (g ++ (v :: (t ++ r))) = _
      rw [lv_step h7, h4 r]
      rfl
theorem bef_all {ms xs b : List Int} (h : b ∈ bef ms xs) : pass ms b = xs ∧ b.length ≤ 2 * xs.length + 1 ∧ ∀ v ∈ b, v ∈ xs ∨ v ∈ ms := by
  unfold bef at h
  obtain ⟨row, h1, h2⟩ := List.mem_flatMap.mp h
  obtain ⟨e, h3, rfl⟩ := List.mem_map.mp h2
  obtain ⟨b0, h4, t, rfl, h5, h6, h7⟩ := beg_lv xs [[]] row h1
  rw [List.mem_singleton.mp h4, List.nil_append]
  unfold endB at h3
  rcases List.mem_cons.mp h3 with rfl | h3
  · refine ⟨?_, ?_, fun v hv => ?_⟩
    · rw [pass_lv, h7 []]
      exact List.append_nil xs
    · rw [List.append_nil]
      omega
    · rw [List.append_nil] at hv
      exact h6 v hv
  · obtain ⟨m, hm, rfl⟩ := List.mem_map.mp h3
    refine ⟨?_, ?_, fun v hv => ?_⟩
    · rw [pass_lv, h7 [m]]
      have e : lv ms [m] = [] := by
        unfold lv
        rw [if_pos (List.contains_iff_mem.mpr hm)]
      rw [e, List.append_nil]
    · rw [List.length_append, List.length_singleton]
      omega
    · rcases List.mem_append.mp hv with hv | hv
      · exact h6 v hv
      · rw [List.mem_singleton.mp hv]
        exact .inr hm
end Lw

set_option Elab.async false
set_option linter.all false
set_option maxRecDepth 100000
set_option maxHeartbeats 4000000
namespace Lw
open PySem PySem.Spec PyProof.Rows L2 Mi
theorem sp_gone {fa : Nat → Addr} {k p : Nat} {S : Store} (hp : p ≤ 8) : callD prog fa (k + 1) n_longest_gone [.t (.int (p : Nat))] S = .ok (.t (.int ((2 ^ p : Nat) - 1))) S := by
  rw [cd_longest_gone]
  refine (run_Rt (d := .t (.int ((2 ^ p : Nat) - 1))) (S1 := S) ?_ mv_t).trans (by rw [List.take_length])
  show Rt (b_longest_gone _ [some (.t (.int (p : Nat)))] S) _ _
  unfold b_longest_gone
  refine rt_st (rt_ret (e_bin (x := .t (.int ((2 ^ p : Nat)))) (S1 := S) (e_bin (x := .t (.int 1)) (y := .t (.int (p : Nat))) (S1 := S) z_k rfl ?_) z_k b_sub))
  show (if 0 ≤ ((p : Nat) : Int) ∧ ((p : Nat) : Int) ≤ 1000000 ∧ (1 : Int).natAbs < 2 ^ 64 then R.ok (D.t (.int ((1 : Int) * 2 ^ ((p : Nat) : Int).toNat))) S else R.no) = _
  rw [if_pos ⟨by omega, by omega, by decide⟩, Int.one_mul, Int.toNat_natCast, Int.natCast_pow]
  rfl
theorem lg_le {n m : Nat} (h : n ≤ 2 ^ m) : n.log2 ≤ m := by
  by_cases h0 : n = 0
  · rw [h0]
    exact Nat.zero_le _
  · have h2 : n < 2 ^ (m + 1) := Nat.lt_of_le_of_lt h (Nat.pow_lt_pow_right (by decide) (Nat.lt_succ_self m))
    exact Nat.lt_succ_iff.mp ((Nat.log2_lt h0).mpr h2)
theorem lg_pow {b c e : Nat} (h : b ≤ 2 ^ c) : (b ^ e).log2 ≤ c * e := lg_le (by rw [Nat.pow_mul]; exact Nat.pow_le_pow_left h e)
theorem s_augM {q : Q} {fr : Mi.Frame} {S S1 : Store} {a : XE} {i : Nat} {m j : Int} (h0 : fr[i]? = some (some (.t (.int m)))) (h : a q fr S = .ok (.t (.int j)) S1) (hj : -2 ^ 64 < j ∧ j < 2 ^ 64) : Z.aug i .mul a q fr S = .ok (.nx, fr.set i (some (.int (m * j)))) S1 := by
  rw [z_aug h0, h]
  show (match Z.augI .mul m j with
    | some z => R.ok (Fl.nx, fr.set i (some (D.int z))) S1
    | none => R.no) = _
  rw [show Z.augI .mul m j = some (m * j) from if_pos (.inl (.inr hj))]
theorem sp_power {fa : Nat → Addr} {k b e : Nat} {S : Store} (hb : b < 2 ^ 64) (he : e ≤ 1000000) : callD prog fa (k + 1) n_power [.t (.int (b : Nat)), .t (.int (e : Nat))] S = .ok (.t (.int ((b ^ e : Nat) : Int))) S := by
  generalize hq : (⟨callD prog fa k, fa, S.length⟩ : Q) = q
  let F (a2 : Int) (a3 : Option D) : Mi.Frame := [some (.t (.int (b : Nat))), some (.t (.int (e : Nat))), some (.int a2), a3]
  let I : Nat → Mi.Frame → Store → Prop := fun i fr S' => (∃ a3, fr = F ((b ^ i : Nat) : Int) a3) ∧ S' = S
  obtain ⟨fr2, S2, el, ⟨b3, rfl⟩, rfl⟩ : ∃ fr2 S2, Z.forL (.nm 3) (fun fr2 S2 => Z.cutR false S.length (b_power_0 q fr2 S2)) ((List.range ((e : Nat) : Int).toNat).map fun k : Nat => .int (k : Int)) (F 1 none) S = .ok (.nx, fr2) S2 ∧ I ((List.range ((e : Nat) : Int).toNat).map fun k : Nat => D.int (k : Int)).length fr2 S2 := by
    refine for_ind I ?_ ⟨⟨_, rfl⟩, rfl⟩
    rintro i dd fr S' hi ⟨⟨a3, rfl⟩, rfl⟩
    obtain ⟨hj, rfl⟩ := range_at hi
    refine ⟨_, rfl, .nx, F ((b ^ (i + 1) : Nat) : Int) (some (.int (i : Nat))), S', cut_f ?_, .inl rfl, ⟨_, rfl⟩, rfl⟩
    show b_power_0 q (F ((b ^ i : Nat) : Int) (some (.int (i : Nat)))) S' = _
    unfold b_power_0
    refine (q_nx (s_augM (j := (b : Nat)) rfl (z_v rfl) (by omega))).trans ?_
    rw [Nat.pow_succ, Int.natCast_mul]
    rfl
  rw [List.length_map, List.length_range, Int.toNat_natCast] at el
  rw [cd_power]
  refine (run_Rt (d := .t (.int ((b ^ e : Nat) : Int))) (S1 := S2) ?_ mv_t).trans (by rw [List.take_length])
  rw [hq]
  show Rt (b_power q [some (.t (.int (b : Nat))), some (.t (.int (e : Nat))), none, none] S2) _ _
  unfold b_power
  exact rt_nx (fr1 := F 1 none) (S1 := S2) rfl (rt_nx (s_forF (S1 := S2) (items := (List.range ((e : Nat) : Int).toNat).map fun k : Nat => .int (k : Int)) (i_range (z_v rfl) (by omega)) el) (rt_st (rt_ret (z_v rfl))))
theorem sp_l_power {fa : Nat → Addr} {k b e : Nat} {S : Store} (hb : b < 2 ^ 64) (he : e ≤ 1000000) : callD prog fa (k + 1) n_l_power [.t (.int (b : Nat)), .t (.int (e : Nat))] S = .ok (.t (.int ((b ^ e : Nat) : Int))) S := by
  generalize hq : (⟨callD prog fa k, fa, S.length⟩ : Q) = q
  let F (a2 : Int) (a3 : Option D) : Mi.Frame := [some (.t (.int (b : Nat))), some (.t (.int (e : Nat))), some (.int a2), a3]
  let I : Nat → Mi.Frame → Store → Prop := fun i fr S' => (∃ a3, fr = F ((b ^ i : Nat) : Int) a3) ∧ S' = S
  obtain ⟨fr2, S2, el, ⟨b3, rfl⟩, rfl⟩ : ∃ fr2 S2, Z.forL (.nm 3) (fun fr2 S2 => Z.cutR false S.length (b_l_power_0 q fr2 S2)) ((List.range ((e : Nat) : Int).toNat).map fun k : Nat => .int (k : Int)) (F 1 none) S = .ok (.nx, fr2) S2 ∧ I ((List.range ((e : Nat) : Int).toNat).map fun k : Nat => D.int (k : Int)).length fr2 S2 := by
    refine for_ind I ?_ ⟨⟨_, rfl⟩, rfl⟩
    rintro i dd fr S' hi ⟨⟨a3, rfl⟩, rfl⟩
    obtain ⟨hj, rfl⟩ := range_at hi
    refine ⟨_, rfl, .nx, F ((b ^ (i + 1) : Nat) : Int) (some (.int (i : Nat))), S', cut_f ?_, .inl rfl, ⟨_, rfl⟩, rfl⟩
    show b_l_power_0 q (F ((b ^ i : Nat) : Int) (some (.int (i : Nat)))) S' = _
    unfold b_l_power_0
    refine (q_nx (s_setT (x := .int (((b ^ i : Nat) : Int) * (b : Nat))) (S1 := S') (e_bin (x := .t (.int ((b ^ i : Nat) : Int))) (y := .t (.int (b : Nat))) (S1 := S') (z_v rfl) (z_v rfl) (b_mulR (by omega))))).trans ?_
    rw [Nat.pow_succ, Int.natCast_mul]
    rfl
  rw [List.length_map, List.length_range, Int.toNat_natCast] at el
  rw [cd_l_power]
  refine (run_Rt (d := .t (.int ((b ^ e : Nat) : Int))) (S1 := S2) ?_ mv_t).trans (by rw [List.take_length])
  rw [hq]
  show Rt (b_l_power q [some (.t (.int (b : Nat))), some (.t (.int (e : Nat))), none, none] S2) _ _
  unfold b_l_power
  exact rt_nx (fr1 := F 1 none) (S1 := S2) rfl (rt_nx (s_forF (S1 := S2) (items := (List.range ((e : Nat) : Int).toNat).map fun k : Nat => .int (k : Int)) (i_range (z_v rfl) (by omega)) el) (rt_st (rt_ret (z_v rfl))))
theorem geo_lt : ∀ k < 13, ∀ p < 5, geo k (2 ^ p) < 2 ^ 64 := by decide +kernel
theorem cast_sum : ∀ l : List Nat, ((l.sum : Nat) : Int) = (l.map fun n : Nat => (n : Int)).sum
  | [] => rfl
  | n :: l => by
    rw [List.sum_cons, Int.natCast_add, cast_sum l, List.map_cons, List.sum_cons]
/-- the two powers, multiplied -/
theorem b_num {ms xs : List Int} {p : Nat} {S : Store} (hm : ms.length ≤ 12) (hl : xs.length ≤ 120) (hp : p ≤ 4) : bop .mul (.t (.int ((ms.length ^ ((2 ^ p - 1) * stayN ms xs) : Nat) : Int))) (.t (.int ((geo ms.length (2 ^ p) ^ (xs.length - stayN ms xs + 1) : Nat) : Int))) S = .ok (.t (.int ((num ms xs p : Nat) : Int))) S := by
  have h1 : (ms.length ^ ((2 ^ p - 1) * stayN ms xs)).log2 ≤ 4 * ((2 ^ p - 1) * stayN ms xs) := lg_pow (by omega)
  have hg := geo_lt ms.length (by omega) p (by omega)
  have h2 : (geo ms.length (2 ^ p) ^ (xs.length - stayN ms xs + 1)).log2 ≤ 64 * (xs.length - stayN ms xs + 1) := lg_pow (Nat.le_of_lt hg)
  have hs := stay_le ms xs
  have h3 : 2 ^ p ≤ 16 := Nat.le_trans (Nat.pow_le_pow_right (by decide) hp) (by decide)
  have h4 : (2 ^ p - 1) * stayN ms xs ≤ 15 * 120 := Nat.mul_le_mul (by omega) (by omega)
  refine (b_mul (.inr ?_)).trans ?_
  · show (((ms.length ^ ((2 ^ p - 1) * stayN ms xs) : Nat) : Int).natAbs).log2 + (((geo ms.length (2 ^ p) ^ (xs.length - stayN ms xs + 1) : Nat) : Int).natAbs).log2 < 1000000
    rw [Int.natAbs_natCast, Int.natAbs_natCast]
    omega
  · rw [← Int.natCast_mul]
    rfl
theorem e_stay {q : Q} {fr : Mi.Frame} {S : Store} {x y : D} {ms xs : List Int} {i j v : Nat} (hx : IsL S x ms) (hy : IsL S y xs) (hl : xs.length ≤ 120) (hi : fr[i]? = some (some x)) (hj : fr[j]? = some (some y)) (hv : v < fr.length) (hvi : v ≠ i) :
    Z.f1 .len (Z.lc [v] (.nm v) (Z.itE (Z.v j)) (Z.tcmp .in_ (Z.v v) (Z.v i)) (Z.v v)) q fr S = .ok (.t (.int ((stayN ms xs : Nat) : Int))) S := by
  refine e_f1 (x := .new ((xs.filter fun v => ms.contains v).map T.int)) (S1 := S) (e_lcI (p := fun v => ms.contains v) (g := T.int) hy (z_v hj) (by omega) fun S' hS w _ => ⟨(wipeF fr [v]).set v (some (.t (.int w))), rfl, ?_, fun _ => ?_⟩) ?_
  · have gi : ((wipeF fr [v]).set v (some (.t (.int w))))[i]? = some (some x) := by
      show ((fr.set v none).set v (some (.t (.int w))))[i]? = _
      rw [List.getElem?_set_ne hvi, List.getElem?_set_ne hvi]
      exact hi
    have gv : ((wipeF fr [v]).set v (some (.t (.int w))))[v]? = some (some (.t (.int w))) := List.getElem?_set_self (by show v < (fr.set v none).length; rw [List.length_set]; exact hv)
    exact tc (x := .t (.int w)) (y := x) (S1 := S') (z_v gv) (z_v gi) (c_inI (ns := ms) (hS _ _ hx).sq)
  · exact z_v (List.getElem?_set_self (by show v < (fr.set v none).length; rw [List.length_set]; exact hv))
  · show R.ok (D.int (((((xs.filter fun v => ms.contains v).map T.int).map D.t).length : Nat) : Int)) S = _
    rw [List.length_map, List.length_map]
    rfl
theorem sum_pows {S : Store} (k m : Nat) : f1D .sum (.new ((List.range m).map fun j : Nat => T.int ((k ^ j : Nat) : Int))) S = .ok (.t (.int ((geo k m : Nat) : Int))) S := by
  show sumD _ S = _
  unfold sumD
  have e : (List.range m).map (fun j : Nat => T.int ((k ^ j : Nat) : Int)) = (((List.range m).map fun j => k ^ j).map fun n : Nat => (n : Int)).map T.int := by
    rw [List.map_map, List.map_map]
    rfl
  rw [e]
  rw [show intsD S (.new ((((List.range m).map fun j => k ^ j).map fun n : Nat => (n : Int)).map T.int)) = some (((List.range m).map fun j => k ^ j).map fun n : Nat => (n : Int)) from asI_map _]
  dsimp only
  rw [← cast_sum]
  rfl
theorem sp_number {fa : Nat → Addr} {k p : Nat} {S : Store} {x y : D} {ms xs : List Int} (hx : IsL S x ms) (hm : ms.length ≤ 12) (hy : IsL S y xs) (hl : xs.length ≤ 120) (hp : p ≤ 4) : callD prog fa (k + 2) n_number_before [x, y, .t (.int (p : Nat))] S = .ok (.t (.int ((num ms xs p : Nat) : Int))) S := by
  generalize hq : (⟨callD prog fa (k + 1), fa, S.length⟩ : Q) = q
  have qc : q.call = callD prog fa (k + 1) := by rw [← hq]
  have hok : (okL : Nat) = 16000000 := rfl
  have hM : 0 < 2 ^ p := Nat.pow_pos (by decide)
  have hM2 : 2 ^ p ≤ 16 := Nat.le_trans (Nat.pow_le_pow_right (by decide) hp) (by decide)
  have hs := stay_le ms xs
  have hg := geo_lt ms.length (by omega) p (by omega)
  have h4 : (2 ^ p - 1) * stayN ms xs ≤ 15 * 120 := Nat.mul_le_mul (by omega) (by omega)
  let F (a3 a4 a5 a6 a7 a8 : Option D) : Mi.Frame := [some x, some y, some (.t (.int (p : Nat))), a3, a4, a5, a6, a7, a8]
  let n3 : Option D := some (.t (.int (ms.length : Nat)))
  let n4 : Option D := some (.t (.int ((2 ^ p : Nat) - 1)))
  let n5 : Option D := some (.t (.int (stayN ms xs : Nat)))
  let n6 : Option D := some (.t (.int (geo ms.length (2 ^ p) : Nat)))
  rw [cd_number_before]
  refine (run_Rt (d := .t (.int ((num ms xs p : Nat) : Int))) (S1 := S) ?_ mv_t).trans (by rw [List.take_length])
  rw [hq]
  show Rt (b_number_before q (F none none none none none none) S) _ _
  unfold b_number_before
  refine rt_nx (fr1 := F n3 none none none none none) (S1 := S) (s_setT (e_f1 (x := x) (z_v rfl) hx.len)) ?_
  refine rt_nx (fr1 := F n3 n4 none none none none) (S1 := S) (s_setT ?_) ?_
  · rw [e_call1 (x := .t (.int (p : Nat))) (S1 := S) (z_v rfl) rfl, qc]
    exact sp_gone (by omega)
  refine rt_nx (fr1 := F n3 n4 n5 none none none) (S1 := S) (s_setT (e_stay hx hy hl rfl rfl (by show 7 < 9; decide) (by decide))) ?_
  refine rt_nx (fr1 := F n3 n4 n5 n6 none none) (S1 := S) (s_setT (e_f1 (x := .new ((List.range (2 ^ p)).map fun j : Nat => T.int ((ms.length ^ j : Nat) : Int))) (S1 := S) ?_ (sum_pows _ _))) ?_
  · have hi : Z.itR (Z.bin .add (Z.v 4) (Z.k (.int 1))) q (F n3 n4 n5 none none none) S = .ok ((List.range (2 ^ p)).map (fun k : Nat => D.int (k : Int)), none) S := by
      refine (i_range (n := ((2 ^ p : Nat) : Int)) (S1 := S) ((e_bin (x := .t (.int ((2 ^ p : Nat) - 1))) (y := .t (.int 1)) (S1 := S) (S2 := S) (z_v rfl) z_k b_add).trans ?_) (by omega)).trans (by rw [Int.toNat_natCast])
      rw [show (((2 ^ p : Nat) : Int) - 1 + 1) = ((2 ^ p : Nat) : Int) by omega]
    have e := e_lc (q := q) (fr := F n3 n4 n5 none none none) (S := S) (S1 := S) (vs := [8]) (tg := .nm 8) (ts := Z.tt) (el := Z.call n_power (Z.cons (Z.v 3) (Z.cons (Z.v 8) Z.nil)) [.inl 0, .inl 1]) (p := fun _ => true) (g := fun j : Nat => T.int ((ms.length ^ j : Nat) : Int)) hi (by rw [List.length_range]; omega) fun j hj => ⟨F n3 n4 n5 none none (some (.int (j : Nat))), rfl, rfl, fun _ => by
      have hj := List.mem_range.mp hj
      rw [e_call2 (x := .t (.int (ms.length : Nat))) (y := .t (.int (j : Nat))) (S1 := S) (S2 := S) (z_v rfl) (z_v rfl) rfl rfl, qc]
      exact sp_power (by omega) (by omega)⟩
    rw [filter_tt] at e
    exact e
  refine rt_st (rt_ret (e_bin (x := .t (.int ((ms.length ^ ((2 ^ p - 1) * stayN ms xs) : Nat) : Int))) (y := .t (.int ((geo ms.length (2 ^ p) ^ (xs.length - stayN ms xs + 1) : Nat) : Int))) (S1 := S) (S2 := S) ?_ ?_ (b_num hm hl hp)))
  · rw [e_call2 (x := .t (.int (ms.length : Nat))) (y := .t (.int (((2 ^ p - 1) * stayN ms xs : Nat) : Int))) (S1 := S) (S2 := S) (z_v rfl) ((e_bin (x := .t (.int ((2 ^ p : Nat) - 1))) (y := .t (.int (stayN ms xs : Nat))) (S1 := S) (S2 := S) (z_v rfl) (z_v rfl) (b_mulR (by omega))).trans (by rw [Int.natCast_mul, Int.natCast_sub hM]; rfl)) rfl rfl, qc]
    exact sp_power (by omega) (by omega)
  · rw [e_call2 (x := .t (.int (geo ms.length (2 ^ p) : Nat))) (y := .t (.int ((xs.length - stayN ms xs + 1 : Nat) : Int))) (S1 := S) (S2 := S) (z_v rfl) ((e_bin (x := .t (.int ((xs.length : Nat) - (stayN ms xs : Nat)))) (y := .t (.int 1)) (S1 := S) (S2 := S) (e_bin (x := .t (.int (xs.length : Nat))) (y := .t (.int (stayN ms xs : Nat))) (S1 := S) (S2 := S) (e_f1 (x := y) (z_v rfl) hy.len) (z_v rfl) b_sub) z_k b_add).trans (by rw [Int.natCast_add, Int.natCast_sub hs]; rfl)) rfl rfl, qc]
    exact sp_power hg (by omega)
theorem sp_count {fa : Nat → Addr} {k p : Nat} {S : Store} {x y : D} {ms xs : List Int} (hx : IsL S x ms) (hm : ms.length ≤ 12) (nd : ms.Nodup) (hy : IsL S y xs) (hl : xs.length ≤ 120) (hp : p ≤ 4) : callD prog fa (k + 4) n_count_before [x, y, .t (.int (p : Nat))] S = .ok (.t (.int ((num ms xs p : Nat) : Int))) S := by
  generalize hq : (⟨callD prog fa (k + 3), fa, S.length⟩ : Q) = q
  have qc : q.call = callD prog fa (k + 3) := by rw [← hq]
  rw [cd_count_before]
  refine (run_Rt (d := .t (.int ((num ms xs p : Nat) : Int))) (S1 := S) ?_ mv_t).trans (by rw [List.take_length])
  rw [hq]
  show Rt (b_count_before q [some x, some y, some (.t (.int (p : Nat)))] S) _ _
  unfold b_count_before
  refine rt_nx (s_expr (d := .non) (S1 := S) ?_) (rt_nx (s_expr (d := .non) (S1 := S) ?_) (rt_nx (s_expr (d := .non) (S1 := S) ?_) (rt_st (rt_ret ?_))))
  · rw [e_call1 (z_v rfl) hx.arg, qc, sp_check_marked hx hm nd]
  · rw [e_call1 (z_v rfl) hy.arg, qc, sp_check_values hy hl]
  · rw [e_call2 (x := .t (.int (p : Nat))) (S1 := S) (z_v rfl) z_k rfl rfl, qc]
    exact sp_check_passes (by omega)
  · rw [e_call3 (z_v rfl) (z_v rfl) (z_v rfl) hx.arg hy.arg rfl, qc]
    exact sp_number (k := k + 1) hx hm hy hl hp
end Lw

set_option Elab.async false
set_option linter.all false
set_option maxRecDepth 100000
set_option maxHeartbeats 4000000
namespace Lw
open PySem PySem.Spec PyProof.Rows L2 Mi
theorem s_setFz {q : Q} {fr : Mi.Frame} {S S1 : Store} {i : Nat} {a : XE} {d : D} {x : T} (h : a q fr S = .ok d S1) (hs : inSlot d = false) (hf : fz 6 d = some x) : Z.set i false a q fr S = .ok (.nx, fr.set i (some (.t x))) S1 := by
  rw [z_set, h, bnd_ok]
  unfold Z.stD
  rw [if_neg (by rw [hs]; decide), if_neg (by decide), hf]
  rfl
/-- new lists of whole numbers in a new list -/
def newR (A : List (List Int)) : D := Z.mkL (A.map fun r => D.new (r.map T.int))
theorem newR_tr {S : Store} (A : List (List Int)) : Mi.tr 6 S (newR A) = some (.lst (A.map dints)) := by
  refine tr_mkL ?_
  induction A with
  | nil => rfl
  | cons a A ih =>
    rw [List.map_cons, List.map_cons]
    unfold mapO
    rw [show Mi.tr 5 S (.new (a.map T.int)) = some (dints a) from rfl]
    dsimp only
    rw [ih]
    rfl
theorem newR_cases (A : List (List Int)) : (A = [] ∧ newR A = .new []) ∨ (A ≠ [] ∧ newR A = .newo (A.map fun r => D.new (r.map T.int))) := by
  cases A with
  | nil => exact .inl ⟨rfl, rfl⟩
  | cons a A => exact .inr ⟨(fun z => by cases z), rfl⟩
theorem newR_fz (A : List (List Int)) : fz 6 (newR A) = some (.lst (A.map dints)) := by
  rcases newR_cases A with ⟨rfl, e⟩ | ⟨_, e⟩
  · rw [e]
    rfl
  · rw [e]
    have : ∀ A : List (List Int), mapO (fz 5) (A.map fun r => D.new (r.map T.int)) = some (A.map dints) := fun A => by
      induction A with
      | nil => rfl
      | cons a A ih =>
        rw [List.map_cons, List.map_cons]
        unfold mapO
        rw [show fz 5 (.new (a.map T.int)) = some (dints a) from rfl]
        dsimp only
        rw [ih]
        rfl
    unfold fz
    rw [this]
    rfl
theorem newR_mv {S : Store} {L : Nat} (A : List (List Int)) : mv 6 S L [] (newR A) = some (newR A, []) := by
  rcases newR_cases A with ⟨rfl, e⟩ | ⟨_, e⟩
  · rw [e]
    rfl
  · rw [e]
    have : ∀ A : List (List Int), mapM2 (mv 5 S L) [] (A.map fun r => D.new (r.map T.int)) = some (A.map fun r => D.new (r.map T.int), []) := fun A => by
      induction A with
      | nil => rfl
      | cons a A ih =>
        rw [List.map_cons]
        unfold mapM2
        rw [show mv 5 S L [] (.new (a.map T.int)) = some (.new (a.map T.int), []) from rfl]
        dsimp only
        rw [ih]
    unfold mv
    rw [this]
    rfl
theorem newR_arg (A : List (List Int)) : Z.arg (newR A) = some (.t (.lst (A.map dints))) := by
  have h := newR_fz A
  rcases newR_cases A with ⟨rfl, e⟩ | ⟨_, e⟩
  · rw [e]
    rfl
  · rw [e] at h ⊢
    unfold Z.arg
    dsimp only
    rw [h]
    rfl
/-- .. of the rows of a frozen list -/
theorem lc_rows {q : Q} {fr : Mi.Frame} {S : Store} {vs : List Nat} {tg : Z.Tg} {it : XI} {ts : XT} {el : XE} {rows : List (List Int)} {p : List Int → Bool} {g : List Int → List Int} (hi : it q fr S = .ok ((rows.map dints).map D.t, none) S) (hl : rows.length ≤ okL)
    (h : ∀ r ∈ rows, ∃ fr1, asg S tg (.t (dints r)) (wipeF fr vs) = some fr1 ∧ ts q fr1 S = .ok (p r) S ∧ (p r = true → el q fr1 S = .ok (.new ((g r).map T.int)) S)) : Z.lc vs tg it ts el q fr S = .ok (newR ((rows.filter p).map g)) S := by
  unfold Z.lc
  rw [hi, bnd_ok, if_pos (by rw [List.length_map, List.length_map]; exact hl)]
  show R.bnd (unlR none (lcL tg ts el q (wipeF fr vs) ((rows.map dints).map D.t) S)) _ = _
  rw [show (rows.map dints).map D.t = rows.map fun r => D.t (dints r) by rw [List.map_map]; rfl, lcL_map (p := p) (g := fun r => .new ((g r).map T.int)) h]
  show Mi.R.ok (Z.mkL ((rows.filter p).map fun r => D.new ((g r).map T.int))) S = _
  unfold newR
  rw [List.map_map]
  rfl
theorem newR_slot (A : List (List Int)) : inSlot (newR A) = false := by
  rcases newR_cases A with ⟨_, e⟩ | ⟨_, e⟩
  · rw [e]
    rfl
  · rw [e]
    rfl
theorem fzL_newR {S : Store} (A : List (List Int)) : fzL S (newR A) = some (A.map dints) := by
  have : ∀ A : List (List Int), mapO (fz 6) (A.map fun r => D.new (r.map T.int)) = some (A.map dints) := fun A => by
    induction A with
    | nil => rfl
    | cons a A ih =>
      rw [List.map_cons, List.map_cons]
      unfold mapO
      rw [show fz 6 (.new (a.map T.int)) = some (dints a) from rfl]
      dsimp only
      rw [ih]
      rfl
  rcases newR_cases A with ⟨rfl, e⟩ | ⟨_, e⟩
  · rw [e]
    rfl
  · rw [e]
    exact this A
theorem ok_rows {L : List (List Int)} (h : ∀ r ∈ L, Bd r) : T.oks (L.map dints) = true ∧ okEq (.lst (L.map dints)) = true := by
  have h2 : ∀ L : List (List Int), (∀ r ∈ L, Bd r) → ∃ n, Rps (L.map dints) n 1 := fun L => by
    induction L with
    | nil => exact fun _ => ⟨0, rps_nil⟩
    | cons e L ih =>
      intro h
      obtain ⟨n, hn⟩ := ih fun e he => h e (List.mem_cons_of_mem _ he)
      exact ⟨_, rps_cons (rp_ints (k := 0) (h e List.mem_cons_self) (Nat.le_refl _)) hn⟩
  obtain ⟨n, hn⟩ := h2 L h
  exact ⟨hn.1, (rp_lst hn).eq (by decide)⟩
theorem mapO_map {α β γ : Type} {f : β → Option γ} {g : α → β} {h : α → γ} : ∀ l : List α, (∀ a ∈ l, f (g a) = some (h a)) → mapO f (l.map g) = some (l.map h)
  | [], _ => rfl
  | a :: l, H => by
    rw [List.map_cons]
    unfold mapO
    rw [H a List.mem_cons_self]
    dsimp only
    rw [mapO_map l fun b hb => H b (List.mem_cons_of_mem _ hb)]
    rfl
theorem lcL2_map {α : Type} {q : Q} {fr : Mi.Frame} {S : Store} {vs1 : List Nat} {g g1 : Z.Tg} {ft ft1 : XT} {fi1 : XI} {fe : XE} {enc : α → D} {h : α → List D} : ∀ {items : List α}, (∀ a ∈ items, ∃ (fr1 : Mi.Frame) (its : List D), asg S g (enc a) fr = some fr1 ∧ ft q fr1 S = .ok true S ∧ fi1 q fr1 S = .ok (its, none) S ∧ its.length ≤ 4000 ∧ lcL g1 ft1 fe q (wipeF fr1 vs1) its S = .ok (h a) S) → lcL2 vs1 g ft fi1 g1 ft1 fe q fr (items.map enc) S = .ok (items.flatMap h) S
  | [], _ => rfl
  | a :: items, H => by
    obtain ⟨fr1, its, e1, e2, e3, e4, e5⟩ := H a List.mem_cons_self
    have ih := lcL2_map (items := items) fun b hb => H b (List.mem_cons_of_mem _ hb)
    rw [List.map_cons]
    unfold lcL2
    rw [e1]
    dsimp only
    rw [e2]
    dsimp only
    rw [e3]
    dsimp only
    rw [if_pos e4, show lckS S none = S from rfl, e5]
    show R.bnd (lcL2 vs1 g ft fi1 g1 ft1 fe q fr (items.map enc) S) _ = _
    rw [ih, bnd_ok, List.flatMap_cons]
theorem e_lst1z {q : Q} {fr : Mi.Frame} {S S1 : Store} {e1 : XE} {x z : D} (h1 : e1 q fr S = .ok x S1) (h : Z.mkL [x] = z) : Z.lst (Z.cons e1 Z.nil) q fr S = .ok z S1 := by rw [e_lst1 h1, h]
theorem e_lst2z {q : Q} {fr : Mi.Frame} {S S1 S2 : Store} {e1 e2 : XE} {x y z : D} (h1 : e1 q fr S = .ok x S1) (h2 : e2 q fr S1 = .ok y S2) (h : Z.mkL [x, y] = z) : Z.lst (Z.cons e1 (Z.cons e2 Z.nil)) q fr S = .ok z S2 := by rw [e_lst2 h1 h2, h]
theorem e_clz {q : Q} {fr : Mi.Frame} {S S1 S2 : Store} {f : XE} {gg : D → Store → R D} {x y : D} (h1 : f q fr S = .ok x S1) (h2 : gg x S1 = .ok y S2) : Z.cl gg f q fr S = .ok y S2 := by
  show R.bnd (f q fr S) (fun x S1 => gg x S1) = _
  rw [h1, bnd_ok]
  exact h2
theorem e_addf {q : Q} {fr : Mi.Frame} {S S1 S2 : Store} {f g : XE} {x y : D} {a b : List T} (h1 : f q fr S = .ok x S1) (h2 : g q fr S1 = .ok y S2) (hx : fzL S2 x = some a) (hy : fzL S2 y = some b) (hl : a.length + b.length ≤ okL) : Z.addf f g q fr S = .ok (.new (a ++ b)) S2 := by
  unfold Z.addf
  rw [h1, bnd_ok, h2, bnd_ok]
  unfold addfD
  rw [hx]
  dsimp only
  rw [hy]
  exact if_pos hl
theorem gon_all {ms : List Int} {v : Int} {g : List Int} (h : g ∈ gon ms v) : g.length ≤ 1 := by
  have sg : ∀ g ∈ ms.map fun m => [m], g.length ≤ 1 := fun g hg => by
    obtain ⟨m, hm, rfl⟩ := List.mem_map.mp hg
    exact Nat.le_refl _
  unfold gon at h
  split at h
  · exact sg g h
  · rcases List.mem_cons.mp h with rfl | h
    · exact Nat.zero_le _
    · exact sg g h
theorem gon_len (ms : List Int) (v : Int) : (gon ms v).length ≤ ms.length + 1 := by
  unfold gon
  split
  · rw [List.length_map]
    omega
  · rw [List.length_cons, List.length_map]
    exact Nat.le_refl _
theorem endB_all {ms g : List Int} (h : g ∈ endB ms) : g.length ≤ 1 := by
  unfold endB at h
  rcases List.mem_cons.mp h with rfl | h
  · exact Nat.zero_le _
  · obtain ⟨m, hm, rfl⟩ := List.mem_map.mp h
    exact Nat.le_refl _
theorem begB_row {ms xs b : List Int} (h : b ∈ begB ms xs) : b.length ≤ 2 * xs.length := by
  obtain ⟨b0, h4, t, rfl, h5, _, _⟩ := beg_lv xs [[]] b h
  rw [List.mem_singleton.mp h4, List.nil_append]
  exact h5
theorem begB_snoc (ms xs : List Int) (v : Int) : begB ms (xs ++ [v]) = stepB ms (begB ms xs) v := by
  unfold begB
  rw [List.foldl_append]
  rfl
/-- [f(r, g) for r in A for g in G] -/
theorem e_lc2R {q : Q} {fr : Mi.Frame} {S : Store} {A G : List (List Int)} {f : List Int → List Int → List Int} {e1 e2 el : XE} (hA : e1 q fr S = .ok (.t (.lst (A.map dints))) S) (hl : A.length ≤ 4000) (hG : ∀ r ∈ A, e2 q ((wipeF fr [8, 9]).set 8 (some (.t (dints r)))) S = .ok (.t (.lst (G.map dints))) S) (hg : G.length ≤ 4000)
    (he : ∀ r ∈ A, ∀ g ∈ G, el q ((wipeF ((wipeF fr [8, 9]).set 8 (some (.t (dints r)))) [9]).set 9 (some (.t (dints g)))) S = .ok (.new ((f r g).map T.int)) S) :
    Z.lc2 [8, 9] (.nm 8) (Z.itE e1) Z.tt [9] (.nm 9) (Z.itE e2) Z.tt el q fr S = .ok (newR (A.flatMap fun r => G.map fun g => f r g)) S := by
  have it : ∀ (L : List (List Int)) (e : XE) (fr : Mi.Frame), e q fr S = .ok (.t (.lst (L.map dints))) S → Z.itE e q fr S = .ok (L.map fun r => D.t (dints r), none) S := fun L e fr h => by
    unfold Z.itE
    rw [h, bnd_ok]
    show R.ok ((L.map dints).map D.t, none) S = _
    rw [List.map_map]
    rfl
  unfold Z.lc2
  rw [it A e1 fr hA, bnd_ok, if_pos (by rw [List.length_map]; exact hl)]
  have e := lcL2_map (q := q) (fr := wipeF fr [8, 9]) (S := S) (vs1 := [9]) (g := .nm 8) (g1 := .nm 9) (ft := Z.tt) (ft1 := Z.tt) (fi1 := Z.itE e2) (fe := el) (enc := fun r => D.t (dints r)) (h := fun r => G.map fun g => D.new ((f r g).map T.int)) (items := A) fun r hr => ⟨(wipeF fr [8, 9]).set 8 (some (.t (dints r))), _, rfl, rfl, it G e2 _ (hG r hr), by rw [List.length_map]; exact hg, by
    have := lcL_map (q := q) (fr := wipeF ((wipeF fr [8, 9]).set 8 (some (.t (dints r)))) [9]) (S := S) (tg := .nm 9) (ts := Z.tt) (el := el) (enc := fun g => D.t (dints g)) (p := fun _ => true) (g := fun g => D.new ((f r g).map T.int)) (items := G) fun g hg => ⟨_, rfl, rfl, fun _ => he r hr g hg⟩
    rw [filter_tt] at this
    exact this⟩
  show R.bnd (unlR none (lcL2 [9] (.nm 8) Z.tt (Z.itE e2) (.nm 9) Z.tt el q (wipeF fr [8, 9]) (A.map fun r => D.t (dints r)) S)) _ = _
  rw [e]
  show R.ok (Z.mkL (A.flatMap fun r => G.map fun g => D.new ((f r g).map T.int))) S = _
  unfold newR
  rw [List.map_flatMap]
  congr 2
  congr 1
  exact funext fun r => by
    rw [List.map_map]
    rfl

theorem sp_lists {fa : Nat → Addr} {k : Nat} {S : Store} {ms xs : List Int} (hm : ms.length ≤ 12) (hl : xs.length ≤ 120) (hn : num ms xs 1 ≤ 4000) : callD prog fa (k + 1) n_lists_before [.t (dints ms), .t (dints xs)] S = .ok (newR (bef ms xs)) S := by
  generalize hq : (⟨callD prog fa k, fa, S.length⟩ : Q) = q
  have hok : (okL : Nat) = 16000000 := rfl
  let M : List (List Int) := ms.map fun m => [m]
  let F (B : List (List Int)) (a5 a6 : Option D) : Mi.Frame := [some (.t (dints ms)), some (.t (dints xs)), some (.t (.lst (M.map dints))), some (.t (.lst ((endB ms).map dints))), some (.t (.lst (B.map dints))), a5, a6, none, none, none]
  let I : Nat → Mi.Frame → Store → Prop := fun i fr S' => (∃ a5 a6, fr = F (begB ms (xs.take i)) a5 a6) ∧ S' = S
  obtain ⟨fr2, S2, el, ⟨b5, b6, rfl⟩, rfl⟩ : ∃ fr2 S2, Z.forL (.nm 5) (fun fr2 S2 => Z.cutR false S.length (b_lists_before_0 q fr2 S2)) (xs.map fun v => D.t (.int v)) (F [[]] none none) S = .ok (.nx, fr2) S2 ∧ I (xs.map fun v => D.t (.int v)).length fr2 S2 := by
    refine for_ind I ?_ ⟨⟨_, _, rfl⟩, rfl⟩
    rintro i dd fr S' hd ⟨⟨a5, a6, rfl⟩, rfl⟩
    rw [List.getElem?_map] at hd
    cases hr : xs[i]? with
    | none =>
      rw [hr] at hd
      cases hd
    | some v =>
      rw [hr] at hd
      cases hd
      have e1 : begB ms (xs.take (i + 1)) = stepB ms (begB ms (xs.take i)) v := by
        rw [List.take_succ, hr]
        exact begB_snoc ms _ v
      have hB := Nat.le_trans (begB_take ms xs i) hn
      have hrow : ∀ r ∈ begB ms (xs.take i), r.length ≤ 240 := fun r h => by
        have := begB_row h
        rw [List.length_take] at this
        omega
      generalize begB ms (xs.take i) = B at e1 hB hrow
      refine ⟨_, rfl, .nx, F (stepB ms B v) (some (.t (.int v))) (some (.t (.lst ((gon ms v).map dints)))), S', cut_f ?_, .inl rfl, ⟨_, _, by rw [e1]⟩, rfl⟩
      show b_lists_before_0 q (F B (some (.t (.int v))) a6) S' = _
      unfold b_lists_before_0
      refine (q_nx (fr1 := F B (some (.t (.int v))) (some (.t (.lst ((gon ms v).map dints))))) (S1 := S') (s_setT ?_)).trans ?_
      · have ht : Z.tcmp .in_ (Z.v 5) (Z.v 0) q (F B (some (.t (.int v))) a6) S' = .ok (ms.contains v) S' := tc (x := .t (.int v)) (y := .t (dints ms)) (S1 := S') (z_v rfl) (z_v rfl) (c_inI (ns := ms) rfl)
        unfold gon
        cases hc : ms.contains v with
        | true =>
          rw [hc] at ht
          exact e_ifeT ht (z_v rfl)
        | false =>
          rw [hc] at ht
          exact e_ifeF ht (z_v rfl)
      refine (q_nx (fr1 := F (stepB ms B v) (some (.t (.int v))) (some (.t (.lst ((gon ms v).map dints))))) (S1 := S') (s_setFz (d := newR (stepB ms B v)) ?_ (newR_slot _) (newR_fz _))).trans rfl
      refine e_lc2R (f := fun r g => r ++ g ++ [v]) (A := B) (G := gon ms v) (z_v rfl) hB (fun r _ => z_v rfl) (by have := gon_len ms v; omega) fun r hr g hg => ?_
      have h1 := hrow r hr
      have h2 := gon_all hg
      refine (e_bin (x := .new (r.map T.int ++ g.map T.int)) (y := .new [.int v]) (S1 := S') (S2 := S') (e_bin (x := .t (dints r)) (y := .t (dints g)) (S1 := S') (S2 := S') (z_v rfl) (z_v rfl) (b_catTT (by rw [List.length_map, List.length_map]; omega))) (e_lst1z (x := .t (.int v)) (z_v rfl) rfl) (b_catNN (by rw [List.length_append, List.length_map, List.length_map]; show _ + 1 ≤ _; omega))).trans ?_
      rw [List.map_append, List.map_append]
      rfl
  have e1 : begB ms (xs.take (xs.map fun v => D.t (.int v)).length) = begB ms xs := by rw [List.length_map, List.take_length]
  rw [e1] at el
  have hB : (begB ms xs).length ≤ 4000 := by
    have := begB_take ms xs xs.length
    rw [List.take_length] at this
    omega
  rw [cd_lists_before]
  refine (run_Rt (d := newR (bef ms xs)) (S1 := S2) ?_ (newR_mv _)).trans (by rw [List.take_length])
  rw [hq]
  show Rt (b_lists_before q [some (.t (dints ms)), some (.t (dints xs)), none, none, none, none, none, none, none, none] S2) _ _
  unfold b_lists_before
  have hi : ∀ (fr : Mi.Frame) (j : Nat) (ns : List Int), fr[j]? = some (some (.t (dints ns))) → Z.itE (Z.v j) q fr S2 = .ok (ns.map fun v => D.t (.int v), none) S2 := fun fr j ns h => by
    unfold Z.itE
    rw [z_v h, bnd_ok]
    show R.ok ((ns.map T.int).map D.t, none) S2 = _
    rw [List.map_map]
    rfl
  refine rt_nx (fr1 := [some (.t (dints ms)), some (.t (dints xs)), some (.t (.lst (M.map dints))), none, none, none, none, none, none, none]) (S1 := S2) (s_setFz (d := newR M) ?_ (newR_slot _) (newR_fz _)) ?_
  · unfold Z.lc
    rw [hi _ 0 ms rfl, bnd_ok, if_pos (by rw [List.length_map]; omega)]
    have e := lcL_map (q := q) (fr := wipeF [some (.t (dints ms)), some (.t (dints xs)), none, none, none, none, none, none, none, none] [7]) (S := S2) (tg := .nm 7) (ts := Z.tt) (el := Z.lst (Z.cons (Z.v 7) Z.nil)) (enc := fun v : Int => D.t (.int v)) (p := fun _ => true) (g := fun v => D.new [.int v]) (items := ms) fun v _ => ⟨_, rfl, rfl, fun _ => e_lst1z (x := .t (.int v)) (z_v rfl) rfl⟩
    rw [filter_tt] at e
    show R.bnd (unlR none (lcL (.nm 7) Z.tt (Z.lst (Z.cons (Z.v 7) Z.nil)) q (wipeF [some (.t (dints ms)), some (.t (dints xs)), none, none, none, none, none, none, none, none] [7]) (ms.map fun v => D.t (.int v)) S2)) _ = _
    rw [e]
    show R.ok (Z.mkL (ms.map fun v => D.new [.int v])) S2 = R.ok (newR (ms.map fun m => [m])) S2
    unfold newR
    rw [List.map_map]
    rfl
  refine rt_nx (fr1 := [some (.t (dints ms)), some (.t (dints xs)), some (.t (.lst (M.map dints))), some (.t (.lst ((endB ms).map dints))), none, none, none, none, none, none]) (S1 := S2) (s_setF (xs := (endB ms).map dints) (e_addf (x := .newo [.new []]) (y := .t (.lst (M.map dints))) (S1 := S2) (S2 := S2) (a := [.lst []]) (b := M.map dints) rfl (z_v rfl) rfl rfl (by rw [List.length_map, List.length_map]; show 1 + _ ≤ _; omega))) ?_
  refine rt_nx (fr1 := F [[]] none none) (S1 := S2) rfl (rt_nx (s_forF (S1 := S2) (items := xs.map fun v => D.t (.int v)) (hi _ 1 xs rfl) el) (rt_st (rt_ret ?_)))
  refine e_lc2R (f := fun r g => r ++ g) (A := begB ms xs) (G := endB ms) (z_v rfl) hB (fun r _ => z_v rfl) (by show (ms.map _).length + 1 ≤ _; rw [List.length_map]; omega) fun r hr g hg => ?_
  have h1 := begB_row hr
  have h2 := endB_all hg
  refine (e_bin (x := .t (dints r)) (y := .t (dints g)) (S1 := S2) (S2 := S2) (z_v rfl) (z_v rfl) (b_catTT (by rw [List.length_map, List.length_map]; omega))).trans ?_
  rw [List.map_append]
theorem g_nx {q : Q} {fr fr1 : Mi.Frame} {S S1 : Store} {f g : XB} (h : f q fr S = .ok (.nx, fr1) S1) : Z.seqG f g q fr S = g q fr1 S1 := by
  unfold Z.seqG
  rw [h, bnd_ok]
/-- list(each_before(marked, values)) -/
theorem sp_each {fa : Nat → Addr} {k : Nat} {S : Store} {ms xs : List Int} (hm : ms.length ≤ 12) (nd : ms.Nodup) (bm : Bd ms) (hl : xs.length ≤ 120) (bx : Bd xs) (hn : num ms xs 1 ≤ 4000) : callD prog fa (k + 5) 26 [.t (dints ms), .t (dints xs)] S = .ok (.new ((sortLL (bef ms xs)).map dints)) S := by
  generalize hq : (⟨callD prog fa (k + 3), fa, S.length⟩ : Q) = q
  have qc : q.call = callD prog fa (k + 3) := by rw [← hq]
  have bd : ∀ r ∈ bef ms xs, Bd r := fun r hr v hv => by
    rcases (bef_all hr).2.2 v hv with z | z
    · exact bx v z
    · exact bm v z
  have lb : (bef ms xs).length ≤ 4000 := by rw [bef_len]; exact hn
  rw [wake_run (k := k + 3) (n := n_each_before) (nW := 26) (m := 2) (b := b_each_before) (slots := 3) rfl rfl rfl, hq]
  have e : b_each_before q [some (.t (dints ms)), some (.t (dints xs)), none] S = .ok (.rt (.new ((sortLL (bef ms xs)).map dints)), [some (.t (dints ms)), some (.t (dints xs)), some (.t (.int (num ms xs 1 : Nat)))]) S := by
    unfold b_each_before
    refine (g_nx (s_expr (d := .non) (S1 := S) ?_)).trans ((g_nx (s_expr (d := .non) (S1 := S) ?_)).trans ((g_nx (fr1 := [some (.t (dints ms)), some (.t (dints xs)), some (.t (.int (num ms xs 1 : Nat)))]) (S1 := S) (s_setT (x := .int (num ms xs 1 : Nat)) ?_)).trans ((g_nx (fr1 := [some (.t (dints ms)), some (.t (dints xs)), some (.t (.int (num ms xs 1 : Nat)))]) (S1 := S) ((s_ifF (S1 := S) ?_).trans rfl)).trans ?_)))
    · rw [e_call1 (z_v rfl) rfl, qc, sp_check_marked .t hm nd]
    · rw [e_call1 (z_v rfl) rfl, qc, sp_check_values .t hl]
    · rw [e_call3 (z_v rfl) (z_v rfl) z_k rfl rfl rfl, qc]
      exact sp_number (k := k + 1) (p := 1) .t hm .t hl (by decide)
    · refine (tc (x := .t (.int (num ms xs 1 : Nat))) (y := .t (.int 5000)) (S1 := S) (z_v rfl) z_k c_gt).trans ?_
      rw [decide_eq_false (by omega)]
    · have e2 : Z.cl sortLD (Z.fzE (Z.call n_lists_before (Z.cons (Z.v 0) (Z.cons (Z.v 1) Z.nil)) [.inl 0, .inl 1])) q [some (.t (dints ms)), some (.t (dints xs)), some (.t (.int (num ms xs 1 : Nat)))] S = .ok (.new ((sortLL (bef ms xs)).map dints)) S := by
        refine e_clz (x := .t (.lst ((bef ms xs).map dints))) (S1 := S) ?_ ?_
        · unfold Z.fzE
          rw [e_call2 (z_v rfl) (z_v rfl) rfl rfl, qc, sp_lists (k := k + 2) hm hl hn, bnd_ok, newR_fz]
        · unfold sortLD
          rw [show (sq S (.t (.lst ((bef ms xs).map dints)))).bind asLL = some (bef ms xs) from asLL_map _]
          exact if_pos (ok_rows bd).1
      show R.bnd (R.bnd (Z.cl sortLD (Z.fzE (Z.call n_lists_before (Z.cons (Z.v 0) (Z.cons (Z.v 1) Z.nil)) [.inl 0, .inl 1])) q [some (.t (dints ms)), some (.t (dints xs)), some (.t (.int (num ms xs 1 : Nat)))] S) _) _ = _
      rw [e2]
      rfl
  show genR (b_each_before q [some (.t (dints ms)), some (.t (dints xs)), none] S) S = _
  rw [e]
  unfold genR
  dsimp only
  rw [mv_new]
  dsimp only
  rw [if_pos (by rw [List.length_map, (sortLL_perm _).length_eq]; have : (okL : Nat) = 16000000 := rfl; omega), List.take_length]
end Lw

set_option Elab.async false
set_option linter.all false
set_option maxRecDepth 100000
set_option maxHeartbeats 4000000
namespace Lw
open PySem PySem.Spec PyProof.Rows L2 Mi
theorem s_setO {q : Q} {fr : Mi.Frame} {S S1 : Store} {i : Nat} {e : XE} {xss : List (List T)} (h : e q fr S = .ok (.newo (xss.map D.new)) S1) : Z.set i true e q fr S = .ok (.nx, fr.set i (some (.cell (S1.length + xss.length)))) (S1 ++ xss.map Ob.lst ++ [.lsto ((List.range' S1.length xss.length).map D.cell)]) := by
  rw [z_set, h, bnd_ok]
  have : Z.stD true (.newo (xss.map D.new)) S1 = some (.cell (S1.length + xss.length), S1 ++ xss.map Ob.lst ++ [.lsto ((List.range' S1.length xss.length).map D.cell)]) := by
    unfold Z.stD
    rw [if_neg (by intro z; cases z), if_pos rfl]
    unfold thaw
    rw [thaw_news]
    dsimp only
    rw [List.length_append, List.length_map]
  rw [this]
/-- f(x, y) with a value that was left out -/
theorem e_call2r {q : Q} {n : Nat} {fr : Mi.Frame} {S S1 S2 : Store} {a b : XE} {x y x' y' : D} {u : T} (h : a q fr S = .ok x S1) (h2 : b q fr S1 = .ok y S2) (hx : Z.arg x = some x') (hy : Z.arg y = some y') : Z.call n (Z.cons a (Z.cons b Z.nil)) [.inl 0, .inl 1, .inr u] q fr S = q.call n [x', y', .t u] S2 := by
  rw [z_call, z_cons, h, bnd_ok, z_cons, h2, bnd_ok, z_nil, bnd_ok, bnd_ok, bnd_ok]
  exact callA_id (mapO2 hx hy) rfl
theorem e_call210 {q : Q} {n : Nat} {fr : Mi.Frame} {S S1 S2 S3 : Store} {a b c : XE} {x y z x' y' z' : D} (h : a q fr S = .ok x S1) (h2 : b q fr S1 = .ok y S2) (h3 : c q fr S2 = .ok z S3) (hx : Z.arg x = some x') (hy : Z.arg y = some y') (hz : Z.arg z = some z') : Z.call n (Z.cons a (Z.cons b (Z.cons c Z.nil))) [.inl 2, .inl 1, .inl 0] q fr S = q.call n [z', y', x'] S3 := by
  rw [z_call, z_cons, h, bnd_ok, z_cons, h2, bnd_ok, z_cons, h3, bnd_ok, z_nil, bnd_ok, bnd_ok, bnd_ok, bnd_ok]
  exact callA_id (mapO3 hx hy hz) rfl
theorem e_call10 {q : Q} {n : Nat} {fr : Mi.Frame} {S S1 S2 : Store} {a b : XE} {x y x' y' : D} (h : a q fr S = .ok x S1) (h2 : b q fr S1 = .ok y S2) (hx : Z.arg x = some x') (hy : Z.arg y = some y') : Z.call n (Z.cons a (Z.cons b Z.nil)) [.inl 1, .inl 0] q fr S = q.call n [y', x'] S2 := by
  rw [z_call, z_cons, h, bnd_ok, z_cons, h2, bnd_ok, z_nil, bnd_ok, bnd_ok, bnd_ok]
  exact callA_id (mapO2 hx hy) rfl
theorem mem_sum {α : Type} (f : α → Nat) {a : α} : ∀ {l : List α}, a ∈ l → f a ≤ (l.map f).sum
  | b :: l, h => by
    rw [List.map_cons, List.sum_cons]
    rcases List.mem_cons.mp h with rfl | h
    · omega
    · have := mem_sum f h
      omega
theorem ne_same {q : Q} {fr : Mi.Frame} {S S1 S2 : Store} {a b : XE} {i : Int} (h1 : a q fr S = .ok (.t (.int i)) S1) (h2 : b q fr S1 = .ok (.t (.int i)) S2) : Z.tcmp .ne a b q fr S = .ok false S2 := (tc h1 h2 c_neI).trans (by rw [decide_eq_true rfl]; rfl)
theorem e_lgen {q : Q} {n : Nat} {fr : Mi.Frame} {S S1 S2 : Store} {h : XA} {ds es : List D} {xs : List T} (hh : h q fr S = .ok ds S1) (ha : mapO Z.arg ds = some es) (hc : q.call n es S1 = .ok (.new xs) S2) : Z.lgen n h q fr S = .ok (.new xs) S2 := by
  unfold Z.lgen
  rw [hh, bnd_ok, ha]
  dsimp only
  rw [hc]
theorem z_cons2 {q : Q} {fr : Mi.Frame} {S : Store} {i j : Nat} {x y : D} (hi : fr[i]? = some (some x)) (hj : fr[j]? = some (some y)) : Z.cons (Z.v i) (Z.cons (Z.v j) Z.nil) q fr S = .ok [x, y] S := by
  rw [z_cons, z_v hi, bnd_ok, z_cons, z_v hj, bnd_ok, z_nil, bnd_ok, bnd_ok]
theorem for_rt {tg : Z.Tg} {b : Mi.Frame → Store → R (Fl × Mi.Frame)} {d e : D} {ds : List D} {fr fr1 fr2 : Mi.Frame} {S S2 : Store} (h : asg S tg d fr = some fr1) (hb : b fr1 S = .ok (.rt e, fr2) S2) : Z.forL tg b (d :: ds) fr S = .ok (.rt e, fr2) S2 := by
  unfold Z.forL
  rw [h]
  dsimp only
  rw [hb, bnd_ok]
theorem for_nx {tg : Z.Tg} {b : Mi.Frame → Store → R (Fl × Mi.Frame)} {d : D} {ds : List D} {fr fr1 fr2 : Mi.Frame} {S S2 : Store} (h : asg S tg d fr = some fr1) (hb : b fr1 S = .ok (.nx, fr2) S2) : Z.forL tg b (d :: ds) fr S = Z.forL tg b ds fr2 S2 := by
  conv => lhs; unfold Z.forL
  rw [h]
  dsimp only
  rw [hb, bnd_ok]
/-- [r for r in L if g(r) != xs], none -/
theorem ne_none {q : Q} {fr : Mi.Frame} {S : Store} {L : List (List Int)} {xs : List Int} {j : Nat} {g : XE} (hL : fr[j]? = some (some (.t (.lst (L.map dints))))) (hl : L.length ≤ 100000) (hf : fr.length = 8) (bx : Bd xs) (h2 : fr[2]? = some (some (.t (dints xs))))
    (hg : ∀ r ∈ L, g q ((wipeF fr [7]).set 7 (some (.t (dints r)))) S = .ok (.t (dints xs)) S) :
    Z.tcmp .ne (Z.lc [7] (.nm 7) (Z.itE (Z.v j)) (Z.tcmp .ne g (Z.v 2)) (Z.v 7)) (Z.lst Z.nil) q fr S = .ok false S := by
  have hok : (okL : Nat) = 16000000 := rfl
  have hi : Z.itE (Z.v j) q fr S = .ok (L.map fun r => D.t (dints r), none) S := by
    unfold Z.itE
    rw [z_v hL, bnd_ok]
    show R.ok ((L.map dints).map D.t, none) S = _
    rw [List.map_map]
    rfl
  have g2 : ∀ r : List Int, ((wipeF fr [7]).set 7 (some (.t (dints r))))[2]? = some (some (.t (dints xs))) := fun r => by
    show ((fr.set 7 none).set 7 (some (.t (dints r))))[2]? = _
    rw [List.getElem?_set_ne (by decide), List.getElem?_set_ne (by decide)]
    exact h2
  have e := e_lc (q := q) (fr := fr) (S := S) (S1 := S) (vs := [7]) (tg := .nm 7) (ts := Z.tcmp .ne g (Z.v 2)) (el := Z.v 7) (p := fun _ => false) (g := dints) hi (by omega) fun r hr => ⟨(wipeF fr [7]).set 7 (some (.t (dints r))), rfl, (tc (x := .t (dints xs)) (y := .t (dints xs)) (S1 := S) (hg r hr) (z_v (g2 r)) (c_neL (ns := xs) (ms := xs) rfl rfl bx bx)).trans (by rw [decide_eq_true rfl]; rfl), fun z => by cases z⟩
  have e0 : (L.filter fun _ => false) = [] := List.filter_eq_nil_iff.mpr fun _ _ z => by cases z
  rw [e0] at e
  exact tc_ne (x := .new []) (y := .new []) (u := .lst []) (S1 := S) e rfl rfl rfl (okEq_ints (ns := []) fun v hv => by cases hv)
/-- list(g(r)) for r in L, one after the other -/
theorem e_two {q : Q} {fr : Mi.Frame} {S : Store} {L : List (List Int)} {el : XE} {h : List Int → List (List Int)} (hL : fr[4]? = some (some (.t (.lst (L.map dints))))) (hl : L.length ≤ 100000) (hn : (L.flatMap h).length ≤ 100000)
    (hg : ∀ r ∈ L, el q ((wipeF fr [7]).set 7 (some (.t (dints r)))) S = .ok (.new ((h r).map dints)) S) :
    Z.suml (Z.fzE (Z.lc [7] (.nm 7) (Z.itE (Z.v 4)) Z.tt el)) q fr S = .ok (.new ((L.flatMap h).map dints)) S := by
  have hok : (okL : Nat) = 16000000 := rfl
  have hi : Z.itE (Z.v 4) q fr S = .ok (L.map fun r => D.t (dints r), none) S := by
    unfold Z.itE
    rw [z_v hL, bnd_ok]
    show R.ok ((L.map dints).map D.t, none) S = _
    rw [List.map_map]
    rfl
  let gT : List Int → T := fun r => .lst ((h r).map dints)
  have e1 : Z.lc [7] (.nm 7) (Z.itE (Z.v 4)) Z.tt el q fr S = .ok (Z.mkL (L.map fun r => D.new ((h r).map dints))) S := by
    unfold Z.lc
    rw [hi, bnd_ok, if_pos (by rw [List.length_map]; omega)]
    have e := lcL_map (q := q) (fr := wipeF fr [7]) (S := S) (tg := .nm 7) (ts := Z.tt) (el := el) (enc := fun r => D.t (dints r)) (p := fun _ => true) (g := fun r => D.new ((h r).map dints)) (items := L) fun r hr => ⟨(wipeF fr [7]).set 7 (some (.t (dints r))), rfl, rfl, fun _ => hg r hr⟩
    rw [filter_tt] at e
    show R.bnd (unlR none (lcL (.nm 7) Z.tt el q (wipeF fr [7]) (L.map fun r => D.t (dints r)) S)) _ = _
    rw [e]
    rfl
  have e2 : fz 6 (Z.mkL (L.map fun r => D.new ((h r).map dints))) = some (.lst (L.map gT)) := by
    have h5 : mapO (fz 5) (L.map fun r => D.new ((h r).map dints)) = some (L.map gT) := mapO_map _ fun r _ => rfl
    cases L with
    | nil => rfl
    | cons r L =>
      show (mapO (fz 5) ((r :: L).map fun r => D.new ((h r).map dints))).map T.lst = _
      rw [h5]
      rfl
  unfold Z.suml Z.fzE
  rw [e1, bnd_ok, e2]
  dsimp only
  rw [bnd_ok]
  have e3 : ∀ l : List (List Int), catL S ((l.map gT).map D.t) = some ((l.flatMap h).map dints) := by
    intro l
    induction l with
    | nil => rfl
    | cons r l ih =>
      rw [List.map_cons, List.map_cons]
      unfold catL
      rw [show sq S (D.t (gT r)) = some ((h r).map dints) from rfl]
      dsimp only
      rw [ih, List.flatMap_cons, List.map_append]
      rfl
  unfold sumLD
  rw [show sqdL S (.t (.lst (L.map gT))) = some ((L.map gT).map D.t) from rfl]
  show (match catL S ((L.map gT).map D.t) with
    | some xs => if xs.length ≤ okL then Mi.R.ok (D.new xs) S else Mi.R.no
    | none => Mi.R.no) = _
  rw [e3]
  dsimp only
  exact if_pos (by rw [List.length_map]; omega)
theorem bd15 {xs : List Int} (h : ∀ v ∈ xs, -1 ≤ v ∧ v < 15) : Bd xs := fun v hv => big_lt (by have := h v hv; omega)
theorem sp_right {fa : Nat → Addr} {k m : Nat} {S : Store} {d : Dr} (h : S[m]? = some (.lst d.ts)) (hk : 0 ≤ d.k ∧ d.k ≤ 700000000) :
    ∃ d2 : Dr, callD prog fa (k + 6) n_right [.cell m] S = .ok (.bl true) (S.set m (.lst d2.ts)) ∧ (d.k ≤ d2.k ∧ d2.k ≤ d.k + 2000) := by
  have hml := (List.getElem?_eq_some_iff.mp h).1
  generalize hq : (⟨callD prog fa (k + 5), fa, S.length⟩ : Q) = q
  have qc : q.call = callD prog fa (k + 5) := by rw [← hq]
  have hvis : n_drop_visited ∈ okv_2 := by decide
  obtain ⟨ms, d1, e1, k1, lm, lm2, nd, bm⟩ := sp_marks (fa := fa) (k := k + 3) (most := 2) h (by omega) (by decide)
  have h1 : (S.set m (.lst d1.ts))[m]? = some (.lst d1.ts) := List.getElem?_set_self hml
  obtain ⟨xs, d2, e2, k2, lx, bx⟩ := sp_list (fa := fa) (k := k + 3) (most := 4) h1 (by omega) (by decide)
  rw [List.set_set] at e2
  have lm2 := lm2 (by decide)
  have hBm := bd15 bm
  have hBx := bd15 bx
  generalize hS2 : S.set m (.lst d2.ts) = S2 at e2
  let F (a3 a4 a5 a6 : Option D) : Mi.Frame := [some (.cell m), some (.t (dints ms)), some (.t (dints xs)), a3, a4, a5, a6, none]
  refine ⟨d2, ?_, by omega⟩
  -- what counts
  have eC : ∀ (fr : Mi.Frame) (i j : Nat) (e : XE) (ys : List Int) (p : Nat), p ≤ 4 → ys.length ≤ 120 → fr[i]? = some (some (.t (dints ms))) → fr[j]? = some (some (.t (dints ys))) → e q fr S2 = .ok (.t (.int (p : Nat))) S2 → Z.call n_count_before (Z.args (Z.cons (Z.v i) (Z.cons (Z.v j) Z.nil)) (Z.cons e Z.nil)) [.inl 0, .inl 1, .inl 2] q fr S2 = .ok (.t (.int ((num ms ys p : Nat) : Int))) S2 := fun fr i j e ys p hp hy hi hj he => by
    rw [e_call21 (x := .t (dints ms)) (y := .t (dints ys)) (z := .t (.int (p : Nat))) (z_v hi) (z_v hj) he rfl rfl rfl, qc]
    exact sp_count (k := k + 1) .t lm nd .t hy hp
  have eA : ∀ (fr : Mi.Frame) (e : XE) (ys : List Int) (p : Nat), p ≤ 8 → ys.length ≤ 120 → fr[1]? = some (some (.t (dints ms))) → fr[7]? = some (some (.t (dints ys))) → e q fr S2 = .ok (.t (.int (p : Nat))) S2 → Z.call n_after_passes (Z.args (Z.cons (Z.v 1) (Z.cons (Z.v 7) Z.nil)) (Z.cons e Z.nil)) [.inl 0, .inl 1, .inl 2] q fr S2 = .ok (.t (dints (passN ms p ys))) S2 := fun fr e ys p hp hy hi hj he => by
    rw [e_call21 (x := .t (dints ms)) (y := .t (dints ys)) (z := .t (.int (p : Nat))) (z_v hi) (z_v hj) he rfl rfl rfl, qc]
    exact sp_after_passes (k := k) hvis .t lm nd .t hy (t := (p : Nat)) (by omega)
  -- the turns
  have loop : (∃ fr2, Z.forL (.nm 3) (fun fr2 S3 => Z.cutR false S2.length (b_right_0 q fr2 S3)) ([D.int 1, .int 2]) (F none none none none) S2 = .ok (.rt (.bl true), fr2) S2) ∨ ∃ fr2, Z.forL (.nm 3) (fun fr2 S3 => Z.cutR false S2.length (b_right_0 q fr2 S3)) ([D.int 1, .int 2]) (F none none none none) S2 = .ok (.nx, fr2) S2 := by
    by_cases hG : num ms xs 1 > 200 ∨ num ms xs 2 > 3000
    · refine .inl ⟨F (some (.int 1)) none none none, ?_⟩
      have hb : b_right_0 q (F (some (.int 1)) none none none) S2 = .ok (.rt (.bl true), F (some (.int 1)) none none none) S2 := by
        unfold b_right_0
        have e3 := eC (F (some (.int 1)) none none none) 1 2 (Z.k (.int 1)) xs 1 (by decide) (by omega) rfl rfl z_k
        have e4 := eC (F (some (.int 1)) none none none) 1 2 (Z.k (.int 2)) xs 2 (by decide) (by omega) rfl rfl z_k
        have t3 := tc (o := .gt) (k := decide ((200 : Int) < (num ms xs 1 : Nat))) e3 (z_k (S := S2) (x := .int 200)) c_gt
        have t4 := tc (o := .gt) (k := decide ((3000 : Int) < (num ms xs 2 : Nat))) e4 (z_k (S := S2) (x := .int 3000)) c_gt
        refine q_rt ((s_ifT (S1 := S2) ?_).trans (q_rt rfl))
        by_cases h1 : num ms xs 1 > 200
        · rw [decide_eq_true (by omega)] at t3
          exact t_orT t3
        · rw [decide_eq_false (by omega)] at t3
          rw [decide_eq_true (by have := hG.resolve_left h1; omega)] at t4
          exact t_orF t3 t4
      exact for_rt rfl (cut_f hb)
    · refine .inr ?_
      have g1 : num ms xs 1 ≤ 200 := by omega
      have g2 : num ms xs 2 ≤ 3000 := by omega
      let L := sortLL (bef ms xs)
      have pL : L.Perm (bef ms xs) := sortLL_perm _
      have lL : L.length = num ms xs 1 := by rw [pL.length_eq, bef_len]
      have aL : ∀ r ∈ L, pass ms r = xs ∧ r.length ≤ 9 ∧ Bd r := fun r hr => by
        obtain ⟨b1, b2, b3⟩ := bef_all (pL.mem_iff.mp hr)
        exact ⟨b1, by omega, fun v hv => by
          rcases b3 v hv with z | z
          · exact hBx v z
          · exact hBm v z⟩
      have sL : ∀ p, p = 1 ∨ p = 2 → (L.map fun r => num ms r (p - 1)).sum = num ms xs p := fun p hp => by
        rw [(pL.map fun r => num ms r (p - 1)).sum_nat]
        exact sum_num ms xs hp
      have nL : ∀ r ∈ L, num ms r 1 ≤ 3000 := fun r hr => by
        have h2 := sL 2 (.inr rfl)
        have h3 := mem_sum (fun r => num ms r 1) hr
        have h2 : (L.map fun r => num ms r 1).sum = num ms xs 2 := h2
        omega
      let h2 : List Int → List (List Int) := fun r => sortLL (bef ms r)
      let L2 := L.flatMap h2
      have lL2 : L2.length = num ms xs 2 := by
        show (L.flatMap h2).length = _
        rw [List.length_flatMap, ← sL 2 (.inr rfl)]
        congr 1
        exact List.map_congr_left fun r _ => by
          show (sortLL (bef ms r)).length = num ms r 1
          rw [(sortLL_perm _).length_eq, bef_len]
      have aL2 : ∀ r ∈ L2, passN ms 2 r = xs ∧ r.length ≤ 19 := fun r hr => by
        obtain ⟨s, hs, hr⟩ := List.mem_flatMap.mp hr
        obtain ⟨a1, a2, _⟩ := aL s hs
        obtain ⟨b1, b2, _⟩ := bef_all ((sortLL_perm _).mem_iff.mp hr)
        refine ⟨?_, by omega⟩
        show pass ms (pass ms r) = xs
        rw [b1, a1]
      have eG : ∀ (fr : Mi.Frame) (j : Nat) (ys : List Int), ys.length ≤ 120 → Bd ys → num ms ys 1 ≤ 4000 → fr[1]? = some (some (.t (dints ms))) → fr[j]? = some (some (.t (dints ys))) → Z.lgen 26 (Z.cons (Z.v 1) (Z.cons (Z.v j) Z.nil)) q fr S2 = .ok (.new ((sortLL (bef ms ys)).map dints)) S2 := fun fr j ys hy by' hn hi hj => by
        refine e_lgen (z_cons2 hi hj) (es := [.t (dints ms), .t (dints ys)]) rfl ?_
        rw [qc]
        exact sp_each (k := k) lm nd hBm hy by' hn
      have step : ∀ (p : Nat) (a4 a5 a6 : Option D), p = 1 ∨ p = 2 → b_right_0 q (F (some (.int (p : Nat))) a4 a5 a6) S2 = .ok (.nx, F (some (.int (p : Nat))) (some (.t (.lst (L.map dints)))) (some (.t (.int (num ms xs p : Nat)))) (some (.t (.lst (L2.map dints))))) S2 := fun p a4 a5 a6 hp => by
        let F4 : Mi.Frame := F (some (.int (p : Nat))) (some (.t (.lst (L.map dints)))) a5 a6
        let F5 : Mi.Frame := F (some (.int (p : Nat))) (some (.t (.lst (L.map dints)))) (some (.t (.int (num ms xs p : Nat)))) a6
        let F6 : Mi.Frame := F (some (.int (p : Nat))) (some (.t (.lst (L.map dints)))) (some (.t (.int (num ms xs p : Nat)))) (some (.t (.lst (L2.map dints))))
        unfold b_right_0
        have e3 := eC (F (some (.int (p : Nat))) a4 a5 a6) 1 2 (Z.k (.int 1)) xs 1 (by decide) (by omega) rfl rfl z_k
        have e4 := eC (F (some (.int (p : Nat))) a4 a5 a6) 1 2 (Z.k (.int 2)) xs 2 (by decide) (by omega) rfl rfl z_k
        have t3 := tc (o := .gt) (k := decide ((200 : Int) < (num ms xs 1 : Nat))) e3 (z_k (S := S2) (x := .int 200)) c_gt
        have t4 := tc (o := .gt) (k := decide ((3000 : Int) < (num ms xs 2 : Nat))) e4 (z_k (S := S2) (x := .int 3000)) c_gt
        rw [decide_eq_false (by omega)] at t3 t4
        refine (q_ifF (S1 := S2) (t_orF t3 t4)).trans ?_
        refine (q_nx (fr1 := F4) (S1 := S2) (s_setF (eG _ 2 xs (by omega) hBx (by omega) rfl rfl))).trans ?_
        refine (q_nx (fr1 := F5) (S1 := S2) (s_setT (e_f1 (x := .new (L.map fun r => T.int ((num ms r (p - 1) : Nat) : Int))) (S1 := S2) ?_ ?_))).trans ?_
        · have hi : Z.itE (Z.v 4) q F4 S2 = .ok (L.map fun r => D.t (dints r), none) S2 := by
            show R.ok ((L.map dints).map D.t, none) S2 = _
            rw [List.map_map]
            rfl
          have e := e_lc (q := q) (fr := F4) (S := S2) (S1 := S2) (vs := [7]) (tg := .nm 7) (ts := Z.tt) (el := Z.call n_count_before (Z.args (Z.cons (Z.v 1) (Z.cons (Z.v 7) Z.nil)) (Z.cons (Z.bin .sub (Z.v 3) (Z.k (.int 1))) Z.nil)) [.inl 0, .inl 1, .inl 2]) (p := fun _ => true) (g := fun r => T.int ((num ms r (p - 1) : Nat) : Int)) hi (by have : (okL : Nat) = 16000000 := rfl; omega) fun r hr => ⟨(wipeF F4 [7]).set 7 (some (.t (dints r))), rfl, rfl, fun _ => eC _ 1 7 _ r (p - 1) (by omega) (by have := (aL r hr).2.1; omega) rfl rfl ((e_bin (x := .t (.int (p : Nat))) (y := .t (.int 1)) (S1 := S2) (S2 := S2) (z_v rfl) z_k b_sub).trans (by rw [show ((p : Nat) : Int) - 1 = ((p - 1 : Nat) : Int) by omega]))⟩
          rw [filter_tt] at e
          exact e
        · show sumD (.new (L.map fun r => T.int ((num ms r (p - 1) : Nat) : Int))) S2 = _
          unfold sumD
          have e : (L.map fun r => T.int ((num ms r (p - 1) : Nat) : Int)) = ((L.map fun r => num ms r (p - 1)).map fun n : Nat => (n : Int)).map T.int := by
            rw [List.map_map, List.map_map]
            rfl
          rw [e, show intsD S2 (.new (((L.map fun r => num ms r (p - 1)).map fun n : Nat => (n : Int)).map T.int)) = some ((L.map fun r => num ms r (p - 1)).map fun n : Nat => (n : Int)) from asI_map _]
          dsimp only
          rw [← cast_sum, sL p hp]
        refine (q_ifF (S1 := S2) (ne_same (eC F5 1 2 (Z.v 3) xs p (by omega) (by omega) rfl rfl (z_v rfl)) (z_v rfl))).trans ?_
        refine (q_ifF (S1 := S2) (ne_none (L := L) (xs := xs) (j := 4) rfl (by omega) rfl hBx rfl fun r hr => ?_)).trans ?_
        · have := eA ((wipeF F5 [7]).set 7 (some (.t (dints r)))) (Z.k (.int 1)) r 1 (by decide) (by have := (aL r hr).2.1; omega) rfl rfl z_k
          rw [show passN ms 1 r = xs from (aL r hr).1] at this
          exact this
        refine (q_nx (fr1 := F6) (S1 := S2) (s_setF (xs := L2.map dints) (e_two (h := h2) (L := L) rfl (by omega) (by show L2.length ≤ _; omega) fun r hr => ?_))).trans ?_
        · obtain ⟨a1, a2, a3⟩ := aL r hr
          exact eG _ 7 r (by omega) a3 (by have := nL r hr; omega) rfl rfl
        refine (q_ifF (S1 := S2) (ne_none (L := L2) (xs := xs) (j := 6) rfl (by omega) rfl hBx rfl fun r hr => ?_)).trans ?_
        · have := eA ((wipeF F6 [7]).set 7 (some (.t (dints r)))) (Z.k (.int 2)) r 2 (by decide) (by have := (aL2 r hr).2; omega) rfl rfl z_k
          rw [(aL2 r hr).1] at this
          exact this
        refine (q_ifF (S1 := S2) (ne_same (i := ((num ms xs 2 : Nat) : Int)) (S1 := S2) (e_f1 (x := .t (.lst (L2.map dints))) (S1 := S2) (z_v rfl) ?_) (eC F6 1 2 (Z.k (.int 2)) xs 2 (by decide) (by omega) rfl rfl z_k))).trans rfl
        show R.ok (D.int ((((L2.map dints).map D.t).length : Nat) : Int)) S2 = _
        rw [List.length_map, List.length_map, lL2]
      refine ⟨F (some (.int 2)) (some (.t (.lst (L.map dints)))) (some (.t (.int (num ms xs 2 : Nat)))) (some (.t (.lst (L2.map dints)))), ?_⟩
      exact (for_nx rfl (cut_f (step 1 none none none (.inl rfl)))).trans ((for_nx rfl (cut_f (step 2 _ _ _ (.inr rfl)))).trans rfl)
  rw [cd_right]
  refine (run_Rt (d := .bl true) (S1 := S2) ?_ mv_t).trans (by rw [← hS2, List.take_of_length_le (by rw [List.length_set]; exact Nat.le_refl _)])
  rw [hq]
  show Rt (b_right q [some (.cell m), none, none, none, none, none, none, none] S) _ _
  unfold b_right
  refine rt_nx (fr1 := [some (.cell m), some (.t (dints ms)), none, none, none, none, none, none]) (S1 := S.set m (.lst d1.ts)) (s_setT (x := dints ms) ?_) (rt_nx (fr1 := F none none none none) (S1 := S2) (s_setF (xs := xs.map T.int) ?_) ?_)
  · rw [e_call2 (z_v rfl) z_k rfl rfl, qc]
    exact e1
  · rw [e_call2 (z_v rfl) z_k rfl rfl, qc]
    exact e2
  · rcases loop with ⟨fr2, el⟩ | ⟨fr2, el⟩
    · exact rt_st ⟨fr2, s_forF (S1 := S2) (items := [D.int 1, .int 2]) rfl el⟩
    · exact rt_nx (s_forF (S1 := S2) (items := [D.int 1, .int 2]) rfl el) (rt_st (rt_ret z_k))
end Lw

set_option Elab.async false
set_option linter.all false
set_option maxRecDepth 100000
set_option maxHeartbeats 4000000
namespace Lw
open PySem PySem.Spec PyProof.Rows L2 Mi
/-! the loops of a law: over the draws of all cells, over lists made in place -/
/-- [draws(cell) for cell in script[:n] + [0]] -/
theorem e_cells {q : Q} {fa : Nat → Addr} {k v : Nat} {fr : Mi.Frame} {ns : List Int} {j : Int} (qc : q.call = callD prog fa (k + 1)) (h0 : fr[0]? = some (some (.t (.scr ns)))) (hv : v < fr.length) (hl : ns.length ≤ 63) (hj : 0 ≤ j) :
    Z.lc [v] (.nm v) (Z.itE (Z.bin .add (Z.sl (Z.v 0) none (some (Z.k (.int j)))) (Z.lst (Z.cons (Z.k (.int 0)) Z.nil)))) Z.tt (Z.call n_draws (Z.cons (Z.v v) Z.nil) [.inl 0]) q fr [] = .ok (.newo ((ns.take j.toNat ++ [0]).map fun c => D.new (drOf c).ts)) [] := by
  have hok : (okL : Nat) = 16000000 := rfl
  have e1 : Z.itE (Z.bin .add (Z.sl (Z.v 0) none (some (Z.k (.int j)))) (Z.lst (Z.cons (Z.k (.int 0)) Z.nil))) q fr [] = .ok ((ns.take j.toNat ++ [0]).map (fun c => D.t (.int c)), none) [] := by
    unfold Z.itE
    rw [z_bin, z_sl, z_v h0, bnd_ok, z_oN, bnd_ok, z_oS, z_k, bnd_ok, bnd_ok]
    rw [show slD (.t (.scr ns)) none (some j) [] = .ok (.new ((ns.take j.toNat).map T.int)) [] by
      show R.ok (D.new (cut (ns.map T.int) none (some j))) [] = _
      rw [cut_take hj, List.map_take]]
    rw [bnd_ok, z_lst, z_cons, z_k, bnd_ok, z_nil, bnd_ok, bnd_ok, bnd_ok, show Z.mkL [D.t (.int 0)] = .new [T.int 0] from rfl, b_catNN (by rw [List.length_map, List.length_take]; show _ + 1 ≤ _; omega), bnd_ok]
    show R.ok (((ns.take j.toNat).map T.int ++ [T.int 0]).map D.t, none) [] = _
    rw [List.map_append, List.map_append, List.map_map]
    rfl
  unfold Z.lc
  rw [e1, bnd_ok, if_pos (by rw [List.length_map, List.length_append, List.length_take]; show _ + 1 ≤ _; omega)]
  have e2 := lcL_map (q := q) (fr := wipeF fr [v]) (S := []) (tg := .nm v) (ts := Z.tt) (el := Z.call n_draws (Z.cons (Z.v v) Z.nil) [.inl 0]) (enc := fun c => D.t (.int c)) (p := fun _ => true) (g := fun c => D.new (drOf c).ts) (items := ns.take j.toNat ++ [0]) fun c _ => ⟨(wipeF fr [v]).set v (some (.t (.int c))), rfl, rfl, fun _ => by
    have hg : ((wipeF fr [v]).set v (some (.t (.int c))))[v]? = some (some (.t (.int c))) := List.getElem?_set_self (by show v < (fr.set v none).length; rw [List.length_set]; exact hv)
    rw [e_call1 (z_v hg) rfl, qc, sp_draws]⟩
  rw [filter_tt] at e2
  show R.bnd (unlR none (lcL (.nm v) Z.tt (Z.call n_draws (Z.cons (Z.v v) Z.nil) [.inl 0]) q (wipeF fr [v]) ((ns.take j.toNat ++ [0]).map fun c => D.t (.int c)) [])) _ = _
  rw [e2]
  show R.ok (Z.mkL ((ns.take j.toNat ++ [0]).map fun c => D.new (drOf c).ts)) [] = _
  have hm : ((ns.take j.toNat ++ [0]).map fun c => D.new (drOf c).ts) = ((ns.take j.toNat ++ [0]).map fun c => (drOf c).ts).map D.new := by
    rw [List.map_map]
    rfl
  have hne : ((ns.take j.toNat ++ [0]).map fun c => (drOf c).ts) ≠ [] := fun z => by
    have := congrArg List.length z
    rw [List.length_map, List.length_append] at this
    cases this
  rw [hm, mkL_newo hne]
theorem sp_due {fa : Nat → Addr} {k p : Nat} {S : Store} {ms xs : List Int} (hm : ms.length ≤ 12) (hl : xs.length ≤ 120) (hp : p ≤ 4) : callD prog fa (k + 2) n_due [.t (dints ms), .t (dints xs), .t (.int (p : Nat))] S = .ok (.t (.int ((num ms xs p : Nat) : Int))) S := by
  generalize hq : (⟨callD prog fa (k + 1), fa, S.length⟩ : Q) = q
  have qc : q.call = callD prog fa (k + 1) := by rw [← hq]
  have hok : (okL : Nat) = 16000000 := rfl
  have hM : 0 < 2 ^ p := Nat.pow_pos (by decide)
  have hM2 : 2 ^ p ≤ 16 := Nat.le_trans (Nat.pow_le_pow_right (by decide) hp) (by decide)
  have hs := stay_le ms xs
  have hg := geo_lt ms.length (by omega) p (by omega)
  have h4 : (2 ^ p - 1) * stayN ms xs ≤ 15 * 120 := Nat.mul_le_mul (by omega) (by omega)
  let F (a3 a4 a5 a6 a7 : Option D) : Mi.Frame := [some (.t (dints ms)), some (.t (dints xs)), some (.t (.int (p : Nat))), a3, a4, a5, a6, a7]
  let n3 : Option D := some (.t (.int (stayN ms xs : Nat)))
  let n4 : Option D := some (.t (.int ((2 ^ p : Nat) - 1)))
  let n5 : Option D := some (.t (.int (geo ms.length (2 ^ p) : Nat)))
  have elen : ∀ fr : Mi.Frame, fr[0]? = some (some (.t (dints ms))) → Z.f1 .len (Z.v 0) q fr S = .ok (.t (.int (ms.length : Nat))) S := fun fr h => e_f1 (x := .t (dints ms)) (z_v h) (IsL.t (ns := ms)).len
  rw [cd_due]
  refine (run_Rt (d := .t (.int ((num ms xs p : Nat) : Int))) (S1 := S) ?_ mv_t).trans (by rw [List.take_length])
  rw [hq]
  show Rt (b_due q (F none none none none none) S) _ _
  unfold b_due
  refine rt_nx (fr1 := F n3 none none none none) (S1 := S) (s_setT (e_stay (x := .t (dints ms)) (y := .t (dints xs)) .t .t hl rfl rfl (by show 6 < 8; decide) (by decide))) ?_
  refine rt_nx (fr1 := F n3 n4 none none none) (S1 := S) (s_setT (e_bin (x := .t (.int ((2 ^ p : Nat) : Int))) (y := .t (.int 1)) (S1 := S) (S2 := S) (e_ix (x := .new (([1, 2, 4, 8, 16, 32, 64, 128, 256] : List Int).map T.int)) (y := .t (.int (p : Nat))) (S1 := S) (S2 := S) rfl (z_v rfl) ?_) z_k b_sub)) ?_
  · refine ix_new (kk := p) (ixN_at (by rw [List.length_map]; show p < 9; omega)) ?_
    have : p = 0 ∨ p = 1 ∨ p = 2 ∨ p = 3 ∨ p = 4 := by omega
    rcases this with rfl | rfl | rfl | rfl | rfl <;> rfl
  refine rt_nx (fr1 := F n3 n4 n5 none none) (S1 := S) (s_setT (e_f1 (x := .new ((List.range (2 ^ p)).map fun j : Nat => T.int ((ms.length ^ j : Nat) : Int))) (S1 := S) ?_ (sum_pows _ _))) ?_
  · have hi : Z.itR (Z.bin .add (Z.v 4) (Z.k (.int 1))) q (F n3 n4 none none none) S = .ok ((List.range (2 ^ p)).map (fun k : Nat => D.int (k : Int)), none) S := by
      refine (i_range (n := ((2 ^ p : Nat) : Int)) (S1 := S) ((e_bin (x := .t (.int ((2 ^ p : Nat) - 1))) (y := .t (.int 1)) (S1 := S) (S2 := S) (z_v rfl) z_k b_add).trans ?_) (by omega)).trans (by rw [Int.toNat_natCast])
      rw [show (((2 ^ p : Nat) : Int) - 1 + 1) = ((2 ^ p : Nat) : Int) by omega]
    have e := e_lc (q := q) (fr := F n3 n4 none none none) (S := S) (S1 := S) (vs := [7]) (tg := .nm 7) (ts := Z.tt) (el := Z.call n_l_power (Z.cons (Z.f1 .len (Z.v 0)) (Z.cons (Z.v 7) Z.nil)) [.inl 0, .inl 1]) (p := fun _ => true) (g := fun j : Nat => T.int ((ms.length ^ j : Nat) : Int)) hi (by rw [List.length_range]; omega) fun j hj => ⟨F n3 n4 none none (some (.int (j : Nat))), rfl, rfl, fun _ => by
      have hj := List.mem_range.mp hj
      rw [e_call2 (x := .t (.int (ms.length : Nat))) (y := .t (.int (j : Nat))) (S1 := S) (S2 := S) (elen _ rfl) (z_v rfl) rfl rfl, qc]
      exact sp_l_power (by omega) (by omega)⟩
    rw [filter_tt] at e
    exact e
  refine rt_st (rt_ret (e_bin (x := .t (.int ((ms.length ^ ((2 ^ p - 1) * stayN ms xs) : Nat) : Int))) (y := .t (.int ((geo ms.length (2 ^ p) ^ (xs.length - stayN ms xs + 1) : Nat) : Int))) (S1 := S) (S2 := S) ?_ ?_ (b_num hm hl hp)))
  · rw [e_call2 (x := .t (.int (ms.length : Nat))) (y := .t (.int (((2 ^ p - 1) * stayN ms xs : Nat) : Int))) (S1 := S) (S2 := S) (elen _ rfl) ((e_bin (x := .t (.int ((2 ^ p : Nat) - 1))) (y := .t (.int (stayN ms xs : Nat))) (S1 := S) (S2 := S) (z_v rfl) (z_v rfl) (b_mulR (by omega))).trans (by rw [Int.natCast_mul, Int.natCast_sub hM]; rfl)) rfl rfl, qc]
    exact sp_l_power (by omega) (by omega)
  · rw [e_call2 (x := .t (.int (geo ms.length (2 ^ p) : Nat))) (y := .t (.int ((xs.length - stayN ms xs + 1 : Nat) : Int))) (S1 := S) (S2 := S) (z_v rfl) ((e_bin (x := .t (.int ((xs.length : Nat) - (stayN ms xs : Nat)))) (y := .t (.int 1)) (S1 := S) (S2 := S) (e_bin (x := .t (.int (xs.length : Nat))) (y := .t (.int (stayN ms xs : Nat))) (S1 := S) (S2 := S) (e_f1 (x := .t (dints xs)) (z_v rfl) (IsL.t (ns := xs)).len) (z_v rfl) b_sub) z_k b_add).trans (by rw [Int.natCast_add, Int.natCast_sub hs]; rfl)) rfl rfl, qc]
    exact sp_l_power hg (by omega)
theorem num_one : ∀ p < 5, num [7] [] p = 2 ^ p ∧ num [] [1, 2] p = 1 ∧ num [7] [7, 7] p = 2 ^ p ∧ num [7] [8] p = 2 ^ p * 2 ^ p := by decide +kernel
theorem k11_law {fa : Nat → Addr} {k : Nat} {ns : List Int} (hl : ns.length ≤ 63) : callD prog fa (k + 7) n_law [.t (.scr ns)] [] = .ok (.bl true) [] := by
  generalize hq : (⟨callD prog fa (k + 6), fa, ([] : Store).length⟩ : Q) = q
  have qc : q.call = callD prog fa (k + 6) := by rw [← hq]
  let F (a1 a2 a3 a4 a5 : Option D) : Mi.Frame := [some (.t (.scr ns)), a1, a2, a3, a4, a5, none]
  let P : Mi.Frame → Prop := fun fr => ∃ a1 a2 a3 a4 a5 : Option D, fr = F a1 a2 a3 a4 a5
  obtain ⟨fr2, S2, el, a1, a2, a3, a4, a5, rfl⟩ := cells_loop (q := q) (fr := F none none none none none) (t := 1) (b := b_law_0) (P := P) (e_cells (k := k + 5) (fr := F none none none none none) (v := 6) (j := 6) qc rfl (by show 6 < 7; decide) hl (by decide)) ⟨_, _, _, _, _, rfl⟩ (by
    rintro fr' S' i c ⟨a1, a2, a3, a4, a5, rfl⟩ hi
    have hil := (List.getElem?_eq_some_iff.mp hi).1
    obtain ⟨d1, e1, k1⟩ := sp_right (fa := fa) (k := k) hi (by rw [drOf_k]; omega)
    rw [drOf_k] at k1
    have hi1 : (S'.set i (.lst d1.ts))[i]? = some (.lst d1.ts) := List.getElem?_set_self hil
    obtain ⟨d2, e2, k2⟩ := sp_right (fa := fa) (k := k) hi1 (by omega)
    rw [List.set_set] at e2
    have hi2 : (S'.set i (.lst d2.ts))[i]? = some (.lst d2.ts) := List.getElem?_set_self hil
    obtain ⟨ms, d3, e3, k3, lm, -, nd, bm⟩ := sp_marks (fa := fa) (k := k + 4) (most := 4) hi2 (by omega) (by decide)
    rw [List.set_set] at e3
    have hi3 : (S'.set i (.lst d3.ts))[i]? = some (.lst d3.ts) := List.getElem?_set_self hil
    obtain ⟨xs, d4, e4, k4, lx, bx⟩ := sp_list (fa := fa) (k := k + 4) (most := 40) hi3 (by omega) (by decide)
    rw [List.set_set] at e4
    have ho : ∀ j, j < S'.length → j ≠ i → (S'.set i (.lst d4.ts))[j]? = S'[j]? := fun j hj hji => by rw [List.getElem?_set_ne (Ne.symm hji)]
    generalize hS4 : S'.set i (.lst d4.ts) = S4 at e4 ho
    let F4 : Option D → Mi.Frame := fun a4 => F (some (.cell i)) (some (.t (dints ms))) (some (.t (dints xs))) a4 a5
    let I : Nat → Mi.Frame → Store → Prop := fun _ fr S5 => (∃ a4, fr = F4 a4) ∧ S5 = S4
    obtain ⟨fr2, S5, el, ⟨b4, rfl⟩, rfl⟩ : ∃ fr2 S5, Z.forL (.nm 4) (fun fr2 S5 => Z.cutR false S4.length (b_law_1 q fr2 S5)) ((List.range (5 : Int).toNat).map fun k : Nat => .int (k : Int)) (F4 a4) S4 = .ok (.nx, fr2) S5 ∧ I ((List.range (5 : Int).toNat).map fun k : Nat => D.int (k : Int)).length fr2 S5 := by
      refine for_ind I ?_ ⟨⟨_, rfl⟩, rfl⟩
      rintro p dd fr S5 hd ⟨⟨a4, rfl⟩, rfl⟩
      obtain ⟨hp, rfl⟩ := range_at hd
      have hp : p < 5 := hp
      refine ⟨_, rfl, .nx, F4 (some (.int (p : Nat))), S5, cut_f ?_, .inl rfl, ⟨_, rfl⟩, rfl⟩
      show b_law_1 q (F4 (some (.int (p : Nat)))) S5 = _
      unfold b_law_1
      refine (q_ifF (S1 := S5) (ne_same (i := ((num ms xs p : Nat) : Int)) (S1 := S5) (S2 := S5) ?_ ?_)).trans rfl
      · rw [e_call21 (x := .t (dints ms)) (y := .t (dints xs)) (z := .t (.int (p : Nat))) (S1 := S5) (S2 := S5) (S3 := S5) (z_v rfl) (z_v rfl) (z_v rfl) rfl rfl rfl, qc]
        exact sp_count (k := k + 2) .t lm nd .t (by omega) (by omega)
      · rw [e_call3 (x := .t (dints ms)) (y := .t (dints xs)) (z := .t (.int (p : Nat))) (S1 := S5) (S2 := S5) (S3 := S5) (z_v rfl) (z_v rfl) (z_v rfl) rfl rfl rfl, qc]
        exact sp_due (k := k + 4) lm (by omega) (by omega)
    refine ⟨F4 b4, S5, ?_, ⟨_, _, _, _, _, rfl⟩, ho⟩
    show b_law_0 q (F (some (.cell i)) a2 a3 a4 a5) S' = _
    unfold b_law_0
    refine (q_ifF (S1 := S'.set i (.lst d2.ts)) (t_orF (S1 := S'.set i (.lst d1.ts)) (t_not (k := true) (t_val (x := .t (.bl true)) ?_ tr_bl)) (t_not (k := true) (t_val (x := .t (.bl true)) ?_ tr_bl)))).trans ?_
    · rw [e_call1 (z_v rfl) rfl, qc]
      exact e1
    · rw [e_call1 (z_v rfl) rfl, qc]
      exact e2
    refine (q_nx (fr1 := F (some (.cell i)) (some (.t (dints ms))) a3 a4 a5) (S1 := S'.set i (.lst d3.ts)) (s_setT (x := dints ms) ?_)).trans ((q_nx (fr1 := F4 a4) (S1 := S5) (s_setF (xs := xs.map T.int) ?_)).trans ((q_nx (s_forF (S1 := S5) (items := (List.range (5 : Int).toNat).map fun k : Nat => .int (k : Int)) (i_range z_k (by decide)) el)).trans rfl))
    · rw [e_call2 (z_v rfl) z_k rfl rfl, qc]
      exact e3
    · rw [e_call2 (z_v rfl) z_k rfl rfl, qc]
      exact e4)
  let I : Nat → Mi.Frame → Store → Prop := fun _ fr S3 => (∃ a4 a5, fr = F a1 a2 a3 a4 a5) ∧ S3 = S2
  let ps : List D := (List.range 5).map fun p : Nat => D.t (.tup [.int (p : Nat), .int ((2 ^ p : Nat) - 1)])
  obtain ⟨fr2, S3, el2, ⟨b4, b5, rfl⟩, rfl⟩ : ∃ fr2 S3, Z.forL (.tu [4, 5]) (fun fr2 S3 => Z.cutR false S2.length (b_law_2 q fr2 S3)) ps (F a1 a2 a3 a4 a5) S2 = .ok (.nx, fr2) S3 ∧ I ps.length fr2 S3 := by
    refine for_ind I ?_ ⟨⟨_, _, rfl⟩, rfl⟩
    rintro p dd fr S3 hd ⟨⟨a4, a5, rfl⟩, rfl⟩
    rw [show ps = (List.range 5).map fun p : Nat => D.t (.tup [.int (p : Nat), .int ((2 ^ p : Nat) - 1)]) from rfl, List.getElem?_map] at hd
    have hp : p < 5 := by
      cases hr : (List.range 5)[p]? with
      | none =>
        rw [hr] at hd
        cases hd
      | some j =>
        have := (List.getElem?_eq_some_iff.mp hr).1
        rw [List.length_range] at this
        exact this
    rw [List.getElem?_range hp] at hd
    cases hd
    obtain ⟨n1, n2, n3, n4⟩ := num_one p hp
    let F5 : Mi.Frame := F a1 a2 a3 (some (.int (p : Nat))) (some (.t (.int ((2 ^ p : Nat) - 1))))
    refine ⟨F5, rfl, .nx, F5, S3, cut_f ?_, .inl rfl, ⟨_, _, rfl⟩, rfl⟩
    have eC : ∀ (a b : XE) (x y : D) (ms xs : List Int), a q F5 S3 = .ok x S3 → b q F5 S3 = .ok y S3 → Z.arg x = some (.t (dints ms)) → Z.arg y = some (.t (dints xs)) → ms.length ≤ 12 → ms.Nodup → xs.length ≤ 120 → Z.call n_count_before (Z.args (Z.cons a (Z.cons b Z.nil)) (Z.cons (Z.v 4) Z.nil)) [.inl 0, .inl 1, .inl 2] q F5 S3 = .ok (.t (.int ((num ms xs p : Nat) : Int))) S3 := fun a b x y ms xs ha hb hx hy lm nd lx => by
      rw [e_call21 (x := x) (y := y) (z := .t (.int (p : Nat))) (S1 := S3) (S2 := S3) (S3 := S3) ha hb (z_v rfl) hx hy rfl, qc]
      exact sp_count (k := k + 2) .t lm nd .t lx (by omega)
    have l7 : Z.lst (Z.cons (Z.k (.int 7)) Z.nil) q F5 S3 = .ok (.new [.int 7]) S3 := rfl
    have l0 : Z.lst Z.nil q F5 S3 = .ok (.new []) S3 := rfl
    have l77 : Z.lst (Z.cons (Z.k (.int 7)) (Z.cons (Z.k (.int 7)) Z.nil)) q F5 S3 = .ok (.new [.int 7, .int 7]) S3 := rfl
    have l12 : Z.lst (Z.cons (Z.k (.int 1)) (Z.cons (Z.k (.int 2)) Z.nil)) q F5 S3 = .ok (.new [.int 1, .int 2]) S3 := rfl
    have l8 : Z.lst (Z.cons (Z.k (.int 8)) Z.nil) q F5 S3 = .ok (.new [.int 8]) S3 := rfl
    have e5 : Z.bin .add (Z.v 5) (Z.k (.int 1)) q F5 S3 = .ok (.t (.int ((2 ^ p : Nat) : Int))) S3 := (e_bin (x := .t (.int ((2 ^ p : Nat) - 1))) (y := .t (.int 1)) (S1 := S3) (S2 := S3) (z_v rfl) z_k b_add).trans (by rw [show (((2 ^ p : Nat) : Int) - 1 + 1) = ((2 ^ p : Nat) : Int) by omega])
    have hM2 : 2 ^ p ≤ 16 := Nat.le_trans (Nat.pow_le_pow_right (by decide) (show p ≤ 4 by omega)) (by decide)
    have c1 := eC _ _ _ _ [7] [] l7 l0 rfl rfl (by decide) (by decide) (by decide)
    have c2 := eC _ _ _ _ [] [1, 2] l0 l12 rfl rfl (by decide) (by decide) (by decide)
    have c3 := eC _ _ _ _ [7] [7, 7] l7 l77 rfl rfl (by decide) (by decide) (by decide)
    have c4 := eC _ _ _ _ [7] [8] l7 l8 rfl rfl (by decide) (by decide) (by decide)
    rw [n1] at c1
    rw [n2] at c2
    rw [n3] at c3
    rw [n4] at c4
    show b_law_2 q F5 S3 = _
    unfold b_law_2
    refine (q_ifF (S1 := S3) (t_orF (ne_same c1 e5) (ne_same c2 z_k))).trans ((q_ifF (S1 := S3) (ne_same c3 e5)).trans ((q_ifF (S1 := S3) (ne_same c4 ((e_bin (x := .t (.int ((2 ^ p : Nat) : Int))) (y := .t (.int ((2 ^ p : Nat) : Int))) (S1 := S3) (S2 := S3) e5 e5 (b_mulR (by omega))).trans (by rw [Int.natCast_mul])))).trans rfl))
  rw [cd_law]
  refine (run_Rt (d := .bl true) (S1 := S3) ?_ mv_t).trans rfl
  rw [hq]
  show Rt (b_law q (F none none none none none) []) _ _
  unfold b_law
  exact rt_nx el (rt_nx (s_forF (S1 := S3) (items := ps) rfl el2) (rt_st (rt_ret z_k)))
end Lw

set_option Elab.async false
set_option linter.all false
set_option maxRecDepth 100000
set_option maxHeartbeats 4000000
namespace Lw
open PySem PySem.Spec PyProof.Rows L2 Mi
abbrev R0 : PySem.W.OpenRow := PySem.W.OpenLaw.row PySem.Challenge.rw_midwalk_k11_whole_numbers_of_lists_befor
abbrev hk : PySem.W.Hook := He.hookD 4 fa fn
def ob (s : PySem.W.SharedT) : He.AlD := He.obsDG 4 fa fn (HandSHeadRun.getT s)
theorem ob_eq (s : PySem.W.SharedT) : ob s = hk.obs s.abs := He.obsDG_eq (HandSHeadRun.getT_eq s)
theorem run (w : World) : HandSHeadRun.RunEq R0 (PySem.W.view R0.prog [lawAt]) hk ob 6000 loose w := by
  intro os
  kernel_rfl
end Lw
open PySem PySem.W PySem.Calls PyProof.Rows
theorem PySem.Challenge.cw_midwalk_k11_whole_numbers_of_lists_befor_holds : PySem.Challenge.rw_midwalk_k11_whole_numbers_of_lists_befor.Holds := by
  w_on; o_law
  refine HandSHeadRun.head_any (r := OpenLaw.row PySem.Challenge.rw_midwalk_k11_whole_numbers_of_lists_befor) (q := view (OpenLaw.row PySem.Challenge.rw_midwalk_k11_whole_numbers_of_lists_befor).prog [Lw.lawAt]) (H := Lw.hk) (ob := Lw.ob) (M := 6000) (loose := Lw.loose) (d := HandSHeadRun.topDef (OpenLaw.row PySem.Challenge.rw_midwalk_k11_whole_numbers_of_lists_befor).prog Lw.lawAt) (kwd := []) Lw.ob_eq
    (by kernel_rfl) (fun s => by kernel_rfl) Lw.run (by kernel_rfl) (by kernel_rfl) (by kernel_rfl) (by rfl) (by first | assumption | decide +kernel) (by decide +kernel) ⟨rfl, rfl, rfl, rfl, rfl, by decide +kernel⟩ ?hw ?hc
  case hw => w_witness2
  case hc =>
    refine Mi.walk_G (l := PySem.Challenge.rw_midwalk_k11_whole_numbers_of_lists_befor) (n := 63) (k := 3 * 39) (x := "_law_script") rfl (by decide) (by kernel_rfl) ⟨rfl, by decide, by decide⟩ ?F
    intro w mg fa h Y G hmg0
    obtain ⟨K, KX, c⟩ := Y
    have hmg : mg ("law" : PySem.Str) = some (.ref fa) := by
      have e : (HandSHeadRun.topDef (OpenLaw.row PySem.Challenge.rw_midwalk_k11_whole_numbers_of_lists_befor).prog Lw.lawAt).name = ("law" : PySem.Str) := by kernel_rfl
      rw [← e]
      exact hmg0
    obtain ⟨fd, F, hF⟩ := Lw.law_ok (P := PySem.Challenge.rw_midwalk_k11_whole_numbers_of_lists_befor.prog) (w := w) KX G c hmg (39 - 1)
    have b := L2.FunD.bindsA (ps := ["_law_script"]) F fun _ _ _ _ _ _ us hl => match us, hl with | [_], _ => rfl
    exact ⟨K, fd, _, KX, fun s v => b s [v] rfl, fun H a ns hl hO hS => Mi.law_sp (er := Mi.erX K Lw.gi.xs (Lw.faOf mg)) H a ns hO hS ((Lw.k11_law (k := 32)) hl), fun base _ _ => hF base⟩
