import PyProof.Rows.All
import Wide.All
import OpenK.AllK
import Wide.FinOn
import HandS.ForMost
import HandS.Evl
import HandS.Wide
import HandS.IsInst
import HandS.Gcd
import HandS.Zip
import HandS.HeadHook1
import HandS.Lambda
import HandS.TupAny
import HandS.TupMul
import HandS.Style
import HandS.Defaults
import HandS.WordsExc
import KE.GoesMore
import KE.GoesEnum
import HandS.HeadHook2
import HandS.HeadEnd
import HandS.Head2
import HandS.RaiseMore
import HandS.NoneIn
import HandS.Head3
import HandS.Dict
import HandS.SortInts
import HandS.TupSets
import HandS.NamedTupSort
import HandS.Conv
import KE.KTupSum
import HandS.SetFor
import HandS.Strs
import KE.GoesZip
import PyProof.ConsumeWalk
import PyProof.WalksMore
import KE.KDictZip
import HandS.Star
import PyProof.InstNe
import HandS.OwnEq
import HandS.FStr
import KE.KFmtOwn
import KE.KEqDict
import PyProof.NeKinds
import PyProof.EqKinds
import HandS.Exc
import HandS.ExcOwn
import HandS.TryMany
import HandS.ExcInit
import HandS.ExcField
import KE.KExcInit
import HandS.EndTab
import HandS.HeadHook4
import PyProof.ReprRoads
import PySem.Challenge.RW_fetchunseen_k03_errors_of_letters
set_option Elab.async false
set_option linter.all false
set_option maxRecDepth 100000
set_option maxHeartbeats 4000000
/-! A pure reading over data: slots hold data or one's own lists, expressions and statements are read over these alone. -/
namespace Pd
open PySem PySem.Spec PyProof.Rows L2
abbrev D := PyData
abbrev Sg := List (Option V)
abbrev Ex (H H' : Hp) : Prop := ∀ a o, H a = some o → H' a = some o
theorem Ex.rf (H : Hp) : Ex H H := fun _ _ h => h
theorem Ex.tr {H H1 H2 : Hp} (a : Ex H H1) (b : Ex H1 H2) : Ex H H2 := fun x o h => b x o (a x o h)
theorem Ex.up {H : Hp} {p : Addr} {o : HO} (h : H p = none) : Ex H (upd H p o) := fun a u e => by
  rw [upd_ne (ne_of_none e h)]; exact e
theorem Ex.no {H H' : Hp} {p : Addr} (e : Ex H H') (h : H' p = none) : H p = none := by
  cases h1 : H p with
  | none => rfl
  | some o => rw [e p o h1] at h; cases h
/-- what the written part says of a class of the module, for its instances as data -/
structure ClsI (K : PySem.W.Frag) (nm : Str) : Prop where
  cl : Cls K (He.ga K nm)
  ha : PySem.W.findIn K (.ref (He.ga K nm)) "__class__" = some (some (.builtin "object.__class__"))
  hn : PySem.W.specialIn K (.builtin "object.__class__") "__get__" = some (some (.builtin "getset_descriptor.__get__"))
  ht : PySem.W.takesIn K (.builtin "object.__class__") = some true
  hm : PySem.W.mroIn K (He.ga K nm) (.type "object") = some true
  kit : ∀ T ∈ ["int", "bool", "tuple", "list", "str"], PySem.W.kitOne K (.ref (He.ga K nm)) (.type T) = some false
/-! a value stands for data: tracked lists, tuples of any kind -/
mutual
inductive Da (K : PySem.W.Frag) (H : Hp) : V → PyData → Prop
  | non : Da K H .non .none
  | bl (b : Bool) : Da K H (.bl b) (.bool b)
  | int (i : Int) : Da K H (.int i) (.int i)
  | str (x : Str) : Da K H (.str x) (.str x)
  | lst {a : Addr} {xs : List V} {ds : List PyData} : H a = some (.lst xs) → DaAll K H xs ds → Da K H (.ref a) (.list ds)
  | tup {a : Addr} {xs : List V} {ds : List PyData} : SqT K H a xs → DaAll K H xs ds → Da K H (.ref a) (.tuple ds)
  /-- {}, never written -/
  | dic {a : Addr} : H a = some (.dK []) → Da K H (.ref a) (.dict [])
  /-- an instance of the module's class nm, its fields in their sequence, never written -/
  | obj {a dx : Addr} {nm : Str} {ns : List Str} {vs : List V} {ds : List PyData} : ClsI K nm → H a = some (.ins (He.ga K nm) dx (ns.zip vs)) → ns.length = vs.length → DaAll K H vs ds → Da K H (.ref a) (.dict [(.tuple (.str nm :: ns.map .str), .tuple ds)])
inductive DaAll (K : PySem.W.Frag) (H : Hp) : List V → List PyData → Prop
  | nil : DaAll K H [] []
  | cons {v : V} {vs : List V} {d : PyData} {ds : List PyData} : Da K H v d → DaAll K H vs ds → DaAll K H (v :: vs) (d :: ds)
end
section
variable {K : PySem.W.Frag} {H H' : Hp}
theorem rd_ex {a : Addr} {u : HO} (e : Ex H H') (h : Rd H a u) : Rd H' a u := by
  rcases h with h | ⟨o, h⟩
  · exact Or.inl (e a _ h)
  · exact Or.inr ⟨o, e a _ h⟩
theorem sql_ex {a : Addr} {xs : List V} (e : Ex H H') (h : SqL K H a xs) : SqL K H' a xs := by
  rcases h with h | h
  · exact Or.inl (rd_ex e h)
  · exact Or.inr h
theorem sqt_ex {a : Addr} {xs : List V} (e : Ex H H') (h : SqT K H a xs) : SqT K H' a xs := by
  rcases h with h | h
  · exact Or.inl (rd_ex e h)
  · exact Or.inr h
mutual
theorem dp_ex (e : Ex H H') : ∀ {v : V} {d : D}, Da K H v d → Da K H' v d
  | _, _, .non => .non
  | _, _, .bl b => .bl b
  | _, _, .int i => .int i
  | _, _, .str x => .str x
  | _, _, .lst hs ha => .lst (e _ _ hs) (dpa_ex e ha)
  | _, _, .tup hs ha => .tup (sqt_ex e hs) (dpa_ex e ha)
  | _, _, .dic h => .dic (e _ _ h)
  | _, _, .obj c h hl ha => .obj c (e _ _ h) hl (dpa_ex e ha)
theorem dpa_ex (e : Ex H H') : ∀ {vs : List V} {ds : List D}, DaAll K H vs ds → DaAll K H' vs ds
  | _, _, .nil => .nil
  | _, _, .cons h1 h2 => .cons (dp_ex e h1) (dpa_ex e h2)
end
theorem Da.up {v : V} {d : D} (h : Da K H v d) (e : Ex H H') : Da K H' v d := dp_ex e h
theorem DaAll.up {vs : List V} {ds : List D} (h : DaAll K H vs ds) (e : Ex H H') : DaAll K H' vs ds := dpa_ex e h
mutual
theorem da_dp : ∀ (d : D) (v : V), PyData.canLay0 d = true → Da K H v d → Dp K H v d
  | .none, _, _, h => by cases h; exact .non
  | .bool b, _, _, h => by cases h; exact .bl b
  | .int i, _, _, h => by cases h; exact .int i
  | .str x, _, _, h => by cases h; exact .str x
  | .list ds, _, c, h => by
    cases h with
    | lst hs ha => exact .lst (SqL.of hs) (daa_dp ds _ c ha)
  | .tuple ds, _, c, h => by
    cases h with
    | tup hs ha => exact .tup hs (daa_dp ds _ c ha)
  | .dict _, _, c, _ => by cases c
theorem daa_dp : ∀ (ds : List D) (vs : List V), PyData.canLayAll0 ds = true → DaAll K H vs ds → DpAll K H vs ds
  | [], _, _, h => by cases h; exact .nil
  | d :: ds, _, c, h => by
    have c' : (PyData.canLay0 d && PyData.canLayAll0 ds) = true := c
    rw [Bool.and_eq_true] at c'
    cases h with
    | cons h1 h2 => exact .cons (da_dp d _ c'.1 h1) (daa_dp ds _ c'.2 h2)
end
theorem Da.dp {v : V} {d : D} (h : Da K H v d) (c : SeqAt.shaped d = true) : Dp K H v d := da_dp d v (SeqAt.canLay_of_shaped c) h
theorem dpa_len : ∀ {vs : List V} {ds : List D}, DaAll K H vs ds → vs.length = ds.length
  | _, _, .nil => rfl
  | _, _, .cons _ t => congrArg (· + 1) (dpa_len t)
theorem dpa_get : ∀ {vs : List V} {ds : List D} {i : Nat} {d : D}, DaAll K H vs ds → ds[i]? = some d → ∃ v, vs[i]? = some v ∧ Da K H v d
  | _, _, _, _, .nil, h => by simp at h
  | _, _, 0, _, .cons a _, h => by simp at h; subst h; exact ⟨_, rfl, a⟩
  | _, _, i + 1, d, .cons _ t, h => by
    obtain ⟨v, h1, h2⟩ := dpa_get (i := i) (d := d) t (by simpa using h)
    exact ⟨v, by simpa using h1, h2⟩
theorem dpa_get' : ∀ {vs : List V} {ds : List D} {i : Nat} {v : V}, DaAll K H vs ds → vs[i]? = some v → ∃ d, ds[i]? = some d ∧ Da K H v d
  | _, _, _, _, .nil, h => by simp at h
  | _, _, 0, _, .cons a _, h => by simp at h; subst h; exact ⟨_, rfl, a⟩
  | _, _, i + 1, d, .cons _ t, h => by
    obtain ⟨v, h1, h2⟩ := dpa_get' (i := i) t (by simpa using h)
    exact ⟨v, by simpa using h1, h2⟩
theorem dpa_app : ∀ {vs us : List V} {ds es : List D}, DaAll K H vs ds → DaAll K H us es → DaAll K H (vs ++ us) (ds ++ es)
  | _, _, _, _, .nil, h => h
  | _, _, _, _, .cons a t, h => .cons a (dpa_app t h)
theorem dpa_take : ∀ {vs : List V} {ds : List D} (n : Nat), DaAll K H vs ds → DaAll K H (vs.take n) (ds.take n)
  | _, _, 0, _ => .nil
  | _, _, _ + 1, .nil => .nil
  | _, _, n + 1, .cons r t => .cons r (dpa_take n t)
theorem dpa_drop : ∀ {vs : List V} {ds : List D} (n : Nat), DaAll K H vs ds → DaAll K H (vs.drop n) (ds.drop n)
  | _, _, 0, h => h
  | _, _, _ + 1, .nil => .nil
  | _, _, n + 1, .cons _ t => dpa_drop n t
theorem dpa_set : ∀ {vs : List V} {ds : List D} {v : V} {d : D} (n : Nat), DaAll K H vs ds → Da K H v d → DaAll K H (vs.set n v) (ds.set n d)
  | _, _, _, _, _, .nil, _ => .nil
  | _, _, _, _, 0, .cons _ t, h => .cons h t
  | _, _, _, _, n + 1, .cons r t, h => .cons r (dpa_set n t h)
theorem dpa_erase : ∀ {vs : List V} {ds : List D} (n : Nat), DaAll K H vs ds → DaAll K H (vs.eraseIdx n) (ds.eraseIdx n)
  | _, _, _, .nil => .nil
  | _, _, 0, .cons _ t => t
  | _, _, n + 1, .cons r t => .cons r (dpa_erase n t)
theorem dpa_rev : ∀ {vs : List V} {ds : List D}, DaAll K H vs ds → DaAll K H vs.reverse ds.reverse
  | _, _, .nil => .nil
  | _, _, .cons r t => by
    rw [List.reverse_cons, List.reverse_cons]
    exact dpa_app (dpa_rev t) (.cons r .nil)
theorem dpa_ints : ∀ (ns : List Int), DaAll K H (ns.map V.int) (ns.map PyData.int)
  | [] => .nil
  | n :: ns => .cons (.int n) (dpa_ints ns)
theorem dpa_ints_inv : ∀ {vs : List V} (ns : List Int), DaAll K H vs (ns.map PyData.int) → vs = ns.map V.int
  | _, [], h => by cases h; rfl
  | _, n :: ns, h => by
    cases h with
    | cons a t => cases a; rw [dpa_ints_inv ns t]; rfl
theorem dpa_bls_inv : ∀ {vs : List V} (ns : List Bool), DaAll K H vs (ns.map PyData.bool) → vs = ns.map V.bl
  | _, [], h => by cases h; rfl
  | _, n :: ns, h => by
    cases h with
    | cons a t => cases a; rw [dpa_bls_inv ns t]; rfl
end

/-! ### slots -/
inductive Sl where
  /-- data -/
  | imm (d : D)
  /-- a list of one's own, which may change -/
  | own (ds : List D)
  /-- the law's own list of ints, never written -/
  | scr (ns : List Int)
  /-- an object that is being made -/
  | adr (a : Addr)
  /-- an exception in hand: its object, its dict, what it keeps -/
  | exc (a dx : Addr) (ns : List Str) (ds : List D)
  /-- a def of the module -/
  | fnv (nm : Str)
  | un
abbrev En := List Sl
/-- a list that is never written: locked, or of the module -/
def SqS (K : PySem.W.Frag) (H : Hp) (a : Addr) (xs : List V) : Prop := (∃ o, H a = some (.frz o (.lst xs))) ∨ ∀ H', SqL K H' a xs
theorem SqS.l {K : PySem.W.Frag} {H : Hp} {a : Addr} {xs : List V} (h : SqS K H a xs) : SqL K H a xs := by
  rcases h with ⟨o, h⟩ | h
  · exact Or.inl (Or.inr ⟨o, h⟩)
  · exact h H
theorem sqs_ex {K : PySem.W.Frag} {H H' : Hp} {a : Addr} {xs : List V} (e : Ex H H') (h : SqS K H a xs) : SqS K H' a xs := by
  rcases h with ⟨o, h⟩ | h
  · exact Or.inl ⟨o, e _ _ h⟩
  · exact Or.inr h
def SlOk (K : PySem.W.Frag) (I H : Hp) (v : Option (Option V)) : Sl → Prop
  | .un => True
  | .imm d => ∃ x, v = some (some x) ∧ Da K I x d
  | .own ds => ∃ l vs, v = some (some (.ref l)) ∧ I l = none ∧ H l = some (.lst vs) ∧ DaAll K I vs ds
  | .scr ns => ∃ a, v = some (some (.ref a)) ∧ SqS K I a (ns.map V.int)
  | .adr a => v = some (some (.ref a))
  | .fnv nm => v = some (some (.ref (He.ga K nm)))
  | .exc a dx ns ds => v = some (some (.ref a)) ∧ ∃ vs, I dx = some (.xd (ns.zip vs)) ∧ ns.length = vs.length ∧ DaAll K I vs ds
structure Gh where
  He : Hp
  I0 : Hp
  J : Option Addr
  /-- objects of the code around, which stay as they are -/
  P : List (Addr × HO) := []
/-- tables of code objects (address, name), and what is wanted of the heaps when an exception leaves -/
structure Zt where
  T : List (Addr × Str) := []
  Z : Sg → En → Hp → Hp → Prop := fun _ _ _ _ => True
/-- no table, no exception -/
def ζ0 : Zt := ⟨[], fun _ _ _ _ => True⟩
def isTb (ζ : Zt) (a : Addr) : Prop := a ∈ ζ.T.map (·.1)
theorem isTb_Nil {z : Sg → En → Hp → Hp → Prop} {a : Addr} {p : Prop} (h : isTb ⟨[], z⟩ a) : p := by unfold isTb at h; cases h
theorem isTb0 {a : Addr} : ¬ isTb ζ0 a := by unfold isTb ζ0; simp
theorem isTb_nil {z : Sg → En → Hp → Hp → Prop} {a : Addr} : ¬ isTb ⟨[], z⟩ a := by unfold isTb; simp
def NoT : HO → Prop
  | .tbl _ => False
  | .ext _ => False
  | _ => True
theorem Tabs_nil {H : Hp} : LamX.Tabs [] H := fun _ h => by cases h
theorem tabs_n {T : List (Addr × Str)} {H H' : Hp} (t : LamX.Tabs T H) (e : ∀ b o, ¬ NoT o → H b = some o → H' b = some o) : LamX.Tabs T H' := fun p hp => by
  obtain ⟨ps, h1, h2, h3⟩ := t p hp
  refine ⟨ps, e _ _ (fun z => z) h1, h2, fun pos cv hc => ?_⟩
  obtain ⟨c, e1, e2⟩ := h3 pos cv hc
  exact ⟨c, e1, e _ _ (fun z => z) e2⟩
theorem tabs_upd {T : List (Addr × Str)} {H : Hp} {l : Addr} {u w : HO} (t : LamX.Tabs T H) (h : H l = some u) (n : NoT u) : LamX.Tabs T (upd H l w) := tabs_n t fun b o no hb => by
  rw [upd_ne]
  · exact hb
  · intro e
    subst e
    rw [h] at hb
    cases hb
    exact no n
/-- slot i holds one's own list at l -/
def OwnAt (σ : Sg) (en : En) (i : Nat) (l : Addr) : Prop := σ[i]? = some (some (V.ref l)) ∧ ∃ ds, en[i]? = some (.own ds)
/-- what stays true, whatever is protected -/
structure Core (K : PySem.W.Frag) (ζ : Zt) (He I0 : Hp) (J : Option Addr) (σ : Sg) (en : En) (H I : Hp) : Prop where
  i0 : Ex I0 I
  iH : Ex I H
  nw : ∀ a, He a ≠ none → I0 a = none → I a = none
  fr : ∀ a o, He a = some o → J ≠ some a → ¬ isTb ζ a → H a = some o
  ln : σ.length = en.length
  sl : ∀ (i : Nat) (s : Sl), en[i]? = some s → SlOk K I H σ[i]? s
  ml : ∀ (i : Nat) (l : Addr), OwnAt σ en i l → J = some l ∨ He l = none
  ds : ∀ (i j : Nat) (l : Addr), OwnAt σ en i l → OwnAt σ en j l → i = j
  pj : ∀ l, J = some l → OwnAt σ en 0 l
  tt : LamX.Tabs ζ.T H
abbrev LK (K : PySem.W.Frag) (ζ : Zt) (G : Gh) : Prop := ∀ σ' en' H' I', Core K ζ G.He G.I0 G.J σ' en' H' I' → ζ.Z σ' en' H' I'
structure Ok (K : PySem.W.Frag) (ζ : Zt) (G : Gh) (σ : Sg) (en : En) (H I : Hp) : Prop where
  i0 : Ex G.I0 I
  iH : Ex I H
  nw : ∀ a, G.He a ≠ none → G.I0 a = none → I a = none
  fr : ∀ a o, G.He a = some o → G.J ≠ some a → ¬ isTb ζ a → H a = some o
  ln : σ.length = en.length
  sl : ∀ (i : Nat) (s : Sl), en[i]? = some s → SlOk K I H σ[i]? s
  ml : ∀ (i : Nat) (l : Addr), OwnAt σ en i l → G.J = some l ∨ G.He l = none
  ds : ∀ (i j : Nat) (l : Addr), OwnAt σ en i l → OwnAt σ en j l → i = j
  pj : ∀ l, G.J = some l → OwnAt σ en 0 l
  pr : ∀ p ∈ G.P, H p.1 = some p.2 ∧ I p.1 = none ∧ ∀ i, ¬ OwnAt σ en i p.1
  pn : ∀ p ∈ G.P, NoT p.2
  tg : ∀ a, isTb ζ a → I a = none
  tt : LamX.Tabs ζ.T H
  lk : LK K ζ G
section
variable {K : PySem.W.Frag} {ζ : Zt} {G : Gh} {σ : Sg} {en : En} {H I H' I' : Hp}
theorem Ok.own (o : Ok K ζ G σ en H I) {i : Nat} {ds : List D} (h : en[i]? = some (.own ds)) : ∃ l vs, σ[i]? = some (some (.ref l)) ∧ I l = none ∧ H l = some (.lst vs) ∧ DaAll K I vs ds := o.sl i _ h
theorem Ok.imm (o : Ok K ζ G σ en H I) {i : Nat} {d : D} (h : en[i]? = some (.imm d)) : ∃ x, σ[i]? = some (some x) ∧ Da K I x d := o.sl i _ h
theorem Ok.core (o : Ok K ζ G σ en H I) : Core K ζ G.He G.I0 G.J σ en H I := ⟨o.i0, o.iH, o.nw, o.fr, o.ln, o.sl, o.ml, o.ds, o.pj, o.tt⟩
theorem Ok.z (o : Ok K ζ G σ en H I) : ζ.Z σ en H I := o.lk σ en H I o.core
/-- what was there is there -/
theorem Ok.th (o : Ok K ζ G σ en H I) {a : Addr} {u : HO} (h : G.He a = some u) (hj : G.J ≠ some a) : ∃ v, H a = some v := by
  by_cases ht : isTb ζ a
  · obtain ⟨p, hp, e⟩ := List.mem_map.mp ht
    subst e
    obtain ⟨ps, h1, _⟩ := o.tt p hp
    exact ⟨_, h1⟩
  · exact ⟨u, o.fr a u h hj ht⟩
theorem Ok.tgn (o : Ok K ζ G σ en H I) {a : Addr} (ha : isTb ζ a) (n : ∀ a, I' a ≠ none → I a = none → H a = none) : I' a = none := by
  cases h : I' a with
  | none => rfl
  | some u =>
    have h1 := n a (by rw [h]; simp) (o.tg a ha)
    obtain ⟨p, hp, e⟩ := List.mem_map.mp ha
    subst e
    obtain ⟨ps, h2, _⟩ := o.tt p hp
    rw [h1] at h2
    cases h2
theorem Ok.ntb (o : Ok K ζ G σ en H I) {a : Addr} {u : HO} (h : H a = some u) (n : NoT u) : ¬ isTb ζ a := fun ht => by
  obtain ⟨p, hp, e⟩ := List.mem_map.mp ht
  subst e
  obtain ⟨ps, h1, _⟩ := o.tt p hp
  rw [h] at h1
  cases h1
  exact n
/-- the heap grows by what is new -/
theorem Ok.grow (o : Ok K ζ G σ en H I) (e1 : Ex H H') (e2 : Ex I I') (e3 : Ex I' H') (n : ∀ a, I' a ≠ none → I a = none → H a = none) : Ok K ζ G σ en H' I' := by
  refine ⟨o.i0.tr e2, e3, fun a h1 h2 => ?_, fun a u h1 h2 h3 => e1 a u (o.fr a u h1 h2 h3), o.ln, fun i s h => ?_, o.ml, o.ds, o.pj, fun p hp => ?_, o.pn, fun a ha => o.tgn ha n, o.tt.ext e1, o.lk⟩
  · have h3 := o.nw a h1 h2
    by_cases h4 : I' a = none
    · exact h4
    · have h5 := n a h4 h3
      by_cases hj : G.J = some a
      · obtain ⟨q, ds, q2⟩ := o.pj a hj
        obtain ⟨l, vs, q3, _, q5, _⟩ := o.own q2
        rw [q] at q3
        have q4 : a = l := by injection q3 with q3; injection q3 with q3; injection q3
        rw [q4, q5] at h5
        cases h5
      · cases h6 : G.He a with
        | none => exact absurd h6 h1
        | some u => obtain ⟨v, hv⟩ := o.th h6 hj; rw [hv] at h5; cases h5
  · have q := o.sl i s h
    cases s with
    | un => trivial
    | scr ns => obtain ⟨a, q1, q2⟩ := q; exact ⟨a, q1, sqs_ex e2 q2⟩
    | adr a => exact q
    | fnv nm => exact q
    | exc a dx ns ds => obtain ⟨q1, vs, q2, q3, q4⟩ := q; exact ⟨q1, vs, e2 _ _ q2, q3, q4.up e2⟩
    | imm d =>
      obtain ⟨x, q1, q2⟩ := q
      exact ⟨x, q1, q2.up e2⟩
    | own ds =>
      obtain ⟨l, vs, q1, q2, q3, q4⟩ := q
      refine ⟨l, vs, q1, ?_, e1 _ _ q3, q4.up e2⟩
      by_cases h4 : I' l = none
      · exact h4
      · have h5 := n l h4 q2
        rw [q3] at h5
        cases h5
  · obtain ⟨q1, q2, q3⟩ := o.pr p hp
    refine ⟨e1 _ _ q1, ?_, q3⟩
    by_cases h4 : I' p.1 = none
    · exact h4
    · have h5 := n p.1 h4 q2
      rw [q1] at h5
      cases h5
/-- one new object, known from now on -/
theorem Ok.new (o : Ok K ζ G σ en H I) {p : Addr} {u : HO} (hp : H p = none) : Ok K ζ G σ en (upd H p u) (upd I p u) ∧ Ex I (upd I p u) := by
  have hi : I p = none := o.iH.no hp
  refine ⟨o.grow (Ex.up hp) (Ex.up hi) (fun a v h => ?_) fun a h1 h2 => ?_, Ex.up hi⟩
  · by_cases e : a = p
    · subst e; rw [upd_same] at h ⊢; exact h
    · rw [upd_ne e] at h ⊢; exact o.iH a v h
  · by_cases e : a = p
    · subst e; exact hp
    · rw [upd_ne e] at h1; exact absurd h2 h1
end

/-! ### readings over data -/
abbrev WE := En → (D → En → Prop) → Prop
abbrev WT := En → (Bool → En → Prop) → Prop
abbrev WA := En → (List D → En → Prop) → Prop
structure Ed where
  nx : En → Prop
  rt : D → En → Prop
  bk : En → Prop := fun _ => False
  ct : En → Prop := fun _ => False
abbrev WS := Ed → En → Prop
section
variable (K : PySem.W.Frag) (ζ : Zt)
def lE (w : WE) : TE := fun σ H Q => ∃ (G : Gh) (en : En) (I : Hp) (Q' : D → En → Prop), Ok K ζ G σ en H I ∧ w en Q' ∧
  ∀ v H' I' en' d, Ok K ζ G σ en' H' I' → Ex I I' → Da K I' v d → Q' d en' → Q v H'
def lT (w : WT) : TT := fun σ H Q => ∃ (G : Gh) (en : En) (I : Hp) (Q' : Bool → En → Prop), Ok K ζ G σ en H I ∧ w en Q' ∧
  ∀ b H' I' en', Ok K ζ G σ en' H' I' → Ex I I' → Q' b en' → Q b H'
def lA (w : WA) : TA := fun σ H Q => ∃ (G : Gh) (en : En) (I : Hp) (Q' : List D → En → Prop), Ok K ζ G σ en H I ∧ w en Q' ∧
  ∀ vs H' I' en' ds, Ok K ζ G σ en' H' I' → Ex I I' → DaAll K I' vs ds → Q' ds en' → Q vs H'
def lS (w : WS) : TS := fun R σ H => ∃ (G : Gh) (en : En) (I : Hp) (R' : Ed), Ok K ζ G σ en H I ∧ w R' en ∧
  (∀ σ' H' I' en', Ok K ζ G σ' en' H' I' → R'.nx en' → R.nx σ' H') ∧
  (∀ v σ' H' I' en' d, Ok K ζ G σ' en' H' I' → Da K I' v d → R'.rt d en' → R.rt v H') ∧
  (∀ σ' H' I' en', Ok K ζ G σ' en' H' I' → R'.bk en' → R.bk σ' H') ∧
  (∀ σ' H' I' en', Ok K ζ G σ' en' H' I' → R'.ct en' → R.ct σ' H')
end
theorem _root_.L2.PE.mo {X : Cx} {e : Expr} {t t' : TE} (h : PE X e t) (m : ∀ σ H Q, t' σ H Q → t σ H Q) : PE X e t' := ⟨fun pins s σ H Q I q => h.run pins s σ H Q I (m σ H Q q)⟩
theorem _root_.L2.PT.mo {X : Cx} {e : Expr} {t t' : TT} (h : PT X e t) (m : ∀ σ H Q, t' σ H Q → t σ H Q) : PT X e t' := ⟨fun pins s σ H Q I q => h.run pins s σ H Q I (m σ H Q q)⟩
theorem _root_.L2.PW.mo {X : Cx} {e : Expr} {t t' : TT} (h : PW X e t) (m : ∀ σ H Q, t' σ H Q → t σ H Q) : PW X e t' := ⟨fun wh pins s σ H Q I q => h.run wh pins s σ H Q I (m σ H Q q)⟩
theorem _root_.L2.PA.mo {X : Cx} {e : List Expr} {t t' : TA} (h : PA X e t) (m : ∀ σ H Q, t' σ H Q → t σ H Q) : PA X e t' := ⟨fun pos pins s σ H Q I q => h.run pos pins s σ H Q I (m σ H Q q)⟩
theorem _root_.L2.PS.mo {X : Cx} {e : Stmt} {t t' : TS} (h : PS X e t) (m : ∀ D σ H, t' D σ H → t D σ H) : PS X e t' := ⟨fun pins s σ H D I q => h.run pins s σ H D I (m D σ H q)⟩
theorem _root_.L2.PSs.mo {X : Cx} {e : List Stmt} {t t' : TS} (h : PSs X e t) (m : ∀ D σ H, t' D σ H → t D σ H) : PSs X e t' := ⟨fun pins s σ H D I q => h.run pins s σ H D I (m D σ H q)⟩
end Pd

set_option Elab.async false
set_option linter.all false
set_option maxRecDepth 100000
set_option maxHeartbeats 4000000
namespace Pd
open PySem PySem.Spec PyProof.Rows L2
/-! ### names, constants -/
def wVar (i : Nat) : WE := fun en Q => ∃ d, en[i]? = some (.imm d) ∧ Q d en
def wC (d : D) : WE := fun en Q => Q d en
section
variable {X : Cx} {e a b c : Expr} {es : List Expr} {pos : Pos} {wa wb wc : WE}
theorem d_var {i : Nat} (h : PE X e (tVar i)) : PE X e (lE X.K ζ (wVar i)) := h.mo fun σ H Q ⟨G, en, I, Q', o, ⟨d, hd, q⟩, k⟩ => by
  obtain ⟨x, h1, h2⟩ := o.imm hd
  exact ⟨x, h1, k x H I en d o (Ex.rf I) h2 q⟩
theorem d_c {v : V} {d : D} (h : PE X e (tC v)) (hd : ∀ H, Da X.K H v d) : PE X e (lE X.K ζ (wC d)) := h.mo fun σ H Q ⟨G, en, I, Q', o, q, k⟩ => k v H I en d o (Ex.rf I) (hd I) q
theorem d_int {i j pos} : PE X (.Constant (.int i) j pos) (lE X.K ζ (wC (.int i))) := d_c pe_int fun _ => .int i
theorem d_bl {b j pos} : PE X (.Constant (.bool b) j pos) (lE X.K ζ (wC (.bool b))) := d_c pe_bl fun _ => .bl b
theorem d_non {j pos} : PE X (.Constant .none j pos) (lE X.K ζ (wC .none)) := d_c pe_non fun _ => .non
theorem d_str {x j pos} : PE X (.Constant (.str x) j pos) (lE X.K ζ (wC (.str x))) := d_c pe_str fun _ => .str x

/-! ### operators -/
/-- what comes of an operation: the heap grown by what is new -/
structure Gr (H I H' I' : Hp) : Prop where
  h : Ex H H'
  i : Ex I I'
  s : Ex I' H'
  n : ∀ a, I' a ≠ none → I a = none → H a = none
theorem Gr.rf {H I : Hp} (e : Ex I H) : Gr H I H I := ⟨Ex.rf _, Ex.rf _, e, fun a h1 h2 => absurd h2 h1⟩
theorem Gr.nw {H I : Hp} {p : Addr} {u : HO} (e : Ex I H) (hp : H p = none) : Gr H I (upd H p u) (upd I p u) := by
  have hi : I p = none := e.no hp
  refine ⟨Ex.up hp, Ex.up hi, fun a v h => ?_, fun a h1 h2 => ?_⟩
  · by_cases q : a = p
    · subst q; rw [upd_same] at h ⊢; exact h
    · rw [upd_ne q] at h ⊢; exact e a v h
  · by_cases q : a = p
    · subst q; exact hp
    · rw [upd_ne q] at h1; exact absurd h2 h1
theorem Ok.gr {K : PySem.W.Frag} {G : Gh} {σ : Sg} {en : En} {H I H' I' : Hp} (o : Ok K ζ G σ en H I) (g : Gr H I H' I') : Ok K ζ G σ en H' I' := o.grow g.h g.i g.s g.n
/-- r does on values what f tells of data -/
def SndOp (K : PySem.W.Frag) (r : R2) (f : D → D → D → Prop) : Prop := ∀ (H I : Hp) (x y : V) (d e z : D), Ex I H → Da K I x d → Da K I y e → f d e z → ∀ Q : VK, (∀ v H' I', Gr H I H' I' → Da K I' v z → Q v H') → r x y H Q
def SndUn (K : PySem.W.Frag) (r : V → Hp → VK → Prop) (f : D → D → Prop) : Prop := ∀ (H I : Hp) (x : V) (d z : D), Ex I H → Da K I x d → f d z → ∀ Q : VK, (∀ v H' I', Gr H I H' I' → Da K I' v z → Q v H') → r x H Q
def SndCl (K : PySem.W.Frag) (r : List V → Hp → VK → Prop) (f : List D → D → Prop) : Prop := ∀ (H I : Hp) (xs : List V) (ds : List D) (z : D), Ex I H → DaAll K I xs ds → f ds z → ∀ Q : VK, (∀ v H' I', Gr H I H' I' → Da K I' v z → Q v H') → r xs H Q
def wOp (f : D → D → D → Prop) (wa wb : WE) : WE := fun en Q => wa en fun x e1 => wb e1 fun y e2 => ∃ z, f x y z ∧ Q z e2
def wUn (f : D → D → Prop) (wa : WE) : WE := fun en Q => wa en fun x e1 => ∃ z, f x z ∧ Q z e1
def wCl (f : List D → D → Prop) (wa : WA) : WE := fun en Q => wa en fun xs e1 => ∃ z, f xs z ∧ Q z e1
theorem lop {r : R2} {f : D → D → D → Prop} (h : SndOp X.K r f) {σ : Sg} {H : Hp} {Q : VK} (q : lE X.K ζ (wOp f wa wb) σ H Q) : tOp r (lE X.K ζ wa) (lE X.K ζ wb) σ H Q := by
  obtain ⟨G, en, I, Q', o, q, k⟩ := q
  refine ⟨G, en, I, _, o, q, fun v H1 I1 e1 d o1 x1 dv q1 => ?_⟩
  refine ⟨G, e1, I1, _, o1, q1, fun u H2 I2 e2 d2 o2 x2 du q2 => ?_⟩
  obtain ⟨z, fz, q2⟩ := q2
  exact h H2 I2 v u d d2 z o2.iH (dv.up x2) du fz Q fun v' H3 I3 g dz => k v' H3 I3 e2 z (o2.gr g) ((x1.tr x2).tr g.i) dz q2
theorem d_op {op : Operator} {r : R2} {f : D → D → D → Prop} (ho : OpR X (binaryOp op) r) (hs : SndOp X.K r f) (ha : PE X a (lE X.K ζ wa)) (hb : PE X b (lE X.K ζ wb)) : PE X (.BinOp a op b pos) (lE X.K ζ (wOp f wa wb)) :=
  (pe_op ho ha hb).mo fun σ H Q q => lop hs q
theorem d_un {op : UnaryOp} {r : V → Hp → VK → Prop} {f : D → D → Prop} (ho : UnR X (unaryOp op) r) (hs : SndUn X.K r f) (ha : PE X a (lE X.K ζ wa)) : PE X (.UnaryOp op a pos) (lE X.K ζ (wUn f wa)) :=
  (pe_un ho ha).mo fun σ H Q ⟨G, en, I, Q', o, q, k⟩ => ⟨G, en, I, _, o, q, fun v H1 I1 e1 d o1 x1 dv ⟨z, fz, q1⟩ => hs H1 I1 v d z o1.iH dv fz Q fun v' H3 I3 g dz => k v' H3 I3 e1 z (o1.gr g) (x1.tr g.i) dz q1⟩
theorem d_cmp {op : CmpOp} {r : R2} {f : D → D → D → Prop} (ho : OpR X (compareOp op) r) (hs : SndOp X.K r f) (ha : PE X a (lE X.K ζ wa)) (hb : PE X b (lE X.K ζ wb)) (hm : behindInMarks op b = false) : PE X (.Compare a [op] [b] pos) (lE X.K ζ (wOp f wa wb)) :=
  (pe_cmpR ho ha hb hm).mo fun σ H Q q => lop hs q
/-! ### tests -/
/-- a bool -/
def wB (w : WE) : WT := fun en Q => w en fun d e1 => ∃ c, d = .bool c ∧ Q c e1
def Tru : D → Bool → Prop
  | .none, k => k = false
  | .bool b, k => k = b
  | .int i, k => k = (i != 0)
  | .str y, k => y.length ≤ sizeLine ∧ k = ((y.length : Int) != 0)
  | .list ds, k => k = !ds.isEmpty
  | .tuple ds, k => k = !ds.isEmpty
  | .dict _, _ => False
def wTr (w : WE) : WT := fun en Q => w en fun d e1 => ∃ c, Tru d c ∧ Q c e1
theorem dp_bl {K : PySem.W.Frag} {I : Hp} {v : V} {c : Bool} (h : Da K I v (.bool c)) : v = .bl c := by cases h; rfl
theorem dp_int {K : PySem.W.Frag} {I : Hp} {v : V} {c : Int} (h : Da K I v (.int c)) : v = .int c := by cases h; rfl
theorem dpa_emp {K : PySem.W.Frag} {I : Hp} {vs : List V} {ds : List D} (h : DaAll K I vs ds) : vs.isEmpty = ds.isEmpty := by cases h <;> rfl
theorem ltst {σ : Sg} {H : Hp} {Q : Bool → Hp → Prop} {w : WE} (q : lT X.K ζ (wB w) σ H Q) : lE X.K ζ w σ H fun x H' => ∃ k, x = .bl k ∧ Q k H' := by
  obtain ⟨G, en, I, Q', o, q, k⟩ := q
  refine ⟨G, en, I, _, o, q, fun v H1 I1 e1 d o1 x1 dv q1 => ?_⟩
  obtain ⟨c, rfl, q1⟩ := q1
  exact ⟨c, dp_bl dv, k c H1 I1 e1 o1 x1 q1⟩
theorem t_cmp {op : CmpOp} {r : R2} {f : D → D → D → Prop} (ho : OpR X (compareOp op) r) (hs : SndOp X.K r f) (ha : PE X a (lE X.K ζ wa)) (hb : PE X b (lE X.K ζ wb)) (hm : behindInMarks op b = false) : PT X (.Compare a [op] [b] pos) (lT X.K ζ (wB (wOp f wa wb))) :=
  (pt_cmpR ho ha hb hm).mo fun σ H Q q => by
    obtain ⟨G, en, I, Q2, o, q2, k⟩ := ltst q
    exact lop hs ⟨G, en, I, Q2, o, q2, k⟩
theorem t_val {w : WE} (h : PE X e (lE X.K ζ w)) (he : ∀ whole, isTrue e X.env whole = (do let v ← whole; standAt e.pos; holding [v] (truthy v)) := by intro _; rfl) : PT X e (lT X.K ζ (wB w)) :=
  (pt_val h he).mo fun σ H Q q => ltst q
theorem t_tru {w : WE} (h : PE X e (lE X.K ζ w)) (he : ∀ whole, isTrue e X.env whole = (do let v ← whole; standAt e.pos; holding [v] (truthy v)) := by intro _; rfl) : PT X e (lT X.K ζ (wTr w)) :=
  (pt_truth h he).mo fun σ H Q ⟨G, en, I, Q', o, q, k⟩ => ⟨G, en, I, _, o, q, fun v H1 I1 e1 d o1 x1 dv ⟨c, hc, q1⟩ => ⟨c, by
    cases dv with
    | non => exact hc
    | bl b => exact hc
    | int i => exact hc
    | dic h => exact hc.elim
    | obj _ h _ _ => exact hc.elim
    | str x => exact hc
    | lst hs ha =>
      have h2 : c = !_ := hc
      exact Or.inl ⟨_, SqL.of (o1.iH _ _ hs), by rw [dpa_emp ha]; exact h2⟩
    | tup hs ha =>
      have h2 : c = !_ := hc
      exact Or.inr (Or.inl ⟨_, sqt_ex o1.iH hs, by rw [dpa_emp ha]; exact h2⟩), k c H1 I1 e1 o1 x1 q1⟩⟩
def wAnd (t u : WT) : WT := fun en Q => t en fun c e1 => if c = true then u e1 Q else Q false e1
def wOr (t u : WT) : WT := fun en Q => t en fun c e1 => if c = true then Q true e1 else u e1 Q
def wNot (t : WT) : WT := fun en Q => t en fun c e1 => Q (!c) e1
variable {t u : WT} {rest : List Expr}
theorem t_and1 (ha : PT X a (lT X.K ζ t)) : PW X (.BoolOp .And [a] pos) (lT X.K ζ t) := pw_and1 ha
theorem t_or1 (ha : PT X a (lT X.K ζ t)) : PW X (.BoolOp .Or [a] pos) (lT X.K ζ t) := pw_or1 ha
theorem t_and (ha : PT X a (lT X.K ζ t)) (hb : PW X (.BoolOp .And (b :: rest) pos) (lT X.K ζ u)) : PW X (.BoolOp .And (a :: b :: rest) pos) (lT X.K ζ (wAnd t u)) :=
  (pw_and ha hb).mo fun σ H Q ⟨G, en, I, Q', o, q, k⟩ => ⟨G, en, I, _, o, q, fun c H1 I1 e1 o1 x1 q1 => by
    cases c with
    | true => exact ⟨G, e1, I1, Q', o1, q1, fun b H2 I2 e2 o2 x2 q2 => k b H2 I2 e2 o2 (x1.tr x2) q2⟩
    | false => exact k false H1 I1 e1 o1 x1 q1⟩
theorem t_or (ha : PT X a (lT X.K ζ t)) (hb : PW X (.BoolOp .Or (b :: rest) pos) (lT X.K ζ u)) : PW X (.BoolOp .Or (a :: b :: rest) pos) (lT X.K ζ (wOr t u)) :=
  (pw_or ha hb).mo fun σ H Q ⟨G, en, I, Q', o, q, k⟩ => ⟨G, en, I, _, o, q, fun c H1 I1 e1 o1 x1 q1 => by
    cases c with
    | false => exact ⟨G, e1, I1, Q', o1, q1, fun b H2 I2 e2 o2 x2 q2 => k b H2 I2 e2 o2 (x1.tr x2) q2⟩
    | true => exact k true H1 I1 e1 o1 x1 q1⟩
theorem t_not (ha : PT X a (lT X.K ζ t)) : PT X (.UnaryOp .Not a pos) (lT X.K ζ (wNot t)) :=
  (pt_not ha).mo fun σ H Q ⟨G, en, I, Q', o, q, k⟩ => ⟨G, en, I, _, o, q, fun c H1 I1 e1 o1 x1 q1 => k (!c) H1 I1 e1 o1 x1 q1⟩
def wAndV (wa wb : WE) : WE := fun en Q => wa en fun d e1 => ∃ c, d = .bool c ∧ if c = true then wb e1 Q else Q (.bool false) e1
def wOrV (wa wb : WE) : WE := fun en Q => wa en fun d e1 => ∃ c, d = .bool c ∧ if c = true then Q (.bool true) e1 else wb e1 Q
def wNotV (wa : WE) : WE := fun en Q => wa en fun d e1 => ∃ c, d = .bool c ∧ Q (.bool (!c)) e1
theorem d_one {op} (h : PE X a (lE X.K ζ wa)) : PE X (.BoolOp op [a] pos) (lE X.K ζ wa) := pe_one h
theorem d_and (ha : PE X a (lE X.K ζ wa)) (hb : PE X (.BoolOp .And (b :: rest) pos) (lE X.K ζ wb)) : PE X (.BoolOp .And (a :: b :: rest) pos) (lE X.K ζ (wAndV wa wb)) :=
  (pe_and ha hb).mo fun σ H Q ⟨G, en, I, Q', o, q, k⟩ => ⟨G, en, I, _, o, q, fun v H1 I1 e1 d o1 x1 dv ⟨c, hc, q1⟩ => by
    subst hc
    refine ⟨c, dp_bl dv, ?_⟩
    cases c with
    | true => exact ⟨G, e1, I1, Q', o1, q1, fun v H2 I2 e2 d2 o2 x2 dv2 q2 => k v H2 I2 e2 d2 o2 (x1.tr x2) dv2 q2⟩
    | false => exact k (.bl false) H1 I1 e1 _ o1 x1 (.bl false) q1⟩
theorem d_or (ha : PE X a (lE X.K ζ wa)) (hb : PE X (.BoolOp .Or (b :: rest) pos) (lE X.K ζ wb)) : PE X (.BoolOp .Or (a :: b :: rest) pos) (lE X.K ζ (wOrV wa wb)) :=
  (pe_or ha hb).mo fun σ H Q ⟨G, en, I, Q', o, q, k⟩ => ⟨G, en, I, _, o, q, fun v H1 I1 e1 d o1 x1 dv ⟨c, hc, q1⟩ => by
    subst hc
    refine ⟨c, dp_bl dv, ?_⟩
    cases c with
    | false => exact ⟨G, e1, I1, Q', o1, q1, fun v H2 I2 e2 d2 o2 x2 dv2 q2 => k v H2 I2 e2 d2 o2 (x1.tr x2) dv2 q2⟩
    | true => exact k (.bl true) H1 I1 e1 _ o1 x1 (.bl true) q1⟩
theorem d_not (ha : PE X a (lE X.K ζ wa)) : PE X (.UnaryOp .Not a pos) (lE X.K ζ (wNotV wa)) :=
  (pe_not ha).mo fun σ H Q ⟨G, en, I, Q', o, q, k⟩ => ⟨G, en, I, _, o, q, fun v H1 I1 e1 d o1 x1 dv ⟨c, hc, q1⟩ => by
    subst hc
    exact ⟨c, dp_bl dv, k (.bl (!c)) H1 I1 e1 _ o1 x1 (.bl _) q1⟩⟩
def wIf (t : WT) (wa wb : WE) : WE := fun en Q => t en fun c e1 => if c = true then wa e1 Q else wb e1 Q
theorem d_if (hc : PT X c (lT X.K ζ t)) (ha : PE X a (lE X.K ζ wa)) (hb : PE X b (lE X.K ζ wb)) : PE X (.IfExp c a b pos) (lE X.K ζ (wIf t wa wb)) :=
  (pe_ifExp hc ha hb).mo fun σ H Q ⟨G, en, I, Q', o, q, k⟩ => ⟨G, en, I, _, o, q, fun c H1 I1 e1 o1 x1 q1 => by
    cases c with
    | true => exact ⟨G, e1, I1, Q', o1, q1, fun v H2 I2 e2 d2 o2 x2 dv2 q2 => k v H2 I2 e2 d2 o2 (x1.tr x2) dv2 q2⟩
    | false => exact ⟨G, e1, I1, Q', o1, q1, fun v H2 I2 e2 d2 o2 x2 dv2 q2 => k v H2 I2 e2 d2 o2 (x1.tr x2) dv2 q2⟩⟩
/-- a chain of two comparisons -/
def wCh (f g : D → D → D → Prop) (wa wb wc : WE) : WE := fun en Q => wa en fun x e1 => wb e1 fun y e2 => ∃ b, f x y (.bool b) ∧ if b = true then wc e2 fun z e3 => ∃ r, g y z r ∧ Q r e3 else Q (.bool false) e2
/-! ### argument lists, displays -/
def wNil : WA := fun en Q => Q [] en
def wCons (w : WE) (r : WA) : WA := fun en Q => w en fun d e1 => r e1 fun ds e2 => Q (d :: ds) e2
theorem a_nil : PA X [] (lA X.K ζ wNil) := pa_nil.mo fun σ H Q ⟨G, en, I, Q', o, q, k⟩ => k [] H I en [] o (Ex.rf I) .nil q
theorem a_cons {w : WE} {r : WA} (ha : PE X e (lE X.K ζ w)) (hr : PA X es (lA X.K ζ r)) (hs : starEach (e :: es) X.env = (false, eval e X.env) :: starEach es X.env := by rfl) : PA X (e :: es) (lA X.K ζ (wCons w r)) :=
  (pa_cons ha hr hs).mo fun σ H Q ⟨G, en, I, Q', o, q, k⟩ => ⟨G, en, I, _, o, q, fun v H1 I1 e1 d o1 x1 dv q1 => ⟨G, e1, I1, _, o1, q1, fun vs H2 I2 e2 ds o2 x2 dvs q2 => k (v :: vs) H2 I2 e2 (d :: ds) o2 (x1.tr x2) (.cons (dv.up x2) dvs) q2⟩⟩
def wTup (w : WA) : WE := fun en Q => w en fun ds e1 => ds.length ≤ sizeLine ∧ Q (.tuple ds) e1
theorem d_tup {x1} {w : WA} (h : PA X es (lA X.K ζ w)) : PE X (.Tuple es x1 pos) (lE X.K ζ (wTup w)) :=
  (pe_tup h).mo fun σ H Q ⟨G, en, I, Q', o, q, k⟩ => ⟨G, en, I, _, o, q, fun vs H1 I1 e1 ds o1 x1 dvs ⟨hl, q1⟩ => ⟨by rw [dpa_len dvs]; exact hl, fun p hp => by
    obtain ⟨o2, x2⟩ := o1.new (u := .tup vs) hp
    exact k (.ref p) _ _ e1 _ o2 (x1.tr x2) (.tup (SqT.of upd_same) (dvs.up x2)) q1⟩⟩
/-- a list of one's own: new, its items known -/
def lL (K : PySem.W.Frag) (ζ : Zt) (w : WA) : TE := fun σ H Q => ∃ (G : Gh) (en : En) (I : Hp) (Q' : List D → En → Prop), Ok K ζ G σ en H I ∧ w en Q' ∧
  ∀ p vs H' I' en' ds, Ok K ζ G σ en' H' I' → Ex I I' → H' p = none → DaAll K I' vs ds → Q' ds en' → Q (.ref p) (upd H' p (.lst vs))
def wLe (w : WA) : WE := fun en Q => w en fun ds e1 => Q (.list ds) e1
theorem d_lL {w : WA} (h : PE X e (lL X.K ζ w)) : PE X e (lE X.K ζ (wLe w)) := h.mo fun σ H Q ⟨G, en, I, Q', o, q, k⟩ => ⟨G, en, I, _, o, q, fun p vs H1 I1 e1 ds o1 x1 hp dvs q1 => by
  obtain ⟨o2, x2⟩ := o1.new (u := .lst vs) hp
  exact k (.ref p) _ _ e1 _ o2 (x1.tr x2) (.lst upd_same (dvs.up x2)) q1⟩
def wSz (w : WA) : WA := fun en Q => w en fun ds e1 => ds.length ≤ sizeLine ∧ Q ds e1
theorem l_lst {w : WA} (h : PA X es (lA X.K ζ w)) : PE X (.List es pos) (lL X.K ζ (wSz w)) :=
  (pe_lst h).mo fun σ H Q ⟨G, en, I, Q', o, q, k⟩ => ⟨G, en, I, _, o, q, fun vs H1 I1 e1 ds o1 x1 dvs ⟨hl, q1⟩ => ⟨by rw [dpa_len dvs]; exact hl, fun p hp => k p vs H1 I1 e1 ds o1 x1 hp dvs q1⟩⟩
theorem d_lst {w : WA} (h : PA X es (lA X.K ζ w)) : PE X (.List es pos) (lE X.K ζ (wLe (wSz w))) := d_lL (l_lst h)
/-- a call of a built-in by values -/
theorem lcl {r : List V → Hp → VK → Prop} {f : List D → D → Prop} {w : WA} (hs : SndCl X.K r f) {σ : Sg} {H : Hp} {Q : VK} (q : lE X.K ζ (wCl f w) σ H Q) : tCB r (lA X.K ζ w) σ H Q := by
  obtain ⟨G, en, I, Q', o, q, k⟩ := q
  exact ⟨G, en, I, _, o, q, fun vs H1 I1 e1 ds o1 x1 dvs ⟨z, fz, q1⟩ => hs H1 I1 vs ds z o1.iH dvs fz Q fun v' H3 I3 g dz => k v' H3 I3 e1 z (o1.gr g) (x1.tr g.i) dz q1⟩
end
end Pd

set_option Elab.async false
set_option linter.all false
set_option maxRecDepth 100000
set_option maxHeartbeats 4000000
namespace Pd
open PySem PySem.Spec PyProof.Rows L2
/-! ### what a def promises over data -/
abbrev WF := List D → (D → Prop) → Prop
abbrev WJ := List D → List D → (D → List D → Prop) → Prop
def spP (K : PySem.W.Frag) (n : Nat) (wf : WF) : Sp := fun vs H Q _ => ∃ (I : Hp) (ds : List D) (Q' : D → Prop), Ex I H ∧ DaAll K I vs ds ∧ ds.length = n ∧ wf ds Q' ∧
  ∀ v H' I' d, Gr H I H' I' → Da K I' v d → Q' d → Q v H'
def spJ (K : PySem.W.Frag) (n : Nat) (wf : WJ) : Sp := fun vs H Q _ => ∃ (j : Addr) (vj : List V) (dj : List D) (us : List V) (ds : List D) (I : Hp) (Q' : D → List D → Prop),
  vs = .ref j :: us ∧ I j = none ∧ H j = some (.lst vj) ∧ DaAll K I vj dj ∧ Ex I H ∧ DaAll K I us ds ∧ ds.length + 1 = n ∧ wf dj ds Q' ∧
  ∀ v H' I' d vj' dj', (∀ a o, a ≠ j → H a = some o → H' a = some o) → Ex I I' → Ex I' H' → (∀ a, I' a ≠ none → I a = none → H a = none) → H' j = some (.lst vj') → DaAll K I' vj' dj' → Da K I' v d → Q' d dj' → Q v H'
section
variable {K : PySem.W.Frag} {ζ : Zt} {G : Gh} {σ : Sg} {en : En} {H I H' I' : Hp}
theorem set_get {α : Type} {l : List α} {i j : Nat} {x y : α} (h : (l.set i x)[j]? = some y) : (i = j ∧ y = x) ∨ (i ≠ j ∧ l[j]? = some y) := by
  by_cases e : i = j
  · subst e
    rw [List.getElem?_set] at h
    simp only [if_true] at h
    split at h
    · injection h with h; exact Or.inl ⟨rfl, h.symm⟩
    · cases h
  · rw [List.getElem?_set_ne e] at h
    exact Or.inr ⟨e, h⟩
/-- one's own list at slot i has turned -/
theorem Ok.turnT (o : Ok K ζ G σ en H I) {i : Nat} {l : Addr} {vs : List V} {ds : List D} (hi : OwnAt σ en i l) (k : ∀ a u, a ≠ l → ¬ isTb ζ a → H a = some u → H' a = some u) (tt' : LamX.Tabs ζ.T H') (e2 : Ex I I') (e3 : Ex I' H') (n : ∀ a, I' a ≠ none → I a = none → H a = none)
    (hl : H' l = some (.lst vs)) (hd : DaAll K I' vs ds) : Ok K ζ G σ (en.set i (.own ds)) H' I' := by
  obtain ⟨h1, ds0, h2⟩ := hi
  have hi : OwnAt σ en i l := ⟨h1, ds0, h2⟩
  have Hl : ∃ u, H l = some u := by
    obtain ⟨l', vs', q1, q2, q3, q4⟩ := o.own h2
    rw [h1] at q1
    have q5 : l = l' := by injection q1 with q1; injection q1 with q1; injection q1
    rw [q5]; exact ⟨_, q3⟩
  have Il : I l = none := by
    obtain ⟨l', vs', q1, q2, q3, q4⟩ := o.own h2
    rw [h1] at q1
    have q5 : l = l' := by injection q1 with q1; injection q1 with q1; injection q1
    rw [q5]; exact q2
  have nIl : ∀ b u, H b = some u → I b = none → I' b = none := fun b u hb ib => by
    by_cases h4 : I' b = none
    · exact h4
    · have h5 := n b h4 ib
      rw [hb] at h5; cases h5
  have own' : ∀ j b, OwnAt σ (en.set i (.own ds)) j b → OwnAt σ en j b := fun j b ⟨q1, es, q2⟩ => by
    rcases set_get q2 with ⟨e, _⟩ | ⟨_, q3⟩
    · subst e; exact ⟨q1, ds0, h2⟩
    · exact ⟨q1, es, q3⟩
  refine ⟨o.i0.tr e2, e3, fun a q1 q2 => ?_, fun a u q1 q2 q3 => ?_, by rw [List.length_set]; exact o.ln, fun j s q => ?_, fun j b q => o.ml j b (own' j b q), fun a b c q1 q2 => o.ds a b c (own' a c q1) (own' b c q2), fun b q => ?_, fun p hp => ?_, o.pn, fun a ha => o.tgn ha n, tt', o.lk⟩
  · have q3 := o.nw a q1 q2
    cases q4 : G.He a with
    | none => exact absurd q4 q1
    | some u =>
      by_cases hj : G.J = some a
      · obtain ⟨r1, es, r2⟩ := o.pj a hj
        obtain ⟨l', vs', r3, r4, r5, r6⟩ := o.own r2
        rw [r1] at r3
        have q5 : a = l' := by injection r3 with r3; injection r3 with r3; injection r3
        rw [← q5] at r5
        exact nIl a _ r5 q3
      · obtain ⟨v, hv⟩ := o.th q4 hj
        exact nIl a v hv q3
  · have q4 := o.fr a u q1 q2 q3
    refine k a u (fun e => ?_) q3 q4
    subst e
    rcases o.ml i a hi with r | r
    · exact q2 r
    · rw [q1] at r; cases r
  · rcases set_get q with ⟨e, q2⟩ | ⟨ne, q2⟩
    · subst e q2
      exact ⟨l, vs, h1, nIl l _ Hl.choose_spec Il, hl, hd⟩
    · have r := o.sl j s q2
      cases s with
      | un => trivial
      | scr ns => obtain ⟨a, q1, q2⟩ := r; exact ⟨a, q1, sqs_ex e2 q2⟩
      | adr a => exact r
      | fnv nm => exact r
      | exc a dx ns ds => obtain ⟨q1, vs, q2, q3, q4⟩ := r; exact ⟨q1, vs, e2 _ _ q2, q3, q4.up e2⟩
      | imm d =>
        obtain ⟨x, r1, r2⟩ := r
        exact ⟨x, r1, r2.up e2⟩
      | own es =>
        obtain ⟨l', vs', r1, r2, r3, r4⟩ := r
        refine ⟨l', vs', r1, nIl l' _ r3 r2, k l' _ (fun e => ?_) (o.ntb r3 trivial) r3, r4.up e2⟩
        subst e
        exact ne (o.ds i j l' hi ⟨r1, es, q2⟩)
  · obtain ⟨r1, es, r2⟩ := o.pj b q
    refine ⟨r1, ?_⟩
    by_cases e : i = 0
    · subst e
      refine ⟨ds, ?_⟩
      rw [List.getElem?_set, if_pos rfl]
      have : 0 < en.length := (List.getElem?_eq_some_iff.mp r2).1
      simp [this]
    · exact ⟨es, by rw [List.getElem?_set_ne e]; exact r2⟩
  · obtain ⟨q1, q2, q3⟩ := o.pr p hp
    exact ⟨k _ _ (fun e => q3 i (by rw [e]; exact hi)) (o.ntb q1 (o.pn p hp)) q1, nIl _ _ q1 q2, fun j q => q3 j (own' j _ q)⟩
theorem Ok.turn (o : Ok K ζ G σ en H I) {i : Nat} {l : Addr} {vs : List V} {ds : List D} (hi : OwnAt σ en i l) (k : ∀ a u, a ≠ l → H a = some u → H' a = some u) (e2 : Ex I I') (e3 : Ex I' H') (n : ∀ a, I' a ≠ none → I a = none → H a = none)
    (hl : H' l = some (.lst vs)) (hd : DaAll K I' vs ds) : Ok K ζ G σ (en.set i (.own ds)) H' I' :=
  o.turnT hi (fun a u h1 _ h2 => k a u h1 h2) (tabs_n o.tt fun b u no hb => k b u (fun e => by
    subst e
    obtain ⟨h1, ds0, h2⟩ := hi
    obtain ⟨l', vs', q1, q2, q3, q4⟩ := o.own h2
    rw [h1] at q1
    have q5 : b = l' := by injection q1 with q1; injection q1 with q1; injection q1
    rw [← q5, hb] at q3
    cases q3
    exact no trivial) hb) e2 e3 n hl hd
/-- slot i gets data (it is not the one that the caller handed in) -/
theorem Ok.put (o : Ok K ζ G σ en H I) {i : Nat} {v : V} {d : D} (hd : Da K I v d) (hi : i ≠ 0 ∨ ∀ ds, en[i]? ≠ some (.own ds)) : Ok K ζ G (σ.set i (some v)) (en.set i (.imm d)) H I := by
  have own' : ∀ j b, OwnAt (σ.set i (some v)) (en.set i (.imm d)) j b → OwnAt σ en j b := fun j b ⟨q1, es, q2⟩ => by
    rcases set_get q2 with ⟨e, q⟩ | ⟨ne, q3⟩
    · cases q
    · rw [List.getElem?_set_ne ne] at q1
      exact ⟨q1, es, q3⟩
  refine ⟨o.i0, o.iH, o.nw, o.fr, by rw [List.length_set, List.length_set]; exact o.ln, fun j s q => ?_, fun j b q => o.ml j b (own' j b q), fun a b c q1 q2 => o.ds a b c (own' a c q1) (own' b c q2), fun b q => ?_, fun p hp => ⟨(o.pr p hp).1, (o.pr p hp).2.1, fun j q => (o.pr p hp).2.2 j (own' j _ q)⟩, o.pn, o.tg, o.tt, o.lk⟩
  · rcases set_get q with ⟨e, q2⟩ | ⟨ne, q2⟩
    · subst e q2
      refine ⟨v, ?_, hd⟩
      rw [List.getElem?_set, if_pos rfl]
      have : i < (en.set i (.imm d)).length := (List.getElem?_eq_some_iff.mp q).1
      rw [List.length_set] at this
      simp [o.ln, this]
    · rw [List.getElem?_set_ne ne]
      exact o.sl j s q2
  · obtain ⟨r1, es, r2⟩ := o.pj b q
    by_cases e : i = 0
    · subst e
      rcases hi with hi | hi
      · exact absurd rfl hi
      · exact absurd r2 (hi es)
    · exact ⟨by rw [List.getElem?_set_ne e]; exact r1, es, by rw [List.getElem?_set_ne e]; exact r2⟩
/-- slot i gets a new list of its own -/
theorem Ok.putOwn (o : Ok K ζ G σ en H I) {i : Nat} {p : Addr} {vs : List V} {ds : List D} (hp : H p = none) (hd : DaAll K I vs ds) (hi : i ≠ 0) : Ok K ζ G (σ.set i (some (.ref p))) (en.set i (.own ds)) (upd H p (.lst vs)) I := by
  have ip : I p = none := o.iH.no hp
  have hep : G.He p = none := by
    cases q : G.He p with
    | none => rfl
    | some u =>
      by_cases hj : G.J = some p
      · obtain ⟨r1, es, r2⟩ := o.pj p hj
        obtain ⟨l', vs', r3, r4, r5, r6⟩ := o.own r2
        rw [r1] at r3
        have q5 : p = l' := by injection r3 with r3; injection r3 with r3; injection r3
        rw [← q5, hp] at r5; cases r5
      · obtain ⟨v, hv⟩ := o.th q hj; rw [hv] at hp; cases hp
  have np : ∀ j, ¬ OwnAt σ en j p := fun j ⟨q1, es, q2⟩ => by
    obtain ⟨l', vs', r3, r4, r5, r6⟩ := o.own q2
    rw [q1] at r3
    have q5 : p = l' := by injection r3 with r3; injection r3 with r3; injection r3
    rw [← q5, hp] at r5; cases r5
  have own' : ∀ j b, OwnAt (σ.set i (some (.ref p))) (en.set i (.own ds)) j b → (i = j ∧ b = p) ∨ (i ≠ j ∧ OwnAt σ en j b) := fun j b ⟨q1, es, q2⟩ => by
    rcases set_get q1 with ⟨e, q⟩ | ⟨ne, q3⟩
    · injection q with q; injection q with q; exact Or.inl ⟨e, q⟩
    · rw [List.getElem?_set_ne ne] at q2
      exact Or.inr ⟨ne, q3, es, q2⟩
  refine ⟨o.i0, fun a u h => ?_, o.nw, fun a u h1 h2 h3 => ?_, by rw [List.length_set, List.length_set]; exact o.ln, fun j s q => ?_, fun j b q => ?_, fun a b c q1 q2 => ?_, fun b q => ?_, fun p' hp' => ?_, o.pn, o.tg, o.tt.ext fun b u hb => by rw [upd_ne (ne_of_none hb hp)]; exact hb, o.lk⟩
  · rw [upd_ne (ne_of_none h ip)]; exact o.iH a u h
  · have h4 := o.fr a u h1 h2 h3
    rw [upd_ne (ne_of_none h4 hp)]; exact h4
  · rcases set_get q with ⟨e, q2⟩ | ⟨ne, q2⟩
    · subst e q2
      refine ⟨p, vs, ?_, ip, upd_same, hd⟩
      rw [List.getElem?_set, if_pos rfl]
      have : i < (en.set i (.own ds)).length := (List.getElem?_eq_some_iff.mp q).1
      rw [List.length_set] at this
      simp [o.ln, this]
    · rw [List.getElem?_set_ne ne]
      have r := o.sl j s q2
      cases s with
      | un => trivial
      | scr ns => exact r
      | adr a => exact r
      | fnv nm => exact r
      | exc a dx ns ds => exact r
      | imm d => exact r
      | own es =>
        obtain ⟨l', vs', r1, r2, r3, r4⟩ := r
        exact ⟨l', vs', r1, r2, by rw [upd_ne (ne_of_none r3 hp)]; exact r3, r4⟩
  · rcases own' j b q with ⟨_, e⟩ | ⟨_, q⟩
    · subst e; exact Or.inr hep
    · exact o.ml j b q
  · rcases own' a c q1 with ⟨e1, e2⟩ | ⟨e1, z1⟩
    · rcases own' b c q2 with ⟨e3, e4⟩ | ⟨e3, z2⟩
      · exact e1.symm.trans e3
      · exact absurd (e2 ▸ z2) (np b)
    · rcases own' b c q2 with ⟨e3, e4⟩ | ⟨e3, z2⟩
      · exact absurd (e4 ▸ z1) (np a)
      · exact o.ds a b c z1 z2
  · obtain ⟨r1, es, r2⟩ := o.pj b q
    exact ⟨by rw [List.getElem?_set_ne hi]; exact r1, es, by rw [List.getElem?_set_ne hi]; exact r2⟩
  · obtain ⟨q1, q2, q3⟩ := o.pr p' hp'
    refine ⟨by rw [upd_ne (ne_of_none q1 hp)]; exact q1, q2, fun j q => ?_⟩
    rcases own' j _ q with ⟨_, e⟩ | ⟨_, q⟩
    · rw [e, hp] at q1; cases q1
    · exact q3 j q
/-- slot i forgotten -/
theorem Ok.forget (o : Ok K ζ G σ en H I) {i : Nat} {v : Option V} (hi : i ≠ 0 ∨ ∀ ds, en[i]? ≠ some (.own ds)) : Ok K ζ G (σ.set i v) (en.set i .un) H I := by
  have own' : ∀ j b, OwnAt (σ.set i v) (en.set i .un) j b → OwnAt σ en j b := fun j b ⟨q1, es, q2⟩ => by
    rcases set_get q2 with ⟨e, q⟩ | ⟨ne, q3⟩
    · cases q
    · rw [List.getElem?_set_ne ne] at q1
      exact ⟨q1, es, q3⟩
  refine ⟨o.i0, o.iH, o.nw, o.fr, by rw [List.length_set, List.length_set]; exact o.ln, fun j s q => ?_, fun j b q => o.ml j b (own' j b q), fun a b c q1 q2 => o.ds a b c (own' a c q1) (own' b c q2), fun b q => ?_, fun p hp => ⟨(o.pr p hp).1, (o.pr p hp).2.1, fun j q => (o.pr p hp).2.2 j (own' j _ q)⟩, o.pn, o.tg, o.tt, o.lk⟩
  · rcases set_get q with ⟨e, q2⟩ | ⟨ne, q2⟩
    · subst e q2; trivial
    · rw [List.getElem?_set_ne ne]
      exact o.sl j s q2
  · obtain ⟨r1, es, r2⟩ := o.pj b q
    by_cases e : i = 0
    · subst e
      rcases hi with hi | hi
      · exact absurd rfl hi
      · exact absurd r2 (hi es)
    · exact ⟨by rw [List.getElem?_set_ne e]; exact r1, es, by rw [List.getElem?_set_ne e]; exact r2⟩
/-- a new object, protected from now on -/
theorem Ok.prot (o : Ok K ζ G σ en H I) {p : Addr} {u : HO} (hp : H p = none) (hu : NoT u := by trivial) : Ok K ζ { G with P := (p, u) :: G.P } σ en (upd H p u) I := by
  have ip : I p = none := o.iH.no hp
  have np : ∀ j, ¬ OwnAt σ en j p := fun j ⟨q1, es, q2⟩ => by
    obtain ⟨l', vs', r3, r4, r5, r6⟩ := o.own q2
    rw [q1] at r3
    have q5 : p = l' := by injection r3 with r3; injection r3 with r3; injection r3
    rw [← q5, hp] at r5; cases r5
  refine ⟨o.i0, fun a v h => by rw [upd_ne (ne_of_none h ip)]; exact o.iH a v h, o.nw, fun a v h1 h2 h3 => ?_, o.ln, fun j s q => ?_, o.ml, o.ds, o.pj, fun q hq => ?_, fun q hq => (List.mem_cons.mp hq).elim (fun e => by subst e; exact hu) (o.pn q), o.tg, o.tt.ext fun b u hb => by rw [upd_ne (ne_of_none hb hp)]; exact hb, o.lk⟩
  · have h4 := o.fr a v h1 h2 h3
    rw [upd_ne (ne_of_none h4 hp)]; exact h4
  · have r := o.sl j s q
    cases s with
    | un => trivial
    | scr ns => exact r
    | adr a => exact r
    | fnv nm => exact r
    | exc a dx ns ds => exact r
    | imm d => exact r
    | own es =>
      obtain ⟨l', vs', r1, r2, r3, r4⟩ := r
      exact ⟨l', vs', r1, r2, by rw [upd_ne (ne_of_none r3 hp)]; exact r3, r4⟩
  · rcases List.mem_cons.mp hq with e | hq
    · subst e; exact ⟨upd_same, ip, np⟩
    · obtain ⟨q1, q2, q3⟩ := o.pr q hq
      exact ⟨by rw [upd_ne (ne_of_none q1 hp)]; exact q1, q2, q3⟩
/-- the protected object is written by the code around -/
theorem Ok.rewr {P : List (Addr × HO)} {p : Addr} {u w : HO} (o : Ok K ζ { G with P := (p, u) :: P } σ en H I) (hj : G.J ≠ some p) (he : G.He p = none) (hP : ∀ q ∈ P, q.1 ≠ p) (hu : NoT u := by trivial) (hw : NoT w := by trivial) : Ok K ζ { G with P := (p, w) :: P } σ en (upd H p w) I := by
  obtain ⟨h1, h2, h3⟩ := o.pr (p, u) List.mem_cons_self
  refine ⟨o.i0, fun a v h => ?_, o.nw, fun a v h1 h2 h3 => ?_, o.ln, fun j s q => ?_, o.ml, o.ds, o.pj, fun q hq => ?_, fun q hq => (List.mem_cons.mp hq).elim (fun e => by subst e; exact hw) fun hq => o.pn q (List.mem_cons_of_mem _ hq), o.tg, tabs_upd o.tt h1 hu, o.lk⟩
  · have : a ≠ p := fun e => by subst e; rw [h2] at h; cases h
    rw [upd_ne this]; exact o.iH a v h
  · have : a ≠ p := fun e => by subst e; rw [he] at h1; cases h1
    rw [upd_ne this]; exact o.fr a v h1 h2 h3
  · have r := o.sl j s q
    cases s with
    | un => trivial
    | scr ns => exact r
    | adr a => exact r
    | fnv nm => exact r
    | exc a dx ns ds => exact r
    | imm d => exact r
    | own es =>
      obtain ⟨l', vs', r1, r2, r3, r4⟩ := r
      have : l' ≠ p := fun e => by subst e; exact h3 j ⟨r1, es, q⟩
      exact ⟨l', vs', r1, r2, by rw [upd_ne this]; exact r3, r4⟩
  · rcases List.mem_cons.mp hq with e | hq
    · subst e; exact ⟨upd_same, h2, h3⟩
    · obtain ⟨q1, q2, q3⟩ := o.pr q (List.mem_cons_of_mem _ hq)
      exact ⟨by rw [upd_ne (hP q hq)]; exact q1, q2, q3⟩
theorem Ok.unprot {P : List (Addr × HO)} {p : Addr × HO} (o : Ok K ζ { G with P := p :: P } σ en H I) : Ok K ζ { G with P := P } σ en H I :=
  ⟨o.i0, o.iH, o.nw, o.fr, o.ln, o.sl, o.ml, o.ds, o.pj, fun q hq => o.pr q (List.mem_cons_of_mem _ hq), fun q hq => o.pn q (List.mem_cons_of_mem _ hq), o.tg, o.tt, o.lk⟩
end
end Pd

set_option Elab.async false
set_option linter.all false
set_option maxRecDepth 100000
set_option maxHeartbeats 4000000
namespace Pd
open PySem PySem.Spec PyProof.Rows L2
/-! ### calls -/
def wFn (n : Nat) (wf : WF) (w : WA) : WE := fun en Q => w en fun ds e1 => ds.length = n ∧ wf ds fun d => Q d e1
def wFnJ (i n : Nat) (wf : WJ) (w : WA) : WE := fun en Q => (∃ dj, en[i]? = some (.own dj)) ∧ w en fun ds e1 => ds.length + 1 = n ∧ ∃ dj, e1[i]? = some (.own dj) ∧ wf dj ds fun d dj' => Q d (e1.set i (.own dj'))
section
variable {X : Cx} {e : Expr} {es : List Expr} {pos p : Pos} {x : Str} {k n : Nat} {f : Addr} {fd : FuncData} {ps : List Str}
theorem d_call {wf : WF} {w : WA} (F : FnOk X.prog X.w X.K X.mg X.base CX0 k f fd ps (spP X.K n wf)) (hr : Room k X.A) (hm : X.mg x = some (.ref f)) (hk : PySem.W.keepIn X.K (.ref f) = true) (hb : Binds X.K fd ps []) (ha : PA X (e :: es) (lA X.K ζ w)) (hg : Gl X x := by rfl)
    (hdb : (x == ("__debug__" : Str)) = false := by decide) (he : starEach (e :: es) X.env = (false, eval e X.env) :: starEach es X.env := by rfl) (hpl : (backTo pos (starEach es X.env)).any (·.1) = false := by rfl) :
    PE X (.Call (.Name x p) (e :: es) [] pos) (lE X.K ζ (wFn n wf w)) :=
  (pe_call F hr hg hm hk hb .nil pass0 ha hdb he hpl).mo fun σ H Q ⟨G, en, I, Q', o, q, k⟩ => ⟨G, en, I, _, o, q, fun vs H1 I1 e1 ds o1 x1 dvs ⟨hn, q1⟩ => by
    refine ⟨I1, ds, _, o1.iH, by rw [List.append_nil]; exact dvs, hn, q1, fun v H2 I2 d g dv q2 => ?_⟩
    exact k v H2 I2 e1 d (o1.gr g) (x1.tr g.i) dv q2⟩
theorem d_call0 {wf : WF} (F : FnOk X.prog X.w X.K X.mg X.base CX0 k f fd ps (spP X.K 0 wf)) (hr : Room k X.A) (hm : X.mg x = some (.ref f)) (hk : PySem.W.keepIn X.K (.ref f) = true) (hb : Binds X.K fd ps []) (hg : Gl X x := by rfl)
    (hdb : (x == ("__debug__" : Str)) = false := by decide) :
    PE X (.Call (.Name x p) [] [] pos) (lE X.K ζ (wFn 0 wf wNil)) :=
  (pe_call0 F hr hg hm hk hb .nil pass0 hdb).mo fun σ H Q ⟨G, en, I, Q', o, ⟨hn, q⟩, k⟩ => by
    refine ⟨I, [], _, o.iH, .nil, hn, q, fun v H2 I2 d g dv q2 => ?_⟩
    exact k v H2 I2 en d (o.gr g) g.i dv q2
theorem d_callJ {wf : WJ} {w : WA} {i : Nat} (F : FnOk X.prog X.w X.K X.mg X.base CX0 k f fd ps (spJ X.K n wf)) (hr : Room k X.A) (hm : X.mg x = some (.ref f)) (hk : PySem.W.keepIn X.K (.ref f) = true) (hb : Binds X.K fd ps []) (h0 : PE X e (tVar i)) (ha : PA X es (lA X.K ζ w)) (hg : Gl X x := by rfl)
    (hdb : (x == ("__debug__" : Str)) = false := by decide) (he : starEach (e :: es) X.env = (false, eval e X.env) :: starEach es X.env := by rfl) (hpl : (backTo pos (starEach es X.env)).any (·.1) = false := by rfl) :
    PE X (.Call (.Name x p) (e :: es) [] pos) (lE X.K ζ (wFnJ i n wf w)) :=
  (pe_call F hr hg hm hk hb .nil pass0 (pa_cons h0 ha he) hdb he hpl).mo fun σ H Q ⟨G, en, I, Q', o, ⟨⟨dj0, hj0⟩, q⟩, k⟩ => by
    -- the slot's list is read ahead of the other arguments; it stands at its address behind them
    have key : ∀ (j : Addr), σ[i]? = some (some (.ref j)) → lA X.K ζ w σ H fun vs H1 => spJ X.K n wf ((V.ref j :: vs) ++ []) H1 Q E0 := fun j hj => by
      refine ⟨G, en, I, _, o, q, fun vs H1 I1 e1 ds o1 x1 dvs ⟨hn, dj, hd, q1⟩ => ?_⟩
      obtain ⟨l, vj, r1, r2, r3, r4⟩ := o1.own hd
      rw [hj] at r1
      have q5 : j = l := by injection r1 with r1; injection r1 with r1; injection r1
      subst q5
      refine ⟨j, vj, dj, vs, ds, I1, _, by rw [List.append_nil], r2, r3, r4, o1.iH, dvs, hn, q1, fun v H2 I2 d vj' dj' k1 k2 k3 k4 k5 k6 k7 k8 => ?_⟩
      exact k v H2 I2 _ d (o1.turn ⟨hj, dj, hd⟩ k1 k2 k3 k4 k5 k6) (x1.tr k2) k7 k8
    obtain ⟨j, _, hj, _⟩ := o.own hj0
    exact ⟨.ref j, hj, key j hj⟩
theorem d_cb {id : String} {r : List V → Hp → VK → Prop} {g : List D → D → Prop} {w : WA} (hc : CallR X (.builtin id) r) (hs : SndCl X.K r g) (hm : X.mg x = none) (hv : bootBuiltins x = some (.builtin id)) (ha : PA X (e :: es) (lA X.K ζ w)) (hg : Gl X x := by rfl)
    (hn : x ≠ "__name__" := by decide) (hdb : (x == ("__debug__" : Str)) = false := by decide)
    (he : starEach (e :: es) X.env = (false, eval e X.env) :: starEach es X.env := by rfl) (hpl : (backTo pos (starEach es X.env)).any (·.1) = false := by rfl) : PE X (.Call (.Name x p) (e :: es) [] pos) (lE X.K ζ (wCl g w)) :=
  (pe_callB hc hg hm hv ha hn hdb he hpl).mo fun σ H Q q => lcl hs q
theorem d_cty {T : String} {r : List V → Hp → VK → Prop} {g : List D → D → Prop} {w : WA} (hc : CallR X (.type T) r) (hs : SndCl X.K r g) (hm : X.mg x = none) (hv : bootBuiltins x = some (.type T)) (ha : PA X (e :: es) (lA X.K ζ w)) (hg : Gl X x := by rfl)
    (hn : x ≠ "__name__" := by decide) (hdb : (x == ("__debug__" : Str)) = false := by decide)
    (he : starEach (e :: es) X.env = (false, eval e X.env) :: starEach es X.env := by rfl) (hpl : (backTo pos (starEach es X.env)).any (·.1) = false := by rfl) : PE X (.Call (.Name x p) (e :: es) [] pos) (lE X.K ζ (wCl g w)) :=
  (pe_callTy hc hg hm hv ha hn hdb he hpl).mo fun σ H Q q => lcl hs q
end
/-! ### statements -/
def KS (K : PySem.W.Frag) (ζ : Zt) (G : Gh) (R' : Ed) (R : Ends) : Prop :=
  (∀ σ' H' I' en', Ok K ζ G σ' en' H' I' → R'.nx en' → R.nx σ' H') ∧
  (∀ v σ' H' I' en' d, Ok K ζ G σ' en' H' I' → Da K I' v d → R'.rt d en' → R.rt v H') ∧
  (∀ σ' H' I' en', Ok K ζ G σ' en' H' I' → R'.bk en' → R.bk σ' H') ∧
  (∀ σ' H' I' en', Ok K ζ G σ' en' H' I' → R'.ct en' → R.ct σ' H')
theorem lS_mk {K : PySem.W.Frag} {w : WS} {R : Ends} {σ : Sg} {H : Hp} {G : Gh} {en : En} {I : Hp} {R' : Ed} (o : Ok K ζ G σ en H I) (q : w R' en) (k : KS K ζ G R' R) : lS K ζ w R σ H := ⟨G, en, I, R', o, q, k⟩
def wNext : WS := fun R en => R.nx en
def wSeq (t u : WS) : WS := fun R en => t { R with nx := u R } en
def wRet (w : WE) : WS := fun R en => w en R.rt
def wRetN : WS := fun R en => R.rt .none en
def wDrop (w : WE) : WS := fun R en => w en fun _ e1 => R.nx e1
def wIfS (t : WT) (u v : WS) : WS := fun R en => t en fun c e1 => if c = true then u R e1 else v R e1
def NotOwn : Option Sl → Prop
  | some (.own _) => False
  | _ => True
theorem notOwn_ne {s : Option Sl} (h : NotOwn s) : ∀ ds, s ≠ some (.own ds) := fun ds e => by subst e; exact h
def wSet (i : Nat) (w : WE) : WS := fun R en => w en fun d e1 => (i ≠ 0 ∨ NotOwn e1[i]?) ∧ R.nx (e1.set i (.imm d))
def wSetOwn (i : Nat) (w : WA) : WS := fun R en => w en fun ds e1 => i ≠ 0 ∧ R.nx (e1.set i (.own ds))
def wNever : WS := fun _ _ => False
section
variable {X : Cx} {e : Expr} {st : Stmt} {sts rest : List Stmt} {pos : Pos} {t u v : WS} {w : WE} {x : Str} {i : Nat}
theorem s_nil : PSs X [] (lS X.K ζ wNext) := pss_nil.mo fun R σ H ⟨G, en, I, R', o, q, k⟩ => k.1 σ H I en o q
theorem s_cons (h1 : PS X st (lS X.K ζ t)) (h2 : PSs X rest (lS X.K ζ u)) : PSs X (st :: rest) (lS X.K ζ (wSeq t u)) :=
  (pss_cons h1 h2).mo fun R σ H ⟨G, en, I, R', o, q, k⟩ => ⟨G, en, I, _, o, q, fun σ1 H1 I1 e1 o1 q1 => lS_mk o1 q1 k, k.2.1, k.2.2.1, k.2.2.2⟩
theorem s_one (h1 : PS X st (lS X.K ζ t)) : PSs X [st] (lS X.K ζ t) := pss_one h1
theorem s_pass : PS X (.Pass pos) (lS X.K ζ wNext) := ps_pass.mo fun R σ H ⟨G, en, I, R', o, q, k⟩ => k.1 σ H I en o q
def wBrk : WS := fun R en => R.bk en
def wCnt : WS := fun R en => R.ct en
theorem s_break : PS X (.Break pos) (lS X.K ζ wBrk) := ps_break.mo fun R σ H ⟨G, en, I, R', o, q, k⟩ => k.2.2.1 σ H I en o q
theorem s_cont : PS X (.Continue pos) (lS X.K ζ wCnt) := ps_continue.mo fun R σ H ⟨G, en, I, R', o, q, k⟩ => k.2.2.2 σ H I en o q
theorem s_ret (h : PE X e (lE X.K ζ w)) : PS X (.Return (some e) pos) (lS X.K ζ (wRet w)) :=
  (ps_ret h).mo fun R σ H ⟨G, en, I, R', o, q, k⟩ => ⟨G, en, I, _, o, q, fun v H1 I1 e1 d o1 x1 dv q1 => k.2.1 v σ H1 I1 e1 d o1 dv q1⟩
theorem s_retN : PS X (.Return none pos) (lS X.K ζ wRetN) := ps_retN.mo fun R σ H ⟨G, en, I, R', o, q, k⟩ => k.2.1 .non σ H I en .none o .non q
theorem s_expr (h : PE X e (lE X.K ζ w)) (hs : swapsWith e none pos.line X.env = pure false := by rfl) : PS X (.Expr e pos) (lS X.K ζ (wDrop w)) :=
  (ps_expr h hs).mo fun R σ H ⟨G, en, I, R', o, q, k⟩ => ⟨G, en, I, _, o, q, fun v H1 I1 e1 d o1 x1 dv q1 => k.1 σ H1 I1 e1 o1 q1⟩
theorem s_if {c : Expr} {a b : List Stmt} {tc : WT} (hc : PT X c (lT X.K ζ tc)) (ha : PSs X a (lS X.K ζ t)) (hb : PSs X b (lS X.K ζ u)) : PS X (.If c a b pos) (lS X.K ζ (wIfS tc t u)) :=
  (ps_if hc ha hb).mo fun R σ H ⟨G, en, I, R', o, q, k⟩ => ⟨G, en, I, _, o, q, fun c H1 I1 e1 o1 x1 q1 => by
    cases c with
    | true => exact lS_mk o1 q1 k
    | false => exact lS_mk o1 q1 k⟩
theorem s_never : PS X st (lS X.K ζ wNever) := ps_never.mo fun R σ H ⟨G, en, I, R', o, q, k⟩ => q.elim
theorem ss_never : PSs X sts (lS X.K ζ wNever) := pss_never.mo fun R σ H ⟨G, en, I, R', o, q, k⟩ => q.elim
theorem s_set {pos' : Pos} (hN : X.N.Nodup) (hi : X.N[i]? = some x) (hx : Loc X.env.scope x) (he : PE X e (lE X.K ζ w)) (hs : swapsWith e (some (.Name x pos')) pos.line X.env = pure false := by rfl) (hf : X.fn x = true ∨ X.env.scope.names.lookup x = some .local := by first | exact .inl rfl | exact .inr rfl | assumption) :
    PS X (.Assign [.Name x pos'] e pos) (lS X.K ζ (wSet i w)) :=
  (ps_set hN hi hx he hs hf).mo fun R σ H ⟨G, en, I, R', o, q, k⟩ => ⟨G, en, I, _, o, q, fun v H1 I1 e1 d o1 x1 dv ⟨hi, q1⟩ => k.1 _ H1 I1 _ (o1.put dv (hi.imp id notOwn_ne)) q1⟩
theorem s_setOwn {pos' : Pos} {w : WA} (hN : X.N.Nodup) (hi : X.N[i]? = some x) (hx : Loc X.env.scope x) (he : PE X e (lL X.K ζ w)) (hs : swapsWith e (some (.Name x pos')) pos.line X.env = pure false := by rfl) (hf : X.fn x = true ∨ X.env.scope.names.lookup x = some .local := by first | exact .inl rfl | exact .inr rfl | assumption) :
    PS X (.Assign [.Name x pos'] e pos) (lS X.K ζ (wSetOwn i w)) :=
  (ps_set hN hi hx he hs hf).mo fun R σ H ⟨G, en, I, R', o, q, k⟩ => ⟨G, en, I, _, o, q, fun p vs H1 I1 e1 ds o1 x1 hp dvs ⟨hi, q1⟩ => k.1 _ _ I1 _ (o1.putOwn hp dvs hi) q1⟩
/-- an augmented assignment to a name -/
def wAug (i : Nat) (f : D → D → D → Prop) (w : WE) : WS := fun R en => (∃ d0, en[i]? = some (.imm d0)) ∧ w en fun y e1 => ∃ d, e1[i]? = some (.imm d) ∧ (∀ d0, en[i]? = some (.imm d0) → d0 = d) ∧ ∃ z, f d y z ∧ R.nx (e1.set i (.imm z))
theorem s_aug {op : Operator} {r : R2} {f : D → D → D → Prop} {pos' : Pos} (hN : X.N.Nodup) (hi : X.N[i]? = some x) (hx : Loc X.env.scope x) (he : PE X e (lE X.K ζ w)) (ho : PIp X op r) (hs : SndOp X.K r f) (hf : X.fn x = true ∨ X.env.scope.names.lookup x = some .local := by first | exact .inl rfl | exact .inr rfl | assumption) :
    PS X (.AugAssign (.Name x pos') op e pos) (lS X.K ζ (wAug i f w)) :=
  (ps_aug hN hi hx he ho hf).mo fun R σ H ⟨G, en, I, R', o, ⟨⟨d0, h0⟩, q⟩, k⟩ => by
    obtain ⟨v0, hv, dv0⟩ := o.imm h0
    refine ⟨v0, hv, G, en, I, _, o, q, fun v H1 I1 e1 y o1 x1 dv ⟨d, hd, hdd, z, fz, q1⟩ => ?_⟩
    have e0 : d0 = d := hdd d0 h0
    subst e0
    refine hs H1 I1 v0 v d0 y z o1.iH (dv0.up x1) dv fz _ fun v' H3 I3 g dz => ?_
    exact k.1 _ H3 I3 _ ((o1.gr g).put dz (Or.inr fun ds h => by rw [hd] at h; cases h)) q1
end
end Pd

set_option Elab.async false
set_option linter.all false
set_option maxRecDepth 100000
set_option maxHeartbeats 4000000
namespace Pd
open PySem PySem.Spec PyProof.Rows L2
theorem or_op {X : Cx} {f : Value → Value → Sem Value} {r1 r2 : R2} (h1 : OpR X f r1) (h2 : OpR X f r2) : OpR X f (fun x y H Q => r1 x y H Q ∨ r2 x y H Q) := fun pins s σ H x y v u Q I rx ry h => by
  rcases h with h | h
  · exact h1 pins s σ H x y v u Q I rx ry h
  · exact h2 pins s σ H x y v u Q I rx ry h
theorem fin_tup {K : PySem.W.Frag} {H I : Hp} {p : Addr} {vs : List V} {ds : List D} {Q : VK} (iH : Ex I H) (hp : H p = none) (a : DaAll K I vs ds) (k : ∀ v H' I', Gr H I H' I' → Da K I' v (.tuple ds) → Q v H') : Q (.ref p) (upd H p (.tup vs)) :=
  k _ _ _ (Gr.nw (u := .tup vs) iH hp) (.tup (SqT.of upd_same) (a.up (Gr.nw (u := .tup vs) iH hp).i))
theorem fin_lst {K : PySem.W.Frag} {H I : Hp} {p : Addr} {vs : List V} {ds : List D} {Q : VK} (iH : Ex I H) (hp : H p = none) (a : DaAll K I vs ds) (k : ∀ v H' I', Gr H I H' I' → Da K I' v (.list ds) → Q v H') : Q (.ref p) (upd H p (.lst vs)) :=
  k _ _ _ (Gr.nw (u := .lst vs) iH hp) (.lst upd_same (a.up (Gr.nw (u := .lst vs) iH hp).i))
section
variable {K : PySem.W.Frag} {X : Cx}
/-! ### + -/
def dAdd : D → D → D → Prop
  | .int i, .int j, z => z = .int (i + j)
  | .tuple xs, .tuple ys, z => xs.length + ys.length ≤ sizeLine ∧ z = .tuple (xs ++ ys)
  | .list xs, .list ys, z => xs.length + ys.length ≤ sizeLine ∧ z = .list (xs ++ ys)
  | .str a, .str b, z => a.length + b.length ≤ sizeLine ∧ z = .str (a ++ b)
  | _, _, _ => False
def rAddS : R2 := fun x y H Q => ∃ i j, x = .str i ∧ y = .str j ∧ i.length + j.length ≤ sizeLine ∧ Q (.str (i ++ j)) H
def rAddD (K : PySem.W.Frag) : R2 := fun x y H Q => (rI0 fun i j => .int (i + j)) x y H Q ∨ (rCatA K x y H Q ∨ (rCat x y H Q ∨ rAddS x y H Q))
theorem op_addD : OpR X (binaryOp .Add) (rAddD X.K) := or_op op_add (or_op op_catA (or_op op_cat op_add_str))
theorem snd_add : SndOp K (rAddD K) dAdd := by
  intro H I x y d e z iH hx hy hf Q k
  unfold dAdd at hf
  split at hf
  · subst hf; cases hx; cases hy
    exact Or.inl ⟨_, _, rfl, rfl, k _ H I (Gr.rf iH) (.int _)⟩
  · rename_i xs ys
    obtain ⟨hl, rfl⟩ := hf
    cases hx with
    | tup h1 a1 =>
      cases hy with
      | tup h2 a2 =>
        refine Or.inr (Or.inl ⟨_, _, _, _, rfl, rfl, sqt_ex iH h1, sqt_ex iH h2, by rw [dpa_len a1, dpa_len a2]; exact hl, fun q => ?_, fun _ q => ?_, fun _ _ p hp => ?_⟩)
        · subst q; cases a1
          exact k _ H I (Gr.rf iH) (.tup h2 a2)
        · subst q; cases a2
          exact k _ H I (Gr.rf iH) (by rw [List.append_nil]; exact .tup h1 a1)
        · exact fin_tup iH hp (dpa_app a1 a2) k
  · rename_i xs ys
    obtain ⟨hl, rfl⟩ := hf
    cases hx with
    | lst h1 a1 =>
      cases hy with
      | lst h2 a2 =>
        refine Or.inr (Or.inr (Or.inl ⟨_, _, _, _, rfl, rfl, iH _ _ h1, iH _ _ h2, by rw [dpa_len a1, dpa_len a2]; exact hl, fun p hp => ?_⟩))
        exact fin_lst iH hp (dpa_app a1 a2) k
  · obtain ⟨hl, rfl⟩ := hf
    cases hx; cases hy
    exact Or.inr (Or.inr (Or.inr ⟨_, _, rfl, rfl, hl, k _ H I (Gr.rf iH) (.str _)⟩))
  · exact hf.elim
/-! ### ints -/
def dInt (C : Int → Int → Prop) (g : Int → Int → D) : D → D → D → Prop := fun x y z => ∃ i j, x = .int i ∧ y = .int j ∧ C i j ∧ z = g i j
theorem snd_int {C : Int → Int → Prop} {g : Int → Int → Int} : SndOp K (rI C fun i j => .int (g i j)) (dInt C fun i j => .int (g i j)) := by
  rintro H I x y d e z iH hx hy ⟨i, j, rfl, rfl, hc, rfl⟩ Q k
  cases hx; cases hy
  exact ⟨i, j, rfl, rfl, hc, k _ H I (Gr.rf iH) (.int _)⟩
theorem snd_int0 {g : Int → Int → Int} : SndOp K (rI0 fun i j => .int (g i j)) (dInt (fun _ _ => True) fun i j => .int (g i j)) := by
  rintro H I x y d e z iH hx hy ⟨i, j, rfl, rfl, hc, rfl⟩ Q k
  cases hx; cases hy
  exact ⟨i, j, rfl, rfl, k _ H I (Gr.rf iH) (.int _)⟩
def dSub : D → D → D → Prop := dInt (fun _ _ => True) fun i j => .int (i - j)
theorem snd_sub : SndOp K (rI0 fun i j => .int (i - j)) dSub := snd_int0
/-- two factors, one of them small, or together below a million bits -/
def MulOk (i j : Int) : Prop := CMul i j ∨ CMulW i j
def dMulI : D → D → D → Prop := dInt MulOk fun i j => .int (i * j)
def dMul : D → D → D → Prop := fun x y z => dMulI x y z ∨ (∃ xs k, x = .tuple xs ∧ y = .int k ∧ xs ≠ [] ∧ 2 ≤ k ∧ k ≤ 1000 ∧ xs.length ≤ 1000 ∧ z = .tuple (List.replicate k.toNat xs).flatten) ∨
  (∃ xs k, x = .list xs ∧ y = .int k ∧ -(2 ^ 63) ≤ k ∧ k < 2 ^ 63 ∧ xs.length * k.toNat ≤ sizeLine ∧ z = .list (List.replicate k.toNat xs).flatten)
theorem op_mulA : OpR X (binaryOp .Mult) (rI MulOk fun i j => .int (i * j)) := fun pins s σ H x y v u Q I rx ry h => by
  obtain ⟨i, j, e1, e2, hc, q⟩ := h
  rcases hc with hc | hc
  · exact op_mul pins s σ H x y v u Q I rx ry ⟨i, j, e1, e2, hc, q⟩
  · exact op_mulW pins s σ H x y v u Q I rx ry ⟨i, j, e1, e2, hc, q⟩
def rMulD (K : PySem.W.Frag) : R2 := fun x y H Q => (rI MulOk fun i j => .int (i * j)) x y H Q ∨ (rRepT K x y H Q ∨ rRep x y H Q)
theorem op_mulD : OpR X (binaryOp .Mult) (rMulD X.K) := or_op op_mulA (or_op op_repT op_rep)
theorem dpa_rep {I : Hp} {vs : List V} {ds : List D} (h : DaAll K I vs ds) : ∀ n : Nat, DaAll K I (List.replicate n vs).flatten (List.replicate n ds).flatten
  | 0 => .nil
  | n + 1 => by
    rw [List.replicate_succ, List.replicate_succ, List.flatten_cons, List.flatten_cons]
    exact dpa_app h (dpa_rep h n)
theorem snd_mul : SndOp K (rMulD K) dMul := by
  rintro H I x y d e z iH hx hy hf Q k
  rcases hf with ⟨i, j, rfl, rfl, hc, rfl⟩ | ⟨xs, m, rfl, rfl, h1, h2, h3, h4, rfl⟩ | ⟨xs, m, rfl, rfl, h1, h2, h3, rfl⟩
  · cases hx; cases hy
    exact Or.inl ⟨i, j, rfl, rfl, hc, k _ H I (Gr.rf iH) (.int _)⟩
  · cases hy
    cases hx with
    | tup q1 a1 =>
      refine Or.inr (Or.inl ⟨_, m, _, rfl, rfl, sqt_ex iH q1, fun e => ?_, h2, h3, by rw [dpa_len a1]; exact h4, fun p hp => ?_⟩)
      · subst e; cases a1; exact h1 rfl
      · exact fin_tup iH hp (dpa_rep a1 _) k
  · cases hy
    cases hx with
    | lst q1 a1 =>
      refine Or.inr (Or.inr ⟨_, m, _, rfl, rfl, iH _ _ q1, h1, h2, by rw [dpa_len a1]; exact h3, fun p hp => ?_⟩)
      exact fin_lst iH hp (dpa_rep a1 _) k
/-- // by a positive divisor below 2 ^ 9000 -/
def dFdiv : D → D → D → Prop := dInt CDivW fun i j => .int (i / j)
theorem snd_fdiv : SndOp K (rI CDivW fun i j => .int (i / j)) dFdiv := snd_int
def dMod : D → D → D → Prop := dInt (fun _ j => 0 < j) fun i j => .int (i % j)
theorem snd_mod : SndOp K (rI (fun _ j => 0 < j) fun i j => .int (i % j)) dMod := snd_int
def PowOk (i j : Int) : Prop := 0 ≤ j ∧ (Builtin.Int.intBits i : Int) * j ≤ 2 ^ 27
theorem op_powW : OpR X (binaryOp .Pow) (rI PowOk fun i j => .int (i ^ j.toNat)) := opI fun _ _ _ _ _ _ _ hc q => pow_int hc.1 hc.2 q
def dPow : D → D → D → Prop := dInt PowOk fun i j => .int (i ^ j.toNat)
theorem snd_pow : SndOp K (rI PowOk fun i j => .int (i ^ j.toNat)) dPow := snd_int
def dNeg : D → D → Prop := fun x z => ∃ i, x = .int i ∧ z = .int (-i)
theorem snd_neg : SndUn K (rU fun i => .int (-i)) dNeg := by
  rintro H I x d z iH hx ⟨i, rfl, rfl⟩ Q k
  cases hx
  exact ⟨i, rfl, k _ H I (Gr.rf iH) (.int _)⟩
/-! ### comparisons -/
def dEq : D → D → D → Prop := fun x y z => SeqAt.shaped x = true ∧ SeqAt.shaped y = true ∧ z = .bool (PyData.eqv x y)
def dNe : D → D → D → Prop := fun x y z => SeqAt.shaped x = true ∧ SeqAt.shaped y = true ∧ z = .bool (!PyData.eqv x y)
theorem snd_eq : SndOp K (rEqD K) dEq := by
  rintro H I x y d e z iH hx hy ⟨h1, h2, rfl⟩ Q k
  exact ⟨d, e, (hx.up iH).dp h1, (hy.up iH).dp h2, h1, h2, k _ H I (Gr.rf iH) (.bl _)⟩
theorem snd_ne : SndOp K (rNeD K) dNe := by
  rintro H I x y d e z iH hx hy ⟨h1, h2, rfl⟩ Q k
  exact ⟨d, e, (hx.up iH).dp h1, (hy.up iH).dp h2, h1, h2, k _ H I (Gr.rf iH) (.bl _)⟩
def dBoo (g : Int → Int → Bool) : D → D → D → Prop := fun x y z => ∃ i j, x = .int i ∧ y = .int j ∧ z = .bool (g i j)
theorem snd_boo {g : Int → Int → Bool} : SndOp K (rI0 fun i j => .bl (g i j)) (dBoo g) := by
  rintro H I x y d e z iH hx hy ⟨i, j, rfl, rfl, rfl⟩ Q k
  cases hx; cases hy
  exact ⟨i, j, rfl, rfl, k _ H I (Gr.rf iH) (.bl _)⟩
def dLe : D → D → D → Prop := dBoo fun i j => decide (i ≤ j)
def dGt : D → D → D → Prop := dBoo fun i j => decide (j < i)
def dGe : D → D → D → Prop := dBoo fun i j => decide (j ≤ i)
def dLtI : D → D → D → Prop := dBoo fun i j => decide (i < j)
def dLt : D → D → D → Prop := fun x y z => dLtI x y z ∨ ∃ ns ms : List Int, x = .tuple (ns.map .int) ∧ y = .tuple (ms.map .int) ∧ z = .bool (HT.lexLt ns ms)
def rLtD (K : PySem.W.Frag) : R2 := fun x y H Q => (rI0 fun i j => .bl (decide (i < j))) x y H Q ∨ rLtT K x y H Q
theorem op_ltD (hu : X.A.units < cLine) : OpR X (compareOp .Lt) (rLtD X.K) := or_op op_lt (op_ltT hu)
theorem snd_lt : SndOp K (rLtD K) dLt := by
  rintro H I x y d e z iH hx hy hf Q k
  rcases hf with hf | ⟨ns, ms, rfl, rfl, rfl⟩
  · exact Or.inl (snd_boo H I x y d e z iH hx hy hf Q k)
  · cases hx with
    | tup h1 a1 =>
      cases hy with
      | tup h2 a2 =>
        have e1 := dpa_ints_inv ns a1
        have e2 := dpa_ints_inv ms a2
        subst e1 e2
        exact Or.inr ⟨_, _, ns, ms, rfl, rfl, sqt_ex iH h1, sqt_ex iH h2, k _ H I (Gr.rf iH) (.bl _)⟩
theorem snd_le : SndOp K (rI0 fun i j => .bl (decide (i ≤ j))) dLe := snd_boo
theorem snd_gt : SndOp K (rI0 fun i j => .bl (decide (j < i))) dGt := snd_boo
theorem snd_ge : SndOp K (rI0 fun i j => .bl (decide (j ≤ i))) dGe := snd_boo
/-- is None -/
def rIsN : R2 := fun x y H Q => y = .non ∧ Q (.bl (decide (x = .non))) H
def rNotN : R2 := fun x y H Q => y = .non ∧ Q (.bl (!decide (x = .non))) H
def isNone : D → Bool
  | .none => true
  | _ => false
def dIsN : D → D → D → Prop := fun x y z => y = .none ∧ z = .bool (isNone x)
def dNotN : D → D → D → Prop := fun x y z => y = .none ∧ z = .bool (!isNone x)
theorem isN_eq {I : Hp} {v : V} {d : D} (h : Da K I v d) : decide (v = .non) = isNone d := by
  cases h <;> simp [isNone]
theorem snd_isN : SndOp K rIsN dIsN := by
  rintro H I x y d e z iH hx hy ⟨rfl, rfl⟩ Q k
  cases hy
  exact ⟨rfl, k _ H I (Gr.rf iH) (by rw [isN_eq hx]; exact .bl _)⟩
theorem snd_notN : SndOp K rNotN dNotN := by
  rintro H I x y d e z iH hx hy ⟨rfl, rfl⟩ Q k
  cases hy
  exact ⟨rfl, k _ H I (Gr.rf iH) (by rw [isN_eq hx]; exact .bl _)⟩
/-! ### chains -/
variable {a b c : Expr} {pos : Pos} {wa wb wc : WE} {r r' : R2} {f g : D → D → D → Prop} {op op' : CmpOp}
theorem lch (hs : SndOp X.K r f) (hs' : SndOp X.K r' g) {σ : Sg} {H : Hp} {Q : VK} (q : lE X.K ζ (wCh f g wa wb wc) σ H Q) : tChain r r' (lE X.K ζ wa) (lE X.K ζ wb) (lE X.K ζ wc) σ H Q := by
  obtain ⟨G, en, I, Q', o, q, k⟩ := q
  refine ⟨G, en, I, _, o, q, fun v H1 I1 e1 d o1 x1 dv q1 => ⟨G, e1, I1, _, o1, q1, fun u H2 I2 e2 d2 o2 x2 du ⟨bb, fz, q2⟩ => ?_⟩⟩
  refine hs H2 I2 v u d d2 (.bool bb) o2.iH (dv.up x2) du fz _ fun v' H3 I3 gg dz => ?_
  refine ⟨bb, dp_bl dz, ?_⟩
  have o3 := o2.gr gg
  cases bb with
  | true =>
    refine ⟨G, e2, I3, _, o3, q2, fun t H4 I4 e4 d4 o4 x4 dt ⟨z, gz, q4⟩ => ?_⟩
    exact hs' H4 I4 u t d2 d4 z o4.iH ((du.up gg.i).up x4) dt gz Q fun v5 H5 I5 g5 d5 => k v5 H5 I5 e4 z (o4.gr g5) ((((x1.tr x2).tr gg.i).tr x4).tr g5.i) d5 q4
  | false => exact k (.bl false) H3 I3 e2 (.bool false) o3 ((x1.tr x2).tr gg.i) (.bl false) q2
theorem d_ch (ho : OpR X (compareOp op) r) (hs : SndOp X.K r f) (ho' : OpR X (compareOp op') r') (hs' : SndOp X.K r' g) (ha : PE X a (lE X.K ζ wa)) (hb : PE X b (lE X.K ζ wb)) (hc : PE X c (lE X.K ζ wc))
    (hm : lastMarks [op, op'] [b, c] = false := by with_unfolding_all rfl) : PE X (.Compare a [op, op'] [b, c] pos) (lE X.K ζ (wCh f g wa wb wc)) := (pe_chain ho ho' ha hb hc hm).mo fun σ H Q q => lch hs hs' q
theorem t_ch (ho : OpR X (compareOp op) r) (hs : SndOp X.K r f) (ho' : OpR X (compareOp op') r') (hs' : SndOp X.K r' g) (ha : PE X a (lE X.K ζ wa)) (hb : PE X b (lE X.K ζ wb)) (hc : PE X c (lE X.K ζ wc))
    (hm : lastMarks [op, op'] [b, c] = false := by with_unfolding_all rfl) : PT X (.Compare a [op, op'] [b, c] pos) (lT X.K ζ (wB (wCh f g wa wb wc))) := (pt_chain ho ho' ha hb hc hm).mo fun σ H Q q => by
  obtain ⟨G, en, I, Q2, o, q2, k⟩ := ltst q
  exact lch hs hs' ⟨G, en, I, Q2, o, q2, k⟩
/-! ### built-ins -/
def dLen : List D → D → Prop
  | [.list xs], z => z = .int xs.length
  | [.tuple xs], z => z = .int xs.length
  | [.str x], z => x.length ≤ sizeLine ∧ z = .int x.length
  | _, _ => False
def rLenD (K : PySem.W.Frag) : List V → Hp → VK → Prop := fun xs H Q => ∃ x n, xs = [x] ∧ LenV K x H n ∧ Q (.int n) H
theorem snd_len : SndCl K (rLenD K) dLen := by
  intro H I xs ds z iH hx hf Q k
  unfold dLen at hf
  split at hf
  · subst hf
    cases hx with
    | cons h t =>
      cases t; cases h with
      | lst h a => exact ⟨_, _, rfl, Or.inl ⟨_, SqL.of (iH _ _ h), (dpa_len a).symm⟩, k _ H I (Gr.rf iH) (.int _)⟩
  · subst hf
    cases hx with
    | cons h t =>
      cases t; cases h with
      | tup h a => exact ⟨_, _, rfl, Or.inr ⟨_, sqt_ex iH h, (dpa_len a).symm⟩, k _ H I (Gr.rf iH) (.int _)⟩
  · obtain ⟨hl, rfl⟩ := hf
    cases hx with
    | cons h t =>
      cases t; cases h
      exact ⟨_, _, rfl, ⟨hl, rfl⟩, k _ H I (Gr.rf iH) (.int _)⟩
  · exact hf.elim
def dIntOf : List D → D → Prop
  | [.int i], z => z = .int i
  | [.bool b], z => z = .int (if b then 1 else 0)
  | _, _ => False
def rIntD : List V → Hp → VK → Prop := fun xs H Q => (∃ i, xs = [.int i] ∧ Q (.int i) H) ∨ ∃ k, xs = [.bl k] ∧ Q (.int (if k then 1 else 0)) H
theorem snd_intOf : SndCl K rIntD dIntOf := by
  intro H I xs ds z iH hx hf Q k
  unfold dIntOf at hf
  split at hf
  · subst hf; cases hx with
    | cons h t => cases t; cases h; exact Or.inl ⟨_, rfl, k _ H I (Gr.rf iH) (.int _)⟩
  · subst hf; cases hx with
    | cons h t => cases t; cases h; exact Or.inr ⟨_, rfl, k _ H I (Gr.rf iH) (.int _)⟩
  · exact hf.elim
def dAbs : List D → D → Prop := fun xs z => ∃ i, xs = [.int i] ∧ z = .int (if i < 0 then -i else i)
theorem snd_abs : SndCl K (fun xs H Q => ∃ i, xs = [.int i] ∧ Q (.int (if i < 0 then -i else i)) H) dAbs := by
  rintro H I xs ds z iH hx ⟨i, rfl, rfl⟩ Q k
  cases hx with
  | cons h t => cases t; cases h; exact ⟨_, rfl, k _ H I (Gr.rf iH) (.int _)⟩
def dMax2 : List D → D → Prop := fun xs z => ∃ i j, xs = [.int i, .int j] ∧ z = .int (if j > i then j else i)
def dMin2 : List D → D → Prop := fun xs z => ∃ i j, xs = [.int i, .int j] ∧ z = .int (if j < i then j else i)
theorem snd_max2 : SndCl K (fun xs H Q => ∃ i j, xs = [.int i, .int j] ∧ Q (.int (if j > i then j else i)) H) dMax2 := by
  rintro H I xs ds z iH hx ⟨i, j, rfl, rfl⟩ Q k
  cases hx with
  | cons h t => cases t with
    | cons h2 t => cases t; cases h; cases h2; exact ⟨_, _, rfl, k _ H I (Gr.rf iH) (.int _)⟩
theorem snd_min2 : SndCl K (fun xs H Q => ∃ i j, xs = [.int i, .int j] ∧ Q (.int (if j < i then j else i)) H) dMin2 := by
  rintro H I xs ds z iH hx ⟨i, j, rfl, rfl⟩ Q k
  cases hx with
  | cons h t => cases t with
    | cons h2 t => cases t; cases h; cases h2; exact ⟨_, _, rfl, k _ H I (Gr.rf iH) (.int _)⟩
def dSum : List D → D → Prop := fun xs z => ∃ ns : List Int, xs = [.list (ns.map .int)] ∧ z = .int ns.sum
theorem snd_sum : SndCl K (rSum K) dSum := by
  rintro H I xs ds z iH hx ⟨ns, rfl, rfl⟩ Q k
  cases hx with
  | cons h t => cases t; cases h with
    | lst h a =>
      have e := dpa_ints_inv ns a
      subst e
      exact ⟨_, ns, rfl, SqL.of (iH _ _ h), k _ H I (Gr.rf iH) (.int _)⟩
def dAll : List D → D → Prop := fun xs z => ∃ bs : List Bool, xs = [.list (bs.map .bool)] ∧ z = .bool (bs.all id)
def dAny : List D → D → Prop := fun xs z => ∃ bs : List Bool, xs = [.list (bs.map .bool)] ∧ z = .bool (bs.any id)
theorem snd_all : SndCl K (rAll K) dAll := by
  rintro H I xs ds z iH hx ⟨ns, rfl, rfl⟩ Q k
  cases hx with
  | cons h t => cases t; cases h with
    | lst h a =>
      have e := dpa_bls_inv ns a
      subst e
      exact ⟨_, ns, rfl, SqL.of (iH _ _ h), k _ H I (Gr.rf iH) (.bl _)⟩
theorem snd_any : SndCl K (rAny K) dAny := by
  rintro H I xs ds z iH hx ⟨ns, rfl, rfl⟩ Q k
  cases hx with
  | cons h t => cases t; cases h with
    | lst h a =>
      have e := dpa_bls_inv ns a
      subst e
      exact ⟨_, ns, rfl, SqL.of (iH _ _ h), k _ H I (Gr.rf iH) (.bl _)⟩
def dTupOf : List D → D → Prop
  | [.list xs], z => z = .tuple xs
  | [.tuple xs], z => z = .tuple xs
  | _, _ => False
def rTupD (K : PySem.W.Frag) : List V → Hp → VK → Prop := fun xs H Q => ∃ p ys, xs = [.ref p] ∧ ((SqL K H p ys ∧ ∀ l, H l = none → Q (.ref l) (upd H l (.tup ys))) ∨ (SqT K H p ys ∧ Q (.ref p) H))
theorem snd_tupOf : SndCl K (rTupD K) dTupOf := by
  intro H I xs ds z iH hx hf Q k
  unfold dTupOf at hf
  split at hf
  · subst hf; cases hx with
    | cons h t => cases t; cases h with
      | lst h a => exact ⟨_, _, rfl, Or.inl ⟨SqL.of (iH _ _ h), fun l hl => fin_tup iH hl a k⟩⟩
  · subst hf; cases hx with
    | cons h t => cases t; cases h with
      | tup h a => exact ⟨_, _, rfl, Or.inr ⟨sqt_ex iH h, k _ H I (Gr.rf iH) (.tup h a)⟩⟩
  · exact hf.elim
def dListOf : List D → List D → Prop
  | [.list xs], z => z = xs
  | [.tuple xs], z => z = xs
  | _, _ => False
/-- isinstance: x of the type T -/
def tyName : D → String
  | .none => "NoneType"
  | .bool _ => "bool"
  | .int _ => "int"
  | .str _ => "str"
  | .list _ => "list"
  | .tuple _ => "tuple"
  | .dict _ => "dict"
def rGcdD : List V → Hp → VK → Prop := rGcd
def dGcd : List D → D → Prop := fun xs z => ∃ i j : Int, xs = [.int i, .int j] ∧ z = .int ((Nat.gcd i.natAbs j.natAbs : Nat) : Int)
theorem snd_gcd : SndCl K rGcd dGcd := by
  rintro H I xs ds z iH hx ⟨i, j, rfl, rfl⟩ Q k
  cases hx with
  | cons h t => cases t with
    | cons h2 t => cases t; cases h; cases h2; exact ⟨_, _, rfl, k _ H I (Gr.rf iH) (.int _)⟩
end
end Pd

set_option Elab.async false
set_option linter.all false
set_option maxRecDepth 100000
set_option maxHeartbeats 4000000
namespace Pd
open PySem PySem.Spec PyProof.Rows L2
section
variable {K : PySem.W.Frag} {X : Cx} {a b c e : Expr} {es : List Expr} {pos p p2 : Pos} {x : Str} {wa wb wc : WE}
/-! ### subscripts -/
theorem dpa_at {I : Hp} {vs : List V} {ds : List D} {i : Int} {z : D} (h : DaAll K I vs ds) (hz : atI ds i = some z) : ∃ v, atI vs i = some v ∧ Da K I v z := by
  unfold atI at hz ⊢
  rw [dpa_len h]
  cases q : ixN ds.length i with
  | none => rw [q] at hz; cases hz
  | some j =>
    rw [q] at hz
    exact dpa_get h hz
def dIx : D → D → D → Prop
  | .list xs, .int i, z => atI xs i = some z
  | .tuple xs, .int i, z => atI xs i = some z
  | _, _, _ => False
theorem snd_ix : SndOp K (rIx K) dIx := by
  intro H I x y d e z iH hx hy hf Q k
  unfold dIx at hf
  split at hf
  · cases hy
    cases hx with
    | lst h a =>
      obtain ⟨v, h1, h2⟩ := dpa_at a hf
      exact Or.inl ⟨_, _, _, v, rfl, rfl, SqL.of (iH _ _ h), h1, k v H I (Gr.rf iH) h2⟩
  · cases hy
    cases hx with
    | tup h a =>
      obtain ⟨v, h1, h2⟩ := dpa_at a hf
      exact Or.inr (Or.inl ⟨_, _, _, v, rfl, rfl, sqt_ex iH h, h1, k v H I (Gr.rf iH) h2⟩)
  · exact hf.elim
theorem d_ix (ha : PE X a (lE X.K ζ wa)) (hb : PE X b (lE X.K ζ wb)) (hs : PlainIx b := by exact fun _ _ => rfl) : PE X (.Subscript a b pos) (lE X.K ζ (wOp dIx wa wb)) :=
  (pe_ix ix_seq ha hb hs).mo fun σ H Q q => lop snd_ix q
def cutA {α : Type} (xs : List α) (lo hi : Option Int) : List α := (xs.drop (HT.sIx xs.length 0 lo)).take (HT.sIx xs.length xs.length hi - HT.sIx xs.length 0 lo)
theorem dpa_cut {I : Hp} {vs : List V} {ds : List D} {lo hi : Option Int} (h : DaAll K I vs ds) : DaAll K I (cutV vs lo hi) (cutA ds lo hi) := by
  unfold cutV cutA
  rw [dpa_len h]
  exact dpa_take _ (dpa_drop _ h)
abbrev WO := En → (Option Int → En → Prop) → Prop
def lO (K : PySem.W.Frag) (ζ : Zt) (w : WO) : TO := fun σ H Q => ∃ (G : Gh) (en : En) (I : Hp) (Q' : Option Int → En → Prop), Ok K ζ G σ en H I ∧ w en Q' ∧
  ∀ o H' I' en', Ok K ζ G σ en' H' I' → Ex I I' → Q' o en' → Q o H'
def wNoP : WO := fun en Q => Q none en
def wPart (w : WE) : WO := fun en Q => w en fun d e1 => ∃ i, d = .int i ∧ Q (some i) e1
theorem o_none : PO X none (lO X.K ζ wNoP) := ⟨fun pins s σ H Q I h => po_none.run pins s σ H Q I (by obtain ⟨G, en, I, Q', o, q, k⟩ := h; exact k none H I en o (Ex.rf I) q)⟩
theorem o_some (h : PE X e (lE X.K ζ wa)) : PO X (some e) (lO X.K ζ (wPart wa)) := ⟨fun pins s σ H Q I h' => (po_some h).run pins s σ H Q I (by
  obtain ⟨G, en, I, Q', o, q, k⟩ := h'
  exact ⟨G, en, I, _, o, q, fun v H1 I1 e1 d o1 x1 dv ⟨i, hi, q1⟩ => ⟨i, by subst hi; exact dp_int dv, k (some i) H1 I1 e1 o1 x1 q1⟩⟩)⟩
def wSl (wa : WE) (wl wh : WO) : WE := fun en Q => wa en fun d e1 => wl e1 fun l e2 => wh e2 fun h e3 => (∃ xs, d = .list xs ∧ Q (.list (cutA xs l h)) e3) ∨ (∃ xs, d = .tuple xs ∧ Q (.tuple (cutA xs l h)) e3)
theorem d_sl {lo hi : Option Expr} {wl wh : WO} (ha : PE X a (lE X.K ζ wa)) (hl : PO X lo (lO X.K ζ wl)) (hh : PO X hi (lO X.K ζ wh)) : PE X (.Subscript a (.Slice lo hi none p2) pos) (lE X.K ζ (wSl wa wl wh)) :=
  (pe_slice (sl_list.or sl_tupA) ha hl hh).mo fun σ H Q ⟨G, en, I, Q', o, q, k⟩ => ⟨G, en, I, _, o, q, fun v H1 I1 e1 d o1 x1 dv q1 => ⟨G, e1, I1, _, o1, q1, fun l H2 I2 e2 o2 x2 q2 => ⟨G, e2, I2, _, o2, q2, fun h H3 I3 e3 o3 x3 q3 => by
    have dv3 := (dv.up x2).up x3
    have x := (x1.tr x2).tr x3
    rcases q3 with ⟨xs, rfl, q3⟩ | ⟨xs, rfl, q3⟩
    · cases dv3 with
      | lst hs ha => exact Or.inl ⟨_, _, rfl, SqL.of (o3.iH _ _ hs), fun p hp => fin_lst (ds := cutA xs l h) o3.iH hp (dpa_cut ha) fun v' H4 I4 g dz => k v' H4 I4 e3 _ (o3.gr g) (x.tr g.i) dz q3⟩
    · cases dv3 with
      | tup hs ha =>
        refine Or.inr ⟨_, _, rfl, sqt_ex o3.iH hs, fun hw => ?_, fun _ p hp => fin_tup (ds := cutA xs l h) o3.iH hp (dpa_cut ha) fun v' H4 I4 g dz => k v' H4 I4 e3 _ (o3.gr g) (x.tr g.i) dz q3⟩
        have e0 : cutA xs l h = xs := by
          unfold cutA
          rw [← dpa_len ha, hw.1, hw.2, List.drop_zero, Nat.sub_zero, dpa_len ha, List.take_length]
        rw [e0] at q3
        exact k _ H3 I3 e3 _ o3 x (.tup hs ha) q3⟩⟩⟩
/-- xs[::-1], a list -/
def wRev (wa : WE) : WA := fun en Q => wa en fun d e1 => ∃ xs, d = .list xs ∧ Q xs.reverse e1
theorem l_rev {k : Nat} {p1 p2 p3 : Pos} (ha : PE X a (lE X.K ζ wa)) : PE X (.Subscript a (.Slice none none (some (.UnaryOp .USub (.Constant (.int 1) k p1) p2)) p3) pos) (lL X.K ζ (wRev wa)) :=
  (pe_revL ha).mo fun σ H Q ⟨G, en, I, Q', o, q, k⟩ => ⟨G, en, I, _, o, q, fun v H1 I1 e1 d o1 x1 dv ⟨xs, hd, q1⟩ => by
    subst hd
    cases dv with
    | lst hs ha => exact ⟨_, _, rfl, SqL.of (o1.iH _ _ hs), fun p hp => k p _ H1 I1 e1 _ o1 x1 hp (dpa_rev ha) q1⟩⟩
def wListOf (w : WA) : WA := fun en Q => w en fun ds e1 => ∃ z, dListOf ds z ∧ Q z e1
theorem l_listOf {w : WA} (hm : X.mg "list" = none) (ha : PA X (e :: es) (lA X.K ζ w)) (hg : Gl X "list" := by rfl)
    (he : starEach (e :: es) X.env = (false, eval e X.env) :: starEach es X.env := by rfl) (hpl : (backTo pos (starEach es X.env)).any (·.1) = false := by rfl) :
    PE X (.Call (.Name "list" p) (e :: es) [] pos) (lL X.K ζ (wListOf w)) :=
  (pe_callTy call_list_of hg hm (by decide +kernel) ha (by decide) (by decide) he hpl).mo fun σ H Q ⟨G, en, I, Q', o, q, k⟩ => ⟨G, en, I, _, o, q, fun vs H1 I1 e1 ds o1 x1 dvs ⟨z, hz, q1⟩ => by
    unfold dListOf at hz
    split at hz
    · subst hz
      cases dvs with
      | cons h t => cases t; cases h with
        | lst hs ha => exact ⟨_, _, rfl, Or.inl (SqL.of (o1.iH _ _ hs)), fun l hl => k l _ H1 I1 e1 _ o1 x1 hl ha q1⟩
    · subst hz
      cases dvs with
      | cons h t => cases t; cases h with
        | tup hs ha => exact ⟨_, _, rfl, Or.inr (sqt_ex o1.iH hs), fun l hl => k l _ H1 I1 e1 _ o1 x1 hl ha q1⟩
    · exact hz.elim⟩
/-! ### isinstance -/
def wIsi (T : String) (wa : WE) : WE := fun en Q => wa en fun d e1 => ∃ r, kitB (tyName d) T = some r ∧ Q (.bool r) e1
theorem da_kit {H I : Hp} {v : V} {d : D} {T : String} {r : Bool} (hk : kitB (tyName d) T = some r) (hT : T ∈ ["int", "bool", "tuple", "list", "str"]) (iH : Ex I H) (h : Da K I v d) : ∃ t, TyX K H v t ∧ PySem.W.kitOne K t (.type T) = some r := by
  have key : TyX K H v (.type (tyName d)) → ∃ t, TyX K H v t ∧ PySem.W.kitOne K t (.type T) = some r := fun h => ⟨_, h, kit_ty hk⟩
  cases h with
  | obj c h _ _ =>
    refine ⟨_, .base (.ins (iH _ _ h) c.cl c.ha c.hn c.ht c.hm), ?_⟩
    have hr : r = false := by
      simp only [List.mem_cons, List.not_mem_nil, or_false] at hT
      have hk' : kitB "dict" T = some r := hk
      rcases hT with rfl | rfl | rfl | rfl | rfl <;> exact (Option.some.inj hk').symm
    rw [hr]
    exact c.kit T hT
  | non => exact key (.base .non)
  | bl b => exact key (.base (.bl b))
  | int i => exact key (.base (.int i))
  | str x => exact key (.base (.str x))
  | lst h a => exact key (.base (.lst (iH _ _ h)))
  | dic h => exact key (.base (.dK (iH _ _ h)))
  | tup h a =>
    refine key ?_
    rcases sqt_ex iH h with (h | ⟨o, h⟩) | ⟨o, its, n, h1, h2, h3, h4, h5⟩
    · exact .base (.tup h)
    · exact .fTuple h
    · exact .kTuple h1 h2
theorem d_isi {T : Str} {T' : String} (hm : X.mg "isinstance" = none) (hmT : X.mg T = none) (hT : bootBuiltins T = some (.type T')) (ha : PE X a (lE X.K ζ wa)) (hg : Gl X "isinstance" := by rfl) (hgT : Gl X T := by rfl) (hn : T ≠ "__name__" := by decide) (hdb : (T == ("__debug__" : Str)) = false := by decide)
    (he : starEach (a :: [.Name T p2]) X.env = (false, eval a X.env) :: starEach [.Name T p2] X.env := by rfl) (he2 : starEach (.Name T p2 :: []) X.env = (false, eval (.Name T p2) X.env) :: starEach [] X.env := by rfl) (hpl : (backTo pos (starEach [.Name T p2] X.env)).any (·.1) = false := by rfl) (hT' : T' ∈ ["int", "bool", "tuple", "list", "str"] := by decide) :
    PE X (.Call (.Name "isinstance" p) [a, .Name T p2] [] pos) (lE X.K ζ (wIsi T' wa)) :=
  (pe_callB call_isi hg hm (by decide +kernel) (pa_cons ha (pa_cons (pe_bltn (v := .ty T') hgT hmT hT rfl hn hdb) pa_nil he2) he) (by decide) (by decide) he hpl).mo fun σ H Q ⟨G, en, I, Q', o, q, k⟩ => ⟨G, en, I, _, o, q, fun v H1 I1 e1 d o1 x1 dv ⟨r, hr, q1⟩ => by
    obtain ⟨t, t1, t2⟩ := da_kit hr hT' o1.iH dv
    exact ⟨v, .ty T', t, .type T', r, rfl, .ty T', t1, t2, k (.bl r) H1 I1 e1 _ o1 x1 (.bl r) q1⟩⟩
/-! ### one's own list, read and written -/
def Flat : D → Prop
  | .none | .bool _ | .int _ | .str _ => True
  | _ => False
theorem flat_any {I J : Hp} {v : V} {d : D} (h : Da K I v d) (f : Flat d) : Da K J v d := by
  cases h with
  | non => exact .non
  | bl b => exact .bl b
  | int i => exact .int i
  | str x => exact .str x
  | lst h a => exact f.elim
  | tup h a => exact f.elim
  | dic h => exact f.elim
  | obj _ h _ _ => exact f.elim
/-- the region with one's own list within -/
theorem Ok.withOwn {G : Gh} {σ : Sg} {en : En} {H I : Hp} (o : Ok K ζ G σ en H I) {i : Nat} {ds : List D} (h : en[i]? = some (.own ds)) : ∃ l vs, σ[i]? = some (some (.ref l)) ∧ H l = some (.lst vs) ∧ Ex I (upd I l (.lst vs)) ∧ Ex (upd I l (.lst vs)) H ∧ Da K (upd I l (.lst vs)) (.ref l) (.list ds) := by
  obtain ⟨l, vs, h1, h2, h3, h4⟩ := o.own h
  have e1 : Ex I (upd I l (.lst vs)) := Ex.up h2
  refine ⟨l, vs, h1, h3, e1, fun a u h => ?_, .lst upd_same (h4.up e1)⟩
  by_cases q : a = l
  · subst q; rw [upd_same] at h; rw [h3]; exact h
  · rw [upd_ne q] at h; exact o.iH a u h
def wOpO (i : Nat) (f : D → D → D → Prop) (wb : WE) : WE := fun en Q => (∃ ds, en[i]? = some (.own ds)) ∧ wb en fun y e1 => ∃ ds z, e1[i]? = some (.own ds) ∧ f (.list ds) y z ∧ Flat z ∧ Q z e1
def wOpR (i : Nat) (f : D → D → D → Prop) (wa : WE) : WE := fun en Q => wa en fun x e1 => ∃ ds z, e1[i]? = some (.own ds) ∧ f x (.list ds) z ∧ Flat z ∧ Q z e1
def wClO (i : Nat) (g : List D → D → Prop) : WE := fun en Q => ∃ ds z, en[i]? = some (.own ds) ∧ g [.list ds] z ∧ Flat z ∧ Q z en
theorem ok_same {G : Gh} {σ : Sg} {en : En} {H I H' I' J : Hp} (o : Ok K ζ G σ en H I) (g : Gr H J H' I') (e : Ex I J) : Ok K ζ G σ en H' I := o.grow g.h (Ex.rf I) (o.iH.tr g.h) fun a h1 h2 => absurd h2 h1
theorem lopO {r : R2} {f : D → D → D → Prop} {i : Nat} (h : SndOp X.K r f) {σ : Sg} {H : Hp} {Q : VK} (q : lE X.K ζ (wOpO i f wb) σ H Q) : tOp r (tVar i) (lE X.K ζ wb) σ H Q := by
  obtain ⟨G, en, I, Q', o, ⟨⟨ds0, hi⟩, q⟩, k⟩ := q
  obtain ⟨l, vs0, r1, _⟩ := o.own hi
  refine ⟨.ref l, r1, G, en, I, _, o, q, fun u H2 I2 e2 d2 o2 x2 du ⟨ds, z, hd, fz, fl, q2⟩ => ?_⟩
  obtain ⟨l', vs, s1, s2, s3, s4, s5⟩ := o2.withOwn hd
  rw [r1] at s1
  have q5 : l = l' := by injection s1 with s1; injection s1 with s1; injection s1
  subst q5
  exact h H2 _ (.ref l) u (.list ds) d2 z s4 s5 (du.up s3) fz Q fun v' H3 I3 g dz => k v' H3 I2 e2 z (ok_same o2 g s3) x2 (flat_any dz fl) q2
theorem lopR {r : R2} {f : D → D → D → Prop} {i : Nat} (h : SndOp X.K r f) {σ : Sg} {H : Hp} {Q : VK} (q : lE X.K ζ (wOpR i f wa) σ H Q) : tOp r (lE X.K ζ wa) (tVar i) σ H Q := by
  obtain ⟨G, en, I, Q', o, q, k⟩ := q
  refine ⟨G, en, I, _, o, q, fun u H2 I2 e2 d2 o2 x2 du ⟨ds, z, hd, fz, fl, q2⟩ => ?_⟩
  obtain ⟨l, vs, s1, s2, s3, s4, s5⟩ := o2.withOwn hd
  exact ⟨.ref l, s1, h H2 _ u (.ref l) d2 (.list ds) z s4 (du.up s3) s5 fz Q fun v' H3 I3 g dz => k v' H3 I2 e2 z (ok_same o2 g s3) x2 (flat_any dz fl) q2⟩
theorem d_ixO {i : Nat} (ha : PE X a (tVar i)) (hb : PE X b (lE X.K ζ wb)) (hs : PlainIx b := by exact fun _ _ => rfl) : PE X (.Subscript a b pos) (lE X.K ζ (wOpO i dIx wb)) :=
  (pe_ix ix_seq ha hb hs).mo fun σ H Q q => lopO snd_ix q
theorem d_cmpO {op : CmpOp} {r : R2} {f : D → D → D → Prop} {i : Nat} (ho : OpR X (compareOp op) r) (hs : SndOp X.K r f) (ha : PE X a (tVar i)) (hb : PE X b (lE X.K ζ wb)) (hm : behindInMarks op b = false) : PE X (.Compare a [op] [b] pos) (lE X.K ζ (wOpO i f wb)) :=
  (pe_cmpR ho ha hb hm).mo fun σ H Q q => lopO hs q
theorem t_cmpO {op : CmpOp} {r : R2} {f : D → D → D → Prop} {i : Nat} (ho : OpR X (compareOp op) r) (hs : SndOp X.K r f) (ha : PE X a (tVar i)) (hb : PE X b (lE X.K ζ wb)) (hm : behindInMarks op b = false) : PT X (.Compare a [op] [b] pos) (lT X.K ζ (wB (wOpO i f wb))) :=
  (pt_cmpR ho ha hb hm).mo fun σ H Q q => by
    obtain ⟨G, en, I, Q2, o, q2, k⟩ := ltst q
    exact lopO hs ⟨G, en, I, Q2, o, q2, k⟩
theorem d_cmpR {op : CmpOp} {r : R2} {f : D → D → D → Prop} {i : Nat} (ho : OpR X (compareOp op) r) (hs : SndOp X.K r f) (ha : PE X a (lE X.K ζ wa)) (hb : PE X b (tVar i)) (hm : behindInMarks op b = false) : PE X (.Compare a [op] [b] pos) (lE X.K ζ (wOpR i f wa)) :=
  (pe_cmpR ho ha hb hm).mo fun σ H Q q => lopR hs q
theorem t_cmpR {op : CmpOp} {r : R2} {f : D → D → D → Prop} {i : Nat} (ho : OpR X (compareOp op) r) (hs : SndOp X.K r f) (ha : PE X a (lE X.K ζ wa)) (hb : PE X b (tVar i)) (hm : behindInMarks op b = false) : PT X (.Compare a [op] [b] pos) (lT X.K ζ (wB (wOpR i f wa))) :=
  (pt_cmpR ho ha hb hm).mo fun σ H Q q => by
    obtain ⟨G, en, I, Q2, o, q2, k⟩ := ltst q
    exact lopR hs ⟨G, en, I, Q2, o, q2, k⟩
theorem d_cbO {id : String} {r : List V → Hp → VK → Prop} {g : List D → D → Prop} {i : Nat} (hc : CallR X (.builtin id) r) (hs : SndCl X.K r g) (hm : X.mg x = none) (hv : bootBuiltins x = some (.builtin id)) (ha : PE X e (tVar i)) (hg : Gl X x := by rfl)
    (hn : x ≠ "__name__" := by decide) (hdb : (x == ("__debug__" : Str)) = false := by decide)
    (he : starEach (e :: []) X.env = (false, eval e X.env) :: starEach [] X.env := by rfl) (hpl : (backTo pos (starEach [] X.env)).any (·.1) = false := by rfl) : PE X (.Call (.Name x p) [e] [] pos) (lE X.K ζ (wClO i g)) :=
  (pe_callB hc hg hm hv (pa_cons ha pa_nil he) hn hdb he hpl).mo fun σ H Q ⟨G, en, I, Q', o, ⟨ds, z, hd, fz, fl, q⟩, k⟩ => by
    obtain ⟨l, vs, s1, s2, s3, s4, s5⟩ := o.withOwn hd
    exact ⟨.ref l, s1, hs H _ [.ref l] [.list ds] z s4 (.cons s5 .nil) fz Q fun v' H3 I3 g dz => k v' H3 I en z (ok_same o g s3) (Ex.rf I) (flat_any dz fl) q⟩
end
section
variable {X : Cx} {e o idx : Expr} {st : Stmt} {sts : List Stmt} {pos p1 p2 : Pos} {t u : WS} {w wi : WE} {x : Str} {i : Nat}
/-- xs.append(e) -/
def wApp (i : Nat) (w : WE) : WS := fun R en => (∃ ds, en[i]? = some (.own ds)) ∧ w en fun d e1 => ∃ ds, e1[i]? = some (.own ds) ∧ ds.length < sizeLine ∧ R.nx (e1.set i (.own (ds ++ [d])))
theorem s_app (ho : PE X o (tVar i)) (he : PE X e (lE X.K ζ w))
    (hs : swapsWith (.Call (.Attribute o "append" p1) [e] [] p2) none pos.line X.env = pure false := by rfl)
    (pe : PE X (.Call (.Attribute o "append" p1) [e] [] p2) (tBM X.K "list" rAppend (tVar i) (tCons (lE X.K ζ w) tNil)) := by exact (pe_bm PySem.F.plainAttrs_list PySem.F.slot_list_append PySem.F.type_list_append mt_append (by assumption) (pa_cons (by assumption) pa_nil))) :
    PS X (.Expr (.Call (.Attribute o "append" p1) [e] [] p2) pos) (lS X.K ζ (wApp i w)) :=
  (ps_expr pe hs).mo fun R σ H ⟨G, en, I, R', ok, ⟨⟨ds0, h0⟩, q⟩, k⟩ => by
    obtain ⟨l, vs0, r1, r2, r3, r4⟩ := ok.own h0
    refine ⟨.ref l, r1, Or.inl ⟨rfl, vs0, SqL.of r3⟩, G, en, I, _, ok, q, fun v H1 I1 e1 d o1 x1 dv ⟨ds, hd, hz, q1⟩ => ?_⟩
    obtain ⟨l', vs, s1, s2, s3, s4⟩ := o1.own hd
    rw [r1] at s1
    have q5 : l = l' := by injection s1 with s1; injection s1 with s1; injection s1
    subst q5
    refine ⟨l, vs, v, rfl, rfl, s3, by rw [dpa_len s4]; exact hz, ?_⟩
    refine k.1 σ _ I1 _ (o1.turn (H' := upd H1 l (.lst (vs ++ [v]))) (vs := vs ++ [v]) ⟨r1, ds, hd⟩ (fun a u ha h => by rw [upd_ne ha]; exact h) (Ex.rf I1) (fun a u h => ?_) (fun a h1 h2 => absurd h2 h1) upd_same (dpa_app s4 (.cons dv .nil))) q1
    have : a ≠ l := fun ea => by subst ea; rw [s2] at h; cases h
    rw [upd_ne this]; exact o1.iH a u h
/-- xs[k] = e -/
def wSetIt (i : Nat) (wi w : WE) : WS := fun R en => w en fun d e1 => (∃ ds, e1[i]? = some (.own ds)) ∧ wi e1 fun k e2 => ∃ ds m j, e2[i]? = some (.own ds) ∧ k = .int m ∧ ixN ds.length m = some j ∧ R.nx (e2.set i (.own (ds.set j d)))
theorem s_setIt (ps : PS X st (tAsg (lE X.K ζ w) (gSub (tVar i) (lE X.K ζ wi) rSetL))) : PS X st (lS X.K ζ (wSetIt i wi w)) :=
  ps.mo fun R σ H ⟨G, en, I, R', ok, q, k⟩ => ⟨G, en, I, _, ok, q, fun v H1 I1 e1 d o1 x1 dv ⟨⟨ds0, h0⟩, q1⟩ => by
    obtain ⟨l, vs0, r1, r2, r3, r4⟩ := o1.own h0
    refine ⟨.ref l, r1, G, e1, I1, _, o1, q1, fun m H2 I2 e2 dm o2 x2 dvm ⟨ds, mm, j, hd, hm, hj, q2⟩ => ?_⟩
    subst hm
    obtain ⟨l', vs, s1, s2, s3, s4⟩ := o2.own hd
    rw [r1] at s1
    have q5 : l = l' := by injection s1 with s1; injection s1 with s1; injection s1
    subst q5
    refine ⟨l, vs, mm, j, rfl, dp_int dvm, s3, by rw [dpa_len s4]; exact hj, ?_⟩
    refine k.1 σ _ I2 _ (o2.turn (H' := upd H2 l (.lst (vs.set j v))) (vs := vs.set j v) ⟨r1, ds, hd⟩ (fun a u ha h => by rw [upd_ne ha]; exact h) (Ex.rf I2) (fun a u h => ?_) (fun a h1 h2 => absurd h2 h1) upd_same (dpa_set j s4 (dv.up x2))) q2
    have : a ≠ l := fun ea => by subst ea; rw [s2] at h; cases h
    rw [upd_ne this]; exact o2.iH a u h⟩
/-- from here on slot i is data -/
def wFrz (i : Nat) (t : WS) : WS := fun R en => ∃ ds, en[i]? = some (.own ds) ∧ i ≠ 0 ∧ t R (en.set i (.imm (.list ds)))
theorem Ok.freeze {K : PySem.W.Frag} {G : Gh} {σ : Sg} {en : En} {H I : Hp} (o : Ok K ζ G σ en H I) {i : Nat} {ds : List D} (h : en[i]? = some (.own ds)) (hi : i ≠ 0) : ∃ I', Ok K ζ G σ (en.set i (.imm (.list ds))) H I' ∧ Ex I I' := by
  obtain ⟨l, vs, h1, h2, h3, h4⟩ := o.own h
  have ow : OwnAt σ en i l := ⟨h1, ds, h⟩
  have nj : G.J ≠ some l := fun e => hi (o.ds i 0 l ow (o.pj l e))
  have he : G.He l = none := (o.ml i l ow).resolve_left nj
  have e1 : Ex I (upd I l (.lst vs)) := Ex.up h2
  have own' : ∀ j b, OwnAt σ (en.set i (.imm (.list ds))) j b → i ≠ j ∧ OwnAt σ en j b := fun j b ⟨q1, es, q2⟩ => by
    rcases set_get q2 with ⟨e, q⟩ | ⟨ne, q3⟩
    · cases q
    · exact ⟨ne, q1, es, q3⟩
  refine ⟨upd I l (.lst vs), ⟨o.i0.tr e1, fun a u q => ?_, fun a q1 q2 => ?_, o.fr, by rw [List.length_set]; exact o.ln, fun j s q => ?_, fun j b q => o.ml j b (own' j b q).2, fun a b c q1 q2 => o.ds a b c (own' a c q1).2 (own' b c q2).2, fun b q => ?_, fun p hp => ?_, o.pn, fun a ha => by
    have : a ≠ l := fun e => by subst e; exact o.ntb h3 trivial ha
    rw [upd_ne this]; exact o.tg a ha, o.tt, o.lk⟩, e1⟩
  · by_cases e : a = l
    · subst e; rw [upd_same] at q; rw [h3]; exact q
    · rw [upd_ne e] at q; exact o.iH a u q
  · have : a ≠ l := fun e => by subst e; exact q1 he
    rw [upd_ne this]; exact o.nw a q1 q2
  · rcases set_get q with ⟨e, q2⟩ | ⟨ne, q2⟩
    · subst e q2
      exact ⟨_, h1, .lst upd_same (h4.up e1)⟩
    · have r := o.sl j s q2
      cases s with
      | un => trivial
      | scr ns => obtain ⟨a, q1, q2⟩ := r; exact ⟨a, q1, sqs_ex e1 q2⟩
      | adr a => exact r
      | fnv nm => exact r
      | exc a dx ns ds => obtain ⟨q1, vs, q2, q3, q4⟩ := r; exact ⟨q1, vs, e1 _ _ q2, q3, q4.up e1⟩
      | imm d =>
        obtain ⟨y, r1, r2⟩ := r
        exact ⟨y, r1, r2.up e1⟩
      | own es =>
        obtain ⟨l', vs', r1, r2, r3, r4⟩ := r
        have : l' ≠ l := fun e => by subst e; exact ne (o.ds i j l' ow ⟨r1, es, q2⟩)
        exact ⟨l', vs', r1, by rw [upd_ne this]; exact r2, r3, r4.up e1⟩
  · obtain ⟨r1, es, r2⟩ := o.pj b q
    exact ⟨r1, es, by rw [List.getElem?_set_ne hi]; exact r2⟩
  · obtain ⟨q1, q2, q3⟩ := o.pr p hp
    have : p.1 ≠ l := fun e => q3 i (by rw [e]; exact ow)
    exact ⟨q1, by rw [upd_ne this]; exact q2, fun j q => q3 j (own' j _ q).2⟩
theorem s_frz (h : PS X st (lS X.K ζ t)) : PS X st (lS X.K ζ (wFrz i t)) := h.mo fun R σ H ⟨G, en, I, R', ok, ⟨ds, hd, hi, q⟩, k⟩ => by
  obtain ⟨I', o', e'⟩ := ok.freeze hd hi
  exact lS_mk o' q k
theorem ss_frz (h : PSs X sts (lS X.K ζ t)) : PSs X sts (lS X.K ζ (wFrz i t)) := h.mo fun R σ H ⟨G, en, I, R', ok, ⟨ds, hd, hi, q⟩, k⟩ => by
  obtain ⟨I', o', e'⟩ := ok.freeze hd hi
  exact lS_mk o' q k
/-! ### while -/
def wWhile (tc : WT) (tb : WS) : WS := fun R en => ∃ W : Nat → En → Prop, (∃ m, W m en) ∧ ∀ m e, W m e → tc e fun b e1 => if b = true then tb { R with nx := fun e' => ∃ m', m' < m ∧ W m' e', ct := fun e' => ∃ m', m' < m ∧ W m' e', bk := R.nx } e1 else R.nx e1
theorem s_while {c : Expr} {body : List Stmt} {tc : WT} {tb : WS} (hp : PassesOwn (model X.prog X.w) X.A X.env X.xe) (hc : PT X c (lT X.K ζ tc)) (hb : PSs X body (lS X.K ζ tb)) : PS X (.While c body [] pos) (lS X.K ζ (wWhile tc tb)) :=
  (ps_while hp hc hb).mo fun R σ H ⟨G, en, I, R', ok, ⟨W, ⟨m0, w0⟩, turn⟩, k⟩ => by
    refine ⟨fun m σ H => ∃ en I, Ok X.K ζ G σ en H I ∧ W m en, ⟨m0, en, I, ok, w0⟩, fun m σ1 H1 ⟨e1, I1, o1, w1⟩ => ?_⟩
    refine ⟨G, e1, I1, _, o1, turn m e1 w1, fun b H2 I2 e2 o2 x2 q2 => ?_⟩
    cases b with
    | true =>
      refine ⟨fun σ H => ∃ m', m' < m ∧ ∃ en I, Ok X.K ζ G σ en H I ∧ W m' en, fun _ _ h => h, G, e2, I2, _, o2, q2, ?_⟩
      exact ⟨fun σ' H' I' en' o' ⟨m', hm, w'⟩ => ⟨m', hm, en', I', o', w'⟩, k.2.1, fun σ' H' I' en' o' q' => k.1 σ' H' I' en' o' q', fun σ' H' I' en' o' ⟨m', hm, w'⟩ => ⟨m', hm, en', I', o', w'⟩⟩
    | false => exact k.1 σ1 H2 I2 e2 o2 q2
end
end Pd

set_option Elab.async false
set_option linter.all false
set_option maxRecDepth 100000
set_option maxHeartbeats 4000000
namespace Pd
open PySem PySem.Spec PyProof.Rows L2
/-! ### what is walked -/
/-- the iterator yields these data, turn by turn -/
structure ItD (K : PySem.W.Frag) (J : It) (I0 : Hp) (xs : List D) : Prop where
  go : ∀ i H I, Ex I0 I → Ex I H → i < xs.length → J.go i H
  stop : ∀ H I, Ex I0 I → Ex I H → J.stop xs.length H
  yld : ∀ i H I v H' d, Ex I0 I → Ex I H → xs[i]? = some d → J.yld i H v H' → ∃ I', Gr H I H' I' ∧ Da K I' v d
def lI (K : PySem.W.Frag) (ζ : Zt) (w : WA) : TI := fun σ H R => ∃ (G : Gh) (en : En) (I : Hp) (Q' : List D → En → Prop), Ok K ζ G σ en H I ∧ w en Q' ∧
  ∀ J H' I' en' xs, Ok K ζ G σ en' H' I' → Ex I I' → ItD K J I' xs → Q' xs en' → R J H'
theorem _root_.L2.PI.mo {X : Cx} {tg e : Expr} {t t' : TI} (h : PI X tg e t) (m : ∀ σ H R, t' σ H R → t σ H R) : PI X tg e t' := ⟨fun pins s σ H Q I q => h.run pins s σ H Q I (m σ H Q q)⟩
section
variable {K : PySem.W.Frag} {X : Cx} {tg e a b : Expr} {es : List Expr} {pos p tpos : Pos} {w wb : WE} {wa : WA}
theorem itd_list {I : Hp} {a : Addr} {vs : List V} {ds : List D} (h : I a = some (.lst vs)) (hd : DaAll K I vs ds) : ItD K (Itl K a) I ds where
  go := fun i H I1 e1 e2 hi => by
    obtain ⟨v, hv, _⟩ := dpa_get hd (List.getElem?_eq_getElem hi)
    exact ⟨vs, v, SqL.of (e2 _ _ (e1 _ _ h)), hv⟩
  stop := fun H I1 e1 e2 => ⟨vs, SqL.of (e2 _ _ (e1 _ _ h)), by rw [dpa_len hd]; exact Nat.le_refl _⟩
  yld := fun i H I1 v H' d e1 e2 hd' ⟨eH, hv⟩ => by
    subst eH
    obtain ⟨v', hv', q⟩ := dpa_get hd hd'
    have := hv vs (SqL.of (e2 _ _ (e1 _ _ h)))
    rw [hv'] at this
    cases this
    exact ⟨I1, Gr.rf e2, q.up e1⟩
theorem itd_tup {I : Hp} {a : Addr} {vs : List V} {ds : List D} (h : SqT K I a vs) (hd : DaAll K I vs ds) : ItD K (Itt K a) I ds where
  go := fun i H I1 e1 e2 hi => by
    obtain ⟨v, hv, _⟩ := dpa_get hd (List.getElem?_eq_getElem hi)
    exact ⟨vs, v, sqt_ex (e1.tr e2) h, hv⟩
  stop := fun H I1 e1 e2 => ⟨vs, sqt_ex (e1.tr e2) h, by rw [dpa_len hd]; exact Nat.le_refl _⟩
  yld := fun i H I1 v H' d e1 e2 hd' ⟨eH, hv⟩ => by
    subst eH
    obtain ⟨v', hv', q⟩ := dpa_get hd hd'
    have := hv vs (sqt_ex (e1.tr e2) h)
    rw [hv'] at this
    cases this
    exact ⟨I1, Gr.rf e2, q.up e1⟩
def iSeq (K : PySem.W.Frag) (tl : TE) : TI := fun σ H R => tl σ H fun x H1 => ∃ a, x = .ref a ∧ (((∃ xs, SqL K H1 a xs) ∧ R (Itl K a) H1) ∨ ((∃ xs, SqT K H1 a xs) ∧ R (Itt K a) H1))
theorem pi_seq {l : Expr} {tl : TE} (hl : PE X l tl) : PI X tg l (iSeq X.K tl) := by
  refine ⟨fun pins s σ H R I h => ?_⟩
  refine thn (hl.run pins s σ H _ I h) fun v s1 ⟨x, H1, I1, r1, q1⟩ => ?_
  obtain ⟨a, e, q⟩ := q1
  subst e
  cases r1
  rcases q with ⟨⟨xs, hq⟩, q⟩ | ⟨⟨xs, hq⟩, q⟩
  · obtain ⟨its, rv, p, hz⟩ := I1.list hq
    refine wpAny_pyIter_list p.isList ?_
    refine ⟨s1.heap.objs.size, [s1.heap.objs.size], _, _, H1, rfl, I1.kept (t' := s1.toks) fun b o e => Heap.get?_push_of_some _ e, turn_list a _, ⟨_, Heap.get?_push_size _ rfl, rfl, rfl⟩, fun b hb => ?_, q⟩
    have e : b = s1.heap.objs.size := by simpa using hb
    subst e
    exact I1.fpOk (Nat.le_refl _) (I1.hok.fresh (Nat.le_refl _))
  · obtain ⟨its, rv, p, hz⟩ := I1.tuple hq
    refine wpAny_pyIter_tuple (show s1.heap.IsTuple a its.toArray from p) ?_
    refine ⟨s1.heap.objs.size, [s1.heap.objs.size], _, _, H1, rfl, I1.kept (t' := s1.toks) fun b o e => Heap.get?_push_of_some _ e, turn_tuple a _, ⟨_, Heap.get?_push_size _ rfl, rfl, rfl⟩, fun b hb => ?_, q⟩
    have e : b = s1.heap.objs.size := by simpa using hb
    subst e
    exact I1.fpOk (Nat.le_refl _) (I1.hok.fresh (Nat.le_refl _))
/-- over a list or a tuple -/
def wSq (w : WE) : WA := fun en Q => w en fun d e1 => ∃ xs, (d = .list xs ∨ d = .tuple xs) ∧ Q xs e1
theorem i_seq (h : PE X e (lE X.K ζ w)) : PI X tg e (lI X.K ζ (wSq w)) :=
  (pi_seq h).mo fun σ H R ⟨G, en, I, Q', o, q, k⟩ => ⟨G, en, I, _, o, q, fun v H1 I1 e1 d o1 x1 dv ⟨xs, hd, q1⟩ => by
    rcases hd with rfl | rfl
    · cases dv with
      | lst hs ha => exact ⟨_, rfl, Or.inl ⟨⟨_, SqL.of (o1.iH _ _ hs)⟩, k _ H1 I1 e1 xs o1 x1 (itd_list hs ha) q1⟩⟩
    · cases dv with
      | tup hs ha => exact ⟨_, rfl, Or.inr ⟨⟨_, sqt_ex o1.iH hs⟩, k _ H1 I1 e1 xs o1 x1 (itd_tup hs ha) q1⟩⟩⟩
/-- the ints lo, lo + 1, .., n of them -/
def rngD (lo : Int) (n : Nat) : List D := (List.range n).map fun i => PyData.int (lo + (i : Nat))
theorem rngD_len (lo : Int) (n : Nat) : (rngD lo n).length = n := by unfold rngD; rw [List.length_map, List.length_range]
theorem rngD_get {lo : Int} {n i : Nat} {d : D} (h : (rngD lo n)[i]? = some d) : d = .int (lo + (i : Nat)) ∧ i < n := by
  unfold rngD at h
  rw [List.getElem?_map] at h
  cases q : (List.range n)[i]? with
  | none => rw [q] at h; cases h
  | some j =>
    rw [q] at h
    obtain ⟨h1, h2⟩ := List.getElem?_eq_some_iff.mp q
    rw [List.getElem_range] at h2
    subst h2
    cases h
    exact ⟨rfl, by simpa using h1⟩
theorem itd_rng {I : Hp} {lo : Int} {n : Nat} : ItD K (Itr lo n) I (rngD lo n) where
  go := fun i H I1 e1 e2 hi => by rw [rngD_len] at hi; exact hi
  stop := fun H I1 e1 e2 => by rw [rngD_len]; exact Nat.le_refl _
  yld := fun i H I1 v H' d e1 e2 hd ⟨eH, hv⟩ => by
    subst eH hv
    obtain ⟨h1, h2⟩ := rngD_get hd
    subst h1
    exact ⟨I1, Gr.rf e2, .int _⟩
def wRg1 (w : WA) : WA := fun en Q => w en fun ds e1 => ∃ j : Int, ds = [.int j] ∧ -(2 ^ 62) ≤ j ∧ j < 2 ^ 62 ∧ Q (rngD 0 j.toNat) e1
def wRg2 (w : WA) : WA := fun en Q => w en fun ds e1 => ∃ i j : Int, ds = [.int i, .int j] ∧ (-(2 ^ 62) ≤ i ∧ i < 2 ^ 62 ∧ -(2 ^ 62) ≤ j ∧ j < 2 ^ 62) ∧ Q (rngD i (j - i).toNat) e1
theorem i_rng1 (hm : X.mg "range" = none) (ha : PA X [a] (lA X.K ζ wa)) (hg : Gl X "range" := by rfl) (hs : starEach [a] X.env = [(false, eval a X.env)] := by rfl) : PI X tg (.Call (.Name "range" p) [a] [] pos) (lI X.K ζ (wRg1 wa)) :=
  (pi_range1 hg hm ha hs).mo fun σ H R ⟨G, en, I, Q', o, q, k⟩ => ⟨G, en, I, _, o, q, fun vs H1 I1 e1 ds o1 x1 dvs ⟨j, hd, h1, h2, q1⟩ => by
    subst hd
    cases dvs with
    | cons h t => cases t; cases h; exact ⟨j, rfl, h1, h2, k _ H1 I1 e1 _ o1 x1 itd_rng q1⟩⟩
theorem i_rng2 (hm : X.mg "range" = none) (ha : PA X [a, b] (lA X.K ζ wa)) (hg : Gl X "range" := by rfl) (hs : starEach [a, b] X.env = [(false, eval a X.env), (false, eval b X.env)] := by rfl) (hs2 : starEach [b] X.env = [(false, eval b X.env)] := by rfl) : PI X tg (.Call (.Name "range" p) [a, b] [] pos) (lI X.K ζ (wRg2 wa)) :=
  (pi_range2 hg hm ha hs hs2).mo fun σ H R ⟨G, en, I, Q', o, q, k⟩ => ⟨G, en, I, _, o, q, fun vs H1 I1 e1 ds o1 x1 dvs ⟨i, j, hd, h1, q1⟩ => by
    subst hd
    cases dvs with
    | cons h t => cases t with
      | cons h2 t => cases t; cases h; cases h2; exact ⟨i, j, rfl, h1, k _ H1 I1 e1 _ o1 x1 itd_rng q1⟩⟩
/-! ### targets -/
abbrev WG := D → En → (En → Prop) → Prop
/-- is: the slots that are stored -/
def lG (K : PySem.W.Frag) (ζ : Zt) (is : List Nat) (w : WG) : TG := fun v σ H Q => ∃ (G : Gh) (en : En) (I : Hp) (d : D) (Q' : En → Prop), Ok K ζ G σ en H I ∧ Da K I v d ∧ w d en Q' ∧
  ∀ σ' H' I' en', Ok K ζ G σ' en' H' I' → Ex I I' → σ'.length = σ.length → (∀ j, j ∉ is → σ'[j]? = σ[j]?) → Q' en' → Q σ' H'
theorem _root_.L2.PG.mo {X : Cx} {tg : Expr} {t t' : TG} (h : PG X tg t) (m : ∀ v σ H Q, t' v σ H Q → t v σ H Q) : PG X tg t' := ⟨fun pins s σ H v u Q I r q => h.run pins s σ H v u Q I r (m v σ H Q q)⟩
def wgN (i : Nat) : WG := fun d en Q => (i ≠ 0 ∨ NotOwn en[i]?) ∧ Q (en.set i (.imm d))
theorem g_name {i : Nat} {x : Str} (hN : X.N.Nodup) (hi : X.N[i]? = some x) (hx : Loc X.env.scope x) (hf : X.fn x = true ∨ X.env.scope.names.lookup x = some .local := by first | exact .inl rfl | exact .inr rfl | assumption) : PG X (.Name x pos) (lG X.K ζ [i] (wgN i)) :=
  (pg_name hN hi hx hf).mo fun v σ H Q ⟨G, en, I, d, Q', o, dv, ⟨hi, q⟩, k⟩ =>
    k _ H I _ (o.put dv (hi.imp id notOwn_ne)) (Ex.rf I) (by rw [List.length_set]) (fun j hj => by rw [List.getElem?_set_ne]; exact fun e => hj (by rw [e]; exact List.mem_singleton.mpr rfl)) q
abbrev WGs := List D → En → (En → Prop) → Prop
def lGs (K : PySem.W.Frag) (ζ : Zt) (is : List Nat) (w : WGs) : TGs := fun vs σ H Q => ∃ (G : Gh) (en : En) (I : Hp) (ds : List D) (Q' : En → Prop), Ok K ζ G σ en H I ∧ DaAll K I vs ds ∧ w ds en Q' ∧
  ∀ σ' H' I' en', Ok K ζ G σ' en' H' I' → Ex I I' → σ'.length = σ.length → (∀ j, j ∉ is → σ'[j]? = σ[j]?) → Q' en' → Q σ' H'
def wgNil : WGs := fun ds en Q => ds = [] ∧ Q en
def wgCons (g : WG) (r : WGs) : WGs := fun ds en Q => ∃ d t, ds = d :: t ∧ g d en fun e1 => r t e1 Q
theorem gs_nil : PGs X [] (lGs X.K ζ [] wgNil) := ⟨fun pins s σ H vs us Q I r h => pgs_nil.run pins s σ H vs us Q I r (by
  obtain ⟨G, en, I, ds, Q', o, dvs, ⟨hd, q⟩, k⟩ := h
  subst hd; cases dvs
  exact ⟨rfl, k σ H I en o (Ex.rf I) rfl (fun _ _ => rfl) q⟩)⟩
theorem gs_cons {is js : List Nat} {g : WG} {r : WGs} (h1 : PG X e (lG X.K ζ is g)) (h2 : PGs X es (lGs X.K ζ js r)) (hs : (assignEach (e :: es) X.env).map (·.2) = assign e X.env :: (assignEach es X.env).map (·.2) := by rfl) : PGs X (e :: es) (lGs X.K ζ (is ++ js) (wgCons g r)) := ⟨fun pins s σ H vs us Q I rr h => (pgs_cons h1 h2 hs).run pins s σ H vs us Q I rr (by
  obtain ⟨G, en, I, ds, Q', o, dvs, ⟨d, t, hd, q⟩, k⟩ := h
  subst hd
  cases dvs with
  | cons dv dvs =>
    refine ⟨_, _, rfl, G, en, I, d, _, o, dv, q, fun σ1 H1 I1 e1 o1 x1 l1 k1 q1 => ?_⟩
    refine ⟨G, e1, I1, t, _, o1, dvs.up x1, q1, fun σ2 H2 I2 e2 o2 x2 l2 k2 q2 => ?_⟩
    exact k σ2 H2 I2 e2 o2 (x1.tr x2) (l2.trans l1) (fun j hj => (k2 j fun h => hj (List.mem_append_right _ h)).trans (k1 j fun h => hj (List.mem_append_left _ h))) q2)⟩
def wgT (n : Nat) (r : WGs) : WG := fun d en Q => ∃ ds, d = .tuple ds ∧ ds.length = n ∧ r ds en Q
theorem g_tup {is : List Nat} {k n : Nat} {r : WGs} (hc : X.calm = true) (h : PGs X es (lGs X.K ζ is r)) (pg : PG X (.Tuple es k pos) (gTup X.K n (lGs X.K ζ is r))) : PG X (.Tuple es k pos) (lG X.K ζ is (wgT n r)) :=
  pg.mo fun v σ H Q ⟨G, en, I, d, Q', o, dv, ⟨ds, hd, hn, q⟩, kk⟩ => by
    subst hd
    cases dv with
    | tup hs ha => exact ⟨_, _, rfl, sqt_ex o.iH hs, by rw [dpa_len ha]; exact hn, G, en, I, ds, Q', o, ha, q, kk⟩
end
/-! ### for -/
def forW (g : WG) (b : WS) (R : Ed) : List D → En → Prop
  | [], en => R.nx en
  | x :: xs, en => g x en fun e1 => b { R with nx := forW g b R xs, ct := forW g b R xs, bk := R.nx } e1
def wFor (wi : WA) (g : WG) (b : WS) : WS := fun R en => wi en fun xs e1 => forW g b R xs e1
theorem Ok.base {K : PySem.W.Frag} {G : Gh} {σ σ1 : Sg} {en e1 : En} {H H1 I I1 : Hp} (o1 : Ok K ζ G σ1 e1 H1 I1) (o : Ok K ζ G σ en H I) (x : Ex I1 I) : Ok K ζ { G with I0 := I1 } σ en H I :=
  ⟨x, o.iH, fun a h1 h2 => o.nw a h1 (o1.i0.no h2), o.fr, o.ln, o.sl, o.ml, o.ds, o.pj, o.pr, o.pn, o.tg, o.tt, fun σ' en' H' I' c => o.lk σ' en' H' I' ⟨o1.i0.tr c.i0, c.iH, fun a h1 h2 => c.nw a h1 (o1.nw a h1 h2), c.fr, c.ln, c.sl, c.ml, c.ds, c.pj, c.tt⟩⟩
theorem Ok.back {K : PySem.W.Frag} {G : Gh} {σ σ1 : Sg} {en e1 : En} {H H1 I I1 : Hp} (o1 : Ok K ζ G σ1 e1 H1 I1) (o : Ok K ζ { G with I0 := I1 } σ en H I) : Ok K ζ G σ en H I ∧ Ex I1 I :=
  ⟨⟨o1.i0.tr o.i0, o.iH, fun a h1 h2 => o.nw a h1 (o1.nw a h1 h2), o.fr, o.ln, o.sl, o.ml, o.ds, o.pj, o.pr, o.pn, o.tg, o.tt, o1.lk⟩, o.i0⟩
theorem s_for {X : Cx} {tg iter : Expr} {body : List Stmt} {pos : Pos} {wi : WA} {is : List Nat} {g : WG} {b : WS} (hp : PassesOwn (model X.prog X.w) X.A X.env X.xe) (hc : X.calm = true) (hi : PI X tg iter (lI X.K ζ wi)) (hg : PG X tg (lG X.K ζ is g)) (hb : PSs X body (lS X.K ζ b))
    (hs : ∀ x, foldedSetIterable iter X.env x = pure x := by intro _; rfl) : PS X (.For tg iter body [] pos) (lS X.K ζ (wFor wi g b)) :=
  (ps_for hp hc hi hg hb hs).mo fun R σ H ⟨G, en, I, R', ok, q, k⟩ => ⟨G, en, I, _, ok, q, fun J H1 I1 e1 xs o1 x1 it q1 => by
    refine ⟨fun i m σ H => m = xs.length - i ∧ i ≤ xs.length ∧ ∃ en I, Ok X.K ζ { G with I0 := I1 } σ en H I ∧ forW g b R' (xs.drop i) en, ⟨xs.length, by omega, Nat.zero_le _, e1, I1, o1.base o1 (Ex.rf I1), q1⟩, ?_⟩
    rintro i m σ2 H2 ⟨hm, hi, e2, I2, o2, q2⟩
    by_cases hlt : i < xs.length
    · rw [List.drop_eq_getElem_cons hlt] at q2
      refine Or.inr ⟨it.go i H2 I2 o2.i0 o2.iH hlt, fun σ H => ∃ en I, Ok X.K ζ { G with I0 := I1 } σ en H I ∧ forW g b R' (xs.drop (i + 1)) en, fun σ' H' h => ⟨xs.length - (i + 1), by omega, rfl, hlt, h⟩, fun v H3 y3 => ?_⟩
      obtain ⟨I3, g3, d3⟩ := it.yld i H2 I2 v H3 _ o2.i0 o2.iH (List.getElem?_eq_getElem hlt) y3
      refine ⟨{ G with I0 := I1 }, e2, I3, xs[i], _, o2.gr g3, d3, q2, fun σ4 H4 I4 e4 o4 x4 _ _ q4 => ?_⟩
      refine ⟨{ G with I0 := I1 }, e4, I4, _, o4, q4, fun σ' H' I' en' o' h => ⟨en', I', o', h⟩, fun v σ' H' I' en' d o' dv h => ?_, fun σ' H' I' en' o' h => ?_, fun σ' H' I' en' o' h => ⟨en', I', o', h⟩⟩
      · exact k.2.1 v σ' H' I' en' d (o1.back o').1 dv h
      · exact k.1 σ' H' I' en' (o1.back o').1 h
    · have e : i = xs.length := by omega
      subst e
      rw [List.drop_length] at q2
      exact Or.inl ⟨it.stop H2 I2 o2.i0 o2.iH, k.1 σ2 H2 I2 e2 (o1.back o2).1 q2⟩⟩
/-! ### list comprehensions -/
theorem _root_.L2.PTs.mo {X : Cx} {ifs : List Expr} {t t' : TT} (h : PTs X ifs t) (m : ∀ σ H Q, t' σ H Q → t σ H Q) : PTs X ifs t' := ⟨fun pins s σ H Q I q => h.run pins s σ H Q I (m σ H Q q)⟩
def wYes : WT := fun en Q => Q true en
theorem ts_nil {X : Cx} : PTs X [] (lT X.K ζ wYes) := pts_nil.mo fun σ H Q ⟨G, en, I, Q', o, q, k⟩ => k true H I en o (Ex.rf I) q
theorem ts_one {X : Cx} {c : Expr} {t : WT} (h : PT X c (lT X.K ζ t)) : PTs X [c] (lT X.K ζ t) := pts_one h
/-- the slots vs forgotten -/
def wip : List Nat → En → En
  | [], en => en
  | v :: vs, en => (wip vs en).set v .un
theorem wip_get : ∀ {vs : List Nat} {en : En} {i : Nat} {s : Sl}, (wip vs en)[i]? = some s → (i ∈ vs ∧ s = .un) ∨ (i ∉ vs ∧ en[i]? = some s)
  | [], en, i, s, h => Or.inr ⟨by simp, h⟩
  | v :: vs, en, i, s, h => by
    rcases set_get h with ⟨e, q⟩ | ⟨ne, q⟩
    · exact Or.inl ⟨by rw [e]; exact List.mem_cons_self, q⟩
    · rcases wip_get q with ⟨h1, h2⟩ | ⟨h1, h2⟩
      · exact Or.inl ⟨List.mem_cons_of_mem _ h1, h2⟩
      · exact Or.inr ⟨fun h => (List.mem_cons.mp h).elim (fun e => ne e.symm) h1, h2⟩
/-- none of the slots vs holds the caller's list -/
def FreeS (en : En) (vs : List Nat) : Prop := ∀ v ∈ vs, v ≠ 0 ∨ NotOwn en[v]?
theorem Ok.wip {K : PySem.W.Frag} {G : Gh} {σ : Sg} {en : En} {H I : Hp} (o : Ok K ζ G σ en H I) : ∀ {vs : List Nat}, FreeS en vs → Ok K ζ G (wipe σ vs) (wip vs en) H I
  | [], _ => o
  | v :: vs, h => by
    have o1 := Ok.wip o (vs := vs) fun u hu => h u (List.mem_cons_of_mem _ hu)
    refine o1.forget ?_
    rcases h v List.mem_cons_self with q | q
    · exact Or.inl q
    · refine Or.inr fun ds e => ?_
      rcases wip_get e with ⟨_, e2⟩ | ⟨_, e2⟩
      · cases e2
      · rw [e2] at q; exact q
/-- the slots vs as they were -/
def bak (vs : List Nat) (en e : En) : En := (List.range e.length).map fun i => if i ∈ vs then en.getD i .un else e.getD i .un
def lcW (g : WG) (t : WT) (w : WE) (vs : List Nat) : List D → List D → En → (List D → En → Prop) → Prop
  | [], acc, e, Q => Q acc e
  | x :: xs, acc, e, Q => g x e fun e1 => t e1 fun b e2 => FreeS e2 vs ∧ if b = true then w e2 fun y e3 => FreeS e3 vs ∧ lcW g t w vs xs (acc ++ [y]) (wip vs e3) Q else lcW g t w vs xs acc (wip vs e2) Q
def wLc (wi : WA) (g : WG) (t : WT) (w : WE) (vs : List Nat) : WA := fun en Q => wi en fun xs e1 => FreeS e1 vs ∧ (∀ v ∈ vs, NotOwn e1[v]?) ∧ xs.length ≤ sizeLine ∧ lcW g t w vs xs [] (wip vs e1) fun ys e2 => Q ys (bak vs e1 e2)
theorem wipe_out {i : Nat} : ∀ {σ : Sg} {vs : List Nat}, i ∉ vs → (wipe σ vs)[i]? = σ[i]?
  | σ, [], _ => rfl
  | σ, v :: vs, hi => by
    show ((wipe σ vs).set v none)[i]? = σ[i]?
    rw [List.getElem?_set_ne fun e => hi (by rw [e]; exact List.mem_cons_self)]
    exact wipe_out fun q => hi (List.mem_cons_of_mem _ q)
theorem wipe_in {i : Nat} {σ : Sg} (hl : i < σ.length) : ∀ {vs : List Nat}, i ∈ vs → (wipe σ vs)[i]? = some none
  | [], h => by cases h
  | v :: vs, hi => by
    show ((wipe σ vs).set v none)[i]? = some none
    by_cases e : v = i
    · subst e; rw [List.getElem?_set_self]; rw [wipe_length]; exact hl
    · rw [List.getElem?_set_ne e]
      exact wipe_in hl ((List.mem_cons.mp hi).resolve_left fun q => e q.symm)
theorem wipe_of {σ σ' : Sg} (hl : σ'.length = σ.length) {vs : List Nat} (h : ∀ j, j ∉ vs → σ'[j]? = σ[j]?) : wipe σ' vs = wipe σ vs := by
  refine List.ext_getElem? fun i => ?_
  by_cases hi : i ∈ vs
  · by_cases hl2 : i < σ.length
    · rw [wipe_in (by omega) hi, wipe_in hl2 hi]
    · rw [List.getElem?_eq_none (by rw [wipe_length]; omega), List.getElem?_eq_none (by rw [wipe_length]; omega)]
  · rw [wipe_out hi, wipe_out hi, h i hi]
theorem bak_get {vs : List Nat} {en e : En} {i : Nat} {s : Sl} (h : (bak vs en e)[i]? = some s) : i < e.length ∧ ((i ∈ vs ∧ s = en.getD i .un) ∨ (i ∉ vs ∧ e[i]? = some s)) := by
  unfold bak at h
  rw [List.getElem?_map] at h
  cases q : (List.range e.length)[i]? with
  | none => rw [q] at h; cases h
  | some j =>
    rw [q] at h
    obtain ⟨h1, h2⟩ := List.getElem?_eq_some_iff.mp q
    rw [List.getElem_range] at h2
    subst h2
    rw [List.length_range] at h1
    refine ⟨h1, ?_⟩
    have h3 : (if i ∈ vs then en.getD i .un else e.getD i .un) = s := Option.some.inj h
    by_cases hi : i ∈ vs
    · rw [if_pos hi] at h3; exact Or.inl ⟨hi, h3.symm⟩
    · rw [if_neg hi] at h3
      refine Or.inr ⟨hi, ?_⟩
      rw [List.getElem?_eq_getElem h1]
      rw [List.getD_eq_getElem?_getD, List.getElem?_eq_getElem h1] at h3
      exact congrArg some h3
theorem Ok.bak {K : PySem.W.Frag} {G : Gh} {σ : Sg} {e1 e : En} {H1 I1 H I : Hp} {vs : List Nat} (o1 : Ok K ζ G σ e1 H1 I1) (n : ∀ v ∈ vs, NotOwn e1[v]?) (o : Ok K ζ G (wipe σ vs) e H I) (x : Ex I1 I) : Ok K ζ G σ (bak vs e1 e) H I := by
  have hl : σ.length = e.length := by rw [← o.ln, wipe_length]
  have own' : ∀ i b, OwnAt σ (Pd.bak vs e1 e) i b → OwnAt (wipe σ vs) e i b := fun i b ⟨q1, es, q2⟩ => by
    rcases (bak_get q2).2 with ⟨h1, h2⟩ | ⟨h1, h2⟩
    · have q := n i h1
      have h3 : e1[i]? = some (.own es) := by
        rw [List.getD_eq_getElem?_getD] at h2
        cases z : e1[i]? with
        | none => rw [z] at h2; cases h2
        | some y => rw [z] at h2; exact congrArg some h2.symm
      rw [h3] at q; exact q.elim
    · exact ⟨by rw [wipe_out h1]; exact q1, es, h2⟩
  refine ⟨o.i0, o.iH, o.nw, o.fr, by unfold Pd.bak; rw [List.length_map, List.length_range]; exact hl, fun i s q => ?_, fun i b q => o.ml i b (own' i b q), fun a b c q1 q2 => o.ds a b c (own' a c q1) (own' b c q2), fun b q => ?_, fun p hp => ⟨(o.pr p hp).1, (o.pr p hp).2.1, fun j q => (o.pr p hp).2.2 j (own' j _ q)⟩, o.pn, o.tg, o.tt, o.lk⟩
  · obtain ⟨hlt, q⟩ := bak_get q
    rcases q with ⟨h1, h2⟩ | ⟨h1, h2⟩
    · have q := n i h1
      rw [List.getD_eq_getElem?_getD] at h2
      cases z : e1[i]? with
      | none => rw [z] at h2; subst h2; trivial
      | some y =>
        rw [z] at h2 q
        have h3 : s = y := h2
        subst h3
        have r := o1.sl i s z
        cases s with
        | un => trivial
        | scr ns => obtain ⟨a, q1, q2⟩ := r; exact ⟨a, q1, sqs_ex x q2⟩
        | adr a => exact r
        | fnv nm => exact r
        | exc a dx ns ds => obtain ⟨q1, vs, q2, q3, q4⟩ := r; exact ⟨q1, vs, x _ _ q2, q3, q4.up x⟩
        | imm d =>
          obtain ⟨v, r1, r2⟩ := r
          exact ⟨v, r1, r2.up x⟩
        | own es => exact q.elim
    · have r := o.sl i s h2
      rw [wipe_out h1] at r
      exact r
  · obtain ⟨q1, es, q2⟩ := o.pj b q
    obtain ⟨q3, q4⟩ := wipe_some q1
    refine ⟨q3, es, ?_⟩
    have hlt : 0 < e.length := (List.getElem?_eq_some_iff.mp q2).1
    unfold Pd.bak
    rw [List.getElem?_map, List.getElem?_eq_getElem (by rw [List.length_range]; exact hlt), List.getElem_range]
    show some (if 0 ∈ vs then e1.getD 0 .un else e.getD 0 .un) = _
    rw [if_neg q4, List.getD_eq_getElem?_getD, q2]
    rfl
def hid (H : Hp) (p : Addr) : Hp := fun b => if b = p then none else H b
theorem hid_ne {H : Hp} {p a : Addr} (h : a ≠ p) : hid H p a = H a := if_neg h
theorem hid_at {H : Hp} {p : Addr} : hid H p p = none := if_pos rfl
/-- a protected object that is new since the entry is taken out of sight -/
theorem Ok.drop {K : PySem.W.Frag} {G : Gh} {σ : Sg} {en : En} {H I : Hp} {P : List (Addr × HO)} {p : Addr} {u : HO} (o : Ok K ζ { G with P := (p, u) :: P } σ en H I) (he : G.He p = none) (hP : ∀ q ∈ P, q.1 ≠ p) (hu : NoT u := by trivial) : Ok K ζ { G with P := P } σ en (hid H p) I ∧ H = upd (hid H p) p u := by
  obtain ⟨h1, h2, h3⟩ := o.pr (p, u) List.mem_cons_self
  refine ⟨⟨o.i0, fun a v h => ?_, o.nw, fun a v h1 h2 h3 => ?_, o.ln, fun j s q => ?_, o.ml, o.ds, o.pj, fun q hq => ?_, fun q hq => o.pn q (List.mem_cons_of_mem _ hq), o.tg, tabs_n o.tt fun b w no hb => by
    rw [hid_ne]
    · exact hb
    · intro e
      subst e
      rw [h1] at hb
      cases hb
      exact no hu, o.lk⟩, ?_⟩
  · have e : a ≠ p := fun e => by rw [e, h2] at h; cases h
    rw [hid_ne e]; exact o.iH a v h
  · have h1' : G.He a = some v := h1
    have e : a ≠ p := fun e => by rw [e, he] at h1'; cases h1'
    rw [hid_ne e]; exact o.fr a v h1 h2 h3
  · have r := o.sl j s q
    cases s with
    | un => trivial
    | scr ns => exact r
    | adr a => exact r
    | fnv nm => exact r
    | exc a dx ns ds => exact r
    | imm d => exact r
    | own es =>
      obtain ⟨l', vs', r1, r2, r3, r4⟩ := r
      have e : l' ≠ p := fun e => h3 j ⟨by rw [r1, e], es, q⟩
      exact ⟨l', vs', r1, r2, by rw [hid_ne e]; exact r3, r4⟩
  · obtain ⟨q1, q2, q3⟩ := o.pr q (List.mem_cons_of_mem _ hq)
    exact ⟨by rw [hid_ne (hP q hq)]; exact q1, q2, q3⟩
  · funext b
    by_cases e : b = p
    · rw [e, upd_same, h1]
    · rw [upd_ne e, hid_ne e]
theorem Ok.fresh {K : PySem.W.Frag} {G : Gh} {σ : Sg} {en : En} {H I : Hp} (o : Ok K ζ G σ en H I) {p : Addr} (hp : H p = none) : G.J ≠ some p ∧ G.He p = none ∧ ∀ q ∈ G.P, q.1 ≠ p := by
  have nj : G.J ≠ some p := fun hj => by
    obtain ⟨r1, es, r2⟩ := o.pj p hj
    obtain ⟨l', vs', r3, r4, r5, r6⟩ := o.own r2
    rw [r1] at r3
    have q5 : p = l' := by injection r3 with r3; injection r3 with r3; injection r3
    rw [← q5, hp] at r5; cases r5
  refine ⟨nj, ?_, fun q hq e => by rw [← e, (o.pr q hq).1] at hp; cases hp⟩
  cases q : G.He p with
  | none => rfl
  | some u => obtain ⟨v, hv⟩ := o.th q nj; rw [hv] at hp; cases hp
theorem lcm {K : PySem.W.Frag} {wi : WA} {is : List Nat} {g : WG} {t : WT} {w : WE} {vs : List Nat} {σ : Sg} {H : Hp} {Q : VK} (his : ∀ i ∈ is, i ∈ vs) (h : lL K ζ (wLc wi g t w vs) σ H Q) : tLc (lI K ζ wi) (lG K ζ is g) (lT K ζ t) (lE K ζ w) vs σ H Q := by
  obtain ⟨G, en, I, Q', o, q, k⟩ := h
  refine ⟨G, en, I, _, o, q, fun J H1 I1 e1 xs o1 x1 it ⟨fr1, no1, hz, q1⟩ => fun D hD => ?_⟩
  obtain ⟨nj, hn, hP⟩ := o1.fresh hD
  have id2 : wipe (wipe σ vs) vs = wipe σ vs := wipe_of (wipe_length σ vs) fun j hj => wipe_out hj
  refine ⟨fun i m H => m = xs.length - i ∧ i ≤ xs.length ∧ ∃ e I acc vacc, Ok K ζ { G with I0 := I1, P := (D, .lst vacc) :: G.P } (wipe σ vs) e H I ∧ DaAll K I vacc acc ∧ acc.length ≤ i ∧ lcW g t w vs (xs.drop i) acc e fun ys e2 => Q' ys (bak vs e1 e2),
    ⟨xs.length, by omega, Nat.zero_le _, wip vs e1, I1, [], [], ((o1.base o1 (Ex.rf I1)).wip fr1).prot hD, .nil, Nat.le_refl _, q1⟩, ?_⟩
  rintro i m H2 ⟨hm, hi, e2, I2, acc, vacc, o2, da2, hacc, q2⟩
  by_cases hlt : i < xs.length
  · rw [List.drop_eq_getElem_cons hlt] at q2
    refine Or.inr ⟨it.go i H2 I2 o2.i0 o2.iH hlt, fun H => ∃ e I acc vacc, Ok K ζ { G with I0 := I1, P := (D, .lst vacc) :: G.P } (wipe σ vs) e H I ∧ DaAll K I vacc acc ∧ acc.length ≤ i + 1 ∧ lcW g t w vs (xs.drop (i + 1)) acc e fun ys e2 => Q' ys (bak vs e1 e2),
      fun H' h => ⟨xs.length - (i + 1), by omega, rfl, hlt, h⟩, fun v H3 y3 => ?_⟩
    obtain ⟨I3, g3, d3⟩ := it.yld i H2 I2 v H3 _ o2.i0 o2.iH (List.getElem?_eq_getElem hlt) y3
    refine ⟨_, e2, I3, xs[i], _, o2.gr g3, d3, q2, fun σ4 H4 I4 e4 o4 x4 l4 k4 q4 => ?_⟩
    have e4' : wipe σ4 vs = wipe σ vs := (wipe_of l4 fun j hj => k4 j fun h => hj (his j h)).trans id2
    refine ⟨e4', _, e4, I4, _, o4, q4, fun b H5 I5 e5 o5 x5 ⟨f5, q5⟩ => ?_⟩
    cases b with
    | false =>
      have o5' := o5.wip f5
      rw [e4'] at o5'
      exact ⟨wip vs e5, I5, acc, vacc, o5', ((da2.up g3.i).up x4).up x5, by omega, q5⟩
    | true =>
      refine ⟨_, e5, I5, _, o5, q5, fun y H6 I6 e6 d6 o6 x6 dv6 ⟨f6, q6⟩ => ?_⟩
      have da6 := (((da2.up g3.i).up x4).up x5).up x6
      refine ⟨vacc, (o6.pr _ List.mem_cons_self).1, by rw [dpa_len da6]; omega, ?_⟩
      have o6' := o6.wip f6
      rw [e4'] at o6'
      exact ⟨wip vs e6, I6, acc ++ [d6], vacc ++ [y], Ok.rewr (G := { G with I0 := I1 }) o6' nj hn hP, dpa_app da6 (.cons dv6 .nil), by rw [List.length_append, List.length_singleton]; omega, q6⟩
  · have e : i = xs.length := by omega
    subst e
    rw [List.drop_length] at q2
    refine Or.inl ⟨it.stop H2 I2 o2.i0 o2.iH, ?_⟩
    obtain ⟨o3, eH⟩ := Ok.drop (G := { G with I0 := I1 }) o2 hn hP
    rw [eH]
    have o3' : Ok K ζ { G with I0 := I1 } (wipe σ vs) e2 (hid H2 D) I2 := o3
    obtain ⟨o4, x4⟩ := o1.back o3'
    exact k D vacc _ I2 _ acc (o1.bak no1 o4 x4) (x1.tr x4) hid_at da2 q2
theorem l_lc {X : Cx} {elt tg iter : Expr} {ifs : List Expr} {scope : Scope} {own : List (Str × Nat)} {pos : Pos} {wi : WA} {is : List Nat} {g : WG} {t : WT} {w : WE} (hc : X.calm = true) (hN : X.N.Nodup) (hi : PI X tg iter (lI X.K ζ wi)) (ok : BlkOk X.N X.env.scope scope own)
    (hg : ∀ (s : Shared) (H : Hp) (C : Addr) (cl : List (Str × Addr)) (fp : List Addr), PG (X.blk s H scope (compEnvC scope cl C X.env) fp) tg (lG X.K ζ is g)) (ht : ∀ (s : Shared) (H : Hp) (C : Addr) (cl : List (Str × Addr)) (fp : List Addr), PTs (X.blk s H scope (compEnvC scope cl C X.env) fp) ifs (lT X.K ζ t))
    (he : ∀ (s : Shared) (H : Hp) (C : Addr) (cl : List (Str × Addr)) (fp : List Addr), PE (X.blk s H scope (compEnvC scope cl C X.env) fp) elt (lE X.K ζ w)) (hs : ∀ x, foldedSetIterable iter X.env x = pure x := by intro _; rfl)
    (his : ∀ i ∈ is, i ∈ own.map (·.2) := by decide) :
    PE X (.ListComp elt [⟨tg, iter, ifs, 0⟩] scope pos) (lL X.K ζ (wLc wi g t w (own.map (·.2)))) :=
  (pe_lc hc hN hi ok hg ht he hs).mo fun σ H Q h => lcm his h
end Pd

set_option Elab.async false
set_option linter.all false
set_option maxRecDepth 100000
set_option maxHeartbeats 4000000
namespace Pd
open PySem PySem.Spec PyProof.Rows L2
section
variable {X : Cx}
/-- x = [..] on one line -/
theorem s_lc {i : Nat} {y : Str} {py : Pos} {elt tg iter : Expr} {ifs : List Expr} {scope : Scope} {own : List (Str × Nat)} {pos spos : Pos} {wi : WA} {is : List Nat} {g : WG} {t : WT} {w : WE} (hc : X.calm = true) (hN : X.N.Nodup) (hy : X.N[i]? = some y) (hyl : X.env.scope.names.lookup y = some .local)
    (hsw : swapsWith (.ListComp elt [⟨tg, iter, ifs, 0⟩] scope pos) (some (.Name y py)) spos.line X.env = pure true) (hi : PI X tg iter (lI X.K ζ wi)) (ok : BlkOk X.N X.env.scope scope own)
    (hg : ∀ (s : Shared) (H : Hp) (C : Addr) (cl : List (Str × Addr)) (fp : List Addr), PG (X.blk s H scope (compEnvC scope cl C X.env) fp) tg (lG X.K ζ is g)) (ht : ∀ (s : Shared) (H : Hp) (C : Addr) (cl : List (Str × Addr)) (fp : List Addr), PTs (X.blk s H scope (compEnvC scope cl C X.env) fp) ifs (lT X.K ζ t))
    (he : ∀ (s : Shared) (H : Hp) (C : Addr) (cl : List (Str × Addr)) (fp : List Addr), PE (X.blk s H scope (compEnvC scope cl C X.env) fp) elt (lE X.K ζ w)) (hs : ∀ x, foldedSetIterable iter X.env x = pure x := by intro _; rfl)
    (his : ∀ i ∈ is, i ∈ own.map (·.2) := by decide) :
    PS X (.Assign [.Name y py] (.ListComp elt [⟨tg, iter, ifs, 0⟩] scope pos) spos) (lS X.K ζ (wSet i (wLe (wLc wi g t w (own.map (·.2)))))) :=
  (ps_setLc hc hN hy hyl hsw hi ok hg ht he hs).mo fun R σ H ⟨G, en, I, R', o, q, k⟩ => lcm his ⟨G, en, I, _, o, q, fun p vs H1 I1 e1 ds o1 x1 hp dvs ⟨hi, q1⟩ => by
    obtain ⟨o2, x2⟩ := o1.new (u := .lst vs) hp
    exact k.1 _ _ _ _ (o2.put (.lst upd_same (dvs.up x2)) (hi.imp id notOwn_ne)) q1⟩
theorem s_lcOwn {i : Nat} {y : Str} {py : Pos} {elt tg iter : Expr} {ifs : List Expr} {scope : Scope} {own : List (Str × Nat)} {pos spos : Pos} {wi : WA} {is : List Nat} {g : WG} {t : WT} {w : WE} (hc : X.calm = true) (hN : X.N.Nodup) (hy : X.N[i]? = some y) (hyl : X.env.scope.names.lookup y = some .local)
    (hsw : swapsWith (.ListComp elt [⟨tg, iter, ifs, 0⟩] scope pos) (some (.Name y py)) spos.line X.env = pure true) (hi : PI X tg iter (lI X.K ζ wi)) (ok : BlkOk X.N X.env.scope scope own)
    (hg : ∀ (s : Shared) (H : Hp) (C : Addr) (cl : List (Str × Addr)) (fp : List Addr), PG (X.blk s H scope (compEnvC scope cl C X.env) fp) tg (lG X.K ζ is g)) (ht : ∀ (s : Shared) (H : Hp) (C : Addr) (cl : List (Str × Addr)) (fp : List Addr), PTs (X.blk s H scope (compEnvC scope cl C X.env) fp) ifs (lT X.K ζ t))
    (he : ∀ (s : Shared) (H : Hp) (C : Addr) (cl : List (Str × Addr)) (fp : List Addr), PE (X.blk s H scope (compEnvC scope cl C X.env) fp) elt (lE X.K ζ w)) (hs : ∀ x, foldedSetIterable iter X.env x = pure x := by intro _; rfl)
    (his : ∀ i ∈ is, i ∈ own.map (·.2) := by decide) :
    PS X (.Assign [.Name y py] (.ListComp elt [⟨tg, iter, ifs, 0⟩] scope pos) spos) (lS X.K ζ (wSetOwn i (wLc wi g t w (own.map (·.2))))) :=
  (ps_setLc hc hN hy hyl hsw hi ok hg ht he hs).mo fun R σ H ⟨G, en, I, R', o, q, k⟩ => lcm his ⟨G, en, I, _, o, q, fun p vs H1 I1 e1 ds o1 x1 hp dvs ⟨hi, q1⟩ => k.1 _ _ _ _ (o1.putOwn hp dvs hi) q1⟩
/-! ### a, b = e1, e2 -/
def wPar (i j : Nat) (wa wb : WE) : WS := fun R en => wa en fun x e1 => wb e1 fun y e2 => (i ≠ 0 ∨ NotOwn e2[i]?) ∧ (j ≠ 0 ∨ NotOwn (e2.set i (.imm x))[j]?) ∧ R.nx ((e2.set i (.imm x)).set j (.imm y))
def wParOO (i j : Nat) (wa wb : WA) : WS := fun R en => wa en fun x e1 => wb e1 fun y e2 => i ≠ 0 ∧ j ≠ 0 ∧ R.nx ((e2.set i (.own x)).set j (.own y))
def wParOI (i j : Nat) (wa : WA) (wb : WE) : WS := fun R en => wa en fun x e1 => wb e1 fun y e2 => i ≠ 0 ∧ j ≠ 0 ∧ R.nx ((e2.set i (.own x)).set j (.imm y))
def wParIO (i j : Nat) (wa : WE) (wb : WA) : WS := fun R en => wa en fun x e1 => wb e1 fun y e2 => i ≠ 0 ∧ j ≠ 0 ∧ R.nx ((e2.set i (.imm x)).set j (.own y))
variable {i j : Nat} {x y : Str} {a b : Expr} {px py pt pos pt2 : Pos} {kt k2 : Nat}
theorem s_par {wa wb : WE} (h : PS X (.Assign [.Tuple [.Name x px, .Name y py] kt pt] (.Tuple [a, b] k2 pt2) pos) (tPar i j (tCons (lE X.K ζ wa) (tCons (lE X.K ζ wb) tNil)))) :
    PS X (.Assign [.Tuple [.Name x px, .Name y py] kt pt] (.Tuple [a, b] k2 pt2) pos) (lS X.K ζ (wPar i j wa wb)) :=
  h.mo fun R σ H ⟨G, en, I, R', o, q, k⟩ => ⟨G, en, I, _, o, q, fun v H1 I1 e1 d o1 x1 dv q1 => ⟨G, e1, I1, _, o1, q1, fun u H2 I2 e2 d2 o2 x2 du ⟨h1, h2, q2⟩ => ⟨v, u, rfl, k.1 _ H2 I2 _ ((o2.put (dv.up x2) (h1.imp id notOwn_ne)).put du (h2.imp id notOwn_ne)) q2⟩⟩⟩
theorem s_parOO {wa wb : WA} (h : PS X (.Assign [.Tuple [.Name x px, .Name y py] kt pt] (.Tuple [a, b] k2 pt2) pos) (tPar i j (tCons (lL X.K ζ wa) (tCons (lL X.K ζ wb) tNil)))) :
    PS X (.Assign [.Tuple [.Name x px, .Name y py] kt pt] (.Tuple [a, b] k2 pt2) pos) (lS X.K ζ (wParOO i j wa wb)) :=
  h.mo fun R σ H ⟨G, en, I, R', o, q, k⟩ => ⟨G, en, I, _, o, q, fun p vs H1 I1 e1 ds o1 x1 hp dvs q1 => by
    obtain ⟨nj, hn, hP⟩ := o1.fresh hp
    refine ⟨_, e1, I1, _, o1.prot (u := .lst vs) hp, q1, fun p2 us H2 I2 e2 es o2 x2 hp2 dus ⟨h1, h2, q2⟩ => ?_⟩
    obtain ⟨o3, eH⟩ := Ok.drop (G := G) (P := G.P) o2 hn hP
    have o4 := o3.putOwn (i := i) (p := p) (vs := vs) (ds := ds) hid_at (dvs.up x2) h1
    rw [← eH] at o4
    exact ⟨_, _, rfl, k.1 _ _ I2 _ (o4.putOwn hp2 dus h2) q2⟩⟩
theorem s_parOI {wa : WA} {wb : WE} (h : PS X (.Assign [.Tuple [.Name x px, .Name y py] kt pt] (.Tuple [a, b] k2 pt2) pos) (tPar i j (tCons (lL X.K ζ wa) (tCons (lE X.K ζ wb) tNil)))) :
    PS X (.Assign [.Tuple [.Name x px, .Name y py] kt pt] (.Tuple [a, b] k2 pt2) pos) (lS X.K ζ (wParOI i j wa wb)) :=
  h.mo fun R σ H ⟨G, en, I, R', o, q, k⟩ => ⟨G, en, I, _, o, q, fun p vs H1 I1 e1 ds o1 x1 hp dvs q1 => by
    obtain ⟨nj, hn, hP⟩ := o1.fresh hp
    refine ⟨_, e1, I1, _, o1.prot (u := .lst vs) hp, q1, fun u H2 I2 e2 d2 o2 x2 du ⟨h1, h2, q2⟩ => ?_⟩
    obtain ⟨o3, eH⟩ := Ok.drop (G := G) (P := G.P) o2 hn hP
    have o4 := o3.putOwn (i := i) (p := p) (vs := vs) (ds := ds) hid_at (dvs.up x2) h1
    rw [← eH] at o4
    exact ⟨_, _, rfl, k.1 _ _ I2 _ (o4.put du (Or.inl h2)) q2⟩⟩
theorem s_parIO {wa : WE} {wb : WA} (h : PS X (.Assign [.Tuple [.Name x px, .Name y py] kt pt] (.Tuple [a, b] k2 pt2) pos) (tPar i j (tCons (lE X.K ζ wa) (tCons (lL X.K ζ wb) tNil)))) :
    PS X (.Assign [.Tuple [.Name x px, .Name y py] kt pt] (.Tuple [a, b] k2 pt2) pos) (lS X.K ζ (wParIO i j wa wb)) :=
  h.mo fun R σ H ⟨G, en, I, R', o, q, k⟩ => ⟨G, en, I, _, o, q, fun v H1 I1 e1 d o1 x1 dv q1 => ⟨G, e1, I1, _, o1, q1, fun p us H2 I2 e2 es o2 x2 hp dus ⟨h1, h2, q2⟩ =>
    ⟨_, _, rfl, k.1 _ _ I2 _ ((o2.put (dv.up x2) (Or.inl h1)).putOwn hp dus h2) q2⟩⟩⟩
end
/-! ### a def of the text -/
section
variable {P : Program} {w : World} {K : PySem.W.Frag} {mg : Str → Option Value} {base : Heap} {x qual : Str} {params : Arguments} {body : List Stmt} {scope : Scope} {f : Addr} {fd : FuncData} {N ps : List Str} {k : Nat}
/-- what is wanted behind the body -/
def edP (Q' : D → Prop) : Ed := { nx := fun _ => Q' .none, rt := fun d _ => Q' d }
def edJ (Q' : D → List D → Prop) : Ed := { nx := fun en => ∀ dj, en[0]? = some (.own dj) → Q' .none dj, rt := fun d en => ∀ dj, en[0]? = some (.own dj) → Q' d dj }
def enP (N : List Str) (ds : List D) : En := ds.map .imm ++ List.replicate (N.length - ds.length) .un
def enJ (N : List Str) (dj ds : List D) : En := .own dj :: (ds.map .imm ++ List.replicate (N.length - (ds.length + 1)) .un)
theorem fnP {wf : WF} {ws : WS} (F : FunD K x qual params body scope [] [] f fd) (S : FnScope N ps scope)
    (hb : ∀ (cdv : Value) (A : Around) (outer : List Env) (s : Shared) (H : Hp) (E : XK), Room k (A.deeper (envOfC qual scope s.heap.objs.size f cdv)) → PSs (cxOf CX0 P w K mg base N qual scope f cdv A outer s H E).nox body (lS K ζ0 ws))
    (hp : ∀ ds Q', ds.length = ps.length → wf ds Q' → ws (edP Q') (enP N ds)) : FnOk P w K mg base CX0 (k + 1) f fd ps (spP K ps.length wf) := by
  refine F.ok S (fun vs H Q E h => ?_) (fun cdv A outer s H vs Q E hr h => ?_)
  · obtain ⟨I, ds, Q', _, h2, h3, _⟩ := h
    rw [dpa_len h2, h3]
  · obtain ⟨I, ds, Q', h1, h2, h3, h4, h5⟩ := h
    refine ⟨lS K ζ0 ws, PSs.nox (hb cdv A outer s H E hr), ?_⟩
    have hpl : ps.length ≤ N.length := by have := congrArg List.length S.pre; rw [List.length_take] at this; omega
    have hl : vs.length = ds.length := dpa_len h2
    have gsl : ∀ (i : Nat) (s : Sl), (enP N ds)[i]? = some s → SlOk K I H (L2.start N vs)[i]? s := fun i s hs => by
      unfold enP at hs
      by_cases hi : i < ds.length
      · rw [List.getElem?_append_left (by rw [List.length_map]; exact hi), List.getElem?_map] at hs
        cases q : ds[i]? with
        | none => rw [q] at hs; cases hs
        | some d =>
          rw [q] at hs
          cases hs
          obtain ⟨v, hv, dv⟩ := dpa_get h2 q
          refine ⟨v, ?_, dv⟩
          unfold L2.start
          rw [List.getElem?_append_left (by rw [List.length_map, hl]; exact hi), List.getElem?_map, hv]
          rfl
      · rw [List.getElem?_append_right (by rw [List.length_map]; omega), List.getElem?_replicate] at hs
        split at hs
        · cases hs; trivial
        · cases hs
    have nown : ∀ (i : Nat) (l : Addr), ¬ OwnAt (L2.start N vs) (enP N ds) i l := fun i l ⟨q1, es, q2⟩ => by
      unfold enP at q2
      by_cases hi : i < ds.length
      · rw [List.getElem?_append_left (by rw [List.length_map]; exact hi), List.getElem?_map] at q2
        cases q : ds[i]? with
        | none => rw [q] at q2; cases q2
        | some d => rw [q] at q2; cases q2
      · rw [List.getElem?_append_right (by rw [List.length_map]; omega), List.getElem?_replicate] at q2
        split at q2
        · cases q2
        · cases q2
    have o : Ok K ζ0 ⟨H, I, none, []⟩ (L2.start N vs) (enP N ds) H I :=
      ⟨Ex.rf I, h1, fun a _ h => h, fun a o h _ _ => h, by unfold L2.start enP; simp [hl], gsl, fun i l h => absurd h (nown i l), fun i j l h => absurd h (nown i l), fun l h => (by cases h), fun p hp => (by cases hp), fun p hp => (by cases hp), fun _ h => isTb_Nil h, Tabs_nil, fun _ _ _ _ _ => trivial⟩
    refine lS_mk o (hp ds Q' h3 h4) ⟨fun σ' H' I' en' o' q => ?_, fun v σ' H' I' en' d o' dv q => ?_, fun _ _ _ _ _ q => q.elim, fun _ _ _ _ _ q => q.elim⟩
    · exact h5 .non H' I' .none ⟨fun a u q => o'.fr a u q (by simp) isTb0, o'.i0, o'.iH, fun a h1 h2 => by
        cases q : H a with
        | none => rfl
        | some u => exact absurd (o'.nw a (show H a ≠ none by rw [q]; simp) h2) h1⟩ .non q
    · exact h5 v H' I' d ⟨fun a u q => o'.fr a u q (by simp) isTb0, o'.i0, o'.iH, fun a h1 h2 => by
        cases q : H a with
        | none => rfl
        | some u => exact absurd (o'.nw a (show H a ≠ none by rw [q]; simp) h2) h1⟩ dv q
theorem fnJ {wf : WJ} {ws : WS} {n : Nat} (F : FunD K x qual params body scope [] [] f fd) (S : FnScope N ps scope) (hn : ps.length = n)
    (hb : ∀ (cdv : Value) (A : Around) (outer : List Env) (s : Shared) (H : Hp) (E : XK), Room k (A.deeper (envOfC qual scope s.heap.objs.size f cdv)) → PSs (cxOf CX0 P w K mg base N qual scope f cdv A outer s H E).nox body (lS K ζ0 ws))
    (hp : ∀ dj ds Q', ds.length + 1 = n → wf dj ds Q' → ws (edJ Q') (enJ N dj ds)) : FnOk P w K mg base CX0 (k + 1) f fd ps (spJ K n wf) := by
  refine F.ok S (fun vs H Q E h => ?_) (fun cdv A outer s H vs Q E hr h => ?_)
  · obtain ⟨j, vj, dj, us, ds, I, Q', rfl, _, _, _, _, h6, h7, _⟩ := h
    rw [List.length_cons, dpa_len h6, h7, hn]
  · obtain ⟨j, vj, dj, us, ds, I, Q', rfl, g1, g2, g3, h1, h2, h3, h4, h5⟩ := h
    refine ⟨lS K ζ0 ws, PSs.nox (hb cdv A outer s H E hr), ?_⟩
    have hpl : ps.length ≤ N.length := by have := congrArg List.length S.pre; rw [List.length_take] at this; omega
    have hl : us.length = ds.length := dpa_len h2
    have get_ : ∀ (i : Nat) (s : Sl), (enJ N dj ds)[i]? = some s → (i = 0 ∧ s = .own dj) ∨ (∃ d v, ds[i - 1]? = some d ∧ us[i - 1]? = some v ∧ Da K I v d ∧ s = .imm d ∧ 1 ≤ i ∧ (L2.start N (V.ref j :: us))[i]? = some (some v)) ∨ s = .un := fun i s hs => by
      unfold enJ at hs
      cases i with
      | zero => exact Or.inl ⟨rfl, by simpa using hs.symm⟩
      | succ i =>
        rw [List.getElem?_cons_succ] at hs
        by_cases hi : i < ds.length
        · rw [List.getElem?_append_left (by rw [List.length_map]; exact hi), List.getElem?_map] at hs
          cases q : ds[i]? with
          | none => rw [q] at hs; cases hs
          | some d =>
            rw [q] at hs
            cases hs
            obtain ⟨v, hv, dv⟩ := dpa_get h2 q
            refine Or.inr (Or.inl ⟨d, v, q, hv, dv, rfl, by omega, ?_⟩)
            unfold L2.start
            rw [List.getElem?_append_left (by rw [List.length_map, List.length_cons, hl]; omega), List.getElem?_map, List.getElem?_cons_succ, hv]
            rfl
        · rw [List.getElem?_append_right (by rw [List.length_map]; omega), List.getElem?_replicate] at hs
          split at hs
          · cases hs; exact Or.inr (Or.inr rfl)
          · cases hs
    have s0 : (L2.start N (V.ref j :: us))[0]? = some (some (V.ref j)) := by unfold L2.start; simp
    have own0 : ∀ (i : Nat) (l : Addr), OwnAt (L2.start N (V.ref j :: us)) (enJ N dj ds) i l → i = 0 ∧ l = j := fun i l ⟨q1, es, q2⟩ => by
      rcases get_ i _ q2 with ⟨e, _⟩ | ⟨d, v, _, _, _, e, _⟩ | e
      · subst e
        rw [s0] at q1
        injection q1 with q1; injection q1 with q1; injection q1 with q1
        exact ⟨rfl, q1.symm⟩
      · cases e
      · cases e
    have o : Ok K ζ0 ⟨H, I, some j, []⟩ (L2.start N (V.ref j :: us)) (enJ N dj ds) H I := by
      refine ⟨Ex.rf I, h1, fun a _ h => h, fun a o h _ _ => h, ?_, fun i s hs => ?_, fun i l h => ?_, fun a b l h g => ?_, fun l h => ?_, fun p hp => (by cases hp), fun p hp => (by cases hp), fun _ h => isTb_Nil h, Tabs_nil, fun _ _ _ _ _ => trivial⟩
      · unfold L2.start enJ
        rw [List.length_append, List.length_map, List.length_replicate, List.length_cons, List.length_cons, List.length_append, List.length_map, List.length_replicate]
        omega
      · rcases get_ i s hs with ⟨e1, e2⟩ | ⟨d, v, q1, q2, q3, e, q4, q5⟩ | e
        · subst e1 e2
          exact ⟨j, vj, s0, g1, g2, g3⟩
        · subst e
          exact ⟨v, q5, q3⟩
        · subst e; trivial
      · obtain ⟨_, e⟩ := own0 i l h
        exact Or.inl (by rw [e])
      · rw [(own0 a l h).1, (own0 b l g).1]
      · have e : j = l := Option.some.inj h
        subst e
        exact ⟨s0, dj, rfl⟩
    have fin : ∀ {v σ' H' I' en' d}, Ok K ζ0 ⟨H, I, some j, []⟩ σ' en' H' I' → Da K I' v d → (∀ dj, en'[0]? = some (.own dj) → Q' d dj) → Q v H' := fun {v σ' H' I' en' d} o' dv q => by
      obtain ⟨p1, dj', p2⟩ := o'.pj j rfl
      obtain ⟨l, vs', r1, r2, r3, r4⟩ := o'.own p2
      rw [p1] at r1
      have e : j = l := by injection r1 with r1; injection r1 with r1; injection r1
      subst e
      refine h5 v H' I' d vs' dj' (fun a u ha q => o'.fr a u q (fun e => ha (Option.some.inj e).symm) isTb0) o'.i0 o'.iH (fun a h1 h2 => ?_) r3 r4 dv (q dj' p2)
      cases z : H a with
      | none => rfl
      | some u => exact absurd (o'.nw a (show H a ≠ none by rw [z]; simp) h2) h1
    exact lS_mk o (hp dj ds Q' h3 h4) ⟨fun σ' H' I' en' o' q => fin o' .non q, fun v σ' H' I' en' d o' dv q => fin o' dv q, fun _ _ _ _ _ q => q.elim, fun _ _ _ _ _ q => q.elim⟩
end
end Pd

set_option Elab.async false
set_option linter.all false
set_option maxRecDepth 100000
set_option maxHeartbeats 4000000
namespace Pd
open PySem PySem.Spec PyProof.Rows L2
section
variable {K : PySem.W.Frag} {X : Cx}
/-! ### in, not in, over flat items -/
def flatD : D → Bool
  | .none | .bool _ | .int _ | .str _ => true
  | _ => false
theorem flat_da {I : Hp} {v : V} {d : D} (h : Da K I v d) (f : flatD d = true) : flatV v = true := by
  cases h <;> first | rfl | exact absurd f (by simp [flatD])
theorem eqv_da {I J : Hp} {v u : V} {d e : D} (h : Da K I v d) (g : Da K J u e) (f : flatD d = true) (f2 : flatD e = true) : eqV v u = PyData.eqv d e := by
  cases h <;> cases g <;> first | rfl | (simp [flatD] at f; done) | (simp [flatD] at f2; done) | simp [eqV, PyData.eqv]
theorem all_da {I : Hp} : ∀ {vs : List V} {ds : List D}, DaAll K I vs ds → ds.all flatD = true → vs.all flatV = true
  | _, _, .nil, _ => rfl
  | _, _, .cons h t, f => by
    rw [List.all_cons, Bool.and_eq_true] at f ⊢
    exact ⟨flat_da h f.1, all_da t f.2⟩
theorem in_da {I J : Hp} {v : V} {d : D} (h : Da K J v d) (fd : flatD d = true) : ∀ {vs : List V} {ds : List D}, DaAll K I vs ds → ds.all flatD = true → inV v vs = ds.any fun y => PyData.eqv y d
  | _, _, .nil, _ => rfl
  | _, _, .cons (v := w) (vs := vs) a t, f => by
    rw [List.all_cons, Bool.and_eq_true] at f
    show (w :: vs).any (fun y => eqV y v) = _
    rw [List.any_cons, List.any_cons, eqv_da a h f.1 fd]
    have q := in_da h fd t f.2
    unfold inV at q
    rw [q]
def dIn (neg : Bool) : D → D → D → Prop := fun x y z => ∃ ys, (y = .list ys ∨ y = .tuple ys) ∧ flatD x = true ∧ ys.all flatD = true ∧ z = .bool (if neg then !(ys.any fun y => PyData.eqv y x) else ys.any fun y => PyData.eqv y x)
theorem snd_in {neg : Bool} : SndOp K (rIn K neg) (dIn neg) := by
  rintro H I x y d e z iH hx hy ⟨ys, hy', fx, fy, rfl⟩ Q k
  rcases hy' with rfl | rfl
  · cases hy with
    | lst h a => exact ⟨_, _, rfl, Or.inl (SqL.of (iH _ _ h)), flat_da hx fx, all_da a fy, by rw [in_da hx fx a fy]; exact k _ H I (Gr.rf iH) (.bl _)⟩
  · cases hy with
    | tup h a => exact ⟨_, _, rfl, Or.inr (sqt_ex iH h), flat_da hx fx, all_da a fy, by rw [in_da hx fx a fy]; exact k _ H I (Gr.rf iH) (.bl _)⟩
/-! ### list + list, list * int, as new lists of one's own -/
variable {a b e : Expr} {pos : Pos} {wa wb : WE} {wl : WA}
def wCatL (wa wb : WE) : WA := fun en Q => wa en fun x e1 => wb e1 fun y e2 => ∃ xs ys, x = .list xs ∧ y = .list ys ∧ xs.length + ys.length ≤ sizeLine ∧ Q (xs ++ ys) e2
theorem l_cat (ha : PE X a (lE X.K ζ wa)) (hb : PE X b (lE X.K ζ wb)) : PE X (.BinOp a .Add b pos) (lL X.K ζ (wCatL wa wb)) :=
  (pe_op op_cat ha hb).mo fun σ H Q ⟨G, en, I, Q', o, q, k⟩ => ⟨G, en, I, _, o, q, fun v H1 I1 e1 d o1 x1 dv q1 => ⟨G, e1, I1, _, o1, q1, fun u H2 I2 e2 d2 o2 x2 du ⟨xs, ys, hx, hy, hl, q2⟩ => by
    subst hx hy
    have dv2 := dv.up x2
    cases dv2 with
    | lst h1 a1 =>
      cases du with
      | lst h2 a2 => exact ⟨_, _, _, _, rfl, rfl, o2.iH _ _ h1, o2.iH _ _ h2, by rw [dpa_len a1, dpa_len a2]; exact hl, fun p hp => k p _ H2 I2 e2 _ o2 (x1.tr x2) hp (dpa_app a1 a2) q2⟩⟩⟩
def wRepL (wa wb : WE) : WA := fun en Q => wa en fun x e1 => wb e1 fun y e2 => ∃ xs m, x = .list xs ∧ y = .int m ∧ -(2 ^ 63) ≤ m ∧ m < 2 ^ 63 ∧ xs.length * m.toNat ≤ sizeLine ∧ Q (List.replicate m.toNat xs).flatten e2
theorem l_rep (ha : PE X a (lE X.K ζ wa)) (hb : PE X b (lE X.K ζ wb)) : PE X (.BinOp a .Mult b pos) (lL X.K ζ (wRepL wa wb)) :=
  (pe_op op_rep ha hb).mo fun σ H Q ⟨G, en, I, Q', o, q, k⟩ => ⟨G, en, I, _, o, q, fun v H1 I1 e1 d o1 x1 dv q1 => ⟨G, e1, I1, _, o1, q1, fun u H2 I2 e2 d2 o2 x2 du ⟨xs, m, hx, hy, h1, h2, hl, q2⟩ => by
    subst hx hy
    have dv2 := dv.up x2
    cases du
    cases dv2 with
    | lst g1 a1 => exact ⟨_, m, _, rfl, rfl, o2.iH _ _ g1, h1, h2, by rw [dpa_len a1]; exact hl, fun p hp => k p _ H2 I2 e2 _ o2 (x1.tr x2) hp (dpa_rep a1 _) q2⟩⟩⟩
/-! ### calls by a bundle -/
def Cal (P : Program) (w : World) (K : PySem.W.Frag) (mg : Str → Option Value) (base : Heap) (k : Nat) (x : Str) (ps : List Str) (sp : Sp) : Prop :=
  ∃ (f : Addr) (fd : FuncData), FnOk P w K mg base CX0 k f fd ps sp ∧ mg x = some (.ref f) ∧ PySem.W.keepIn K (.ref f) = true ∧ Binds K fd ps []
variable {p : Pos} {x : Str} {k n : Nat} {ps : List Str} {es : List Expr}
theorem c_call {wf : WF} {w : WA} (C : Cal X.prog X.w X.K X.mg X.base k x ps (spP X.K n wf)) (hr : Room k X.A) (ha : PA X (e :: es) (lA X.K ζ w)) (hg : Gl X x := by rfl)
    (hdb : (x == ("__debug__" : Str)) = false := by decide) (he : starEach (e :: es) X.env = (false, eval e X.env) :: starEach es X.env := by rfl) (hpl : (backTo pos (starEach es X.env)).any (·.1) = false := by rfl) :
    PE X (.Call (.Name x p) (e :: es) [] pos) (lE X.K ζ (wFn n wf w)) := by
  obtain ⟨f, fd, F, hm, hk, hb⟩ := C
  exact d_call F hr hm hk hb ha hg hdb he hpl
theorem c_call0 {wf : WF} (C : Cal X.prog X.w X.K X.mg X.base k x ps (spP X.K 0 wf)) (hr : Room k X.A) (hg : Gl X x := by rfl) (hdb : (x == ("__debug__" : Str)) = false := by decide) : PE X (.Call (.Name x p) [] [] pos) (lE X.K ζ (wFn 0 wf wNil)) := by
  obtain ⟨f, fd, F, hm, hk, hb⟩ := C
  exact d_call0 F hr hm hk hb hg hdb
theorem c_callJ {wf : WJ} {w : WA} {i : Nat} (C : Cal X.prog X.w X.K X.mg X.base k x ps (spJ X.K n wf)) (hr : Room k X.A) (h0 : PE X e (tVar i)) (ha : PA X es (lA X.K ζ w)) (hg : Gl X x := by rfl)
    (hdb : (x == ("__debug__" : Str)) = false := by decide) (he : starEach (e :: es) X.env = (false, eval e X.env) :: starEach es X.env := by rfl) (hpl : (backTo pos (starEach es X.env)).any (·.1) = false := by rfl) :
    PE X (.Call (.Name x p) (e :: es) [] pos) (lE X.K ζ (wFnJ i n wf w)) := by
  obtain ⟨f, fd, F, hm, hk, hb⟩ := C
  exact d_callJ F hr hm hk hb h0 ha hg hdb he hpl
/-- an int of the module -/
theorem d_gint {i : Int} (hm : ∃ t, X.mg x = some (.int i t)) (hg : Gl X x := by rfl) (hd : (x == ("__debug__" : Str)) = false := by decide) : PE X (.Name x pos) (lE X.K ζ (wC (.int i))) := by
  obtain ⟨t, hm⟩ := hm
  exact d_c (pe_glob (v := .int i) hg hm ⟨t, rfl⟩ hd) fun _ => .int i
/-! ### greater powers -/
end
end Pd

set_option Elab.async false
set_option linter.all false
set_option maxRecDepth 100000
set_option maxHeartbeats 4000000
namespace Pd
open PySem PySem.Spec PyProof.Rows L2
open AutoSeq1 (wpAny_loadPart')
/-! ### enumerate over a tuple -/
theorem meets_enum1 {v : Value} {o : Obj} {H : Heap → Prop} (B : Begins v o H) :
    Meets (Builtin.«enumerate.__new__» ⟨[.type "enumerate", v], []⟩) (fun _ R s => H s.heap ∧
      R (.ok (.ret (.ref (s.heap.push o).objs.size))) { s with heap := (s.heap.push o).push { cls := .type "enumerate", data := .fields #[.none, .bool false, .ref s.heap.objs.size, rawInt 0, .none, .none] } }) :=
  .of_wp fun prog w A R s h => by
    obtain ⟨hp, g, d, tk, os⟩ := s; obtain ⟨hl, h⟩ := h
    have hsub := sub_enumerate
    have hB := fun (A : Around) (E : Value → Shared → Prop) (Q : Value → Shared → Prop) (q : Q (.ref hp.objs.size) ⟨hp.push o, g, d, tk, os⟩) => B.iter prog w A E ⟨hp, g, d, tk, os⟩ Q hl q
    wp_walk
    refine wpAny_stack_any fun st => wpAny_pure ?_
    split
    · rename_i c _ _ _ _ _
      cases (c == Value.type "enumerate")
      · wp_walk using hB
        exact ⟨_, rfl, h⟩
      · wp_walk using hB
        exact ⟨_, rfl, h⟩
    · wp_walk using hB
      exact ⟨_, rfl, h⟩
theorem call_enum1 {prog : Program} {w : World} {A : Around} {E : Value → Shared → Prop} {s : Shared} {v : Value} {o : Obj} {H : Heap → Prop} (B : Begins v o H) {Q : Value → Shared → Prop} (h1 : H s.heap)
    (h : ∀ h', IsEnum h' (s.heap.objs.size + 1) s.heap.objs.size 0 .none → h'.get? s.heap.objs.size = some o → h'.objs.size = s.heap.objs.size + 2 →
      (∀ b o, s.heap.get? b = some o → h'.get? b = some o) → Q (.ref (s.heap.objs.size + 1)) { s with heap := h' }) :
    wpAny (model prog w) A (call (.type "enumerate") [v]) Q E s := by
  refine callType_new F.called_enumerate (by decide) (F.typeCall_enumerate_1 _) (F.newCall_enumerate_1 _) (fun obj => F.args_object_init_2 obj _) F.entry_enumerate_new
    (meets_enum1 B) ⟨h1, ?_⟩
  have hz : (s.heap.push o).objs.size = s.heap.objs.size + 1 := Heap.size_push ..
  show _ ∧ _
  rw [hz]
  have he : IsEnum ((s.heap.push o).push { cls := .type "enumerate", data := .fields #[.none, .bool false, .ref s.heap.objs.size, rawInt 0, .none, .none] }) (s.heap.objs.size + 1) s.heap.objs.size 0 .none := by
    have := Heap.get?_push_size (s.heap.push o) (o := { cls := .type "enumerate", data := .fields #[.none, .bool false, .ref s.heap.objs.size, rawInt 0, .none, .none] }) rfl
    rw [hz] at this; exact this
  refine ⟨⟨_, he, rfl⟩, h _ he (Heap.get?_push_of_some _ (Heap.get?_push_size _ B.free)) (by rw [Heap.size_push, hz]) fun b o x => Heap.get?_push_of_some _ (Heap.get?_push_of_some _ x)⟩
theorem enum_endT {prog : Program} {w : World} {A : Around} {E : Value → Shared → Prop} {s : Shared} {e it l : Addr} {i : Nat} {items : Array Value} {old : Value} {Q : Option Value → Shared → Prop} (hh : A.handled = none)
    (he : IsEnum s.heap e it i old) (hit : s.heap.IsTupleIter it l i) (hl : s.heap.IsTuple l items) (hx : items[i]? = none)
    (hQ : ∀ h', Heap.ExtBut it s.heap h' → Q none { s with heap := h' }) : wpAny (model prog w) A (pyNext (.ref e)) Q E s := by
  have hT : s.TypeIs (.ref e) "enumerate" := ⟨_, he, rfl⟩
  unfold pyNext
  refine wpAny_bind (wpAny_attempt (wpAny_callSpecial?_slot (name := Str.ofString "__next__") hT F.slot_enumerate_next
    (wpAny_call_entry F.slot_enumerate_next hT F.entry_enumerate_next ?_ (F.args_enumerate_next_1 _))))
  show wpAny _ _ (field (.ref e) 2 >>= _) _ _ _
  refine wpAny_bind (wpAny_field he rfl (x := .ref it) rfl ?_)
  refine wpAny_bind (wpAny_nextOf_tuple_end (show A.in1.handled = none from hh) hit hl hx fun h' x he' hx' => ?_)
  obtain ⟨o, ho, hc⟩ := hx'
  refine wpAny_bind (wpAny_isInstance (T := "StopIteration") (b := true) ⟨o, ho, hc⟩ isSubtype_stop ?_)
  exact wpAny_pure (hQ _ he')
/-- the tuple at a as it stands at each turn, each item in a new pair -/
def IteT (K : PySem.W.Frag) (a : Addr) : It :=
  ⟨fun i H => ∃ (xs : List V) (x : V), SqT K H a xs ∧ xs[i]? = some x, fun i H v H' => ∃ T x, v = .ref T ∧ H T = none ∧ H' = upd H T (.tup [.int (i : Nat), x]) ∧ ∀ xs, SqT K H a xs → xs[i]? = some x, fun i H => ∃ xs : List V, SqT K H a xs ∧ xs.length ≤ i⟩
theorem ne_tup {h : Heap} {e it a : Addr} {c : Int} {old : Value} {items : Array Value} (he : IsEnum h e it c old) (ht : h.IsTuple a items) : e ≠ a := fun z => by
  obtain ⟨o, ho, hc, _⟩ := ht
  subst z
  have he' : h.get? e = some _ := he
  rw [he'] at ho
  have e := Option.some.inj ho
  rw [← e] at hc
  have hc' : Value.type "enumerate" = Value.type "tuple" := hc
  injection hc' with hc'
  exact absurd hc' (by decide)
theorem turn_enumT {P : Program} {w : World} {K : PySem.W.Frag} {elts : List Expr} {kk : Nat} {tpos : Pos} (a e it : Addr) (hai : a ≠ it) :
    Turn P w K (.Tuple elts kk tpos) (IteT K a) [e, it] e (fun i h => (∃ old, IsEnum h e it ((i : Nat) : Int) old) ∧ h.IsTupleIter it a i ∧ e ≠ it) where
  mem := by simp
  obj := fun i h st b hb => by
    obtain ⟨⟨old, he⟩, ⟨o, ho, hc, hd⟩, _⟩ := st
    have e' : b = e ∨ b = it := by simpa using hb
    rcases e' with z | z
    · rw [z]; exact ⟨_, he, fun v q => nomatch q⟩
    · rw [z]; exact ⟨o, ho, fun v q => by rw [hd] at q; cases q⟩
  keep := fun i h h' st k => let ⟨⟨old, he⟩, hi, hne⟩ := st; ⟨⟨old, k e (by simp) _ he⟩, hi.at fun o q => k it (by simp) o q, hne⟩
  item := by
    intro X hP hw hK hc i pins s σ H E I hf st hg
    subst hP hw hK
    obtain ⟨⟨old, he⟩, hit, hne⟩ := st
    obtain ⟨xs, x, hq, hx⟩ := hg
    obtain ⟨its, rv, p, hz⟩ := I.tuple hq
    have p' : s.heap.IsTuple a its.toArray := p
    obtain ⟨u, hu, ru⟩ := rv.get hx
    have hlt : i < its.toArray.size := by
      rw [List.size_toArray]
      exact (List.getElem?_eq_some_iff.mp hu).1
    have hel : e < s.heap.objs.size := Heap.lt_size he
    have hil : it < s.heap.objs.size := by obtain ⟨_, q, _⟩ := hit; exact Heap.lt_size q
    refine wpAny_pyNext_enum_itemD (Draws.tuple (show X.A.in1.handled = none from I.ok.hd hc) it a hai its.toArray) he ⟨hit, p'⟩ hlt hne (by simp [hne, ne_tup he p']) fun y h' tk hy ho hit' hT hsz hk => ?_
    have ey : y = u := by
      have h1 : its[i]? = some y := by simpa using hy
      rw [hu] at h1
      exact (Option.some.inj h1).symm
    subst ey
    refine ⟨_, rfl, wpAny_letOwnedTupleGo_enum (s := { s with heap := h', toks := tk + 1 }) ho fun h'' he' sb => ?_⟩
    have hT2 : h''.get? s.heap.objs.size = some { cls := .type "tuple", data := .seq #[.int i tk, y] } := (sb.2 _ (Nat.ne_of_gt hel)).trans hT
    have new : ObjOk X.prog X.w (upd H s.heap.objs.size (.tup [.int (i : Nat), x])) h'' s.heap.objs.size (.tup [.int (i : Nat), x]) :=
      ⟨by show 2 ≤ sizeLine; decide, [.int i tk, y], .cons ⟨_, rfl⟩ (.cons ru .nil), ⟨_, hT2, rfl, _, rfl⟩⟩
    have I1 : Inv X pins σ (upd H s.heap.objs.size (.tup [.int (i : Nat), x])) { s with heap := h'', toks := tk + 1 } :=
      I.turnedNew (ch := [e, it]) (fun b ob hb q => (sb.2 b (fun z => hb (by simp [z]))).trans (hk b ob (fun z => hb (by simp [z])) (fun z => hb (by simp [z])) q)) hf (Nat.le_refl _) new
    refine ⟨.ref s.heap.objs.size, _, I1, rfl, ⟨_, x, rfl, I.hok.fresh (Nat.le_refl _), rfl, fun ys hy => by rw [I.tuple_inj hy hq]; exact hx⟩, ⟨⟨y, ?_⟩, hit'.1.at fun o q => (sb.2 it (Ne.symm hne)).trans q, hne⟩, fun b hb => ?_⟩
    · have e1 : ((i + 1 : Nat) : Int) = (i : Int) + 1 := by omega
      rw [e1]; exact he'
    · have hb' : b < s.heap.objs.size := by
        have e' : b = e ∨ b = it := by simpa using hb
        rcases e' with z | z
        · rw [z]; exact hel
        · rw [z]; exact hil
      rw [upd_ne (Nat.ne_of_lt hb')]
      exact (hf b hb).1
  done := by
    intro X hP hw hK hc i pins s σ H E I hf st hg
    subst hP hw hK
    obtain ⟨⟨old, he⟩, hit, hne⟩ := st
    obtain ⟨xs, hq, hx⟩ := hg
    obtain ⟨its, rv, p, hz⟩ := I.tuple hq
    have p' : s.heap.IsTuple a its.toArray := p
    obtain ⟨f0, f1, f2, f3, f4, f5⟩ := hf it (by simp)
    have hl := rv.length
    exact enum_endT (I.ok.hd hc) he hit p' (by simp; omega) fun h' eb => ⟨rfl, I.turned (t' := s.toks) (fun b o hb q => eb b o hb q) f0 f1 f3 f4 f5⟩
  self := fun A i s Q E st h => let ⟨⟨_, he⟩, _⟩ := st; wpAny_pyIter_enum he h
def iEnA (K : PySem.W.Frag) (ta : TA) : TI := fun σ H R => ta σ H fun vs H1 => ∃ a, vs = [.ref a] ∧ ((∃ xs, SqL K H1 a xs ∧ R (Ite K a) H1) ∨ (∃ xs, SqT K H1 a xs ∧ R (IteT K a) H1))
theorem pi_enA {X : Cx} {e : Expr} {ta : TA} {p pos tpos : Pos} {elts : List Expr} {kk : Nat} (hg : Gl X "enumerate") (hm : X.mg "enumerate" = none) (ha : PA X [e] ta) (hs : starEach [e] X.env = [(false, eval e X.env)] := by rfl) :
    PI X (.Tuple elts kk tpos) (.Call (.Name "enumerate" p) [e] [] pos) (iEnA X.K ta) := by
  refine ⟨fun pins s σ H R I h => ?_⟩
  refine Call_ (ld_blt I hg hm boot_enumerate (PyProof.Rows.callWith_type1 (thn (ha.run pos pins s σ H _ I h) fun us s1 ⟨vs, H1, I1, r1, q1⟩ => ?_) hs rfl))
  obtain ⟨a, ex, q1⟩ := q1
  subst ex
  cases r1 with
  | cons r rr =>
    cases rr
    cases r
    have tail : ∀ b ∈ [s1.heap.objs.size + 1, s1.heap.objs.size], FpOk X pins H1 b := fun b hb => by
      have e' : b = s1.heap.objs.size + 1 ∨ b = s1.heap.objs.size := by simpa using hb
      have hle : s1.heap.objs.size ≤ b := by
        rcases e' with z | z
        · rw [z]; exact Nat.le_add_right _ _
        · rw [z]; exact Nat.le_refl _
      exact I1.fpOk hle (I1.hok.fresh hle)
    rcases q1 with ⟨xs, hq, q⟩ | ⟨xs, hq, q⟩
    · obtain ⟨its, rv, p', hz⟩ := I1.list hq
      refine call_enumerate_list p'.isList fun h' he hit hsz hk => wpAny_pyIter_enum he ?_
      have I2 : Inv X pins σ H1 { s1 with heap := h' } := I1.kept (t' := s1.toks) hk
      exact ⟨s1.heap.objs.size + 1, [s1.heap.objs.size + 1, s1.heap.objs.size], _, _, H1, rfl, I2, turn_enum a (s1.heap.objs.size + 1) s1.heap.objs.size, ⟨⟨.none, he⟩, hit, Nat.succ_ne_self _⟩, tail, q⟩
    · obtain ⟨its, rv, p', hz⟩ := I1.tuple hq
      have al : a < s1.heap.objs.size := by obtain ⟨_, z, _⟩ := p'; exact Heap.lt_size z
      refine call_enum1 (begins_tuple a its.toArray) p' fun h' he hit hsz hk => wpAny_pyIter_enum he ?_
      have I2 : Inv X pins σ H1 { s1 with heap := h' } := I1.kept (t' := s1.toks) hk
      exact ⟨s1.heap.objs.size + 1, [s1.heap.objs.size + 1, s1.heap.objs.size], _, _, H1, rfl, I2, turn_enumT a (s1.heap.objs.size + 1) s1.heap.objs.size (Nat.ne_of_lt al), ⟨⟨.none, he⟩, ⟨_, hit, rfl, rfl⟩, Nat.succ_ne_self _⟩, tail, q⟩
/-- pairs of number and item -/
def enuD : Nat → List D → List D
  | _, [] => []
  | i, x :: xs => .tuple [.int (i : Nat), x] :: enuD (i + 1) xs
theorem enuD_len : ∀ (i : Nat) (xs : List D), (enuD i xs).length = xs.length
  | _, [] => rfl
  | i, x :: xs => congrArg (· + 1) (enuD_len (i + 1) xs)
theorem enuD_get : ∀ {j : Nat} {xs : List D} {i : Nat} {d : D}, (enuD j xs)[i]? = some d → ∃ x, xs[i]? = some x ∧ d = .tuple [.int ((j + i : Nat) : Int), x]
  | _, [], _, _, h => by simp [enuD] at h
  | j, x :: xs, 0, d, h => by
    have e : PyData.tuple [.int (j : Nat), x] = d := Option.some.inj h
    exact ⟨x, rfl, e.symm⟩
  | j, x :: xs, i + 1, d, h => by
    have h' : (enuD (j + 1) xs)[i]? = some d := h
    obtain ⟨y, h1, h2⟩ := enuD_get h'
    refine ⟨y, h1, ?_⟩
    rw [h2, show j + 1 + i = j + (i + 1) by omega]
def zipD : List D → List D → List D
  | x :: xs, y :: ys => .tuple [x, y] :: zipD xs ys
  | _, _ => []
theorem zipD_get : ∀ {xs ys : List D} {i : Nat} {d : D}, (zipD xs ys)[i]? = some d → ∃ x y, xs[i]? = some x ∧ ys[i]? = some y ∧ d = .tuple [x, y]
  | [], _, _, _, h => by simp [zipD] at h
  | _ :: _, [], _, _, h => by simp [zipD] at h
  | x :: xs, y :: ys, 0, d, h => by
    have e : PyData.tuple [x, y] = d := Option.some.inj h
    exact ⟨x, y, rfl, rfl, e.symm⟩
  | x :: xs, y :: ys, i + 1, d, h => by
    have h' : (zipD xs ys)[i]? = some d := h
    obtain ⟨a, b, h1, h2, h3⟩ := zipD_get h'
    exact ⟨a, b, h1, h2, h3⟩
theorem zipD_len : ∀ (xs ys : List D), (zipD xs ys).length = min xs.length ys.length
  | [], ys => by simp [zipD]
  | x :: xs, [] => by simp [zipD]
  | x :: xs, y :: ys => by simp [zipD, zipD_len xs ys]
section
variable {K : PySem.W.Frag} {X : Cx} {tg e a b : Expr} {es elts : List Expr} {kk : Nat} {pos p tpos : Pos} {w : WA}
theorem pair_gr {H I : Hp} {T : Addr} {x y : V} {d e : D} (iH : Ex I H) (hT : H T = none) (hx : Da K I x d) (hy : Da K I y e) : ∃ I', Gr H I (upd H T (.tup [x, y])) I' ∧ Da K I' (.ref T) (.tuple [d, e]) :=
  ⟨_, Gr.nw (u := .tup [x, y]) iH hT, .tup (SqT.of upd_same) ((DaAll.cons hx (.cons hy .nil)).up (Gr.nw (u := .tup [x, y]) iH hT).i)⟩
theorem itd_enL {I : Hp} {a : Addr} {vs : List V} {ds : List D} (h : I a = some (.lst vs)) (hd : DaAll K I vs ds) : ItD K (Ite K a) I (enuD 0 ds) where
  go := fun i H I1 e1 e2 hi => by
    rw [enuD_len] at hi
    obtain ⟨v, hv, _⟩ := dpa_get hd (List.getElem?_eq_getElem hi)
    exact ⟨vs, v, SqL.of (e2 _ _ (e1 _ _ h)), hv⟩
  stop := fun H I1 e1 e2 => ⟨vs, SqL.of (e2 _ _ (e1 _ _ h)), by rw [enuD_len, dpa_len hd]; exact Nat.le_refl _⟩
  yld := fun i H I1 v H' d e1 e2 hd' ⟨T, x, ev, hT, eH, hv⟩ => by
    subst ev eH
    obtain ⟨y, hy, ed⟩ := enuD_get hd'
    obtain ⟨v', hv', q⟩ := dpa_get hd hy
    have := hv vs (SqL.of (e2 _ _ (e1 _ _ h)))
    rw [hv'] at this
    cases this
    subst ed
    rw [Nat.zero_add]
    exact pair_gr e2 hT (.int _) (q.up e1)
theorem itd_enT {I : Hp} {a : Addr} {vs : List V} {ds : List D} (h : SqT K I a vs) (hd : DaAll K I vs ds) : ItD K (IteT K a) I (enuD 0 ds) where
  go := fun i H I1 e1 e2 hi => by
    rw [enuD_len] at hi
    obtain ⟨v, hv, _⟩ := dpa_get hd (List.getElem?_eq_getElem hi)
    exact ⟨vs, v, sqt_ex (e1.tr e2) h, hv⟩
  stop := fun H I1 e1 e2 => ⟨vs, sqt_ex (e1.tr e2) h, by rw [enuD_len, dpa_len hd]; exact Nat.le_refl _⟩
  yld := fun i H I1 v H' d e1 e2 hd' ⟨T, x, ev, hT, eH, hv⟩ => by
    subst ev eH
    obtain ⟨y, hy, ed⟩ := enuD_get hd'
    obtain ⟨v', hv', q⟩ := dpa_get hd hy
    have := hv vs (sqt_ex (e1.tr e2) h)
    rw [hv'] at this
    cases this
    subst ed
    rw [Nat.zero_add]
    exact pair_gr e2 hT (.int _) (q.up e1)
def wEnum (w : WA) : WA := fun en Q => w en fun ds e1 => ∃ xs, (ds = [.list xs] ∨ ds = [.tuple xs]) ∧ Q (enuD 0 xs) e1
theorem i_enum (hm : X.mg "enumerate" = none) (ha : PA X [e] (lA X.K ζ w)) (hg : Gl X "enumerate" := by rfl) (hs : starEach [e] X.env = [(false, eval e X.env)] := by rfl) : PI X (.Tuple elts kk tpos) (.Call (.Name "enumerate" p) [e] [] pos) (lI X.K ζ (wEnum w)) :=
  (pi_enA hg hm ha hs).mo fun σ H R ⟨G, en, I, Q', o, q, k⟩ => ⟨G, en, I, _, o, q, fun vs H1 I1 e1 ds o1 x1 dvs ⟨xs, hd, q1⟩ => by
    rcases hd with rfl | rfl
    · cases dvs with
      | cons h t => cases t; cases h with
        | lst hs ha => exact ⟨_, rfl, Or.inl ⟨_, SqL.of (o1.iH _ _ hs), k _ H1 I1 e1 _ o1 x1 (itd_enL hs ha) q1⟩⟩
    · cases dvs with
      | cons h t => cases t; cases h with
        | tup hs ha => exact ⟨_, rfl, Or.inr ⟨_, sqt_ex o1.iH hs, k _ H1 I1 e1 _ o1 x1 (itd_enT hs ha) q1⟩⟩⟩
theorem itd_zipL {I : Hp} {a b : Addr} {vs us : List V} {ds es : List D} (h : I a = some (.lst vs)) (hd : DaAll K I vs ds) (g : I b = some (.lst us)) (he : DaAll K I us es) : ItD K (Itz K a b) I (zipD ds es) where
  go := fun i H I1 e1 e2 hi => by
    rw [zipD_len] at hi
    obtain ⟨v, hv, _⟩ := dpa_get hd (List.getElem?_eq_getElem (i := i) (by omega))
    obtain ⟨u, hu, _⟩ := dpa_get he (List.getElem?_eq_getElem (i := i) (by omega))
    exact ⟨vs, us, v, u, SqL.of (e2 _ _ (e1 _ _ h)), SqL.of (e2 _ _ (e1 _ _ g)), hv, hu⟩
  stop := fun H I1 e1 e2 => ⟨vs, us, SqL.of (e2 _ _ (e1 _ _ h)), SqL.of (e2 _ _ (e1 _ _ g)), by rw [zipD_len, dpa_len hd, dpa_len he]; omega⟩
  yld := fun i H I1 v H' d e1 e2 hd' ⟨T, x, y, ev, hT, eH, hv, hu⟩ => by
    subst ev eH
    obtain ⟨x', y', hx, hy, ed⟩ := zipD_get hd'
    obtain ⟨v', hv', q⟩ := dpa_get hd hx
    obtain ⟨u', hu', q'⟩ := dpa_get he hy
    have t1 := hv vs (SqL.of (e2 _ _ (e1 _ _ h)))
    have t2 := hu us (SqL.of (e2 _ _ (e1 _ _ g)))
    rw [hv'] at t1
    rw [hu'] at t2
    cases t1; cases t2
    subst ed
    exact pair_gr e2 hT (q.up e1) (q'.up e1)
theorem itd_zipT {I : Hp} {a b : Addr} {vs us : List V} {ds es : List D} (h : SqT K I a vs) (hd : DaAll K I vs ds) (g : SqT K I b us) (he : DaAll K I us es) : ItD K (RZ.ItzT K a b) I (zipD ds es) where
  go := fun i H I1 e1 e2 hi => by
    rw [zipD_len] at hi
    obtain ⟨v, hv, _⟩ := dpa_get hd (List.getElem?_eq_getElem (i := i) (by omega))
    obtain ⟨u, hu, _⟩ := dpa_get he (List.getElem?_eq_getElem (i := i) (by omega))
    exact ⟨vs, us, v, u, sqt_ex (e1.tr e2) h, sqt_ex (e1.tr e2) g, hv, hu⟩
  stop := fun H I1 e1 e2 => ⟨vs, us, sqt_ex (e1.tr e2) h, sqt_ex (e1.tr e2) g, by rw [zipD_len, dpa_len hd, dpa_len he]; omega⟩
  yld := fun i H I1 v H' d e1 e2 hd' ⟨T, x, y, ev, hT, eH, hv, hu⟩ => by
    subst ev eH
    obtain ⟨x', y', hx, hy, ed⟩ := zipD_get hd'
    obtain ⟨v', hv', q⟩ := dpa_get hd hx
    obtain ⟨u', hu', q'⟩ := dpa_get he hy
    have t1 := hv vs (sqt_ex (e1.tr e2) h)
    have t2 := hu us (sqt_ex (e1.tr e2) g)
    rw [hv'] at t1
    rw [hu'] at t2
    cases t1; cases t2
    subst ed
    exact pair_gr e2 hT (q.up e1) (q'.up e1)
def wZip (w : WA) : WA := fun en Q => w en fun ds e1 => ∃ xs ys, (ds = [.list xs, .list ys] ∨ ds = [.tuple xs, .tuple ys]) ∧ Q (zipD xs ys) e1
theorem i_zip (hm : X.mg "zip" = none) (ha : PA X [a, b] (lA X.K ζ w)) (hg : Gl X "zip" := by rfl) (hs : starEach [a, b] X.env = (false, eval a X.env) :: starEach [b] X.env := by rfl) (hpl : (backTo pos (starEach [b] X.env)).any (·.1) = false := by rfl) :
    PI X (.Tuple elts kk tpos) (.Call (.Name "zip" p) [a, b] [] pos) (lI X.K ζ (wZip w)) :=
  (RZ.pi_zipA hg hm ha hs hpl).mo fun σ H R ⟨G, en, I, Q', o, q, k⟩ => ⟨G, en, I, _, o, q, fun vs H1 I1 e1 ds o1 x1 dvs ⟨xs, ys, hd, q1⟩ => by
    rcases hd with rfl | rfl
    · cases dvs with
      | cons h t => cases t with
        | cons h2 t => cases t; cases h with
          | lst hs ha => cases h2 with
            | lst hs2 ha2 => exact ⟨_, _, _, _, rfl, Or.inl ⟨SqL.of (o1.iH _ _ hs), SqL.of (o1.iH _ _ hs2), k _ H1 I1 e1 _ o1 x1 (itd_zipL hs ha hs2 ha2) q1⟩⟩
    · cases dvs with
      | cons h t => cases t with
        | cons h2 t => cases t; cases h with
          | tup hs ha => cases h2 with
            | tup hs2 ha2 => exact ⟨_, _, _, _, rfl, Or.inr ⟨sqt_ex o1.iH hs, sqt_ex o1.iH hs2, k _ H1 I1 e1 _ o1 x1 (itd_zipT hs ha hs2 ha2) q1⟩⟩⟩
end
end Pd

set_option Elab.async false
set_option linter.all false
set_option maxRecDepth 100000
set_option maxHeartbeats 4000000
namespace Pd
open PySem PySem.Spec PyProof.Rows L2
section
variable {K : PySem.W.Frag} {X : Cx} {e a b : Expr} {es : List Expr} {pos p : Pos} {wb : WE} {x : Str} {k n : Nat} {ps : List Str}
/-! ### the law's own list -/
def wLenS (i : Nat) : WE := fun en Q => ∃ ns, en[i]? = some (.scr ns) ∧ Q (.int (ns.length : Nat)) en
theorem d_lenS {i : Nat} (hm : X.mg "len" = none) (ha : PE X e (tVar i)) (hg : Gl X "len" := by rfl)
    (he : starEach (e :: []) X.env = (false, eval e X.env) :: starEach [] X.env := by rfl) (hpl : (backTo pos (starEach [] X.env)).any (·.1) = false := by rfl) : PE X (.Call (.Name "len" p) [e] [] pos) (lE X.K ζ (wLenS i)) :=
  (pe_callB call_len hg hm (by decide +kernel) (pa_cons ha pa_nil he) (by decide) (by decide) he hpl).mo fun σ H Q ⟨G, en, I, Q', o, ⟨ns, hd, q⟩, k⟩ => by
    obtain ⟨a, h1, h2⟩ := o.sl i _ hd
    exact ⟨.ref a, h1, _, ns.length, rfl, Or.inl ⟨_, (sqs_ex o.iH h2).l, by rw [List.length_map]⟩, k _ H I en _ o (Ex.rf I) (.int _) q⟩
def wIxS (i : Nat) (wb : WE) : WE := fun en Q => (∃ ns, en[i]? = some (.scr ns)) ∧ wb en fun y e1 => ∃ ns j m, e1[i]? = some (.scr ns) ∧ y = .int j ∧ atI ns j = some m ∧ Q (.int m) e1
theorem at_map {ns : List Int} {j m : Int} (h : atI ns j = some m) : atI (ns.map V.int) j = some (.int m) := by
  unfold atI at h ⊢
  rw [List.length_map]
  cases q : ixN ns.length j with
  | none => rw [q] at h; cases h
  | some t =>
    rw [q] at h
    have h' : ns[t]? = some m := h
    show (ns.map V.int)[t]? = _
    rw [List.getElem?_map, h']
    rfl
theorem d_ixS {i : Nat} (ha : PE X a (tVar i)) (hb : PE X b (lE X.K ζ wb)) (hs : PlainIx b := by exact fun _ _ => rfl) : PE X (.Subscript a b pos) (lE X.K ζ (wIxS i wb)) :=
  (pe_ix ix_seq ha hb hs).mo fun σ H Q ⟨G, en, I, Q', o, ⟨⟨ns0, hd0⟩, q⟩, k⟩ => by
    obtain ⟨l, h1, h2⟩ := o.sl i _ hd0
    refine ⟨.ref l, h1, G, en, I, _, o, q, fun u H1 I1 e1 d o1 x1 du ⟨ns, j, m, hd, hj, hm, q1⟩ => ?_⟩
    subst hj
    obtain ⟨l', h3, h4⟩ := o1.sl i _ hd
    rw [h1] at h3
    have q5 : l = l' := by injection h3 with h3; injection h3 with h3; injection h3
    subst q5
    exact Or.inl ⟨l, _, j, _, rfl, dp_int du, (sqs_ex o1.iH h4).l, at_map hm, k _ H1 I1 e1 _ o1 x1 (.int m) q1⟩
abbrev WSc := List Int → List D → (D → Prop) → Prop
/-- a def whose first argument is the law's list -/
def spS (K : PySem.W.Frag) (n : Nat) (wf : WSc) : Sp := fun vs H Q _ => ∃ (a : Addr) (ns : List Int) (us : List V) (ds : List D) (I : Hp) (Q' : D → Prop),
  vs = .ref a :: us ∧ Ex I H ∧ SqS K I a (ns.map V.int) ∧ DaAll K I us ds ∧ ds.length + 1 = n ∧ wf ns ds Q' ∧ ∀ v H' I' d, Gr H I H' I' → Da K I' v d → Q' d → Q v H'
/-- a call of such a def that hands back a new list of ints: one's own -/
def wFnS (i n : Nat) (wf : WSc) (w : WA) : WA := fun en Q => (∃ ns, en[i]? = some (.scr ns)) ∧ w en fun ds e1 => ∃ (ns js : List Int), ds = js.map PyData.int ∧ js.length + 1 = n ∧ e1[i]? = some (.scr ns) ∧ wf ns ds fun d => ∃ ms : List Int, d = .list (ms.map .int) ∧ Q (ms.map .int) e1
theorem c_callS {wf : WSc} {w : WA} {i : Nat} (C : Cal X.prog X.w X.K X.mg X.base k x ps (spS X.K n wf)) (hr : Room k X.A) (h0 : PE X e (tVar i)) (ha : PA X es (lA X.K ζ w)) (hg : Gl X x := by rfl)
    (hdb : (x == ("__debug__" : Str)) = false := by decide) (he : starEach (e :: es) X.env = (false, eval e X.env) :: starEach es X.env := by rfl) (hpl : (backTo pos (starEach es X.env)).any (·.1) = false := by rfl) :
    PE X (.Call (.Name x p) (e :: es) [] pos) (lL X.K ζ (wFnS i n wf w)) := by
  obtain ⟨f, fd, F, hm, hk, hb⟩ := C
  refine (pe_call F hr hg hm hk hb .nil pass0 (pa_cons h0 ha he) hdb he hpl).mo fun σ H Q ⟨G, en, I, Q', o, ⟨⟨ns0, hd0⟩, q⟩, k⟩ => ?_
  obtain ⟨l, h1, h2⟩ := o.sl i _ hd0
  refine ⟨.ref l, h1, G, en, I, _, o, q, fun vs H1 I1 e1 ds o1 x1 dvs ⟨ns, js, hjs, hn, hd, q1⟩ => ?_⟩
  obtain ⟨l', h3, h4⟩ := o1.sl i _ hd
  rw [h1] at h3
  have q5 : l = l' := by injection h3 with h3; injection h3 with h3; injection h3
  subst q5 hjs
  have evs := dpa_ints_inv js dvs
  subst evs
  -- the callee sees nothing but the law's list
  obtain ⟨J, jI, jl, jn⟩ : ∃ J : Hp, Ex J I1 ∧ SqS X.K J l (ns.map V.int) ∧ ∀ b xs, J b ≠ some (.lst xs) := by
    rcases h4 with ⟨w, h4⟩ | h4
    · refine ⟨fun b => if b = l then some (.frz w (.lst (ns.map V.int))) else none, fun b u hb => ?_, Or.inl ⟨w, if_pos rfl⟩, fun b xs hb => ?_⟩
      · by_cases eb : b = l
        · have hb' : (if b = l then some (HO.frz w (.lst (ns.map V.int))) else none) = some u := hb
          rw [if_pos eb] at hb'
          rw [eb, h4]; exact hb'
        · have hb' : (if b = l then some (HO.frz w (.lst (ns.map V.int))) else none) = some u := hb
          rw [if_neg eb] at hb'; cases hb'
      · have hb' : (if b = l then some (HO.frz w (.lst (ns.map V.int))) else none) = some (HO.lst xs) := hb
        split at hb' <;> cases hb'
    · exact ⟨fun _ => none, fun b u hb => (by cases hb), Or.inr h4, fun b xs hb => (by cases hb)⟩
  show spS X.K n wf ((V.ref l :: js.map V.int) ++ []) H1 Q E0
  rw [List.append_nil]
  refine ⟨l, ns, js.map V.int, js.map .int, J, _, rfl, jI.tr o1.iH, jl, dpa_ints js, by rw [List.length_map]; exact hn, q1, fun v H2 I2 d g dv ⟨ms, hms, q2⟩ => ?_⟩
  subst hms
  cases dv with
  | lst hp ha =>
    rename_i pp vs
    have ev := dpa_ints_inv ms ha
    subst ev
    have fresh : H1 pp = none := g.n pp (by rw [hp]; simp) (by
      cases z : J pp with
      | none => rfl
      | some u =>
        have z2 := g.i pp u z
        rw [hp] at z2
        cases z2
        exact absurd z (jn _ _))
    have e2 : Ex H1 (hid H2 pp) := fun b u hb => by
      have ne : b ≠ pp := fun e => by rw [e, fresh] at hb; cases hb
      rw [hid_ne ne]; exact g.h b u hb
    have eH : H2 = upd (hid H2 pp) pp (.lst (ms.map V.int)) := by
      funext b
      by_cases e : b = pp
      · rw [e, upd_same]; exact g.s _ _ hp
      · rw [upd_ne e, hid_ne e]
    rw [eH]
    exact k pp _ _ I1 e1 _ (o1.grow e2 (Ex.rf I1) (o1.iH.tr e2) fun a h1 h2 => absurd h2 h1) x1 hid_at (dpa_ints ms) q2
/-! ### the defs that take the law's list -/
def enS (N : List Str) (ns : List Int) (ds : List D) : En := .scr ns :: (ds.map .imm ++ List.replicate (N.length - (ds.length + 1)) .un)
end
section
variable {P : Program} {w : World} {K : PySem.W.Frag} {mg : Str → Option Value} {base : Heap} {x qual : Str} {params : Arguments} {body : List Stmt} {scope : Scope} {f : Addr} {fd : FuncData} {N ps : List Str} {k : Nat}
theorem fnS {wf : WSc} {ws : WS} {n : Nat} (F : FunD K x qual params body scope [] [] f fd) (S : FnScope N ps scope) (hn : ps.length = n)
    (hb : ∀ (cdv : Value) (A : Around) (outer : List Env) (s : Shared) (H : Hp) (E : XK), Room k (A.deeper (envOfC qual scope s.heap.objs.size f cdv)) → PSs (cxOf CX0 P w K mg base N qual scope f cdv A outer s H E).nox body (lS K ζ0 ws))
    (hp : ∀ ns ds Q', ds.length + 1 = n → wf ns ds Q' → ws (edP Q') (enS N ns ds)) : FnOk P w K mg base CX0 (k + 1) f fd ps (spS K n wf) := by
  refine F.ok S (fun vs H Q E h => ?_) (fun cdv A outer s H vs Q E hr h => ?_)
  · obtain ⟨a, ns, us, ds, I, Q', rfl, _, _, h6, h7, _⟩ := h
    rw [List.length_cons, dpa_len h6, h7, hn]
  · obtain ⟨a, ns, us, ds, I, Q', rfl, h1, h0, h2, h3, h4, h5⟩ := h
    refine ⟨lS K ζ0 ws, PSs.nox (hb cdv A outer s H E hr), ?_⟩
    have hpl : ps.length ≤ N.length := by have := congrArg List.length S.pre; rw [List.length_take] at this; omega
    have hl : us.length = ds.length := dpa_len h2
    have get_ : ∀ (i : Nat) (s : Sl), (enS N ns ds)[i]? = some s → (i = 0 ∧ s = .scr ns) ∨ (∃ d v, ds[i - 1]? = some d ∧ us[i - 1]? = some v ∧ Da K I v d ∧ s = .imm d ∧ 1 ≤ i ∧ (L2.start N (V.ref a :: us))[i]? = some (some v)) ∨ s = .un := fun i s hs => by
      unfold enS at hs
      cases i with
      | zero => exact Or.inl ⟨rfl, by simpa using hs.symm⟩
      | succ i =>
        rw [List.getElem?_cons_succ] at hs
        by_cases hi : i < ds.length
        · rw [List.getElem?_append_left (by rw [List.length_map]; exact hi), List.getElem?_map] at hs
          cases q : ds[i]? with
          | none => rw [q] at hs; cases hs
          | some d =>
            rw [q] at hs
            cases hs
            obtain ⟨v, hv, dv⟩ := dpa_get h2 q
            refine Or.inr (Or.inl ⟨d, v, q, hv, dv, rfl, by omega, ?_⟩)
            unfold L2.start
            rw [List.getElem?_append_left (by rw [List.length_map, List.length_cons, hl]; omega), List.getElem?_map, List.getElem?_cons_succ, hv]
            rfl
        · rw [List.getElem?_append_right (by rw [List.length_map]; omega), List.getElem?_replicate] at hs
          split at hs
          · cases hs; exact Or.inr (Or.inr rfl)
          · cases hs
    have s0 : (L2.start N (V.ref a :: us))[0]? = some (some (V.ref a)) := by unfold L2.start; simp
    have nown : ∀ (i : Nat) (l : Addr), ¬ OwnAt (L2.start N (V.ref a :: us)) (enS N ns ds) i l := fun i l ⟨q1, es, q2⟩ => by
      rcases get_ i _ q2 with ⟨e, e2⟩ | ⟨d, v, _, _, _, e, _⟩ | e
      · cases e2
      · cases e
      · cases e
    have o : Ok K ζ0 ⟨H, I, none, []⟩ (L2.start N (V.ref a :: us)) (enS N ns ds) H I := by
      refine ⟨Ex.rf I, h1, fun a _ h => h, fun a o h _ _ => h, ?_, fun i s hs => ?_, fun i l h => absurd h (nown i l), fun i j l h => absurd h (nown i l), fun l h => (by cases h), fun p hp => (by cases hp), fun p hp => (by cases hp), fun _ h => isTb_Nil h, Tabs_nil, fun _ _ _ _ _ => trivial⟩
      · unfold L2.start enS
        rw [List.length_append, List.length_map, List.length_replicate, List.length_cons, List.length_cons, List.length_append, List.length_map, List.length_replicate]
        omega
      · rcases get_ i s hs with ⟨e1, e2⟩ | ⟨d, v, q1, q2, q3, e, q4, q5⟩ | e
        · subst e1 e2
          exact ⟨a, s0, h0⟩
        · subst e
          exact ⟨v, q5, q3⟩
        · subst e; trivial
    have fin : ∀ {v σ' H' I' en' d}, Ok K ζ0 ⟨H, I, none, []⟩ σ' en' H' I' → Da K I' v d → Q' d → Q v H' := fun {v σ' H' I' en' d} o' dv q =>
      h5 v H' I' d ⟨fun a u q => o'.fr a u q (by simp) isTb0, o'.i0, o'.iH, fun a h1 h2 => by
        cases z : H a with
        | none => rfl
        | some u => exact absurd (o'.nw a (show H a ≠ none by rw [z]; simp) h2) h1⟩ dv q
    exact lS_mk o (hp ns ds Q' h3 h4) ⟨fun σ' H' I' en' o' q => fin o' .non q, fun v σ' H' I' en' d o' dv q => fin o' dv q, fun _ _ _ _ _ q => q.elim, fun _ _ _ _ _ q => q.elim⟩
/-- the law hands back True -/
def wfLaw (n : Nat) : WSc := fun ns ds Q => ds = [] ∧ ns.length ≤ n ∧ Q (.bool true)
theorem law_sp {n : Nat} {H : Hp} {a : Addr} {ns : List Int} (hn : ns.length ≤ n) (hO : Only H) (hS : SqL K H a (ns.map V.int)) : spS K 1 (wfLaw n) [.ref a] H (fun v _ => v = .bl true) fun _ _ _ => False := by
  have h : SqS K H a (ns.map V.int) := by
    rcases hS with (h | ⟨o, h⟩) | h
    · rcases hO a with q | ⟨o, xs, q⟩
      · rw [q] at h; cases h
      · rw [q] at h; cases h
    · exact Or.inl ⟨o, h⟩
    · exact Or.inr fun _ => Or.inr h
  exact ⟨a, ns, [], [], H, fun d => d = .bool true, rfl, Ex.rf H, h, .nil, rfl, ⟨rfl, hn, rfl⟩, fun v H' I' d g dv hd => by
    subst hd
    exact dp_bl dv⟩
end
end Pd

set_option Elab.async false
set_option linter.all false
set_option maxRecDepth 100000
set_option maxHeartbeats 4000000
namespace Pd
open PySem PySem.Spec PyProof.Rows L2
section
variable {K : PySem.W.Frag} {X : Cx}
def dIadd : D → D → D → Prop := dInt (fun _ _ => True) fun i j => .int (i + j)
def dIsub : D → D → D → Prop := dInt (fun _ _ => True) fun i j => .int (i - j)
theorem snd_ipadd : SndOp K (ipI fun i j => i + j) dIadd := by
  rintro H I x y d e z iH hx hy ⟨i, j, rfl, rfl, _, rfl⟩ Q k
  cases hx; cases hy
  exact ⟨i, j, rfl, rfl, k _ H I (Gr.rf iH) (.int _)⟩
theorem snd_ipsub : SndOp K (ipI fun i j => i - j) dIsub := by
  rintro H I x y d e z iH hx hy ⟨i, j, rfl, rfl, _, rfl⟩ Q k
  cases hx; cases hy
  exact ⟨i, j, rfl, rfl, k _ H I (Gr.rf iH) (.int _)⟩
/-- math.gcd by the module's name -/
theorem d_gcd {p pos : Pos} {x : Str} {e : Expr} {es : List Expr} {w : WA} (hm : X.mg x = some (.builtin "math.gcd")) (ha : PA X (e :: es) (lA X.K ζ w)) (hg : Gl X x := by rfl) (hdb : (x == ("__debug__" : Str)) = false := by decide)
    (he : starEach (e :: es) X.env = (false, eval e X.env) :: starEach es X.env := by rfl) (hpl : (backTo pos (starEach es X.env)).any (·.1) = false := by rfl) : PE X (.Call (.Name x p) (e :: es) [] pos) (lE X.K ζ (wCl dGcd w)) :=
  (pe_callBfun cr_gcd hg hm ha hdb he hpl).mo fun σ H Q q => lcl snd_gcd q
/-- a target takes a value -/
def wAsgT (w : WE) (g : WG) : WS := fun R en => w en fun d e1 => g d e1 R.nx
theorem s_asgT {st : Stmt} {is : List Nat} {w : WE} {g : WG} (h : PS X st (tAsg (lE X.K ζ w) (lG X.K ζ is g))) : PS X st (lS X.K ζ (wAsgT w g)) :=
  h.mo fun R σ H ⟨G, en, I, R', o, q, k⟩ => ⟨G, en, I, _, o, q, fun v H1 I1 e1 d o1 x1 dv q1 => ⟨G, e1, I1, d, R'.nx, o1, dv, q1, fun σ' H' I' en' o' x' l' k' q' => k.1 σ' H' I' en' o' q'⟩⟩
end
/-! ### readings of ints -/
theorem i_add {i j : Int} {z : D} : dAdd (.int i) (.int j) z ↔ z = .int (i + j) := Iff.rfl
theorem i_iadd {i j : Int} {z : D} : dIadd (.int i) (.int j) z ↔ z = .int (i + j) := ⟨fun ⟨_, _, rfl, rfl, _, h⟩ => h, fun h => ⟨_, _, rfl, rfl, trivial, h⟩⟩
theorem i_sub {i j : Int} {z : D} : dSub (.int i) (.int j) z ↔ z = .int (i - j) := ⟨fun ⟨_, _, rfl, rfl, _, h⟩ => h, fun h => ⟨_, _, rfl, rfl, trivial, h⟩⟩
theorem i_mul {i j : Int} {z : D} : dMul (.int i) (.int j) z ↔ MulOk i j ∧ z = .int (i * j) := by
  constructor
  · intro h
    rcases h with ⟨_, _, e1, e2, c, h⟩ | ⟨_, _, h, _⟩ | ⟨_, _, h, _⟩
    · cases e1; cases e2; exact ⟨c, h⟩
    · cases h
    · cases h
  · rintro ⟨c, h⟩
    exact Or.inl ⟨_, _, rfl, rfl, c, h⟩
theorem i_mod {i j : Int} {z : D} : dMod (.int i) (.int j) z ↔ 0 < j ∧ z = .int (i % j) := ⟨fun ⟨_, _, rfl, rfl, c, h⟩ => ⟨c, h⟩, fun ⟨c, h⟩ => ⟨_, _, rfl, rfl, c, h⟩⟩
theorem i_fdiv {i j : Int} {z : D} : dFdiv (.int i) (.int j) z ↔ CDivW i j ∧ z = .int (i / j) := ⟨fun ⟨_, _, rfl, rfl, c, h⟩ => ⟨c, h⟩, fun ⟨c, h⟩ => ⟨_, _, rfl, rfl, c, h⟩⟩
theorem i_pow {i j : Int} {z : D} : dPow (.int i) (.int j) z ↔ PowOk i j ∧ z = .int (i ^ j.toNat) := ⟨fun ⟨_, _, rfl, rfl, c, h⟩ => ⟨c, h⟩, fun ⟨c, h⟩ => ⟨_, _, rfl, rfl, c, h⟩⟩
theorem i_neg {i : Int} {z : D} : dNeg (.int i) z ↔ z = .int (-i) := ⟨fun ⟨_, rfl, h⟩ => h, fun h => ⟨_, rfl, h⟩⟩
theorem i_le {i j : Int} {z : D} : dLe (.int i) (.int j) z ↔ z = .bool (decide (i ≤ j)) := ⟨fun ⟨_, _, rfl, rfl, h⟩ => h, fun h => ⟨_, _, rfl, rfl, h⟩⟩
theorem i_ge {i j : Int} {z : D} : dGe (.int i) (.int j) z ↔ z = .bool (decide (j ≤ i)) := ⟨fun ⟨_, _, rfl, rfl, h⟩ => h, fun h => ⟨_, _, rfl, rfl, h⟩⟩
theorem i_gt {i j : Int} {z : D} : dGt (.int i) (.int j) z ↔ z = .bool (decide (j < i)) := ⟨fun ⟨_, _, rfl, rfl, h⟩ => h, fun h => ⟨_, _, rfl, rfl, h⟩⟩
theorem i_lt {i j : Int} {z : D} : dLt (.int i) (.int j) z ↔ z = .bool (decide (i < j)) := by
  constructor
  · intro h
    rcases h with ⟨_, _, e1, e2, h⟩ | ⟨_, _, e, _⟩
    · cases e1; cases e2; exact h
    · cases e
  · exact fun h => Or.inl ⟨_, _, rfl, rfl, h⟩
theorem ints_inj : ∀ {as bs : List Int}, as.map PyData.int = bs.map PyData.int → as = bs
  | [], [], _ => rfl
  | [], _ :: _, h => by cases h
  | _ :: _, [], h => by cases h
  | a :: as, b :: bs, h => by
    simp only [List.map_cons, List.cons.injEq, PyData.int.injEq] at h
    rw [h.1, ints_inj h.2]
theorem i_ltT {ns ms : List Int} {z : D} : dLt (.tuple (ns.map .int)) (.tuple (ms.map .int)) z ↔ z = .bool (HT.lexLt ns ms) := by
  constructor
  · intro h
    rcases h with ⟨_, _, e1, e2, h⟩ | ⟨ns', ms', e1, e2, h⟩
    · cases e1
    · simp only [PyData.tuple.injEq] at e1 e2
      rw [ints_inj e1, ints_inj e2]; exact h
  · exact fun h => Or.inr ⟨_, _, rfl, rfl, h⟩
theorem eqv_int {i j : Int} : PyData.eqv (.int i) (.int j) = decide (i = j) := by simp [PyData.eqv]; rfl
theorem i_eq {i j : Int} {z : D} : dEq (.int i) (.int j) z ↔ z = .bool (decide (i = j)) := by
  unfold dEq; rw [eqv_int]; exact ⟨fun h => h.2.2, fun h => ⟨rfl, rfl, h⟩⟩
theorem i_ne {i j : Int} {z : D} : dNe (.int i) (.int j) z ↔ z = .bool (decide (i ≠ j)) := by
  unfold dNe; rw [eqv_int, decide_not]; exact ⟨fun h => h.2.2, fun h => ⟨rfl, rfl, h⟩⟩
theorem i_intI {i : Int} {z : D} : dIntOf [.int i] z ↔ z = .int i := Iff.rfl
theorem i_intB {b : Bool} {z : D} : dIntOf [.bool b] z ↔ z = .int (if b then 1 else 0) := Iff.rfl
theorem i_abs {i : Int} {z : D} : dAbs [.int i] z ↔ z = .int (if i < 0 then -i else i) := ⟨fun ⟨_, e, h⟩ => by cases e; exact h, fun h => ⟨_, rfl, h⟩⟩
theorem i_max {i j : Int} {z : D} : dMax2 [.int i, .int j] z ↔ z = .int (if j > i then j else i) := ⟨fun ⟨_, _, e, h⟩ => by cases e; exact h, fun h => ⟨_, _, rfl, h⟩⟩
theorem i_min {i j : Int} {z : D} : dMin2 [.int i, .int j] z ↔ z = .int (if j < i then j else i) := ⟨fun ⟨_, _, e, h⟩ => by cases e; exact h, fun h => ⟨_, _, rfl, h⟩⟩
theorem i_lenL {xs : List D} {z : D} : dLen [.list xs] z ↔ z = .int xs.length := Iff.rfl
theorem i_lenT {xs : List D} {z : D} : dLen [.tuple xs] z ↔ z = .int xs.length := Iff.rfl
theorem i_ixL {xs : List D} {i : Int} {z : D} : dIx (.list xs) (.int i) z ↔ atI xs i = some z := Iff.rfl
theorem i_ixT {xs : List D} {i : Int} {z : D} : dIx (.tuple xs) (.int i) z ↔ atI xs i = some z := Iff.rfl
theorem i_tupL {xs : List D} {z : D} : dTupOf [.list xs] z ↔ z = .tuple xs := Iff.rfl
theorem i_tupT {xs : List D} {z : D} : dTupOf [.tuple xs] z ↔ z = .tuple xs := Iff.rfl
theorem i_truB {b c : Bool} : Tru (.bool b) c ↔ c = b := by unfold Tru; constructor <;> intro h <;> first | exact h | exact h.symm
end Pd

set_option Elab.async false
set_option linter.all false
set_option maxRecDepth 100000
set_option maxHeartbeats 4000000
namespace Pd
open PySem PySem.Spec PyProof.Rows L2
theorem small_l {i j : Int} (h : -(2 ^ 64) < i) (h2 : i < 2 ^ 64) : MulOk i j := Or.inl (Or.inl ⟨h, h2⟩)
theorem small_r {i j : Int} (h : -(2 ^ 64) < j) (h2 : j < 2 ^ 64) : MulOk i j := Or.inl (Or.inr ⟨h, h2⟩)
theorem pow_ok {i j : Int} (h : decide (0 ≤ j) && decide ((Builtin.Int.intBits i : Int) * j ≤ 2 ^ 27) = true) : PowOk i j := by
  simp only [Bool.and_eq_true, decide_eq_true_eq] at h
  exact h
theorem at0 {α : Type} {a : α} {l : List α} : atI (a :: l) 0 = some a := by
  unfold atI ixN; simp
theorem at_nat {α : Type} {l : List α} {i : Nat} (h : i < l.length) : atI l (i : Int) = some l[i] := by
  unfold atI ixN
  rw [if_pos (by omega), if_pos (by omega)]
  show l[(i : Int).toNat]? = _
  rw [show (i : Int).toNat = i by omega, List.getElem?_eq_getElem h]
theorem at_int {α : Type} {l : List α} {i : Int} (h0 : 0 ≤ i) (h : i < l.length) : ∃ x, atI l i = some x ∧ x ∈ l := by
  obtain ⟨k, rfl⟩ := Int.eq_ofNat_of_zero_le h0
  exact ⟨_, at_nat (by omega), List.getElem_mem _⟩
theorem at1 {α : Type} {a b : α} {l : List α} : atI (a :: b :: l) 1 = some b := at_nat (i := 1) (by simp)
theorem at2 {α : Type} {a b c : α} {l : List α} : atI (a :: b :: c :: l) 2 = some c := at_nat (i := 2) (by simp)
theorem ix30 : ixN 3 0 = some 0 := rfl
theorem ix31 : ixN 3 1 = some 1 := rfl
theorem ix32 : ixN 3 2 = some 2 := rfl
/-! ### comparisons of sequences of ints -/
theorem lay_ints : ∀ ls : List Int, PyData.canLayAll0 (ls.map .int) = true
  | [] => rfl
  | _ :: ls => lay_ints ls
theorem dep_ints : ∀ ls : List Int, PyData.depthAll (ls.map .int) = 0
  | [] => rfl
  | _ :: ls => by
    show max 0 (PyData.depthAll (ls.map .int)) = 0
    rw [dep_ints ls]; rfl
theorem shaped_tup (ls : List Int) : SeqAt.shaped (.tuple (ls.map .int)) = true := by
  show (PyData.canLayAll0 (ls.map .int) && decide (PyData.depthAll (ls.map .int) + 1 ≤ 64)) = true
  rw [lay_ints, dep_ints]; rfl
theorem shaped_lst (ls : List Int) : SeqAt.shaped (.list (ls.map .int)) = true := by
  show (PyData.canLayAll0 (ls.map .int) && decide (PyData.depthAll (ls.map .int) + 1 ≤ 64)) = true
  rw [lay_ints, dep_ints]; rfl
theorem eqv_ints : ∀ as bs : List Int, PyData.eqvAll (as.map .int) (bs.map .int) = decide (as = bs)
  | [], [] => rfl
  | [], _ :: _ => rfl
  | _ :: _, [] => rfl
  | a :: as, b :: bs => by
    show (PyData.eqv (.int a) (.int b) && PyData.eqvAll (as.map .int) (bs.map .int)) = _
    rw [eqv_int, eqv_ints as bs, ← Bool.decide_and]
    exact decide_eq_decide.mpr (by rw [List.cons.injEq])
theorem i_eqT {as bs : List Int} {z : D} : dEq (.tuple (as.map .int)) (.tuple (bs.map .int)) z ↔ z = .bool (decide (as = bs)) := by
  unfold dEq
  rw [show PyData.eqv (.tuple (as.map .int)) (.tuple (bs.map .int)) = decide (as = bs) from eqv_ints as bs]
  exact ⟨fun h => h.2.2, fun h => ⟨shaped_tup _, shaped_tup _, h⟩⟩
theorem i_neT {as bs : List Int} {z : D} : dNe (.tuple (as.map .int)) (.tuple (bs.map .int)) z ↔ z = .bool (decide (as ≠ bs)) := by
  unfold dNe
  rw [show PyData.eqv (.tuple (as.map .int)) (.tuple (bs.map .int)) = decide (as = bs) from eqv_ints as bs, decide_not]
  exact ⟨fun h => h.2.2, fun h => ⟨shaped_tup _, shaped_tup _, h⟩⟩
theorem i_eqL {as bs : List Int} {z : D} : dEq (.list (as.map .int)) (.list (bs.map .int)) z ↔ z = .bool (decide (as = bs)) := by
  unfold dEq
  rw [show PyData.eqv (.list (as.map .int)) (.list (bs.map .int)) = decide (as = bs) from eqv_ints as bs]
  exact ⟨fun h => h.2.2, fun h => ⟨shaped_lst _, shaped_lst _, h⟩⟩
theorem i_neL {as bs : List Int} {z : D} : dNe (.list (as.map .int)) (.list (bs.map .int)) z ↔ z = .bool (decide (as ≠ bs)) := by
  unfold dNe
  rw [show PyData.eqv (.list (as.map .int)) (.list (bs.map .int)) = decide (as = bs) from eqv_ints as bs, decide_not]
  exact ⟨fun h => h.2.2, fun h => ⟨shaped_lst _, shaped_lst _, h⟩⟩
theorem i_eqB {a b : Bool} {z : D} : dEq (.bool a) (.bool b) z ↔ z = .bool (a == b) := by
  unfold dEq; exact ⟨fun h => h.2.2, fun h => ⟨rfl, rfl, h⟩⟩
theorem i_neB {a b : Bool} {z : D} : dNe (.bool a) (.bool b) z ↔ z = .bool (!(a == b)) := by
  unfold dNe; exact ⟨fun h => h.2.2, fun h => ⟨rfl, rfl, h⟩⟩
/-! ### comprehensions -/
theorem lc_pure {j : Nat} {f : D → D} {w : WE} {en : En} (hj : j ≠ 0) : ∀ {xs acc : List D} {Q : List D → En → Prop}, (∀ x ∈ xs, ∀ Q : D → En → Prop, Q (f x) (en.set j (.imm x)) → w (en.set j (.imm x)) Q) → Q (acc ++ xs.map f) (en.set j .un) → lcW (wgN j) wYes w [j] xs acc (en.set j .un) Q
  | [], acc, Q, _, q => by rw [List.map_nil, List.append_nil] at q; exact q
  | x :: xs, acc, Q, h, q => by
    refine ⟨Or.inl hj, ?_⟩
    show FreeS _ [j] ∧ _
    rw [List.set_set]
    refine ⟨fun v hv => Or.inl (by rw [List.mem_singleton] at hv; rw [hv]; exact hj), ?_⟩
    rw [if_pos rfl]
    refine h x List.mem_cons_self _ ⟨fun v hv => Or.inl (by rw [List.mem_singleton] at hv; rw [hv]; exact hj), ?_⟩
    show lcW _ _ _ _ _ _ ((en.set j (.imm x)).set j .un) _
    rw [List.set_set]
    refine lc_pure hj (fun y hy => h y (List.mem_cons_of_mem _ hy)) ?_
    rw [List.append_assoc]
    exact q
theorem bak_one {j : Nat} {en : En} : bak [j] en (en.set j .un) = en := by
  refine List.ext_getElem? fun i => ?_
  unfold bak
  rw [List.getElem?_map, List.length_set]
  by_cases hi : i < en.length
  · rw [List.getElem?_eq_getElem (by rw [List.length_range]; exact hi), List.getElem_range, List.getElem?_eq_getElem hi]
    show some (if i ∈ [j] then en.getD i .un else (en.set j .un).getD i .un) = _
    by_cases hm : i ∈ [j]
    · rw [if_pos hm, List.getD_eq_getElem?_getD, List.getElem?_eq_getElem hi]; rfl
    · rw [if_neg hm, List.getD_eq_getElem?_getD, List.getElem?_set_ne (fun e => hm (by rw [e]; exact List.mem_singleton.mpr rfl)), List.getElem?_eq_getElem hi]; rfl
  · rw [List.getElem?_eq_none (by rw [List.length_range]; omega), List.getElem?_eq_none (by omega)]; rfl
theorem free_one {j : Nat} {en : En} (hj : j ≠ 0) : FreeS en [j] := fun v hv => Or.inl (by rw [List.mem_singleton] at hv; rw [hv]; exact hj)
/-- a comprehension without a test over one name, of no change -/
theorem lc1 {wi : WA} {j : Nat} {f : D → D} {w : WE} {en e1 : En} {xs : List D} {Q : List D → En → Prop} (hj : j ≠ 0) (hi : ∀ Q : List D → En → Prop, Q xs e1 → wi en Q) (hn : NotOwn e1[j]?) (hl : xs.length ≤ sizeLine)
    (hw : ∀ x ∈ xs, ∀ Q : D → En → Prop, Q (f x) (e1.set j (.imm x)) → w (e1.set j (.imm x)) Q) (q : Q (xs.map f) e1) : wLc wi (wgN j) wYes w [j] en Q := by
  refine hi _ ⟨free_one hj, fun v hv => by rw [List.mem_singleton] at hv; rw [hv]; exact hn, hl, ?_⟩
  show lcW _ _ _ _ _ _ (e1.set j .un) _
  refine lc_pure hj hw ?_
  show Q ([] ++ xs.map f) (bak [j] e1 (e1.set j .un))
  rw [bak_one]; exact q
/-- a comprehension with a test, of no change -/
theorem lc_if {j : Nat} {f : D → D} {c : D → Bool} {t : WT} {w : WE} {en : En} (hj : j ≠ 0) : ∀ {xs acc : List D} {Q : List D → En → Prop}, (∀ x ∈ xs, ∀ Q : Bool → En → Prop, Q (c x) (en.set j (.imm x)) → t (en.set j (.imm x)) Q) →
    (∀ x ∈ xs, c x = true → ∀ Q : D → En → Prop, Q (f x) (en.set j (.imm x)) → w (en.set j (.imm x)) Q) → Q (acc ++ (xs.filter c).map f) (en.set j .un) → lcW (wgN j) t w [j] xs acc (en.set j .un) Q
  | [], acc, Q, _, _, q => by
    have q' : Q (acc ++ []) (en.set j .un) := q
    rw [List.append_nil] at q'; exact q'
  | x :: xs, acc, Q, ht, h, q => by
    refine ⟨Or.inl hj, ?_⟩
    show t ((en.set j .un).set j (.imm x)) _
    rw [List.set_set]
    refine ht x List.mem_cons_self _ ⟨free_one hj, ?_⟩
    cases hc : c x with
    | true =>
      rw [if_pos rfl]
      refine h x List.mem_cons_self hc _ ⟨free_one hj, ?_⟩
      show lcW _ _ _ _ _ _ ((en.set j (.imm x)).set j .un) _
      rw [List.set_set]
      refine lc_if hj (fun y hy => ht y (List.mem_cons_of_mem _ hy)) (fun y hy => h y (List.mem_cons_of_mem _ hy)) ?_
      rw [List.append_assoc]
      rw [List.filter_cons_of_pos hc, List.map_cons] at q
      exact q
    | false =>
      rw [if_neg (by decide)]
      show lcW _ _ _ _ _ _ ((en.set j (.imm x)).set j .un) _
      rw [List.set_set]
      refine lc_if hj (fun y hy => ht y (List.mem_cons_of_mem _ hy)) (fun y hy => h y (List.mem_cons_of_mem _ hy)) ?_
      rw [List.filter_cons_of_neg (by rw [hc]; decide)] at q
      exact q
theorem lc1if {wi : WA} {j : Nat} {f : D → D} {c : D → Bool} {t : WT} {w : WE} {en e1 : En} {xs : List D} {Q : List D → En → Prop} (hj : j ≠ 0) (hi : ∀ Q : List D → En → Prop, Q xs e1 → wi en Q) (hn : NotOwn e1[j]?) (hl : xs.length ≤ sizeLine)
    (ht : ∀ x ∈ xs, ∀ Q : Bool → En → Prop, Q (c x) (e1.set j (.imm x)) → t (e1.set j (.imm x)) Q)
    (hw : ∀ x ∈ xs, c x = true → ∀ Q : D → En → Prop, Q (f x) (e1.set j (.imm x)) → w (e1.set j (.imm x)) Q) (q : Q ((xs.filter c).map f) e1) : wLc wi (wgN j) t w [j] en Q := by
  refine hi _ ⟨free_one hj, fun v hv => by rw [List.mem_singleton] at hv; rw [hv]; exact hn, hl, ?_⟩
  show lcW _ _ _ _ _ _ (e1.set j .un) _
  refine lc_if hj ht hw ?_
  show Q ([] ++ (xs.filter c).map f) (bak [j] e1 (e1.set j .un))
  rw [bak_one]; exact q
theorem log_lt {t : Int} (h0 : 0 < t) (h : t < 2 ^ 64) : t.natAbs.log2 < 9000 := by
  have h3 : t.natAbs.log2 < 64 := (Nat.log2_lt (by omega)).mpr (by omega)
  omega
theorem div_ok {i t : Int} (h0 : 0 < t) (h : t < 2 ^ 64) : CDivW i t := ⟨h0, log_lt h0 h⟩
end Pd

set_option Elab.async false
set_option linter.all false
set_option maxRecDepth 100000
set_option maxHeartbeats 4000000
namespace Pd
open PySem PySem.Spec PyProof.Rows L2
section
variable {K : PySem.W.Frag} {X : Cx} {e o : Expr} {w : WE}
/-! ### repr of a bool -/
def rReprB : List V → Hp → VK → Prop := fun xs H Q => ∃ b, xs = [.bl b] ∧ Q (.str (if b then "True" else "False")) H
theorem call_repr_bl : CallR X (.builtin "repr") rReprB := by
  intro pins s σ H xs us Q I r h
  obtain ⟨b, rfl, q⟩ := h
  cases r with
  | cons r1 r2 =>
    cases r2
    cases r1
    exact PySem.P.repr_of_bool ⟨.str _, H, I.tok _, ⟨_, rfl⟩, q⟩
def dReprB : List D → D → Prop := fun xs z => ∃ b : Bool, xs = [.bool b] ∧ z = .str (if b then "True" else "False")
theorem snd_reprB : SndCl K rReprB dReprB := by
  rintro H I xs ds z iH hx ⟨b, rfl, rfl⟩ Q k
  cases hx with
  | cons h t => cases t; cases h; exact ⟨b, rfl, k _ H I (Gr.rf iH) (.str _)⟩
theorem i_reprB {b : Bool} {z : D} : dReprB [.bool b] z ↔ z = .str (if b then "True" else "False") := ⟨fun ⟨_, e, h⟩ => by cases e; exact h, fun h => ⟨_, rfl, h⟩⟩
theorem i_neRB {a b : Bool} {z : D} : dNe (.str (if a then "True" else "False")) (.str (if b then "True" else "False")) z ↔ z = .bool (!(a == b)) := by
  cases a <;> cases b <;> exact ⟨fun h => h.2.2.trans (by rfl), fun h => ⟨by decide +kernel, by decide +kernel, h.trans (by rfl)⟩⟩
/-! ### xs.pop(i), xs one's own -/
def wPopO (i : Nat) (w : WE) : WE := fun en Q => (∃ ds, en[i]? = some (.own ds)) ∧ w en fun d e1 => ∃ ds j x, e1[i]? = some (.own ds) ∧ d = .int (j : Nat) ∧ j < 2 ^ 62 ∧ ds[j]? = some x ∧ Q x (e1.set i (.own (ds.eraseIdx j)))
theorem d_popO {i : Nat} {p1 p2 : Pos} (pe : PE X (.Call (.Attribute o "pop" p1) [e] [] p2) (tBM X.K "list" rPopAt (tVar i) (tCons (lE X.K ζ w) tNil))) : PE X (.Call (.Attribute o "pop" p1) [e] [] p2) (lE X.K ζ (wPopO i w)) :=
  pe.mo fun σ H Q ⟨G, en, I, Q', ok, ⟨⟨ds0, h0⟩, q⟩, k⟩ => by
    obtain ⟨l, vs0, r1, r2, r3, r4⟩ := ok.own h0
    refine ⟨.ref l, r1, Or.inl ⟨rfl, vs0, SqL.of r3⟩, G, en, I, _, ok, q, fun v H1 I1 e1 d o1 x1 dv ⟨ds, j, x, hd, hj, hz, hx, q1⟩ => ?_⟩
    subst hj
    obtain ⟨l', vs, s1, s2, s3, s4⟩ := o1.own hd
    rw [r1] at s1
    have q5 : l = l' := by injection s1 with s1; injection s1 with s1; injection s1
    subst q5
    obtain ⟨y, hy, dy⟩ := dpa_get s4 hx
    have hlt : j < vs.length := (List.getElem?_eq_some_iff.mp hy).1
    refine ⟨l, vs, j, j, y, rfl, by rw [dp_int dv], s3, by omega, by omega, ?_, hy, ?_⟩
    · unfold seqIndex?
      have h0 : ¬ ((j : Nat) : Int) < 0 := by omega
      simp only [h0, if_false]
      simp [hlt]
    · refine k y _ I1 _ x (o1.turn (H' := upd H1 l (.lst (vs.eraseIdx j))) (vs := vs.eraseIdx j) ⟨r1, ds, hd⟩ (fun a u ha h => by rw [upd_ne ha]; exact h) (Ex.rf I1) (fun a u h => ?_) (fun a h1 h2 => absurd h2 h1) upd_same (dpa_erase j s4)) x1 dy q1
      have : a ≠ l := fun ea => by subst ea; rw [s2] at h; cases h
      rw [upd_ne this]; exact o1.iH a u h
end
end Pd

set_option Elab.async false
set_option linter.all false
set_option maxRecDepth 100000
set_option maxHeartbeats 4000000
namespace Pd
open PySem PySem.Spec PyProof.Rows L2
/-! ### a head's facts, with the module's names of built-in functions -/
abbrev AlB : Type := He.AlD × Bool
def isBf (K : PySem.W.Frag) (b : Str × String) : Bool :=
  He.eqO (PySem.W.nsIn K mainGlobals b.1) (some (some (.builtin b.2)))
def obB (fa : List He.Fa) (fn : List He.DefD) (bs : List (Str × String)) (K : PySem.W.Frag) : AlB := ⟨He.obsD fa fn K, bs.all (isBf K)⟩
def obBG (n : Nat) (fa : List He.Fa) (fn : List He.DefD) (bs : List (Str × String)) (g : Addr → Option Obj) : AlB :=
  obB fa fn bs (He.frG g (He.asD g n))
def SaysB (fa : List He.Fa) (fn : List He.DefD) (bs : List (Str × String)) (K : PySem.W.Frag) : Prop := obB fa fn bs K = ⟨He.valD fn, true⟩
def hkB (n : Nat) (fa : List He.Fa) (fn : List He.DefD) (bs : List (Str × String)) : PySem.W.Hook where
  α := AlB
  val _ := ⟨He.valD fn, true⟩
  obs s := obBG n fa fn bs s.heap.get?
  says _ h := ∃ K, PySem.W.Frag.In K h ∧ SaysB fa fn bs K
  of _ _ e := ⟨_, He.frG_in, e⟩
  keeps _ _ _ := fun ⟨K, i, c⟩ k => ⟨K, PySem.W.Frag.In.keeps i k, c⟩
theorem obB_eq {n : Nat} {fa : List He.Fa} {fn : List He.DefD} {bs : List (Str × String)} {g : Addr → Option Obj} {s : Shared} (h : ∀ a, g a = s.heap.get? a) : obBG n fa fn bs g = (hkB n fa fn bs).obs s := by
  rw [show g = s.heap.get? from funext h]
  rfl
section
variable {fa : List He.Fa} {fn : List He.DefD} {bs : List (Str × String)} {K : PySem.W.Frag} {h : Heap} {mg : Str → Option Value}
theorem SaysB.d (c : SaysB fa fn bs K) : He.SaysD fa fn K := congrArg Prod.fst c
theorem SaysB.bf (c : SaysB fa fn bs K) (X : K.In h) (G : h.Ns mainGlobals mg) (i : Nat) {b : Str × String} (e : bs[i]? = some b := by rfl) : mg b.1 = some (.builtin b.2) := by
  have q : bs.all (isBf K) = true := congrArg Prod.snd c
  exact PySem.W.mg_of X G (He.eqO_ok (List.all_eq_true.mp q b (List.mem_of_getElem? e)))
end
/-! ### // by any divisor but 0 -/
def CDivG (_ j : Int) : Prop := j ≠ 0 ∧ j.natAbs.log2 < 9000
theorem op_fdivG {X : Cx} : OpR X (binaryOp .FloorDiv) (rI CDivG fun i j => .int (i.fdiv j)) := opI fun i j _ _ _ _ _ hc q =>
  floordiv_int hc.1 q (.inl (PyProof.noPylong_of_log2 hc.2))
def dFdivG : D → D → D → Prop := dInt CDivG fun i j => .int (i.fdiv j)
theorem snd_fdivG {K : PySem.W.Frag} : SndOp K (rI CDivG fun i j => .int (i.fdiv j)) dFdivG := snd_int
theorem i_fdivG {i j : Int} {z : D} : dFdivG (.int i) (.int j) z ↔ CDivG i j ∧ z = .int (i.fdiv j) := ⟨fun ⟨_, _, rfl, rfl, c, h⟩ => ⟨c, h⟩, fun ⟨c, h⟩ => ⟨_, _, rfl, rfl, c, h⟩⟩
theorem divG {i t : Int} (h0 : 0 < t) (h : t.natAbs.log2 < 9000) : CDivG i t := ⟨by omega, h⟩
/-! ### a, b, c = a list -/
def wgLs (n : Nat) (r : WGs) : WG := fun d en Q => ∃ ds, d = .list ds ∧ ds.length = n ∧ r ds en Q
theorem g_unl {X : Cx} {es : List Expr} {pos : Pos} {is : List Nat} {k n : Nat} {r : WGs} (hc : X.calm = true) (h : PGs X es (lGs X.K ζ is r)) (pg : PG X (.Tuple es k pos) (gUnl X.K n (lGs X.K ζ is r))) : PG X (.Tuple es k pos) (lG X.K ζ is (wgLs n r)) :=
  pg.mo fun v σ H Q ⟨G, en, I, d, Q', o, dv, ⟨ds, hd, hn, q⟩, kk⟩ => by
    subst hd
    cases dv with
    | lst hs ha => exact ⟨_, _, rfl, SqL.of (o.iH _ _ hs), by rw [dpa_len ha]; exact hn, G, en, I, ds, Q', o, ha, q, kk⟩
end Pd

set_option Elab.async false
set_option linter.all false
set_option maxRecDepth 100000
set_option maxHeartbeats 4000000
namespace Pd
open PySem PySem.Spec PyProof.Rows L2
/-! ### fractions -/
def BB : Nat := 2 ^ 4000
theorem bb_pos : 0 < BB := by unfold BB; exact Nat.pow_pos (by decide)
theorem bb_sq : BB * BB ≤ 2 ^ 9000 := by decide +kernel
theorem bb_le : BB ≤ BB * BB := Nat.le_mul_of_pos_left _ bb_pos
theorem log_bb {n : Nat} (h : n < BB * BB) : n.log2 < 9000 := by
  by_cases h0 : n = 0
  · rw [h0]; decide
  · exact (Nat.log2_lt h0).mpr (Nat.lt_of_lt_of_le h bb_sq)
theorem mul_bb {i j : Int} (h : i.natAbs < BB) (h2 : j.natAbs < BB) : MulOk i j := by
  have h3 := log_bb (Nat.lt_of_lt_of_le h bb_le)
  have h4 := log_bb (Nat.lt_of_lt_of_le h2 bb_le)
  refine Or.inr ?_
  show _ < 1000000
  omega
/-- a fraction, as the program has it -/
def fr (q : Rat) : D := .tuple [.int q.num, .int q.den]
/-- its parts are below b -/
def Sm (b : Nat) (q : Rat) : Prop := q.num.natAbs < b ∧ q.den < b
theorem gcd_pos {t b : Int} (hb : b ≠ 0) : 0 < Int.gcd t b := Int.gcd_pos_of_ne_zero_right t hb
theorem gcd_le {t b : Int} (hb : b ≠ 0) : Int.gcd t b ≤ b.natAbs := Nat.le_of_dvd (by omega) (Nat.gcd_dvd_right _ _)
theorem low_den {t b : Int} (hb : b ≠ 0) : ((Rat.divInt t b).den : Int) = (b.natAbs : Int) / (Int.gcd t b : Int) := by
  rw [Rat.den_divInt, if_neg hb, Int.gcd_comm]; rfl
theorem low_num {t b : Int} (hb : b ≠ 0) : (Rat.divInt t b).num = b.sign * t / (Int.gcd t b : Int) := by
  rw [Rat.num_divInt, Int.gcd_comm]
theorem low_pos {t b : Int} (hb : 0 < b) : .tuple [.int (t / (Int.gcd t b : Int)), .int (b / (Int.gcd t b : Int))] = fr (Rat.divInt t b) := by
  unfold fr
  rw [low_den (by omega), low_num (by omega), Int.sign_eq_one_of_pos hb, Int.one_mul, Int.natAbs_of_nonneg (by omega)]
theorem low_neg {t b : Int} (hb : b < 0) : .tuple [.int ((-t) / (Int.gcd t b : Int)), .int ((-b) / (Int.gcd t b : Int))] = fr (Rat.divInt t b) := by
  unfold fr
  rw [low_den (by omega), low_num (by omega), Int.sign_eq_neg_one_of_neg hb, Int.neg_mul, Int.one_mul, Int.ofNat_natAbs_of_nonpos (by omega)]
theorem fdiv_pos {a b : Int} (h : 0 < b) : a.fdiv b = a / b := Int.fdiv_eq_ediv_of_nonneg a (by omega)
theorem fdiv_neg' {a b : Int} (h : 0 < b) (hd : b ∣ a) : a.fdiv (-b) = (-a) / b := by
  rw [Int.fdiv_neg (by omega), if_pos hd, fdiv_pos h, Int.neg_ediv_of_dvd hd]
theorem gcd_dvd_l {t b : Int} : (Int.gcd t b : Int) ∣ t := Int.gcd_dvd_left t b
theorem gcd_dvd_r {t b : Int} : (Int.gcd t b : Int) ∣ b := Int.gcd_dvd_right t b
theorem fr_add (p q : Rat) : Rat.divInt (p.num * q.den + q.num * p.den) (p.den * q.den) = p + q := by
  have hp : (p.den : Int) ≠ 0 := by have := p.den_pos; omega
  have hq : (q.den : Int) ≠ 0 := by have := q.den_pos; omega
  conv => rhs; rw [← Rat.num_divInt_den p, ← Rat.num_divInt_den q]
  rw [Rat.divInt_add_divInt _ _ hp hq]
theorem fr_mul (p q : Rat) : Rat.divInt (p.num * q.num) (p.den * q.den) = p * q := by
  conv => rhs; rw [← Rat.num_divInt_den p, ← Rat.num_divInt_den q]
  rw [Rat.divInt_mul_divInt]
theorem num_le {t b : Int} : (Rat.divInt t b).num.natAbs ≤ t.natAbs := by
  by_cases hb : b = 0
  · subst hb; rw [Rat.divInt_zero]; exact Nat.zero_le _
  · rw [low_num hb]
    have h1 : (b.sign * t / (Int.gcd t b : Int)).natAbs ≤ (b.sign * t).natAbs := by
      rw [Int.natAbs_ediv_of_dvd (Int.dvd_mul_of_dvd_right gcd_dvd_l)]
      exact Nat.div_le_self _ _
    rw [Int.natAbs_mul] at h1
    have h2 : b.sign.natAbs = 1 := Int.natAbs_sign_of_ne_zero hb
    rw [h2, Nat.one_mul] at h1
    exact h1
theorem den_le {t b : Int} (hb : b ≠ 0) : (Rat.divInt t b).den ≤ b.natAbs := by
  rw [Rat.den_divInt, if_neg hb]
  exact Nat.div_le_self _ _
theorem add_num_le (p q : Rat) : (p + q).num.natAbs ≤ p.num.natAbs * q.den + q.num.natAbs * p.den := by
  rw [← fr_add]
  refine Nat.le_trans num_le (Nat.le_trans (Int.natAbs_add_le _ _) ?_)
  rw [Int.natAbs_mul, Int.natAbs_mul]
  exact Nat.le_refl _
theorem add_den_le (p q : Rat) : (p + q).den ≤ p.den * q.den := by
  rw [← fr_add]
  have hp := p.den_pos
  have hq := q.den_pos
  have h := Nat.mul_pos hp hq
  refine Nat.le_trans (den_le (by rw [← Int.natCast_mul]; omega)) ?_
  rw [Int.natAbs_mul]
  exact Nat.le_refl _
theorem mul_num_le (p q : Rat) : (p * q).num.natAbs ≤ p.num.natAbs * q.num.natAbs := by
  rw [← fr_mul]
  refine Nat.le_trans num_le ?_
  rw [Int.natAbs_mul]
  exact Nat.le_refl _
theorem mul_den_le (p q : Rat) : (p * q).den ≤ p.den * q.den := by
  rw [← fr_mul]
  have hp := p.den_pos
  have hq := q.den_pos
  have h := Nat.mul_pos hp hq
  refine Nat.le_trans (den_le (by rw [← Int.natCast_mul]; omega)) ?_
  rw [Int.natAbs_mul]
  exact Nat.le_refl _
/-- parts of at most n -/
def Le (n : Nat) (q : Rat) : Prop := q.num.natAbs ≤ n ∧ q.den ≤ n
theorem le_add {p q : Rat} {a b : Nat} (hp : Le a p) (hq : Le b q) : Le (2 * (a * b)) (p + q) := by
  refine ⟨Nat.le_trans (add_num_le p q) ?_, Nat.le_trans (add_den_le p q) ?_⟩
  · have h1 := Nat.mul_le_mul hp.1 hq.2
    have h2 := Nat.mul_le_mul hq.1 hp.2
    rw [Nat.mul_comm b a] at h2
    omega
  · have h1 := Nat.mul_le_mul hp.2 hq.2
    omega
theorem le_mul {p q : Rat} {a b : Nat} (hp : Le a p) (hq : Le b q) : Le (a * b) (p * q) :=
  ⟨Nat.le_trans (mul_num_le p q) (Nat.mul_le_mul hp.1 hq.1), Nat.le_trans (mul_den_le p q) (Nat.mul_le_mul hp.2 hq.2)⟩
theorem le_neg {q : Rat} {b : Nat} (hq : Le b q) : Le b (-q) := ⟨by rw [Rat.neg_num, Int.natAbs_neg]; exact hq.1, by rw [Rat.neg_den]; exact hq.2⟩
theorem Le.sm {q : Rat} {n b : Nat} (h : Le n q) (hn : n < b) : Sm b q := ⟨Nat.lt_of_le_of_lt h.1 hn, Nat.lt_of_le_of_lt h.2 hn⟩
theorem Sm.up {q : Rat} {n b : Nat} (h : Sm n q) (hn : n ≤ b) : Sm b q := ⟨Nat.lt_of_lt_of_le h.1 hn, Nat.lt_of_lt_of_le h.2 hn⟩
theorem fr_inj {p q : Rat} (h : p.num = q.num) (h2 : (p.den : Int) = q.den) : p = q := Rat.ext h (by omega)
theorem fr_tup (q : Rat) : fr q = .tuple ([q.num, (q.den : Int)].map .int) := rfl
theorem i_neF {p q : Rat} {z : D} : dNe (fr p) (fr q) z ↔ z = .bool (decide (p ≠ q)) := by
  rw [fr_tup, fr_tup, i_neT]
  have e : ([p.num, (p.den : Int)] ≠ [q.num, (q.den : Int)]) = (p ≠ q) := propext ⟨fun h e => h (by rw [e]), fun h e => by
    simp only [List.cons.injEq, and_true] at e
    exact h (fr_inj e.1 e.2)⟩
  simp only [e]
theorem i_eqF {p q : Rat} {z : D} : dEq (fr p) (fr q) z ↔ z = .bool (decide (p = q)) := by
  rw [fr_tup, fr_tup, i_eqT]
  have e : ([p.num, (p.den : Int)] = [q.num, (q.den : Int)]) = (p = q) := propext ⟨fun e => by
    simp only [List.cons.injEq, and_true] at e
    exact fr_inj e.1 e.2, fun e => by rw [e]⟩
  simp only [e]
/-! ### any data beside itself -/
mutual
def plainD : D → Bool
  | .none | .bool _ | .int _ => true
  | .str _ => true
  | .list xs => plainA xs
  | .tuple xs => plainA xs
  | .dict _ => false
def plainA : List D → Bool
  | [] => true
  | x :: xs => plainD x && plainA xs
end
mutual
theorem eqv_rfl : ∀ d : D, plainD d = true → PyData.eqv d d = true
  | .none, _ => rfl
  | .bool b, _ => by show (b == b) = true; exact beq_self_eq_true b
  | .int i, _ => by show (i == i) = true; exact beq_self_eq_true i
  | .str x, _ => by show (x == x) = true; exact beq_self_eq_true x
  | .list xs, h => eqvA_rfl xs h
  | .tuple xs, h => eqvA_rfl xs h
  | .dict _, h => by cases h
theorem eqvA_rfl : ∀ ds : List D, plainA ds = true → PyData.eqvAll ds ds = true
  | [], _ => rfl
  | d :: ds, h => by
    have h' : (plainD d && plainA ds) = true := h
    rw [Bool.and_eq_true] at h'
    show (PyData.eqv d d && PyData.eqvAll ds ds) = true
    rw [eqv_rfl d h'.1, eqvA_rfl ds h'.2]; rfl
end
theorem ne_self {d : D} (h : plainD d = true) (s : SeqAt.shaped d = true) {z : D} : dNe d d z ↔ z = .bool false := by
  unfold dNe
  rw [eqv_rfl d h]
  exact ⟨fun q => q.2.2, fun q => ⟨s, s, q⟩⟩
theorem eq_self' {d : D} (h : plainD d = true) (s : SeqAt.shaped d = true) {z : D} : dEq d d z ↔ z = .bool true := by
  unfold dEq
  rw [eqv_rfl d h]
  exact ⟨fun q => q.2.2, fun q => ⟨s, s, q⟩⟩
/-! ### small steps -/
theorem wSeq_eq {t u : WS} {R : Ed} {en : En} : wSeq t u R en = t { R with nx := u R } en := rfl
theorem wLc_eq {wi : WA} {g : WG} {t : WT} {w : WE} {vs : List Nat} {en : En} {Q : List D → En → Prop} : wLc wi g t w vs en Q = wi en fun xs e1 => FreeS e1 vs ∧ (∀ v ∈ vs, NotOwn e1[v]?) ∧ xs.length ≤ sizeLine ∧ lcW g t w vs xs [] (wip vs e1) fun ys e2 => Q ys (bak vs e1 e2) := rfl
theorem no1 {en : En} {a : Nat} (h : NotOwn en[a]?) : ∀ v ∈ [a], NotOwn en[v]? := fun v hv => by
  rw [List.mem_singleton] at hv; rw [hv]; exact h
theorem no2 {en : En} {a b : Nat} (h : NotOwn en[a]?) (h2 : NotOwn en[b]?) : ∀ v ∈ [a, b], NotOwn en[v]? := fun v hv => by
  rcases List.mem_cons.mp hv with rfl | hv
  · exact h
  · exact no1 h2 v hv
theorem bak_self {vs : List Nat} {en : En} : bak vs en en = en := by
  refine List.ext_getElem? fun i => ?_
  unfold bak
  rw [List.getElem?_map]
  by_cases hi : i < en.length
  · rw [List.getElem?_eq_getElem (by rw [List.length_range]; exact hi), List.getElem_range, List.getElem?_eq_getElem hi]
    show some (if i ∈ vs then en.getD i .un else en.getD i .un) = _
    rw [ite_self, List.getD_eq_getElem?_getD, List.getElem?_eq_getElem hi]; rfl
  · rw [List.getElem?_eq_none (by rw [List.length_range]; omega), List.getElem?_eq_none (by omega)]; rfl
theorem free_of {en : En} {vs : List Nat} (h : ∀ v ∈ vs, v ≠ 0) : FreeS en vs := fun v hv => Or.inl (h v hv)
theorem bak_of {vs : List Nat} {en e : En} (h : ∀ v ∈ vs, en.getD v .un = e.getD v .un) : bak vs en e = e := by
  refine List.ext_getElem? fun i => ?_
  unfold bak
  rw [List.getElem?_map]
  by_cases hi : i < e.length
  · rw [List.getElem?_eq_getElem (by rw [List.length_range]; exact hi), List.getElem_range, List.getElem?_eq_getElem hi]
    show some (if i ∈ vs then en.getD i .un else e.getD i .un) = _
    have e1 : (if i ∈ vs then en.getD i .un else e.getD i .un) = e.getD i .un := by
      by_cases hm : i ∈ vs
      · rw [if_pos hm, h i hm]
      · rw [if_neg hm]
    rw [e1, List.getD_eq_getElem?_getD, List.getElem?_eq_getElem hi]; rfl
  · rw [List.getElem?_eq_none (by rw [List.length_range]; omega), List.getElem?_eq_none (by omega)]; rfl
theorem bak1 {j : Nat} {en e : En} (h : en.getD j .un = e.getD j .un) : bak [j] en e = e := bak_of fun v hv => by rw [List.mem_singleton] at hv; subst hv; exact h
/-! ### small sizes -/
theorem sz0 : (0 ≤ sizeLine) = True := eq_true (by decide)
theorem sz1 : (1 ≤ sizeLine) = True := eq_true (by decide)
theorem sz2 : (2 ≤ sizeLine) = True := eq_true (by decide)
theorem sz3 : (3 ≤ sizeLine) = True := eq_true (by decide)
theorem sz4 : (4 ≤ sizeLine) = True := eq_true (by decide)
theorem sz5 : (5 ≤ sizeLine) = True := eq_true (by decide)
theorem sz6 : (6 ≤ sizeLine) = True := eq_true (by decide)
theorem sz7 : (7 ≤ sizeLine) = True := eq_true (by decide)
theorem sz8 : (8 ≤ sizeLine) = True := eq_true (by decide)
theorem sz9 : (9 ≤ sizeLine) = True := eq_true (by decide)
theorem sz10 : (10 ≤ sizeLine) = True := eq_true (by decide)
theorem sz11 : (11 ≤ sizeLine) = True := eq_true (by decide)
theorem sz12 : (12 ≤ sizeLine) = True := eq_true (by decide)
theorem sz13 : (13 ≤ sizeLine) = True := eq_true (by decide)
theorem sz14 : (14 ≤ sizeLine) = True := eq_true (by decide)
theorem sz15 : (15 ≤ sizeLine) = True := eq_true (by decide)
theorem sz16 : (16 ≤ sizeLine) = True := eq_true (by decide)
theorem sz17 : (17 ≤ sizeLine) = True := eq_true (by decide)
theorem sz18 : (18 ≤ sizeLine) = True := eq_true (by decide)
theorem sz19 : (19 ≤ sizeLine) = True := eq_true (by decide)
theorem sz20 : (20 ≤ sizeLine) = True := eq_true (by decide)
theorem sz21 : (21 ≤ sizeLine) = True := eq_true (by decide)
theorem sz22 : (22 ≤ sizeLine) = True := eq_true (by decide)
theorem sz23 : (23 ≤ sizeLine) = True := eq_true (by decide)
theorem sz24 : (24 ≤ sizeLine) = True := eq_true (by decide)
theorem sz25 : (25 ≤ sizeLine) = True := eq_true (by decide)
theorem sz26 : (26 ≤ sizeLine) = True := eq_true (by decide)
theorem sz27 : (27 ≤ sizeLine) = True := eq_true (by decide)
theorem sz28 : (28 ≤ sizeLine) = True := eq_true (by decide)
theorem sz29 : (29 ≤ sizeLine) = True := eq_true (by decide)
theorem sz30 : (30 ≤ sizeLine) = True := eq_true (by decide)
theorem sz31 : (31 ≤ sizeLine) = True := eq_true (by decide)
theorem sz32 : (32 ≤ sizeLine) = True := eq_true (by decide)
theorem sz33 : (33 ≤ sizeLine) = True := eq_true (by decide)
theorem sz34 : (34 ≤ sizeLine) = True := eq_true (by decide)
theorem sz35 : (35 ≤ sizeLine) = True := eq_true (by decide)
theorem sz36 : (36 ≤ sizeLine) = True := eq_true (by decide)
theorem sz37 : (37 ≤ sizeLine) = True := eq_true (by decide)
theorem sz38 : (38 ≤ sizeLine) = True := eq_true (by decide)
theorem sz39 : (39 ≤ sizeLine) = True := eq_true (by decide)
theorem sz40 : (40 ≤ sizeLine) = True := eq_true (by decide)
theorem i_addL {xs ys : List D} {z : D} : dAdd (.list xs) (.list ys) z ↔ xs.length + ys.length ≤ sizeLine ∧ z = .list (xs ++ ys) := Iff.rfl
theorem i_addT {xs ys : List D} {z : D} : dAdd (.tuple xs) (.tuple ys) z ↔ xs.length + ys.length ≤ sizeLine ∧ z = .tuple (xs ++ ys) := Iff.rfl
theorem join {c : Prop} [Decidable c] {A B : Prop} (f : c → B → A) (b : B) : if c then A else B := by
  by_cases h : c
  · rw [if_pos h]; exact f h b
  · rw [if_neg h]; exact b
end Pd

set_option Elab.async false
set_option linter.all false
set_option maxRecDepth 100000
set_option maxHeartbeats 4000000
namespace Pd
open PySem PySem.Spec PyProof.Rows L2
theorem lc_gen {α : Type} {g : WG} {t : WT} {w : WE} {vs : List Nat} {W : En} {X f : α → D} {E : α → En} {c : α → Bool} (hv : ∀ v ∈ vs, v ≠ 0) (hE : ∀ x, wip vs (E x) = W) : ∀ {xs : List α} {acc : List D} {Q : List D → En → Prop},
    (∀ x ∈ xs, ∀ Q : En → Prop, Q (E x) → g (X x) W Q) → (∀ x ∈ xs, ∀ Q : Bool → En → Prop, Q (c x) (E x) → t (E x) Q) → (∀ x ∈ xs, c x = true → ∀ Q : D → En → Prop, Q (f x) (E x) → w (E x) Q) →
    Q (acc ++ (xs.filter c).map f) W → lcW g t w vs (xs.map X) acc W Q
  | [], acc, Q, _, _, _, q => by
    have q' : Q (acc ++ []) W := q
    rw [List.append_nil] at q'; exact q'
  | x :: xs, acc, Q, hg, ht, hw, q => by
    rw [List.map_cons]
    show g (X x) W _
    refine hg x List.mem_cons_self _ (ht x List.mem_cons_self _ ⟨free_of hv, ?_⟩)
    have next : ∀ acc, Q (acc ++ (xs.filter c).map f) W → lcW g t w vs (xs.map X) acc (wip vs (E x)) Q := fun acc q => by
      rw [hE]
      exact lc_gen hv hE (fun y hy => hg y (List.mem_cons_of_mem _ hy)) (fun y hy => ht y (List.mem_cons_of_mem _ hy)) (fun y hy => hw y (List.mem_cons_of_mem _ hy)) q
    cases hc : c x with
    | true =>
      rw [if_pos rfl]
      refine hw x List.mem_cons_self hc _ ⟨free_of hv, next _ ?_⟩
      rw [List.append_assoc]
      rw [List.filter_cons_of_pos hc, List.map_cons] at q
      exact q
    | false =>
      rw [if_neg (by decide)]
      refine next _ ?_
      rw [List.filter_cons_of_neg (by rw [hc]; decide)] at q
      exact q
theorem wip_len : ∀ (vs : List Nat) (e : En), (wip vs e).length = e.length
  | [], _ => rfl
  | v :: vs, e => by
    show ((wip vs e).set v .un).length = _
    rw [List.length_set, wip_len vs e]
theorem wip_out {i : Nat} : ∀ {vs : List Nat} {e : En}, i ∉ vs → (wip vs e)[i]? = e[i]?
  | [], _, _ => rfl
  | v :: vs, e, hi => by
    show ((wip vs e).set v .un)[i]? = _
    rw [List.getElem?_set_ne (fun h => hi (by rw [h]; exact List.mem_cons_self))]
    exact wip_out fun h => hi (List.mem_cons_of_mem _ h)
theorem bak_wip {vs : List Nat} {e : En} : bak vs e (wip vs e) = e := by
  refine List.ext_getElem? fun i => ?_
  unfold bak
  rw [List.getElem?_map, wip_len]
  by_cases hi : i < e.length
  · rw [List.getElem?_eq_getElem (by rw [List.length_range]; exact hi), List.getElem_range, List.getElem?_eq_getElem hi]
    show some (if i ∈ vs then e.getD i .un else (wip vs e).getD i .un) = _
    by_cases hm : i ∈ vs
    · rw [if_pos hm, List.getD_eq_getElem?_getD, List.getElem?_eq_getElem hi]; rfl
    · rw [if_neg hm, List.getD_eq_getElem?_getD, wip_out hm, List.getElem?_eq_getElem hi]; rfl
  · rw [List.getElem?_eq_none (by rw [List.length_range]; omega), List.getElem?_eq_none (by omega)]; rfl
/-- a comprehension that changes nothing: E x the slots at the turn x -/
theorem lcG {α : Type} {wi : WA} {g : WG} {t : WT} {w : WE} {vs : List Nat} {en e1 : En} {X f : α → D} (E : α → En) (c : α → Bool) {xs : List α} {Q : List D → En → Prop} (hv : ∀ v ∈ vs, v ≠ 0) (hi : ∀ Q : List D → En → Prop, Q (xs.map X) e1 → wi en Q)
    (hn : ∀ v ∈ vs, NotOwn e1[v]?) (hl : xs.length ≤ sizeLine) (hE : ∀ x, wip vs (E x) = wip vs e1) (hg : ∀ x ∈ xs, ∀ Q : En → Prop, Q (E x) → g (X x) (wip vs e1) Q) (ht : ∀ x ∈ xs, ∀ Q : Bool → En → Prop, Q (c x) (E x) → t (E x) Q)
    (hw : ∀ x ∈ xs, c x = true → ∀ Q : D → En → Prop, Q (f x) (E x) → w (E x) Q) (q : Q ((xs.filter c).map f) e1) : wLc wi g t w vs en Q := by
  refine hi _ ⟨free_of hv, hn, by rw [List.length_map]; exact hl, ?_⟩
  refine lc_gen hv hE hg ht hw ?_
  show Q ([] ++ (xs.filter c).map f) (bak vs e1 (wip vs e1))
  rw [bak_wip]
  exact q
theorem filter_all {α : Type} : ∀ xs : List α, xs.filter (fun _ => true) = xs
  | [] => rfl
  | x :: xs => by rw [List.filter_cons_of_pos rfl, filter_all xs]
/-- .. without a test -/
theorem lcY {α : Type} {wi : WA} {g : WG} {w : WE} {vs : List Nat} {en e1 : En} {X f : α → D} (E : α → En) {xs : List α} {Q : List D → En → Prop} (hv : ∀ v ∈ vs, v ≠ 0) (hi : ∀ Q : List D → En → Prop, Q (xs.map X) e1 → wi en Q)
    (hn : ∀ v ∈ vs, NotOwn e1[v]?) (hl : xs.length ≤ sizeLine) (hE : ∀ x, wip vs (E x) = wip vs e1) (hg : ∀ x ∈ xs, ∀ Q : En → Prop, Q (E x) → g (X x) (wip vs e1) Q)
    (hw : ∀ x ∈ xs, ∀ Q : D → En → Prop, Q (f x) (E x) → w (E x) Q) (q : Q (xs.map f) e1) : wLc wi g wYes w vs en Q :=
  lcG E (fun _ => true) hv hi hn hl hE hg (fun _ _ _ q => q) (fun x hx _ => hw x hx) (by rw [filter_all]; exact q)
theorem no3 {en : En} {a b c : Nat} (h : NotOwn en[a]?) (h2 : NotOwn en[b]?) (h3 : NotOwn en[c]?) : ∀ v ∈ [a, b, c], NotOwn en[v]? := fun v hv => by
  rcases List.mem_cons.mp hv with rfl | hv
  · exact h
  · exact no2 h2 h3 v hv
end Pd

set_option Elab.async false
set_option linter.all false
set_option maxRecDepth 100000
set_option maxHeartbeats 4000000
namespace Pd
open PySem PySem.Spec PyProof.Rows L2
section
variable {K : PySem.W.Frag} {X : Cx} {e o : Expr} {w wb : WE}
/-! ### {} -/
def wDic : WE := fun en Q => Q (.dict []) en
theorem d_dic {pos : Pos} : PE X (.Dict [] [] pos) (lE X.K ζ wDic) := pe_dnewK.mo fun σ H Q ⟨G, en, I, Q', ok, q, k⟩ => fun p hp => by
  obtain ⟨o1, x1⟩ := ok.new (u := .dK []) hp
  exact k _ _ _ en _ o1 x1 (.dic upd_same) q
/-! ### is of two bools -/
def rIsB : R2 := fun x y H Q => ∃ a b, x = .bl a ∧ y = .bl b ∧ Q (.bl (a == b)) H
theorem op_isB : OpR X (compareOp .Is) rIsB := by
  intro pins s σ H x y v u Q I rx ry h
  obtain ⟨a, b, rfl, rfl, q⟩ := h
  cases rx; cases ry
  refine wpAny_is_plain rfl ?_
  refine ⟨.bl (a == b), H, I, ?_, q⟩
  show Value.bool (Value.bool a == Value.bool b) = Value.bool (a == b)
  cases a <;> cases b <;> rfl
def dIsB : D → D → D → Prop := fun x y z => ∃ a b, x = .bool a ∧ y = .bool b ∧ z = .bool (a == b)
theorem snd_isB : SndOp K rIsB dIsB := by
  rintro H I x y d e z iH hx hy ⟨a, b, rfl, rfl, rfl⟩ Q k
  cases hx; cases hy
  exact ⟨a, b, rfl, rfl, k _ H I (Gr.rf iH) (.bl _)⟩
theorem i_isB {a b : Bool} {z : D} : dIsB (.bool a) (.bool b) z ↔ z = .bool (a == b) := ⟨fun ⟨_, _, e1, e2, h⟩ => by cases e1; cases e2; exact h, fun h => ⟨_, _, rfl, rfl, h⟩⟩
/-! ### xs.index(e), xs a list of flat items -/
def dIndex (xs : List D) (y : D) (j : Nat) : Prop := xs.all flatD = true ∧ flatD y = true ∧ (∃ z, xs[j]? = some z ∧ PyData.eqv z y = true) ∧ ∀ m z, m < j → xs[m]? = some z → PyData.eqv z y = false
def wIndex (wa wb : WE) : WE := fun en Q => wa en fun x e1 => (∃ xs, x = .list xs) ∧ wb e1 fun y e2 => ∃ xs j, x = .list xs ∧ dIndex xs y j ∧ Q (.int (j : Nat)) e2
theorem d_index {wa : WE} {p1 p2 : Pos} (pe : PE X (.Call (.Attribute o "index" p1) [e] [] p2) (tBM X.K "list" (rIndex X.K) (lE X.K ζ wa) (tCons (lE X.K ζ wb) tNil))) : PE X (.Call (.Attribute o "index" p1) [e] [] p2) (lE X.K ζ (wIndex wa wb)) :=
  pe.mo fun σ H Q ⟨G, en, I, Q', ok, q, k⟩ => ⟨G, en, I, _, ok, q, fun v H1 I1 e1 d o1 x1 dv ⟨⟨xs, hx⟩, q1⟩ => by
    subst hx
    cases dv with
    | lst hs ha =>
      rename_i l vs
      refine ⟨Or.inl ⟨rfl, _, SqL.of (o1.iH _ _ hs)⟩, G, e1, I1, _, o1, q1, fun u H2 I2 e2 y o2 x2 du ⟨ys, j, hy, ⟨f1, f2, ⟨z, hz, hzy⟩, hno⟩, q2⟩ => ?_⟩
      cases hy
      have ha2 := ha.up x2
      obtain ⟨vz, hvz, dz⟩ := dpa_get ha2 hz
      have fz : flatD z = true := List.all_eq_true.mp f1 z (List.mem_of_getElem? hz)
      refine ⟨l, vs, u, j, vz, rfl, rfl, SqL.of (o2.iH _ _ (x2 _ _ hs)), flat_da du f2, all_da ha2 f1, hvz, by rw [eqv_da dz du fz f2]; exact hzy, fun m z' hm hz' => ?_, k _ H2 I2 e2 _ o2 (x1.tr x2) (.int _) q2⟩
      obtain ⟨dm, hdm, hdz⟩ := dpa_get' ha2 hz'
      rw [eqv_da hdz du (List.all_eq_true.mp f1 dm (List.mem_of_getElem? hdm)) f2]
      exact hno m dm hm hdm⟩
/-! ### sorted(xs), xs a list of ints -/
def wSorted (w : WE) : WA := fun en Q => w en fun d e1 => ∃ ns : List Int, d = .list (ns.map .int) ∧ ∀ ns' : List Int, ns'.Perm ns → ns'.Pairwise (· ≤ ·) → Q (ns'.map .int) e1
theorem l_sorted {p pos : Pos} (hm : X.mg "sorted" = none) (ha : PE X e (lE X.K ζ w)) (hg : Gl X "sorted" := by rfl)
    (he : starEach (e :: []) X.env = (false, eval e X.env) :: starEach [] X.env := by rfl) (hpl : (backTo pos (starEach [] X.env)).any (·.1) = false := by rfl) :
    PE X (.Call (.Name "sorted" p) [e] [] pos) (lL X.K ζ (wSorted w)) :=
  (pe_callB cr_sortedI hg hm (by decide +kernel) (pa_cons ha pa_nil he) (by decide) (by decide) he hpl).mo fun σ H Q ⟨G, en, I, Q', ok, q, k⟩ => ⟨G, en, I, _, ok, q, fun v H1 I1 e1 d o1 x1 dv ⟨ns, hd, q1⟩ => by
    subst hd
    cases dv with
    | lst hs ha =>
      have ev := dpa_ints_inv ns ha
      subst ev
      exact ⟨_, ns, rfl, SqL.of (o1.iH _ _ hs), fun ns' p h1 h2 hp => k p _ H1 I1 e1 _ o1 x1 hp (dpa_ints ns') (q1 ns' h1 h2)⟩⟩
/-! ### xs + e, xs one's own: a new list -/
variable {o' : Expr} {pos : Pos}
def wCatO (i : Nat) (wb : WE) : WA := fun en Q => (∃ xs, en[i]? = some (.own xs)) ∧ wb en fun y e1 => ∃ xs ys, e1[i]? = some (.own xs) ∧ y = .list ys ∧ xs.length + ys.length ≤ sizeLine ∧ Q (xs ++ ys) e1
theorem l_catO {i : Nat} (ha : PE X o (tVar i)) (hb : PE X o' (lE X.K ζ wb)) : PE X (.BinOp o .Add o' pos) (lL X.K ζ (wCatO i wb)) :=
  (pe_op op_cat ha hb).mo fun σ H Q ⟨G, en, I, Q', ok, ⟨⟨xs0, h0⟩, q⟩, k⟩ => by
    obtain ⟨l, vs0, r1, _⟩ := ok.own h0
    refine ⟨.ref l, r1, G, en, I, _, ok, q, fun u H2 I2 e2 d2 o2 x2 du ⟨xs, ys, hx, hy, hl, q2⟩ => ?_⟩
    subst hy
    obtain ⟨l', vs, s1, s2, s3, s4⟩ := o2.own hx
    rw [r1] at s1
    have q5 : l = l' := by injection s1 with s1; injection s1 with s1; injection s1
    subst q5
    cases du with
    | lst hs ha => exact ⟨_, _, _, _, rfl, rfl, s3, o2.iH _ _ hs, by rw [dpa_len s4, dpa_len ha]; exact hl, fun p hp => k p _ H2 I2 e2 _ o2 x2 hp (dpa_app s4 ha) q2⟩
/-! ### xs.extend(e) -/
def wExt (i : Nat) (w : WE) : WS := fun R en => (∃ ds, en[i]? = some (.own ds)) ∧ w en fun d e1 => ∃ ds ys, e1[i]? = some (.own ds) ∧ d = .list ys ∧ ds.length + ys.length ≤ sizeLine ∧ R.nx (e1.set i (.own (ds ++ ys)))
theorem s_ext {i : Nat} {p1 p2 : Pos} (pe : PE X (.Call (.Attribute o "extend" p1) [e] [] p2) (tBM X.K "list" rExtend (tVar i) (tCons (lE X.K ζ w) tNil)))
    (hs : swapsWith (.Call (.Attribute o "extend" p1) [e] [] p2) none pos.line X.env = pure false := by rfl) : PS X (.Expr (.Call (.Attribute o "extend" p1) [e] [] p2) pos) (lS X.K ζ (wExt i w)) :=
  (ps_expr pe hs).mo fun R σ H ⟨G, en, I, R', ok, ⟨⟨ds0, h0⟩, q⟩, k⟩ => by
    obtain ⟨l, vs0, r1, r2, r3, r4⟩ := ok.own h0
    refine ⟨.ref l, r1, Or.inl ⟨rfl, vs0, SqL.of r3⟩, G, en, I, _, ok, q, fun v H1 I1 e1 d o1 x1 dv ⟨ds, ys, hd, hy, hz, q1⟩ => ?_⟩
    subst hy
    obtain ⟨l', vs, s1, s2, s3, s4⟩ := o1.own hd
    rw [r1] at s1
    have q5 : l = l' := by injection s1 with s1; injection s1 with s1; injection s1
    subst q5
    cases dv with
    | lst hs ha =>
      rename_i b us
      refine ⟨l, b, vs, us, rfl, rfl, s3, o1.iH _ _ hs, by rw [dpa_len s4, dpa_len ha]; exact hz, ?_⟩
      refine k.1 σ _ I1 _ (o1.turn (H' := upd H1 l (.lst (vs ++ us))) (vs := vs ++ us) ⟨r1, ds, hd⟩ (fun a u ha h => by rw [upd_ne ha]; exact h) (Ex.rf I1) (fun a u h => ?_) (fun a h1 h2 => absurd h2 h1) upd_same (dpa_app s4 ha)) q1
      have : a ≠ l := fun ea => by subst ea; rw [s2] at h; cases h
      rw [upd_ne this]; exact o1.iH a u h
end
/-! ### a def that calls itself: the promise that is never asked -/
section
variable {P : Program} {w : World} {K : PySem.W.Frag} {mg : Str → Option Value} {base : Heap} {x qual : Str} {params : Arguments} {body : List Stmt} {scope : Scope} {f : Addr} {fd : FuncData} {N ps : List Str}
theorem fn_no (F : FunD K x qual params body scope [] [] f fd) (S : FnScope N ps scope) (k : Nat) : FnOk P w K mg base CX0 (k + 1) f fd ps (spP K ps.length fun _ _ => False) :=
  fnP (ws := wNever) F S (fun cdv A outer s H E hr => ss_never) fun ds Q' _ h => h.elim
end
end Pd

set_option Elab.async false
set_option linter.all false
set_option maxRecDepth 100000
set_option maxHeartbeats 4000000
/-! sorted(xs), xs tuples of ints of any lengths, also () among them -/
namespace Pd
open PySem PySem.W PySem.Calls PyProof.Rows
section
variable {prog : Program} {w : World} {A : Around} {E : Value → Shared → Prop} {s : Shared}
/-- each of the values is a tuple of ints -/
def RowsIn (h : Heap) (vs : List Value) : Prop := ∀ u ∈ vs, ∃ ks, TS.TupInts h u ks
theorem RowsIn.keeps {h h' : Heap} {vs : List Value} (x : RowsIn h vs) (k : ∀ b o, h.get? b = some o → o.cls = .type "tuple" → h'.get? b = some o) : RowsIn h' vs := fun u hu => by
  obtain ⟨ks, t⟩ := x u hu; exact ⟨ks, t.keeps k⟩
/-- comparing item by item -/
theorem rowLex {b : Bool} {Q : Bool → Shared → Prop} : ∀ {xs ys : List Value} {ks ms : List Int} (i : Nat), IntsAre xs ks → IntsAre ys ms → Q (HT.lexLt ks ms) s → KatLex prog w A b (decide (xs.length < ys.length)) Q (xs.zip ys) i s
  | _, _, _, _, _, .nil, .nil, q => kat_nil q
  | _, _, _, _, _, .nil, .cons m u r, q => by
    refine kat_nil ?_
    rw [show decide (([] : List Value).length < (Value.int m u :: _).length) = true from decide_eq_true (by simp)]; exact q
  | _, _, _, _, _, .cons k t r, .nil, q => by
    refine kat_nil ?_
    rw [show decide ((Value.int k t :: _).length < ([] : List Value).length) = false from decide_eq_false (by simp)]; exact q
  | _, _, _, _, i, @IntsAre.cons k t xs ks r, @IntsAre.cons m u ys ms r', q => by
    rw [show decide ((Value.int k t :: xs).length < (Value.int m u :: ys).length) = decide (xs.length < ys.length) from decide_eq_decide.mpr (by simp)]
    refine kat_cons (wpAny_eqBool_int ?_)
    rw [HT.lexLt_cons] at q
    by_cases e : k = m
    · subst e
      rw [if_pos rfl] at q
      rw [beq_self_eq_true]
      exact kat_yes (rowLex (i + 1) r r' q)
    · rw [if_neg e] at q
      rw [show (k == m) = false from beq_eq_false_iff_ne.mpr e]
      exact kat_no (TS.oneLt_ints _ q)
/-- the first items that list.sort looks at -/
theorem rowFirsts {h : Heap} : ∀ {vs : List Value}, RowsIn h vs → ∃ fs : List (Option Value), fs.length = vs.length ∧ (∀ f ∈ fs, f = none ∨ ∃ k t, f = some (Value.int k t)) ∧
    ∀ (A : Around) (E : Value → Shared → Prop) (s : Shared) (Q : List (Option Value) → Shared → Prop), s.heap = h → Q fs s → wpAny (model prog w) A (vs.mapM firstOfTuple') Q E s
  | [], _ => ⟨[], rfl, fun f hf => (by cases hf), fun A E s Q _ q => by rw [List.mapM_nil]; exact wpAny_pure q⟩
  | v :: vs, x => by
    obtain ⟨fs, e1, e2, e3⟩ := rowFirsts fun u hu => x u (List.mem_cons_of_mem _ hu)
    obtain ⟨ks, a, xs, rfl, ⟨o, ho, hc, n, hd⟩, hi⟩ := x v List.mem_cons_self
    refine ⟨xs[0]? :: fs, by rw [List.length_cons, List.length_cons, e1], fun f hf => ?_, fun A E s Q hs q => ?_⟩
    · rcases List.mem_cons.mp hf with rfl | hf
      · cases z : xs[0]? with
        | none => exact Or.inl rfl
        | some y =>
          obtain ⟨k, t, e⟩ := hi.all y (by rw [Array.mem_toList_iff]; exact Array.mem_of_getElem? z)
          exact Or.inr ⟨k, t, by rw [e]⟩
      · exact e2 f hf
    · subst hs
      rw [List.mapM_cons]
      refine wpAny_bind ?_
      rw [kas_first_eq]
      refine wpAny_bind (Looks.here (show Looks _ s.heap (typeOf (.ref a)) o.cls from (Looks.ld ho).andThen .now) ?_)
      rw [hc, if_neg (by first | decide | simp)]
      refine wpAny_bind (listItems_at ho hd (wpAny_pure ?_))
      exact wpAny_bind (e3 A E s (fun bs s' => wpAny _ A (pure (xs[0]? :: bs)) Q E s') rfl (wpAny_pure q))
def KindOk (κ : SortKind) : Prop := κ = tuples' true ∨ κ = general' ∨ κ = oneType'
theorem rowKind {vs : List Value} (h2 : 2 ≤ vs.length) (x : RowsIn s.heap vs) : ∃ κ, KindOk κ ∧ ∀ (Q : SortKind → Shared → Prop) (E : Value → Shared → Prop), Q κ s → wpAny (model prog w) A (keyKind' vs.toArray) Q E s := by
  obtain ⟨fs, e1, e2, e3⟩ := rowFirsts (prog := prog) (w := w) x
  cases hall : fs.all (·.isSome) with
  | true =>
    refine ⟨tuples' true, Or.inl rfl, fun Q E q => ?_⟩
    rw [kat_kind_eq, List.mapM_toArray, map_eq_pure_bind]
    refine wpAny_bind (wpAny_bind (e3 A E s _ rfl (wpAny_pure ?_)))
    rw [if_pos (by rw [List.all_toArray]; exact hall)]
    refine wpAny_bind (wpAny_rule ?_)
    have ef : (fs.toArray.filterMap id) = (fs.filterMap id).toArray := by simp
    have hne : (fs.filterMap id).length = fs.length := by
      clear e1 e2 e3 ef
      induction fs with
      | nil => rfl
      | cons f fs ih =>
        rw [List.all_cons, Bool.and_eq_true] at hall
        cases f with
        | none => cases hall.1
        | some y => rw [List.filterMap_cons]; simp only [id]; rw [List.length_cons, List.length_cons, ih hall.2]
    have hin : ∀ y ∈ fs.filterMap id, ∃ k t, y = Value.int k t := fun y hy => by
      obtain ⟨f, hf, e⟩ := List.mem_filterMap.mp hy
      simp only [id] at e
      subst e
      rcases e2 _ hf with z | ⟨k, t, z⟩
      · cases z
      · exact ⟨k, t, by injection z⟩
    rw [ef, oneTypeOnly'_eq, List.mapM_toArray, map_eq_pure_bind]
    obtain ⟨y0, yr, ey⟩ : ∃ y0 yr, fs.filterMap id = y0 :: yr := by
      cases z : fs.filterMap id with
      | nil => rw [z] at hne; simp at hne; omega
      | cons a b => exact ⟨a, b, rfl⟩
    refine wpAny_bind (wpAny_bind (wpAny_bind (kas_mapM (r := Value.type "int") _ (fun v hv Q' hq => ?_) (wpAny_pure ?_))))
    · obtain ⟨k, t, rfl⟩ := hin v hv
      exact (Looks.of_pure rfl : Looks _ s.heap (typeOf (.int k t)) (.type "int")).here hq
    · rw [ey]
      have h0 : ((y0 :: yr).map fun _ => Value.type "int").toArray[0]? = some (Value.type "int") := by simp
      have ha : ((List.map (fun _ => Value.type "int") (y0 :: yr)).toArray.all fun x => x == Value.type "int") = true := by
        simp only [List.all_toArray, List.all_map, List.all_eq_true]; intro _ _; rfl
      rw [h0]
      simp only [ha, if_true]
      refine wpAny_pure (wpAny_pure ?_)
      have e : (some (Value.type "int")).any (fun x => x != Value.type "tuple") = true := by decide +kernel
      rw [e]; exact q
  | false =>
    have hn : ¬ ((fs.toArray.all fun x => x.isSome) = true) := by rw [List.all_toArray, hall]; exact Bool.false_ne_true
    cases hf : (fs.toArray[0]?.bind id).isSome with
    | true =>
      refine ⟨general', Or.inr (Or.inl rfl), fun Q E q => ?_⟩
      rw [kat_kind_eq, List.mapM_toArray, map_eq_pure_bind]
      refine wpAny_bind (wpAny_bind (e3 A E s _ rfl (wpAny_pure ?_)))
      rw [if_neg hn, if_pos hf]
      exact wpAny_pure q
    | false =>
      refine ⟨oneType', Or.inr (Or.inr rfl), fun Q E q => ?_⟩
      rw [kat_kind_eq, List.mapM_toArray, map_eq_pure_bind]
      refine wpAny_bind (wpAny_bind (e3 A E s _ rfl (wpAny_pure ?_)))
      rw [if_neg hn, if_neg (by rw [hf]; exact Bool.false_ne_true)]
      rw [oneTypeOnly'_eq, List.mapM_toArray, map_eq_pure_bind]
      refine wpAny_bind (wpAny_bind (wpAny_bind (kas_mapM (r := Value.type "tuple") _ (fun v hv Q' hq => ?_) (wpAny_pure ?_))))
      · obtain ⟨ks, a, xs, rfl, ⟨o, ho, hc, n, hd⟩, hi⟩ := x v hv
        refine Looks.here (show Looks _ s.heap (typeOf (.ref a)) (.type "tuple") from ?_) hq
        rw [← hc]; exact (Looks.ld ho).andThen .now
      · match vs, h2 with
        | v0 :: vr, _ =>
          have h0 : ((v0 :: vr).map fun _ => Value.type "tuple").toArray[0]? = some (Value.type "tuple") := by simp
          have ha : ((List.map (fun _ => Value.type "tuple") (v0 :: vr)).toArray.all fun x => x == Value.type "tuple") = true := by
            simp only [List.all_toArray, List.all_map, List.all_eq_true]; intro _ _; rfl
          rw [h0]
          simp only [ha, if_true]
          exact wpAny_pure (wpAny_pure q)
abbrev rowB (h : Heap) : Value → Value → Bool := fun v u => HT.lexLt (TS.intsOf h v) (TS.intsOf h u)
theorem rowCmp {vs : List Value} {κ : SortKind} (hk : KindOk κ) (hu : A.units < cLine) (x : RowsIn s.heap vs) : SrtO.Cmp prog w A s κ (fun p => p.1 ∈ vs) (SrtO.lt2 (rowB s.heap)) := by
  intro p q hp hq
  obtain ⟨ks, t1⟩ := x _ hp
  obtain ⟨ms, t2⟩ := x _ hq
  have e1 := t1.ints
  have e2 := t2.ints
  have fin : (fun (r : Bool) (s' : Shared) => s' = s ∧ r = SrtO.lt2 (rowB s.heap) p q) (HT.lexLt ks ms) s := ⟨rfl, by
    show HT.lexLt ks ms = HT.lexLt (TS.intsOf s.heap p.1) (TS.intsOf s.heap q.1)
    rw [e1, e2]⟩
  obtain ⟨a, xs, ea, ia, ra⟩ := t1
  obtain ⟨b, ys, eb, ib, rb⟩ := t2
  rw [ea, eb]
  rcases hk with rfl | rfl | rfl
  · obtain ⟨o, ho, hc, n, hd⟩ := ia
    obtain ⟨o', ho', hc', n', hd'⟩ := ib
    refine kat_lt ho hd ho' hd' ?_
    have := rowLex (prog := prog) (w := w) (A := A) (s := s) (b := true) (Q := fun (r : Bool) (s' : Shared) => s' = s ∧ r = SrtO.lt2 (rowB s.heap) p q) 0 ra rb fin
    rw [show xs.size = xs.toList.length by simp, show ys.size = ys.toList.length by simp]
    exact this
  · exact kat_one _ _ (HT.lt_tupInts (Q := PySem.W.BoolBack _) ia ib ra rb hu fin)
  · rw [keyLt'_oneType, oneLt'_eq]
    simp only [if_true]
    refine wpAny_bind (wpAny_cRoomFor hu ?_)
    obtain ⟨⟨cls, dd, data, sl⟩, ho, hc, n, hd⟩ := ia
    obtain ⟨⟨cls2, dd2, data2, sl2⟩, ho2, hc2, n2, hd2⟩ := ib
    simp only at hc hd hc2 hd2
    subst hc hd hc2 hd2
    refine wpAny_bind (wpAny_callSpecialIfBound?_slot (T := "tuple") ⟨_, ho, rfl⟩ PySem.F.slot_tuple_lt (call_meets PySem.F.slot_tuple_lt ⟨_, ho, rfl⟩ PySem.F.entry_tuple_lt (PySem.F.args_tuple_lt_2 _ _) (HT.tuple_lt_ints a b xs ys n n2 dd dd2 sl sl2 ks ms ra rb) ⟨ho, ho2, ?_⟩))
    exact wpAny_truthy_bool fin
theorem rowSortable {a : Addr} {vs : List Value} {k : Value → List Int} (h2 : 2 ≤ vs.length) (hu : A.units < cLine) (x : ∀ v ∈ vs, TS.TupInts s.heap v (k v)) (ha : ∀ o, s.heap.get? a = some o → o.cls ≠ .type "tuple") : SrtO.SortableO prog w A s a vs fun v u => HT.lexLt (k v) (k u) := by
  intro h' keep
  have kt : ∀ b o, s.heap.get? b = some o → o.cls = .type "tuple" → h'.get? b = some o := fun b o e c => keep b o (fun z => by subst z; exact ha o e c) e
  have x' : ∀ v ∈ vs, TS.TupInts h' v (k v) := fun v hv => (x v hv).keeps kt
  have r' : RowsIn h' vs := fun v hv => ⟨_, x' v hv⟩
  obtain ⟨κ, hk, hkk⟩ := rowKind (prog := prog) (w := w) (A := A) (s := { s with heap := h' }) h2 r'
  refine ⟨κ, hkk, fun p q hp hq => ?_⟩
  refine wpAny_mono (rowCmp (prog := prog) (w := w) (s := { s with heap := h' }) hk hu r' p q hp hq) (fun r s' hr => ⟨hr.1, ?_⟩) fun _ _ z => z
  rw [hr.2]
  show HT.lexLt (TS.intsOf h' p.1) (TS.intsOf h' q.1) = HT.lexLt (k p.1) (k q.1)
  rw [(x' _ hp).ints, (x' _ hq).ints]
end
end Pd

set_option Elab.async false
set_option linter.all false
set_option maxRecDepth 100000
set_option maxHeartbeats 4000000
namespace Pd
open PySem PySem.Spec PyProof.Rows L2
/-! ### sorted(xs), xs a list of rows -/
theorem back_refs : ∀ {ks : List (Addr × List Int)} {L : List Value}, (∀ v ∈ L, ∃ q ∈ ks, v = Value.ref q.1) → ∃ ks' : List (Addr × List Int), L = ks'.map (fun q => Value.ref q.1) ∧ ∀ q ∈ ks', q ∈ ks
  | ks, [], _ => ⟨[], rfl, fun _ h => (by cases h)⟩
  | ks, v :: L, h => by
    obtain ⟨q, hq, e⟩ := h v List.mem_cons_self
    obtain ⟨ks', e1, h1⟩ := back_refs (L := L) fun u hu => h u (List.mem_cons_of_mem _ hu)
    refine ⟨q :: ks', by rw [List.map_cons, e, e1], fun r hr => ?_⟩
    rcases List.mem_cons.mp hr with z | z
    · rw [z]; exact hq
    · exact h1 r z
def rSortedR (K : PySem.W.Frag) : List V → Hp → VK → Prop := fun vs H Q => ∃ (a : Addr) (ks : List (Addr × List Int)), vs = [V.ref a] ∧ SqL K H a (ks.map fun q => V.ref q.1) ∧ (∀ q ∈ ks, SqT K H q.1 (q.2.map V.int)) ∧
  ∀ (ks' : List (Addr × List Int)) (p : Addr), (∀ q ∈ ks', q ∈ ks) → (ks'.map (·.2)).Perm (ks.map (·.2)) → (ks'.map (·.2)).Pairwise (fun a b => HT.lexLt b a = false) → H p = none → Q (.ref p) (upd H p (.lst (ks'.map fun q => V.ref q.1)))
section
variable {X : Cx}
theorem cr_sortedR (hu : X.A.units + 64 < cLine) : CallR X (.builtin "sorted") (rSortedR X.K) := by
  intro pins s σ H vs us Q I r h
  obtain ⟨a, ks, rfl, hs, hk, q⟩ := h
  obtain ⟨its, rv, hl, hz⟩ := I.list hs
  have ei := refs_of_vals rv
  rw [Vals.ref1 r]
  have tup : ∀ q ∈ ks, TS.TupInts s.heap (.ref q.1) q.2 := fun q hq => tupI_raw I (hk q hq)
  have tv : ∀ v ∈ its, TS.TupInts s.heap v (TS.intsOf s.heap v) := fun v hv => by
    rw [ei] at hv
    obtain ⟨q, hq, e⟩ := List.mem_map.mp hv
    have t := tup q hq
    rw [← e, t.ints]; exact t
  have hlen : its.length = ks.length := by rw [ei, List.length_map]
  refine SrtO.sorted_ord (ltv := fun v u => HT.lexLt (TS.intsOf s.heap v) (TS.intsOf s.heap u)) (NtL.swo_lexL _) hl.isList (by rw [hlen]; simpa using hz) (fun h2 h₁ a' ha' keep => ?_) fun out h1 h2 => ?_
  · refine rowSortable h2 (by show X.A.units + 2 < cLine; omega) (fun v hv => (tv v hv).keeps fun b o e c => (keep b o e).2) fun o e => ?_
    rw [ha'] at e
    cases e
    intro c
    exact absurd (Value.type.inj c) (by decide)
  · obtain ⟨ep, he'⟩ := PyProof.Rows.sortedAll_at s.heap its out.toArray
    obtain ⟨ks', eo, hsub⟩ := back_refs (ks := ks) (L := out) fun v hv => by
      have := h2.perm.mem_iff.mp hv
      rw [ei] at this
      obtain ⟨q, hq, e⟩ := List.mem_map.mp this
      exact ⟨q, hq, e.symm⟩
    have hi : ∀ L : List (Addr × List Int), (∀ q ∈ L, q ∈ ks) → (L.map fun q => Value.ref q.1).map (TS.intsOf s.heap) = L.map (·.2) := fun L hL => by
      rw [List.map_map]
      exact List.map_congr_left fun q hq => (tup q (hL q hq)).ints
    have pm : (ks'.map (·.2)).Perm (ks.map (·.2)) := by
      have p := (h2.perm.map (TS.intsOf s.heap))
      rw [eo, ei, hi ks' hsub, hi ks fun _ h => h] at p
      exact p
    have pw : (ks'.map (·.2)).Pairwise (fun a b => HT.lexLt b a = false) := by
      rw [← hi ks' hsub, ← eo]
      exact List.pairwise_map.mpr h1
    have hl2 : (ks'.map fun q => V.ref q.1).length ≤ sizeLine := by
      have := pm.length_eq
      simp only [List.length_map] at this hz ⊢
      rw [this]; exact hz
    exact ⟨.ref _, upd H (s.heap.objs.size + 1) (.lst (ks'.map fun q => V.ref q.1)), I.laid (t' := s.toks) (fun _ _ => PyProof.Rows.sortedAll_old) (Nat.le_succ _) ⟨hl2, out, ep, by rw [eo]; exact vals_of_refs ks', he'⟩, rfl, q ks' _ hsub pm pw (I.hok.fresh (Nat.le_succ _))⟩
end
/-! ### over data -/
def rowD (ns : List Int) : D := .tuple (ns.map .int)
section
variable {K : PySem.W.Frag}
/-- the rows of a list of data -/
theorem da_rows {I : Hp} : ∀ {rs : List (List Int)} {vs : List V}, DaAll K I vs (rs.map rowD) → ∃ ks : List (Addr × List Int), vs = ks.map (fun q => V.ref q.1) ∧ ks.map (·.2) = rs ∧ ∀ q ∈ ks, SqT K I q.1 (q.2.map V.int)
  | [], _, h => by cases h; exact ⟨[], rfl, rfl, fun _ h => (by cases h)⟩
  | r :: rs, _, h => by
    cases h with
    | cons h1 h2 =>
      obtain ⟨ks, e1, e2, e3⟩ := da_rows h2
      cases h1 with
      | tup hs ha =>
        rename_i a xs
        have ev := dpa_ints_inv r ha
        subst ev
        refine ⟨(a, r) :: ks, by rw [List.map_cons, e1], by rw [List.map_cons, e2], fun q hq => ?_⟩
        rcases List.mem_cons.mp hq with z | z
        · subst z; exact hs
        · exact e3 q z
theorem rows_da {I : Hp} {ks0 : List (Addr × List Int)} (hk : ∀ q ∈ ks0, SqT K I q.1 (q.2.map V.int)) : ∀ ks : List (Addr × List Int), (∀ q ∈ ks, q ∈ ks0) → DaAll K I (ks.map fun q => V.ref q.1) ((ks.map (·.2)).map rowD)
  | [], _ => .nil
  | q :: ks, h => .cons (.tup (hk q (h q List.mem_cons_self)) (dpa_ints q.2)) (rows_da hk ks fun r hr => h r (List.mem_cons_of_mem _ hr))
end
section
variable {X : Cx} {e : Expr} {w : WE}
/-- ascending, equal ones beside one another -/
def AscR (rs : List (List Int)) : Prop := rs.Pairwise fun a b => HT.lexLt b a = false
def wSortedR (w : WE) : WA := fun en Q => w en fun d e1 => ∃ rs : List (List Int), d = .list (rs.map rowD) ∧ ∀ rs' : List (List Int), rs'.Perm rs → AscR rs' → Q (rs'.map rowD) e1
theorem l_sortedR (hu : X.A.units + 64 < cLine) {p pos : Pos} (hm : X.mg "sorted" = none) (ha : PE X e (lE X.K ζ w)) (hg : Gl X "sorted" := by rfl)
    (he : starEach (e :: []) X.env = (false, eval e X.env) :: starEach [] X.env := by rfl) (hpl : (backTo pos (starEach [] X.env)).any (·.1) = false := by rfl) :
    PE X (.Call (.Name "sorted" p) [e] [] pos) (lL X.K ζ (wSortedR w)) :=
  (pe_callB (cr_sortedR hu) hg hm (by decide +kernel) (pa_cons ha pa_nil he) (by decide) (by decide) he hpl).mo fun σ H Q ⟨G, en, I, Q', ok, q, k⟩ => ⟨G, en, I, _, ok, q, fun v H1 I1 e1 d o1 x1 dv ⟨rs, hd, q1⟩ => by
    subst hd
    cases dv with
    | lst hs ha =>
      obtain ⟨ks, e1', e2', e3'⟩ := da_rows ha
      subst e1'
      refine ⟨_, ks, rfl, SqL.of (o1.iH _ _ hs), fun q hq => sqt_ex o1.iH (e3' q hq), fun ks' p hsub pm pw hp => ?_⟩
      rw [e2'] at pm
      exact k p _ H1 I1 e1 _ o1 x1 hp (rows_da e3' ks' hsub) (q1 _ pm pw)⟩
end
end Pd

set_option Elab.async false
set_option linter.all false
set_option maxRecDepth 100000
set_option maxHeartbeats 4000000
namespace Pd
open PySem PySem.Spec PyProof.Rows L2
/-! ### sorted(set(xs)), xs a list of rows -/
section
variable {P : Program} {w : World} {A : Around} {E : Value → Shared → Prop} {s : Shared}
theorem sortSetRows {a : Addr} {L : List (Addr × List Int)} {es : Array (Int × Value)} {ep : Nat} {t : SetTable} {Q : Value → Shared → Prop} (R : SetTR P w s.heap a L es ep t) (hh : A.handled = none) (hu : A.units + 64 < cLine)
    (fin : ∀ s' p (out : Array Value) (c : Nat) (L' : List (Addr × List Int)), (∀ b o, s.heap.get? b = some o → s'.heap.get? b = some o) → s'.gens = s.gens → s'.os = s.os → s.heap.objs.size ≤ p → s'.heap.get? p = some (seqObj "list" out c) →
      out.toList = L'.map (fun z => Value.ref z.1) → (∀ z ∈ L', z ∈ L) → (L'.map (·.2)).Perm (L.map (·.2)) → (L'.map (·.2)).Pairwise (fun x y => HT.lexLt y x = false) → Q (.ref p) s') :
    wpAny (model P w) A (call (.builtin "sorted") [.ref a]) Q E s := by
  obtain ⟨o, ho, hex, hd⟩ := R.ob
  have hsz := R.size; have hfew := R.few
  refine Calls.call_function_entry kind_sorted plain_sorted entry_sorted (args_sorted1 _) ?_
  unfold Builtin.«sorted»; refine wpAny_bind (m := checkCount "sorted" 1 1 _) (wpAny_pure ?_)
  refine wpAny_bind (collect_set (A := A.in1) hh ⟨o, ho, hex.1, hd⟩ R.fits (by unfold scanBound; omega) R.tab.ris R.led fun s1 us k1 hz g1 o1 pm => ?_)
  have hes : es.toList.map (·.2) = L.map fun z => Value.ref z.1 := by rw [R.rows]; unfold rowsOf; rw [List.map_map] <;> rfl
  rw [hes] at pm
  have hvl : us.length < 64 := by rw [pm.length_eq, List.length_map]; exact hfew
  refine wpAny_bind (wpAny_newList ?_ (by rw [sizeLine_eq]; omega))
  have hoL : (s1.heap.push (seqObj "list" us.toArray 0)).get? s1.heap.objs.size = some (seqObj "list" us.toArray 0) := Heap.get?_push_size _ rfl
  have tk : ∀ z ∈ L, TS.TupInts (s1.heap.push (seqObj "list" us.toArray 0)) (.ref z.1) z.2 := fun z hq => tupInts_of (P := P) (w := w) (isT_keep (R.tup z hq) fun b u e => Heap.get?_push_of_some _ (k1 b u e))
  have from_ : ∀ v ∈ us, ∃ z ∈ L, v = Value.ref z.1 := fun v hv => by
    obtain ⟨z, hq, e⟩ := List.mem_map.mp (pm.mem_iff.mp hv); exact ⟨z, hq, e.symm⟩
  have tv : ∀ v ∈ us, TS.TupInts (s1.heap.push (seqObj "list" us.toArray 0)) v (TS.intsOf (s1.heap.push (seqObj "list" us.toArray 0)) v) := fun v hv => by
    obtain ⟨z, hq, e⟩ := from_ v hv
    have t := tk z hq; rw [e, t.ints]; exact t
  refine wpAny_bind (wpAny_holding (wpAny_call_entry PyProof.Rows.slot_list_sort ⟨_, hoL, rfl⟩ PyProof.Rows.entry_list_sort
    (SrtO.list_sort_ord (s := { s1 with heap := s1.heap.push (seqObj "list" us.toArray 0) }) (ltv := fun v u => HT.lexLt (TS.intsOf (s1.heap.push (seqObj "list" us.toArray 0)) v) (TS.intsOf (s1.heap.push (seqObj "list" us.toArray 0)) u)) (NtL.swo_lexL _) hoL (by rw [sizeLine_eq]; omega)
      (fun h2 => rowSortable h2 ?_ tv fun o e => ?_) fun out h1 h2 => ⟨.none, rfl, ?_⟩) (PyProof.Rows.args_list_sort _)))
  · show A.units + 2 < cLine; omega
  · have e' : some o = some (seqObj "list" us.toArray 0) := e.symm.trans hoL
    cases e'; intro c
    exact absurd (Value.type.inj c) (by decide)
  · obtain ⟨c, hc⟩ := sortedHeap_at (vs := us) (out := out.toArray) hoL
    obtain ⟨L', eo, hsub⟩ := back_refs (ks := L) (L := out) fun v hv => from_ v (h2.perm.mem_iff.mp hv)
    have hi : ∀ M : List (Addr × List Int), (∀ z ∈ M, z ∈ L) → (M.map fun z => Value.ref z.1).map (TS.intsOf (s1.heap.push (seqObj "list" us.toArray 0))) = M.map (·.2) := fun M hM => by
      rw [List.map_map]; exact List.map_congr_left fun z hq => (tk z (hM z hq)).ints
    have pL : (L'.map (·.2)).Perm (L.map (·.2)) := by
      have p := (h2.perm.trans pm).map (TS.intsOf (s1.heap.push (seqObj "list" us.toArray 0)))
      rw [eo, hi L' hsub, hi L fun _ h => h] at p; exact p
    have pw : (L'.map (·.2)).Pairwise (fun x y => HT.lexLt y x = false) := by rw [← hi L' hsub, ← eo]; exact List.pairwise_map.mpr h1
    refine wpAny_pure ⟨_, rfl, fin _ s1.heap.objs.size out.toArray c L' (fun b u e => ?_) g1 o1 hz hc eo hsub pL pw⟩
    have q := k1 b u e; have hlt := Heap.lt_size q
    show (sortedHeap (s1.heap.push (seqObj "list" us.toArray 0)) s1.heap.objs.size us out.toArray).get? b = some u
    rw [sortedHeap_old (Nat.ne_of_lt hlt) (by rw [size_push']; exact Nat.lt_succ_of_lt hlt)]; exact Heap.get?_push_of_some _ q
end
def rSortedSR (K : PySem.W.Frag) (P : Program) (w : World) : List V → Hp → VK → Prop := fun vs H Q => ∃ (a : Addr) (L : List (Addr × List Int)), vs = [V.ref a] ∧ H a = some (SetTO P w a L) ∧ (∀ z ∈ L, SqT K H z.1 (z.2.map V.int)) ∧
  ∀ (L' : List (Addr × List Int)) (p : Addr), (∀ z ∈ L', z ∈ L) → (L'.map (·.2)).Perm (L.map (·.2)) → (L'.map (·.2)).Nodup → (L'.map (·.2)).Pairwise (fun x y => HT.lexLt y x = false) → H p = none → Q (.ref p) (upd H p (.lst (L'.map fun z => V.ref z.1)))
section
variable {X : Cx}
theorem cr_sortedSR (hc : X.calm = true) (hu : X.A.units + 64 < cLine) : CallR X (.builtin "sorted") (rSortedSR X.K X.prog X.w) := by
  intro pins s σ H vs us Q I r h
  obtain ⟨a, L, rfl, ha, hk, q⟩ := h
  have R0 : SetT0 X.prog X.w s.heap a L := (I.hok a _ ha).1
  obtain ⟨es, ep, t, R⟩ := R0.full fun z hz => I.isT (hk z hz)
  rw [Vals.ref1 r]
  refine sortSetRows R (I.ok.hd hc) hu fun s' p out c L' k g o hp hg hout hsub pm pw => ?_
  have hlen : (L'.map fun z => V.ref z.1).length ≤ sizeLine := by
    have := pm.length_eq; have := R.few
    simp only [List.length_map] at *
    rw [sizeLine_eq]; omega
  have nd : (L'.map (·.2)).Nodup := pm.nodup_iff.mpr R.nd
  have hn : H p = none := I.hok.fresh hp
  have J : Inv X pins σ (upd H p (.lst (L'.map fun z => V.ref z.1))) { heap := s'.heap, gens := s'.gens, drawn := s'.drawn, toks := s'.toks, os := s.os } :=
    I.call (ch := []) (Un.laid k hp hn) (I.hok.laid k hp ⟨hlen, out.toList, c, by rw [hout]; exact vals_of_refs L', hg⟩) (by rw [g]; exact I.bare) (fun _ z => nomatch z)
  have e : s' = { heap := s'.heap, gens := s'.gens, drawn := s'.drawn, toks := s'.toks, os := s.os } := by rw [← o]
  rw [e]
  exact ⟨.ref p, _, J, rfl, q L' p hsub pm nd pw hn⟩
end
/-- strictly ascending -/
def AscS (rs : List (List Int)) : Prop := rs.Pairwise fun a b => HT.lexLt a b = true
theorem lex_or : ∀ a b : List Int, HT.lexLt a b = true ∨ a = b ∨ HT.lexLt b a = true
  | [], [] => Or.inr (Or.inl rfl)
  | [], _ :: _ => Or.inl rfl
  | _ :: _, [] => Or.inr (Or.inr rfl)
  | x :: a, y :: b => by
    rw [HT.lexLt_cons, HT.lexLt_cons]
    by_cases e : x = y
    · subst e
      rw [if_pos rfl, if_pos rfl]
      rcases lex_or a b with h | h | h
      · exact Or.inl h
      · subst h; exact Or.inr (Or.inl rfl)
      · exact Or.inr (Or.inr h)
    · rw [if_neg e, if_neg (Ne.symm e)]
      by_cases l : x < y
      · exact Or.inl (decide_eq_true l)
      · exact Or.inr (Or.inr (decide_eq_true (by omega)))
theorem lex_irr : ∀ a : List Int, HT.lexLt a a = false
  | [] => rfl
  | x :: a => by rw [HT.lexLt_cons, if_pos rfl]; exact lex_irr a
theorem lex_ne {a b : List Int} (h : HT.lexLt a b = true) : a ≠ b := fun e => by subst e; rw [lex_irr] at h; cases h
theorem asc_strict {rs : List (List Int)} (h : AscR rs) (n : rs.Nodup) : AscS rs := by
  refine List.Pairwise.imp (fun {a b} hab => ?_) (List.Pairwise.and h n)
  rcases lex_or a b with z | z | z
  · exact z
  · exact absurd z hab.2
  · rw [z] at hab; cases hab.1
/-- strictly ascending lists with the same members are one -/
theorem asc_ext : ∀ {as bs : List (List Int)}, AscS as → AscS bs → (∀ r, r ∈ as ↔ r ∈ bs) → as = bs
  | [], [], _, _, _ => rfl
  | [], b :: bs, _, _, h => absurd ((h b).mpr List.mem_cons_self) (by simp)
  | a :: as, [], _, _, h => absurd ((h a).mp List.mem_cons_self) (by simp)
  | a :: as, b :: bs, h1, h2, h => by
    obtain ⟨p1, q1⟩ := List.pairwise_cons.mp h1
    obtain ⟨p2, q2⟩ := List.pairwise_cons.mp h2
    have e : a = b := by
      rcases List.mem_cons.mp ((h a).mp List.mem_cons_self) with e | m
      · exact e
      · rcases List.mem_cons.mp ((h b).mpr List.mem_cons_self) with e | m2
        · exact e.symm
        · have z1 := p2 a m
          have z2 := p1 b m2
          rw [NtL.lex_asym _ _ z1] at z2; cases z2
    subst e
    have hn1 : a ∉ as := fun m => lex_ne (p1 a m) rfl
    have hn2 : a ∉ bs := fun m => lex_ne (p2 a m) rfl
    rw [asc_ext q1 q2 fun r => ⟨fun m => ?_, fun m => ?_⟩]
    · rcases List.mem_cons.mp ((h r).mp (List.mem_cons_of_mem _ m)) with e | m2
      · subst e; exact absurd m hn1
      · exact m2
    · rcases List.mem_cons.mp ((h r).mpr (List.mem_cons_of_mem _ m)) with e | m2
      · subst e; exact absurd m hn2
      · exact m2
section
variable {X : Cx} {e : Expr} {w : WE}
/-- sorted(set(rows)) -/
def wSetR (w : WE) : WA := fun en Q => w en fun d e1 => ∃ rs : List (List Int), d = .list (rs.map rowD) ∧ rs.length < 64 ∧ ∀ rs' : List (List Int), AscS rs' → (∀ r, r ∈ rs' ↔ r ∈ rs) → Q (rs'.map rowD) e1
theorem l_setR (hc : X.calm = true) (hu : X.A.units + 64 < cLine) {p p' pos pos' : Pos} (hm : X.mg "sorted" = none) (hm' : X.mg "set" = none) (ha : PE X e (lE X.K ζ w)) (hg : Gl X "sorted" := by rfl) (hg' : Gl X "set" := by rfl)
    (he : starEach (e :: []) X.env = (false, eval e X.env) :: starEach [] X.env := by rfl) (hpl : (backTo pos' (starEach [] X.env)).any (·.1) = false := by rfl)
    (he' : starEach (.Call (.Name "set" p') [e] [] pos' :: []) X.env = (false, eval (.Call (.Name "set" p') [e] [] pos') X.env) :: starEach [] X.env := by rfl) (hpl' : (backTo pos (starEach [] X.env)).any (·.1) = false := by rfl) :
    PE X (.Call (.Name "sorted" p) [.Call (.Name "set" p') [e] [] pos'] [] pos) (lL X.K ζ (wSetR w)) :=
  (pe_callB (cr_sortedSR hc hu) hg hm (by decide +kernel) (pa_cons (pe_callTy (cr_setOfT hc hu) hg' hm' (by decide +kernel) (pa_cons ha pa_nil he) (by decide) (by decide) he hpl) pa_nil he') (by decide) (by decide) he' hpl').mo fun σ H Q ⟨G, en, I, Q', ok, q, k⟩ => ⟨G, en, I, _, ok, q, fun v H1 I1 e1 d o1 x1 dv ⟨rs, hd, hl, q1⟩ => by
    subst hd
    cases dv with
    | lst hs ha =>
      obtain ⟨ks, e1', e2', e3'⟩ := da_rows ha
      subst e1'
      refine ⟨_, ks, rfl, SqL.of (o1.iH _ _ hs), fun q hq => sqt_ex o1.iH (e3' q hq), by rw [← e2', List.length_map] at hl; exact hl, fun a L hn hsub hall => ?_⟩
      have hne : ∀ (b : Addr) (o : HO), H1 b = some o → upd H1 a (SetTO X.prog X.w a L) b = some o := fun b o hb => by rw [upd_ne (ne_of_none hb hn)]; exact hb
      have sqt : ∀ z ∈ L, SqT X.K (upd H1 a (SetTO X.prog X.w a L)) z.1 (z.2.map V.int) := fun z hz => sqt_ex hne (sqt_ex o1.iH (e3' z (hsub z hz)))
      refine ⟨a, L, rfl, upd_same, sqt, fun L' p h1 pm nd pw hp => ?_⟩
      have hap : p ≠ a := fun z => by rw [z, upd_same] at hp; cases hp
      have hp1 : H1 p = none := by rw [upd_ne hap] at hp; exact hp
      have g : Ok X.K ζ G σ e1 (upd H1 a (SetTO X.prog X.w a L)) I1 := o1.grow (Ex.up hn) (Ex.rf I1) (o1.iH.tr (Ex.up hn)) fun b z1 z2 => absurd z2 z1
      refine k p _ _ I1 e1 _ g x1 hp (rows_da e3' L' fun z hz => hsub z (h1 z hz)) (q1 _ (asc_strict pw nd) fun r => ?_)
      rw [pm.mem_iff, ← e2']
      constructor
      · intro hr
        obtain ⟨z, hz, e⟩ := List.mem_map.mp hr
        exact List.mem_map.mpr ⟨z, hsub z hz, e⟩
      · intro hr
        obtain ⟨z, hz, e⟩ := List.mem_map.mp hr
        rw [← e]; exact hall z hz⟩
end
end Pd

set_option Elab.async false
set_option linter.all false
set_option maxRecDepth 100000
set_option maxHeartbeats 4000000
namespace Pd
open PySem PySem.Spec PyProof.Rows L2
/-! ### sorted(t), t a tuple of ints -/
section
variable {prog : Program} {w : World} {A : Around} {E : Value → Shared → Prop} {s : Shared}
theorem gatherT {l : Addr} {vs : List Value} {Q : List Value → Shared → Prop} (hl : s.heap.IsTuple l vs.toArray) (hz : vs.length ≤ sizeLine)
    (q : Q vs { s with heap := (s.heap.push (seqObj "list" #[] 0)).update s.heap.objs.size (Obj.mapSeq (· ++ vs.toArray)) }) : wpAny (model prog w) A (collect (.ref l)) Q E s := by
  obtain ⟨o, ho, hc, n, hd⟩ := id hl
  unfold collect; refine wpAny_bind (wpAny_runValue (codeAny_builtin entry_proto_collect' ?_))
  show wpAny _ _ (do again (.builtin "list.__iadd__" ⟨[← newList [], .ref l], []⟩)) _ _ s
  refine wpAny_bind (wpAny_newList (wpAny_pure ⟨Code.quiet_builtin _ (by decide +kernel), codeAny_builtin entry_list_iadd' ?_⟩))
  show wpAny _ _ (Builtin.List.listExtendWith (.ref s.heap.objs.size) (.ref l) (.ref s.heap.objs.size)) _ _ { s with heap := s.heap.push (seqObj "list" #[] 0) }
  unfold Builtin.List.listExtendWith
  have ho' : (s.heap.push (seqObj "list" #[] 0)).get? l = some o := Heap.get?_push_of_some _ ho
  refine wpAny_bind (wpAny_typeOf (T := "tuple") ⟨o, ho', hc⟩ ?_)
  have h1 : (Value.type "tuple" == Value.type "list") = false := by decide +kernel
  have h2 : (Value.type "tuple" == Value.type "tuple") = true := by decide +kernel
  rw [if_pos (by rw [h1, h2]; simp)]; refine wpAny_bind (listItems_at ho' hd ?_)
  refine wpAny_bind (listItems_at (xs := #[]) (n := 0) (Heap.get?_push_size _ rfl) rfl ?_); rw [if_neg (by simp)]
  refine wpAny_bind (listUpdate_at (xs := #[]) (n := 0) (Heap.get?_push_size _ rfl) rfl (wpAny_pure ?_) (Nat.zero_le _) (by show (#[] ++ vs.toArray).size ≤ sizeLine + 1; simp only [Array.size_append, List.size_toArray, List.length_nil]; omega))
  show wpAny (model prog w) A (do { let o ← load s.heap.objs.size; match o.data with | .seq xs _ => pure xs.toList | _ => unsupported "internal:collect" }) Q E { s with heap := (s.heap.push (seqObj "list" #[] 0)).update s.heap.objs.size (Obj.mapSeq (· ++ vs.toArray)) }
  refine wpAny_bind (wpAny_load (get?_update_seq (Heap.get?_push_size _ rfl) _) ?_)
  show wpAny _ _ (pure ((#[] : Array Value) ++ vs.toArray).toList) Q E _
  rw [show ((#[] : Array Value) ++ vs.toArray).toList = vs by simp]; exact wpAny_pure q
theorem sortTupInts {l : Addr} {vs : List Value} {ns : List Int} {Q : Value → Shared → Prop} (hl : s.heap.IsTuple l vs.toArray) (hi : IntsAre vs ns) (hz : vs.length ≤ sizeLine)
    (fin : ∀ out : List Value, SrtO.Srtd SrtO.ltIv out → SrtO.Stb SrtO.ltIv out vs → Q (.ref (s.heap.objs.size + 1)) { s with heap := sortedAll s.heap vs out.toArray }) : wpAny (model prog w) A (call (.builtin "sorted") [.ref l]) Q E s := by
  refine Calls.call_function_entry kind_sorted plain_sorted entry_sorted (args_sorted1 _) ?_
  unfold Builtin.«sorted»; refine wpAny_bind (m := checkCount "sorted" 1 1 _) (wpAny_pure ?_)
  refine wpAny_bind (gatherT hl hz ?_); refine wpAny_bind (wpAny_newList ?_ hz)
  have hsz : ((s.heap.push (seqObj "list" #[] 0)).update s.heap.objs.size (Obj.mapSeq (· ++ vs.toArray))).objs.size = s.heap.objs.size + 1 := by rw [Heap.size_update, size_push']
  have hoL : (((s.heap.push (seqObj "list" #[] 0)).update s.heap.objs.size (Obj.mapSeq (· ++ vs.toArray))).push (seqObj "list" vs.toArray 0)).get? (s.heap.objs.size + 1) = some (seqObj "list" vs.toArray 0) := by rw [← hsz]; exact Heap.get?_push_size _ rfl
  show wpAny _ _ _ _ _ { s with heap := ((s.heap.push (seqObj "list" #[] 0)).update s.heap.objs.size (Obj.mapSeq (· ++ vs.toArray))).push (seqObj "list" vs.toArray 0) }
  rw [hsz]
  refine wpAny_bind (wpAny_holding (wpAny_call_entry slot_list_sort ⟨_, hoL, rfl⟩ entry_list_sort (SrtO.list_sort_ord SrtO.swo_int hoL hz (fun h2 => SrtO.ints_sortable hi h2) fun out hs hb => ⟨_, rfl, ?_⟩) (args_list_sort _)))
  exact wpAny_pure ⟨_, rfl, fin out hs hb⟩
theorem sortTup {l : Addr} {vs : List Value} {ltv : Value → Value → Bool} {Q : Value → Shared → Prop} (O : SrtO.Swo ltv) (hl : s.heap.IsTuple l vs.toArray) (hz : vs.length ≤ sizeLine)
    (hS : 2 ≤ vs.length → ∀ (h₁ : Heap) (a : Addr), h₁.get? a = some (seqObj "list" vs.toArray 0) → (∀ b o, s.heap.get? b = some o → h₁.get? b = some o) → SrtO.SortableO prog w A.in1.in1 { s with heap := h₁ } a vs ltv)
    (fin : ∀ out : List Value, SrtO.Srtd ltv out → SrtO.Stb ltv out vs → Q (.ref (s.heap.objs.size + 1)) { s with heap := sortedAll s.heap vs out.toArray }) : wpAny (model prog w) A (call (.builtin "sorted") [.ref l]) Q E s := by
  refine Calls.call_function_entry kind_sorted plain_sorted entry_sorted (args_sorted1 _) ?_
  unfold Builtin.«sorted»; refine wpAny_bind (m := checkCount "sorted" 1 1 _) (wpAny_pure ?_)
  refine wpAny_bind (gatherT hl hz ?_); refine wpAny_bind (wpAny_newList ?_ hz)
  have hsz : ((s.heap.push (seqObj "list" #[] 0)).update s.heap.objs.size (Obj.mapSeq (· ++ vs.toArray))).objs.size = s.heap.objs.size + 1 := by rw [Heap.size_update, size_push']
  have hoL : (((s.heap.push (seqObj "list" #[] 0)).update s.heap.objs.size (Obj.mapSeq (· ++ vs.toArray))).push (seqObj "list" vs.toArray 0)).get? (s.heap.objs.size + 1) = some (seqObj "list" vs.toArray 0) := by rw [← hsz]; exact Heap.get?_push_size _ rfl
  have keep : ∀ b o, s.heap.get? b = some o → (((s.heap.push (seqObj "list" #[] 0)).update s.heap.objs.size (Obj.mapSeq (· ++ vs.toArray))).push (seqObj "list" vs.toArray 0)).get? b = some o := fun b o q => by
    have hlt := Heap.lt_size q; refine Heap.get?_push_of_some _ ?_; rw [Heap.get?_update_ne _ _ _ _ (Nat.ne_of_lt hlt)]; exact Heap.get?_push_of_some _ q
  show wpAny _ _ _ _ _ { s with heap := ((s.heap.push (seqObj "list" #[] 0)).update s.heap.objs.size (Obj.mapSeq (· ++ vs.toArray))).push (seqObj "list" vs.toArray 0) }
  rw [hsz]
  refine wpAny_bind (wpAny_holding (wpAny_call_entry slot_list_sort ⟨_, hoL, rfl⟩ entry_list_sort (SrtO.list_sort_ord O hoL hz (fun h2 => hS h2 _ _ hoL keep) fun out hs hb => ⟨_, rfl, ?_⟩) (args_list_sort _)))
  exact wpAny_pure ⟨_, rfl, fin out hs hb⟩
theorem sumTup {t : Addr} {its : List Value} {ns : List Int} {Q : Value → Shared → Prop} (hh : A.handled = none) (hl : s.heap.IsTuple t its.toArray) (hi : IntsAre its ns)
    (h : ∀ h' tk t', (∀ b o, s.heap.get? b = some o → h'.get? b = some o) → Q (.int ns.sum t') { s with heap := h', toks := tk }) : wpAny (model prog w) A (call (.builtin "sum") [.ref t]) Q E s := by
  obtain ⟨xs, e⟩ := hi.allInts.items
  have hn : numsOf (intItems xs).toList = ns := by rw [← e]; exact hi.numsOf
  rw [nums_intItems] at hn; rw [e] at hl
  refine PySem.W.ktm_sumG hh hl fun h' tk t' hk => ?_
  have := h h' tk t' hk
  rw [preSum_eq, List.take_of_length_le (by simp), hn]; exact this
end
def rSortedTI (K : PySem.W.Frag) : List V → Hp → VK → Prop := fun vs H Q => ∃ (a : Addr) (ns : List Int), vs = [V.ref a] ∧ SqT K H a (ns.map V.int) ∧ ∀ (ns' : List Int) (p : Addr), ns'.Perm ns → ns'.Pairwise (· ≤ ·) → H p = none → Q (.ref p) (upd H p (.lst (ns'.map V.int)))
def rSortedTR (K : PySem.W.Frag) : List V → Hp → VK → Prop := fun vs H Q => ∃ (a : Addr) (ks : List (Addr × List Int)), vs = [V.ref a] ∧ SqT K H a (ks.map fun q => V.ref q.1) ∧ (∀ q ∈ ks, SqT K H q.1 (q.2.map V.int)) ∧
  ∀ (ks' : List (Addr × List Int)) (p : Addr), (∀ q ∈ ks', q ∈ ks) → (ks'.map (·.2)).Perm (ks.map (·.2)) → (ks'.map (·.2)).Pairwise (fun a b => HT.lexLt b a = false) → H p = none → Q (.ref p) (upd H p (.lst (ks'.map fun q => V.ref q.1)))
def rSumT (K : PySem.W.Frag) : List V → Hp → VK → Prop := fun vs H Q => ∃ (a : Addr) (ns : List Int), vs = [V.ref a] ∧ SqT K H a (ns.map V.int) ∧ Q (.int ns.sum) H
section
variable {X : Cx}
theorem or_call {id : Value} {r r' : List V → Hp → VK → Prop} (a : CallR X id r) (b : CallR X id r') : CallR X id fun xs H Q => r xs H Q ∨ r' xs H Q := fun pins s σ H vs us Q I rr h => by
  rcases h with h | h
  · exact a pins s σ H vs us Q I rr h
  · exact b pins s σ H vs us Q I rr h
theorem cr_sortedTI : CallR X (.builtin "sorted") (rSortedTI X.K) := by
  intro pins s σ H vs us Q I r h
  obtain ⟨a, ns, rfl, hs, q⟩ := h
  obtain ⟨its, rv, hl, hz⟩ := I.tuple hs
  rw [Vals.ref1 r]
  have hi := intsAre_of rv
  refine sortTupInts hl hi (by rw [← rv.length]; exact hz) fun out h1 h2 => ?_
  obtain ⟨k1, k2, k3⟩ := SrtO.ints_out hi h1 h2
  obtain ⟨ep, he'⟩ := PyProof.Rows.sortedAll_at s.heap its out.toArray
  have hlen : ((out.map SrtO.iv).map V.int).length ≤ sizeLine := by rw [List.length_map, k2.length_eq]; rw [List.length_map] at hz; exact hz
  exact ⟨.ref _, upd H (s.heap.objs.size + 1) (.lst ((out.map SrtO.iv).map V.int)), I.laid (t' := s.toks) (fun _ _ => PyProof.Rows.sortedAll_old) (Nat.le_succ _) ⟨hlen, out, ep, vals_of_ints k1, he'⟩, rfl, q _ _ k2 k3 (I.hok.fresh (Nat.le_succ _))⟩
theorem cr_sortedTR (hu : X.A.units + 64 < cLine) : CallR X (.builtin "sorted") (rSortedTR X.K) := by
  intro pins s σ H vs us Q I r h
  obtain ⟨a, ks, rfl, hs, hk, q⟩ := h
  obtain ⟨its, rv, hl, hz⟩ := I.tuple hs
  have ei := refs_of_vals rv
  rw [Vals.ref1 r]
  have tup : ∀ q ∈ ks, TS.TupInts s.heap (.ref q.1) q.2 := fun q hq => tupI_raw I (hk q hq)
  have tv : ∀ v ∈ its, TS.TupInts s.heap v (TS.intsOf s.heap v) := fun v hv => by
    rw [ei] at hv
    obtain ⟨q, hq, e⟩ := List.mem_map.mp hv
    have t := tup q hq
    rw [← e, t.ints]; exact t
  have hlen : its.length = ks.length := by rw [ei, List.length_map]
  refine sortTup (ltv := fun v u => HT.lexLt (TS.intsOf s.heap v) (TS.intsOf s.heap u)) (NtL.swo_lexL _) hl (by rw [hlen]; simpa using hz) (fun h2 h₁ a' ha' keep => ?_) fun out h1 h2 => ?_
  · refine rowSortable h2 (by show X.A.units + 2 < cLine; omega) (fun v hv => (tv v hv).keeps fun b o e c => keep b o e) fun o e => ?_
    rw [ha'] at e; cases e
    intro c; exact absurd (Value.type.inj c) (by decide)
  · obtain ⟨ep, he'⟩ := PyProof.Rows.sortedAll_at s.heap its out.toArray
    obtain ⟨ks', eo, hsub⟩ := back_refs (ks := ks) (L := out) fun v hv => by
      have := h2.perm.mem_iff.mp hv
      rw [ei] at this
      obtain ⟨q, hq, e⟩ := List.mem_map.mp this
      exact ⟨q, hq, e.symm⟩
    have hi : ∀ L : List (Addr × List Int), (∀ q ∈ L, q ∈ ks) → (L.map fun q => Value.ref q.1).map (TS.intsOf s.heap) = L.map (·.2) := fun L hL => by
      rw [List.map_map]
      exact List.map_congr_left fun q hq => (tup q (hL q hq)).ints
    have pm : (ks'.map (·.2)).Perm (ks.map (·.2)) := by
      have p := (h2.perm.map (TS.intsOf s.heap))
      rw [eo, ei, hi ks' hsub, hi ks fun _ h => h] at p
      exact p
    have pw : (ks'.map (·.2)).Pairwise (fun a b => HT.lexLt b a = false) := by
      rw [← hi ks' hsub, ← eo]; exact List.pairwise_map.mpr h1
    have hl2 : (ks'.map fun q => V.ref q.1).length ≤ sizeLine := by
      have := pm.length_eq
      simp only [List.length_map] at this hz ⊢
      rw [this]; exact hz
    exact ⟨.ref _, upd H (s.heap.objs.size + 1) (.lst (ks'.map fun q => V.ref q.1)), I.laid (t' := s.toks) (fun _ _ => PyProof.Rows.sortedAll_old) (Nat.le_succ _) ⟨hl2, out, ep, by rw [eo]; exact vals_of_refs ks', he'⟩, rfl, q ks' _ hsub pm pw (I.hok.fresh (Nat.le_succ _))⟩
theorem cr_sumT (hc : X.calm = true) : CallR X (.builtin "sum") (rSumT X.K) := by
  intro pins s σ H vs us Q I r h
  obtain ⟨a, ns, rfl, hs, q⟩ := h
  obtain ⟨its, rv, hl, _⟩ := I.tuple hs
  rw [Vals.ref1 r]
  exact sumTup (I.ok.hd hc) hl (intsAre_of rv) fun h' tk t' hk => ⟨.int _, H, I.kept hk, ⟨_, rfl⟩, q⟩
def dSumA : List D → D → Prop := fun xs z => ∃ ns : List Int, (xs = [.list (ns.map .int)] ∨ xs = [.tuple (ns.map .int)]) ∧ z = .int ns.sum
theorem cr_sumA (hc : X.calm = true) : CallR X (.builtin "sum") (fun xs H Q => rSum X.K xs H Q ∨ rSumT X.K xs H Q) := or_call (cr_sum hc) (cr_sumT hc)
theorem snd_sumA {K : PySem.W.Frag} : SndCl K (fun xs H Q => rSum K xs H Q ∨ rSumT K xs H Q) dSumA := by
  rintro H I xs ds z iH hx ⟨ns, rfl | rfl, rfl⟩ Q k
  · cases hx with
    | cons h t => cases t; cases h with
      | lst h a =>
        have e := dpa_ints_inv ns a
        subst e
        exact Or.inl ⟨_, ns, rfl, SqL.of (iH _ _ h), k _ H I (Gr.rf iH) (.int _)⟩
  · cases hx with
    | cons h t => cases t; cases h with
      | tup h a =>
        have e := dpa_ints_inv ns a
        subst e
        exact Or.inr ⟨_, ns, rfl, sqt_ex iH h, k _ H I (Gr.rf iH) (.int _)⟩
theorem i_sumL {ns : List Int} {z : D} : dSumA [.list (ns.map .int)] z ↔ z = .int ns.sum := by
  constructor
  · rintro ⟨ms, h | h, e⟩
    · injection h with h _; injection h with h; rw [ints_inj h]; exact e
    · injection h with h _; cases h
  · exact fun e => ⟨ns, Or.inl rfl, e⟩
theorem i_sumT {ns : List Int} {z : D} : dSumA [.tuple (ns.map .int)] z ↔ z = .int ns.sum := by
  constructor
  · rintro ⟨ms, h | h, e⟩
    · injection h with h _; cases h
    · injection h with h _; injection h with h; rw [ints_inj h]; exact e
  · exact fun e => ⟨ns, Or.inr rfl, e⟩
/-! ### sorted(x): ints of a list or a tuple, rows of a list -/
variable {e : Expr} {w : WE}
def wSortA (w : WE) : WA := fun en Q => w en fun d e1 =>
  (∃ ns : List Int, (d = .list (ns.map .int) ∨ d = .tuple (ns.map .int)) ∧ ∀ ns' : List Int, ns'.Perm ns → ns'.Pairwise (· ≤ ·) → Q (ns'.map .int) e1) ∨
  (∃ rs : List (List Int), (d = .list (rs.map rowD) ∨ d = .tuple (rs.map rowD)) ∧ ∀ rs' : List (List Int), rs'.Perm rs → AscR rs' → Q (rs'.map rowD) e1)
theorem l_sortA (hu : X.A.units + 64 < cLine) {p pos : Pos} (hm : X.mg "sorted" = none) (ha : PE X e (lE X.K ζ w)) (hg : Gl X "sorted" := by rfl)
    (he : starEach (e :: []) X.env = (false, eval e X.env) :: starEach [] X.env := by rfl) (hpl : (backTo pos (starEach [] X.env)).any (·.1) = false := by rfl) :
    PE X (.Call (.Name "sorted" p) [e] [] pos) (lL X.K ζ (wSortA w)) :=
  (pe_callB (or_call (or_call cr_sortedI cr_sortedTI) (or_call (cr_sortedR hu) (cr_sortedTR hu))) hg hm (by decide +kernel) (pa_cons ha pa_nil he) (by decide) (by decide) he hpl).mo fun σ H Q ⟨G, en, I, Q', ok, q, k⟩ => ⟨G, en, I, _, ok, q, fun v H1 I1 e1 d o1 x1 dv h => by
    rcases h with ⟨ns, hd | hd, q1⟩ | ⟨rs, hd | hd, q1⟩
    · subst hd
      cases dv with
      | lst hs ha =>
        have ev := dpa_ints_inv ns ha
        subst ev
        exact Or.inl (Or.inl ⟨_, ns, rfl, SqL.of (o1.iH _ _ hs), fun ns' p h1 h2 hp => k p _ H1 I1 e1 _ o1 x1 hp (dpa_ints ns') (q1 ns' h1 h2)⟩)
    · subst hd
      cases dv with
      | tup hs ha =>
        have ev := dpa_ints_inv ns ha
        subst ev
        exact Or.inl (Or.inr ⟨_, ns, rfl, sqt_ex o1.iH hs, fun ns' p h1 h2 hp => k p _ H1 I1 e1 _ o1 x1 hp (dpa_ints ns') (q1 ns' h1 h2)⟩)
    · subst hd
      cases dv with
      | lst hs ha =>
        obtain ⟨ks, e1', e2', e3'⟩ := da_rows ha
        subst e1'
        refine Or.inr (Or.inl ⟨_, ks, rfl, SqL.of (o1.iH _ _ hs), fun q hq => sqt_ex o1.iH (e3' q hq), fun ks' p hsub pm pw hp => ?_⟩)
        rw [e2'] at pm
        exact k p _ H1 I1 e1 _ o1 x1 hp (rows_da e3' ks' hsub) (q1 _ pm pw)
    · subst hd
      cases dv with
      | tup hs ha =>
        obtain ⟨ks, e1', e2', e3'⟩ := da_rows ha
        subst e1'
        refine Or.inr (Or.inr ⟨_, ks, rfl, sqt_ex o1.iH hs, fun q hq => sqt_ex o1.iH (e3' q hq), fun ks' p hsub pm pw hp => ?_⟩)
        rw [e2'] at pm
        exact k p _ H1 I1 e1 _ o1 x1 hp (rows_da e3' ks' hsub) (q1 _ pm pw)⟩
/-! ### list(range(..)), tuple(range(..)) -/
theorem rgV_da {K : PySem.W.Frag} {I : Hp} (a b : Int) : DaAll K I (rgV a b) (rngD a (b - a).toNat) := by
  unfold rngD
  have : ∀ (n : Nat) (f : Nat → Int), DaAll K I ((List.range n).map fun i => V.int (f i)) ((List.range n).map fun i => PyData.int (f i)) := fun n f => by
    have := dpa_ints (K := K) (H := I) ((List.range n).map f)
    rw [List.map_map, List.map_map] at this
    exact this
  exact this _ _
variable {a b : Expr} {wa wb : WE} {p p' pos pos' : Pos}
def wLR1 (wa : WE) : WA := fun en Q => wa en fun d e1 => ∃ j : Int, d = .int j ∧ -(2 ^ 62) ≤ j ∧ j ≤ 2 ^ 24 ∧ Q (rngD 0 j.toNat) e1
def wLR2 (wa wb : WE) : WA := fun en Q => wa en fun d e1 => wb e1 fun d2 e2 => ∃ i j : Int, d = .int i ∧ d2 = .int j ∧ RgOk i j ∧ Q (rngD i (j - i).toNat) e2
theorem rg_ok1 {j : Int} (h : -(2 ^ 62) ≤ j) (h2 : j ≤ 2 ^ 24) : RgOk 0 j := ⟨by omega, by omega, by omega, by omega, by omega⟩
theorem l_listR1 (hc : X.calm = true) (hm : X.mg "list" = none) (hm' : X.mg "range" = none) (ha : PE X a (lE X.K ζ wa)) (hg : Gl X "list" := by rfl) (hg' : Gl X "range" := by rfl) (na : starEach [a] X.env = (false, eval a X.env) :: starEach [] X.env := by rfl) :
    PE X (.Call (.Name "list" p) [.Call (.Name "range" p') [a] [] pos'] [] pos) (lL X.K ζ (wLR1 wa)) :=
  (pe_listRg hc hg hm (prg_1 hg' hm' ha na)).mo fun σ H Q ⟨G, en, I, Q', ok, q, k⟩ => ⟨G, en, I, _, ok, q, fun v H1 I1 e1 d o1 x1 dv ⟨j, hd, h1, h2, q1⟩ => by
    subst hd; cases dv
    refine ⟨j, rfl, rg_ok1 h1 h2, fun q hq => ?_⟩
    have r := rgV_da (K := X.K) (I := I1) 0 j
    rw [Int.sub_zero] at r
    exact k q _ H1 I1 e1 _ o1 x1 hq r q1⟩
theorem l_listR2 (hc : X.calm = true) (hm : X.mg "list" = none) (hm' : X.mg "range" = none) (ha : PE X a (lE X.K ζ wa)) (hb : PE X b (lE X.K ζ wb)) (hg : Gl X "list" := by rfl) (hg' : Gl X "range" := by rfl) (na : starEach [a, b] X.env = (false, eval a X.env) :: starEach [b] X.env := by rfl) (nb : starEach [b] X.env = (false, eval b X.env) :: starEach [] X.env := by rfl) (hp : (backTo pos' (starEach [b] X.env)).any (·.1) = false := by rfl) :
    PE X (.Call (.Name "list" p) [.Call (.Name "range" p') [a, b] [] pos'] [] pos) (lL X.K ζ (wLR2 wa wb)) :=
  (pe_listRg hc hg hm (prg_2 hg' hm' ha hb na nb hp)).mo fun σ H Q ⟨G, en, I, Q', ok, q, k⟩ => ⟨G, en, I, _, ok, q, fun v H1 I1 e1 d o1 x1 dv q1 => ⟨G, e1, I1, _, o1, q1, fun v2 H2 I2 e2 d2 o2 x2 dv2 ⟨i, j, hd, hd2, hr, q2⟩ => by
    subst hd hd2; cases dv; cases dv2
    exact ⟨i, j, rfl, rfl, hr, fun q hq => k q _ H2 I2 e2 _ o2 (x1.tr x2) hq (rgV_da i j) q2⟩⟩⟩
def wTR1 (wa : WE) : WE := fun en Q => wa en fun d e1 => ∃ j : Int, d = .int j ∧ -(2 ^ 62) ≤ j ∧ j ≤ 2 ^ 24 ∧ Q (.tuple (rngD 0 j.toNat)) e1
theorem d_tupR1 (hc : X.calm = true) (hm : X.mg "tuple" = none) (hm' : X.mg "range" = none) (ha : PE X a (lE X.K ζ wa)) (hg : Gl X "tuple" := by rfl) (hg' : Gl X "range" := by rfl) (na : starEach [a] X.env = (false, eval a X.env) :: starEach [] X.env := by rfl) :
    PE X (.Call (.Name "tuple" p) [.Call (.Name "range" p') [a] [] pos'] [] pos) (lE X.K ζ (wTR1 wa)) :=
  (pe_tupRg hc hg hm (prg_1 hg' hm' ha na)).mo fun σ H Q ⟨G, en, I, Q', ok, q, k⟩ => ⟨G, en, I, _, ok, q, fun v H1 I1 e1 d o1 x1 dv ⟨j, hd, h1, h2, q1⟩ => by
    subst hd; cases dv
    refine ⟨j, rfl, rg_ok1 h1 h2, fun q hq => ?_⟩
    have r := rgV_da (K := X.K) (I := I1) 0 j
    rw [Int.sub_zero] at r
    obtain ⟨o2, x2⟩ := o1.new (u := .tup (rgV 0 j)) hq
    exact k (.ref q) _ _ e1 _ o2 (x1.tr x2) (.tup (SqT.of upd_same) (r.up x2)) q1⟩
/-! ### t.index(x), t a tuple of flat data -/
def rIndexTp (K : PySem.W.Frag) : V → List V → Hp → VK → Prop := fun x xs H Q => ∃ (a : Addr) (ys : List V) (y : V) (j : Nat) (z : V), x = V.ref a ∧ xs = [y] ∧ SqT K H a ys ∧ flatV y = true ∧ ys.all flatV = true ∧ ys[j]? = some z ∧ eqV z y = true ∧ (∀ m u, m < j → ys[m]? = some u → eqV u y = false) ∧ Q (.int (j : Nat)) H
end
end Pd

set_option Elab.async false
set_option linter.all false
set_option maxRecDepth 100000
set_option maxHeartbeats 4000000
namespace Pd
open PySem PySem.Spec PyProof.Rows L2
/-! ### set(t), t a tuple of rows -/
abbrev mtSet (w : World) : Obj := { cls := .type "set", dict := none, data := .set #[] 0 (.fresh 0 0 (!w.params.followText "set-order")) }
section
variable {P : Program} {w : World} {A : Around} {E : Value → Shared → Prop} {s : Shared}
set_option maxHeartbeats 3200000 in
theorem setOfTup {l : Addr} {items : Array Value} (ks : List (Addr × List Int)) {Q : Value → Shared → Prop} (hh : A.handled = none) (hl : s.heap.IsTuple l items) (hit : items.toList = ks.map fun z => Value.ref z.1) (hk : ∀ z ∈ ks, IsT P w s.heap z.2 z.1) (hfew : ks.length < 64) (hu : A.units + 3 < cLine)
    (fin : ∀ (h' : Heap) (tk : Nat) L es ep t, SetTR P w h' s.heap.objs.size L es ep t → Got ks ks.length L → (∀ b o, s.heap.get? b = some o → h'.get? b = some o) → Q (.ref s.heap.objs.size) { s with heap := h', toks := tk }) : wpAny (model P w) A (call (.type "set") [.ref l]) Q E s := by
  have hn : items.size = ks.length := by have q := congrArg List.length hit; rw [Array.length_toList, List.length_map] at q; exact q
  obtain ⟨c, tl, hmro⟩ := F.called_set.mro
  have hmade := F.called_set.made; have hsub := F.called_set.sub
  refine wpAny_call (codeAny_of_tree ?_); show wpAny _ _ (callAny (.type "set") _) _ _ _
  refine wpAny_pure ⟨Code.quiet_builtin _ (by decide +kernel), codeAny_builtin F.entry_type_call ?_⟩
  rw [Around.under_plain (weight_type_call_type "set" [.ref l] []) rfl]
  have h1 := F.called_set.notType; have h2 := F.called_set.canCreate; have hct := F.typeCall_set_1 (.ref l)
  repeat (any_goals (first | assumption | wp_step))
  refine codeAny_mono (code_set_led1 (.ref l) (E := E) (Q₁ := fun obj s₁ => obj = .ref s.heap.objs.size ∧ s₁ = { s with heap := s.heap.push (mtSet w) }) ⟨rfl, rfl⟩) fun r s₁ hr => ?_
  cases r with
  | error e => exact hr
  | ok fl =>
    cases fl with
    | ret obj =>
      obtain ⟨rfl, rfl⟩ := hr
      have hS : (s.heap.push (mtSet w)).get? s.heap.objs.size = some (mtSet w) := Heap.get?_push_size _ rfl
      have hT : Shared.TypeIs { s with heap := s.heap.push (mtSet w) } (.ref s.heap.objs.size) "set" := ⟨_, hS, rfl⟩
      have hli := F.called_set.init.lookup; have hbi := F.called_set.init.bind (.ref s.heap.objs.size)
      repeat (any_goals (first | assumption | wp_step))
      refine codeAny_mono (codeAny_call_builtin (R := wants (fun r s₂ => r = .none ∧ ∃ h' tk L es ep t, s₂ = { s with heap := h', toks := tk } ∧ SetTR P w h' s.heap.objs.size L es ep t ∧ Got ks ks.length L ∧ (∀ b o, s.heap.get? b = some o → h'.get? b = some o)) E) F.called_set.init.plain F.entry_set_init (check_set_init_1 hT ?_)) fun r₂ s₂ hr₂ => ?_
      · obtain ⟨ol, hol, hcl, nl, hdl⟩ := hl
        obtain ⟨ocls, odict, odata, oslots⟩ := ol
        simp only at hcl hdl; subst hcl; subst hdl
        have hol' : (s.heap.push (mtSet w)).get? l = some { cls := .type "tuple", dict := odict, data := .seq items nl, slots := oslots } := Heap.get?_push_of_some _ hol
        have hsls := F.sub_tuple_set; have hslf := F.sub_tuple_frozenset
        have hne : (Value.type "tuple" == Value.type "dict") = false := by decide
        have hl1 : (s.heap.push (mtSet w)).IsTuple l items := ⟨_, hol', rfl, nl, rfl⟩
        unfold Builtin.«set.__init__» noKeywords Builtin.Frozenset.updateFrom
        generalize hPI : pyIter = PI; wp_walk; subst hPI
        refine wpAny_pyIter_tuple hl1 ?_; refine wpAny_bind (wpAny_runValue ?_)
        have hlS : l < s.heap.objs.size := Heap.lt_size hol
        have hh3 : A.in1.in1.in1.handled = none := by simp [hh]
        have hz1 : (s.heap.push (mtSet w)).objs.size = s.heap.objs.size + 1 := Heap.size_push ..
        have hneI : l ≠ (s.heap.push (mtSet w)).objs.size := by rw [Heap.size_push]; exact Nat.ne_of_lt (Nat.lt_succ_of_lt hlS)
        have hSf : s.heap.objs.size ∉ [(s.heap.push (mtSet w)).objs.size, l] := by
          rw [Heap.size_push]; simp only [List.mem_cons, List.mem_singleton, List.not_mem_nil, or_false, not_or]; exact ⟨Nat.ne_of_lt (Nat.lt_succ_self _), Nat.ne_of_gt hlS⟩
        have hval : ∀ (i : Nat) (v : Value), items[i]? = some v → ∃ z, ks[i]? = some z ∧ v = .ref z.1 := fun i v hv => by
          have q : items.toList[i]? = some v := by rw [Array.getElem?_toList]; exact hv
          rw [hit, List.getElem?_map] at q
          cases hq : ks[i]? with
          | none => rw [hq] at q; cases q
          | some z => rw [hq] at q; exact ⟨z, rfl, (Option.some.inj q).symm⟩
        have none_of : ∀ b, s.heap.objs.size ≤ b → s.heap.get? b = none := fun b hb => by
          cases q : s.heap.get? b with
          | none => rfl
          | some o => exact absurd (Nat.lt_of_lt_of_le (Heap.lt_size q) hb) (Nat.lt_irrefl _)
        refine set_update_tups ((Walks.tuple hh3 _ l hneI items).toS) s.heap.objs.size hSf ks hn hfew hval s.heap hk (none_of _ (Nat.le_refl _)) (fun b hb => none_of b (by rw [List.mem_singleton.mp hb, Heap.size_push]; exact Nat.le_succ _)) hu (items.size - 0) 0 _ (by omega) (Nat.zero_le _)
          ⟨⟨_, Heap.get?_push_size _ rfl, rfl, rfl⟩, (hl1.push _)⟩ (fun b o e => Heap.get?_push_of_some _ (Heap.get?_push_of_some _ e)) ?hS0 ?hR
        case hS0 => exact ⟨[], #[], 0, _, setTR_fresh (Heap.get?_push_of_some _ hS), Got.zero ks⟩
        case hR =>
          intro s' L es ep t hm hS' g' hkp
          obtain ⟨h', g2, d', tk', os'⟩ := s'
          have eg : g2 = s.gens := hm.gens; have ed : d' = s.drawn := hm.drawn; have eo : os' = s.os := hm.os
          subst eg; subst ed; subst eo
          show wpAny _ _ _ _ _ _; refine wpAny_pure ?_; show wpAny _ _ (ret Value.none) _ _ _
          rw [hn] at g'; exact wpAny_pure ⟨rfl, h', tk', L, es, ep, t, rfl, hS', g', hkp⟩
      · cases r₂ with
        | error e => exact hr₂
        | ok fl₂ =>
          cases fl₂ with
          | ret r =>
            obtain ⟨rfl, h', tk, L, es, ep, t, rfl, hS', g', hk'⟩ := hr₂
            repeat (any_goals (first | assumption | wp_step))
            exact fin _ _ _ _ _ _ hS' g' hk'
          | _ => exact hr₂.elim
    | _ => exact hr.elim
end
def rSetTup (K : PySem.W.Frag) (P : Program) (w : World) : List V → Hp → VK → Prop := fun xs H Q => ∃ (l : Addr) (ks : List (Addr × List Int)), xs = [V.ref l] ∧ SqT K H l (ks.map fun z => V.ref z.1) ∧ (∀ z ∈ ks, SqT K H z.1 (z.2.map V.int)) ∧ ks.length < 64 ∧
  ∀ a L, H a = none → (∀ z ∈ L, z ∈ ks) → (∀ z ∈ ks, z.2 ∈ L.map (·.2)) → Q (.ref a) (upd H a (SetTO P w a L))
def rSetTI (K : PySem.W.Frag) (w : World) : List V → Hp → VK → Prop := fun xs H Q => ∃ (l : Addr) (ns : List Int), xs = [V.ref l] ∧ SqT K H l (ns.map V.int) ∧ ns.length < 60 ∧ ∀ a c, H a = none → c ≤ ns.length → Q (.ref a) (upd H a (SetO w a (fun j => decide (j ∈ ns)) c))
section
variable {X : Cx}
theorem cr_setTup (hc : X.calm = true) (hu : X.A.units + 64 < cLine) : CallR X (.type "set") (rSetTup X.K X.prog X.w) := by
  intro pins s σ H xs us Q I r h
  obtain ⟨l, ks, rfl, hl, hk, hf, q⟩ := h
  rw [Vals.ref1 r]
  obtain ⟨its, rv, pl, hz⟩ := I.tuple hl
  refine setOfTup (P := X.prog) (w := X.w) ks (I.ok.hd hc) pl (by simpa using refs_of_vals rv) (fun z hz => I.isT (hk z hz)) hf (by omega) fun h' tk L es ep t R g k => ?_
  refine ⟨.ref s.heap.objs.size, upd H s.heap.objs.size (SetTO X.prog X.w s.heap.objs.size L), I.laid (t' := tk) k (Nat.le_refl _) (setTO_new R.t0), rfl, q _ L (I.hok.fresh (Nat.le_refl _)) (fun z hz => List.mem_of_mem_take (g.sub z hz)) fun z hz => g.all z (by rw [List.take_length]; exact hz)⟩
theorem cr_setTI (hc : X.calm = true) : CallR X (.type "set") (rSetTI X.K X.w) := by
  intro pins s σ H xs us Q I r h
  obtain ⟨l, ns, rfl, hl, hf, q⟩ := h
  rw [Vals.ref1 r]
  obtain ⟨its, rv, pl, hz⟩ := I.tuple hl
  refine call_set_tupI ns (I.ok.hd hc) pl (intsAre_of rv) (by unfold scanBound; omega) fun h' tk c R hcl k => ?_
  exact ⟨.ref s.heap.objs.size, upd H s.heap.objs.size (SetO X.w s.heap.objs.size (fun j => decide (j ∈ ns)) c), I.laid (t' := tk) k (Nat.le_refl _) (setO_new R), rfl, q _ c (I.hok.fresh (Nat.le_refl _)) hcl⟩
end
end Pd

set_option Elab.async false
set_option linter.all false
set_option maxRecDepth 100000
set_option maxHeartbeats 4000000
namespace Pd
open PySem PySem.Spec PyProof.Rows L2
section
variable {X : Cx} {e : Expr} {w : WE}
/-- sorted(set(x)): rows of a list or a tuple, ints of a tuple -/
def wSetA (w : WE) : WA := fun en Q => w en fun d e1 =>
  (∃ rs : List (List Int), (d = .list (rs.map rowD) ∨ d = .tuple (rs.map rowD)) ∧ rs.length < 64 ∧ ∀ rs' : List (List Int), AscS rs' → (∀ r, r ∈ rs' ↔ r ∈ rs) → Q (rs'.map rowD) e1) ∨
  (∃ ns : List Int, d = .tuple (ns.map .int) ∧ ns.length < 60 ∧ ∀ ns' : List Int, ns'.Pairwise (· < ·) → (∀ k, k ∈ ns' ↔ k ∈ ns) → Q (ns'.map .int) e1)
theorem rows_fin {σ : Sg} {H1 I1 : Hp} {G : Gh} {e1 : En} {Q : VK} {Q' : List D → En → Prop} {I : Hp} {P : Program} {w : World} {K : PySem.W.Frag} (o1 : Ok K ζ G σ e1 H1 I1) (x1 : Ex I I1) {ks : List (Addr × List Int)} (hk : ∀ q ∈ ks, SqT K I1 q.1 (q.2.map V.int))
    (k : ∀ p vs H' I' en' ds, Ok K ζ G σ en' H' I' → Ex I I' → H' p = none → DaAll K I' vs ds → Q' ds en' → Q (.ref p) (upd H' p (.lst vs))) (q1 : ∀ rs' : List (List Int), AscS rs' → (∀ r, r ∈ rs' ↔ r ∈ ks.map (·.2)) → Q' (rs'.map rowD) e1)
    {a : Addr} {L : List (Addr × List Int)} (hn : H1 a = none) (hsub : ∀ p ∈ L, p ∈ ks) (hall : ∀ p ∈ ks, p.2 ∈ L.map (·.2)) : rSortedSR K P w [.ref a] (upd H1 a (SetTO P w a L)) Q := by
  have hne : ∀ (b : Addr) (o : HO), H1 b = some o → upd H1 a (SetTO P w a L) b = some o := fun b o hb => by rw [upd_ne (ne_of_none hb hn)]; exact hb
  refine ⟨a, L, rfl, upd_same, fun z hz => sqt_ex hne (sqt_ex o1.iH (hk z (hsub z hz))), fun L' p h1 pm nd pw hp => ?_⟩
  have hap : p ≠ a := fun z => by rw [z, upd_same] at hp; cases hp
  have g : Ok K ζ G σ e1 (upd H1 a (SetTO P w a L)) I1 := o1.grow (Ex.up hn) (Ex.rf I1) (o1.iH.tr (Ex.up hn)) fun b z1 z2 => absurd z2 z1
  refine k p _ _ I1 e1 _ g x1 hp (rows_da hk L' fun z hz => hsub z (h1 z hz)) (q1 _ (asc_strict pw nd) fun r => ?_)
  rw [pm.mem_iff]
  constructor
  · intro hr
    obtain ⟨z, hz, e⟩ := List.mem_map.mp hr
    exact List.mem_map.mpr ⟨z, hsub z hz, e⟩
  · intro hr
    obtain ⟨z, hz, e⟩ := List.mem_map.mp hr
    rw [← e]; exact hall z hz
theorem l_setA (hc : X.calm = true) (hu : X.A.units + 64 < cLine) {p p' pos pos' : Pos} (hm : X.mg "sorted" = none) (hm' : X.mg "set" = none) (ha : PE X e (lE X.K ζ w)) (hg : Gl X "sorted" := by rfl) (hg' : Gl X "set" := by rfl)
    (he : starEach (e :: []) X.env = (false, eval e X.env) :: starEach [] X.env := by rfl) (hpl : (backTo pos' (starEach [] X.env)).any (·.1) = false := by rfl)
    (he' : starEach (.Call (.Name "set" p') [e] [] pos' :: []) X.env = (false, eval (.Call (.Name "set" p') [e] [] pos') X.env) :: starEach [] X.env := by rfl) (hpl' : (backTo pos (starEach [] X.env)).any (·.1) = false := by rfl) :
    PE X (.Call (.Name "sorted" p) [.Call (.Name "set" p') [e] [] pos'] [] pos) (lL X.K ζ (wSetA w)) :=
  (pe_callB (or_call (cr_sortedSR hc hu) (cr_sortedSet hc)) hg hm (by decide +kernel) (pa_cons (pe_callTy (or_call (or_call (cr_setOfT hc hu) (cr_setTup hc hu)) (cr_setTI hc)) hg' hm' (by decide +kernel) (pa_cons ha pa_nil he) (by decide) (by decide) he hpl) pa_nil he') (by decide) (by decide) he' hpl').mo fun σ H Q ⟨G, en, I, Q', ok, q, k⟩ => ⟨G, en, I, _, ok, q, fun v H1 I1 e1 d o1 x1 dv h => by
    rcases h with ⟨rs, hd | hd, hl, q1⟩ | ⟨ns, hd, hl, q1⟩
    · subst hd
      cases dv with
      | lst hs ha =>
        obtain ⟨ks, e1', e2', e3'⟩ := da_rows ha
        subst e1' e2'
        exact Or.inl (Or.inl ⟨_, ks, rfl, SqL.of (o1.iH _ _ hs), fun q hq => sqt_ex o1.iH (e3' q hq), by rw [List.length_map] at hl; exact hl, fun a L hn hsub hall => Or.inl (rows_fin o1 x1 e3' k q1 hn hsub hall)⟩)
    · subst hd
      cases dv with
      | tup hs ha =>
        obtain ⟨ks, e1', e2', e3'⟩ := da_rows ha
        subst e1' e2'
        exact Or.inl (Or.inr ⟨_, ks, rfl, sqt_ex o1.iH hs, fun q hq => sqt_ex o1.iH (e3' q hq), by rw [List.length_map] at hl; exact hl, fun a L hn hsub hall => Or.inl (rows_fin o1 x1 e3' k q1 hn hsub hall)⟩)
    · subst hd
      cases dv with
      | tup hs ha =>
        have ev := dpa_ints_inv ns ha
        subst ev
        refine Or.inr ⟨_, ns, rfl, sqt_ex o1.iH hs, hl, fun a c hn hcl => Or.inr ⟨a, _, c, rfl, upd_same, by omega, fun ns' p h1 h2 h3 hp => ?_⟩⟩
        have hap : p ≠ a := fun z => by rw [z, upd_same] at hp; cases hp
        have g : Ok X.K ζ G σ e1 (upd H1 a (SetO X.w a (fun j => decide (j ∈ ns)) c)) I1 := o1.grow (Ex.up hn) (Ex.rf I1) (o1.iH.tr (Ex.up hn)) fun b z1 z2 => absurd z2 z1
        exact k p _ _ I1 e1 _ g x1 hp (dpa_ints ns') (q1 ns' h1 fun j => by rw [h2 j]; exact decide_eq_true_iff)⟩
end
end Pd

set_option Elab.async false
set_option linter.all false
set_option maxRecDepth 100000
set_option maxHeartbeats 4000000
namespace Pd
open PySem PySem.Spec PyProof.Rows L2
/-! ### t[::-1], t a tuple -/
theorem back_pick (xs : Array Value) : ((List.range xs.size).filterMap fun (m : Nat) => xs[(((xs.size : Int) - 1) + (m : Int) * -1).toNat]?) = xs.toList.reverse := by
  apply List.ext_getElem?
  intro i
  have e : ((List.range xs.size).filterMap fun (m : Nat) => xs[(((xs.size : Int) - 1) + (m : Int) * -1).toNat]?) = (List.range xs.size).map fun m => xs.getD (xs.size - 1 - m) Value.none := by
    have key : ∀ l : List Nat, (∀ m ∈ l, m < xs.size) → (l.filterMap fun (m : Nat) => xs[(((xs.size : Int) - 1) + (m : Int) * -1).toNat]?) = l.map fun m => xs.getD (xs.size - 1 - m) Value.none := by
      intro l
      induction l with
      | nil => intro _; rfl
      | cons m l ih =>
        intro h
        have hm := h m List.mem_cons_self
        have e1 : (((xs.size : Int) - 1) + (m : Int) * -1).toNat = xs.size - 1 - m := by omega
        have hlt : xs.size - 1 - m < xs.size := by omega
        rw [List.filterMap_cons, e1, Array.getElem?_eq_getElem hlt, List.map_cons, ih fun k hk => h k (List.mem_cons_of_mem _ hk)]
        simp [Array.getD, hlt]
    exact key _ fun m hm => List.mem_range.mp hm
  rw [e, List.getElem?_map]
  by_cases hi : i < xs.size
  · have hlt : xs.size - 1 - i < xs.size := by omega
    rw [List.getElem?_range hi, List.getElem?_reverse (by simpa using hi)]
    simp [hi, Array.getD, hlt]
  · rw [List.getElem?_eq_none (by simp; omega), List.getElem?_eq_none (by simp; omega)]
    rfl
section
variable {prog : Program} {w : World} {A : Around} {E : Value → Shared → Prop} {s : Shared}
theorem tupBack {t sl : Addr} {items : Array Value} {vs : Value} {Q : Value → Shared → Prop} (ht : IsTup s.heap t items) (hs : s.heap.IsSliceOf sl .none .none vs) (ps : IsPart vs (some (-1)))
    (h : Q (.ref s.heap.objs.size) { s with heap := s.heap.push { cls := .type "tuple", data := .seq items.toList.reverse.toArray } }) (hsz : items.size ≤ sizeLine) : wpAny (model prog w) A (getItem (.ref t) (.ref sl)) Q E s := by
  have hz : sizeOk (.seq items.toList.reverse.toArray) := by
    show items.toList.reverse.toArray.size ≤ sizeLine
    rw [List.size_toArray, List.length_reverse, Array.length_toList]; exact hsz
  obtain ⟨os, hos, hcs, hds⟩ := id hs
  have hTs : s.TypeIs (.ref sl) "slice" := ⟨os, hos, hcs⟩
  cases ps with
  | int i u =>
    unfold getItem
    try with_reducible refine wpAny_holding ?_
    first | refine wpAny_bind (wpAny_pure ?_) | skip
    refine wpAny_bind (wpAny_sequenceKey ht.typeIs (by decide) ?_)
    refine wpAny_bind (wpAny_callSpecial?_slot (name := Str.ofString "__getitem__") ht.typeIs PyProof.Rows.slot_tuple_getitem (wpAny_call_entry PyProof.Rows.slot_tuple_getitem ht.typeIs entry_tuple_getitem ?_ (args_tuple_getitem _ _)))
    show wpAny _ _ (Builtin.Tuple.tupleItemsOf (.ref t) >>= _) _ _ s
    refine wpAny_bind (tupleItemsOf_ ht (wpAny_bind (wpAny_typeOf hTs ?_)))
    rw [if_pos (by decide)]
    have ap : ∀ {Q : Int × Int × Nat → Shared → Prop}, Q ((items.size : Int) - 1, -1, items.size) s → wpAny (model prog w) (A.in1) (Builtin.Slice.sliceApplied (.ref sl) (pure (items.size : Int))) Q E s := fun {Q} q => by
      unfold Builtin.Slice.sliceApplied Builtin.Slice.sliceFields
      refine wpAny_bind (wpAny_bind (wpAny_field hos hds (x := .none) rfl (wpAny_bind (wpAny_field hos hds (x := .none) rfl (wpAny_bind (wpAny_field hos hds (x := .int (-1) u) rfl (wpAny_pure ?_)))))))
      refine wpAny_bind (HT.slicePart_ (.int (-1) u) ?_)
      show wpAny _ _ (if ((-1 : Int) == 0) = true then _ else _) _ _ s
      rw [if_neg (by decide)]
      refine wpAny_bind (HT.slicePart_ .none (wpAny_bind (HT.slicePart_ .none (wpAny_bind (wpAny_pure ?_)))))
      show wpAny _ _ (match Builtin.Slice.sliceAdjust none none (-1) (items.size : Int) with | (lo, hi) => pure (lo, (-1 : Int), Builtin.Slice.slicePlaces lo hi (-1))) _ _ s
      have e1 : Builtin.Slice.sliceAdjust none none (-1) (items.size : Int) = ((items.size : Int) - 1, -1) := by
        unfold Builtin.Slice.sliceAdjust; simp
      rw [e1]
      show wpAny _ _ (pure ((items.size : Int) - 1, (-1 : Int), Builtin.Slice.slicePlaces ((items.size : Int) - 1) (-1) (-1))) _ _ s
      have e2 : Builtin.Slice.slicePlaces ((items.size : Int) - 1) (-1) (-1) = items.size := by
        unfold Builtin.Slice.slicePlaces; simp; omega
      rw [e2]; exact wpAny_pure q
    refine wpAny_bind (ap ?_)
    show wpAny _ _ (if (((items.size : Int) - 1) == 0 && (-1 : Int) == 1 && items.size == items.size) = true then _ else _) _ _ s
    rw [if_neg (by simp), back_pick]
    first
      | exact wpAny_bind (m := Builtin.Tuple.tupleExact _) (wpAny_newObj_type (wpAny_pure ⟨_, rfl, wpAny_pure h⟩) hz)
      | exact wpAny_bind (m := Builtin.Tuple.tupleExact _) (wpAny_newObj_type (wpAny_bind (wpAny_pure (wpAny_pure ⟨_, rfl, wpAny_pure h⟩))) hz)
      | exact wpAny_bind (wpAny_bind (m := Builtin.Tuple.tupleExact _) (wpAny_newObj_type (wpAny_pure (wpAny_pure ⟨_, rfl, wpAny_pure h⟩)) hz))
      | exact wpAny_bind (wpAny_bind (m := Builtin.Tuple.tupleExact _) (wpAny_newObj_type (wpAny_pure ⟨_, rfl, wpAny_pure h⟩) hz))
end
section
variable {X : Cx} {a : Expr} {wa : WE}
def tRevT (K : PySem.W.Frag) (te : TE) : TE := fun σ H Q => te σ H fun x H1 => ∃ (t : Addr) (xs : List V), x = .ref t ∧ SqT K H1 t xs ∧ ∀ p, H1 p = none → Q (.ref p) (upd H1 p (.tup xs.reverse))
theorem pe_revT {e : Expr} {te : TE} {k : Nat} {p1 p2 p3 pos : Pos} (he : PE X e te) : PE X (.Subscript e (.Slice none none (some (.UnaryOp .USub (.Constant (.int 1) k p1) p2)) p3) pos) (tRevT X.K te) := by
  refine ⟨fun pins s σ H Q I h => Subscript_ (thn (he.run pins s σ H _ I h) fun v s1 ⟨x, H1, I1, r1, a, xs, ex, hx, q⟩ => ?_)⟩
  subst ex; cases r1
  have hst : PO X (some (.UnaryOp .USub (.Constant (.int 1) k p1) p2)) (tPart (tUn (rU fun i => .int (-i)) (tC (.int 1)))) := po_some (pe_un un_neg pe_int)
  refine wpAny_Slice (thn (po_none.run pins s1 σ H1 (fun o H2 => o = none ∧ H2 = H1) I1 ⟨rfl, rfl⟩) fun vl s2 ⟨l, H2, I2, pl, el, e2⟩ => ?_)
  subst el e2; refine thn (po_none.run pins s2 σ H2 (fun o H3 => o = none ∧ H3 = H2) I2 ⟨rfl, rfl⟩) fun vu s3 ⟨u, H3, I3, pu, eu, e3⟩ => ?_
  subst eu e3; refine thn (hst.run pins s3 σ H3 (fun o H4 => o = some (-1) ∧ H4 = H3) I3 ⟨1, rfl, -1, rfl, rfl, rfl⟩) fun vs s4 ⟨o, H4, I4, ps, eo, e4⟩ => ?_
  subst eo e4
  have I5 : Inv X pins σ H4 { s4 with heap := s4.heap.push { cls := .type "slice", data := .fields #[vl, vu, vs] } } := I4.kept (t' := s4.toks) fun b ob q => Heap.get?_push_of_some _ q
  obtain ⟨its, r, ht, hz⟩ := I5.tuple hx
  have hlen := r.length
  show wpAny (model X.prog X.w) X.A (subscriptTail e (.Slice none none (some (.UnaryOp .USub (.Constant (.int 1) k p1) p2)) p3) (.ref a) (.ref s4.heap.objs.size)) (EP X pins σ Q) X.xe { s4 with heap := s4.heap.push { cls := .type "slice", data := .fields #[vl, vu, vs] } }
  refine tail_any (ops := [.ref a, .ref s4.heap.objs.size]) ht.typeIs (PyProof.Rows.slot_tuple_getitem.lookup) ?_ (by with_unfolding_all rfl)
  cases pl; cases pu
  refine tupBack ht (Heap.IsSliceOf.new _ .none .none vs) ps ?_ (by rw [List.size_toArray]; omega)
  refine ⟨.ref _, _, I5.laid (t' := s4.toks) (o := .tup xs.reverse) (fun b ob q => Heap.get?_push_of_some _ q) (Nat.le_refl _) ⟨by rw [List.length_reverse]; exact hz, _, r.reverse, IsTup.new _ _⟩, rfl, q _ (I5.hok.fresh (Nat.le_refl _))⟩
def wRevT (wa : WE) : WE := fun en Q => wa en fun d e1 => ∃ xs, d = .tuple xs ∧ Q (.tuple xs.reverse) e1
theorem d_revT {k : Nat} {p1 p2 p3 pos : Pos} (ha : PE X a (lE X.K ζ wa)) : PE X (.Subscript a (.Slice none none (some (.UnaryOp .USub (.Constant (.int 1) k p1) p2)) p3) pos) (lE X.K ζ (wRevT wa)) :=
  (pe_revT ha).mo fun σ H Q ⟨G, en, I, Q', o, q, k⟩ => ⟨G, en, I, _, o, q, fun v H1 I1 e1 d o1 x1 dv ⟨xs, hd, q1⟩ => by
    subst hd
    cases dv with
    | tup hs ha =>
      refine ⟨_, _, rfl, sqt_ex o1.iH hs, fun p hp => ?_⟩
      obtain ⟨o2, x2⟩ := o1.new (u := .tup _) hp
      exact k (.ref p) _ _ e1 _ o2 (x1.tr x2) (.tup (SqT.of upd_same) ((dpa_rev ha).up x2)) q1⟩
/-! ### str(i) -/
def dStrI : List D → D → Prop := fun xs z => ∃ i : Int, xs = [.int i] ∧ i.natAbs.log2 < 1920 ∧ z = .str (toString i)
theorem snd_strI {K : PySem.W.Frag} : SndCl K (fun xs H Q => ∃ i : Int, xs = [.int i] ∧ i.natAbs.log2 < 1920 ∧ Q (.str (toString i)) H) dStrI := by
  rintro H I xs ds z iH hx ⟨i, rfl, hl, rfl⟩ Q k
  cases hx with
  | cons h t => cases t; cases h; exact ⟨i, rfl, hl, k _ H I (Gr.rf iH) (.str _)⟩
theorem i_strI {i : Int} {z : D} : dStrI [.int i] z ↔ i.natAbs.log2 < 1920 ∧ z = .str (toString i) := by
  constructor
  · rintro ⟨j, h, h1, h2⟩
    injection h with h _
    injection h with h
    subst h; exact ⟨h1, h2⟩
  · exact fun h => ⟨i, rfl, h.1, h.2⟩
end
end Pd

set_option Elab.async false
set_option linter.all false
set_option maxRecDepth 100000
set_option maxHeartbeats 4000000
namespace Pd
open PySem PySem.Spec PyProof.Rows L2
/-! ### values told by data, one to one -/
structure Enc {α : Type} [DecidableEq α] (f : α → D) (n : Nat) : Prop where
  eqv : ∀ a b, PyData.eqv (f a) (f b) = decide (a = b)
  lay : ∀ a, PyData.canLay0 (f a) = true
  dep : ∀ a, PyData.depth (f a) ≤ n
section
variable {α : Type} [DecidableEq α] {f : α → D} {n : Nat}
theorem Enc.eqvs (h : Enc f n) : ∀ as bs : List α, PyData.eqvAll (as.map f) (bs.map f) = decide (as = bs)
  | [], [] => rfl
  | [], _ :: _ => rfl
  | _ :: _, [] => rfl
  | a :: as, b :: bs => by
    show (PyData.eqv (f a) (f b) && PyData.eqvAll (as.map f) (bs.map f)) = _
    rw [h.eqv, h.eqvs as bs, ← Bool.decide_and]
    exact decide_eq_decide.mpr (by rw [List.cons.injEq])
theorem Enc.lays (h : Enc f n) : ∀ as : List α, PyData.canLayAll0 (as.map f) = true
  | [] => rfl
  | a :: as => by
    show (PyData.canLay0 (f a) && PyData.canLayAll0 (as.map f)) = true
    rw [h.lay, h.lays as]; rfl
theorem Enc.deps (h : Enc f n) : ∀ as : List α, PyData.depthAll (as.map f) ≤ n
  | [] => Nat.zero_le _
  | a :: as => by
    show max (PyData.depth (f a)) (PyData.depthAll (as.map f)) ≤ n
    have := h.dep a
    have := h.deps as
    omega
theorem Enc.tup (h : Enc f n) : Enc (fun as : List α => .tuple (as.map f)) (n + 1) := ⟨h.eqvs, h.lays, fun as => Nat.succ_le_succ (h.deps as)⟩
theorem Enc.lst (h : Enc f n) : Enc (fun as : List α => .list (as.map f)) (n + 1) := ⟨h.eqvs, h.lays, fun as => Nat.succ_le_succ (h.deps as)⟩
theorem Enc.shaped (h : Enc f n) (hn : n ≤ 64) (a : α) : SeqAt.shaped (f a) = true := by
  show (PyData.canLay0 (f a) && decide (PyData.depth (f a) ≤ 64)) = true
  rw [h.lay, decide_eq_true (Nat.le_trans (h.dep a) hn)]; rfl
theorem Enc.eq (h : Enc f n) (hn : n ≤ 64) {a b : α} {z : D} : dEq (f a) (f b) z ↔ z = .bool (decide (a = b)) := by
  unfold dEq
  rw [h.eqv]
  exact ⟨fun q => q.2.2, fun q => ⟨h.shaped hn a, h.shaped hn b, q⟩⟩
theorem Enc.ne (h : Enc f n) (hn : n ≤ 64) {a b : α} {z : D} : dNe (f a) (f b) z ↔ z = .bool (decide (a ≠ b)) := by
  unfold dNe
  rw [h.eqv, decide_not]
  exact ⟨fun q => q.2.2, fun q => ⟨h.shaped hn a, h.shaped hn b, q⟩⟩
end
theorem encI : Enc PyData.int 0 := ⟨fun _ _ => eqv_int, fun _ => rfl, fun _ => Nat.le_refl _⟩
theorem encR : Enc rowD 1 := encI.tup
theorem encRs : Enc (fun rs : List (List Int) => .tuple (rs.map rowD)) 2 := encR.tup
theorem encRl : Enc (fun rs : List (List Int) => .list (rs.map rowD)) 2 := encR.lst
/-! ### all, any of what a list tells -/
theorem bools_inj : ∀ {as bs : List Bool}, as.map PyData.bool = bs.map PyData.bool → as = bs
  | [], [], _ => rfl
  | [], _ :: _, h => by cases h
  | _ :: _, [], h => by cases h
  | a :: as, b :: bs, h => by
    simp only [List.map_cons, List.cons.injEq, PyData.bool.injEq] at h
    rw [h.1, bools_inj h.2]
theorem all_map {α : Type} {xs : List α} {f : α → Bool} {z : D} : dAll [.list (xs.map fun x => .bool (f x))] z ↔ z = .bool (xs.all f) := by
  constructor
  · rintro ⟨bs, h, rfl⟩
    have h1 : (xs.map f).map PyData.bool = bs.map .bool := by
      injection h with h _
      injection h with h
      rw [List.map_map]; exact h
    rw [← bools_inj h1, List.all_map]; rfl
  · rintro rfl
    exact ⟨xs.map f, by rw [List.map_map]; rfl, by rw [List.all_map]; rfl⟩
theorem any_map {α : Type} {xs : List α} {f : α → Bool} {z : D} : dAny [.list (xs.map fun x => .bool (f x))] z ↔ z = .bool (xs.any f) := by
  constructor
  · rintro ⟨bs, h, rfl⟩
    have h1 : (xs.map f).map PyData.bool = bs.map .bool := by
      injection h with h _
      injection h with h
      rw [List.map_map]; exact h
    rw [← bools_inj h1, List.any_map]; rfl
  · rintro rfl
    exact ⟨xs.map f, by rw [List.map_map]; rfl, by rw [List.any_map]; rfl⟩
/-! ### slices -/
theorem cut_from {α : Type} {xs : List α} {k : Nat} : cutA xs (some (k : Int)) none = xs.drop k := by
  unfold cutA
  rw [HT.sIx_none, HT.sIx_nat]
  by_cases h : k ≤ xs.length
  · rw [Nat.min_eq_left h]
    exact List.take_of_length_le (by rw [List.length_drop]; omega)
  · rw [Nat.min_eq_right (by omega), List.drop_length, List.drop_of_length_le (by omega)]
    exact List.take_nil
theorem cut_to {α : Type} {xs : List α} {k : Nat} : cutA xs none (some (k : Int)) = xs.take k := by
  unfold cutA
  rw [HT.sIx_none, HT.sIx_nat]
  show (xs.take (min k xs.length - 0)) = _
  rw [Nat.sub_zero]; exact List.take_eq_take_min.symm
/-! ### neighbours -/
theorem adj {α : Type} {R : α → α → Bool} (tr : ∀ a b c, R a b = true → R b c = true → R a c = true) : ∀ l : List α, ((l.zip (l.drop 1)).all fun p => R p.1 p.2) = true ↔ l.Pairwise fun a b => R a b = true
  | [] => by simp
  | [a] => by simp
  | a :: b :: l => by
    have ih := adj tr (b :: l)
    have e : ((a :: b :: l).zip ((a :: b :: l).drop 1)) = (a, b) :: ((b :: l).zip ((b :: l).drop 1)) := rfl
    rw [e, List.all_cons, Bool.and_eq_true, ih]
    constructor
    · rintro ⟨h, p⟩
      refine List.pairwise_cons.mpr ⟨fun c hc => ?_, p⟩
      rcases List.mem_cons.mp hc with rfl | hc
      · exact h
      · exact tr a b c h ((List.pairwise_cons.mp p).1 c hc)
    · intro q
      obtain ⟨h, p⟩ := List.pairwise_cons.mp q
      exact ⟨h b List.mem_cons_self, p⟩
theorem lex_trans' {a b c : List Int} (h1 : HT.lexLt a b = true) (h2 : HT.lexLt b c = true) : HT.lexLt a c = true := (NtL.swo_lexL (fun x : List Int => x)).ltle (x := a) (y := b) (z := c) h1 (NtL.lex_asym _ _ h2)
theorem zip_map2 {α : Type} {f : α → D} : ∀ (as bs : List α), zipD (as.map f) (bs.map f) = (as.zip bs).map fun p => .tuple [f p.1, f p.2]
  | [], bs => by cases bs <;> rfl
  | _ :: _, [] => rfl
  | a :: as, b :: bs => by
    show PyData.tuple [f a, f b] :: zipD (as.map f) (bs.map f) = _
    rw [zip_map2 as bs]; rfl
end Pd

set_option Elab.async false
set_option linter.all false
set_option maxRecDepth 100000
set_option maxHeartbeats 4000000
namespace Pd
open PySem PySem.Spec PyProof.Rows L2
/-! ### comprehensions that draw from the jug -/
abbrev jl (g m c : Int) : List D := [.int g, .int m, .int c]
abbrev jg (g m c : Int) (R : En) : En := .own (jl g m c) :: R
theorem bak_jg {j : Nat} {g m c g' m' c' : Int} {R : En} : bak [j + 1] (jg g m c R) (jg g' m' c' (R.set j .un)) = jg g' m' c' R := by
  refine List.ext_getElem? fun i => ?_
  unfold bak
  rw [List.getElem?_map]
  cases i with
  | zero => simp [List.mem_singleton]
  | succ i =>
    by_cases hi : i < R.length
    · rw [List.getElem?_range (by simpa using hi), List.getElem?_cons_succ, List.getElem?_eq_getElem hi, Option.map_some]
      by_cases e : i = j
      · subst e
        rw [if_pos (List.mem_singleton.mpr rfl), List.getD_cons_succ, List.getD_eq_getElem?_getD, List.getElem?_eq_getElem hi]; rfl
      · rw [if_neg (by rw [List.mem_singleton]; omega), List.getD_cons_succ, List.getD_eq_getElem?_getD, List.getElem?_set_ne (by omega), List.getElem?_eq_getElem hi]; rfl
    · rw [List.getElem?_eq_none (by rw [List.length_range, List.length_cons, List.length_set]; omega), List.getElem?_eq_none (by rw [List.length_cons]; omega)]; rfl
theorem free_jg {j : Nat} {en : En} : FreeS en [j + 1] := free_of fun v hv => by rw [List.mem_singleton] at hv; omega
/-- with a test -/
theorem lcJ {j : Nat} {t : WT} {w : WE} {P : D → D → Prop} {R : En} : ∀ (xs acc : List D) (g m c : Int) {Q : List D → En → Prop},
    (∀ x ∈ xs, ∀ (g m c : Int) (Q' : Bool → En → Prop), (∀ (b : Bool) (g m c : Int), Q' b (jg g m c (R.set j (.imm x)))) → t (jg g m c (R.set j (.imm x))) Q') →
    (∀ x ∈ xs, ∀ (g m c : Int) (Q' : D → En → Prop), (∀ (y : D) (g m c : Int), P x y → Q' y (jg g m c (R.set j (.imm x)))) → w (jg g m c (R.set j (.imm x))) Q') →
    (∀ (zs : List (D × D)) (g m c : Int), (zs.map Prod.fst).Sublist xs → (∀ z ∈ zs, P z.1 z.2) → Q (acc ++ zs.map Prod.snd) (jg g m c (R.set j .un))) → lcW (wgN (j + 1)) t w [j + 1] xs acc (jg g m c (R.set j .un)) Q
  | [], acc, g, m, c, Q, _, _, q => by
    have := q [] g m c (List.Sublist.refl _) (fun _ h => by cases h)
    rw [List.map_nil, List.append_nil] at this; exact this
  | x :: xs, acc, g, m, c, Q, ht, hw, q => by
    refine ⟨Or.inl (by omega), ?_⟩
    show t (.own (jl g m c) :: (R.set j .un).set j (.imm x)) _
    rw [List.set_set]
    refine ht x List.mem_cons_self g m c _ fun b g m c => ⟨free_jg, ?_⟩
    have rec_ := fun acc => lcJ (j := j) (t := t) (w := w) (P := P) (R := R) xs acc
    cases b with
    | true =>
      rw [if_pos rfl]
      refine hw x List.mem_cons_self g m c _ fun y g m c hy => ⟨free_jg, ?_⟩
      show lcW _ _ _ _ _ _ (.own (jl g m c) :: (R.set j (.imm x)).set j .un) _
      rw [List.set_set]
      refine rec_ _ g m c (fun z hz => ht z (List.mem_cons_of_mem _ hz)) (fun z hz => hw z (List.mem_cons_of_mem _ hz)) fun zs g m c h1 h2 => ?_
      rw [List.append_assoc]
      refine q ((x, y) :: zs) g m c (List.Sublist.cons_cons _ h1) fun z hz => ?_
      rcases List.mem_cons.mp hz with rfl | hz
      · exact hy
      · exact h2 z hz
    | false =>
      rw [if_neg (by decide)]
      show lcW _ _ _ _ _ _ (.own (jl g m c) :: (R.set j (.imm x)).set j .un) _
      rw [List.set_set]
      exact rec_ _ g m c (fun z hz => ht z (List.mem_cons_of_mem _ hz)) (fun z hz => hw z (List.mem_cons_of_mem _ hz)) fun zs g m c h1 h2 => q zs g m c (List.Sublist.cons _ h1) h2
/-- without a test -/
theorem lcJY {j : Nat} {w : WE} {P : D → D → Prop} {R : En} : ∀ (xs acc : List D) (g m c : Int) {Q : List D → En → Prop},
    (∀ x ∈ xs, ∀ (g m c : Int) (Q' : D → En → Prop), (∀ (y : D) (g m c : Int), P x y → Q' y (jg g m c (R.set j (.imm x)))) → w (jg g m c (R.set j (.imm x))) Q') →
    (∀ (zs : List (D × D)) (g m c : Int), zs.map Prod.fst = xs → (∀ z ∈ zs, P z.1 z.2) → Q (acc ++ zs.map Prod.snd) (jg g m c (R.set j .un))) → lcW (wgN (j + 1)) wYes w [j + 1] xs acc (jg g m c (R.set j .un)) Q
  | [], acc, g, m, c, Q, _, q => by
    have := q [] g m c rfl (fun _ h => by cases h)
    rw [List.map_nil, List.append_nil] at this; exact this
  | x :: xs, acc, g, m, c, Q, hw, q => by
    refine ⟨Or.inl (by omega), ?_⟩
    show FreeS _ _ ∧ if true = true then w (.own (jl g m c) :: (R.set j .un).set j (.imm x)) _ else _
    rw [List.set_set, if_pos rfl]
    refine ⟨free_jg, hw x List.mem_cons_self g m c _ fun y g m c hy => ⟨free_jg, ?_⟩⟩
    show lcW _ _ _ _ _ _ (.own (jl g m c) :: (R.set j (.imm x)).set j .un) _
    rw [List.set_set]
    refine lcJY (j := j) (w := w) (P := P) (R := R) xs _ g m c (fun z hz => hw z (List.mem_cons_of_mem _ hz)) fun zs g m c h1 h2 => ?_
    rw [List.append_assoc]
    refine q ((x, y) :: zs) g m c (by rw [List.map_cons, h1]) fun z hz => ?_
    rcases List.mem_cons.mp hz with rfl | hz
    · exact hy
    · exact h2 z hz
/-- ascending ints with the same members are one -/
theorem int_ext : ∀ {as bs : List Int}, as.Pairwise (· < ·) → bs.Pairwise (· < ·) → (∀ r, r ∈ as ↔ r ∈ bs) → as = bs
  | [], [], _, _, _ => rfl
  | [], b :: bs, _, _, h => absurd ((h b).mpr List.mem_cons_self) (by simp)
  | a :: as, [], _, _, h => absurd ((h a).mp List.mem_cons_self) (by simp)
  | a :: as, b :: bs, h1, h2, h => by
    obtain ⟨p1, q1⟩ := List.pairwise_cons.mp h1
    obtain ⟨p2, q2⟩ := List.pairwise_cons.mp h2
    have e : a = b := by
      rcases List.mem_cons.mp ((h a).mp List.mem_cons_self) with e | m
      · exact e
      · rcases List.mem_cons.mp ((h b).mpr List.mem_cons_self) with e | m2
        · exact e.symm
        · have z1 := p2 a m
          have z2 := p1 b m2
          omega
    subst e
    rw [int_ext q1 q2 fun r => ⟨fun m => ?_, fun m => ?_⟩]
    · rcases List.mem_cons.mp ((h r).mp (List.mem_cons_of_mem _ m)) with e | m2
      · have := p1 r m; omega
      · exact m2
    · rcases List.mem_cons.mp ((h r).mpr (List.mem_cons_of_mem _ m)) with e | m2
      · have := p2 r m; omega
      · exact m2
/-- a list without doubles within another is no longer -/
theorem nodup_le {α : Type} [DecidableEq α] : ∀ {l m : List α}, l.Nodup → (∀ x ∈ l, x ∈ m) → l.length ≤ m.length
  | [], _, _, _ => Nat.zero_le _
  | x :: l, m, h, hs => by
    obtain ⟨h1, h2⟩ := List.nodup_cons.mp h
    have hx : x ∈ m := hs x List.mem_cons_self
    have := nodup_le (l := l) (m := m.erase x) h2 fun y hy => (List.mem_erase_of_ne (fun e => by subst e; exact h1 hy)).mpr (hs y (List.mem_cons_of_mem _ hy))
    rw [List.length_erase_of_mem hx] at this
    have hp := List.length_pos_of_mem hx
    rw [List.length_cons]; omega
theorem asc_nodup {rs : List (List Int)} (h : AscS rs) : rs.Nodup := List.Pairwise.imp (fun h => lex_ne h) h
end Pd

set_option Elab.async false
set_option linter.all false
set_option maxRecDepth 100000
set_option maxHeartbeats 4000000
namespace Pd
open PySem PySem.Spec PyProof.Rows L2
/-! ### lists of one's own as arguments: lent for the call -/
/-- data, or the slot of a list of one's own -/
inductive Arg where
  | d (x : D)
  | o (j : Nat)
inductive DB (K : PySem.W.Frag) (I : Hp) (σ : Sg) : List V → List Arg → Prop
  | nil : DB K I σ [] []
  | d {v : V} {x : D} {vs : List V} {as : List Arg} : Da K I v x → DB K I σ vs as → DB K I σ (v :: vs) (.d x :: as)
  | o {v : V} {j : Nat} {vs : List V} {as : List Arg} : σ[j]? = some (some v) → DB K I σ vs as → DB K I σ (v :: vs) (.o j :: as)
abbrev WB := En → (List Arg → En → Prop) → Prop
def lB (K : PySem.W.Frag) (ζ : Zt) (w : WB) : TA := fun σ H Q => ∃ (G : Gh) (en : En) (I : Hp) (Q' : List Arg → En → Prop), Ok K ζ G σ en H I ∧ w en Q' ∧
  ∀ vs H' I' en' as, Ok K ζ G σ en' H' I' → Ex I I' → DB K I' σ vs as → Q' as en' → Q vs H'
def wBNil : WB := fun en Q => Q [] en
def wBCons (w : WE) (r : WB) : WB := fun en Q => w en fun d e1 => r e1 fun as e2 => Q (.d d :: as) e2
def wBOwn (j : Nat) (r : WB) : WB := fun en Q => (∃ xs, en[j]? = some (.own xs)) ∧ r en fun as e2 => Q (.o j :: as) e2
section
variable {X : Cx} {e : Expr} {es : List Expr}
theorem b_nil : PA X [] (lB X.K ζ wBNil) := pa_nil.mo fun σ H Q ⟨G, en, I, Q', o, q, k⟩ => k [] H I en [] o (Ex.rf I) .nil q
theorem b_cons {w : WE} {r : WB} (ha : PE X e (lE X.K ζ w)) (hr : PA X es (lB X.K ζ r)) (hs : starEach (e :: es) X.env = (false, eval e X.env) :: starEach es X.env := by rfl) : PA X (e :: es) (lB X.K ζ (wBCons w r)) :=
  (pa_cons ha hr hs).mo fun σ H Q ⟨G, en, I, Q', o, q, k⟩ => ⟨G, en, I, _, o, q, fun v H1 I1 e1 d o1 x1 dv q1 => ⟨G, e1, I1, _, o1, q1, fun vs H2 I2 e2 as o2 x2 dvs q2 => k (v :: vs) H2 I2 e2 (.d d :: as) o2 (x1.tr x2) (.d (dv.up x2) dvs) q2⟩⟩
theorem b_own {j : Nat} {r : WB} (ha : PE X e (tVar j)) (hr : PA X es (lB X.K ζ r)) (hs : starEach (e :: es) X.env = (false, eval e X.env) :: starEach es X.env := by rfl) : PA X (e :: es) (lB X.K ζ (wBOwn j r)) :=
  (pa_cons ha hr hs).mo fun σ H Q ⟨G, en, I, Q', o, ⟨⟨xs, hx⟩, q⟩, k⟩ => by
    obtain ⟨l, _, hl, _⟩ := o.own hx
    exact ⟨.ref l, hl, G, en, I, _, o, q, fun vs H2 I2 e2 as o2 x2 dvs q2 => k (.ref l :: vs) H2 I2 e2 (.o j :: as) o2 x2 (.o hl dvs) q2⟩
end
mutual
def noL : D → Bool
  | .list _ => false
  | .tuple xs => noLs xs
  | .dict (_ :: _) => false
  | _ => true
def noLs : List D → Bool
  | [] => true
  | x :: xs => noL x && noLs xs
end
section
variable {K : PySem.W.Frag} {I' I2 : Hp}
mutual
theorem da_thaw (e : ∀ b o, I' b = some o → (∀ ys, o ≠ .lst ys) → I2 b = some o) : ∀ (d : D) (v : V), noL d = true → Da K I' v d → Da K I2 v d
  | .none, _, _, h => by cases h; exact .non
  | .bool b, _, _, h => by cases h; exact .bl b
  | .int i, _, _, h => by cases h; exact .int i
  | .str x, _, _, h => by cases h; exact .str x
  | .list ds, _, c, _ => by cases c
  | .tuple ds, _, c, h => by
    cases h with
    | tup hs ha =>
      refine .tup ?_ (daa_thaw e ds _ c ha)
      rcases hs with (hs | ⟨o, hs⟩) | hs
      · exact Or.inl (Or.inl (e _ _ hs fun _ z => by cases z))
      · exact Or.inl (Or.inr ⟨o, e _ _ hs fun _ z => by cases z⟩)
      · exact Or.inr hs
  | .dict _, _, c, h => by
    cases h with
    | dic h => exact .dic (e _ _ h fun _ z => by cases z)
    | obj _ h _ _ => cases c
theorem daa_thaw (e : ∀ b o, I' b = some o → (∀ ys, o ≠ .lst ys) → I2 b = some o) : ∀ (ds : List D) (vs : List V), noLs ds = true → DaAll K I' vs ds → DaAll K I2 vs ds
  | [], _, _, h => by cases h; exact .nil
  | d :: ds, _, c, h => by
    have c' : (noL d && noLs ds) = true := c
    rw [Bool.and_eq_true] at c'
    cases h with
    | cons h1 h2 => exact .cons (da_thaw e d _ c'.1 h1) (daa_thaw e ds _ c'.2 h2)
end
end
/-- the address of a list of one's own, but that at the slot i0 -/
def OwnBut (σ : Sg) (en : En) (i0 : Option Nat) (a : Addr) : Prop := ∃ i, i0 ≠ some i ∧ OwnAt σ en i a
open Classical in
noncomputable def lent (σ : Sg) (en : En) (H I : Hp) (i0 : Option Nat) : Hp := fun a => if OwnBut σ en i0 a then H a else I a
open Classical in
noncomputable def thaw (σ : Sg) (en : En) (I' : Hp) (i0 : Option Nat) : Hp := fun a => if OwnBut σ en i0 a then none else I' a
section
variable {K : PySem.W.Frag} {G : Gh} {σ : Sg} {en : En} {H I H' I' : Hp} {i0 : Option Nat}
theorem own_at (o : Ok K ζ G σ en H I) {i : Nat} {a : Addr} (h : OwnAt σ en i a) : ∃ vs, I a = none ∧ H a = some (.lst vs) := by
  obtain ⟨h1, ds, h2⟩ := h
  obtain ⟨l, vs, r1, r2, r3, _⟩ := o.own h2
  rw [h1] at r1
  injection r1 with r1
  injection r1 with r1
  injection r1 with r1
  subst r1
  exact ⟨vs, r2, r3⟩
theorem lent_up (o : Ok K ζ G σ en H I) : Ex I (lent σ en H I i0) := fun a u h => by
  have hno : ¬ OwnBut σ en i0 a := fun ⟨i, _, hi⟩ => by
    obtain ⟨vs, h1, _⟩ := own_at o hi
    rw [h1] at h; cases h
  unfold lent
  rw [if_neg hno]
  exact h
theorem lent_in (o : Ok K ζ G σ en H I) : Ex (lent σ en H I i0) H := fun a u h => by
  unfold lent at h
  split at h
  · exact h
  · exact o.iH a u h
theorem thaw_up (o : Ok K ζ G σ en H I) (e : Ex (lent σ en H I i0) I') : Ex I (thaw σ en I' i0) := fun a u h => by
  have h1 := e a u (lent_up o a u h)
  have hno : ¬ OwnBut σ en i0 a := fun ⟨i, _, hi⟩ => by
    obtain ⟨vs, h2, _⟩ := own_at o hi
    rw [h2] at h; cases h
  unfold thaw
  rw [if_neg hno]
  exact h1
theorem thaw_in (e : Ex I' H') : Ex (thaw σ en I' i0) H' := fun a u h => by
  unfold thaw at h
  split at h
  · cases h
  · exact e a u h
theorem thaw_n (n : ∀ a, I' a ≠ none → lent σ en H I i0 a = none → H a = none) : ∀ a, thaw σ en I' i0 a ≠ none → I a = none → H a = none := fun a h1 h2 => by
  unfold thaw at h1
  split at h1
  · exact absurd rfl h1
  · rename_i hn
    refine n a h1 ?_
    unfold lent
    rw [if_neg hn]; exact h2
theorem thaw_e (o : Ok K ζ G σ en H I) (e : Ex (lent σ en H I i0) I') : ∀ b u, I' b = some u → (∀ ys, u ≠ .lst ys) → thaw σ en I' i0 b = some u := fun b u h hn => by
  have hno : ¬ OwnBut σ en i0 b := fun z => by
    obtain ⟨i, hi0, hi⟩ := z
    obtain ⟨vs, h1, h2⟩ := own_at o hi
    have h3 : lent σ en H I i0 b = some (.lst vs) := by
      unfold lent
      rw [if_pos ⟨i, hi0, hi⟩]; exact h2
    rw [e b _ h3] at h
    injection h with h
    exact hn vs h.symm
  unfold thaw
  rw [if_neg hno]
  exact h
/-- the arguments, told by data -/
def rsvP (en : En) : List Arg → (List D → Prop) → Prop
  | [], P => P []
  | .d x :: as, P => rsvP en as fun ds => P (x :: ds)
  | .o j :: as, P => ∃ xs, en[j]? = some (.own xs) ∧ rsvP en as fun ds => P (.list xs :: ds)
def rsvJ (i : Nat) (en : En) : List Arg → (List D → Prop) → Prop
  | [], P => P []
  | .d x :: as, P => rsvJ i en as fun ds => P (x :: ds)
  | .o j :: as, P => j ≠ i ∧ ∃ xs, en[j]? = some (.own xs) ∧ rsvJ i en as fun ds => P (.list xs :: ds)
theorem lent_da (o : Ok K ζ G σ en H I) {j : Nat} {v : V} {xs : List D} (hj : i0 ≠ some j) (h : σ[j]? = some (some v)) (h2 : en[j]? = some (.own xs)) : Da K (lent σ en H I i0) v (.list xs) := by
  obtain ⟨l, vs, r1, r2, r3, r4⟩ := o.own h2
  rw [h] at r1
  injection r1 with r1
  injection r1 with r1
  subst r1
  refine .lst ?_ (r4.up (lent_up o))
  unfold lent
  rw [if_pos ⟨j, hj, h, xs, h2⟩]; exact r3
theorem rsvP_ok (o : Ok K ζ G σ en H I) : ∀ {as : List Arg} {vs : List V} {P : List D → Prop}, DB K I σ vs as → rsvP en as P → ∃ ds, DaAll K (lent σ en H I none) vs ds ∧ P ds
  | [], _, _, .nil, h => ⟨[], .nil, h⟩
  | .d x :: as, _, _, .d hv hs, h => by
    obtain ⟨ds, h1, h2⟩ := rsvP_ok o hs h
    exact ⟨_, .cons (hv.up (lent_up o)) h1, h2⟩
  | .o j :: as, _, _, .o hv hs, ⟨xs, hx, h⟩ => by
    obtain ⟨ds, h1, h2⟩ := rsvP_ok o hs h
    exact ⟨_, .cons (lent_da o (by intro z; cases z) hv hx) h1, h2⟩
theorem rsvJ_ok {i : Nat} (o : Ok K ζ G σ en H I) : ∀ {as : List Arg} {vs : List V} {P : List D → Prop}, DB K I σ vs as → rsvJ i en as P → ∃ ds, DaAll K (lent σ en H I (some i)) vs ds ∧ P ds
  | [], _, _, .nil, h => ⟨[], .nil, h⟩
  | .d x :: as, _, _, .d hv hs, h => by
    obtain ⟨ds, h1, h2⟩ := rsvJ_ok o hs h
    exact ⟨_, .cons (hv.up (lent_up o)) h1, h2⟩
  | .o j :: as, _, _, .o hv hs, ⟨hj, xs, hx, h⟩ => by
    obtain ⟨ds, h1, h2⟩ := rsvJ_ok o hs h
    exact ⟨_, .cons (lent_da o (fun z => hj (by injection z with z; exact z.symm)) hv hx) h1, h2⟩
end
def wFnB (n : Nat) (wf : WF) (w : WB) : WE := fun en Q => w en fun as e1 => rsvP e1 as fun ds => ds.length = n ∧ wf ds fun d => noL d = true ∧ Q d e1
def wFnJB (i n : Nat) (wf : WJ) (w : WB) : WE := fun en Q => (∃ dj, en[i]? = some (.own dj)) ∧ w en fun as e1 => rsvJ i e1 as fun ds => ds.length + 1 = n ∧ ∃ dj, e1[i]? = some (.own dj) ∧ wf dj ds fun d dj' => noL d = true ∧ noLs dj' = true ∧ Q d (e1.set i (.own dj'))
section
variable {X : Cx} {e : Expr} {es : List Expr} {pos p : Pos} {x : Str} {k n : Nat} {ps : List Str}
theorem c_callB {wf : WF} {w : WB} (C : Cal X.prog X.w X.K X.mg X.base k x ps (spP X.K n wf)) (hr : Room k X.A) (ha : PA X (e :: es) (lB X.K ζ w)) (hg : Gl X x := by rfl)
    (hdb : (x == ("__debug__" : Str)) = false := by decide) (he : starEach (e :: es) X.env = (false, eval e X.env) :: starEach es X.env := by rfl) (hpl : (backTo pos (starEach es X.env)).any (·.1) = false := by rfl) :
    PE X (.Call (.Name x p) (e :: es) [] pos) (lE X.K ζ (wFnB n wf w)) := by
  obtain ⟨f, fd, F, hm, hk, hb⟩ := C
  exact (pe_call F hr hg hm hk hb .nil pass0 ha hdb he hpl).mo fun σ H Q ⟨G, en, I, Q', o, q, k⟩ => ⟨G, en, I, _, o, q, fun vs H1 I1 e1 as o1 x1 dvs q1 => by
    obtain ⟨ds, d1, hn, q2⟩ := rsvP_ok o1 dvs q1
    refine ⟨lent σ e1 H1 I1 none, ds, _, lent_in o1, by rw [List.append_nil]; exact d1, hn, q2, fun v H2 I2 d g dv ⟨q3, q4⟩ => ?_⟩
    exact k v H2 (thaw σ e1 I2 none) e1 d (o1.grow g.h (thaw_up o1 g.i) (thaw_in g.s) (thaw_n g.n)) (x1.tr (thaw_up o1 g.i)) (da_thaw (thaw_e o1 g.i) d v q3 dv) q4⟩
theorem c_callJB {wf : WJ} {w : WB} {i : Nat} (C : Cal X.prog X.w X.K X.mg X.base k x ps (spJ X.K n wf)) (hr : Room k X.A) (h0 : PE X e (tVar i)) (ha : PA X es (lB X.K ζ w)) (hg : Gl X x := by rfl)
    (hdb : (x == ("__debug__" : Str)) = false := by decide) (he : starEach (e :: es) X.env = (false, eval e X.env) :: starEach es X.env := by rfl) (hpl : (backTo pos (starEach es X.env)).any (·.1) = false := by rfl) :
    PE X (.Call (.Name x p) (e :: es) [] pos) (lE X.K ζ (wFnJB i n wf w)) := by
  obtain ⟨f, fd, F, hm, hk, hb⟩ := C
  exact (pe_call F hr hg hm hk hb .nil pass0 (pa_cons h0 ha he) hdb he hpl).mo fun σ H Q ⟨G, en, I, Q', o, ⟨⟨dj0, hj0⟩, q⟩, k⟩ => by
    have key : ∀ (j : Addr), σ[i]? = some (some (.ref j)) → lB X.K ζ w σ H fun vs H1 => spJ X.K n wf ((V.ref j :: vs) ++ []) H1 Q E0 := fun j hj => by
      refine ⟨G, en, I, _, o, q, fun vs H1 I1 e1 as o1 x1 dvs q1 => ?_⟩
      obtain ⟨ds, d1, hn, dj, hd, q2⟩ := rsvJ_ok o1 dvs q1
      obtain ⟨l, vj, r1, r2, r3, r4⟩ := o1.own hd
      rw [hj] at r1
      have q5 : j = l := by injection r1 with r1; injection r1 with r1; injection r1
      subst q5
      have hjn : lent σ e1 H1 I1 (some i) j = none := by
        have hno : ¬ OwnBut σ e1 (some i) j := fun ⟨i', hi', ho⟩ => hi' (by rw [o1.ds i i' j ⟨hj, dj, hd⟩ ho])
        unfold lent
        rw [if_neg hno]
        exact r2
      refine ⟨j, vj, dj, vs, ds, lent σ e1 H1 I1 (some i), _, by rw [List.append_nil], hjn, r3, r4.up (lent_up o1), lent_in o1, d1, hn, q2, fun v H2 I2 d vj' dj' k1 k2 k3 k4 k5 k6 k7 ⟨k8, k9, k10⟩ => ?_⟩
      exact k v H2 (thaw σ e1 I2 (some i)) _ d (o1.turn ⟨hj, dj, hd⟩ k1 (thaw_up o1 k2) (thaw_in k3) (thaw_n k4) k5 (daa_thaw (thaw_e o1 k2) dj' vj' k9 k6)) (x1.tr (thaw_up o1 k2)) (da_thaw (thaw_e o1 k2) d v k8 k7) k10
    obtain ⟨j, _, hj, _⟩ := o.own hj0
    exact ⟨.ref j, hj, key j hj⟩
end
end Pd

set_option Elab.async false
set_option linter.all false
set_option maxRecDepth 100000
set_option maxHeartbeats 4000000
namespace Pd
open PySem PySem.Spec PyProof.Rows L2
/-! ### zip of a list with a tuple -/
def ItzM (K : PySem.W.Frag) (a b : Addr) : It :=
  ⟨fun i H => ∃ (us vs : List V) (u v : V), SqL K H a us ∧ SqT K H b vs ∧ us[i]? = some u ∧ vs[i]? = some v,
    fun i H y H' => ∃ T u v, y = .ref T ∧ H T = none ∧ H' = upd H T (.tup [u, v]) ∧ (∀ us, SqL K H a us → us[i]? = some u) ∧ ∀ vs, SqT K H b vs → vs[i]? = some v,
    fun i H => ∃ us vs : List V, SqL K H a us ∧ SqT K H b vs ∧ i ≤ us.length ∧ i ≤ vs.length ∧ (i = us.length ∨ i = vs.length)⟩
theorem sepM {z TI TO i1 i2 a b : Addr} (D : ZipApart z TI TO i1 i2 a b) : ZipSep2 z TI TO i1 i2 [i1, a] [i2, b] where
  TIz := D.TIz
  TOz := D.TOz
  TITO := D.TITO
  TIi1 := D.TIi1
  mem1 := List.mem_cons_self
  zf1 := by simp [D.i1z.symm, D.l1z.symm]
  Tf1 := by simp [D.TOi1, D.l1TO.symm]
  TIi2 := D.TIi2
  mem2 := List.mem_cons_self
  zf2 := by simp [D.i2z.symm, D.l2z.symm]
  Tf2 := by simp [D.TOi2, D.l2TO.symm]
  sep1_2 := by simp [D.i12, D.l2i1.symm]
  sep2_1 := by simp [D.i12.symm, D.l1i2.symm]
theorem turn_zipM {P : Program} {w : World} {K : PySem.W.Frag} {elts : List Expr} {kk : Nat} {tpos : Pos} {a b z TI TO i1 i2 : Addr} (D : ZipApart z TI TO i1 i2 a b) :
    Turn P w K (.Tuple elts kk tpos) (ItzM K a b) [z, TI, TO, i1, i2] z (fun i h => IsZip h z TI TO .none ∧ IsTupOf2 h TI (.ref i1) (.ref i2) ∧ (∃ p q, IsTupOf2 h TO p q) ∧ h.IsListIter i1 a i ∧ h.IsTupleIter i2 b i) where
  mem := by simp
  obj := fun i h st c hc => by
    obtain ⟨sz, sI, ⟨p, q, sO⟩, ⟨u1, r1, _, d1⟩, ⟨u2, r2, _, d2⟩⟩ := st
    rcases (by simpa using hc : c = z ∨ c = TI ∨ c = TO ∨ c = i1 ∨ c = i2) with g | g | g | g | g
    · subst g
      exact ⟨_, sz, fun v n => nomatch n⟩
    · subst g
      exact ⟨_, sI, fun v n => nomatch n⟩
    · subst g
      exact ⟨_, sO, fun v n => nomatch n⟩
    · subst g
      exact ⟨u1, r1, fun v n => by rw [d1] at n; cases n⟩
    · subst g
      exact ⟨u2, r2, fun v n => by rw [d2] at n; cases n⟩
  keep := fun i h h' st kp => by
    obtain ⟨sz, sI, ⟨p, q, sO⟩, s1, s2⟩ := st
    refine ⟨kp z (by simp) _ sz, kp TI (by simp) _ sI, ⟨p, q, kp TO (by simp) _ sO⟩, ?_, ?_⟩
    · exact s1.at fun o g => kp i1 (by simp) o g
    · exact s2.at fun o g => kp i2 (by simp) o g
  item := by
    intro X hP hw hK hc i pins s σ H E I hf st hg
    subst hP hw hK
    obtain ⟨sz, sI, ⟨p0, q0, sO⟩, s1, s2⟩ := st
    obtain ⟨us, vs, u, v, hqu, hqv, hu, hv⟩ := hg
    obtain ⟨is1, rv1, pl, _⟩ := I.list hqu
    obtain ⟨is2, rv2, pt, _⟩ := I.tuple hqv
    have n1 : i < is1.toArray.size := by
      have := rv1.length
      have := (List.getElem?_eq_some_iff.mp hu).1
      simp; omega
    have n2 : i < is2.toArray.size := by
      have := rv2.length
      have := (List.getElem?_eq_some_iff.mp hv).1
      simp; omega
    have zlt : z < s.heap.objs.size := Heap.lt_size sz
    refine wpAny_pyNext_zipD2_item (sepM D) (Draws.list (A := X.A.in1) (by exact I.ok.hd hc) i1 a D.l1i1 is1.toArray) (Draws.tuple (A := X.A.in1) (by exact I.ok.hd hc) i2 b D.l2i2 is2.toArray) sz sI sO ⟨s1, pl.isList⟩ ⟨s2, pt⟩ n1 n2 fun y1 y2 h' tk hy1 hy2 z' TO' t1 t2 hT hsz hk => ?_
    obtain ⟨v1, gv1, rr1⟩ := rv1.get hu
    obtain ⟨v2, gv2, rr2⟩ := rv2.get hv
    have ey1 : y1 = v1 := by
      have e : is1[i]? = some y1 := by simpa using hy1
      rw [gv1] at e; injection e with e; exact e.symm
    have ey2 : y2 = v2 := by
      have e : is2[i]? = some y2 := by simpa using hy2
      rw [gv2] at e; injection e with e; exact e.symm
    subst ey1 ey2
    refine ⟨_, rfl, wpAny_letOwnedTupleGo_zip (s := { s with heap := h', toks := tk }) z' fun h'' z'' sb => ?_⟩
    have hT2 : h''.get? s.heap.objs.size = some { cls := .type "tuple", data := .seq #[y1, y2] } := (sb.2 _ (Nat.ne_of_gt zlt)).trans hT
    have fresh : ObjOk X.prog X.w (upd H s.heap.objs.size (.tup [u, v])) h'' s.heap.objs.size (.tup [u, v]) := ⟨by show 2 ≤ sizeLine; decide, [y1, y2], .cons rr1 (.cons rr2 .nil), ⟨_, hT2, rfl, _, rfl⟩⟩
    have kept : ∀ c o, c ∉ [z, TI, TO, i1, i2] → s.heap.get? c = some o → h''.get? c = some o := fun c o hb g => (sb.2 c (fun e => hb (by simp [e]))).trans (hk c o (fun e => hb (by simp [e])) (fun e => hb (by simp [e])) (fun e => hb (by simp [e])) (fun e => hb (by simp [e])) g)
    have I1 : Inv X pins σ (upd H s.heap.objs.size (.tup [u, v])) { s with heap := h'', toks := tk } := I.turnedNew (t' := tk) (ch := [z, TI, TO, i1, i2]) kept hf (Nat.le_refl _) fresh
    refine ⟨.ref s.heap.objs.size, _, I1, rfl, ⟨_, u, v, rfl, I.hok.fresh (Nat.le_refl _), rfl, fun l hl => ?_, fun l hl => ?_⟩, ⟨z'', ?_, ⟨y1, y2, ?_⟩, ?_, ?_⟩, fun c hcm => ?_⟩
    · rw [I.list_inj hl hqu]; exact hu
    · rw [I.tuple_inj hl hqv]; exact hv
    · exact (sb.2 _ D.TIz).trans (hk _ _ D.TIz D.TITO D.TIi1 D.TIi2 sI)
    · exact (sb.2 _ D.TOz).trans TO'
    · exact t1.1.at fun o g => (sb.2 _ D.i1z).trans g
    · exact t2.1.at fun o g => (sb.2 _ D.i2z).trans g
    · have below : c < s.heap.objs.size := by
        rcases (by simpa using hcm : c = z ∨ c = TI ∨ c = TO ∨ c = i1 ∨ c = i2) with g | g | g | g | g
        · rw [g]; exact zlt
        · rw [g]; exact Heap.lt_size sI
        · rw [g]; exact Heap.lt_size sO
        · rw [g]; obtain ⟨_, e1, _⟩ := s1; exact Heap.lt_size e1
        · rw [g]; obtain ⟨_, e2, _⟩ := s2; exact Heap.lt_size e2
      rw [upd_ne (Nat.ne_of_lt below)]
      exact (hf c hcm).1
  done := by
    intro X hP hw hK hc i pins s σ H E I hf st hg
    subst hP hw hK
    obtain ⟨sz, sI, ⟨p0, q0, sO⟩, s1, s2⟩ := st
    obtain ⟨us, vs, hqu, hqv, le1, le2, hend⟩ := hg
    obtain ⟨is1, rv1, pl, _⟩ := I.list hqu
    obtain ⟨is2, rv2, pt, _⟩ := I.tuple hqv
    have l1 := rv1.length
    have l2 := rv2.length
    refine wpAny_pyNext_zipD2_end (sepM D) (Draws.list (A := X.A.in1) (by exact I.ok.hd hc) i1 a D.l1i1 is1.toArray) (Draws.tuple (A := X.A.in1) (by exact I.ok.hd hc) i2 b D.l2i2 is2.toArray) sz sI sO ⟨s1, pl.isList⟩ ⟨s2, pt⟩ (by simp; omega) (by simp; omega) (by simp; omega) fun h' tk hk => ⟨rfl, ?_⟩
    exact I.turnedL (t' := tk) (ch := [z, TI, TO, i1, i2]) (fun c o hb g => hk c o (fun e => hb (by simp [e])) (fun e => hb (by simp [e])) (fun e => hb (by simp [e])) (fun e => hb (by simp [e])) g) hf
  self := fun A i s Q E st h => wpAny_pyIter_zip st.1 h
def iZipM (K : PySem.W.Frag) (ta : TA) : TI := fun σ H R => ta σ H fun ws H1 => ∃ a b us vs, ws = [.ref a, .ref b] ∧ SqL K H1 a us ∧ SqT K H1 b vs ∧ R (ItzM K a b) H1
theorem pi_zipM {X : Cx} {e e2 : Expr} {ta : TA} {p pos tpos : Pos} {elts : List Expr} {kk : Nat} (hg : Gl X "zip") (hm : X.mg "zip" = none) (ha : PA X [e, e2] ta)
    (hs : starEach [e, e2] X.env = (false, eval e X.env) :: starEach [e2] X.env := by rfl) (hpl : (backTo pos (starEach [e2] X.env)).any (·.1) = false := by rfl) : PI X (.Tuple elts kk tpos) (.Call (.Name "zip" p) [e, e2] [] pos) (iZipM X.K ta) := by
  refine ⟨fun pins s σ H R I h => Call_ (ld_blt I hg hm PyProof.Rows.boot_zip (PyProof.Rows.callWith_type1 (thn (ha.run pos pins s σ H _ I h) fun ws s1 ⟨xs, H1, I1, r1, q1⟩ => ?_) hs hpl))⟩
  obtain ⟨a, b, us, vs, ex, hqu, hqv, q⟩ := q1
  subst ex
  cases r1 with
  | cons r rr =>
    cases rr with
    | cons r' rr =>
      cases rr
      cases r
      cases r'
      obtain ⟨is1, rv1, pl, _⟩ := I1.list hqu
      obtain ⟨is2, rv2, pt, _⟩ := I1.tuple hqv
      obtain ⟨ot, hot, _⟩ := id pt
      have five : ∀ c, c ∈ [s1.heap.objs.size + 4, s1.heap.objs.size + 2, s1.heap.objs.size + 3, s1.heap.objs.size, s1.heap.objs.size + 1] → FpOk X pins H1 c := fun c hcm => by
        have le : s1.heap.objs.size ≤ c := by
          simp only [List.mem_cons, List.not_mem_nil, or_false] at hcm
          omega
        exact I1.fpOk le (I1.hok.fresh le)
      refine zip_begins2 (begins_list a is1.toArray) (begins_tuple b is2.toArray) pl.isList pt fun h' gz gI gO g1 g2 hsz hk => wpAny_pyIter_zip gz ?_
      have I2 : Inv X pins σ H1 { s1 with heap := h' } := I1.kept (t' := s1.toks) hk
      exact ⟨s1.heap.objs.size + 4, [s1.heap.objs.size + 4, s1.heap.objs.size + 2, s1.heap.objs.size + 3, s1.heap.objs.size, s1.heap.objs.size + 1], _, _, H1, rfl, I2, turn_zipM (PySem.W.ktu_apart s1.heap.objs.size a b pl.lt (Heap.lt_size hot)), ⟨gz, gI, ⟨_, _, gO⟩, ⟨_, g1, rfl, rfl⟩, ⟨_, g2, rfl, rfl⟩⟩, five, q⟩
section
variable {K : PySem.W.Frag} {X : Cx} {a b : Expr} {elts : List Expr} {kk : Nat} {pos p tpos : Pos} {w : WA}
theorem itd_zipM {I : Hp} {a b : Addr} {us vs : List V} {ds es : List D} (h : I a = some (.lst us)) (hd : DaAll K I us ds) (g : SqT K I b vs) (he : DaAll K I vs es) : ItD K (ItzM K a b) I (zipD ds es) where
  go := fun i H I1 e1 e2 hi => by
    rw [zipD_len] at hi
    obtain ⟨u, hu, _⟩ := dpa_get hd (List.getElem?_eq_getElem (i := i) (by omega))
    obtain ⟨v, hv, _⟩ := dpa_get he (List.getElem?_eq_getElem (i := i) (by omega))
    exact ⟨us, vs, u, v, SqL.of (e2 _ _ (e1 _ _ h)), sqt_ex (e1.tr e2) g, hu, hv⟩
  stop := fun H I1 e1 e2 => ⟨us, vs, SqL.of (e2 _ _ (e1 _ _ h)), sqt_ex (e1.tr e2) g, by rw [zipD_len, dpa_len hd]; omega, by rw [zipD_len, dpa_len he]; omega, by rw [zipD_len, dpa_len hd, dpa_len he]; omega⟩
  yld := fun i H I1 y H' d e1 e2 hd' ⟨T, u, v, ey, hT, eH, hu, hv⟩ => by
    subst ey eH
    obtain ⟨u', v', gu, gv, ed⟩ := zipD_get hd'
    obtain ⟨u2, hu2, q⟩ := dpa_get hd gu
    obtain ⟨v2, hv2, q'⟩ := dpa_get he gv
    have t1 := hu us (SqL.of (e2 _ _ (e1 _ _ h)))
    have t2 := hv vs (sqt_ex (e1.tr e2) g)
    rw [hu2] at t1
    rw [hv2] at t2
    cases t1; cases t2
    subst ed
    exact pair_gr e2 hT (q.up e1) (q'.up e1)
/-- zip(a list, a tuple) -/
def wZipM (w : WA) : WA := fun en Q => w en fun ds e1 => ∃ xs ys, ds = [.list xs, .tuple ys] ∧ Q (zipD xs ys) e1
theorem i_zipM (hm : X.mg "zip" = none) (ha : PA X [a, b] (lA X.K ζ w)) (hg : Gl X "zip" := by rfl) (hs : starEach [a, b] X.env = (false, eval a X.env) :: starEach [b] X.env := by rfl) (hpl : (backTo pos (starEach [b] X.env)).any (·.1) = false := by rfl) :
    PI X (.Tuple elts kk tpos) (.Call (.Name "zip" p) [a, b] [] pos) (lI X.K ζ (wZipM w)) :=
  (pi_zipM hg hm ha hs hpl).mo fun σ H R ⟨G, en, I, Q', o, q, k⟩ => ⟨G, en, I, _, o, q, fun vs H1 I1 e1 ds o1 x1 dvs ⟨xs, ys, hd, q1⟩ => by
    subst hd
    cases dvs with
    | cons h t => cases t with
      | cons h2 t => cases t; cases h with
        | lst hs ha => cases h2 with
          | tup hs2 ha2 => exact ⟨_, _, _, _, rfl, SqL.of (o1.iH _ _ hs), sqt_ex o1.iH hs2, k _ H1 I1 e1 _ o1 x1 (itd_zipM hs ha hs2 ha2) q1⟩⟩
end
end Pd

set_option Elab.async false
set_option linter.all false
set_option maxRecDepth 100000
set_option maxHeartbeats 4000000
namespace Pd
open PySem PySem.Spec PyProof.Rows L2
/-! ### any(t), t a tuple of ints -/
theorem truth_ints {prog : Program} {w : World} {A : Around} {ns : List Int} {its : List Value} (e : IntsAre its ns) :
    TruthOf prog w A (fun i v => its.toArray[i]? = some v) (fun i => ns.getD i 0 != 0) := fun i v s Q E hv hq => by
  have hv' : its[i]? = some v := by simpa using hv
  have key : ∀ {its : List Value} {ns : List Int}, IntsAre its ns → ∀ (i : Nat) (v : Value), its[i]? = some v → ∃ t, v = .int (ns.getD i 0) t := by
    intro its ns e
    induction e with
    | nil => intro i v h; simp at h
    | cons _ _ _ ih =>
      intro i v h
      cases i with
      | zero => simp at h; exact ⟨_, h.symm⟩
      | succ i => exact ih i v (by simpa using h)
  obtain ⟨t, rfl⟩ := key e i v hv'
  exact PySem.P.truthy_int hq
theorem ints_len : ∀ {its : List Value} {ns : List Int}, IntsAre its ns → its.length = ns.length := by
  intro its ns e
  induction e with
  | nil => rfl
  | cons _ _ _ ih => rw [List.length_cons, List.length_cons, ih]
theorem any_rangeI : ∀ ns : List Int, (List.range ns.length).any (fun i => ns.getD i 0 != 0) = ns.any (· != 0)
  | [] => rfl
  | n :: ns => by
    rw [List.length_cons, List.range_succ_eq_map, List.any_cons, List.any_map, List.any_cons, ← any_rangeI ns]
    all_goals rfl
def rAnyT (K : PySem.W.Frag) : List V → Hp → VK → Prop := fun vs H Q => ∃ (a : Addr) (ns : List Int), vs = [V.ref a] ∧ SqT K H a (ns.map V.int) ∧ Q (.bl (ns.any (· != 0))) H
section
variable {X : Cx}
theorem cr_anyT (hc : X.calm = true) : CallR X (.builtin "any") (rAnyT X.K) := by
  intro pins s σ H vs us Q I r h
  obtain ⟨a, ns, rfl, hs, q⟩ := h
  obtain ⟨its, rv, hl, _⟩ := I.tuple hs
  rw [Vals.ref1 r]
  have hi := intsAre_of rv
  have hlt : a < s.heap.objs.size := by obtain ⟨_, e, _⟩ := id hl; exact Heap.lt_size e
  refine call_any_walk (wpAny_pyIter_tuple hl ?_)
  refine ⟨_, _, _, _, _, _, _, rfl, Walks.tuple (A := X.A.in1) (I.ok.hd hc) _ a (Nat.ne_of_lt hlt) its.toArray, ⟨⟨_, Heap.get?_push_size _ rfl, rfl, rfl⟩, hl.push _⟩, truth_ints hi, fun h' tk hk => ?_⟩
  have hlen := ints_len hi
  refine ⟨.bl _, H, I.kept fun b o eo => hk b o (fun hmem => ?_) (Heap.get?_push_of_some _ eo), ?_, q⟩
  · rcases List.mem_cons.mp hmem with e1 | hmem
    · exact absurd (e1 ▸ Heap.lt_size eo) (Nat.lt_irrefl _)
    · cases hmem
  · show Value.bool _ = Value.bool _
    rw [← any_rangeI, List.size_toArray, hlen]
theorem cr_anyA (hc : X.calm = true) : CallR X (.builtin "any") (fun xs H Q => rAny X.K xs H Q ∨ rAnyT X.K xs H Q) := or_call (cr_any hc) (cr_anyT hc)
end
def dAnyA : List D → D → Prop := fun xs z => (∃ bs : List Bool, xs = [.list (bs.map .bool)] ∧ z = .bool (bs.any id)) ∨ ∃ ns : List Int, xs = [.tuple (ns.map .int)] ∧ z = .bool (ns.any (· != 0))
theorem snd_anyA {K : PySem.W.Frag} : SndCl K (fun xs H Q => rAny K xs H Q ∨ rAnyT K xs H Q) dAnyA := by
  rintro H I xs ds z iH hx (⟨bs, rfl, rfl⟩ | ⟨ns, rfl, rfl⟩) Q k
  · cases hx with
    | cons h t => cases t; cases h with
      | lst h a =>
        have e := dpa_bls_inv bs a
        subst e
        exact Or.inl ⟨_, bs, rfl, SqL.of (iH _ _ h), k _ H I (Gr.rf iH) (.bl _)⟩
  · cases hx with
    | cons h t => cases t; cases h with
      | tup h a =>
        have e := dpa_ints_inv ns a
        subst e
        exact Or.inr ⟨_, ns, rfl, sqt_ex iH h, k _ H I (Gr.rf iH) (.bl _)⟩
theorem i_anyT {ns : List Int} {z : D} : dAnyA [.tuple (ns.map .int)] z ↔ z = .bool (ns.any (· != 0)) := by
  constructor
  · rintro (⟨bs, h, _⟩ | ⟨ms, h, e⟩)
    · injection h with h _; cases h
    · injection h with h _; injection h with h; rw [ints_inj h]; exact e
  · exact fun e => Or.inr ⟨ns, rfl, e⟩
/-! ### a comprehension without a test that draws each item -/
theorem lcD {wi : WA} {w : WE} {j : Nat} {R en : En} {Pi : List D → Prop} {P : D → Prop} {Q : List D → En → Prop} (hj : R[j]? = some .un)
    (hi : ∀ Q' : List D → En → Prop, (∀ (xs : List D) (g m c : Int), Pi xs → Q' xs (jg g m c R)) → wi en Q')
    (hl : ∀ xs, Pi xs → xs.length ≤ sizeLine)
    (hw : ∀ (x : D) (g m c : Int) (Q' : D → En → Prop), (∀ (y : D) (g m c : Int), P y → Q' y (jg g m c (R.set j (.imm x)))) → w (jg g m c (R.set j (.imm x))) Q')
    (q : ∀ (xs ys : List D) (g m c : Int), Pi xs → ys.length = xs.length → (∀ y ∈ ys, P y) → Q ys (jg g m c R)) : wLc wi (wgN (j + 1)) wYes w [j + 1] en Q := by
  have eR : R.set j .un = R := by
    refine List.ext_getElem? fun i => ?_
    by_cases e : j = i
    · subst e
      rw [hj, List.getElem?_set_self (List.getElem?_eq_some_iff.mp hj).1]
    · rw [List.getElem?_set_ne e]
  refine hi _ fun xs g m c hx => ⟨free_jg, fun v hv => ?_, hl xs hx, ?_⟩
  · rw [List.mem_singleton] at hv
    subst hv
    show NotOwn R[j]?
    rw [hj]; trivial
  · show lcW (wgN (j + 1)) wYes w [j + 1] xs [] (jg g m c (R.set j .un)) _
    refine lcJY (j := j) (R := R) (P := fun _ y => P y) xs [] g m c (fun x _ g m c Q' q' => hw x g m c Q' q') fun zs g' m' c' z1 z2 => ?_
    rw [bak_jg, List.nil_append]
    refine q xs _ g' m' c' hx ?_ fun y hy => ?_
    · rw [← z1, List.length_map, List.length_map]
    · obtain ⟨z, hz, rfl⟩ := List.mem_map.mp hy
      exact z2 z hz
end Pd

set_option Elab.async false
set_option linter.all false
set_option maxRecDepth 100000
set_option maxHeartbeats 4000000
namespace Pd
open PySem PySem.Spec PyProof.Rows L2
/-! ### comprehensions of two fors -/
/-- the inner turns -/
def lc1W (g : WG) (t : WT) (w : WE) (vs : List Nat) : List D → List D → En → (List D → En → Prop) → Prop
  | [], acc, e, Q => Q acc e
  | x :: xs, acc, e, Q => g x e fun e1 => t e1 fun b e2 => FreeS e2 vs ∧ if b = true then w e2 fun y e3 => FreeS e3 vs ∧ acc.length < sizeLine ∧ lc1W g t w vs xs (acc ++ [y]) (wip vs e3) Q else lc1W g t w vs xs acc (wip vs e2) Q
def lc2W (g : WG) (t : WT) (wi1 : WA) (g1 : WG) (t1 : WT) (w : WE) (vs vs1 : List Nat) : List D → List D → En → (List D → En → Prop) → Prop
  | [], acc, e, Q => Q acc e
  | x :: xs, acc, e, Q => g x e fun e1 => t e1 fun b e2 => if b = true then wi1 e2 fun ys e3 => FreeS e3 vs1 ∧ lc1W g1 t1 w vs1 ys acc (wip vs1 e3) fun acc' e4 => FreeS e4 vs ∧ lc2W g t wi1 g1 t1 w vs vs1 xs acc' (wip vs e4) Q
    else FreeS e2 vs ∧ lc2W g t wi1 g1 t1 w vs vs1 xs acc (wip vs e2) Q
def wLc2 (wi : WA) (g : WG) (t : WT) (wi1 : WA) (g1 : WG) (t1 : WT) (w : WE) (vs vs1 : List Nat) : WA := fun en Q => wi en fun xs e1 => FreeS e1 vs ∧ (∀ v ∈ vs, NotOwn e1[v]?) ∧ lc2W g t wi1 g1 t1 w vs vs1 xs [] (wip vs e1) fun ys e2 => Q ys (bak vs e1 e2)
theorem Ok.backI {K : PySem.W.Frag} {G : Gh} {σ : Sg} {en : En} {H I I1 : Hp} (i0 : Ex G.I0 I1) (nw : ∀ a, G.He a ≠ none → G.I0 a = none → I1 a = none) (lk : LK K ζ G) (o : Ok K ζ { G with I0 := I1 } σ en H I) : Ok K ζ G σ en H I ∧ Ex I1 I :=
  ⟨⟨i0.tr o.i0, o.iH, fun a h1 h2 => o.nw a h1 (nw a h1 h2), o.fr, o.ln, o.sl, o.ml, o.ds, o.pj, o.pr, o.pn, o.tg, o.tt, lk⟩, o.i0⟩
theorem lcm2 {K : PySem.W.Frag} {wi wi1 : WA} {is is1 : List Nat} {g g1 : WG} {t t1 : WT} {w : WE} {vs vs1 : List Nat} {σ : Sg} {H : Hp} {Q : VK} (his : ∀ i ∈ is, i ∈ vs) (his1 : ∀ i ∈ is1, i ∈ vs1) (hv : ∀ i ∈ vs1, i ∈ vs) (h : lL K ζ (wLc2 wi g t wi1 g1 t1 w vs vs1) σ H Q) :
    tLc2 (lI K ζ wi) (lG K ζ is g) (lT K ζ t) (lI K ζ wi1) (lG K ζ is1 g1) (lT K ζ t1) (lE K ζ w) vs vs1 σ H Q := by
  obtain ⟨G, en, I, Q', o, q, k⟩ := h
  refine ⟨G, en, I, _, o, q, fun J H1 I1 e1 xs o1 x1 it ⟨fr1, no1, q1⟩ => fun D hD => ?_⟩
  obtain ⟨nj, hn, hP⟩ := o1.fresh hD
  have id2 : wipe (wipe σ vs) vs = wipe σ vs := wipe_of (wipe_length σ vs) fun j hj => wipe_out hj
  refine ⟨fun i m H => m = xs.length - i ∧ i ≤ xs.length ∧ ∃ e I acc vacc, Ok K ζ { G with I0 := I1, P := (D, .lst vacc) :: G.P } (wipe σ vs) e H I ∧ DaAll K I vacc acc ∧ lc2W g t wi1 g1 t1 w vs vs1 (xs.drop i) acc e fun ys e2 => Q' ys (bak vs e1 e2),
    ⟨xs.length, by omega, Nat.zero_le _, wip vs e1, I1, [], [], ((o1.base o1 (Ex.rf I1)).wip fr1).prot hD, .nil, q1⟩, ?_⟩
  rintro i m H2 ⟨hm, hi, e2, I2, acc, vacc, o2, da2, q2⟩
  by_cases hlt : i < xs.length
  · rw [List.drop_eq_getElem_cons hlt] at q2
    refine Or.inr ⟨it.go i H2 I2 o2.i0 o2.iH hlt, fun H => ∃ e I acc vacc, Ok K ζ { G with I0 := I1, P := (D, .lst vacc) :: G.P } (wipe σ vs) e H I ∧ DaAll K I vacc acc ∧ lc2W g t wi1 g1 t1 w vs vs1 (xs.drop (i + 1)) acc e fun ys e2 => Q' ys (bak vs e1 e2),
      fun H' h => ⟨xs.length - (i + 1), by omega, rfl, hlt, h⟩, fun v H3 y3 => ?_⟩
    obtain ⟨I3, g3, d3⟩ := it.yld i H2 I2 v H3 _ o2.i0 o2.iH (List.getElem?_eq_getElem hlt) y3
    refine ⟨_, e2, I3, xs[i], _, o2.gr g3, d3, q2, fun σ4 H4 I4 e4 o4 x4 l4 k4 q4 => ?_⟩
    have e4' : wipe σ4 vs = wipe σ vs := (wipe_of l4 fun j hj => k4 j fun h => hj (his j h)).trans id2
    refine ⟨e4', _, e4, I4, _, o4, q4, fun b H5 I5 e5 o5 x5 q5 => ?_⟩
    have da5 := ((da2.up g3.i).up x4).up x5
    cases b with
    | false =>
      obtain ⟨f5, q5⟩ := q5
      have o5' := o5.wip f5
      rw [e4'] at o5'
      exact ⟨wip vs e5, I5, acc, vacc, o5', da5, q5⟩
    | true =>
      refine ⟨_, e5, I5, _, o5, q5, fun J1 H6 I6 e6 ys o6 x6 it1 ⟨f6, q6⟩ => ?_⟩
      have hl4 : (wipe σ4 vs1).length = σ4.length := wipe_length σ4 vs1
      have id41 : wipe (wipe σ4 vs1) vs1 = wipe σ4 vs1 := wipe_of (wipe_length σ4 vs1) fun j hj => wipe_out hj
      have id4 : wipe (wipe σ4 vs1) vs = wipe σ vs := (wipe_of hl4 fun j hj => wipe_out fun h => hj (hv j h)).trans e4'
      have o6i : Ex I1 I6 := o6.i0
      have o6n : ∀ a, G.He a ≠ none → I1 a = none → I6 a = none := o6.nw
      have o6P := (o6.pr _ List.mem_cons_self)
      refine ⟨fun j k H => k = ys.length - j ∧ j ≤ ys.length ∧ ∃ e I acc' vacc', Ok K ζ { G with I0 := I6, P := (D, .lst vacc') :: G.P } (wipe σ4 vs1) e H I ∧ DaAll K I vacc' acc' ∧ lc1W g1 t1 w vs1 (ys.drop j) acc' e fun acc'' e4 => FreeS e4 vs ∧ lc2W g t wi1 g1 t1 w vs vs1 (xs.drop (i + 1)) acc'' (wip vs e4) fun ys e2 => Q' ys (bak vs e1 e2),
        ⟨ys.length, by omega, Nat.zero_le _, wip vs1 e6, I6, acc, vacc, (o6.base o6 (Ex.rf I6)).wip f6, da5.up x6, q6⟩, ?_⟩
      rintro j k' H7 ⟨hk, hj, e7, I7, acc', vacc', o7, da7, q7⟩
      by_cases hlt1 : j < ys.length
      · rw [List.drop_eq_getElem_cons hlt1] at q7
        refine Or.inr ⟨it1.go j H7 I7 o7.i0 o7.iH hlt1, fun H => ∃ e I acc' vacc', Ok K ζ { G with I0 := I6, P := (D, .lst vacc') :: G.P } (wipe σ4 vs1) e H I ∧ DaAll K I vacc' acc' ∧ lc1W g1 t1 w vs1 (ys.drop (j + 1)) acc' e fun acc'' e4 => FreeS e4 vs ∧ lc2W g t wi1 g1 t1 w vs vs1 (xs.drop (i + 1)) acc'' (wip vs e4) fun ys e2 => Q' ys (bak vs e1 e2),
          fun H' h => ⟨ys.length - (j + 1), by omega, rfl, hlt1, h⟩, fun v H8 y8 => ?_⟩
        obtain ⟨I8, g8, d8⟩ := it1.yld j H7 I7 v H8 _ o7.i0 o7.iH (List.getElem?_eq_getElem hlt1) y8
        refine ⟨_, e7, I8, ys[j], _, o7.gr g8, d8, q7, fun σ9 H9 I9 e9 o9 x9 l9 k9 q9 => ?_⟩
        have e9' : wipe σ9 vs1 = wipe σ4 vs1 := (wipe_of l9 fun j hj => k9 j fun h => hj (his1 j h)).trans id41
        refine ⟨e9', _, e9, I9, _, o9, q9, fun b H10 I10 e10 o10 x10 ⟨f10, q10⟩ => ?_⟩
        have da10 := ((da7.up g8.i).up x9).up x10
        cases b with
        | false =>
          have o10' := o10.wip f10
          rw [e9'] at o10'
          exact ⟨wip vs1 e10, I10, acc', vacc', o10', da10, q10⟩
        | true =>
          refine ⟨_, e10, I10, _, o10, q10, fun y H11 I11 e11 d11 o11 x11 dv11 ⟨f11, hz, q11⟩ => ?_⟩
          have da11 := da10.up x11
          refine ⟨vacc', (o11.pr _ List.mem_cons_self).1, by rw [dpa_len da11]; exact hz, ?_⟩
          have o11' := o11.wip f11
          rw [e9'] at o11'
          exact ⟨wip vs1 e11, I11, acc' ++ [d11], vacc' ++ [y], Ok.rewr (G := { G with I0 := I6 }) o11' nj hn hP, dpa_app da11 (.cons dv11 .nil), q11⟩
      · have e : j = ys.length := by omega
        subst e
        rw [List.drop_length] at q7
        obtain ⟨f7, q7⟩ := q7
        refine Or.inl ⟨it1.stop H7 I7 o7.i0 o7.iH, ?_⟩
        have o7' := o7.wip f7
        rw [id4] at o7'
        exact ⟨wip vs e7, I7, acc', vacc', (Ok.backI (G := { G with I0 := I1, P := (D, .lst vacc') :: G.P }) o6i o6n o6.lk o7').1, da7, q7⟩
  · have e : i = xs.length := by omega
    subst e
    rw [List.drop_length] at q2
    refine Or.inl ⟨it.stop H2 I2 o2.i0 o2.iH, ?_⟩
    obtain ⟨o3, eH⟩ := Ok.drop (G := { G with I0 := I1 }) o2 hn hP
    rw [eH]
    have o3' : Ok K ζ { G with I0 := I1 } (wipe σ vs) e2 (hid H2 D) I2 := o3
    obtain ⟨o4, x4⟩ := o1.back o3'
    exact k D vacc _ I2 _ acc (o1.bak no1 o4 x4) (x1.tr x4) hid_at da2 q2
section
variable {X : Cx} {elt tg iter tg1 iter1 : Expr} {ifs ifs1 : List Expr} {scope : Scope} {own : List (Str × Nat)} {vs1 : List Nat} {pos : Pos} {wi wi1 : WA} {is is1 : List Nat} {g g1 : WG} {t t1 : WT} {w : WE}
theorem l_lc2 (hc : X.calm = true) (hN : X.N.Nodup) (hi : PI X tg iter (lI X.K ζ wi)) (ok : BlkOk X.N X.env.scope scope own) (hv : ∀ i ∈ vs1, i ∈ own.map (·.2))
    (hg : ∀ (s : Shared) (H : Hp) (C : Addr) (cl : List (Str × Addr)) (fp : List Addr), PG (X.blk s H scope (compEnvC scope cl C X.env) fp) tg (lG X.K ζ is g)) (ht : ∀ (s : Shared) (H : Hp) (C : Addr) (cl : List (Str × Addr)) (fp : List Addr), PTs (X.blk s H scope (compEnvC scope cl C X.env) fp) ifs (lT X.K ζ t))
    (hi1 : ∀ (s : Shared) (H : Hp) (C : Addr) (cl : List (Str × Addr)) (fp : List Addr), PI (X.blk s H scope (compEnvC scope cl C X.env) fp) tg1 iter1 (lI X.K ζ wi1))
    (hg1 : ∀ (s : Shared) (H : Hp) (C : Addr) (cl : List (Str × Addr)) (fp : List Addr), PG (X.blk s H scope (compEnvC scope cl C X.env) fp) tg1 (lG X.K ζ is1 g1)) (ht1 : ∀ (s : Shared) (H : Hp) (C : Addr) (cl : List (Str × Addr)) (fp : List Addr), PTs (X.blk s H scope (compEnvC scope cl C X.env) fp) ifs1 (lT X.K ζ t1))
    (he : ∀ (s : Shared) (H : Hp) (C : Addr) (cl : List (Str × Addr)) (fp : List Addr), PE (X.blk s H scope (compEnvC scope cl C X.env) fp) elt (lE X.K ζ w)) (hs : ∀ x, foldedSetIterable iter X.env x = pure x := by intro _; rfl) (hs1 : ∀ env x, foldedSetIterable iter1 env x = pure x := by intro _ _; rfl)
    (his : ∀ i ∈ is, i ∈ own.map (·.2) := by decide) (his1 : ∀ i ∈ is1, i ∈ vs1 := by decide) :
    PE X (.ListComp elt [⟨tg, iter, ifs, 0⟩, ⟨tg1, iter1, ifs1, 0⟩] scope pos) (lL X.K ζ (wLc2 wi g t wi1 g1 t1 w (own.map (·.2)) vs1)) :=
  (pe_lc2 hc hN hi ok hv hg ht hi1 hg1 ht1 he hs hs1).mo fun σ H Q h => lcm2 his his1 hv h
variable {i : Nat} {y : Str} {py spos : Pos}
theorem s_lc2 (hc : X.calm = true) (hN : X.N.Nodup) (hy : X.N[i]? = some y) (hyl : X.env.scope.names.lookup y = some .local)
    (hsw : swapsWith (.ListComp elt [⟨tg, iter, ifs, 0⟩, ⟨tg1, iter1, ifs1, 0⟩] scope pos) (some (.Name y py)) spos.line X.env = pure true) (hi : PI X tg iter (lI X.K ζ wi)) (ok : BlkOk X.N X.env.scope scope own) (hv : ∀ i ∈ vs1, i ∈ own.map (·.2))
    (hg : ∀ (s : Shared) (H : Hp) (C : Addr) (cl : List (Str × Addr)) (fp : List Addr), PG (X.blk s H scope (compEnvC scope cl C X.env) fp) tg (lG X.K ζ is g)) (ht : ∀ (s : Shared) (H : Hp) (C : Addr) (cl : List (Str × Addr)) (fp : List Addr), PTs (X.blk s H scope (compEnvC scope cl C X.env) fp) ifs (lT X.K ζ t))
    (hi1 : ∀ (s : Shared) (H : Hp) (C : Addr) (cl : List (Str × Addr)) (fp : List Addr), PI (X.blk s H scope (compEnvC scope cl C X.env) fp) tg1 iter1 (lI X.K ζ wi1))
    (hg1 : ∀ (s : Shared) (H : Hp) (C : Addr) (cl : List (Str × Addr)) (fp : List Addr), PG (X.blk s H scope (compEnvC scope cl C X.env) fp) tg1 (lG X.K ζ is1 g1)) (ht1 : ∀ (s : Shared) (H : Hp) (C : Addr) (cl : List (Str × Addr)) (fp : List Addr), PTs (X.blk s H scope (compEnvC scope cl C X.env) fp) ifs1 (lT X.K ζ t1))
    (he : ∀ (s : Shared) (H : Hp) (C : Addr) (cl : List (Str × Addr)) (fp : List Addr), PE (X.blk s H scope (compEnvC scope cl C X.env) fp) elt (lE X.K ζ w)) (hs : ∀ x, foldedSetIterable iter X.env x = pure x := by intro _; rfl) (hs1 : ∀ env x, foldedSetIterable iter1 env x = pure x := by intro _ _; rfl)
    (his : ∀ i ∈ is, i ∈ own.map (·.2) := by decide) (his1 : ∀ i ∈ is1, i ∈ vs1 := by decide) :
    PS X (.Assign [.Name y py] (.ListComp elt [⟨tg, iter, ifs, 0⟩, ⟨tg1, iter1, ifs1, 0⟩] scope pos) spos) (lS X.K ζ (wSet i (wLe (wLc2 wi g t wi1 g1 t1 w (own.map (·.2)) vs1)))) :=
  (ps_setLc2 hc hN hy hyl hsw hi ok hv hg ht hi1 hg1 ht1 he hs hs1).mo fun R σ H ⟨G, en, I, R', o, q, k⟩ => lcm2 his his1 hv ⟨G, en, I, _, o, q, fun p vs H1 I1 e1 ds o1 x1 hp dvs ⟨hi, q1⟩ => by
    obtain ⟨o2, x2⟩ := o1.new (u := .lst vs) hp
    exact k.1 _ _ _ _ (o2.put (.lst upd_same (dvs.up x2)) (hi.imp id notOwn_ne)) q1⟩
end
theorem lc1_gen {β : Type} {g1 : WG} {w : WE} {vs1 : List Nat} {e0 : En} {Y : β → D} {f : β → D} (E2 : β → En) (hv1 : ∀ v ∈ vs1, v ≠ 0) (hE2 : ∀ y, wip vs1 (E2 y) = e0) : ∀ (ys : List β) (acc : List D) {Q : List D → En → Prop},
    (∀ y ∈ ys, ∀ Q : En → Prop, Q (E2 y) → g1 (Y y) e0 Q) → (∀ y ∈ ys, ∀ Q : D → En → Prop, Q (f y) (E2 y) → w (E2 y) Q) → acc.length + ys.length ≤ sizeLine → Q (acc ++ ys.map f) e0 → lc1W g1 wYes w vs1 (ys.map Y) acc e0 Q
  | [], acc, Q, _, _, _, q => by
    rw [List.map_nil, List.append_nil] at q
    exact q
  | y :: ys, acc, Q, hg, hw, hl, q => by
    rw [List.length_cons] at hl
    refine hg y List.mem_cons_self _ ⟨free_of hv1, ?_⟩
    rw [if_pos rfl]
    refine hw y List.mem_cons_self _ ⟨free_of hv1, by omega, ?_⟩
    rw [hE2 y]
    refine lc1_gen E2 hv1 hE2 ys (acc ++ [f y]) (fun z hz => hg z (List.mem_cons_of_mem _ hz)) (fun z hz => hw z (List.mem_cons_of_mem _ hz)) (by rw [List.length_append, List.length_singleton]; omega) ?_
    rw [List.append_assoc]
    exact q
/-- a comprehension of two fors that changes nothing -/
theorem lc2Y {α β : Type} {wi wi1 : WA} {g g1 : WG} {w : WE} {vs vs1 : List Nat} {en e1 : En} {X : α → D} {Y : β → D} {f : α → β → D} (E : α → En) (E2 : α → β → En) {xs : List α} {ys : α → List β} {Q : List D → En → Prop} (hv : ∀ v ∈ vs, v ≠ 0) (hv1 : ∀ v ∈ vs1, v ≠ 0)
    (hi : ∀ Q : List D → En → Prop, Q (xs.map X) e1 → wi en Q) (hn : ∀ v ∈ vs, NotOwn e1[v]?) (hE : ∀ x, wip vs (wip vs1 (E x)) = wip vs e1) (hE2 : ∀ x y, wip vs1 (E2 x y) = wip vs1 (E x))
    (hg : ∀ x ∈ xs, ∀ Q : En → Prop, Q (E x) → g (X x) (wip vs e1) Q) (hi1 : ∀ x ∈ xs, ∀ Q : List D → En → Prop, Q ((ys x).map Y) (E x) → wi1 (E x) Q)
    (hg1 : ∀ x ∈ xs, ∀ y ∈ ys x, ∀ Q : En → Prop, Q (E2 x y) → g1 (Y y) (wip vs1 (E x)) Q) (hw : ∀ x ∈ xs, ∀ y ∈ ys x, ∀ Q : D → En → Prop, Q (f x y) (E2 x y) → w (E2 x y) Q)
    (hl : (xs.flatMap fun x => (ys x).map (f x)).length ≤ sizeLine) (q : Q (xs.flatMap fun x => (ys x).map (f x)) e1) : wLc2 wi g wYes wi1 g1 wYes w vs vs1 en Q := by
  refine hi _ ⟨free_of hv, hn, ?_⟩
  have key : ∀ (zs : List α) (acc : List D), (∀ z ∈ zs, z ∈ xs) → acc ++ (zs.flatMap fun x => (ys x).map (f x)) = (xs.flatMap fun x => (ys x).map (f x)) →
      lc2W g wYes wi1 g1 wYes w vs vs1 (zs.map X) acc (wip vs e1) fun ys e2 => Q ys (bak vs e1 e2) := by
    intro zs
    induction zs with
    | nil =>
      intro acc _ he
      rw [List.flatMap_nil, List.append_nil] at he
      show Q acc (bak vs e1 (wip vs e1))
      rw [bak_wip, he]
      exact q
    | cons z zs ih =>
      intro acc hz he
      have h1 := hz z List.mem_cons_self
      rw [List.flatMap_cons] at he
      have hle : acc.length + (ys z).length ≤ sizeLine := by
        rw [← he, List.length_append, List.length_append, List.length_map] at hl
        omega
      refine hg z h1 _ ?_
      unfold wYes
      dsimp only
      rw [if_pos rfl]
      refine hi1 z h1 _ ⟨free_of hv1, ?_⟩
      refine lc1_gen (E2 z) hv1 (hE2 z) (ys z) acc (hg1 z h1) (hw z h1) hle ⟨free_of hv, ?_⟩
      rw [hE z]
      exact ih _ (fun y hy => hz y (List.mem_cons_of_mem _ hy)) (by rw [List.append_assoc]; exact he)
  exact key xs [] (fun _ h => h) rfl
end Pd

set_option Elab.async false
set_option linter.all false
set_option maxRecDepth 100000
set_option maxHeartbeats 4000000
namespace Pd
open PySem PySem.Spec PyProof.Rows L2
/-! ### a call of a def with a jug that hands back a new list: one's own -/
/-- without the lists -/
def unl (I : Hp) : Hp := fun b => match I b with
  | some (.lst _) => none
  | u => u
theorem unl_ex (I : Hp) : Ex (unl I) I := fun b u h => by
  unfold unl at h
  split at h
  · cases h
  · exact h
theorem unl_no (I : Hp) (b : Addr) (xs : List V) : unl I b ≠ some (.lst xs) := fun h => by
  unfold unl at h
  split at h
  · cases h
  · rename_i hn
    exact hn xs h
theorem unl_up {I : Hp} : ∀ b o, I b = some o → (∀ ys, o ≠ .lst ys) → unl I b = some o := fun b o h hn => by
  unfold unl
  split
  · rename_i hb
    rw [hb] at h
    injection h with h
    exact absurd h.symm (hn _)
  · exact h
def wFnJL (i n : Nat) (wf : WJ) (w : WA) : WA := fun en Q => (∃ dj, en[i]? = some (.own dj)) ∧ w en fun ds e1 => noLs ds = true ∧ ds.length + 1 = n ∧ ∃ dj, e1[i]? = some (.own dj) ∧ noLs dj = true ∧ wf dj ds fun d dj' => ∃ xs, d = .list xs ∧ noLs xs = true ∧ noLs dj' = true ∧ Q xs (e1.set i (.own dj'))
section
variable {X : Cx} {e : Expr} {es : List Expr} {pos p : Pos} {x : Str} {k n : Nat} {ps : List Str}
open Classical in
theorem l_callJL {wf : WJ} {w : WA} {i : Nat} (C : Cal X.prog X.w X.K X.mg X.base k x ps (spJ X.K n wf)) (hr : Room k X.A) (h0 : PE X e (tVar i)) (ha : PA X es (lA X.K ζ w)) (hg : Gl X x := by rfl)
    (hdb : (x == ("__debug__" : Str)) = false := by decide) (he : starEach (e :: es) X.env = (false, eval e X.env) :: starEach es X.env := by rfl) (hpl : (backTo pos (starEach es X.env)).any (·.1) = false := by rfl) :
    PE X (.Call (.Name x p) (e :: es) [] pos) (lL X.K ζ (wFnJL i n wf w)) := by
  obtain ⟨f, fd, F, hm, hk, hb⟩ := C
  exact (pe_call F hr hg hm hk hb .nil pass0 (pa_cons h0 ha he) hdb he hpl).mo fun σ H Q ⟨G, en, I, Q', o, ⟨⟨dj0, hj0⟩, q⟩, k⟩ => by
    have key : ∀ (j : Addr), σ[i]? = some (some (.ref j)) → lA X.K ζ w σ H fun vs H1 => spJ X.K n wf ((V.ref j :: vs) ++ []) H1 Q E0 := fun j hj => by
      refine ⟨G, en, I, _, o, q, fun vs H1 I1 e1 ds o1 x1 dvs ⟨hnl, hn, dj, hd, hnj, q1⟩ => ?_⟩
      obtain ⟨l, vj, r1, r2, r3, r4⟩ := o1.own hd
      rw [hj] at r1
      have q5 : j = l := by injection r1 with r1; injection r1 with r1; injection r1
      subst q5
      have hJj : unl I1 j = none := by unfold unl; rw [r2]
      refine ⟨j, vj, dj, vs, ds, unl I1, _, by rw [List.append_nil], hJj, r3, daa_thaw unl_up dj vj hnj r4, (unl_ex I1).tr o1.iH, daa_thaw unl_up ds vs hnl dvs, hn, q1, fun v H2 I2 d vj' dj' k1 k2 k3 k4 k5 k6 k7 ⟨xs, hxs, n1, n2, k8⟩ => ?_⟩
      subst hxs
      cases k7 with
      | lst hp ha =>
        rename_i pp us
        have fresh : H1 pp = none := k4 pp (by rw [hp]; simp) (by
          cases z : unl I1 pp with
          | none => rfl
          | some u =>
            have z2 := k2 pp u z
            rw [hp] at z2
            cases z2
            exact absurd z (unl_no I1 _ _))
        have hI1p : I1 pp = none := o1.iH.no fresh
        have hpj : pp ≠ j := fun e => by rw [e, r3] at fresh; cases fresh
        let I3 : Hp := fun a => if a = pp then none else if I1 a ≠ none then I1 a else I2 a
        have i3ne : ∀ a, a ≠ pp → I1 a = none → I3 a = I2 a := fun a h1 h2 => by
          show (if a = pp then none else if I1 a ≠ none then I1 a else I2 a) = _
          rw [if_neg h1, if_neg (fun h => h h2)]
        have i3in : ∀ a, a ≠ pp → I1 a ≠ none → I3 a = I1 a := fun a h1 h2 => by
          show (if a = pp then none else if I1 a ≠ none then I1 a else I2 a) = _
          rw [if_neg h1, if_pos h2]
        have i3p : I3 pp = none := if_pos rfl
        have x13 : Ex I1 I3 := fun a u h => by
          have hne : a ≠ pp := fun e => by rw [e, hI1p] at h; cases h
          rw [i3in a hne (by rw [h]; simp)]; exact h
        have x3H : Ex I3 (hid H2 pp) := fun a u h => by
          have hne : a ≠ pp := fun e => by rw [e, i3p] at h; cases h
          rw [hid_ne hne]
          by_cases z : I1 a = none
          · rw [i3ne a hne z] at h
            exact k3 a u h
          · rw [i3in a hne z] at h
            have haj : a ≠ j := fun e => by rw [e, r2] at h; cases h
            exact k1 a u haj (o1.iH a u h)
        have thaw3 : ∀ b o, I2 b = some o → (∀ ys, o ≠ .lst ys) → I3 b = some o := fun b o h hn => by
          have hne : b ≠ pp := fun e => by
            rw [e, hp] at h
            injection h with h
            exact hn _ h.symm
          by_cases z : I1 b = none
          · rw [i3ne b hne z]; exact h
          · rw [i3in b hne z]
            cases y : unl I1 b with
            | none =>
              have h3 := k4 b (by rw [h]; simp) y
              cases w : I1 b with
              | none => exact absurd w z
              | some u => rw [o1.iH b u w] at h3; cases h3
            | some u =>
              have h3 := k2 b u y
              rw [h] at h3
              injection h3 with h3
              rw [h3]
              exact unl_ex I1 b u y
        have n13 : ∀ a, I3 a ≠ none → I1 a = none → H1 a = none := fun a h1 h2 => by
          have hne : a ≠ pp := fun e => h1 (by rw [e, i3p])
          rw [i3ne a hne h2] at h1
          refine k4 a h1 ?_
          unfold unl
          rw [h2]
        have eH : H2 = upd (hid H2 pp) pp (.lst us) := by
          funext b
          by_cases e : b = pp
          · rw [e, upd_same]; exact k3 _ _ hp
          · rw [upd_ne e, hid_ne e]
        rw [eH]
        exact k pp us (hid H2 pp) I3 _ xs (o1.turn ⟨hj, dj, hd⟩ (fun a u haj h => by
          have hne : a ≠ pp := fun e => by rw [e, fresh] at h; cases h
          rw [hid_ne hne]; exact k1 a u haj h) x13 x3H n13 (by rw [hid_ne hpj.symm]; exact k5) (daa_thaw thaw3 dj' vj' n2 k6)) (x1.tr x13) hid_at (daa_thaw thaw3 xs us n1 ha) k8
    obtain ⟨j, _, hj, _⟩ := o.own hj0
    exact ⟨.ref j, hj, key j hj⟩
end
end Pd

set_option Elab.async false
set_option linter.all false
set_option maxRecDepth 100000
set_option maxHeartbeats 4000000
namespace Pd
open PySem PySem.Spec PyProof.Rows L2
/-! ### sorted(set(l)), l a list of ints -/
section
variable {P : Program} {w : World} {A : Around} {E : Value → Shared → Prop} {s : Shared}
set_option maxHeartbeats 3200000 in
theorem setOfLI {l : Addr} {items : Array Value} (ns : List Int) {Q : Value → Shared → Prop} (hh : A.handled = none) (hl : s.heap.IsList l items) (hit : IntsAre items.toList ns) (hb : ns.length + 1 < scanBound)
    (fin : ∀ (h' : Heap) (tk c : Nat), SetR w h' s.heap.objs.size (fun j => decide (j ∈ ns)) c → c ≤ ns.length → (∀ b o, s.heap.get? b = some o → h'.get? b = some o) → Q (.ref s.heap.objs.size) { s with heap := h', toks := tk }) : wpAny (model P w) A (call (.type "set") [.ref l]) Q E s := by
  have hn : items.size = ns.length := by have q := IntsAre.length hit; rw [Array.length_toList] at q; exact q
  obtain ⟨c, tl, hmro⟩ := F.called_set.mro
  have hmade := F.called_set.made; have hsub := F.called_set.sub
  refine wpAny_call (codeAny_of_tree ?_); show wpAny _ _ (callAny (.type "set") _) _ _ _
  refine wpAny_pure ⟨Code.quiet_builtin _ (by decide +kernel), codeAny_builtin F.entry_type_call ?_⟩
  rw [Around.under_plain (weight_type_call_type "set" [.ref l] []) rfl]
  have h1 := F.called_set.notType; have h2 := F.called_set.canCreate; have hct := F.typeCall_set_1 (.ref l)
  repeat (any_goals (first | assumption | wp_step))
  refine codeAny_mono (code_set_led1 (.ref l) (E := E) (Q₁ := fun obj s₁ => obj = .ref s.heap.objs.size ∧ s₁ = { s with heap := s.heap.push (mtSet w) }) ⟨rfl, rfl⟩) fun r s₁ hr => ?_
  cases r with
  | error e => exact hr
  | ok fl =>
    cases fl with
    | ret obj =>
      obtain ⟨rfl, rfl⟩ := hr
      have hS : (s.heap.push (mtSet w)).get? s.heap.objs.size = some (mtSet w) := Heap.get?_push_size _ rfl
      have hT : Shared.TypeIs { s with heap := s.heap.push (mtSet w) } (.ref s.heap.objs.size) "set" := ⟨_, hS, rfl⟩
      have hli := F.called_set.init.lookup; have hbi := F.called_set.init.bind (.ref s.heap.objs.size)
      repeat (any_goals (first | assumption | wp_step))
      refine codeAny_mono (codeAny_call_builtin (R := wants (fun r s₂ => r = .none ∧ ∃ h' tk c, s₂ = { s with heap := h', toks := tk } ∧ SetR w h' s.heap.objs.size (fun j => decide (j ∈ ns)) c ∧ c ≤ ns.length ∧ (∀ b o, s.heap.get? b = some o → h'.get? b = some o)) E) F.called_set.init.plain F.entry_set_init (check_set_init_1 hT ?_)) fun r₂ s₂ hr₂ => ?_
      · obtain ⟨ol, hol, hcl, nl, hdl⟩ := hl
        obtain ⟨ocls, odict, odata, oslots⟩ := ol
        simp only at hcl hdl; subst hcl; subst hdl
        have hol' : (s.heap.push (mtSet w)).get? l = some { cls := .type "list", dict := odict, data := .seq items nl, slots := oslots } := Heap.get?_push_of_some _ hol
        have hsls := F.sub_list_set; have hslf := F.sub_list_frozenset
        have hne : (Value.type "list" == Value.type "dict") = false := by decide
        have hl1 : (s.heap.push (mtSet w)).IsList l items := ⟨_, hol', rfl, nl, rfl⟩
        unfold Builtin.«set.__init__» noKeywords Builtin.Frozenset.updateFrom
        generalize hPI : pyIter = PI; wp_walk; subst hPI
        refine wpAny_pyIter_list hl1 ?_; refine wpAny_bind (wpAny_runValue ?_)
        have hlS : l < s.heap.objs.size := Heap.lt_size hol
        have hh3 : A.in1.in1.in1.handled = none := by simp [hh]
        have hz1 : (s.heap.push (mtSet w)).objs.size = s.heap.objs.size + 1 := Heap.size_push ..
        have hneI : l ≠ (s.heap.push (mtSet w)).objs.size := by rw [Heap.size_push]; exact Nat.ne_of_lt (Nat.lt_succ_of_lt hlS)
        have hSf : s.heap.objs.size ∉ [(s.heap.push (mtSet w)).objs.size, l] := by
          rw [Heap.size_push]; simp only [List.mem_cons, List.mem_singleton, List.not_mem_nil, or_false, not_or]; exact ⟨Nat.ne_of_lt (Nat.lt_succ_self _), Nat.ne_of_gt hlS⟩
        have hval : ∀ (i : Nat) (v : Value), items[i]? = some v → ∃ k t, ns[i]? = some k ∧ v = .int k t := fun i v hv => by
          have hi : i < ns.length := by rw [← hn]; exact (Array.getElem?_eq_some_iff.mp hv).1
          obtain ⟨t, e⟩ := PyProof.Rows.IntsAre.int_at hit i v (by rw [Array.getElem?_toList]; exact hv)
          exact ⟨ns[i], t, List.getElem?_eq_getElem hi, by rw [e, List.getD_eq_getElem?_getD, List.getElem?_eq_getElem hi]; rfl⟩
        refine set_update_ints ((Walks.list hh3 _ l hneI items).toS) s.heap.objs.size hSf ns hn hb hval (items.size - 0) 0 _ (by omega) (Nat.zero_le _) ⟨⟨_, Heap.get?_push_size _ rfl, rfl, rfl⟩, (hl1.push _)⟩ ?hS0 ?hR
        case hS0 => exact ⟨0, Nat.le_refl 0, setR_new_at (Heap.get?_push_of_some _ hS)⟩
        case hR =>
          intro s' c' hm hc' hS'
          obtain ⟨h', g2, d', tk', os'⟩ := s'
          have eg : g2 = s.gens := hm.gens; have ed : d' = s.drawn := hm.drawn; have eo : os' = s.os := hm.os
          subst eg; subst ed; subst eo
          show wpAny _ _ _ _ _ _; refine wpAny_pure ?_; show wpAny _ _ (ret Value.none) _ _ _
          rw [hn] at hc'
          refine wpAny_pure ⟨rfl, h', tk', c', rfl, hS', hc', fun b o e => ?_⟩
          have hb0 : b < s.heap.objs.size := Heap.lt_size e
          have hb2 : b ≠ (s.heap.push (mtSet w)).objs.size := by rw [Heap.size_push]; exact Nat.ne_of_lt (Nat.lt_succ_of_lt hb0)
          exact hm.heap b o (by simp only [List.mem_cons, List.mem_singleton, List.not_mem_nil, or_false, not_or]; exact ⟨Nat.ne_of_lt hb0, hb2⟩) (Heap.get?_push_of_some _ (Heap.get?_push_of_some _ e))
      · cases r₂ with
        | error e => exact hr₂
        | ok fl₂ =>
          cases fl₂ with
          | ret r =>
            obtain ⟨rfl, h', tk, c, rfl, hS', hc', hk'⟩ := hr₂
            repeat (any_goals (first | assumption | wp_step))
            exact fin _ _ _ hS' hc' hk'
          | _ => exact hr₂.elim
    | _ => exact hr.elim
end
def rSetLI (K : PySem.W.Frag) (w : World) : List V → Hp → VK → Prop := fun xs H Q => ∃ (l : Addr) (ns : List Int), xs = [V.ref l] ∧ SqL K H l (ns.map V.int) ∧ ns.length < 60 ∧ ∀ a c, H a = none → c ≤ ns.length → Q (.ref a) (upd H a (SetO w a (fun j => decide (j ∈ ns)) c))
section
variable {X : Cx} {e : Expr} {w : WE}
theorem cr_setLI (hc : X.calm = true) : CallR X (.type "set") (rSetLI X.K X.w) := by
  intro pins s σ H xs us Q I r h
  obtain ⟨l, ns, rfl, hl, hf, q⟩ := h
  rw [Vals.ref1 r]
  obtain ⟨its, rv, pl, hz⟩ := I.list hl
  refine setOfLI ns (I.ok.hd hc) pl.isList (intsAre_of rv) (by unfold scanBound; omega) fun h' tk c R hcl k => ?_
  exact ⟨.ref s.heap.objs.size, upd H s.heap.objs.size (SetO X.w s.heap.objs.size (fun j => decide (j ∈ ns)) c), I.laid (t' := tk) k (Nat.le_refl _) (setO_new R), rfl, q _ c (I.hok.fresh (Nat.le_refl _)) hcl⟩
/-- sorted(set(x)), x a list of ints -/
def wSetL (w : WE) : WA := fun en Q => w en fun d e1 => ∃ ns : List Int, d = .list (ns.map .int) ∧ ns.length < 60 ∧ ∀ ns' : List Int, ns'.Pairwise (· < ·) → (∀ k, k ∈ ns' ↔ k ∈ ns) → Q (ns'.map .int) e1
theorem l_setL (hc : X.calm = true) {p p' pos pos' : Pos} (hm : X.mg "sorted" = none) (hm' : X.mg "set" = none) (ha : PE X e (lE X.K ζ w)) (hg : Gl X "sorted" := by rfl) (hg' : Gl X "set" := by rfl)
    (he : starEach (e :: []) X.env = (false, eval e X.env) :: starEach [] X.env := by rfl) (hpl : (backTo pos' (starEach [] X.env)).any (·.1) = false := by rfl)
    (he' : starEach (.Call (.Name "set" p') [e] [] pos' :: []) X.env = (false, eval (.Call (.Name "set" p') [e] [] pos') X.env) :: starEach [] X.env := by rfl) (hpl' : (backTo pos (starEach [] X.env)).any (·.1) = false := by rfl) :
    PE X (.Call (.Name "sorted" p) [.Call (.Name "set" p') [e] [] pos'] [] pos) (lL X.K ζ (wSetL w)) :=
  (pe_callB (cr_sortedSet hc) hg hm (by decide +kernel) (pa_cons (pe_callTy (cr_setLI hc) hg' hm' (by decide +kernel) (pa_cons ha pa_nil he) (by decide) (by decide) he hpl) pa_nil he') (by decide) (by decide) he' hpl').mo fun σ H Q ⟨G, en, I, Q', ok, q, k⟩ => ⟨G, en, I, _, ok, q, fun v H1 I1 e1 d o1 x1 dv ⟨ns, hd, hl, q1⟩ => by
    subst hd
    cases dv with
    | lst hs ha =>
      have ev := dpa_ints_inv ns ha
      subst ev
      refine ⟨_, ns, rfl, SqL.of (o1.iH _ _ hs), hl, fun a c hn hcl => ⟨a, _, c, rfl, upd_same, by omega, fun ns' p h1 h2 h3 hp => ?_⟩⟩
      have hap : p ≠ a := fun z => by rw [z, upd_same] at hp; cases hp
      have g : Ok X.K ζ G σ e1 (upd H1 a (SetO X.w a (fun j => decide (j ∈ ns)) c)) I1 := o1.grow (Ex.up hn) (Ex.rf I1) (o1.iH.tr (Ex.up hn)) fun b z1 z2 => absurd z2 z1
      exact k p _ _ I1 e1 _ g x1 hp (dpa_ints ns') (q1 ns' h1 fun j => by rw [h2 j]; exact decide_eq_true_iff)⟩
end
end Pd

set_option Elab.async false
set_option linter.all false
set_option maxRecDepth 100000
set_option maxHeartbeats 4000000
/-! One's own list, at a place: any element. -/
namespace Pd
open PySem PySem.Spec PyProof.Rows L2
section
variable {X : Cx} {a b : Expr} {pos : Pos} {wb : WE}
def wIxO (i : Nat) (wb : WE) : WE := fun en Q => (∃ ds, en[i]? = some (.own ds)) ∧ wb en fun y e1 => ∃ ds m z, e1[i]? = some (.own ds) ∧ y = .int m ∧ atI ds m = some z ∧ Q z e1
theorem d_ixO2 {i : Nat} (ha : PE X a (tVar i)) (hb : PE X b (lE X.K ζ wb)) (hs : PlainIx b := by exact fun _ _ => rfl) : PE X (.Subscript a b pos) (lE X.K ζ (wIxO i wb)) :=
  (pe_ix ix_seq ha hb hs).mo fun σ H Q q => by
    obtain ⟨G, en, I, Q', o, ⟨⟨ds0, hi⟩, q⟩, k⟩ := q
    obtain ⟨l, vs0, r1, _⟩ := o.own hi
    refine ⟨.ref l, r1, G, en, I, _, o, q, fun u H2 I2 e2 d2 o2 x2 du ⟨ds, m, z, hd, hm, hz, q2⟩ => ?_⟩
    subst hm
    obtain ⟨l', vs, s1, s2, s3, s4⟩ := o2.own hd
    rw [r1] at s1
    have q5 : l = l' := by injection s1 with s1; injection s1 with s1; injection s1
    subst q5
    obtain ⟨v, hv, dv⟩ := dpa_at s4 hz
    cases du
    exact Or.inl ⟨_, _, _, v, rfl, rfl, SqL.of s3, hv, k v H2 I2 e2 z o2 x2 dv q2⟩
end
end Pd

set_option Elab.async false
set_option linter.all false
set_option maxRecDepth 100000
set_option maxHeartbeats 4000000
/-! zip of any number of iterators of one length. -/
namespace Pd
open PySem PySem.Spec PyProof.Rows L2
open Sem (wp)
/-- a zip: its owned tuple's field, whether it is known to be out -/
abbrev IsZipG (h : Heap) (z TI TO : Addr) (a : Value) (b : Bool) : Prop :=
  h.get? z = some { cls := .type "zip", dict := none, data := .fields #[a, .bool b, .bool false, .ref TI, .ref TO], slots := #[] }
abbrev IsTupG (h : Heap) (T : Addr) (xs : Array Value) : Prop := h.get? T = some { cls := .type "tuple", data := .seq xs }
/-- the owned tuple's field: none, or a tuple's address -/
def FldOk (a : Value) : Prop := a = .none ∨ ∃ T : Addr, a = rawInt T
section
variable {prog : Program} {w : World} {A : Around} {E : Value → Shared → Prop} {s : Shared}
theorem alive_any {T : Addr} {Q : Option Obj → Shared → Prop} (h : Q (s.heap.get? T) s) : wpAny (model prog w) A (loadIfAlive T) Q E s := fun _ _ _ => h
theorem owned_free {z TI TO : Addr} {a : Value} {b : Bool} {Q : Bool → Shared → Prop} (hz : IsZipG s.heap z TI TO a b) (ha : FldOk a)
    (h1 : Q true s) (h2 : ∀ h', IsZipG h' z TI TO a true → Heap.SameBut z s.heap h' → Q false { s with heap := h' }) : wpAny (model prog w) A (Builtin.SmallTypes.ownedTupleIsFree (.ref z)) Q E s := by
  unfold Builtin.SmallTypes.ownedTupleIsFree
  rcases ha with rfl | ⟨T, rfl⟩
  · exact wpAny_bind (wpAny_field hz rfl (x := .none) rfl (wpAny_pure h1))
  · refine wpAny_bind (wpAny_field hz rfl (x := rawInt T) rfl ?_)
    show wpAny _ _ (loadIfAlive ((T : Int).toNat) >>= _) _ _ _
    rw [Int.toNat_natCast]
    refine wpAny_bind (alive_any (T := T) ?_)
    cases ho : s.heap.get? T with
    | none =>
      rw [if_pos (by rfl)]
      exact wpAny_pure h1
    | some o =>
      simp only [Option.isNone_some, Bool.false_eq_true, if_false]
      refine wpAny_bind (wpAny_field hz rfl (x := .bool b) rfl ?_)
      cases b with
      | true =>
        rw [if_neg (show ¬ ((Value.bool true != Value.bool true) = true) from Bool.false_ne_true)]
        exact wpAny_pure (h2 s.heap hz (Heap.SameBut.refl _ _))
      | false =>
        rw [if_pos (show (Value.bool false != Value.bool true) = true from rfl)]
        exact wpAny_bind (wpAny_setField_rec hz (by simp) fun h₁ hz₁ hs₁ => wpAny_pure (h2 h₁ hz₁ hs₁))
/-- iterators it 0 .. it (m - 1), each of n turns -/
structure ZipSepN (z TI TO : Addr) (m : Nat) (it : Nat → Addr) (fp : Nat → List Addr) : Prop where
  TIz : TI ≠ z
  TOz : TO ≠ z
  TITO : TI ≠ TO
  TIi : ∀ k, k < m → TI ≠ it k
  mem : ∀ k, k < m → it k ∈ fp k
  zf : ∀ k, k < m → z ∉ fp k
  Tf : ∀ k, k < m → TO ∉ fp k
  sep : ∀ j k, j < m → k < m → j ≠ k → it j ∉ fp k
def itsA (m : Nat) (it : Nat → Addr) : Array Value := ((List.range m).map fun k => Value.ref (it k)).toArray
variable {z TI TO : Addr} {m n i : Nat} {it : Nat → Addr} {fp : Nat → List Addr} {P : Nat → Nat → Value → Prop} {St : Nat → Nat → Heap → Prop}
/-- what stands behind k draws -/
structure Half (hp : Heap) (z TI TO : Addr) (m i k : Nat) (it : Nat → Addr) (P : Nat → Nat → Value → Prop) (St : Nat → Nat → Heap → Prop) (g : Heap) (xs : List Value) : Prop where
  len : xs.length = k
  le : k ≤ m
  at_ : ∀ j x, xs[j]? = some x → P j i x
  new : ∀ j, j < k → St j (i + 1) g
  old : ∀ j, k ≤ j → j < m → St j i g
  size : g.objs.size = hp.objs.size
  keep : ∀ c o, c ≠ z → c ≠ TO → (∀ k, k < m → c ≠ it k) → hp.get? c = some o → g.get? c = some o
theorem its_drop {k : Nat} {v : Value} {rest : List Value} (h : (itsA m it).toList.drop k = v :: rest) : k < m ∧ v = .ref (it k) ∧ rest = (itsA m it).toList.drop (k + 1) := by
  have hk : k < m := by
    refine Classical.byContradiction fun q => ?_
    rw [List.drop_eq_nil_of_le (by simp [itsA]; omega)] at h
    cases h
  have hl : k < (itsA m it).toList.length := by simp [itsA]; exact hk
  rw [List.drop_eq_getElem_cons hl] at h
  injection h with h1 h2
  refine ⟨hk, ?_, h2.symm⟩
  rw [← h1]
  simp [itsA]
theorem its_dropZ {k : Nat} {v : Value × Nat} {rest : List (Value × Nat)} (h : (itsA m it).toList.zipIdx.drop k = v :: rest) : k < m ∧ v = (.ref (it k), k) ∧ rest = (itsA m it).toList.zipIdx.drop (k + 1) := by
  have hk : k < m := by
    refine Classical.byContradiction fun q => ?_
    rw [List.drop_eq_nil_of_le (by simp [itsA]; omega)] at h
    cases h
  have hl : k < (itsA m it).toList.zipIdx.length := by simp [itsA]; exact hk
  rw [List.drop_eq_getElem_cons hl] at h
  injection h with h1 h2
  refine ⟨hk, ?_, h2.symm⟩
  rw [← h1]
  simp [itsA]
theorem updateSeq_G {T : Addr} {ys : Array Value} {x : Value} {k : Nat} {Q : Unit → Shared → Prop} (hT : IsTupG s.heap T ys) (hy : ys.size ≤ 1000)
    (h : ∀ h', IsTupG h' T (ys.setIfInBounds k x) → Heap.SameBut T s.heap h' → Q () { s with heap := h' }) :
    wpAny (model prog w) A (updateSeq T (·.setIfInBounds k x)) Q E s := by
  refine wpAny_updateSeq hT rfl (h _ ?_ (Heap.SameBut.update ..)) (Nat.le_trans hy (by decide)) (by rw [Array.size_setIfInBounds]; exact Nat.le_trans hy (by decide))
  show Heap.get? _ _ = _
  rw [Heap.get?_update_self _ hT rfl]
  simp [Obj.mapSeq]
theorem half_step (S : ZipSepN z TI TO m it fp) (D : ∀ k, k < m → Draws prog w A (it k) (fp k) n (P k) (St k)) {hp h' p : Heap} {k : Nat} {xs : List Value} {x : Value} (H : Half hp z TI TO m i k it P St h' xs) (hk : k < m) (hx : P k i x) (sn : St k (i + 1) p) (hsb : Heap.SameBut (it k) h' p) : Half hp z TI TO m i (k + 1) it P St p (xs ++ [x]) :=
  ⟨by rw [List.length_append, H.len]; rfl, hk, fun j y hj => by
      rcases Nat.lt_or_ge j k with q | q
      · rw [List.getElem?_append_left (by rw [H.len]; exact q)] at hj
        exact H.at_ j y hj
      · have hjl := (List.getElem?_eq_some_iff.mp hj).1
        rw [List.length_append, H.len, List.length_singleton] at hjl
        have e : j = k := by omega
        rw [e, List.getElem?_append_right (by rw [H.len]; exact Nat.le_refl _), H.len, Nat.sub_self] at hj
        have : y = x := by simpa using hj.symm
        rw [e, this]; exact hx, fun j hj => by
      rcases Nat.lt_or_ge j k with q | q
      · exact (D j (by omega)).over (H.new j q) hsb (S.sep k j hk (by omega) (by omega))
      · rw [show j = k by omega]; exact sn, fun j q1 q2 => (D j q2).over (H.old j (by omega) q2) hsb (S.sep k j hk q2 (by omega)), by rw [hsb.1, H.size], fun c o c1 c2 c3 e => hsb.extBut _ _ (c3 k hk) (H.keep c o c1 c2 c3 e)⟩
theorem half_over (S : ZipSepN z TI TO m it fp) (D : ∀ k, k < m → Draws prog w A (it k) (fp k) n (P k) (St k)) {hp h' p : Heap} {k : Nat} {xs : List Value} (H : Half hp z TI TO m i k it P St h' xs) (hsb : Heap.SameBut TO h' p) : Half hp z TI TO m i k it P St p xs :=
  ⟨H.len, H.le, H.at_, fun j hj => (D j (Nat.lt_of_lt_of_le hj H.le)).over (H.new j hj) hsb (S.Tf j (Nat.lt_of_lt_of_le hj H.le)), fun j q1 q2 => (D j q2).over (H.old j q1 q2) hsb (S.Tf j q2), by rw [hsb.1, H.size], fun c o c1 c2 c3 e => hsb.extBut _ _ c2 (H.keep c o c1 c2 c3 e)⟩
theorem its_ne (hm : 0 < m) : (itsA m it).isEmpty = false := by
  rw [Array.isEmpty_eq_false_iff]
  intro h
  have : (itsA m it).size = 0 := by rw [h]; rfl
  simp [itsA] at this
  omega
theorem zipN_item (S : ZipSepN z TI TO m it fp) (D : ∀ k, k < m → Draws prog w A (it k) (fp k) n (P k) (St k)) (hm : 0 < m) (hml : m ≤ 1000) {a : Value} {b : Bool} {Q : Value → Shared → Prop}
    (hz : IsZipG s.heap z TI TO a b) (ha : FldOk a) (hTI : IsTupG s.heap TI (itsA m it)) (hTO : ∃ ys : Array Value, ys.size = m ∧ IsTupG s.heap TO ys) (st : ∀ k, k < m → St k i s.heap) (hlt : i < n)
    (hQ : ∀ (xs : List Value) (h' : Heap) tk (a' : Value) (b' : Bool), xs.length = m → (∀ j x, xs[j]? = some x → P j i x) → IsZipG h' z TI TO a' b' → FldOk a' → (∃ ys : Array Value, ys.size = m ∧ IsTupG h' TO ys) → (∀ k, k < m → St k (i + 1) h') → IsTupG h' s.heap.objs.size xs.toArray → h'.objs.size = s.heap.objs.size + 1 →
      (∀ c o, c ≠ z → c ≠ TO → (∀ k, k < m → c ≠ it k) → s.heap.get? c = some o → h'.get? c = some o) → Q (.ref s.heap.objs.size) { s with heap := h', toks := tk }) :
    wpAny (model prog w) A (Builtin.«zip.__next__» ⟨[.ref z], []⟩) (fun fin s' => ∃ v, fin = .done (.ret v) ∧ Q v s') E s := by
  obtain ⟨hp, g, d, tk0, os⟩ := s
  show wpAny _ _ (field (.ref z) 2 >>= _) _ _ _
  refine wpAny_bind (wpAny_field hz rfl (x := .bool false) rfl ?_)
  show wpAny _ _ (field (.ref z) 3 >>= _) _ _ _
  refine wpAny_bind (wpAny_field hz rfl (x := .ref TI) rfl ?_)
  have hsl : (itsA m it).size ≤ sizeLine := Nat.le_trans (by simp [itsA]; omega : (itsA m it).size ≤ 1000) (by decide)
  refine wpAny_bind (wpAny_seqItems hTI rfl ?_)
  simp only [its_ne hm, Bool.false_eq_true, if_false]
  obtain ⟨ys0, hys0, hTO⟩ := hTO
  refine wpAny_bind (owned_free hz ha ?_ fun h₁ hz₁ hs₁ => ?_)
  · simp only [if_true]
    refine wpAny_bind (wpAny_rule ?_)
    refine wpAny_bind (wpAny_field hz rfl (x := .ref TO) rfl ?_)
    refine wpAny_bind (wpAny_setField_rec hz (by simp) fun g0 hz0 hs0 => ?_)
    replace hz0 : IsZipG g0 z TI TO .ellipsis b := hz0
    replace hs0 : Heap.SameBut z hp g0 := hs0
    refine wpAny_bind (wpAny_forIn_list _ (fun rest bs s' => ∃ (k : Nat) (h' : Heap) (tk : Nat) (xs : List Value) (ys : Array Value), bs = (Option.none, ()) ∧ rest = (itsA m it).toList.zipIdx.drop k ∧ s' = ⟨h', g, d, tk, os⟩ ∧ IsZipG h' z TI TO .ellipsis b ∧ ys.size = m ∧ (∀ j, j < k → ys[j]? = xs[j]?) ∧ IsTupG h' TO ys ∧ Half hp z TI TO m i k it P St h' xs) _ ?_ ?_ _ _ ?_)
    · rintro v rest bs s' ⟨k, h', tk, xs, ys, rfl, hrest, rfl, hz', hys, hyx, hT', H⟩
      obtain ⟨hk, rfl, rfl⟩ := its_dropZ hrest.symm
      have zk : z ≠ it k := fun e => S.zf k hk (e ▸ S.mem k hk)
      have Tk : TO ≠ it k := fun e => S.Tf k hk (e ▸ S.mem k hk)
      refine wpAny_bind (wpAny_onRaise ?_)
      show wpAny _ _ (Builtin.SmallTypes.nextOf (.ref (it k)) >>= _) _ _ _
      refine wpAny_bind ((D k hk).item i _ _ _ hlt (H.old k (Nat.le_refl _) hk) fun x p tk1 hx sn hsb => wpAny_pure ?_)
      replace hsb : Heap.SameBut (it k) h' p := hsb
      have hU : IsTupG p TO ys := hsb.extBut _ _ Tk hT'
      refine wpAny_bind (wpAny_seqItems (s := ⟨p, g, d, tk1, os⟩) hU rfl ?_)
      refine wpAny_bind (updateSeq_G (s := ⟨p, g, d, tk1, os⟩) hU (by omega) fun g1 hT1 hs1 => ?_)
      replace hs1 : Heap.SameBut TO p g1 := hs1
      refine wpAny_bind (wpAny_letGo (wpAny_pure ?_))
      refine ⟨k + 1, g1, tk1, xs ++ [x], ys.setIfInBounds k x, rfl, rfl, rfl, hs1.extBut _ _ S.TOz.symm (hsb.extBut _ _ zk hz'), by rw [Array.size_setIfInBounds]; exact hys, fun j hj => ?_, hT1, half_over S D (half_step S D H hk hx sn hsb) hs1⟩
      rcases Nat.lt_or_ge j k with q | q
      · rw [List.getElem?_append_left (by rw [H.len]; exact q), Array.getElem?_setIfInBounds_ne (by omega)]
        exact hyx j q
      · have e : j = k := by omega
        rw [e, List.getElem?_append_right (by rw [H.len]; exact Nat.le_refl _), H.len, Nat.sub_self, Array.getElem?_setIfInBounds_self_of_lt (by omega)]
        rfl
    · rintro bs s' ⟨k, h', tk, xs, ys, rfl, hrest, rfl, hz', hys, hyx, hT', H⟩
      have ek : k = m := by
        refine Nat.le_antisymm H.le (Nat.le_of_not_lt fun q => ?_)
        have : ((itsA m it).toList.zipIdx.drop k).length = 0 := by rw [← hrest]; rfl
        simp [itsA] at this
        omega
      have exs : ys.toList = xs := List.ext_getElem? fun j => by
        rcases Nat.lt_or_ge j k with q | q
        · rw [Array.getElem?_toList]; exact hyx j q
        · rw [List.getElem?_eq_none (by simp; omega), List.getElem?_eq_none (by rw [H.len]; exact q)]
      have hzlt : z < h'.objs.size := Heap.lt_size hz'
      refine wpAny_bind (wpAny_seqItems (s := ⟨h', g, d, tk, os⟩) hT' rfl ?_)
      refine wpAny_bind (wpAny_newTuple ?_ (Nat.le_trans (by simp; omega : _ ≤ 1000) (by decide)))
      show wpAny _ _ (Builtin.SmallTypes.ownedTupleHandOut (.ref z) (.ref h'.objs.size) >>= _) _ _ _
      refine wpAny_bind ?_
      unfold Builtin.SmallTypes.ownedTupleHandOut
      rw [exs]
      have hz₆ : IsZipG (h'.push { cls := .type "tuple", data := .seq xs.toArray }) z TI TO .ellipsis b := Heap.get?_push_of_some _ hz'
      refine wpAny_bind (wpAny_setField_rec hz₆ (by simp) fun h₇ hz₇ hs₇ => ?_)
      replace hz₇ : IsZipG h₇ z TI TO (rawInt h'.objs.size) b := hz₇
      refine wpAny_setField_rec hz₇ (by simp) fun h₈ hz₈ hs₈ => ?_
      replace hz₈ : IsZipG h₈ z TI TO (rawInt h'.objs.size) false := hz₈
      replace hs₇ : Heap.SameBut z (h'.push { cls := .type "tuple", data := .seq xs.toArray }) h₇ := hs₇
      replace hs₈ : Heap.SameBut z h₇ h₈ := hs₈
      have up : ∀ c o, c ≠ z → h'.get? c = some o → h₈.get? c = some o := fun c o c1 e => hs₈.extBut _ _ c1 (hs₇.extBut _ _ c1 (Heap.get?_push_of_some _ e))
      have hT₈ : IsTupG h₈ h'.objs.size xs.toArray := hs₈.extBut _ _ (Nat.ne_of_gt hzlt) (hs₇.extBut _ _ (Nat.ne_of_gt hzlt) (Heap.get?_push_size _ rfl))
      have hz8 : h₈.objs.size = h'.objs.size + 1 := by rw [hs₈.1, hs₇.1, Heap.size_push]
      have hq := H.size
      rw [hq] at hz₈ hT₈ hz8
      refine wpAny_pure ⟨_, rfl, ?_⟩
      show Q (.ref h'.objs.size) _
      rw [hq]
      exact hQ xs _ tk _ false (by rw [H.len, ek]) H.at_ hz₈ (Or.inr ⟨_, rfl⟩) ⟨ys, hys, up _ _ S.TOz hT'⟩ (fun k hk => (D k hk).frame _ _ _ (H.new k (by omega)) fun b hb o e => up b o (fun q => S.zf k hk (q ▸ hb)) e) hT₈ hz8 fun c o c1 c2 c3 e => up _ _ c1 (H.keep c o c1 c2 c3 e)
    · exact ⟨0, g0, tk0, [], ys0, rfl, by rw [List.drop_zero], rfl, hz0, hys0, fun j h => absurd h (Nat.not_lt_zero _), hs0.extBut _ _ S.TOz hTO, rfl, Nat.zero_le _, fun j x h => by simp at h, fun j h => absurd h (Nat.not_lt_zero _), fun j _ h => (D j h).over (st j h) hs0 (S.zf j h), hs0.1, fun c o c1 _ _ e => hs0.extBut _ _ c1 e⟩
  · simp only [Bool.false_eq_true, if_false]
    refine wpAny_bind (MeetsSeq2.wpAny_forIn_array _ (fun rest bs s' => ∃ (k : Nat) (h' : Heap) (tk : Nat) (xs : List Value), bs = (Option.none, xs.toArray) ∧ rest = (itsA m it).toList.drop k ∧ s' = ⟨h', g, d, tk, os⟩ ∧ IsZipG h' z TI TO a true ∧ IsTupG h' TO ys0 ∧ Half hp z TI TO m i k it P St h' xs) _ ?_ ?_ _ _ ?_)
    · rintro v rest bs s' ⟨k, h', tk, xs, rfl, hrest, rfl, hz', hT', H⟩
      obtain ⟨hk, rfl, rfl⟩ := its_drop hrest.symm
      refine wpAny_bind (wpAny_holding ?_)
      show wpAny _ _ (Builtin.SmallTypes.nextOf (.ref (it k)) >>= _) _ _ _
      refine wpAny_bind ((D k hk).item i _ _ _ hlt (H.old k (Nat.le_refl _) hk) fun x p tk1 hx sn hsb => wpAny_pure ?_)
      refine wpAny_pure ?_
      replace hsb : Heap.SameBut (it k) h' p := hsb
      have zk : z ≠ it k := fun e => S.zf k hk (e ▸ S.mem k hk)
      have Tk : TO ≠ it k := fun e => S.Tf k hk (e ▸ S.mem k hk)
      refine ⟨k + 1, p, tk1, xs ++ [x], by simp, rfl, rfl, hsb.extBut _ _ zk hz', hsb.extBut _ _ Tk hT', ?_⟩
      exact half_step S D H hk hx sn hsb
    · rintro bs s' ⟨k, h', tk, xs, rfl, hrest, rfl, hz', hT', H⟩
      have ek : k = m := by
        refine Nat.le_antisymm H.le (Nat.le_of_not_lt fun q => ?_)
        have : ((itsA m it).toList.drop k).length = 0 := by rw [← hrest]; rfl
        simp [itsA] at this
        omega
      have hzlt : z < h'.objs.size := Heap.lt_size hz'
      show wpAny _ _ (newTuple xs.toArray.toList >>= _) _ _ _
      refine wpAny_bind (wpAny_newTuple ?_ (Nat.le_trans (by simp [H.len]; omega : _ ≤ 1000) (by decide)))
      refine wpAny_pure ⟨_, rfl, ?_⟩
      have hT2 : IsTupG (h'.push { cls := .type "tuple", data := .seq xs.toArray.toList.toArray }) h'.objs.size xs.toArray := Heap.get?_push_size _ rfl
      have hsz : (h'.push { cls := .type "tuple", data := .seq xs.toArray.toList.toArray }).objs.size = h'.objs.size + 1 := Heap.size_push ..
      have up : ∀ c o, h'.get? c = some o → (h'.push { cls := .type "tuple", data := .seq xs.toArray.toList.toArray }).get? c = some o := fun c o e => Heap.get?_push_of_some _ e
      have hq := H.size
      show Q (.ref h'.objs.size) _
      rw [hq] at hT2 hsz ⊢
      exact hQ xs _ tk a true (by rw [H.len, ek]) H.at_ (up _ _ hz') ha ⟨ys0, hys0, up _ _ hT'⟩ (fun k hk => (D k hk).frame _ _ _ (H.new k (by omega)) fun b _ o e => up b o e) hT2 hsz fun c o c1 c2 c3 e => up _ _ (H.keep c o c1 c2 c3 e)
    · exact ⟨0, h₁, tk0, [], rfl, by rw [List.drop_zero], rfl, hz₁, hs₁.extBut _ _ S.TOz hTO, rfl, Nat.zero_le _, fun j x h => by simp at h, fun j h => absurd h (Nat.not_lt_zero _), fun j _ h => (D j h).over (st j h) hs₁ (S.zf j h), hs₁.1, fun c o c1 _ _ e => hs₁.extBut _ _ c1 e⟩
theorem zipN_end (S : ZipSepN z TI TO m it fp) (D : ∀ k, k < m → Draws prog w A (it k) (fp k) n (P k) (St k)) (hm : 0 < m) {a : Value} {b : Bool} {Q : PySem.Fin → Shared → Prop}
    (hz : IsZipG s.heap z TI TO a b) (ha : FldOk a) (hTI : IsTupG s.heap TI (itsA m it)) (hTO : ∃ ys : Array Value, ys.size = m ∧ IsTupG s.heap TO ys) (st : ∀ k, k < m → St k n s.heap)
    (hE : ∀ h' tk e, (∀ c o, c ≠ z → c ≠ TO → (∀ k, k < m → c ≠ it k) → s.heap.get? c = some o → h'.get? c = some o) → (∃ o, h'.get? e = some o ∧ o.cls = .type "StopIteration") → E (.ref e) { s with heap := h', toks := tk }) :
    wpAny (model prog w) A (Builtin.«zip.__next__» ⟨[.ref z], []⟩) Q E s := by
  obtain ⟨hp, g, d, tk0, os⟩ := s
  show wpAny _ _ (field (.ref z) 2 >>= _) _ _ _
  refine wpAny_bind (wpAny_field hz rfl (x := .bool false) rfl ?_)
  show wpAny _ _ (field (.ref z) 3 >>= _) _ _ _
  refine wpAny_bind (wpAny_field hz rfl (x := .ref TI) rfl ?_)
  refine wpAny_bind (wpAny_seqItems hTI rfl ?_)
  simp only [its_ne hm, Bool.false_eq_true, if_false]
  obtain ⟨ys0, hys0, hTO⟩ := hTO
  have hl : (itsA m it).toList = .ref (it 0) :: (itsA m it).toList.drop 1 := by
    cases e : (itsA m it).toList with
    | nil =>
      have : (itsA m it).toList.length = 0 := by rw [e]; rfl
      simp [itsA] at this
      omega
    | cons v t =>
      obtain ⟨_, h1, _⟩ := its_drop (k := 0) (by rw [List.drop_zero]; exact e)
      rw [h1]; rfl
  have z0 : z ≠ it 0 := fun e => S.zf 0 hm (e ▸ S.mem 0 hm)
  refine wpAny_bind (owned_free hz ha ?_ fun h₁ hz₁ hs₁ => ?_)
  · simp only [if_true]
    refine wpAny_bind (wpAny_rule ?_)
    refine wpAny_bind (wpAny_field hz rfl (x := .ref TO) rfl ?_)
    refine wpAny_bind (wpAny_setField_rec hz (by simp) fun g0 hz0 hs0 => ?_)
    replace hz0 : IsZipG g0 z TI TO .ellipsis b := hz0
    replace hs0 : Heap.SameBut z hp g0 := hs0
    refine wpAny_bind ?_
    rw [hl, List.zipIdx_cons, List.forIn_cons]
    refine wpAny_bind (wpAny_bind (wpAny_onRaise ?_))
    show wpAny _ _ (Builtin.SmallTypes.nextOf (.ref (it 0)) >>= _) _ _ _
    refine wpAny_bind ((D 0 hm).done ⟨g0, g, d, tk0, os⟩ _ _ ((D 0 hm).over (st 0 hm) hs0 (S.zf 0 hm)) fun q e hq he => ?_)
    replace hq : Heap.ExtBut (it 0) g0 q := hq
    obtain ⟨oe, hoe, hce⟩ := he
    replace hoe : q.get? e = some oe := hoe
    have hzq : IsZipG q z TI TO .ellipsis b := hq _ _ z0 hz0
    have hez : e ≠ z := fun x => by subst x; rw [hzq] at hoe; cases hoe; simp at hce
    refine wpAny_setField_rec (s := ⟨q, g, d, tk0, os⟩) hzq (by simp) fun q' _ hq' => ?_
    replace hq' : Heap.SameBut z q q' := hq'
    exact hE q' tk0 e (fun c o cz cT c1 x => hq'.extBut _ _ cz (hq _ _ (c1 0 hm) (hs0.extBut _ _ cz x))) ⟨oe, hq'.extBut _ _ hez hoe, hce⟩
  · simp only [Bool.false_eq_true, if_false]
    refine wpAny_bind ?_
    rw [← Array.forIn_toList, hl, List.forIn_cons]
    refine wpAny_bind (wpAny_bind (wpAny_holding ?_))
    show wpAny _ _ (Builtin.SmallTypes.nextOf (.ref (it 0)) >>= _) _ _ _
    refine wpAny_bind ((D 0 hm).done ⟨h₁, g, d, tk0, os⟩ _ _ ((D 0 hm).over (st 0 hm) hs₁ (S.zf 0 hm)) fun q e hq he => ?_)
    replace hq : Heap.ExtBut (it 0) h₁ q := hq
    exact hE q tk0 e (fun c o cz cT c1 x => hq _ _ (c1 0 hm) (hs₁.extBut _ _ cz x)) he
theorem pyNext_zipN_item (S : ZipSepN z TI TO m it fp) (D : ∀ k, k < m → Draws prog w A.in1 (it k) (fp k) n (P k) (St k)) (hm : 0 < m) (hml : m ≤ 1000) {a : Value} {b : Bool} {Q : Option Value → Shared → Prop}
    (hz : IsZipG s.heap z TI TO a b) (ha : FldOk a) (hTI : IsTupG s.heap TI (itsA m it)) (hTO : ∃ ys : Array Value, ys.size = m ∧ IsTupG s.heap TO ys) (st : ∀ k, k < m → St k i s.heap) (hlt : i < n)
    (hQ : ∀ (xs : List Value) (h' : Heap) tk (a' : Value) (b' : Bool), xs.length = m → (∀ j x, xs[j]? = some x → P j i x) → IsZipG h' z TI TO a' b' → FldOk a' → (∃ ys : Array Value, ys.size = m ∧ IsTupG h' TO ys) → (∀ k, k < m → St k (i + 1) h') → IsTupG h' s.heap.objs.size xs.toArray → h'.objs.size = s.heap.objs.size + 1 →
      (∀ c o, c ≠ z → c ≠ TO → (∀ k, k < m → c ≠ it k) → s.heap.get? c = some o → h'.get? c = some o) → Q (some (.ref s.heap.objs.size)) { s with heap := h', toks := tk }) :
    wpAny (model prog w) A (pyNext (.ref z)) Q E s := by
  have hT : s.TypeIs (.ref z) "zip" := ⟨_, hz, rfl⟩
  unfold pyNext
  exact wpAny_bind (wpAny_attempt (wpAny_callSpecial?_slot (name := Str.ofString "__next__") hT F.slot_zip_next
    (wpAny_call_entry F.slot_zip_next hT F.entry_zip_next
      (zipN_item S D hm hml hz ha hTI hTO st hlt fun xs h' tk a' b' y1 y2 b1 b2 d1 d2 b5 b6 b7 => wpAny_pure (hQ xs h' tk a' b' y1 y2 b1 b2 d1 d2 b5 b6 b7)) (F.args_zip_next_1 _))))
theorem pyNext_zipN_end (S : ZipSepN z TI TO m it fp) (D : ∀ k, k < m → Draws prog w A.in1 (it k) (fp k) n (P k) (St k)) (hm : 0 < m) {a : Value} {b : Bool} {Q : Option Value → Shared → Prop}
    (hz : IsZipG s.heap z TI TO a b) (ha : FldOk a) (hTI : IsTupG s.heap TI (itsA m it)) (hTO : ∃ ys : Array Value, ys.size = m ∧ IsTupG s.heap TO ys) (st : ∀ k, k < m → St k n s.heap)
    (hQ : ∀ h' tk, (∀ c o, c ≠ z → c ≠ TO → (∀ k, k < m → c ≠ it k) → s.heap.get? c = some o → h'.get? c = some o) → Q none { s with heap := h', toks := tk }) : wpAny (model prog w) A (pyNext (.ref z)) Q E s := by
  have hT : s.TypeIs (.ref z) "zip" := ⟨_, hz, rfl⟩
  unfold pyNext
  refine wpAny_bind (wpAny_attempt (wpAny_callSpecial?_slot (name := Str.ofString "__next__") hT F.slot_zip_next
    (wpAny_call_entry F.slot_zip_next hT F.entry_zip_next (zipN_end S D hm hz ha hTI hTO st fun h' tk e hk he => ?_) (F.args_zip_next_1 _))))
  obtain ⟨o, ho, hc⟩ := he
  refine wpAny_bind (wpAny_isInstance (T := "StopIteration") (b := true) ⟨o, ho, hc⟩ isSubtype_stop ?_)
  exact wpAny_pure (hQ _ _ hk)
end
end Pd

set_option Elab.async false
set_option linter.all false
set_option maxRecDepth 100000
set_option maxHeartbeats 4000000
/-! zip of any number of iterators: it begins. -/
namespace PySem
theorem tc_zipN (vs : List Value) : checkTypeCall "zip" ⟨vs, []⟩ = pure () := by kernel_rfl
theorem nc_zipN (v : Value) (vs : List Value) : checkBuiltinCall "zip.__new__" ⟨.type "zip" :: v :: vs, []⟩ = pure () := by kernel_rfl
theorem oi_zipN (obj : Value) (vs : List Value) : argsOk "object.__init__" ⟨obj :: vs, []⟩ := by unfold argsOk; kernel_rfl
end PySem
namespace Pd
open PySem PySem.Spec PyProof.Rows L2
section
variable {prog : Program} {w : World} {A : Around} {E : Value → Shared → Prop} {s : Shared} {m : Nat}
/-- behind k iterators made -/
structure Made (hp : Heap) (k : Nat) (os : Nat → Obj) (g : Heap) : Prop where
  size : g.objs.size = hp.objs.size + k
  new : ∀ j, j < k → g.get? (hp.objs.size + j) = some (os j)
  keep : ∀ c o, hp.get? c = some o → g.get? c = some o
theorem iterAll_N {vs : List Value} {ob : Nat → Obj} {Hs : Nat → Heap → Prop} {Q : List Value → Shared → Prop} (B : ∀ j v, vs[j]? = some v → Begins v (ob j) (Hs j)) (hH : ∀ j, j < vs.length → Hs j s.heap)
    (hQ : ∀ h', Made s.heap vs.length ob h' → Q ((List.range vs.length).map fun j => Value.ref (s.heap.objs.size + j)) { s with heap := h' }) :
    wpAny (model prog w) A (Builtin.SmallTypes.iterAll vs) Q E s := by
  obtain ⟨hp, g, d, tk, os⟩ := s
  unfold Builtin.SmallTypes.iterAll
  refine wpAny_bind (wpAny_forIn_list _ (fun rest bs s' => ∃ (k : Nat) (h' : Heap), rest = vs.drop k ∧ k ≤ vs.length ∧ bs = ((List.range k).map fun j => Value.ref (hp.objs.size + j)).toArray ∧ s' = ⟨h', g, d, tk, os⟩ ∧ Made hp k ob h') _ ?_ ?_ _ _ ?_)
  · rintro v rest bs s' ⟨k, h', hrest, hk, rfl, rfl, M⟩
    have hlt : k < vs.length := by
      refine Classical.byContradiction fun q => ?_
      rw [List.drop_eq_nil_of_le (by omega)] at hrest
      cases hrest
    rw [List.drop_eq_getElem_cons hlt] at hrest
    injection hrest with e1 e2
    have hv : vs[k]? = some v := by rw [List.getElem?_eq_getElem hlt, e1]
    have Bk := B k v hv
    refine wpAny_bind (wpAny_holding (Bk.iter prog w _ _ ⟨h', g, d, tk, os⟩ _ (Bk.keeps _ _ (hH k hlt) M.keep) ?_))
    refine wpAny_pure ?_
    refine ⟨k + 1, h'.push (ob k), e2, hlt, ?_, rfl, ⟨?_, fun j hj => ?_, fun c o e => Heap.get?_push_of_some _ (M.keep c o e)⟩⟩
    · show Array.push _ (Value.ref h'.objs.size) = _
      rw [M.size, List.range_succ, List.map_append]
      simp
    · rw [Heap.size_push, M.size]; omega
    · rcases Nat.lt_or_ge j k with q | q
      · exact Heap.get?_push_of_some _ (M.new j q)
      · rw [show j = k by omega, ← M.size]
        exact Heap.get?_push_size _ Bk.free
  · rintro bs s' ⟨k, h', hrest, hk, rfl, rfl, M⟩
    have e : k = vs.length := by
      refine Nat.le_antisymm hk (Nat.le_of_not_lt fun q => ?_)
      have : (vs.drop k).length = 0 := by rw [← hrest]; rfl
      rw [List.length_drop] at this
      omega
    subst e
    refine wpAny_pure ?_
    simpa using hQ h' M
  · exact ⟨0, hp, by rw [List.drop_zero], Nat.zero_le _, rfl, rfl, ⟨rfl, fun j h => absurd h (Nat.not_lt_zero _), fun c o e => e⟩⟩
/-- a zip as it is made -/
structure ZipNew (hp : Heap) (m : Nat) (ob : Nat → Obj) (h : Heap) : Prop where
  z : IsZipG h (hp.objs.size + m + 2) (hp.objs.size + m) (hp.objs.size + m + 1) .none false
  TI : IsTupG h (hp.objs.size + m) (itsA m fun j => hp.objs.size + j)
  TO : ∃ ys : Array Value, ys.size = m ∧ IsTupG h (hp.objs.size + m + 1) ys
  new : ∀ j, j < m → h.get? (hp.objs.size + j) = some (ob j)
  keep : ∀ c o, hp.get? c = some o → h.get? c = some o
theorem meets_zipN {v : Value} {vs : List Value} {ob : Nat → Obj} {Hs : Nat → Heap → Prop} (hml : (v :: vs).length ≤ 1000) (B : ∀ j u, (v :: vs)[j]? = some u → Begins u (ob j) (Hs j)) :
    Meets (Builtin.«zip.__new__» ⟨.type "zip" :: v :: vs, []⟩) (fun _ R s => (∀ j, j < (v :: vs).length → Hs j s.heap) ∧
      ∀ h', ZipNew s.heap (v :: vs).length ob h' → R (.ok (.ret (.ref (s.heap.objs.size + (v :: vs).length + 2)))) { s with heap := h' }) :=
  .of_wp fun prog w A R s h => by
    obtain ⟨hp, g, d, tk, os⟩ := s; obtain ⟨h1, h⟩ := h
    have hsub := sub_zip
    generalize hvs : v :: vs = us at *
    have q1 : ∀ {A' : Around} {E : Value → Shared → Prop} {Q : List Value → Shared → Prop}, (∀ h', Made hp us.length ob h' → Q ((List.range us.length).map fun j => Value.ref (hp.objs.size + j)) ⟨h', g, d, tk, os⟩) → wpAny (model prog w) A' (Builtin.SmallTypes.iterAll us) Q E ⟨hp, g, d, tk, os⟩ :=
      fun q => iterAll_N (s := ⟨hp, g, d, tk, os⟩) B h1 q
    wp_walk using q1
    intro h' M
    have l1 : ((List.range us.length).map fun j => Value.ref (hp.objs.size + j)).length ≤ sizeLine := Nat.le_trans (by simp; omega : _ ≤ 1000) (by decide)
    have l2 : (((List.range us.length).map fun j => Value.ref (hp.objs.size + j)).map fun _ => Value.none).length ≤ sizeLine := Nat.le_trans (by simp; omega : _ ≤ 1000) (by decide)
    refine wpAny_bind (wpAny_newTuple ?_ l1)
    refine wpAny_bind (wpAny_newTuple ?_ l2)
    have s0 := M.size
    obtain ⟨h1', e1⟩ : ∃ h1', h1' = h'.push { cls := .type "tuple", data := .seq ((List.range us.length).map fun j => Value.ref (hp.objs.size + j)).toArray } := ⟨_, rfl⟩
    obtain ⟨h2', e2⟩ : ∃ h2', h2' = h1'.push { cls := .type "tuple", data := .seq (((List.range us.length).map fun j => Value.ref (hp.objs.size + j)).map fun _ => Value.none).toArray } := ⟨_, rfl⟩
    have s1 : h1'.objs.size = hp.objs.size + us.length + 1 := by rw [e1, Heap.size_push, s0]
    have s2 : h2'.objs.size = hp.objs.size + us.length + 2 := by rw [e2, Heap.size_push, s1]
    rw [← e1, ← e2]
    refine wpAny_bind ?_
    show wpAny _ _ (newObj (.type "zip") (.fields #[.none, .bool false, .bool false, .ref h'.objs.size, .ref h1'.objs.size])) _ _ _
    refine wpAny_newObj_type ?_ (by size_fits)
    refine wpAny_pure ⟨_, rfl, ?_⟩
    show R (.ok (.ret (.ref h2'.objs.size))) _
    have k1 : ∀ c o, h'.get? c = some o → h1'.get? c = some o := fun c o e => by rw [e1]; exact Heap.get?_push_of_some _ e
    have k2 : ∀ c o, h1'.get? c = some o → h2'.get? c = some o := fun c o e => by rw [e2]; exact Heap.get?_push_of_some _ e
    have gT : IsTupG h1' h'.objs.size (itsA us.length fun j => hp.objs.size + j) := by rw [e1]; exact Heap.get?_push_size _ rfl
    have gO : IsTupG h2' h1'.objs.size (((List.range us.length).map fun j => Value.ref (hp.objs.size + j)).map fun _ => Value.none).toArray := by rw [e2]; exact Heap.get?_push_size _ rfl
    rw [s2]
    refine h _ ⟨?_, ?_, ⟨(((List.range us.length).map fun j => Value.ref (hp.objs.size + j)).map fun _ => Value.none).toArray, ?_, ?_⟩, fun j hj => ?_, fun c o e => ?_⟩
    · rw [← s2, ← s1, ← s0]
      exact Heap.get?_push_size _ rfl
    · rw [← s0]; exact Heap.get?_push_of_some _ (k2 _ _ gT)
    · simp
    · rw [← s1]; exact Heap.get?_push_of_some _ gO
    · exact Heap.get?_push_of_some _ (k2 _ _ (k1 _ _ (M.new j hj)))
    · exact Heap.get?_push_of_some _ (k2 _ _ (k1 _ _ (M.keep c o e)))
theorem zipN_begins {v : Value} {vs : List Value} {ob : Nat → Obj} {Hs : Nat → Heap → Prop} {Q : Value → Shared → Prop} (hml : (v :: vs).length ≤ 1000) (B : ∀ j u, (v :: vs)[j]? = some u → Begins u (ob j) (Hs j)) (hH : ∀ j, j < (v :: vs).length → Hs j s.heap)
    (hQ : ∀ h', ZipNew s.heap (v :: vs).length ob h' → Q (.ref (s.heap.objs.size + (v :: vs).length + 2)) { s with heap := h' }) : wpAny (model prog w) A (call (.type "zip") (v :: vs)) Q E s :=
  callType_new F.called_zip (by decide) (tc_zipN _) (nc_zipN _ _) (fun obj => oi_zipN obj _) F.entry_zip_new (meets_zipN hml B) ⟨hH, fun h' Z => ⟨⟨_, Z.z, rfl⟩, hQ h' Z⟩⟩
/-- zip( *..) -/
theorem callWith_typeS {M : Model} {s : Shared} {T : String} {env : Env} {e : Expr} {p pos : Pos} {Q : Value → Shared → Prop} (h : wpAny M A (eval e env) (fun v s₁ => PySem.W.StarOf M A E v (fun vs s₂ => wpAny M A (call (.type T) vs) Q E s₂) s₁) E s)
    (he : starEach [.Starred e p] env = [(true, eval e env)] := by rfl) : wpAny M A (callWith pos (.type T) [] (backTo pos (starEach [.Starred e p] env)) []) Q E s := by
  rw [he]
  unfold callWith
  refine wpAny_bind (wpAny_holding (wpAny_mono (PySem.W.ks_lone (f := .type T) (Q := fun a s₂ => wpAny M A (call (.type T) ([] ++ a.pos) a.kw) Q E s₂) h) (fun a s₁ h₁ => wpAny_bind (wpAny_standAt ?_)) fun _ _ x => x))
  refine wpAny_bind (wpAny_pure ?_)
  exact wpAny_bind (wpAny_mono (wpAny_operating h₁) (fun r s₂ hr => wpAny_bind (wpAny_holding (wpAny_point (wpAny_pure hr)))) fun _ _ x => x)
end
end Pd

set_option Elab.async false
set_option linter.all false
set_option maxRecDepth 100000
set_option maxHeartbeats 4000000
/-! zip( *rows), rows of one length, walked by one name. -/
namespace Pd
open PySem PySem.Spec PyProof.Rows L2
def RowV (K : PySem.W.Frag) (H : Hp) (a : Addr) (b : Bool) (vs : List V) : Prop := if b then SqT K H a vs else SqL K H a vs
def rowIt (h : Heap) (it a : Addr) (b : Bool) (i : Nat) : Prop := if b then h.IsTupleIter it a i else h.IsListIter it a i
def rowIs (h : Heap) (a : Addr) (b : Bool) (items : Array Value) : Prop := if b then h.IsTuple a items else h.IsList a items
/-- rows told by their addresses, whether tuples, and their one length -/
def RowsOk (K : PySem.W.Frag) (H : Hp) (rows : List Addr) (tp : Nat → Bool) (n : Nat) : Prop := ∀ j a, rows[j]? = some a → ∃ vs, RowV K H a (tp j) vs ∧ vs.length = n
def ItzN (K : PySem.W.Frag) (rows : List Addr) (tp : Nat → Bool) (n : Nat) : It :=
  ⟨fun i H => i < n ∧ RowsOk K H rows tp n,
    fun i H y H' => ∃ T us, y = .ref T ∧ H T = none ∧ H' = upd H T (.tup us) ∧ us.length = rows.length ∧ ∀ j a vs, rows[j]? = some a → RowV K H a (tp j) vs → us[j]? = vs[i]?,
    fun i H => i = n ∧ RowsOk K H rows tp n⟩
section
variable {prog : Program} {w : World} {A : Around}
theorem row_draws (hh : A.handled = none) (it a : Addr) (b : Bool) (hne : a ≠ it) (items : Array Value) : Draws prog w A it [it, a] items.size (fun i v => items[i]? = some v) (fun i h => rowIt h it a b i ∧ rowIs h a b items) := by
  cases b
  · exact Draws.list hh it a hne items
  · exact Draws.tuple hh it a hne items
theorem rowIt_at {h h' : Heap} {it a : Addr} {b : Bool} {i : Nat} (st : rowIt h it a b i) (hk : ∀ o, h.get? it = some o → h'.get? it = some o) : rowIt h' it a b i := by
  cases b
  · exact Heap.IsListIter.at st hk
  · exact Heap.IsTupleIter.at st hk
theorem rowIt_get {h : Heap} {it a : Addr} {b : Bool} {i : Nat} (st : rowIt h it a b i) : ∃ o, h.get? it = some o ∧ ∀ v, o.data ≠ .cell v := by
  cases b
  · obtain ⟨o, h1, _, h2⟩ := id st
    exact ⟨o, h1, fun v e => by rw [h2] at e; cases e⟩
  · obtain ⟨o, h1, _, h2⟩ := id st
    exact ⟨o, h1, fun v e => by rw [h2] at e; cases e⟩
theorem row_begins (a : Addr) (b : Bool) (items : Array Value) : Begins (.ref a) (if b then { cls := .type "tuple_iterator", data := .fields #[.ref a, .int 0 0] } else { cls := .type "list_iterator", data := .fields #[.ref a, .int 0 0] }) fun h => rowIs h a b items := by
  cases b
  · exact begins_list a items
  · exact begins_tuple a items
end
theorem rowV_inv {X : Cx} {pins : List (Addr × Obj)} {σ : L2.St} {H : Hp} {s : Shared} (I : Inv X pins σ H s) {a : Addr} {b : Bool} {vs : List V} (h : RowV X.K H a b vs) : ∃ its : List Value, Vals vs its ∧ rowIs s.heap a b its.toArray ∧ a < s.heap.objs.size := by
  cases b
  · obtain ⟨its, rv, pl, _⟩ := I.list h
    exact ⟨its, rv, pl.isList, pl.lt⟩
  · obtain ⟨its, rv, pt, _⟩ := I.tuple h
    obtain ⟨ot, hot, _⟩ := id pt
    exact ⟨its, rv, pt, Heap.lt_size hot⟩
theorem vals_of : ∀ {us : List V} {xs : List Value}, us.length = xs.length → (∀ (j : Nat) u x, us[j]? = some u → xs[j]? = some x → RelV u x) → Vals us xs
  | [], [], _, _ => .nil
  | [], _ :: _, h, _ => by cases h
  | _ :: _, [], h, _ => by cases h
  | u :: us, x :: xs, h, k => .cons (k 0 u x rfl rfl) (vals_of (by simpa using h) fun j u' x' h1 h2 => k (j + 1) u' x' (by simpa using h1) (by simpa using h2))
def fpN (N0 m : Nat) : List Addr := (List.range (m + 3)).map fun j => N0 + j
theorem mem_fpN {N0 m c : Nat} : c ∈ fpN N0 m ↔ N0 ≤ c ∧ c < N0 + m + 3 := by
  unfold fpN
  rw [List.mem_map]
  constructor
  · rintro ⟨j, hj, rfl⟩
    have := List.mem_range.mp hj
    omega
  · rintro ⟨h1, h2⟩
    exact ⟨c - N0, List.mem_range.mpr (by omega), by omega⟩
theorem fp_cases {N0 m c : Nat} (h : c ∈ fpN N0 m) : (∃ k, k < m ∧ c = N0 + k) ∨ c = N0 + m ∨ c = N0 + m + 1 ∨ c = N0 + m + 2 := by
  have := mem_fpN.mp h
  rcases (by omega : c < N0 + m ∨ c = N0 + m ∨ c = N0 + m + 1 ∨ c = N0 + m + 2) with q | q | q | q
  · exact Or.inl ⟨c - N0, by omega, by omega⟩
  · exact Or.inr (Or.inl q)
  · exact Or.inr (Or.inr (Or.inl q))
  · exact Or.inr (Or.inr (Or.inr q))
theorem fp_it {N0 m k : Nat} (h : k < m) : N0 + k ∈ fpN N0 m := mem_fpN.mpr (by omega)
def StN (N0 : Nat) (rows : List Addr) (tp : Nat → Bool) (i : Nat) (h : Heap) : Prop :=
  ∃ (a : Value) (b : Bool), IsZipG h (N0 + rows.length + 2) (N0 + rows.length) (N0 + rows.length + 1) a b ∧ FldOk a ∧ IsTupG h (N0 + rows.length) (itsA rows.length fun j => N0 + j) ∧ (∃ ys : Array Value, ys.size = rows.length ∧ IsTupG h (N0 + rows.length + 1) ys) ∧ ∀ k a, rows[k]? = some a → rowIt h (N0 + k) a (tp k) i
theorem sepN {N0 : Nat} {rows : List Addr} (hr : ∀ a ∈ rows, a < N0) : ZipSepN (N0 + rows.length + 2) (N0 + rows.length) (N0 + rows.length + 1) rows.length (fun k => N0 + k) (fun k => [N0 + k, rows.getD k 0]) := by
  have hg : ∀ k, k < rows.length → Nat.lt (rows.getD k 0) N0 := fun k hk => by
    rw [List.getD_eq_getElem?_getD, List.getElem?_eq_getElem hk]
    exact hr _ (List.getElem_mem hk)
  have nm : ∀ k (c : Nat), k < rows.length → c ≠ N0 + k → c ≠ rows.getD k 0 → c ∉ [N0 + k, rows.getD k 0] := fun k c _ h1 h2 h => by
    rcases List.mem_cons.mp h with h | h
    · exact h1 h
    · rw [List.mem_singleton] at h; exact h2 h
  refine ⟨Nat.ne_of_lt (by omega), Nat.ne_of_lt (by omega), Nat.ne_of_lt (by omega), fun k hk => Nat.ne_of_gt (by omega), fun k hk => List.mem_cons_self, fun k hk => ?_, fun k hk => ?_, fun j k hj hk hjk => ?_⟩
  · exact nm k _ hk (Nat.ne_of_gt (by omega)) (Nat.ne_of_gt (Nat.lt_of_lt_of_le (hg k hk) (by omega)))
  · exact nm k _ hk (Nat.ne_of_gt (by omega)) (Nat.ne_of_gt (Nat.lt_of_lt_of_le (hg k hk) (by omega)))
  · exact nm k _ hk (fun e => hjk (Nat.add_left_cancel e)) (Nat.ne_of_gt (Nat.lt_of_lt_of_le (hg k hk) (by omega)))
theorem rowV_inj {X : Cx} {pins : List (Addr × Obj)} {σ : L2.St} {H : Hp} {s : Shared} (I : Inv X pins σ H s) {a : Addr} {b : Bool} {vs us : List V} (h : RowV X.K H a b vs) (g : RowV X.K H a b us) : vs = us := by
  cases b
  · exact I.list_inj h g
  · exact I.tuple_inj h g
theorem pyIter_zipG {prog : Program} {w : World} {A : Around} {E : Value → Shared → Prop} {s : Shared} {z TI TO : Addr} {a : Value} {b : Bool} {Q : Value → Shared → Prop} (hz : IsZipG s.heap z TI TO a b) (h : Q (.ref z) s) : wpAny (model prog w) A (pyIter (.ref z)) Q E s := by
  have hT : s.TypeIs (.ref z) "zip" := ⟨_, hz, rfl⟩
  refine wpAny_pyIter_slot hT F.slot_zip_iter (wpAny_call_entry F.slot_zip_iter hT F.entry_zip_iter ?_ (F.args_zip_iter_1 _))
  show wpAny _ _ (ret (.ref z)) _ _ s
  exact wpAny_pure ⟨_, rfl, "zip", _, hT, F.slot_zip_next.lookup, h⟩
theorem turn_zipN {P : Program} {w : World} {K : PySem.W.Frag} {x : Str} {p : Pos} {N0 n : Nat} {rows : List Addr} {tp : Nat → Bool} (hm : 0 < rows.length) (hml : rows.length ≤ 1000) (hr : ∀ a ∈ rows, a < N0) :
    Turn P w K (.Name x p) (ItzN K rows tp n) (fpN N0 rows.length) (N0 + rows.length + 2) (StN N0 rows tp) where
  mem := mem_fpN.mpr (by omega)
  obj := fun i h st c hc => by
    obtain ⟨a, b, hz, _, hTI, ⟨ys, _, hTO⟩, hit⟩ := st
    rcases fp_cases hc with ⟨k, hk, q⟩ | q | q | q
    · rw [q]
      exact rowIt_get (hit k _ (List.getElem?_eq_getElem hk))
    · subst q; exact ⟨_, hTI, fun v e => nomatch e⟩
    · subst q; exact ⟨_, hTO, fun v e => nomatch e⟩
    · subst q; exact ⟨_, hz, fun v e => nomatch e⟩
  keep := fun i h h' st kp => by
    obtain ⟨a, b, hz, ha, hTI, ⟨ys, hys, hTO⟩, hit⟩ := st
    have k1 : N0 + rows.length + 2 ∈ fpN N0 rows.length := mem_fpN.mpr (by omega)
    have k2 : N0 + rows.length ∈ fpN N0 rows.length := mem_fpN.mpr (by omega)
    have k3 : N0 + rows.length + 1 ∈ fpN N0 rows.length := mem_fpN.mpr (by omega)
    refine ⟨a, b, kp _ k1 _ hz, ha, kp _ k2 _ hTI, ⟨ys, hys, kp _ k3 _ hTO⟩, fun k a hk => rowIt_at (hit k a hk) fun o e => kp _ (fp_it (List.getElem?_eq_some_iff.mp hk).1) _ e⟩
  item := by
    intro X hP hw hK hc i pins s σ H E I hf st hg
    subst hP hw hK
    obtain ⟨a, b, hz, ha, hTI, hTO, hit⟩ := st
    obtain ⟨hlt, hg⟩ := hg
    have hx : ∀ k, ∃ r : List V × List Value, k < rows.length → RowV X.K H (rows.getD k 0) (tp k) r.1 ∧ r.1.length = n ∧ Vals r.1 r.2 ∧ rowIs s.heap (rows.getD k 0) (tp k) r.2.toArray := fun k => by
      by_cases hk : k < rows.length
      · obtain ⟨vs, h1, h2⟩ := hg k _ (List.getElem?_eq_getElem hk)
        obtain ⟨its, h3, h4, _⟩ := rowV_inv I h1
        have e : rows.getD k 0 = rows[k] := by rw [List.getD_eq_getElem?_getD, List.getElem?_eq_getElem hk]; rfl
        exact ⟨(vs, its), fun _ => ⟨by rw [e]; exact h1, h2, h3, by rw [e]; exact h4⟩⟩
      · exact ⟨([], []), fun h => absurd h hk⟩
    obtain ⟨f, hff⟩ := Classical.skolem.mp hx
    have hsz : ∀ k, k < rows.length → (f k).2.toArray.size = n := fun k hk => by
      have := (hff k hk).2.2.1.length
      have := (hff k hk).2.1
      simp; omega
    have D : ∀ k, k < rows.length → Draws X.prog X.w X.A.in1 (N0 + k) [N0 + k, rows.getD k 0] n (fun i v => (f k).2.toArray[i]? = some v) (fun i h => rowIt h (N0 + k) (rows.getD k 0) (tp k) i ∧ rowIs h (rows.getD k 0) (tp k) (f k).2.toArray) := fun k hk => by
      have hlt : Nat.lt (rows.getD k 0) N0 := by
        rw [List.getD_eq_getElem?_getD, List.getElem?_eq_getElem hk]
        exact hr _ (List.getElem_mem hk)
      have := row_draws (prog := X.prog) (w := X.w) (A := X.A.in1) (by exact I.ok.hd hc) (N0 + k) (rows.getD k 0) (tp k) (Nat.ne_of_lt (Nat.lt_of_lt_of_le hlt (Nat.le_add_right _ _))) (f k).2.toArray
      rw [hsz k hk] at this
      exact this
    have hget : ∀ k, k < rows.length → rows[k]? = some (rows.getD k 0) := fun k hk => by rw [List.getD_eq_getElem?_getD, List.getElem?_eq_getElem hk]; rfl
    have zlt : N0 + rows.length + 2 < s.heap.objs.size := Heap.lt_size hz
    refine pyNext_zipN_item (sepN hr) D hm hml hz ha hTI hTO (fun k hk => ⟨hit k _ (hget k hk), (hff k hk).2.2.2⟩) hlt fun xs h' tk a' b' hl hP hz' ha' hTO' st' hT hs' hk => ?_
    obtain ⟨us, eus⟩ : ∃ us, us = (List.range rows.length).map fun k => (f k).1.getD i .non := ⟨_, rfl⟩
    have hus : us.length = rows.length := by rw [eus]; simp
    have huk : ∀ k, k < rows.length → us[k]? = (f k).1[i]? := fun k hk => by
      have h1 := (hff k hk).2.1
      rw [eus, List.getElem?_map, List.getElem?_range hk]
      show some ((f k).1.getD i .non) = _
      rw [List.getD_eq_getElem?_getD, List.getElem?_eq_getElem (by omega)]
      rfl
    have rv : Vals us xs := vals_of (by rw [hus, hl]) fun j u x h1 h2 => by
      have hj : j < rows.length := by rw [← hus]; exact (List.getElem?_eq_some_iff.mp h1).1
      rw [huk j hj] at h1
      obtain ⟨v, hv, r⟩ := (hff j hj).2.2.1.get h1
      have := hP j x h2
      have e : (f j).2[i]? = some x := by simpa using this
      rw [hv] at e
      injection e with e
      rw [← e]; exact r
    have hTlt : ∀ c, c ∈ fpN N0 rows.length → c < s.heap.objs.size := fun c hc => by
      rcases fp_cases hc with ⟨k, hk, q⟩ | q | q | q
      · rw [q]
        obtain ⟨o, ho, _⟩ := rowIt_get (hit k _ (List.getElem?_eq_getElem hk))
        exact Heap.lt_size ho
      · rw [q]; exact Heap.lt_size hTI
      · rw [q]
        obtain ⟨ys, _, hTO⟩ := hTO
        exact Heap.lt_size hTO
      · rw [q]; exact zlt
    have fresh : ObjOk X.prog X.w (upd H s.heap.objs.size (.tup us)) h' s.heap.objs.size (.tup us) := ⟨Nat.le_trans (by omega : us.length ≤ 1000) (by decide), xs, rv, ⟨_, hT, rfl, _, rfl⟩⟩
    have kept : ∀ c o, c ∉ fpN N0 rows.length → s.heap.get? c = some o → h'.get? c = some o := fun c o hb g => hk c o (fun e => hb (by rw [e]; exact mem_fpN.mpr (by omega))) (fun e => hb (by rw [e]; exact mem_fpN.mpr (by omega))) (fun k hk e => hb (by rw [e]; exact fp_it hk)) g
    have I1 : Inv X pins σ (upd H s.heap.objs.size (.tup us)) { s with heap := h', toks := tk } := I.turnedNew (t' := tk) (ch := fpN N0 rows.length) kept hf (Nat.le_refl _) fresh
    refine ⟨_, rfl, wpAny_pure ⟨.ref s.heap.objs.size, _, I1, rfl, ⟨_, us, rfl, I.hok.fresh (Nat.le_refl _), rfl, hus, fun j a vs hj hv => ?_⟩, ⟨a', b', hz', ha', ?_, hTO', fun k a hk' => ?_⟩, fun c hc => ?_⟩⟩
    · have hj' := (List.getElem?_eq_some_iff.mp hj).1
      have e := hget j hj'
      rw [hj] at e
      injection e with e
      rw [huk j hj', rowV_inj I hv (by rw [e]; exact (hff j hj').1)]
    · exact hk _ _ (Nat.ne_of_lt (by omega)) (Nat.ne_of_lt (by omega)) (fun k hk => Nat.ne_of_gt (by omega)) hTI
    · have hkl := (List.getElem?_eq_some_iff.mp hk').1
      have e := hget k hkl
      rw [hk'] at e
      injection e with e
      rw [e]; exact (st' k hkl).1
    · rw [upd_ne (Nat.ne_of_lt (hTlt c hc))]
      exact (hf c hc).1
  done := by
    intro X hP hw hK hc i pins s σ H E I hf st hg
    subst hP hw hK
    obtain ⟨a, b, hz, ha, hTI, hTO, hit⟩ := st
    obtain ⟨rfl, hg⟩ := hg
    have hx : ∀ k, ∃ r : List V × List Value, k < rows.length → RowV X.K H (rows.getD k 0) (tp k) r.1 ∧ r.1.length = i ∧ Vals r.1 r.2 ∧ rowIs s.heap (rows.getD k 0) (tp k) r.2.toArray := fun k => by
      by_cases hk : k < rows.length
      · obtain ⟨vs, h1, h2⟩ := hg k _ (List.getElem?_eq_getElem hk)
        obtain ⟨its, h3, h4, _⟩ := rowV_inv I h1
        have e : rows.getD k 0 = rows[k] := by rw [List.getD_eq_getElem?_getD, List.getElem?_eq_getElem hk]; rfl
        exact ⟨(vs, its), fun _ => ⟨by rw [e]; exact h1, h2, h3, by rw [e]; exact h4⟩⟩
      · exact ⟨([], []), fun h => absurd h hk⟩
    obtain ⟨f, hff⟩ := Classical.skolem.mp hx
    have hsz : ∀ k, k < rows.length → (f k).2.toArray.size = i := fun k hk => by
      have := (hff k hk).2.2.1.length
      have := (hff k hk).2.1
      simp; omega
    have D : ∀ k, k < rows.length → Draws X.prog X.w X.A.in1 (N0 + k) [N0 + k, rows.getD k 0] i (fun i v => (f k).2.toArray[i]? = some v) (fun i h => rowIt h (N0 + k) (rows.getD k 0) (tp k) i ∧ rowIs h (rows.getD k 0) (tp k) (f k).2.toArray) := fun k hk => by
      have hlt : Nat.lt (rows.getD k 0) N0 := by
        rw [List.getD_eq_getElem?_getD, List.getElem?_eq_getElem hk]
        exact hr _ (List.getElem_mem hk)
      have := row_draws (prog := X.prog) (w := X.w) (A := X.A.in1) (by exact I.ok.hd hc) (N0 + k) (rows.getD k 0) (tp k) (Nat.ne_of_lt (Nat.lt_of_lt_of_le hlt (Nat.le_add_right _ _))) (f k).2.toArray
      rw [hsz k hk] at this
      exact this
    have hget : ∀ k, k < rows.length → rows[k]? = some (rows.getD k 0) := fun k hk => by rw [List.getD_eq_getElem?_getD, List.getElem?_eq_getElem hk]; rfl
    have zlt : N0 + rows.length + 2 < s.heap.objs.size := Heap.lt_size hz
    refine pyNext_zipN_end (sepN hr) D hm hz ha hTI hTO (fun k hk => ⟨hit k _ (hget k hk), (hff k hk).2.2.2⟩) fun h' tk hk => ⟨rfl, ?_⟩
    exact I.turnedL (t' := tk) (ch := fpN N0 rows.length) (fun c o hb g => hk c o (fun e => hb (by rw [e]; exact mem_fpN.mpr (by omega))) (fun e => hb (by rw [e]; exact mem_fpN.mpr (by omega))) (fun k hk e => hb (by rw [e]; exact fp_it hk)) g) hf
  self := fun A i s Q E st h => by
    obtain ⟨a, b, hz, _⟩ := st
    exact pyIter_zipG hz h
theorem vals_refs : ∀ {rows : List Addr} {us : List Value}, Vals (rows.map V.ref) us → us = rows.map Value.ref
  | [], us, h => by cases h; rfl
  | a :: rows, us, h => by
    cases h with
    | cons r t => cases r; rw [vals_refs t]; rfl
def iZipS (K : PySem.W.Frag) (te : TE) : TI := fun σ H R => te σ H fun y H1 => ∃ (a : Addr) (rows : List Addr) (tp : Nat → Bool) (n : Nat), y = V.ref a ∧ (SqT K H1 a (rows.map .ref) ∨ SqL K H1 a (rows.map .ref)) ∧ rows ≠ [] ∧ rows.length ≤ 1000 ∧ RowsOk K H1 rows tp n ∧ R (ItzN K rows tp n) H1
theorem pi_zipS {X : Cx} {e : Expr} {te : TE} {x : Str} {p p' pos sp_ : Pos} (hg : Gl X "zip") (hm : X.mg "zip" = none) (he : PE X e te) (hst : starEach [.Starred e sp_] X.env = [(true, eval e X.env)] := by rfl) :
    PI X (.Name x p') (.Call (.Name "zip" p) [.Starred e sp_] [] pos) (iZipS X.K te) := by
  refine ⟨fun pins s σ H R I h => Call_ (ld_blt I hg hm PyProof.Rows.boot_zip (callWith_typeS (thn (he.run pins s σ H _ I h) fun v s1 ⟨y, H1, I1, ry, a, rows, tp, n, ey, hxs, hne, hml, hok, q⟩ => ?_) hst))⟩
  subst ey
  obtain rfl : v = Value.ref a := ry
  refine StX.star_any I1 hxs fun us s2 I2 rv => ?_
  have eus := vals_refs rv
  have hx : ∀ k, ∃ r : List Value, k < rows.length → rowIs s2.heap (rows.getD k 0) (tp k) r.toArray ∧ Nat.lt (rows.getD k 0) s2.heap.objs.size := fun k => by
    by_cases hk : k < rows.length
    · obtain ⟨vs, h1, h2⟩ := hok k _ (List.getElem?_eq_getElem hk)
      obtain ⟨its, h3, h4, h5⟩ := rowV_inv I2 h1
      have e : rows.getD k 0 = rows[k] := by rw [List.getD_eq_getElem?_getD, List.getElem?_eq_getElem hk]; rfl
      exact ⟨its, fun _ => ⟨by rw [e]; exact h4, by rw [e]; exact h5⟩⟩
    · exact ⟨[], fun h => absurd h hk⟩
  obtain ⟨f, hff⟩ := Classical.skolem.mp hx
  have hget : ∀ k, k < rows.length → rows[k]? = some (rows.getD k 0) := fun k hk => by rw [List.getD_eq_getElem?_getD, List.getElem?_eq_getElem hk]; rfl
  have hlen : us.length = rows.length := by rw [eus, List.length_map]
  have hr : ∀ a ∈ rows, a < s2.heap.objs.size := fun a ha => by
    obtain ⟨k, hk⟩ := List.getElem?_of_mem ha
    have hkl := (List.getElem?_eq_some_iff.mp hk).1
    have e := hget k hkl
    rw [hk] at e
    injection e with e
    rw [e]; exact (hff k hkl).2
  obtain ⟨u0, ut, eu⟩ := List.exists_cons_of_ne_nil (l := us) (fun e => hne (List.length_eq_zero_iff.mp (by rw [← hlen, e]; rfl)))
  rw [eu]
  rw [eu] at hlen
  have hm0 : 0 < rows.length := List.length_pos_iff.mpr hne
  refine zipN_begins (ob := fun k => if tp k then { cls := .type "tuple_iterator", data := .fields #[.ref (rows.getD k 0), .int 0 0] } else { cls := .type "list_iterator", data := .fields #[.ref (rows.getD k 0), .int 0 0] }) (Hs := fun k h => rowIs h (rows.getD k 0) (tp k) (f k).toArray) (by omega) (fun j u hj => ?_) (fun j hj => (hff j (by omega)).1) fun h' Z => ?_
  · rw [← eu, eus, List.getElem?_map] at hj
    obtain ⟨b, hb, rfl⟩ := Option.map_eq_some_iff.mp hj
    have hjl := (List.getElem?_eq_some_iff.mp hb).1
    have e := hget j hjl
    rw [hb] at e
    injection e with e
    rw [e]
    exact row_begins _ _ _
  · rw [hlen] at Z ⊢
    refine pyIter_zipG Z.z ?_
    have I3 : Inv X pins σ H1 { s2 with heap := h' } := I2.kept (t' := s2.toks) Z.keep
    refine ⟨_, fpN s2.heap.objs.size rows.length, StN s2.heap.objs.size rows tp, _, H1, rfl, I3, turn_zipN (n := n) hm0 hml hr, ⟨.none, false, Z.z, Or.inl rfl, Z.TI, Z.TO, fun k a hk => ?_⟩, fun c hc => ?_, q⟩
    · have hkl := (List.getElem?_eq_some_iff.mp hk).1
      have e := hget k hkl
      rw [hk] at e
      injection e with e
      have g := Z.new k hkl
      rw [e]
      cases hb : tp k with
      | true => rw [hb] at g; exact ⟨_, g, rfl, rfl⟩
      | false => rw [hb] at g; exact ⟨_, g, rfl, rfl⟩
    · have le : s2.heap.objs.size ≤ c := (mem_fpN.mp hc).1
      exact I2.fpOk le (I2.hok.fresh le)
end Pd

set_option Elab.async false
set_option linter.all false
set_option maxRecDepth 100000
set_option maxHeartbeats 4000000
/-! zip( *rows) over data. -/
namespace Pd
open PySem PySem.Spec PyProof.Rows L2
def rwX (r : Bool × List D) : D := if r.1 then .tuple r.2 else .list r.2
/-- the columns of rows of n -/
def colsD (n : Nat) (rs : List (Bool × List D)) : List D := (List.range n).map fun i => .tuple (rs.map fun r => r.2.getD i .none)
def RowI (K : PySem.W.Frag) (I : Hp) (a : Addr) (b : Bool) (us : List V) : Prop := if b then SqT K I a us else I a = some (.lst us)
section
variable {K : PySem.W.Frag}
theorem rowI_ex {I H : Hp} {a : Addr} {b : Bool} {us : List V} (e : Ex I H) (h : RowI K I a b us) : RowV K H a b us := by
  cases b
  · exact SqL.of (e _ _ h)
  · exact sqt_ex e h
theorem rowI_up {I H : Hp} {a : Addr} {b : Bool} {us : List V} (e : Ex I H) (h : RowI K I a b us) : RowI K H a b us := by
  cases b
  · exact e _ _ h
  · exact sqt_ex e h
theorem rows_of {I : Hp} : ∀ {rs : List (Bool × List D)} {vs : List V}, DaAll K I vs (rs.map rwX) → ∃ rows : List Addr, vs = rows.map .ref ∧ rows.length = rs.length ∧ ∀ (j : Nat) a r, rows[j]? = some a → rs[j]? = some r → ∃ us, RowI K I a r.1 us ∧ DaAll K I us r.2
  | [], _, .nil => ⟨[], rfl, rfl, fun j a r h => by simp at h⟩
  | r :: rs, v :: vs, .cons h t => by
    obtain ⟨rows, h1, h2, h3⟩ := rows_of t
    obtain ⟨b, ds⟩ := r
    have key : ∃ a us, v = .ref a ∧ RowI K I a b us ∧ DaAll K I us ds := by
      cases b with
      | false =>
        have h' : Da K I v (.list ds) := h
        cases h' with
        | lst hs ha => exact ⟨_, _, rfl, hs, ha⟩
      | true =>
        have h' : Da K I v (.tuple ds) := h
        cases h' with
        | tup hs ha => exact ⟨_, _, rfl, hs, ha⟩
    obtain ⟨a, us, e, k1, k2⟩ := key
    refine ⟨a :: rows, by rw [h1, e]; rfl, by rw [List.length_cons, List.length_cons, h2], fun j a' r' g1 g2 => ?_⟩
    cases j with
    | zero =>
      have e1 : a = a' := by simpa using g1
      have e2 : (b, ds) = r' := by simpa using g2
      subst e1 e2
      exact ⟨us, k1, k2⟩
    | succ j => exact h3 j a' r' (by simpa using g1) (by simpa using g2)
theorem dpa_of {I : Hp} : ∀ {us : List V} {ds : List D}, us.length = ds.length → (∀ (j : Nat) u d, us[j]? = some u → ds[j]? = some d → Da K I u d) → DaAll K I us ds
  | [], [], _, _ => .nil
  | [], _ :: _, h, _ => by cases h
  | _ :: _, [], h, _ => by cases h
  | u :: us, d :: ds, h, k => .cons (k 0 u d rfl rfl) (dpa_of (by simpa using h) fun j u' d' h1 h2 => k (j + 1) u' d' (by simpa using h1) (by simpa using h2))
theorem tup_gr {H I : Hp} {T : Addr} {us : List V} {ds : List D} (iH : Ex I H) (hT : H T = none) (h : DaAll K I us ds) : ∃ I', Gr H I (upd H T (.tup us)) I' ∧ Da K I' (.ref T) (.tuple ds) :=
  ⟨_, Gr.nw (u := .tup us) iH hT, .tup (SqT.of upd_same) (h.up (Gr.nw (u := .tup us) iH hT).i)⟩
def tpD (rs : List (Bool × List D)) (j : Nat) : Bool := (rs.getD j (true, [])).1
theorem tpD_at {rs : List (Bool × List D)} {j : Nat} {r : Bool × List D} (h : rs[j]? = some r) : tpD rs j = r.1 := by
  unfold tpD
  rw [List.getD_eq_getElem?_getD, h]; rfl
theorem itd_zipS {I0 : Hp} {rs : List (Bool × List D)} {rows : List Addr} {n : Nat} (hl : rows.length = rs.length) (hn : ∀ r ∈ rs, r.2.length = n) (hr : ∀ (j : Nat) a r, rows[j]? = some a → rs[j]? = some r → ∃ us, RowI K I0 a r.1 us ∧ DaAll K I0 us r.2) :
    (∀ H, Ex I0 H → RowsOk K H rows (tpD rs) n) ∧ ItD K (ItzN K rows (tpD rs) n) I0 (colsD n rs) := by
  have ok : ∀ H, Ex I0 H → RowsOk K H rows (tpD rs) n := fun H e j a hj => by
    have hjl := (List.getElem?_eq_some_iff.mp hj).1
    have hr' := List.getElem?_eq_getElem (l := rs) (i := j) (by omega)
    obtain ⟨us, h1, h2⟩ := hr j a _ hj hr'
    exact ⟨us, by rw [tpD_at hr']; exact rowI_ex e h1, by rw [dpa_len h2]; exact hn _ (List.mem_of_getElem? hr')⟩
  have hcl : (colsD n rs).length = n := by unfold colsD; rw [List.length_map, List.length_range]
  refine ⟨ok, ⟨fun i H I e1 e2 hi => ⟨by rw [hcl] at hi; exact hi, ok H (e1.tr e2)⟩, fun H I e1 e2 => ⟨hcl, ok H (e1.tr e2)⟩, fun i H I v H' d e1 e2 hd ⟨T, us, ev, hT, eH, hus, hcol⟩ => ?_⟩⟩
  subst ev eH
  have hi : i < n := by rw [← hcl]; exact (List.getElem?_eq_some_iff.mp hd).1
  have ed : d = .tuple (rs.map fun r => r.2.getD i .none) := by
    unfold colsD at hd
    rw [List.getElem?_map, List.getElem?_range hi] at hd
    injection hd with hd
    exact hd.symm
  subst ed
  refine tup_gr e2 hT (dpa_of (by rw [List.length_map, hus, hl]) fun j u d h1 h2 => ?_)
  rw [List.getElem?_map] at h2
  obtain ⟨r, hr', rfl⟩ := Option.map_eq_some_iff.mp h2
  have hjl : j < rows.length := by rw [hl]; exact (List.getElem?_eq_some_iff.mp hr').1
  have ha := List.getElem?_eq_getElem hjl
  obtain ⟨us', k1, k2⟩ := hr j _ r ha hr'
  have hc := hcol j _ us' ha (by rw [tpD_at hr']; exact rowI_ex (e1.tr e2) k1)
  rw [h1] at hc
  have hlt : i < r.2.length := by rw [hn r (List.mem_of_getElem? hr')]; exact hi
  obtain ⟨u', hu', q⟩ := dpa_get k2 (List.getElem?_eq_getElem hlt)
  rw [hu'] at hc
  injection hc with hc
  subst hc
  rw [List.getD_eq_getElem?_getD, List.getElem?_eq_getElem hlt]
  exact q.up e1
/-- zip( *e) -/
def wZipS (w : WE) : WA := fun en Q => w en fun d e1 => ∃ (rs : List (Bool × List D)) (n : Nat), (d = .tuple (rs.map rwX) ∨ d = .list (rs.map rwX)) ∧ rs ≠ [] ∧ rs.length ≤ 1000 ∧ (∀ r ∈ rs, r.2.length = n) ∧ Q (colsD n rs) e1
end
theorem i_zipS {X : Cx} {e : Expr} {w : WE} {x : Str} {p p' pos sp_ : Pos} (hm : X.mg "zip" = none) (he : PE X e (lE X.K ζ w)) (hg : Gl X "zip" := by rfl) (hst : starEach [.Starred e sp_] X.env = [(true, eval e X.env)] := by rfl) :
    PI X (.Name x p') (.Call (.Name "zip" p) [.Starred e sp_] [] pos) (lI X.K ζ (wZipS w)) :=
  (pi_zipS hg hm he hst).mo fun σ H R ⟨G, en, I, Q', o, q, k⟩ => ⟨G, en, I, _, o, q, fun v H1 I1 e1 d o1 x1 dv ⟨rs, n, hd, hne, hml, hn, q1⟩ => by
    have key : ∃ a vs, v = V.ref a ∧ (SqT X.K H1 a vs ∨ SqL X.K H1 a vs) ∧ DaAll X.K I1 vs (rs.map rwX) := by
      rcases hd with rfl | rfl
      · cases dv with
        | tup hs ha => exact ⟨_, _, rfl, Or.inl (sqt_ex o1.iH hs), ha⟩
      · cases dv with
        | lst hs ha => exact ⟨_, _, rfl, Or.inr (SqL.of (o1.iH _ _ hs)), ha⟩
    obtain ⟨a, vs, rfl, hs, ha⟩ := key
    obtain ⟨rows, rfl, hl, hr⟩ := rows_of ha
    obtain ⟨ok, it⟩ := itd_zipS hl hn hr
    exact ⟨a, rows, tpD rs, n, rfl, hs, fun e => hne (List.length_eq_zero_iff.mp (by rw [← hl, e]; rfl)), by omega, ok H1 o1.iH, k _ H1 I1 e1 _ o1 x1 it q1⟩⟩
end Pd

set_option Elab.async false
set_option linter.all false
set_option maxRecDepth 100000
set_option maxHeartbeats 4000000
/-! zip( *rows), also of no rows. -/
namespace PySem
theorem nc_zip0 : checkBuiltinCall "zip.__new__" ⟨[.type "zip"], []⟩ = pure () := by kernel_rfl
end PySem
namespace Pd
open PySem PySem.Spec PyProof.Rows L2
section
variable {prog : Program} {w : World} {A : Around} {E : Value → Shared → Prop} {s : Shared}
theorem meets_zip0 : Meets (Builtin.«zip.__new__» ⟨[.type "zip"], []⟩) (fun _ R s =>
      ∀ h', ZipNew s.heap 0 (fun _ => { cls := .type "zip" }) h' → R (.ok (.ret (.ref (s.heap.objs.size + 2)))) { s with heap := h' }) :=
  .of_wp fun prog w A R s h => by
    obtain ⟨hp, g, d, tk, os⟩ := s
    have hsub := sub_zip
    have q1 : ∀ {A' : Around} {E : Value → Shared → Prop} {Q : List Value → Shared → Prop}, Q [] ⟨hp, g, d, tk, os⟩ → wpAny (model prog w) A' (Builtin.SmallTypes.iterAll []) Q E ⟨hp, g, d, tk, os⟩ :=
      fun q => wpAny_pure q
    wp_walk using q1
    refine ⟨_, rfl, ?_⟩
    obtain ⟨h1', e1⟩ : ∃ h1', h1' = hp.push { cls := .type "tuple", data := .seq #[] } := ⟨_, rfl⟩
    obtain ⟨h2', e2⟩ : ∃ h2', h2' = h1'.push { cls := .type "tuple", data := .seq (([] : List Value).map fun _ => Value.none).toArray } := ⟨_, rfl⟩
    have s1 : h1'.objs.size = hp.objs.size + 1 := by rw [e1, Heap.size_push]
    have s2 : h2'.objs.size = hp.objs.size + 2 := by rw [e2, Heap.size_push, s1]
    rw [← e1, ← e2, s2]
    have k1 : ∀ c o, hp.get? c = some o → h1'.get? c = some o := fun c o e => by rw [e1]; exact Heap.get?_push_of_some _ e
    have k2 : ∀ c o, h1'.get? c = some o → h2'.get? c = some o := fun c o e => by rw [e2]; exact Heap.get?_push_of_some _ e
    have gT : IsTupG h1' hp.objs.size #[] := by rw [e1]; exact Heap.get?_push_size _ rfl
    have gO : IsTupG h2' h1'.objs.size #[] := by rw [e2]; exact Heap.get?_push_size _ rfl
    refine h _ ⟨?_, ?_, ⟨#[], rfl, ?_⟩, fun j hj => absurd hj (Nat.not_lt_zero _), fun c o e => ?_⟩
    · show Heap.get? _ (hp.objs.size + 2) = _
      rw [← s2, s1]
      exact Heap.get?_push_size _ rfl
    · exact Heap.get?_push_of_some _ (k2 _ _ gT)
    · show Heap.get? _ (hp.objs.size + 1) = _
      rw [← s1]; exact Heap.get?_push_of_some _ gO
    · exact Heap.get?_push_of_some _ (k2 _ _ (k1 _ _ e))
theorem zip0_end (hh : A.handled = none) {z TI TO : Addr} {a : Value} {b : Bool} {Q : PySem.Fin → Shared → Prop} (hz : IsZipG s.heap z TI TO a b) (hTI : IsTupG s.heap TI #[])
    (hE : ∀ h' e, (∀ c o, s.heap.get? c = some o → h'.get? c = some o) → (∃ o, h'.get? e = some o ∧ o.cls = .type "StopIteration") → E (.ref e) { s with heap := h' }) :
    wpAny (model prog w) A (Builtin.«zip.__next__» ⟨[.ref z], []⟩) Q E s := by
  show wpAny _ _ (field (.ref z) 2 >>= _) _ _ _
  refine wpAny_bind (wpAny_field hz rfl (x := .bool false) rfl ?_)
  show wpAny _ _ (field (.ref z) 3 >>= _) _ _ _
  refine wpAny_bind (wpAny_field hz rfl (x := .ref TI) rfl ?_)
  refine wpAny_bind (wpAny_seqItems hTI rfl ?_)
  simp only [Array.isEmpty, Array.size_empty, decide_true, if_true, List.size_toArray, List.length_nil]
  refine wpAny_bind (wpAny_rule ?_)
  refine wpAny_bind ?_
  unfold Builtin.SmallTypes.stopIteration
  refine wpAny_bind ?_
  simp only [newExc, newTuple]
  refine wpAny_bind (wpAny_newObj_type ?_ (by size_fits))
  refine wpAny_bind (m := firstArgMember _ _) (wpAny_of_eq (a := Value.none) (by first | rfl | (simp only [firstArgMember]; rfl)) ?_)
  refine wpAny_newObj_type ?_ (by size_fits)
  simp only [raiseNew]
  refine wpAny_bind (wpAny_handled ?_)
  rw [hh]
  refine wpAny_bind (wpAny_pure (wpAny_throw ?_))
  exact hE _ _ (fun c o e => Heap.get?_push_of_some _ (Heap.get?_push_of_some _ e)) ⟨_, Heap.get?_push_size _ rfl, rfl⟩
theorem zip0_begins {Q : Value → Shared → Prop} (hQ : ∀ h', ZipNew s.heap 0 (fun _ => { cls := .type "zip" }) h' → Q (.ref (s.heap.objs.size + 2)) { s with heap := h' }) : wpAny (model prog w) A (call (.type "zip") []) Q E s :=
  callType_new F.called_zip (by decide) (tc_zipN _) nc_zip0 (fun obj => oi_zipN obj _) F.entry_zip_new meets_zip0 fun h' Z => ⟨⟨_, Z.z, rfl⟩, hQ h' Z⟩
theorem pyNext_zip0 (hh : A.in1.handled = none) {z TI TO : Addr} {a : Value} {b : Bool} {Q : Option Value → Shared → Prop} (hz : IsZipG s.heap z TI TO a b) (hTI : IsTupG s.heap TI #[])
    (hQ : ∀ h', (∀ c o, s.heap.get? c = some o → h'.get? c = some o) → Q none { s with heap := h' }) : wpAny (model prog w) A (pyNext (.ref z)) Q E s := by
  have hT : s.TypeIs (.ref z) "zip" := ⟨_, hz, rfl⟩
  unfold pyNext
  refine wpAny_bind (wpAny_attempt (wpAny_callSpecial?_slot (name := Str.ofString "__next__") hT F.slot_zip_next
    (wpAny_call_entry F.slot_zip_next hT F.entry_zip_next (zip0_end hh hz hTI fun h' e hk he => ?_) (F.args_zip_next_1 _))))
  obtain ⟨o, ho, hc⟩ := he
  refine wpAny_bind (wpAny_isInstance (T := "StopIteration") (b := true) ⟨o, ho, hc⟩ isSubtype_stop ?_)
  exact wpAny_pure (hQ _ hk)
end
theorem turn_zip0 {P : Program} {w : World} {K : PySem.W.Frag} {x : Str} {p : Pos} {N0 : Nat} {tp : Nat → Bool} :
    Turn P w K (.Name x p) (ItzN K [] tp 0) (fpN N0 0) (N0 + 2) (StN N0 [] tp) where
  mem := mem_fpN.mpr (by omega)
  obj := fun i h st c hc => by
    obtain ⟨a, b, hz, _, hTI, ⟨ys, _, hTO⟩, hit⟩ := st
    rcases fp_cases hc with ⟨k, hk, q⟩ | q | q | q
    · exact absurd hk (Nat.not_lt_zero _)
    · subst q; exact ⟨_, hTI, fun v e => nomatch e⟩
    · subst q; exact ⟨_, hTO, fun v e => nomatch e⟩
    · subst q; exact ⟨_, hz, fun v e => nomatch e⟩
  keep := fun i h h' st kp => by
    obtain ⟨a, b, hz, ha, hTI, ⟨ys, hys, hTO⟩, hit⟩ := st
    have k1 : N0 + 0 + 2 ∈ fpN N0 0 := mem_fpN.mpr (by omega)
    have k2 : N0 + 0 ∈ fpN N0 0 := mem_fpN.mpr (by omega)
    have k3 : N0 + 0 + 1 ∈ fpN N0 0 := mem_fpN.mpr (by omega)
    exact ⟨a, b, kp _ k1 _ hz, ha, kp _ k2 _ hTI, ⟨ys, hys, kp _ k3 _ hTO⟩, fun k a hk => by simp at hk⟩
  item := by
    intro X hP hw hK hc i pins s σ H E I hf st hg
    exact absurd hg.1 (Nat.not_lt_zero _)
  done := by
    intro X hP hw hK hc i pins s σ H E I hf st hg
    subst hP hw hK
    obtain ⟨a, b, hz, ha, hTI, hTO, hit⟩ := st
    exact pyNext_zip0 (by exact I.ok.hd hc) hz hTI fun h' hk => ⟨rfl, I.kept (t' := s.toks) hk⟩
  self := fun A i s Q E st h => by
    obtain ⟨a, b, hz, _⟩ := st
    exact pyIter_zipG hz h
def iZipU (K : PySem.W.Frag) (te : TE) : TI := fun σ H R => te σ H fun y H1 => ∃ (a : Addr) (rows : List Addr) (tp : Nat → Bool) (n : Nat), y = V.ref a ∧ (SqT K H1 a (rows.map .ref) ∨ SqL K H1 a (rows.map .ref)) ∧ (rows = [] → n = 0) ∧ rows.length ≤ 1000 ∧ RowsOk K H1 rows tp n ∧ R (ItzN K rows tp n) H1
theorem pi_zipU {X : Cx} {e : Expr} {te : TE} {x : Str} {p p' pos sp_ : Pos} (hg : Gl X "zip") (hm : X.mg "zip" = none) (he : PE X e te) (hst : starEach [.Starred e sp_] X.env = [(true, eval e X.env)] := by rfl) :
    PI X (.Name x p') (.Call (.Name "zip" p) [.Starred e sp_] [] pos) (iZipU X.K te) := by
  refine ⟨fun pins s σ H R I h => Call_ (ld_blt I hg hm PyProof.Rows.boot_zip (callWith_typeS (thn (he.run pins s σ H _ I h) fun v s1 ⟨y, H1, I1, ry, a, rows, tp, n, ey, hxs, h00, hml, hok, q⟩ => ?_) hst))⟩
  subst ey
  obtain rfl : v = Value.ref a := ry
  refine StX.star_any I1 hxs fun us s2 I2 rv => ?_
  have eus := vals_refs rv
  by_cases hne : rows = []
  · subst hne
    have hn0 := h00 rfl
    subst hn0
    rw [eus]
    refine zip0_begins fun h' Z => pyIter_zipG Z.z ?_
    have I3 : Inv X pins σ H1 { s2 with heap := h' } := I2.kept (t' := s2.toks) Z.keep
    refine ⟨_, fpN s2.heap.objs.size 0, StN s2.heap.objs.size [] tp, _, H1, rfl, I3, turn_zip0, ⟨.none, false, Z.z, Or.inl rfl, Z.TI, Z.TO, fun k a hk => by simp at hk⟩, fun c hc => ?_, q⟩
    have le : s2.heap.objs.size ≤ c := (mem_fpN.mp hc).1
    exact I2.fpOk le (I2.hok.fresh le)
  have hx : ∀ k, ∃ r : List Value, k < rows.length → rowIs s2.heap (rows.getD k 0) (tp k) r.toArray ∧ Nat.lt (rows.getD k 0) s2.heap.objs.size := fun k => by
    by_cases hk : k < rows.length
    · obtain ⟨vs, h1, h2⟩ := hok k _ (List.getElem?_eq_getElem hk)
      obtain ⟨its, h3, h4, h5⟩ := rowV_inv I2 h1
      have e : rows.getD k 0 = rows[k] := by rw [List.getD_eq_getElem?_getD, List.getElem?_eq_getElem hk]; rfl
      exact ⟨its, fun _ => ⟨by rw [e]; exact h4, by rw [e]; exact h5⟩⟩
    · exact ⟨[], fun h => absurd h hk⟩
  obtain ⟨f, hff⟩ := Classical.skolem.mp hx
  have hget : ∀ k, k < rows.length → rows[k]? = some (rows.getD k 0) := fun k hk => by rw [List.getD_eq_getElem?_getD, List.getElem?_eq_getElem hk]; rfl
  have hlen : us.length = rows.length := by rw [eus, List.length_map]
  have hr : ∀ a ∈ rows, a < s2.heap.objs.size := fun a ha => by
    obtain ⟨k, hk⟩ := List.getElem?_of_mem ha
    have hkl := (List.getElem?_eq_some_iff.mp hk).1
    have e := hget k hkl
    rw [hk] at e
    injection e with e
    rw [e]; exact (hff k hkl).2
  obtain ⟨u0, ut, eu⟩ := List.exists_cons_of_ne_nil (l := us) (fun e => hne (List.length_eq_zero_iff.mp (by rw [← hlen, e]; rfl)))
  rw [eu]
  rw [eu] at hlen
  have hm0 : 0 < rows.length := List.length_pos_iff.mpr hne
  refine zipN_begins (ob := fun k => if tp k then { cls := .type "tuple_iterator", data := .fields #[.ref (rows.getD k 0), .int 0 0] } else { cls := .type "list_iterator", data := .fields #[.ref (rows.getD k 0), .int 0 0] }) (Hs := fun k h => rowIs h (rows.getD k 0) (tp k) (f k).toArray) (by omega) (fun j u hj => ?_) (fun j hj => (hff j (by omega)).1) fun h' Z => ?_
  · rw [← eu, eus, List.getElem?_map] at hj
    obtain ⟨b, hb, rfl⟩ := Option.map_eq_some_iff.mp hj
    have hjl := (List.getElem?_eq_some_iff.mp hb).1
    have e := hget j hjl
    rw [hb] at e
    injection e with e
    rw [e]
    exact row_begins _ _ _
  · rw [hlen] at Z ⊢
    refine pyIter_zipG Z.z ?_
    have I3 : Inv X pins σ H1 { s2 with heap := h' } := I2.kept (t' := s2.toks) Z.keep
    refine ⟨_, fpN s2.heap.objs.size rows.length, StN s2.heap.objs.size rows tp, _, H1, rfl, I3, turn_zipN (n := n) hm0 hml hr, ⟨.none, false, Z.z, Or.inl rfl, Z.TI, Z.TO, fun k a hk => ?_⟩, fun c hc => ?_, q⟩
    · have hkl := (List.getElem?_eq_some_iff.mp hk).1
      have e := hget k hkl
      rw [hk] at e
      injection e with e
      have g := Z.new k hkl
      rw [e]
      cases hb : tp k with
      | true => rw [hb] at g; exact ⟨_, g, rfl, rfl⟩
      | false => rw [hb] at g; exact ⟨_, g, rfl, rfl⟩
    · have le : s2.heap.objs.size ≤ c := (mem_fpN.mp hc).1
      exact I2.fpOk le (I2.hok.fresh le)
/-- zip( *e) -/
def wZipU (w : WE) : WA := fun en Q => w en fun d e1 => ∃ (rs : List (Bool × List D)) (n : Nat), (d = .tuple (rs.map rwX) ∨ d = .list (rs.map rwX)) ∧ (rs = [] → n = 0) ∧ rs.length ≤ 1000 ∧ (∀ r ∈ rs, r.2.length = n) ∧ Q (colsD n rs) e1
theorem i_zipU {X : Cx} {e : Expr} {w : WE} {x : Str} {p p' pos sp_ : Pos} (hm : X.mg "zip" = none) (he : PE X e (lE X.K ζ w)) (hg : Gl X "zip" := by rfl) (hst : starEach [.Starred e sp_] X.env = [(true, eval e X.env)] := by rfl) :
    PI X (.Name x p') (.Call (.Name "zip" p) [.Starred e sp_] [] pos) (lI X.K ζ (wZipU w)) :=
  (pi_zipU hg hm he hst).mo fun σ H R ⟨G, en, I, Q', o, q, k⟩ => ⟨G, en, I, _, o, q, fun v H1 I1 e1 d o1 x1 dv ⟨rs, n, hd, hne, hml, hn, q1⟩ => by
    have key : ∃ a vs, v = V.ref a ∧ (SqT X.K H1 a vs ∨ SqL X.K H1 a vs) ∧ DaAll X.K I1 vs (rs.map rwX) := by
      rcases hd with rfl | rfl
      · cases dv with
        | tup hs ha => exact ⟨_, _, rfl, Or.inl (sqt_ex o1.iH hs), ha⟩
      · cases dv with
        | lst hs ha => exact ⟨_, _, rfl, Or.inr (SqL.of (o1.iH _ _ hs)), ha⟩
    obtain ⟨a, vs, rfl, hs, ha⟩ := key
    obtain ⟨rows, rfl, hl, hr⟩ := rows_of ha
    obtain ⟨ok, it⟩ := itd_zipS hl hn hr
    exact ⟨a, rows, tpD rs, n, rfl, hs, fun e => hne (List.length_eq_zero_iff.mp (by rw [← hl, e]; rfl)), by omega, ok H1 o1.iH, k _ H1 I1 e1 _ o1 x1 it q1⟩⟩
end Pd

set_option Elab.async false
set_option linter.all false
set_option maxRecDepth 100000
set_option maxHeartbeats 4000000
/-! A written tuple times an int, also times 1. -/
namespace L2
open PySem PySem.Spec PyProof.Rows
theorem tuple_mulS (l : Addr) (items : Array Value) (n : Nat) (dd : Option Addr) (sl : Array (Option Value)) (x : Int) (u : Tok) (c0 : (decide (x < -(2 ^ 63)) || decide (x ≥ 2 ^ 63)) = false) (c1 : (items.isEmpty || x == 1) = true) :
    Meets (Builtin.«tuple.__mul__» ⟨[.ref l, .int x u], []⟩) (fun _ R s => s.heap.get? l = some { cls := .type "tuple", dict := dd, data := .seq items n, slots := sl } ∧
      R (.ok (.ret (Value.ref l))) s) :=
  .of_wp fun prog w A R s h => by
    obtain ⟨hp, g, d, tk, os⟩ := s
    obtain ⟨hl, h⟩ := h
    have f1 := AutoSeq1.idx_int
    wp_walk using wpAny_loadPart' hl
    repeat (first
      | (refine wpAny_ite_false (decide_eq_false (by rw [c0]; exact Bool.false_ne_true)) ?_; wp_walk using wpAny_loadPart' hl)
      | (refine wpAny_ite_true (decide_eq_true (by rw [c1])) ?_; wp_walk using wpAny_loadPart' hl))
    exact ⟨_, rfl, h⟩
/-- a tuple times 1, or no item: the tuple itself -/
def rRepT1 (K : PySem.W.Frag) : R2 := fun x y H Q => ∃ l k xs, x = .ref l ∧ y = .int k ∧ SqT K H l xs ∧ (k = 1 ∨ xs = []) ∧ -(2 ^ 63) ≤ k ∧ k < 2 ^ 63 ∧ Q x H
theorem op_repT1 {X : Cx} : OpR X (binaryOp .Mult) (rRepT1 X.K) := by
  intro pins s σ H x y v u Q I rx ry h
  obtain ⟨l, k, xs, rfl, rfl, hT, hk, h1, h2, q⟩ := h
  cases rx
  obtain ⟨t, rfl⟩ := ry
  obtain ⟨its, r, ⟨⟨cls, dd, data, sl⟩, ho, hc, n, hd⟩, hs⟩ := I.tuple hT
  simp only at hc hd
  subst hc hd
  have hle : its.length = xs.length := r.length.symm
  have c0 : (decide (k < -(2 ^ 63)) || decide (k ≥ 2 ^ 63)) = false := by
    rw [decide_eq_false (by omega), decide_eq_false (by omega)] <;> rfl
  have c1 : (its.toArray.isEmpty || k == 1) = true := by
    rcases hk with e | e
    · rw [e]; simp
    · have : its = [] := List.eq_nil_of_length_eq_zero (by rw [hle, e]; rfl)
      rw [this]; rfl
  refine wpAny_binaryOp_repeat_ref (T := "tuple") (U := "int") (by decide) ⟨_, ho, rfl⟩ (fun s' => typeIs_int s' k t) noFill_tuple_mul F.fills_int_mul F.slot_int_rmul repeat_tuple F.slot_int_index.lookup
    (call_meets F.slot_int_rmul (typeIs_int s k t) F.entry_int_rmul (F.args_int_rmul_2 _ _) (int_rmul_tuple k t l its.toArray n dd sl)
      ⟨ho, rfl, ⟨_, ho, rfl⟩, call_meets F.slot_tuple_mul ⟨_, ho, rfl⟩ F.entry_tuple_mul (F.args_tuple_mul_2 _ _) (tuple_mulS l its.toArray n dd sl k t c0 c1) ⟨ho, ?_⟩⟩)
  exact ⟨.ref l, H, I, rfl, q⟩
end L2
namespace Pd
open PySem PySem.Spec PyProof.Rows L2
def rMulT (K : PySem.W.Frag) : R2 := fun x y H Q => rRepT K x y H Q ∨ rRepT1 K x y H Q
theorem op_mulT {X : Cx} : OpR X (binaryOp .Mult) (rMulT X.K) := or_op op_repT op_repT1
/-- a tuple times an int from 1 to 1000 -/
def dMulT : D → D → D → Prop := fun x y z => ∃ xs k, x = .tuple xs ∧ y = .int k ∧ 1 ≤ k ∧ k ≤ 1000 ∧ xs.length ≤ 1000 ∧ z = .tuple (List.replicate k.toNat xs).flatten
theorem flat_nil (n : Nat) : (List.replicate n ([] : List D)).flatten = [] := by
  induction n with
  | zero => rfl
  | succ n ih => rw [List.replicate_succ, List.flatten_cons, ih]; rfl
theorem snd_mulT {K : PySem.W.Frag} : SndOp K (rMulT K) dMulT := by
  rintro H I x y d e z iH hx hy ⟨xs, m, rfl, rfl, h2, h3, h4, rfl⟩ Q k
  cases hy
  cases hx with
  | tup q1 a1 =>
    by_cases hs : m = 1 ∨ xs = []
    · refine Or.inr ⟨_, m, _, rfl, rfl, sqt_ex iH q1, ?_, by omega, by omega, ?_⟩
      · rcases hs with e | e
        · exact Or.inl e
        · right; subst e; cases a1; rfl
      · refine k _ H I (Gr.rf iH) ?_
        rcases hs with e | e
        · subst e
          rw [show (List.replicate (1 : Int).toNat xs).flatten = xs by simp]
          exact .tup q1 a1
        · subst e
          rw [flat_nil]
          exact .tup q1 a1
    · refine Or.inl ⟨_, m, _, rfl, rfl, sqt_ex iH q1, fun e => hs (Or.inr ?_), by omega, h3, by rw [dpa_len a1]; exact h4, fun p hp => ?_⟩
      · subst e; cases a1; rfl
      · exact fin_tup iH hp (dpa_rep a1 _) k
theorem i_mulT {xs : List D} {k : Int} {z : D} : dMulT (.tuple xs) (.int k) z ↔ 1 ≤ k ∧ k ≤ 1000 ∧ xs.length ≤ 1000 ∧ z = .tuple (List.replicate k.toNat xs).flatten := by
  constructor
  · rintro ⟨ys, j, h1, h2, h3, h4, h5, h6⟩
    injection h1 with h1; injection h2 with h2
    subst h1 h2
    exact ⟨h3, h4, h5, h6⟩
  · rintro ⟨h3, h4, h5, h6⟩
    exact ⟨xs, k, rfl, rfl, h3, h4, h5, h6⟩
end Pd

set_option Elab.async false
set_option linter.all false
set_option maxRecDepth 100000
set_option maxHeartbeats 4000000
/-! Instances of the module's own classes, as data. -/
namespace Pd
open PySem PySem.Spec PyProof.Rows L2
/-- an instance: its class's name, the names of its fields, the fields -/
abbrev obD (nm : Str) (ns : List Str) (ds : List D) : D := .dict [(.tuple (.str nm :: ns.map .str), .tuple ds)]
def fldOf : List Str → List D → Str → Option D
  | n :: ns, d :: ds, f => if n = f then some d else fldOf ns ds f
  | _, _, _ => none
theorem str_inj : ∀ {as bs : List Str}, as.map PyData.str = bs.map PyData.str → as = bs
  | [], [], _ => rfl
  | [], _ :: _, h => by cases h
  | _ :: _, [], h => by cases h
  | a :: as, b :: bs, h => by
    rw [List.map_cons, List.map_cons] at h
    injection h with h1 h2
    injection h1 with h1
    rw [h1, str_inj h2]
section
variable {K : PySem.W.Frag} {H I : Hp}
theorem da_obj {v : V} {nm : Str} {ns : List Str} {ds : List D} (h : Da K I v (obD nm ns ds)) : ∃ a dx vs, v = .ref a ∧ ClsI K nm ∧ I a = some (.ins (He.ga K nm) dx (ns.zip vs)) ∧ ns.length = vs.length ∧ DaAll K I vs ds := by
  generalize hd : obD nm ns ds = d at h
  cases h with
  | non => cases hd
  | bl b => cases hd
  | int i => cases hd
  | str x => cases hd
  | lst _ _ => cases hd
  | tup _ _ => cases hd
  | dic _ => cases hd
  | obj hc h hl ha =>
    injection hd with hd
    injection hd with hd _
    injection hd with h1 h2
    injection h1 with h1
    injection h1 with h3 h4
    injection h3 with h3
    injection h2 with h2
    have h4 := str_inj h4
    subst h3 h4 h2
    exact ⟨_, _, _, rfl, hc, h, hl, ha⟩
theorem fld_at : ∀ {ns : List Str} {vs : List V} {ds : List D} {f : Str} {z : D}, DaAll K I vs ds → fldOf ns ds f = some z → ∃ v, (ns.zip vs).lookup f = some v ∧ Da K I v z
  | [], _, _, _, _, _, h => by cases h
  | _ :: _, _, _, _, _, .nil, h => by cases h
  | n :: ns, v :: vs, d :: ds, f, z, .cons a t, h => by
    unfold fldOf at h
    by_cases e : n = f
    · rw [if_pos e] at h
      injection h with h
      subst h e
      exact ⟨v, by simp [List.lookup], a⟩
    · rw [if_neg e] at h
      obtain ⟨u, h1, h2⟩ := fld_at t h
      refine ⟨u, ?_, h2⟩
      have : (f == n) = false := beq_eq_false_iff_ne.mpr fun z => e z.symm
      rw [List.zip_cons_cons]
      simp only [List.lookup, this]
      exact h1
theorem fld_no : ∀ {ns : List Str} {vs : List V} {f : Str}, f ∉ ns → (ns.zip vs).lookup f = none
  | [], _, _, _ => rfl
  | _ :: _, [], _, _ => rfl
  | n :: ns, v :: vs, f, h => by
    have : (f == n) = false := beq_eq_false_iff_ne.mpr fun z => h (by rw [z]; exact List.mem_cons_self)
    rw [List.zip_cons_cons]
    simp only [List.lookup, this]
    exact fld_no fun z => h (List.mem_cons_of_mem _ z)
end
/-! ### e.f -/
/-- the name f is a field's at instances of these classes -/
def FldC (K : PySem.W.Frag) (nms : List Str) (f : Str) : Prop := ∀ nm ∈ nms, Cls K (He.ga K nm) ∧ NoAttr K (He.ga K nm) f
theorem FldC.nil {K : PySem.W.Frag} {f : Str} : FldC K [] f := fun _ h => by cases h
theorem FldC.cons {K : PySem.W.Frag} {nm f : Str} {nms : List Str} (c : Cls K (He.ga K nm)) (n : NoAttr K (He.ga K nm) f) (t : FldC K nms f) : FldC K (nm :: nms) f := fun m h => by
  rcases List.mem_cons.mp h with e | h
  · subst e; exact ⟨c, n⟩
  · exact t m h
def wFld (nms : List Str) (f : Str) (w : WE) : WE := fun en Q => w en fun d e1 => ∃ nm ns ds z, d = obD nm ns ds ∧ nm ∈ nms ∧ fldOf ns ds f = some z ∧ Q z e1
section
variable {X : Cx} {e o : Expr} {es : List Expr} {pos apos p pos' pos2 : Pos} {f m : Str} {w wo : WE} {wa : WA} {nms : List Str} {nm x : Str} {k n : Nat} {ps : List Str}
theorem d_fld (c : FldC X.K nms f) (h : PE X e (lE X.K ζ w)) (hb : attributeBase e f X.env (eval e X.env) = eval e X.env := by rfl) : PE X (.Attribute e f pos) (lE X.K ζ (wFld nms f w)) :=
  (pe_fld h hb).mo fun σ H Q ⟨G, en, I, Q', ok, q, k⟩ => ⟨G, en, I, _, ok, q, fun v H1 I1 e1 d o1 x1 dv ⟨nm, ns, ds, z, hd, hn, hz, q1⟩ => by
    subst hd
    obtain ⟨a, dx, vs, rfl, hc, hi, hl, ha⟩ := da_obj dv
    obtain ⟨u, hu, du⟩ := fld_at ha hz
    exact ⟨a, _, dx, _, u, rfl, o1.iH _ _ hi, (c nm hn).1, (c nm hn).2, hu, k u H1 I1 e1 z o1 x1 du q1⟩⟩
/-! ### o.m(..) -/
def CalM (P : Program) (w : World) (K : PySem.W.Frag) (mg : Str → Option Value) (base : Heap) (k : Nat) (nm m : Str) (ps : List Str) (sp : Sp) : Prop :=
  Cls K (He.ga K nm) ∧ ∃ (f : Addr) (fd : FuncData), FnOk P w K mg base CX0 k f fd ps sp ∧ Meth K (He.ga K nm) m f ∧ Binds K fd ps []
def wMt (nm m : Str) (n : Nat) (wf : WF) (wo : WE) (wa : WA) : WE := fun en Q => wo en fun d e1 => ∃ ns ds, d = obD nm ns ds ∧ m ∉ ns ∧ wa e1 fun xs e2 => xs.length + 1 = n ∧ wf (d :: xs) fun z => Q z e2
theorem d_meth {wf : WF} (C : CalM X.prog X.w X.K X.mg X.base k nm m ps (spP X.K n wf)) (hr : Room k X.A) (ho : PE X o (lE X.K ζ wo)) (ha : PA X (e :: es) (lA X.K ζ wa))
    (hst : starEach (e :: es) X.env = (false, eval e X.env) :: starEach es X.env := by rfl) (hpl : (backTo pos (starEach es X.env)).any (·.1) = false := by rfl)
    {pl : Sem Bool} (ht : eval (.Call (.Attribute o m apos) (e :: es) [] pos) X.env = (do
      let ov ← eval o X.env
      standAt apos.atName
      let (f, first) ← holding [ov] (getMethod ov m pl)
      callWith pos f first (backTo pos (starEach (e :: es) X.env)) (backToKw pos (keywordEach [] X.env))) := by rfl) :
    PE X (.Call (.Attribute o m apos) (e :: es) [] pos) (lE X.K ζ (wMt nm m n wf wo wa)) := by
  obtain ⟨c, f, fd, F, hm, hb⟩ := C
  refine (pe_meth ho c hm F hr hb .nil pass0 ha hst hpl ht).mo fun σ H Q ⟨G, en, I, Q', ok, q, k⟩ => ⟨G, en, I, _, ok, q, fun v H1 I1 e1 d o1 x1 dv ⟨ns, ds, hd, hn, q1⟩ => ?_⟩
  subst hd
  obtain ⟨a, dx, vs, rfl, hc, hi, hl, hda⟩ := da_obj dv
  refine ⟨a, dx, _, rfl, o1.iH _ _ hi, fld_no hn, G, e1, I1, _, o1, q1, fun us H2 I2 e2 xs o2 x2 dxs ⟨hln, q2⟩ => ?_⟩
  refine ⟨I2, _ :: xs, _, o2.iH, .cons (dv.up x2) (by rw [List.append_nil]; exact dxs), hln, q2, fun z H3 I3 d3 g dz q3 => ?_⟩
  exact k z H3 I3 e2 d3 (o2.gr g) ((x1.tr x2).tr g.i) dz q3
theorem d_meth0 {wf : WF} (C : CalM X.prog X.w X.K X.mg X.base k nm m ps (spP X.K 1 wf)) (hr : Room k X.A) (ho : PE X o (lE X.K ζ wo))
    {pl : Sem Bool} (ht : eval (.Call (.Attribute o m apos) [] [] pos) X.env = (do
      let ov ← eval o X.env
      standAt apos.atName
      let (f, first) ← holding [ov] (getMethod ov m pl)
      callWith pos f first (backTo pos (starEach [] X.env)) (backToKw pos (keywordEach [] X.env))) := by rfl) :
    PE X (.Call (.Attribute o m apos) [] [] pos) (lE X.K ζ (wMt nm m 1 wf wo wNil)) := by
  obtain ⟨c, f, fd, F, hm, hb⟩ := C
  refine (pe_meth0 ho c hm F hr hb .nil pass0 ht).mo fun σ H Q ⟨G, en, I, Q', ok, q, k⟩ => ⟨G, en, I, _, ok, q, fun v H1 I1 e1 d o1 x1 dv ⟨ns, ds, hd, hn, hln, q2⟩ => ?_⟩
  subst hd
  obtain ⟨a, dx, vs, rfl, hc, hi, hl, hda⟩ := da_obj dv
  refine ⟨a, dx, _, rfl, o1.iH _ _ hi, fld_no hn, I1, [_], _, o1.iH, .cons dv .nil, rfl, q2, fun z H3 I3 d3 g dz q3 => ?_⟩
  exact k z H3 I3 e1 d3 (o1.gr g) (x1.tr g.i) dz q3
/-! ### C(..) -/
abbrev WI := List D → (List Str → List D → Prop) → Prop
def spI (K : PySem.W.Frag) (nm : Str) (n : Nat) (wm : WI) : Sp := fun vs H Q _ => ∃ (x dx : Addr) (us : List V) (ds : List D) (I : Hp) (Q' : List Str → List D → Prop),
  vs = .ref x :: us ∧ H x = some (.ins (He.ga K nm) dx []) ∧ I x = none ∧ Ex I H ∧ DaAll K I us ds ∧ ds.length + 1 = n ∧ wm ds Q' ∧
  ∀ H' I' ns fvs fds, (∀ a o, a ≠ x → H a = some o → H' a = some o) → Ex I I' → Ex I' H' → (∀ a, I' a ≠ none → I a = none → H a = none) → I' x = none → H' x = some (.ins (He.ga K nm) dx (ns.zip fvs)) → ns.length = fvs.length → DaAll K I' fvs fds → Q' ns fds → Q .non H'
def CalI (P : Program) (w : World) (K : PySem.W.Frag) (mg : Str → Option Value) (base : Heap) (k : Nat) (nm : Str) (ps : List Str) (sp : Sp) : Prop :=
  ∃ (f : Addr) (fd : FuncData), FnOk P w K mg base CX0 k f fd ps sp ∧ Mk K (He.ga K nm) f ∧ mg nm = some (.ref (He.ga K nm)) ∧ Binds K fd ps []
def wMk (nm : Str) (n : Nat) (wm : WI) (wa : WA) : WE := fun en Q => wa en fun ds e1 => ds.length + 1 = n ∧ wm ds fun ns fds => Q (obD nm ns fds) e1
theorem d_make {wm : WI} (ci : ClsI X.K nm) (C : CalI X.prog X.w X.K X.mg X.base k nm ps (spI X.K nm n wm)) (hr : Room (k + 1) X.A) (ha : PA X (e :: es) (lA X.K ζ wa)) (hg : Gl X nm := by rfl)
    (hdb : (nm == ("__debug__" : Str)) = false := by decide) (he : starEach (e :: es) X.env = (false, eval e X.env) :: starEach es X.env := by rfl) (hpl : (backTo pos (starEach es X.env)).any (·.1) = false := by rfl) :
    PE X (.Call (.Name nm p) (e :: es) [] pos) (lE X.K ζ (wMk nm n wm wa)) := by
  obtain ⟨f, fd, F, M, hm, hb⟩ := C
  refine (pe_make M F hr hg hm hb .nil pass0 ha hdb he hpl).mo fun σ H Q ⟨G, en, I, Q', ok, q, k⟩ => ⟨G, en, I, _, ok, q, fun us H1 I1 e1 ds o1 x1 dus ⟨hln, q1⟩ x dx hx hdx hne => ?_⟩
  have ix : I1 x = none := o1.iH.no hx
  have idx : I1 dx = none := o1.iH.no hdx
  have hH : ∀ a o, H1 a = some o → upd (upd H1 dx (.own x)) x (.ins (He.ga X.K nm) dx []) a = some o := fun a o h => by
    rw [upd_ne (ne_of_none h hx), upd_ne (ne_of_none h hdx)]; exact h
  refine ⟨x, dx, us, ds, I1, _, by rw [List.append_nil], upd_same, ix, fun a o h => hH a o (o1.iH a o h), dus, hln, q1, fun H' I' ns fvs fds h1 h2 h3 h4 h5 h6 h7 h8 q2 => ⟨rfl, ?_⟩⟩
  have e2 : Ex I' (upd I' x (.ins (He.ga X.K nm) dx (ns.zip fvs))) := Ex.up h5
  have e3 : Ex (upd I' x (.ins (He.ga X.K nm) dx (ns.zip fvs))) H' := fun a o h => by
    by_cases e : a = x
    · subst e; rw [upd_same] at h; rw [h6]; exact h
    · rw [upd_ne e] at h; exact h3 a o h
  have o2 : Ok X.K ζ G σ e1 H' (upd I' x (.ins (He.ga X.K nm) dx (ns.zip fvs))) := o1.grow (fun a o h => h1 a o (ne_of_none h hx) (hH a o h)) (h2.tr e2) e3 fun a g1 g2 => by
    by_cases e : a = x
    · subst e; exact hx
    · rw [upd_ne e] at g1
      have g3 := h4 a g1 g2
      rw [upd_ne e] at g3
      by_cases e' : a = dx
      · subst e'; exact hdx
      · rw [upd_ne e'] at g3; exact g3
  exact k (.ref x) H' _ e1 _ o2 (x1.tr (h2.tr e2)) (.obj ci upd_same h7 (h8.up e2)) q2
end
end Pd

set_option Elab.async false
set_option linter.all false
set_option maxRecDepth 100000
set_option maxHeartbeats 4000000
/-! The body of __init__: checks, then the fields, one by one. -/
namespace Pd
open PySem PySem.Spec PyProof.Rows L2
abbrev WSI := (List (Str × D) → En → Prop) → List (Str × D) → En → Prop
def obP (K : PySem.W.Frag) (nm : Str) (x dx : Addr) (fs : List (Str × D)) (fvs : List V) : List (Addr × HO) := [(x, .ins (He.ga K nm) dx ((fs.map (·.1)).zip fvs))]
def lIn (K : PySem.W.Frag) (ζ : Zt) (G : Gh) (nm : Str) (x dx : Addr) (w : WSI) : TS := fun R σ H => ∃ (en : En) (I : Hp) (fs : List (Str × D)) (fvs : List V) (R' : List (Str × D) → En → Prop),
  Ok K ζ { G with P := obP K nm x dx fs fvs } σ en H I ∧ en[0]? = some (.adr x) ∧ DaAll K I fvs (fs.map (·.2)) ∧ w R' fs en ∧
  ∀ σ' H' I' en' fs' fvs', Ok K ζ { G with P := obP K nm x dx fs' fvs' } σ' en' H' I' → en'[0]? = some (.adr x) → DaAll K I' fvs' (fs'.map (·.2)) → R' fs' en' → R.nx σ' H'
def wNextI : WSI := fun R fs en => R fs en
def wSeqI (t u : WSI) : WSI := fun R => t (u R)
/-- a statement that leaves the object alone -/
def wLiftI (t : WS) : WSI := fun R fs en => t { nx := fun e => e[0]? = en[0]? ∧ R fs e, rt := fun _ _ => False } en
/-- self.f = e -/
def wSetF (f : Str) (w : WE) : WSI := fun R fs en => w en fun d e1 => e1[0]? = en[0]? ∧ (∀ q ∈ fs, q.1 ≠ f) ∧ fs.length < 900 ∧ R (fs ++ [(f, d)]) e1
theorem put_new (f : Str) (y : V) : ∀ (ns : List Str) (vs : List V), ns.length = vs.length → (∀ n ∈ ns, n ≠ f) → putF f y (ns.zip vs) = (ns ++ [f]).zip (vs ++ [y])
  | [], [], _, _ => rfl
  | [], _ :: _, h, _ => by cases h
  | _ :: _, [], h, _ => by cases h
  | n :: ns, v :: vs, h, hn => by
    rw [List.cons_append, List.cons_append, List.zip_cons_cons, List.zip_cons_cons]
    show (if n = f then _ else (n, v) :: putF f y (ns.zip vs)) = _
    rw [if_neg (hn n List.mem_cons_self), put_new f y ns vs (by simpa using h) fun m hm => hn m (List.mem_cons_of_mem _ hm)]
section
variable {X : Cx} {G : Gh} {nm : Str} {x dx : Addr} {st : Stmt} {rest : List Stmt} {t u : WSI} {ts : WS} {e : Expr} {f s : Str} {p pos pos' : Pos} {w : WE}
theorem in_nil : PSs X [] (lIn X.K ζ G nm x dx wNextI) := pss_nil.mo fun R σ H ⟨en, I, fs, fvs, R', o, h0, da, q, k⟩ => k σ H I en fs fvs o h0 da q
theorem in_cons (h1 : PS X st (lIn X.K ζ G nm x dx t)) (h2 : PSs X rest (lIn X.K ζ G nm x dx u)) : PSs X (st :: rest) (lIn X.K ζ G nm x dx (wSeqI t u)) :=
  (pss_cons h1 h2).mo fun R σ H ⟨en, I, fs, fvs, R', o, h0, da, q, k⟩ => ⟨en, I, fs, fvs, u R', o, h0, da, q, fun σ1 H1 I1 e1 fs1 fvs1 o1 h1 da1 q1 => ⟨e1, I1, fs1, fvs1, R', o1, h1, da1, q1, k⟩⟩
theorem in_one (h1 : PS X st (lIn X.K ζ G nm x dx t)) : PSs X [st] (lIn X.K ζ G nm x dx t) := pss_one h1
theorem in_lift (h : PS X st (lS X.K ζ ts)) : PS X st (lIn X.K ζ G nm x dx (wLiftI ts)) := h.mo fun R σ H ⟨en, I, fs, fvs, R', o, h0, da, q, k⟩ =>
  ⟨⟨G.He, I, G.J, obP X.K nm x dx fs fvs⟩, en, I, _, ⟨Ex.rf I, o.iH, fun a _ h => h, o.fr, o.ln, o.sl, o.ml, o.ds, o.pj, o.pr, o.pn, o.tg, o.tt, fun σ' en' H' I' c => o.lk σ' en' H' I' ⟨o.i0.tr c.i0, c.iH, fun a h1 h2 => c.nw a h1 (o.nw a h1 h2), c.fr, c.ln, c.sl, c.ml, c.ds, c.pj, c.tt⟩⟩, q,
    fun σ' H' I' en' o' ⟨e0, q'⟩ => k σ' H' I' en' fs fvs ⟨o.i0.tr o'.i0, o'.iH, fun a h1 h2 => o'.nw a h1 (o.nw a h1 h2), o'.fr, o'.ln, o'.sl, o'.ml, o'.ds, o'.pj, o'.pr, o'.pn, o'.tg, o'.tt, o.lk⟩ (e0.trans h0) (da.up o'.i0) q',
    fun _ _ _ _ _ _ _ _ q => q.elim, fun _ _ _ _ _ q => q.elim, fun _ _ _ _ _ q => q.elim⟩
theorem in_fld (hj : G.J = none) (hx : G.He x = none) (c : Cls X.K (He.ga X.K nm)) (n : NoAttr X.K (He.ga X.K nm) f) (h0 : PE X (.Name s p) (tVar 0)) (he : PE X e (lE X.K ζ w)) (hs : swapsWith e (some (.Attribute (.Name s p) f pos')) pos.line X.env = pure false := by rfl) :
    PS X (.Assign [.Attribute (.Name s p) f pos'] e pos) (lIn X.K ζ G nm x dx (wSetF f w)) :=
  (ps_fld h0 he hs).mo fun R σ H ⟨en, I, fs, fvs, R', o, h0, da, q, k⟩ => ⟨{ G with P := obP X.K nm x dx fs fvs }, en, I, _, o, q, fun y H1 I1 e1 d o1 x1 dy ⟨e0, hn, hlen, q1⟩ => by
    have h0' : e1[0]? = some (.adr x) := e0.trans h0
    have hv : σ[0]? = some (some (.ref x)) := o1.sl 0 _ h0'
    obtain ⟨p1, p2, p3⟩ := o1.pr _ List.mem_cons_self
    have hl : (fs.map (·.1)).length = fvs.length := by rw [dpa_len da, List.length_map, List.length_map]
    refine ⟨.ref x, hv, x, He.ga X.K nm, dx, _, rfl, p1, c, n, ?_, ?_⟩
    · rw [List.length_zip, List.length_map]; omega
    · have ep := put_new f y (fs.map (·.1)) fvs hl fun m hm => by
        obtain ⟨z, hz, rfl⟩ := List.mem_map.mp hm
        exact hn z hz
      have eP : obP X.K nm x dx (fs ++ [(f, d)]) (fvs ++ [y]) = [(x, .ins (He.ga X.K nm) dx (putF f y ((fs.map (·.1)).zip fvs)))] := by
        unfold obP
        rw [ep, List.map_append]; rfl
      have o2 := Ok.rewr (G := G) (P := []) (p := x) (w := .ins (He.ga X.K nm) dx (putF f y ((fs.map (·.1)).zip fvs))) o1 (by rw [hj]; simp) hx (fun q hq => by cases hq)
      refine k σ _ I1 e1 (fs ++ [(f, d)]) (fvs ++ [y]) (by rw [eP]; exact o2) h0' ?_ q1
      rw [List.map_append]
      exact dpa_app (da.up x1) (.cons dy .nil)⟩
end
section
variable {P : Program} {w : World} {K : PySem.W.Frag} {mg : Str → Option Value} {base : Heap} {x qual : Str} {params : Arguments} {body : List Stmt} {scope : Scope} {f : Addr} {fd : FuncData} {N ps : List Str} {k : Nat}
def enI (N : List Str) (x : Addr) (ds : List D) : En := .adr x :: (ds.map .imm ++ List.replicate (N.length - (ds.length + 1)) .un)
def edI (Q' : List Str → List D → Prop) : List (Str × D) → En → Prop := fun fs _ => Q' (fs.map fun q => q.1) (fs.map fun q => q.2)
theorem fnI {nm : Str} {wm : WI} {ws : WSI} {n : Nat} (F : FunD K x qual params body scope [] [] f fd) (S : FnScope N ps scope) (hn : ps.length = n)
    (hb : ∀ (G : Gh) (a dx : Addr) (cdv : Value) (A : Around) (outer : List Env) (s : Shared) (H : Hp) (E : XK), G.J = none → G.He a = none → Room k (A.deeper (envOfC qual scope s.heap.objs.size f cdv)) → PSs (cxOf CX0 P w K mg base N qual scope f cdv A outer s H E).nox body (lIn K ζ0 G nm a dx ws))
    (hp : ∀ a ds Q', ds.length + 1 = n → wm ds Q' → ws (edI Q') [] (enI N a ds)) : FnOk P w K mg base CX0 (k + 1) f fd ps (spI K nm n wm) := by
  refine F.ok S (fun vs H Q E h => ?_) (fun cdv A outer s H vs Q E hr h => ?_)
  · obtain ⟨a, dx, us, ds, I, Q', rfl, _, _, _, h6, h7, _⟩ := h
    rw [List.length_cons, dpa_len h6, h7, hn]
  · obtain ⟨a, dx, us, ds, I, Q', rfl, g1, g2, h1, h2, h3, h4, h5⟩ := h
    refine ⟨lIn K ζ0 ⟨fun b => if b = a then none else H b, I, none, []⟩ nm a dx ws, PSs.nox (hb _ a dx cdv A outer s H E rfl (if_pos rfl) hr), ?_⟩
    have hpl : ps.length ≤ N.length := by have := congrArg List.length S.pre; rw [List.length_take] at this; omega
    have hl : us.length = ds.length := dpa_len h2
    have s0 : (L2.start N (V.ref a :: us))[0]? = some (some (V.ref a)) := by unfold L2.start; simp
    have get_ : ∀ (i : Nat) (s : Sl), (enI N a ds)[i]? = some s → (i = 0 ∧ s = .adr a) ∨ (∃ d v, Da K I v d ∧ s = .imm d ∧ (L2.start N (V.ref a :: us))[i]? = some (some v)) ∨ s = .un := fun i s hs => by
      unfold enI at hs
      cases i with
      | zero => exact Or.inl ⟨rfl, by simpa using hs.symm⟩
      | succ i =>
        rw [List.getElem?_cons_succ] at hs
        by_cases hi : i < ds.length
        · rw [List.getElem?_append_left (by rw [List.length_map]; exact hi), List.getElem?_map] at hs
          cases q : ds[i]? with
          | none => rw [q] at hs; cases hs
          | some d =>
            rw [q] at hs
            cases hs
            obtain ⟨v, hv, dv⟩ := dpa_get h2 q
            refine Or.inr (Or.inl ⟨d, v, dv, rfl, ?_⟩)
            unfold L2.start
            rw [List.getElem?_append_left (by rw [List.length_map, List.length_cons, hl]; omega), List.getElem?_map, List.getElem?_cons_succ, hv]
            rfl
        · rw [List.getElem?_append_right (by rw [List.length_map]; omega), List.getElem?_replicate] at hs
          split at hs
          · cases hs; exact Or.inr (Or.inr rfl)
          · cases hs
    have nown : ∀ (i : Nat) (l : Addr), ¬ OwnAt (L2.start N (V.ref a :: us)) (enI N a ds) i l := fun i l ⟨_, es, q2⟩ => by
      rcases get_ i _ q2 with ⟨_, e⟩ | ⟨_, _, _, e, _⟩ | e <;> cases e
    have o : Ok K ζ0 ⟨fun b => if b = a then none else H b, I, none, obP K nm a dx [] []⟩ (L2.start N (V.ref a :: us)) (enI N a ds) H I := by
      refine ⟨Ex.rf I, h1, fun _ _ h => h, fun b o h _ _ => ?_, ?_, fun i s hs => ?_, fun i l h => absurd h (nown i l), fun i j l h => absurd h (nown i l), fun l h => (by cases h), fun p hp => ?_, fun p hp => (by
        have e : p = (a, HO.ins (He.ga K nm) dx []) := by simpa [obP] using hp
        subst e; trivial), fun _ h => isTb_Nil h, Tabs_nil, fun _ _ _ _ _ => trivial⟩
      · have h' : (if b = a then none else H b) = some o := h
        split at h'
        · cases h'
        · exact h'
      · unfold L2.start enI
        rw [List.length_append, List.length_map, List.length_replicate, List.length_cons, List.length_cons, List.length_append, List.length_map, List.length_replicate]
        omega
      · rcases get_ i s hs with ⟨e1, e2⟩ | ⟨d, v, dv, e, q5⟩ | e
        · subst e1 e2; exact s0
        · subst e; exact ⟨v, q5, dv⟩
        · subst e; trivial
      · have e : p = (a, HO.ins (He.ga K nm) dx []) := by simpa [obP] using hp
        subst e
        exact ⟨g1, g2, fun i => nown i a⟩
    refine ⟨enI N a ds, I, [], [], edI Q', o, by unfold enI; simp, .nil, hp a ds Q' h3 h4, fun σ' H' I' en' fs' fvs' o' h0 da q => ?_⟩
    obtain ⟨p1, p2, _⟩ := o'.pr _ List.mem_cons_self
    have q' : Q' (fs'.map fun (z : Str × D) => z.1) (fs'.map fun (z : Str × D) => z.2) := q
    refine h5 H' I' _ fvs' _ (fun b o hb hH => o'.fr b o (show (if b = a then none else H b) = some o by rw [if_neg hb]; exact hH) (by simp) isTb0) o'.i0 o'.iH (fun b b1 b2 => ?_) p2 p1 (by rw [dpa_len da, List.length_map, List.length_map]) da q'
    cases z : H b with
    | none => rfl
    | some u =>
      by_cases e : b = a
      · rw [e] at b1; exact absurd p2 b1
      · exact absurd (o'.nw b (show (if b = a then none else H b) ≠ none by rw [if_neg e, z]; simp) b2) b1
end
end Pd

set_option Elab.async false
set_option linter.all false
set_option maxRecDepth 100000
set_option maxHeartbeats 4000000
/-! A head's facts, with the module's names of built-in functions and with its classes' own. -/
namespace Pd
open PySem PySem.Spec PyProof.Rows L2
def fiveT : List String := ["int", "bool", "tuple", "list", "str"]
inductive XF where
  | bf (x : Str) (id : String)
  | isi (nm : Str)
  /-- what is no instance of it -/
  | sub (nm : Str)
  /-- whether an instance of the one is one of the other -/
  | subC (one nm : Str) (r : Bool)
  /-- no != of its own -/
  | ne (nm : Str)
def XF.ok (K : PySem.W.Frag) : XF → Bool
  | .bf x id => He.eqO (PySem.W.nsIn K mainGlobals x) (some (some (.builtin id)))
  | .isi nm => (Fa.cl nm).ok K && (He.eqO (PySem.W.findIn K (.ref (He.ga K nm)) "__class__") (some (some (.builtin "object.__class__"))) &&
      (decide (PySem.W.specialIn K (.builtin "object.__class__") "__get__" = some (some (.builtin "getset_descriptor.__get__"))) && (decide (PySem.W.takesIn K (.builtin "object.__class__") = some true) &&
      (decide (PySem.W.mroIn K (He.ga K nm) (.type "object") = some true) && fiveT.all fun T => decide (PySem.W.kitOne K (.ref (He.ga K nm)) (.type T) = some false)))))
  | .sub nm => ["NoneType", "bool", "int", "str", "list", "tuple", "dict"].all fun a => decide (PySem.W.kitOne K (.type a) (.ref (He.ga K nm)) = some false)
  | .subC one nm r => decide (PySem.W.kitOne K (.ref (He.ga K one)) (.ref (He.ga K nm)) = some r)
  | .ne nm => He.eqO (PySem.W.findIn K (.ref (He.ga K nm)) "__ne__") (some (some (.builtin "object.__ne__")))
where Fa.cl (nm : Str) : He.Fa := .cls nm
def obX (fa : List He.Fa) (fn : List He.DefD) (xs : List XF) (K : PySem.W.Frag) : AlB := ⟨He.obsD fa fn K, xs.all (XF.ok K)⟩
def obXG (n : Nat) (fa : List He.Fa) (fn : List He.DefD) (xs : List XF) (g : Addr → Option Obj) : AlB := obX fa fn xs (He.frG g (He.asD g n))
def SaysX (fa : List He.Fa) (fn : List He.DefD) (xs : List XF) (K : PySem.W.Frag) : Prop := obX fa fn xs K = ⟨He.valD fn, true⟩
def hkX (n : Nat) (fa : List He.Fa) (fn : List He.DefD) (xs : List XF) : PySem.W.Hook where
  α := AlB
  val _ := ⟨He.valD fn, true⟩
  obs s := obXG n fa fn xs s.heap.get?
  says _ h := ∃ K, PySem.W.Frag.In K h ∧ SaysX fa fn xs K
  of _ _ e := ⟨_, He.frG_in, e⟩
  keeps _ _ _ := fun ⟨K, i, c⟩ k => ⟨K, PySem.W.Frag.In.keeps i k, c⟩
theorem obX_eq {n : Nat} {fa : List He.Fa} {fn : List He.DefD} {xs : List XF} {g : Addr → Option Obj} {s : Shared} (h : ∀ a, g a = s.heap.get? a) : obXG n fa fn xs g = (hkX n fa fn xs).obs s := by
  rw [show g = s.heap.get? from funext h]
  rfl
section
variable {fa : List He.Fa} {fn : List He.DefD} {xs : List XF} {K : PySem.W.Frag} {h : Heap} {mg : Str → Option Value}
theorem SaysX.d (c : SaysX fa fn xs K) : He.SaysD fa fn K := congrArg Prod.fst c
theorem SaysX.x (c : SaysX fa fn xs K) (i : Nat) {f : XF} (e : xs[i]? = some f := by rfl) : f.ok K = true := by
  have q : xs.all (XF.ok K) = true := congrArg Prod.snd c
  exact List.all_eq_true.mp q f (List.mem_of_getElem? e)
theorem bf_ok (X : K.In h) (G : h.Ns mainGlobals mg) {x : Str} {id : String} (c : (XF.bf x id).ok K = true) : mg x = some (.builtin id) := PySem.W.mg_of X G (He.eqO_ok c)
theorem isi_ok {nm : Str} (c : (XF.isi nm).ok K = true) : ClsI K nm := by
  obtain ⟨c0, c⟩ := He.ba c
  obtain ⟨c1, c⟩ := He.ba c
  obtain ⟨c2, c⟩ := He.ba c
  obtain ⟨c3, c⟩ := He.ba c
  obtain ⟨c4, c5⟩ := He.ba c
  exact ⟨He.cls_ok c0, He.eqO_ok c1, of_decide_eq_true c2, of_decide_eq_true c3, of_decide_eq_true c4, fun T hT => of_decide_eq_true (List.all_eq_true.mp c5 T hT)⟩
theorem sub_ok {nm : Str} (c : (XF.sub nm).ok K = true) {a : String} (ha : a ∈ ["NoneType", "bool", "int", "str", "list", "tuple", "dict"]) : PySem.W.kitOne K (.type a) (.ref (He.ga K nm)) = some false := of_decide_eq_true (List.all_eq_true.mp c a ha)
theorem subC_ok {one nm : Str} {r : Bool} (c : (XF.subC one nm r).ok K = true) : PySem.W.kitOne K (.ref (He.ga K one)) (.ref (He.ga K nm)) = some r := of_decide_eq_true c
theorem ne_ok {nm : Str} (c : (XF.ne nm).ok K = true) : PySem.W.findIn K (.ref (He.ga K nm)) "__ne__" = some (some (.builtin "object.__ne__")) := He.eqO_ok c
end
end Pd

set_option Elab.async false
set_option linter.all false
set_option maxRecDepth 100000
set_option maxHeartbeats 4000000
namespace Pd
open PySem PySem.Spec PyProof.Rows L2
/-! ### zip of a tuple with a list -/
def ItzTL (K : PySem.W.Frag) (a b : Addr) : It :=
  ⟨fun i H => ∃ (us vs : List V) (u v : V), SqT K H a us ∧ SqL K H b vs ∧ us[i]? = some u ∧ vs[i]? = some v,
    fun i H y H' => ∃ T u v, y = .ref T ∧ H T = none ∧ H' = upd H T (.tup [u, v]) ∧ (∀ us, SqT K H a us → us[i]? = some u) ∧ ∀ vs, SqL K H b vs → vs[i]? = some v,
    fun i H => ∃ us vs : List V, SqT K H a us ∧ SqL K H b vs ∧ i ≤ us.length ∧ i ≤ vs.length ∧ (i = us.length ∨ i = vs.length)⟩
theorem turn_zipTL {P : Program} {w : World} {K : PySem.W.Frag} {elts : List Expr} {kk : Nat} {tpos : Pos} {a b z TI TO i1 i2 : Addr} (D : ZipApart z TI TO i1 i2 a b) :
    Turn P w K (.Tuple elts kk tpos) (ItzTL K a b) [z, TI, TO, i1, i2] z (fun i h => IsZip h z TI TO .none ∧ IsTupOf2 h TI (.ref i1) (.ref i2) ∧ (∃ p q, IsTupOf2 h TO p q) ∧ h.IsTupleIter i1 a i ∧ h.IsListIter i2 b i) where
  mem := by simp
  obj := fun i h st c hc => by
    obtain ⟨sz, sI, ⟨p, q, sO⟩, ⟨u1, r1, _, d1⟩, ⟨u2, r2, _, d2⟩⟩ := st
    rcases (by simpa using hc : c = z ∨ c = TI ∨ c = TO ∨ c = i1 ∨ c = i2) with g | g | g | g | g
    · subst g
      exact ⟨_, sz, fun v n => nomatch n⟩
    · subst g
      exact ⟨_, sI, fun v n => nomatch n⟩
    · subst g
      exact ⟨_, sO, fun v n => nomatch n⟩
    · subst g
      exact ⟨u1, r1, fun v n => by rw [d1] at n; cases n⟩
    · subst g
      exact ⟨u2, r2, fun v n => by rw [d2] at n; cases n⟩
  keep := fun i h h' st kp => by
    obtain ⟨sz, sI, ⟨p, q, sO⟩, s1, s2⟩ := st
    refine ⟨kp z (by simp) _ sz, kp TI (by simp) _ sI, ⟨p, q, kp TO (by simp) _ sO⟩, ?_, ?_⟩
    · exact s1.at fun o g => kp i1 (by simp) o g
    · exact s2.at fun o g => kp i2 (by simp) o g
  item := by
    intro X hP hw hK hc i pins s σ H E I hf st hg
    subst hP hw hK
    obtain ⟨sz, sI, ⟨p0, q0, sO⟩, s1, s2⟩ := st
    obtain ⟨us, vs, u, v, hqu, hqv, hu, hv⟩ := hg
    obtain ⟨is1, rv1, pt, _⟩ := I.tuple hqu
    obtain ⟨is2, rv2, pl, _⟩ := I.list hqv
    have n1 : i < is1.toArray.size := by
      have := rv1.length
      have := (List.getElem?_eq_some_iff.mp hu).1
      simp; omega
    have n2 : i < is2.toArray.size := by
      have := rv2.length
      have := (List.getElem?_eq_some_iff.mp hv).1
      simp; omega
    have zlt : z < s.heap.objs.size := Heap.lt_size sz
    refine wpAny_pyNext_zipD2_item (sepM D) (Draws.tuple (A := X.A.in1) (by exact I.ok.hd hc) i1 a D.l1i1 is1.toArray) (Draws.list (A := X.A.in1) (by exact I.ok.hd hc) i2 b D.l2i2 is2.toArray) sz sI sO ⟨s1, pt⟩ ⟨s2, pl.isList⟩ n1 n2 fun y1 y2 h' tk hy1 hy2 z' TO' t1 t2 hT hsz hk => ?_
    obtain ⟨v1, gv1, rr1⟩ := rv1.get hu
    obtain ⟨v2, gv2, rr2⟩ := rv2.get hv
    have ey1 : y1 = v1 := by
      have e : is1[i]? = some y1 := by simpa using hy1
      rw [gv1] at e; injection e with e; exact e.symm
    have ey2 : y2 = v2 := by
      have e : is2[i]? = some y2 := by simpa using hy2
      rw [gv2] at e; injection e with e; exact e.symm
    subst ey1 ey2
    refine ⟨_, rfl, wpAny_letOwnedTupleGo_zip (s := { s with heap := h', toks := tk }) z' fun h'' z'' sb => ?_⟩
    have hT2 : h''.get? s.heap.objs.size = some { cls := .type "tuple", data := .seq #[y1, y2] } := (sb.2 _ (Nat.ne_of_gt zlt)).trans hT
    have fresh : ObjOk X.prog X.w (upd H s.heap.objs.size (.tup [u, v])) h'' s.heap.objs.size (.tup [u, v]) := ⟨by show 2 ≤ sizeLine; decide, [y1, y2], .cons rr1 (.cons rr2 .nil), ⟨_, hT2, rfl, _, rfl⟩⟩
    have kept : ∀ c o, c ∉ [z, TI, TO, i1, i2] → s.heap.get? c = some o → h''.get? c = some o := fun c o hb g => (sb.2 c (fun e => hb (by simp [e]))).trans (hk c o (fun e => hb (by simp [e])) (fun e => hb (by simp [e])) (fun e => hb (by simp [e])) (fun e => hb (by simp [e])) g)
    have I1 : Inv X pins σ (upd H s.heap.objs.size (.tup [u, v])) { s with heap := h'', toks := tk } := I.turnedNew (t' := tk) (ch := [z, TI, TO, i1, i2]) kept hf (Nat.le_refl _) fresh
    refine ⟨.ref s.heap.objs.size, _, I1, rfl, ⟨_, u, v, rfl, I.hok.fresh (Nat.le_refl _), rfl, fun l hl => ?_, fun l hl => ?_⟩, ⟨z'', ?_, ⟨y1, y2, ?_⟩, ?_, ?_⟩, fun c hcm => ?_⟩
    · rw [I.tuple_inj hl hqu]; exact hu
    · rw [I.list_inj hl hqv]; exact hv
    · exact (sb.2 _ D.TIz).trans (hk _ _ D.TIz D.TITO D.TIi1 D.TIi2 sI)
    · exact (sb.2 _ D.TOz).trans TO'
    · exact t1.1.at fun o g => (sb.2 _ D.i1z).trans g
    · exact t2.1.at fun o g => (sb.2 _ D.i2z).trans g
    · have below : c < s.heap.objs.size := by
        rcases (by simpa using hcm : c = z ∨ c = TI ∨ c = TO ∨ c = i1 ∨ c = i2) with g | g | g | g | g
        · rw [g]; exact zlt
        · rw [g]; exact Heap.lt_size sI
        · rw [g]; exact Heap.lt_size sO
        · rw [g]; obtain ⟨_, e1, _⟩ := s1; exact Heap.lt_size e1
        · rw [g]; obtain ⟨_, e2, _⟩ := s2; exact Heap.lt_size e2
      rw [upd_ne (Nat.ne_of_lt below)]
      exact (hf c hcm).1
  done := by
    intro X hP hw hK hc i pins s σ H E I hf st hg
    subst hP hw hK
    obtain ⟨sz, sI, ⟨p0, q0, sO⟩, s1, s2⟩ := st
    obtain ⟨us, vs, hqu, hqv, le1, le2, hend⟩ := hg
    obtain ⟨is1, rv1, pt, _⟩ := I.tuple hqu
    obtain ⟨is2, rv2, pl, _⟩ := I.list hqv
    have l1 := rv1.length
    have l2 := rv2.length
    refine wpAny_pyNext_zipD2_end (sepM D) (Draws.tuple (A := X.A.in1) (by exact I.ok.hd hc) i1 a D.l1i1 is1.toArray) (Draws.list (A := X.A.in1) (by exact I.ok.hd hc) i2 b D.l2i2 is2.toArray) sz sI sO ⟨s1, pt⟩ ⟨s2, pl.isList⟩ (by simp; omega) (by simp; omega) (by simp; omega) fun h' tk hk => ⟨rfl, ?_⟩
    exact I.turnedL (t' := tk) (ch := [z, TI, TO, i1, i2]) (fun c o hb g => hk c o (fun e => hb (by simp [e])) (fun e => hb (by simp [e])) (fun e => hb (by simp [e])) (fun e => hb (by simp [e])) g) hf
  self := fun A i s Q E st h => wpAny_pyIter_zip st.1 h
def iZipTL (K : PySem.W.Frag) (ta : TA) : TI := fun σ H R => ta σ H fun ws H1 => ∃ a b us vs, ws = [.ref a, .ref b] ∧ SqT K H1 a us ∧ SqL K H1 b vs ∧ R (ItzTL K a b) H1
theorem pi_zipTL {X : Cx} {e e2 : Expr} {ta : TA} {p pos tpos : Pos} {elts : List Expr} {kk : Nat} (hg : Gl X "zip") (hm : X.mg "zip" = none) (ha : PA X [e, e2] ta)
    (hs : starEach [e, e2] X.env = (false, eval e X.env) :: starEach [e2] X.env := by rfl) (hpl : (backTo pos (starEach [e2] X.env)).any (·.1) = false := by rfl) : PI X (.Tuple elts kk tpos) (.Call (.Name "zip" p) [e, e2] [] pos) (iZipTL X.K ta) := by
  refine ⟨fun pins s σ H R I h => Call_ (ld_blt I hg hm PyProof.Rows.boot_zip (PyProof.Rows.callWith_type1 (thn (ha.run pos pins s σ H _ I h) fun ws s1 ⟨xs, H1, I1, r1, q1⟩ => ?_) hs hpl))⟩
  obtain ⟨a, b, us, vs, ex, hqu, hqv, q⟩ := q1
  subst ex
  cases r1 with
  | cons r rr =>
    cases rr with
    | cons r' rr =>
      cases rr
      cases r
      cases r'
      obtain ⟨is1, rv1, pt, _⟩ := I1.tuple hqu
      obtain ⟨is2, rv2, pl, _⟩ := I1.list hqv
      obtain ⟨ot, hot, _⟩ := id pt
      have five : ∀ c, c ∈ [s1.heap.objs.size + 4, s1.heap.objs.size + 2, s1.heap.objs.size + 3, s1.heap.objs.size, s1.heap.objs.size + 1] → FpOk X pins H1 c := fun c hcm => by
        have le : s1.heap.objs.size ≤ c := by
          simp only [List.mem_cons, List.not_mem_nil, or_false] at hcm
          omega
        exact I1.fpOk le (I1.hok.fresh le)
      refine zip_begins2 (begins_tuple a is1.toArray) (begins_list b is2.toArray) pt pl.isList fun h' gz gI gO g1 g2 hsz hk => wpAny_pyIter_zip gz ?_
      have I2 : Inv X pins σ H1 { s1 with heap := h' } := I1.kept (t' := s1.toks) hk
      exact ⟨s1.heap.objs.size + 4, [s1.heap.objs.size + 4, s1.heap.objs.size + 2, s1.heap.objs.size + 3, s1.heap.objs.size, s1.heap.objs.size + 1], _, _, H1, rfl, I2, turn_zipTL (PySem.W.ktu_apart s1.heap.objs.size a b (Heap.lt_size hot) pl.lt), ⟨gz, gI, ⟨_, _, gO⟩, ⟨_, g1, rfl, rfl⟩, ⟨_, g2, rfl, rfl⟩⟩, five, q⟩
section
variable {K : PySem.W.Frag} {X : Cx} {a b : Expr} {elts : List Expr} {kk : Nat} {pos p tpos : Pos} {w : WA}
theorem itd_zipTL {I : Hp} {a b : Addr} {us vs : List V} {ds es : List D} (g : SqT K I a us) (hd : DaAll K I us ds) (h : I b = some (.lst vs)) (he : DaAll K I vs es) : ItD K (ItzTL K a b) I (zipD ds es) where
  go := fun i H I1 e1 e2 hi => by
    rw [zipD_len] at hi
    obtain ⟨u, hu, _⟩ := dpa_get hd (List.getElem?_eq_getElem (i := i) (by omega))
    obtain ⟨v, hv, _⟩ := dpa_get he (List.getElem?_eq_getElem (i := i) (by omega))
    exact ⟨us, vs, u, v, sqt_ex (e1.tr e2) g, SqL.of (e2 _ _ (e1 _ _ h)), hu, hv⟩
  stop := fun H I1 e1 e2 => ⟨us, vs, sqt_ex (e1.tr e2) g, SqL.of (e2 _ _ (e1 _ _ h)), by rw [zipD_len, dpa_len hd]; omega, by rw [zipD_len, dpa_len he]; omega, by rw [zipD_len, dpa_len hd, dpa_len he]; omega⟩
  yld := fun i H I1 y H' d e1 e2 hd' ⟨T, u, v, ey, hT, eH, hu, hv⟩ => by
    subst ey eH
    obtain ⟨u', v', gu, gv, ed⟩ := zipD_get hd'
    obtain ⟨u2, hu2, q⟩ := dpa_get hd gu
    obtain ⟨v2, hv2, q'⟩ := dpa_get he gv
    have t1 := hu us (sqt_ex (e1.tr e2) g)
    have t2 := hv vs (SqL.of (e2 _ _ (e1 _ _ h)))
    rw [hu2] at t1
    rw [hv2] at t2
    cases t1; cases t2
    subst ed
    exact pair_gr e2 hT (q.up e1) (q'.up e1)
/-- zip(a tuple, a list) -/
def wZipTL (w : WA) : WA := fun en Q => w en fun ds e1 => ∃ xs ys, ds = [.tuple xs, .list ys] ∧ Q (zipD xs ys) e1
theorem i_zipTL (hm : X.mg "zip" = none) (ha : PA X [a, b] (lA X.K ζ w)) (hg : Gl X "zip" := by rfl) (hs : starEach [a, b] X.env = (false, eval a X.env) :: starEach [b] X.env := by rfl) (hpl : (backTo pos (starEach [b] X.env)).any (·.1) = false := by rfl) :
    PI X (.Tuple elts kk tpos) (.Call (.Name "zip" p) [a, b] [] pos) (lI X.K ζ (wZipTL w)) :=
  (pi_zipTL hg hm ha hs hpl).mo fun σ H R ⟨G, en, I, Q', o, q, k⟩ => ⟨G, en, I, _, o, q, fun vs H1 I1 e1 ds o1 x1 dvs ⟨xs, ys, hd, q1⟩ => by
    subst hd
    cases dvs with
    | cons h t => cases t with
      | cons h2 t => cases t; cases h with
        | tup hs ha => cases h2 with
          | lst hs2 ha2 => exact ⟨_, _, _, _, rfl, sqt_ex o1.iH hs, SqL.of (o1.iH _ _ hs2), k _ H1 I1 e1 _ o1 x1 (itd_zipTL hs ha hs2 ha2) q1⟩⟩
end
end Pd

set_option Elab.async false
set_option linter.all false
set_option maxRecDepth 100000
set_option maxHeartbeats 4000000
/-! == and != of instances by an own __eq__; isinstance of own classes. -/
namespace Pd
open PySem PySem.Spec PyProof.Rows L2
section
open PySem.W PySem.Calls Builtin
variable {prog : Program} {w : World} {A A₀ : Around} {E : Value → Shared → Prop} {s : Shared} {K : PySem.W.Frag} {x C L f : Addr} {h₀ : Heap} {m : Str → Option Value} {ox : Obj} {od : Option Obj} {name : Str} {b tb : Value}
theorem on_bind (self : Value) : bindSpecial (.builtin "object.__ne__") self = pure (.builtin "object.__ne__", [self]) :=
  (Slot.of (T := "object") (name := "__ne__") (owner := "object") (n := "__ne__") (by rw [typeLookup_type, builtinLookup_eq_fast]; kernel_rfl) (by decide +kernel) (by decide +kernel) (by decide +kernel)
    (.inl (by decide +kernel)) (by rw [isSubtype_type]; kernel_rfl)).bind self
theorem objNe_K (X : K.In s.heap) (I : InstAt s.heap x ox C od) (hs : findIn K (.ref C) "__eq__" = some (some (.ref f))) (hf : isFn K (.ref f) = true) (hu : A.units < cLine) {Q : Fin → Shared → Prop}
    (hcall : wpAny (model prog w) A (call (.ref f) [.ref x, b]) (fun v s' => ∃ r, v = .bool r ∧ Q (.done (.ret (.bool (!r)))) s') E s) :
    wpAny (model prog w) A (Builtin.«object.__ne__» ⟨[.ref x, b], []⟩) Q E s := by
  unfold Builtin.«object.__ne__»
  repeat (first
    | with_reducible refine wpAny_cRoomFor hu ?_
    | (refine wpAny_bind (m := callSpecialIfBound? (.ref x) (Str.ofString "__eq__") [b])
        (ifBound_K X I hs hf (wpAny_mono hcall (fun v s' hr => by
          obtain ⟨r, rfl, hq⟩ := hr
          repeat (first | exact hq | exact wpAny_pure hq | exact wpAny_truthy_bool hq | (refine wpAny_bind (m := truthy (.bool _)) (wpAny_truthy_bool ?_)) | wp_step)) fun _ _ e => e)))
    | wp_step)
theorem ifBound_ne {M : Model} {Q : Option Value → Shared → Prop} (X : K.In s.heap) (I : InstAt s.heap x ox C od) (hs : findIn K (.ref C) "__ne__" = some (some (.builtin "object.__ne__")))
    (h : wpAny M A (call (.builtin "object.__ne__") [.ref x, b]) (fun v => Q (some v)) E s) : wpAny M A (callSpecialIfBound? (.ref x) "__ne__" [b]) Q E s := by
  simp only [callSpecialIfBound?, bindSpecialIfBound?]
  refine wpAny_holding (wpAny_bind (wpAny_bind (wpAny_bind (I.type.here ((looks_findIn X hs).here ?_)))))
  simp only [on_bind]
  refine wpAny_bind (wpAny_askSetting (wpAny_ite ?_))
  have fin : wpAny M A (call (.builtin "object.__ne__") ([.ref x] ++ [b]) >>= fun v => pure (some v)) Q E s := wpAny_bind (wpAny_mono h (fun v s' h' => wpAny_pure h') fun _ _ h' => h')
  split
  · exact wpAny_bind (wpAny_pure (wpAny_pure fin))
  · exact wpAny_tryCatch (wpAny_bind (wpAny_pure (wpAny_pure fin)))
theorem ne_K {Q : Value → Shared → Prop} (hu : A.units + 1 < cLine) (F' : Fr h₀ L s.heap m) (X₀ : K.In h₀) (I : InstAt s.heap x ox C od) (hb : Looks (model prog w) s.heap (typeOf b) tb) (hn : notFirst K C tb = true)
    (hne : findIn K (.ref C) "__ne__" = some (some (.builtin "object.__ne__"))) (hm : mroIn K C (.type "object") = some true)
    (hs : findIn K (.ref C) "__eq__" = some (some (.ref f))) (hf : isFn K (.ref f) = true)
    (h : wpAny (model prog w) A.in1 (call (.ref f) [.ref x, b]) (fun v s' => ∃ r, v = .bool r ∧ Q (.bool (!r)) s') E s) : wpAny (model prog w) A (richCompare .NotEq (.ref x) b) Q E s := by
  have X := X₀.keeps F'.keep
  have hio : Looks (model prog w) s.heap (isInstance (.ref x) (.type "object")) true := I.type.andThen (looks_mroIn X hm)
  have one : wpAny (model prog w) A (tryCompare (.ref x) "__ne__" b) (fun r s' => ∃ v, r = some v ∧ Q v s') E s := by
    unfold tryCompare
    refine wpAny_bind (ifBound_ne X I hne (wpAny_call (codeAny_call_builtin (by decide +kernel) F.cmpEntry_ne (check_slot F.cmpKind_ne F.cmpSplit_ne hio (F.cmpArgs_ne _ _) (objNe_K (A := A.in1) X I hs hf hu (wpAny_mono h (fun v s' hv => ?_) fun _ _ e => e))))))
    obtain ⟨r, rfl, hq⟩ := hv
    first | exact ⟨r, rfl, wpAny_pure hq⟩ | exact wpAny_pure ⟨_, rfl, hq⟩ | exact ⟨_, rfl, hq⟩ | exact ⟨_, rfl, wpAny_pure ⟨_, rfl, hq⟩⟩
  unfold richCompare
  simp only [oneThing_ref]
  refine wpAny_holding (wpAny_bind (wpAny_cRoomFor (Nat.lt_of_succ_lt hu) ?_))
  refine wpAny_bind (I.type.here (wpAny_bind (hb.here ?_)))
  split
  · rename_i q
    have e : subIn K tb (.ref C) = some false := by
      rcases Bool.or_eq_true_iff.mp hn with e | e
      · rw [beq_iff_eq.mp e] at q; simp at q
      · exact beq_iff_eq.mp e
    refine wpAny_bind ((looks_subIn X e).here ?_)
    simp only [Bool.false_eq_true, if_false]
    refine wpAny_bind (wpAny_mono one (fun r s' z => ?_) fun _ _ e => e)
    obtain ⟨v, rfl, hq⟩ := z
    exact wpAny_pure hq
  · refine wpAny_bind (wpAny_pure ?_)
    simp only [Bool.false_eq_true, if_false]
    refine wpAny_bind (wpAny_mono one (fun r s' z => ?_) fun _ _ e => e)
    obtain ⟨v, rfl, hq⟩ := z
    exact wpAny_pure hq
end

/-! ### the reading -/
/-- == (ne false) and != (ne true) by an own __eq__ -/
def rOwn (K : PySem.W.Frag) (nm : Str) (ne : Bool) (wf : WF) : R2 := fun x y H Q => ∃ (a dx : Addr) (fs : List (Str × V)) (t : Value), x = .ref a ∧ H a = some (.ins (He.ga K nm) dx fs) ∧ TyX K H y t ∧ PySem.W.notFirst K (He.ga K nm) t = true ∧
  spP K 2 wf [x, y] H (fun v H' => ∃ b, v = .bl b ∧ Q (.bl (b != ne)) H') fun _ _ _ => False
def dOwn (nm : Str) (ne : Bool) (wf : WF) : D → D → D → Prop := fun x y z => ∃ ns ds b, x = obD nm ns ds ∧ (wf [x, y] fun d => d = .bool b) ∧ z = .bool (b != ne)
section
variable {X : Cx} {nm : Str} {k : Nat} {ps : List Str} {wf : WF}
theorem own_call {A : Around} {pins : List (Addr × Obj)} {σ : L2.St} {H : Hp} {s : Shared} {a : Addr} {y : V} {u : Value} {f : Addr} {fd : FuncData} (F : FnOk X.prog X.w X.K X.mg X.base CX0 k f fd ps (spP X.K 2 wf)) (hb : Binds X.K fd ps []) (sb : L2.Sub X k A)
    (I : Inv X pins σ H s) (ry : RelV y u) {Q : V → Hp → Prop} (hsp : spP X.K 2 wf [.ref a, y] H Q fun _ _ _ => False) {R : Value → Shared → Prop} (hR : ∀ v s', (∃ z H', Inv X pins σ H' s' ∧ RelV z v ∧ Q z H') → R v s') :
    wpAny (model X.prog X.w) A (call (.ref f) [.ref a, u]) R X.xe s := by
  have e0 : Env0 X.prog X.w X.K X.mg X.base A X.stack s H := by
    have e := I.env0
    exact ⟨by rw [sb.fr]; exact e.frames, e.mod, e.bs, e.bsz, e.funs, e.frf, e.hok, e.bare⟩
  have hl := F.len _ _ _ _ hsp
  have r2 : Vals [V.ref a, y] [Value.ref a, u] := .cons rfl (.cons ry .nil)
  refine wpAny_call (codeAny_mono (F.run A X.stack s H ⟨[.ref a, u], []⟩ [.ref a, u] [.ref a, y] _ _ sb.room e0 (by
    have := hb s [.ref a, u] I.kIn (by simpa using hl)
    simpa using this) r2 hsp) fun r s' hq => ?_)
  cases r with
  | error e => exact hq.elim
  | ok fl =>
    cases fl with
    | ret w =>
      obtain ⟨z, H', I', rz, q⟩ := I.after hq
      exact hR _ _ ⟨z, H', I', rz, q⟩
    | next => exact False.elim hq
    | brk => exact False.elim hq
    | cont => exact False.elim hq
theorem op_ownEq (C : CalM X.prog X.w X.K X.mg X.base k nm "__eq__" ps (spP X.K 2 wf)) (hr : Room k X.A) : OpR X (compareOp .Eq) (rOwn X.K nm false wf) := by
  intro pins s σ H x y v u Q I rx ry hq
  obtain ⟨a, dx, fs, t, rfl, ha, ty, hnf, hsp⟩ := hq
  obtain ⟨c, f, fd, F, hm, hb⟩ := C
  cases rx
  obtain ⟨mA, J, _⟩ := ins_get I.hok ha
  obtain ⟨od, J, _⟩ := J.look
  obtain ⟨m, hF⟩ := I.fr
  obtain ⟨P, Z, p, _⟩ := kit_of I ry ty
  show wpAny (model X.prog X.w) X.A (richCompare .Eq (.ref a) u) (EP X pins σ Q) X.xe s
  refine PySem.W.cmp_K (op := .Eq) (tb := t) hr.units0 hF I.ok.mod.kin J (Z.ty _ _ I.kIn p) hnf hm.at_ hm.fn ?_
  refine own_call F hb ⟨hr, rfl⟩ I ry hsp fun v s' ⟨z, H', I', rz, b, ez, q⟩ => ?_
  subst ez
  cases rz
  rw [Bool.bne_false] at q
  exact ⟨.bl b, H', I', rfl, q⟩
theorem op_ownNe (C : CalM X.prog X.w X.K X.mg X.base k nm "__eq__" ps (spP X.K 2 wf)) (ci : ClsI X.K nm) (hne : PySem.W.findIn X.K (.ref (He.ga X.K nm)) "__ne__" = some (some (.builtin "object.__ne__"))) (hr : Room (k + 1) X.A) : OpR X (compareOp .NotEq) (rOwn X.K nm true wf) := by
  intro pins s σ H x y v u Q I rx ry hq
  obtain ⟨a, dx, fs, t, rfl, ha, ty, hnf, hsp⟩ := hq
  obtain ⟨c, f, fd, F, hm, hb⟩ := C
  cases rx
  obtain ⟨mA, J, _⟩ := ins_get I.hok ha
  obtain ⟨od, J, _⟩ := J.look
  obtain ⟨m, hF⟩ := I.fr
  obtain ⟨P, Z, p, _⟩ := kit_of I ry ty
  show wpAny (model X.prog X.w) X.A (richCompare .NotEq (.ref a) u) (EP X pins σ Q) X.xe s
  refine ne_K (tb := t) hr.in1.units0 hF I.ok.mod.kin J (Z.ty _ _ I.kIn p) hnf hne ci.hm hm.at_ hm.fn ?_
  refine own_call F hb ⟨hr.in1, rfl⟩ I ry hsp fun v s' ⟨z, H', I', rz, b, ez, q⟩ => ?_
  subst ez
  cases rz
  rw [Bool.bne_true] at q
  exact ⟨b, rfl, .bl (!b), H', I', rfl, q⟩
/-- the types of data -/
theorem ty_da {K : PySem.W.Frag} {H I : Hp} {nm : Str} {y : V} {d : D} (iH : Ex I H) (h : Da K I y d) (hd : ∀ nm' ns ds, d = obD nm' ns ds → nm' = nm) : ∃ t, TyX K H y t ∧ PySem.W.notFirst K (He.ga K nm) t = true := by
  have nf : ∀ T ∈ ["NoneType", "bool", "int", "str", "list", "tuple", "dict"], PySem.W.notFirst K (He.ga K nm) (.type T) = true := fun T hT => by
    simp only [List.mem_cons, List.not_mem_nil, or_false] at hT
    rcases hT with rfl | rfl | rfl | rfl | rfl | rfl | rfl <;> rfl
  cases h with
  | obj c h hl ha =>
    have e := hd _ _ _ rfl
    subst e
    exact ⟨_, .base (.ins (iH _ _ h) c.cl c.ha c.hn c.ht c.hm), by unfold PySem.W.notFirst; simp⟩
  | non => exact ⟨_, .base .non, nf _ (by decide)⟩
  | bl b => exact ⟨_, .base (.bl b), nf _ (by decide)⟩
  | int i => exact ⟨_, .base (.int i), nf _ (by decide)⟩
  | str x => exact ⟨_, .base (.str x), nf _ (by decide)⟩
  | lst h a => exact ⟨_, .base (.lst (iH _ _ h)), nf _ (by decide)⟩
  | dic h => exact ⟨_, .base (.dK (iH _ _ h)), nf _ (by decide)⟩
  | tup h a =>
    rcases sqt_ex iH h with (h | ⟨o, h⟩) | ⟨o, its, n, h1, h2, h3, h4, h5⟩
    · exact ⟨_, .base (.tup h), nf _ (by decide)⟩
    · exact ⟨_, .fTuple h, nf _ (by decide)⟩
    · exact ⟨_, .kTuple h1 h2, nf _ (by decide)⟩
def dOwnE (nm : Str) (ne : Bool) (wf : WF) : D → D → D → Prop := fun x y z => (∀ nm' ns ds, y = obD nm' ns ds → nm' = nm) ∧ dOwn nm ne wf x y z
theorem snd_own {K : PySem.W.Frag} {ne : Bool} : SndOp K (rOwn K nm ne wf) (dOwnE nm ne wf) := fun H I x y d e z iH dx dy ⟨hy, ns, ds, b, hx, hw, hz⟩ Q q => by
  subst hx hz
  obtain ⟨a, dxx, vs, rfl, hc, hi, hl, hda⟩ := da_obj dx
  obtain ⟨t, h1, h2⟩ := ty_da (nm := nm) iH dy hy
  refine ⟨a, dxx, _, t, rfl, iH _ _ hi, h1, h2, I, _, _, iH, .cons dx (.cons dy .nil), rfl, hw, fun v H' I' d' g dv hd => ?_⟩
  subst hd
  cases dv
  exact ⟨b, rfl, q _ _ _ g (.bl _)⟩
end
end Pd

set_option Elab.async false
set_option linter.all false
set_option maxRecDepth 100000
set_option maxHeartbeats 4000000
/-! isinstance of own classes; str of instances with an own __str__; f-strings. -/
namespace Pd
open PySem PySem.Spec PyProof.Rows L2
section
variable {X : Cx} {a : Expr} {wa : WE} {p p2 pos : Pos} {nm : Str} {k : Nat} {ps : List Str} {wf : WF}
def isC (nm : Str) : D → Option Bool
  | .dict [(.tuple (.str m :: _), .tuple _)] => if m = nm then some true else none
  | .dict [] => some false
  | .dict _ => none
  | _ => some false
structure IsC (K : PySem.W.Frag) (nm : Str) : Prop where
  no : ∀ T ∈ ["NoneType", "bool", "int", "str", "list", "tuple", "dict"], PySem.W.kitOne K (.type T) (.ref (He.ga K nm)) = some false
  yes : PySem.W.kitOne K (.ref (He.ga K nm)) (.ref (He.ga K nm)) = some true
theorem isC_ok {K : PySem.W.Frag} {nm : Str} (c : (XF.sub nm).ok K = true) (c2 : (XF.subC nm nm true).ok K = true) : IsC K nm := ⟨fun _ hT => sub_ok c hT, subC_ok c2⟩
def wIsC (nm : Str) (wa : WE) : WE := fun en Q => wa en fun d e1 => ∃ r, isC nm d = some r ∧ Q (.bool r) e1
theorem da_isC {K : PySem.W.Frag} {H I : Hp} {v : V} {d : D} {r : Bool} (c : IsC K nm) (hk : isC nm d = some r) (iH : Ex I H) (h : Da K I v d) : ∃ t, TyX K H v t ∧ PySem.W.kitOne K t (.ref (He.ga K nm)) = some r := by
  cases h with
  | obj ci h hl ha =>
    have hk' : (if _ = nm then some true else none) = some r := hk
    split at hk'
    · rename_i e
      subst e
      exact ⟨_, .base (.ins (iH _ _ h) ci.cl ci.ha ci.hn ci.ht ci.hm), by rw [c.yes]; exact hk'⟩
    · cases hk'
  | non => exact ⟨_, .base .non, by rw [c.no _ (by decide)]; exact hk⟩
  | bl b => exact ⟨_, .base (.bl b), by rw [c.no _ (by decide)]; exact hk⟩
  | int i => exact ⟨_, .base (.int i), by rw [c.no _ (by decide)]; exact hk⟩
  | str x => exact ⟨_, .base (.str x), by rw [c.no _ (by decide)]; exact hk⟩
  | lst h a => exact ⟨_, .base (.lst (iH _ _ h)), by rw [c.no _ (by decide)]; exact hk⟩
  | dic h => exact ⟨_, .base (.dK (iH _ _ h)), by rw [c.no _ (by decide)]; exact hk⟩
  | tup h a =>
    rcases sqt_ex iH h with (h | ⟨o, h⟩) | ⟨o, its, n, h1, h2, h3, h4, h5⟩
    · exact ⟨_, .base (.tup h), by rw [c.no _ (by decide)]; exact hk⟩
    · exact ⟨_, .fTuple h, by rw [c.no _ (by decide)]; exact hk⟩
    · exact ⟨_, .kTuple h1 h2, by rw [c.no _ (by decide)]; exact hk⟩
theorem d_isC (c : IsC X.K nm) (hm : X.mg "isinstance" = none) (hmT : X.mg nm = some (.ref (He.ga X.K nm))) (ha : PE X a (lE X.K ζ wa)) (hg : Gl X "isinstance" := by rfl) (hgT : Gl X nm := by rfl) (hdb : (nm == ("__debug__" : Str)) = false := by decide)
    (he : starEach (a :: [.Name nm p2]) X.env = (false, eval a X.env) :: starEach [.Name nm p2] X.env := by rfl) (he2 : starEach (.Name nm p2 :: []) X.env = (false, eval (.Name nm p2) X.env) :: starEach [] X.env := by rfl) (hpl : (backTo pos (starEach [.Name nm p2] X.env)).any (·.1) = false := by rfl) :
    PE X (.Call (.Name "isinstance" p) [a, .Name nm p2] [] pos) (lE X.K ζ (wIsC nm wa)) :=
  (pe_callB call_isi hg hm (by decide +kernel) (pa_cons ha (pa_cons (pe_glob (v := .ref (He.ga X.K nm)) hgT hmT rfl hdb) pa_nil he2) he) (by decide) (by decide) he hpl).mo fun σ H Q ⟨G, en, I, Q', o, q, k⟩ => ⟨G, en, I, _, o, q, fun v H1 I1 e1 d o1 x1 dv ⟨r, hr, q1⟩ => by
    obtain ⟨t, t1, t2⟩ := da_isC c hr o1.iH dv
    exact ⟨v, .ref _, t, .ref _, r, rfl, .own _, t1, t2, k (.bl r) H1 I1 e1 _ o1 x1 (.bl r) q1⟩⟩
end
/-! ### str(x) -/
section
open PySem.W PySem.Calls Builtin Builtin.Str
theorem str_own {prog : Program} {w : World} {A : Around} {E : Value → Shared → Prop} {s : Shared} {K : PySem.W.Frag} {x C f : Addr} {ox : Obj} {od : Option Obj} {Q : Value → Shared → Prop} (hu : A.in1.in1.units < cLine) (X : K.In s.heap) (I : InstAt s.heap x ox C od) (hs : findIn K (.ref C) "__str__" = some (some (.ref f))) (hf : isFn K (.ref f) = true)
    (h : wpAny (model prog w) A.in1.in1 (call (.ref f) [.ref x]) (StrBack Q) E s) : wpAny (model prog w) A (call (.type "str") [.ref x]) Q E s := by
  refine callType_codes (T := "str") (Bi := Builtin.«object.__init__») (Q₁ := fun r s₁ => ∃ y u, r = .str y u ∧ Q r s₁) PySem.F.called_str (PySem.F.typeCall_str_1 _) PySem.F.entry_object_init ?_ ?_
  · refine codeAny_of_tree ?_
    show wpAny _ A.in1.in1 (do checkBuiltinCall "str.__new__" ⟨[.type "str", .ref x], []⟩; again (.builtin "str.__new__" ⟨[.type "str", .ref x], []⟩)) _ _ s
    refine wpAny_bind (wpAny_of_eq (PySem.F.newCall_str_1 _) (wpAny_pure ⟨plainId_quiet (by decide +kernel) _, codeAny_builtin PySem.F.entry_str_new ?_⟩))
    rw [Around.under_plainId (by decide +kernel) _]
    rw [str_new_tree]
    refine wpAny_bind (wpAny_pure ?_)
    refine wpAny_bind (wpAny_of_eq isSubtype_str_str ?_)
    have key : wpAny (model prog w) A.in1.in1 (PySem.Builtin.Str.strOf (.ref x)) (fun r s₁ => ∃ y u, r = .str y u ∧ Q r s₁) E s := by
      unfold PySem.Builtin.Str.strOf
      rw [show isExactStr (.ref x) = false from rfl]
      refine wpAny_bind (m := cRoomFor _ _) (wpAny_cRoomFor hu ?_)
      refine wpAny_bind (m := callSpecial? (.ref x) (Str.ofString "__str__")) (special_fn X I hs (beq_iff_eq.mp hf) (wpAny_mono h (fun r s' z => ?_) fun _ _ y => y))
      cases r <;> first | exact z.elim | exact wpAny_pure ⟨_, _, rfl, z⟩
    exact wpAny_bind (wpAny_mono key (fun r s₁ hr => wpAny_pure hr) fun _ _ y => y)
  · rintro obj s₁ ⟨y, u, rfl, hq⟩
    exact ⟨typeIs_str _ _ _, PySem.F.args_object_init_2 _ _, object_init_meets PySem.F.called_str.init.lookup PySem.F.called_str.made (by decide) prog w A.in1 _ s₁ ⟨typeIs_str _ _ _, rfl, hq⟩⟩
end
section
variable {X : Cx} {a : Expr} {wa : WE} {p p2 pos : Pos} {nm : Str} {k : Nat} {ps : List Str} {wf : WF}
theorem own_call1 {A : Around} {pins : List (Addr × Obj)} {σ : L2.St} {H : Hp} {s : Shared} {a : Addr} {f : Addr} {fd : FuncData} (F : FnOk X.prog X.w X.K X.mg X.base CX0 k f fd ps (spP X.K 1 wf)) (hb : Binds X.K fd ps []) (sb : L2.Sub X k A)
    (I : Inv X pins σ H s) {Q : V → Hp → Prop} (hsp : spP X.K 1 wf [.ref a] H Q fun _ _ _ => False) {R : Value → Shared → Prop} (hR : ∀ v s', (∃ z H', Inv X pins σ H' s' ∧ RelV z v ∧ Q z H') → R v s') :
    wpAny (model X.prog X.w) A (call (.ref f) [.ref a]) R X.xe s := by
  have e0 : Env0 X.prog X.w X.K X.mg X.base A X.stack s H := by
    have e := I.env0
    exact ⟨by rw [sb.fr]; exact e.frames, e.mod, e.bs, e.bsz, e.funs, e.frf, e.hok, e.bare⟩
  have hl := F.len _ _ _ _ hsp
  have r2 : Vals [V.ref a] [Value.ref a] := .cons rfl .nil
  refine wpAny_call (codeAny_mono (F.run A X.stack s H ⟨[.ref a], []⟩ [.ref a] [.ref a] _ _ sb.room e0 (by
    have := hb s [.ref a] I.kIn (by simpa using hl)
    simpa using this) r2 hsp) fun r s' hq => ?_)
  cases r with
  | error e => exact hq.elim
  | ok fl =>
    cases fl with
    | ret w =>
      obtain ⟨z, H', I', rz, q⟩ := I.after hq
      exact hR _ _ ⟨z, H', I', rz, q⟩
    | next => exact False.elim hq
    | brk => exact False.elim hq
    | cont => exact False.elim hq
def rStrO (K : PySem.W.Frag) (nm : Str) (wf : WF) : List V → Hp → VK → Prop := fun xs H Q => ∃ (a dx : Addr) (fs : List (Str × V)), xs = [.ref a] ∧ H a = some (.ins (He.ga K nm) dx fs) ∧ spP K 1 wf [.ref a] H (fun v H' => ∃ y, v = .str y ∧ Q (.str y) H') fun _ _ _ => False
theorem call_strO (C : CalM X.prog X.w X.K X.mg X.base k nm "__str__" ps (spP X.K 1 wf)) (hr : Room (k + 2) X.A) : CallR X (.type "str") (rStrO X.K nm wf) := by
  intro pins s σ H xs us Q I r h
  obtain ⟨a, dx, fs, rfl, ha, hsp⟩ := h
  obtain ⟨c, f, fd, F, hm, hb⟩ := C
  obtain ⟨u, rfl, ru⟩ := vals1 r
  cases ru
  obtain ⟨mA, J, _⟩ := ins_get I.hok ha
  obtain ⟨od, J, _⟩ := J.look
  refine str_own hr.in1.in1.units0 I.kIn J hm.at_ hm.fn ?_
  refine own_call1 F hb ⟨hr.in1.in1, rfl⟩ I hsp fun v s' ⟨z, H', I', rz, y, ez, q⟩ => ?_
  subst ez
  obtain ⟨t, rfl⟩ := rz
  exact ⟨.str y, H', I', ⟨t, rfl⟩, q⟩
def wStrO (nm : Str) (wf : WF) (wa : WE) : WE := fun en Q => wa en fun d e1 => ∃ ns ds y, d = obD nm ns ds ∧ (wf [d] fun z => z = .str y) ∧ Q (.str y) e1
theorem d_strO (C : CalM X.prog X.w X.K X.mg X.base k nm "__str__" ps (spP X.K 1 wf)) (hr : Room (k + 2) X.A) (hm : X.mg "str" = none) (ha : PE X a (lE X.K ζ wa)) (hg : Gl X "str" := by rfl)
    (he : starEach (a :: []) X.env = (false, eval a X.env) :: starEach [] X.env := by rfl) (hpl : (backTo pos (starEach [] X.env)).any (·.1) = false := by rfl) :
    PE X (.Call (.Name "str" p) [a] [] pos) (lE X.K ζ (wStrO nm wf wa)) :=
  (pe_callTy (call_strO C hr) hg hm (by decide +kernel) (pa_cons ha pa_nil he) (by decide) (by decide) he hpl).mo fun σ H Q ⟨G, en, I, Q', o, q, k⟩ => ⟨G, en, I, _, o, q, fun v H1 I1 e1 d o1 x1 dv ⟨ns, ds, y, hd, hw, q1⟩ => by
    subst hd
    obtain ⟨a, dx, vs, rfl, hc, hi, hl, hda⟩ := da_obj dv
    refine ⟨a, dx, _, rfl, o1.iH _ _ hi, I1, _, _, o1.iH, .cons dv .nil, rfl, hw, fun v H' I' d' g dv' hd => ?_⟩
    subst hd
    cases dv'
    exact ⟨y, rfl, k (.str y) H' I' e1 _ (o1.gr g) (x1.tr g.i) (.str y) q1⟩⟩
end
/-! ### f-strings -/
section
variable {X : Cx} {e : Expr} {wa : WE} {pos : Pos}
def wFmt (wa : WE) : WE := fun en Q => wa en fun d e1 => (∃ y : Str, d = .str y ∧ y.length ≤ sizeLine ∧ Q (.str y) e1) ∨ ∃ i : Int, d = .int i ∧ i.natAbs.log2 < 1920 ∧ Q (.str (toString i)) e1
theorem d_fmt (h : PE X e (lE X.K ζ wa)) : PE X (.FormattedValue e (-1) none pos) (lE X.K ζ (wFmt wa)) :=
  (pe_fmt h).mo fun σ H Q ⟨G, en, I, Q', o, q, k⟩ => ⟨G, en, I, _, o, q, fun v H1 I1 e1 d o1 x1 dv q1 => by
    rcases q1 with ⟨y, rfl, hz, q⟩ | ⟨i, rfl, hz, q⟩
    · cases dv
      exact Or.inl ⟨y, rfl, hz, k _ H1 I1 e1 _ o1 x1 (.str y) q⟩
    · cases dv
      exact Or.inr ⟨i, rfl, hz, k _ H1 I1 e1 _ o1 x1 (.str _) q⟩⟩
def wJn : List WE → Str → WE
  | [], acc => fun en Q => Q (.str acc) en
  | w :: ws, acc => fun en Q => w en fun d e1 => ∃ y : Str, d = .str y ∧ (acc ++ y).length ≤ sizeLine ∧ wJn ws (acc ++ y) e1 Q
theorem jn_run {K : PySem.W.Frag} : ∀ (ws : List WE) (acc : Str) (σ : Sg) (H : Hp) (Q : VK), lE K ζ (wJn ws acc) σ H Q → tJs (ws.map (lE K ζ)) acc σ H fun out H1 => Q (.str out) H1
  | [], acc, σ, H, Q, ⟨G, en, I, Q', o, q, k⟩ => k (.str acc) H I en _ o (Ex.rf I) (.str acc) q
  | w :: ws, acc, σ, H, Q, ⟨G, en, I, Q', o, q, k⟩ => ⟨G, en, I, _, o, q, fun v H1 I1 e1 d o1 x1 dv ⟨y, hy, hz, q1⟩ => by
    subst hy
    cases dv
    exact ⟨y, rfl, hz, jn_run ws (acc ++ y) σ H1 Q ⟨G, e1, I1, Q', o1, q1, fun v H2 I2 e2 d o2 x2 dv q2 => k v H2 I2 e2 d o2 (x1.tr x2) dv q2⟩⟩⟩
/-- the parts of an f-string -/
inductive PJD (X : Cx) (ζ : Zt) : List Expr → List WE → Prop where
  | nil : PJD X ζ [] []
  | cons {e : Expr} {w : WE} {es : List Expr} {ws : List WE} (h : PE X e (lE X.K ζ w)) (r : PJD X ζ es ws) : PJD X ζ (e :: es) (w :: ws)
theorem PJD.pj : ∀ {es : List Expr} {ws : List WE}, PJD X ζ es ws → PJ X es (ws.map (lE X.K ζ))
  | _, _, .nil => .nil
  | _, _, .cons h r => .cons h r.pj
def wFS (ws : List WE) : WE := wJn ws Str.empty
theorem d_fs {v1 v2 : Expr} {rest : List Expr} {ws : List WE} (h : PJD X ζ (v1 :: v2 :: rest) ws) : PE X (.JoinedStr (v1 :: v2 :: rest) pos) (lE X.K ζ (wFS ws)) :=
  (pe_joined h.pj).mo fun σ H Q q => jn_run ws Str.empty σ H Q q
end
end Pd

set_option Elab.async false
set_option linter.all false
set_option maxRecDepth 100000
set_option maxHeartbeats 4000000
/-! a, b, c = x, y, z. -/
namespace Pd
open PySem PySem.Spec PyProof.Rows L2
section
variable {X : Cx}
def wPar3 (i j l : Nat) (wa wb wc : WE) : WS := fun R en => wa en fun x e1 => wb e1 fun y e2 => wc e2 fun z e3 => i ≠ 0 ∧ j ≠ 0 ∧ l ≠ 0 ∧ R.nx (((e3.set i (.imm x)).set j (.imm y)).set l (.imm z))
theorem s_par3 {i j l : Nat} {wa wb wc : WE} {s : Stmt} (h : PS X s (tPar3 i j l (tCons (lE X.K ζ wa) (tCons (lE X.K ζ wb) (tCons (lE X.K ζ wc) tNil))))) : PS X s (lS X.K ζ (wPar3 i j l wa wb wc)) :=
  h.mo fun R σ H ⟨G, en, I, R', o, q, k⟩ => ⟨G, en, I, _, o, q, fun v H1 I1 e1 d o1 x1 dv q1 => ⟨G, e1, I1, _, o1, q1, fun u H2 I2 e2 d2 o2 x2 du q2 => ⟨G, e2, I2, _, o2, q2, fun t H3 I3 e3 d3 o3 x3 dt ⟨h1, h2, h3, q3⟩ =>
    ⟨v, u, t, rfl, k.1 _ H3 I3 _ (((o3.put ((dv.up x2).up x3) (Or.inl h1)).put (du.up x3) (Or.inl h2)).put dt (Or.inl h3)) q3⟩⟩⟩⟩
end
end Pd

set_option Elab.async false
set_option linter.all false
set_option maxRecDepth 100000
set_option maxHeartbeats 4000000
/-! is not, of two bools -/
namespace Pd
open PySem PySem.Spec PyProof.Rows L2
section
variable {K : PySem.W.Frag} {X : Cx}
def rIsNotB : R2 := fun x y H Q => ∃ a b, x = .bl a ∧ y = .bl b ∧ Q (.bl (!(a == b))) H
theorem op_isNotB : OpR X (compareOp .IsNot) rIsNotB := by
  intro pins s σ H x y v u Q I rx ry h
  obtain ⟨a, b, rfl, rfl, q⟩ := h
  cases rx; cases ry
  refine wpAny_isNot_plain rfl ?_
  refine ⟨.bl (!(a == b)), H, I, ?_, q⟩
  show Value.bool (!(Value.bool a == Value.bool b)) = Value.bool (!(a == b))
  cases a <;> cases b <;> rfl
def dIsNotB : D → D → D → Prop := fun x y z => ∃ a b, x = .bool a ∧ y = .bool b ∧ z = .bool (!(a == b))
theorem snd_isNotB : SndOp K rIsNotB dIsNotB := by
  rintro H I x y d e z iH hx hy ⟨a, b, rfl, rfl, rfl⟩ Q k
  cases hx; cases hy
  exact ⟨a, b, rfl, rfl, k _ H I (Gr.rf iH) (.bl _)⟩
theorem i_isNotB {a b : Bool} {z : D} : dIsNotB (.bool a) (.bool b) z ↔ z = .bool (!(a == b)) := ⟨fun ⟨_, _, e1, e2, h⟩ => by cases e1; cases e2; exact h, fun h => ⟨_, _, rfl, rfl, h⟩⟩
end
section
variable {P : Program} {w : World} {K : PySem.W.Frag} {mg : Str → Option Value} {base : Heap} {x qual : Str} {params : Arguments} {body : List Stmt} {scope : Scope} {f : Addr} {fd : FuncData} {N ps : List Str} {n : Nat}
theorem fn_noJ (F : FunD K x qual params body scope [] [] f fd) (S : FnScope N ps scope) (hn : ps.length = n) (k : Nat) : FnOk P w K mg base CX0 (k + 1) f fd ps (spJ K n fun _ _ _ => False) :=
  fnJ (ws := wNever) F S hn (fun cdv A outer s H E hr => ss_never) fun dj ds Q' _ h => h.elim
end
end Pd

set_option Elab.async false
set_option linter.all false
set_option maxRecDepth 100000
set_option maxHeartbeats 4000000
/-! t[:1:-1], t a tuple of four -/
namespace Pd
open PySem PySem.Spec PyProof.Rows L2
section
variable {prog : Program} {w : World} {A : Around} {E : Value → Shared → Prop} {s : Shared}
theorem tupBack1 {t sl : Addr} {items : Array Value} {vu vs : Value} {a b c d : Value} {Q : Value → Shared → Prop} (ht : IsTup s.heap t items) (he : items = #[a, b, c, d]) (hs : s.heap.IsSliceOf sl .none vu vs) (pu : IsPart vu (some 1)) (ps : IsPart vs (some (-1)))
    (h : Q (.ref s.heap.objs.size) { s with heap := s.heap.push { cls := .type "tuple", data := .seq #[d, c] } }) : wpAny (model prog w) A (getItem (.ref t) (.ref sl)) Q E s := by
  subst he
  have hz : sizeOk (.seq #[d, c]) := by
    show 2 ≤ sizeLine
    decide
  obtain ⟨os, hos, hcs, hds⟩ := id hs
  have hTs : s.TypeIs (.ref sl) "slice" := ⟨os, hos, hcs⟩
  cases ps with
  | int i u =>
    cases pu with
    | int j v =>
      unfold getItem
      try with_reducible refine wpAny_holding ?_
      first | refine wpAny_bind (wpAny_pure ?_) | skip
      refine wpAny_bind (wpAny_sequenceKey ht.typeIs (by decide) ?_)
      refine wpAny_bind (wpAny_callSpecial?_slot (name := Str.ofString "__getitem__") ht.typeIs PyProof.Rows.slot_tuple_getitem (wpAny_call_entry PyProof.Rows.slot_tuple_getitem ht.typeIs entry_tuple_getitem ?_ (args_tuple_getitem _ _)))
      show wpAny _ _ (Builtin.Tuple.tupleItemsOf (.ref t) >>= _) _ _ s
      refine wpAny_bind (tupleItemsOf_ ht (wpAny_bind (wpAny_typeOf hTs ?_)))
      rw [if_pos (by decide)]
      have ap : ∀ {Q : Int × Int × Nat → Shared → Prop}, Q (3, -1, 2) s → wpAny (model prog w) (A.in1) (Builtin.Slice.sliceApplied (.ref sl) (pure (4 : Int))) Q E s := fun {Q} q => by
        unfold Builtin.Slice.sliceApplied Builtin.Slice.sliceFields
        refine wpAny_bind (wpAny_bind (wpAny_field hos hds (x := .none) rfl (wpAny_bind (wpAny_field hos hds (x := .int 1 v) rfl (wpAny_bind (wpAny_field hos hds (x := .int (-1) u) rfl (wpAny_pure ?_)))))))
        refine wpAny_bind (HT.slicePart_ (.int (-1) u) ?_)
        show wpAny _ _ (if ((-1 : Int) == 0) = true then _ else _) _ _ s
        rw [if_neg (by decide)]
        refine wpAny_bind (HT.slicePart_ .none (wpAny_bind (HT.slicePart_ (.int 1 v) (wpAny_bind (wpAny_pure ?_)))))
        show wpAny _ _ (match Builtin.Slice.sliceAdjust none (some 1) (-1) (4 : Int) with | (lo, hi) => pure (lo, (-1 : Int), Builtin.Slice.slicePlaces lo hi (-1))) _ _ s
        have e1 : Builtin.Slice.sliceAdjust none (some 1) (-1) (4 : Int) = (3, 1) := by decide
        rw [e1]
        show wpAny _ _ (pure ((3 : Int), (-1 : Int), Builtin.Slice.slicePlaces 3 1 (-1))) _ _ s
        have e2 : Builtin.Slice.slicePlaces 3 1 (-1) = 2 := by decide
        rw [e2]; exact wpAny_pure q
      refine wpAny_bind (ap ?_)
      show wpAny _ _ (if ((3 : Int) == 0 && (-1 : Int) == 1 && 2 == 4) = true then _ else _) _ _ s
      rw [if_neg (by decide)]
      first
        | exact wpAny_bind (m := Builtin.Tuple.tupleExact _) (wpAny_newObj_type (wpAny_pure ⟨_, rfl, wpAny_pure h⟩) hz)
        | exact wpAny_bind (m := Builtin.Tuple.tupleExact _) (wpAny_newObj_type (wpAny_bind (wpAny_pure (wpAny_pure ⟨_, rfl, wpAny_pure h⟩))) hz)
        | exact wpAny_bind (wpAny_bind (m := Builtin.Tuple.tupleExact _) (wpAny_newObj_type (wpAny_pure (wpAny_pure ⟨_, rfl, wpAny_pure h⟩)) hz))
        | exact wpAny_bind (wpAny_bind (m := Builtin.Tuple.tupleExact _) (wpAny_newObj_type (wpAny_pure ⟨_, rfl, wpAny_pure h⟩) hz))
end
section
variable {X : Cx} {a : Expr} {wa : WE}
def tRevT1 (K : PySem.W.Frag) (te : TE) : TE := fun σ H Q => te σ H fun x H1 => ∃ (t : Addr) (x1 x2 x3 x4 : V), x = .ref t ∧ SqT K H1 t [x1, x2, x3, x4] ∧ ∀ p, H1 p = none → Q (.ref p) (upd H1 p (.tup [x4, x3]))
theorem pe_revT1 {e : Expr} {te : TE} {k k2 : Nat} {p0 p1 p2 p3 pos : Pos} (he : PE X e te) : PE X (.Subscript e (.Slice none (some (.Constant (.int 1) k2 p0)) (some (.UnaryOp .USub (.Constant (.int 1) k p1) p2)) p3) pos) (tRevT1 X.K te) := by
  refine ⟨fun pins s σ H Q I h => Subscript_ (thn (he.run pins s σ H _ I h) fun v s1 ⟨x, H1, I1, r1, a, x1, x2, x3, x4, ex, hx, q⟩ => ?_)⟩
  subst ex; cases r1
  have hst : PO X (some (.UnaryOp .USub (.Constant (.int 1) k p1) p2)) (tPart (tUn (rU fun i => .int (-i)) (tC (.int 1)))) := po_some (pe_un un_neg pe_int)
  have hup : PO X (some (.Constant (.int 1) k2 p0)) (tPart (tC (.int 1))) := po_some pe_int
  refine wpAny_Slice (thn (po_none.run pins s1 σ H1 (fun o H2 => o = none ∧ H2 = H1) I1 ⟨rfl, rfl⟩) fun vl s2 ⟨l, H2, I2, pl, el, e2⟩ => ?_)
  subst el e2; refine thn (hup.run pins s2 σ H2 (fun o H3 => o = some 1 ∧ H3 = H2) I2 ⟨1, rfl, rfl, rfl⟩) fun vu s3 ⟨u, H3, I3, pu, eu, e3⟩ => ?_
  subst eu e3; refine thn (hst.run pins s3 σ H3 (fun o H4 => o = some (-1) ∧ H4 = H3) I3 ⟨1, rfl, -1, rfl, rfl, rfl⟩) fun vs s4 ⟨o, H4, I4, ps, eo, e4⟩ => ?_
  subst eo e4
  have I5 : Inv X pins σ H4 { s4 with heap := s4.heap.push { cls := .type "slice", data := .fields #[vl, vu, vs] } } := I4.kept (t' := s4.toks) fun b ob q => Heap.get?_push_of_some _ q
  obtain ⟨its, r, ht, hz⟩ := I5.tuple hx
  obtain ⟨v1, r1', rfl, hv1, r1⟩ : ∃ v r, its = v :: r ∧ RelV x1 v ∧ Vals [x2, x3, x4] r := by cases r with | cons a b => exact ⟨_, _, rfl, a, b⟩
  obtain ⟨v2, r2', rfl, hv2, r2⟩ : ∃ v r, r1' = v :: r ∧ RelV x2 v ∧ Vals [x3, x4] r := by cases r1 with | cons a b => exact ⟨_, _, rfl, a, b⟩
  obtain ⟨v3, r3', rfl, hv3, r3⟩ : ∃ v r, r2' = v :: r ∧ RelV x3 v ∧ Vals [x4] r := by cases r2 with | cons a b => exact ⟨_, _, rfl, a, b⟩
  obtain ⟨v4, r4', rfl, hv4, r4⟩ : ∃ v r, r3' = v :: r ∧ RelV x4 v ∧ Vals [] r := by cases r3 with | cons a b => exact ⟨_, _, rfl, a, b⟩
  cases r4
  show wpAny (model X.prog X.w) X.A (subscriptTail e (.Slice none (some (.Constant (.int 1) k2 p0)) (some (.UnaryOp .USub (.Constant (.int 1) k p1) p2)) p3) (.ref a) (.ref s4.heap.objs.size)) (EP X pins σ Q) X.xe { s4 with heap := s4.heap.push { cls := .type "slice", data := .fields #[vl, vu, vs] } }
  refine tail_any (ops := [.ref a, .ref s4.heap.objs.size]) ht.typeIs (PyProof.Rows.slot_tuple_getitem.lookup) ?_ (by with_unfolding_all rfl)
  cases pl
  refine tupBack1 ht rfl (Heap.IsSliceOf.new _ .none vu vs) pu ps ?_
  refine ⟨.ref _, _, I5.laid (t' := s4.toks) (o := .tup [x4, x3]) (fun b ob q => Heap.get?_push_of_some _ q) (Nat.le_refl _) ⟨by show 2 ≤ sizeLine; decide, [v4, v3], .cons hv4 (.cons hv3 .nil), IsTup.new _ _⟩, rfl, q _ (I5.hok.fresh (Nat.le_refl _))⟩
def wRevT1 (wa : WE) : WE := fun en Q => wa en fun d e1 => ∃ a b c e, d = .tuple [a, b, c, e] ∧ Q (.tuple [e, c]) e1
theorem d_revT1 {k k2 : Nat} {p0 p1 p2 p3 pos : Pos} (ha : PE X a (lE X.K ζ wa)) : PE X (.Subscript a (.Slice none (some (.Constant (.int 1) k2 p0)) (some (.UnaryOp .USub (.Constant (.int 1) k p1) p2)) p3) pos) (lE X.K ζ (wRevT1 wa)) :=
  (pe_revT1 ha).mo fun σ H Q ⟨G, en, I, Q', o, q, k⟩ => ⟨G, en, I, _, o, q, fun v H1 I1 e1 d o1 x1 dv ⟨a, b, c, e, hd, q1⟩ => by
    subst hd
    cases dv with
    | tup hs ha =>
      cases ha with
      | cons h1 t1 => cases t1 with
        | cons h2 t2 => cases t2 with
          | cons h3 t3 => cases t3 with
            | cons h4 t4 =>
              cases t4
              rename_i y1 y2 y3 y4
              refine ⟨_, _, _, _, _, rfl, sqt_ex o1.iH hs, fun p hp => ?_⟩
              obtain ⟨o2, x2⟩ := o1.new (u := .tup _) hp
              exact k (.ref p) _ _ e1 _ o2 (x1.tr x2) (.tup (SqT.of upd_same) (.cons (h4.up x2) (.cons (h3.up x2) .nil))) q1⟩
end
end Pd

set_option Elab.async false
set_option linter.all false
set_option maxRecDepth 100000
set_option maxHeartbeats 4000000
/-! x != s, x any data or an empty dict, s a str -/
namespace Pd
open PySem PySem.Spec PyProof.Rows L2 PySem.SeqAt MeetsSeq
section
variable {K : PySem.W.Frag} {X : Cx}
theorem str_ne_declines_dict (b : Str) (u : Tok) (l : Addr) (o : Obj) {es n} (hd : o.data = .dict es n) :
    Meets (Builtin.«str.__ne__» ⟨[.str b u, .ref l], []⟩) (fun _ R s => s.heap.get? l = some o ∧ R (.ok (.ret .notImplemented)) s) :=
  .of_wp fun prog w A R s h => by obtain ⟨hp, g, d, tk, os⟩ := s; obtain ⟨hl, h⟩ := h; obtain ⟨cls, dd, data, sl⟩ := o; cases hd; wp_walk using wpAny_loadPart' hl, wpAny_load hl; exact ⟨_, rfl, h⟩
theorem dict_ne_declines {prog : Program} {w : World} {A : Around} {E : Value → Shared → Prop} {Q : Value → Shared → Prop} {s : Shared} {L : Type} [DecidableEq L] {knd : KeyKind prog w L} {a : Addr} {ka : List (L × Value)} (b : Str) (u : Tok) (da : s.heap.DictOf knd a ka) (h : Q .notImplemented s) :
    wpAny (model prog w) A (call (.builtin "dict.__ne__") [.ref a, .str b u]) Q E s := by
  refine wpAny_call_entry PySem.F.slot_dict_ne da.typeIs PySem.F.entry_dict_ne ?_ (PySem.F.args_dict_ne_2 _ _)
  show wpAny _ _ (Builtin.Dict.dictSlotArgs "__ne__" ⟨[.ref a, .str b u], []⟩ >>= _) _ _ s
  refine wpAny_bind ?_
  unfold Builtin.Dict.dictSlotArgs
  refine wpAny_bind (wpAny_notOrdered_dict da.typeIs ?_)
  show wpAny _ _ (pure (Value.ref a, Value.str b u)) _ _ s
  refine wpAny_pure ?_
  refine wpAny_bind (wpAny_isInstance (T := "str") (typeIs_str s b u) PySem.F.sub_str_dict ?_)
  simp only [Bool.not_true, Bool.not_false, Bool.false_eq_true, if_false, if_true]
  first
    | exact wpAny_bind (wpAny_rule (wpAny_pure ⟨_, rfl, h⟩))
    | exact wpAny_bind (wpAny_pure (wpAny_pure ⟨_, rfl, h⟩))
    | (wp_walk; exact ⟨_, rfl, h⟩)
theorem RcNeAt.dict_str {prog : Program} {w : World} {A : Around} {E : Value → Shared → Prop} {Q : Value → Shared → Prop} {s : Shared} {L : Type} [DecidableEq L] {knd : KeyKind prog w L} {a : Addr} {ka : List (L × Value)} (b : Str) (u : Tok) (da : s.heap.DictOf knd a ka) (hu : A.units < cLine) (h : Q (.bool true) s) :
    wpAny (model prog w) A (compareOp .NotEq (.ref a) (.str b u)) Q E s := by
  obtain ⟨o, es, ep, ho, r⟩ := id da
  have hd : o.data = .dict es ep := r.2.1
  exact rc_ne_decline_or (k := false) da.typeIs (typeIs_str s b u) (by decide) PySem.F.sub_str_dict PySem.F.slot_dict_ne PySem.F.slot_str_ne_refl
    (fun _ hq => dict_ne_declines b u da hq)
    (fun _ hq => call_meets PySem.F.slot_str_ne_refl (typeIs_str s b u) PySem.F.entry_str_ne (PySem.F.args_str_ne_2 _ _) (str_ne_declines_dict b u a o hd) ⟨ho, hq⟩)
    (fun _ hq => wpAny_of_eq (rfl : isSame (.ref a) (.str b u) = pure false) hq) (.inr hu) h
def rNeStr : R2 := fun x y H Q => ∃ a s, x = .ref a ∧ y = .str s ∧ H a = some (.dK []) ∧ Q (.bl true) H
theorem op_neStr (hu : X.A.units < cLine) : OpR X (compareOp .NotEq) rNeStr := by
  intro pins s σ H x y v u Q I rx ry h
  obtain ⟨a, t, rfl, rfl, ea, q⟩ := h
  obtain rfl : v = Value.ref a := rx
  obtain ⟨tk, rfl⟩ : ∃ tk, u = Value.str t tk := ry
  obtain ⟨_, ya, va, ra, da⟩ := (show ObjOk X.prog X.w H s.heap a (.dK []) from I.hok a _ ea)
  exact RcNeAt.dict_str t tk da hu ⟨.bl true, H, I, rfl, q⟩
def rNeS (K : PySem.W.Frag) : R2 := fun x y H Q => rNeD K x y H Q ∨ rNeStr x y H Q
theorem op_neS (hu : X.A.units + 64 < cLine) : OpR X (compareOp .NotEq) (rNeS X.K) := (op_neD hu).or (op_neStr (by omega))
/-- x is laid, or {}; y a str -/
def dNeS : D → D → D → Prop := fun x y z => dNe x y z ∨ ∃ s, x = .dict [] ∧ y = .str s ∧ z = .bool true
theorem snd_neS : SndOp K (rNeS K) dNeS := by
  rintro H I x y d e z iH hx hy h Q k
  rcases h with h | ⟨s, rfl, rfl, rfl⟩
  · exact Or.inl (snd_ne H I x y d e z iH hx hy h Q k)
  · cases hx
    cases hy
    rename_i a ha
    exact Or.inr ⟨a, s, rfl, rfl, iH a _ ha, k _ H I (Gr.rf iH) (.bl _)⟩
end
end Pd

set_option Elab.async false
set_option linter.all false
set_option maxRecDepth 100000
set_option maxHeartbeats 4000000
/-! x == s, x any data or an empty dict, s a str -/
namespace Pd
open PySem PySem.Spec PyProof.Rows L2 PySem.SeqAt MeetsSeq
section
variable {K : PySem.W.Frag} {X : Cx}
theorem str_eq_declines_dict (b : Str) (u : Tok) (l : Addr) (o : Obj) {es n} (hd : o.data = .dict es n) :
    Meets (Builtin.«str.__eq__» ⟨[.str b u, .ref l], []⟩) (fun _ R s => s.heap.get? l = some o ∧ R (.ok (.ret .notImplemented)) s) :=
  .of_wp fun prog w A R s h => by obtain ⟨hp, g, d, tk, os⟩ := s; obtain ⟨hl, h⟩ := h; obtain ⟨cls, dd, data, sl⟩ := o; cases hd; wp_walk using wpAny_loadPart' hl, wpAny_load hl; exact ⟨_, rfl, h⟩
theorem dict_eq_declines {prog : Program} {w : World} {A : Around} {E : Value → Shared → Prop} {Q : Value → Shared → Prop} {s : Shared} {L : Type} [DecidableEq L] {knd : KeyKind prog w L} {a : Addr} {ka : List (L × Value)} (b : Str) (u : Tok) (da : s.heap.DictOf knd a ka) (h : Q .notImplemented s) :
    wpAny (model prog w) A (call (.builtin "dict.__eq__") [.ref a, .str b u]) Q E s := by
  refine wpAny_call_entry PySem.F.slot_dict_eq da.typeIs PySem.F.entry_dict_eq ?_ (PySem.F.args_dict_eq_2 _ _)
  show wpAny _ _ (Builtin.Dict.dictSlotArgs "__eq__" ⟨[.ref a, .str b u], []⟩ >>= _) _ _ s
  refine wpAny_bind ?_
  unfold Builtin.Dict.dictSlotArgs
  refine wpAny_bind (wpAny_notOrdered_dict da.typeIs ?_)
  show wpAny _ _ (pure (Value.ref a, Value.str b u)) _ _ s
  refine wpAny_pure ?_
  refine wpAny_bind (wpAny_isInstance (T := "str") (typeIs_str s b u) PySem.F.sub_str_dict ?_)
  simp only [Bool.not_true, Bool.not_false, Bool.false_eq_true, if_false, if_true]
  first
    | exact wpAny_bind (wpAny_rule (wpAny_pure ⟨_, rfl, h⟩))
    | exact wpAny_bind (wpAny_pure (wpAny_pure ⟨_, rfl, h⟩))
    | (wp_walk; exact ⟨_, rfl, h⟩)
theorem RcAt.dict_str {prog : Program} {w : World} {A : Around} {E : Value → Shared → Prop} {Q : Value → Shared → Prop} {s : Shared} {L : Type} [DecidableEq L] {knd : KeyKind prog w L} {a : Addr} {ka : List (L × Value)} (b : Str) (u : Tok) (da : s.heap.DictOf knd a ka) (hu : A.units < cLine) (h : Q (.bool false) s) :
    wpAny (model prog w) A (compareOp .Eq (.ref a) (.str b u)) Q E s := by
  obtain ⟨o, es, ep, ho, r⟩ := id da
  have hd : o.data = .dict es ep := r.2.1
  exact rc_eq_decline_or (k := false) da.typeIs (typeIs_str s b u) (by decide) PySem.F.sub_str_dict PySem.F.slot_dict_eq PySem.F.slot_str_eq_refl
    (fun _ hq => dict_eq_declines b u da hq)
    (fun _ hq => call_meets PySem.F.slot_str_eq_refl (typeIs_str s b u) PySem.F.entry_str_eq (PySem.F.args_str_eq_2 _ _) (str_eq_declines_dict b u a o hd) ⟨ho, hq⟩)
    (fun _ hq => wpAny_of_eq (rfl : isSame (.ref a) (.str b u) = pure false) hq) (.inr hu) h
def rEqStr : R2 := fun x y H Q => ∃ a s, x = .ref a ∧ y = .str s ∧ H a = some (.dK []) ∧ Q (.bl false) H
theorem op_eqStr (hu : X.A.units < cLine) : OpR X (compareOp .Eq) rEqStr := by
  intro pins s σ H x y v u Q I rx ry h
  obtain ⟨a, t, rfl, rfl, ea, q⟩ := h
  obtain rfl : v = Value.ref a := rx
  obtain ⟨tk, rfl⟩ : ∃ tk, u = Value.str t tk := ry
  obtain ⟨_, ya, va, ra, da⟩ := (show ObjOk X.prog X.w H s.heap a (.dK []) from I.hok a _ ea)
  exact RcAt.dict_str t tk da hu ⟨.bl false, H, I, rfl, q⟩
def rEqS (K : PySem.W.Frag) : R2 := fun x y H Q => rEqD K x y H Q ∨ rEqStr x y H Q
theorem op_eqS (hu : X.A.units + 64 < cLine) : OpR X (compareOp .Eq) (rEqS X.K) := (op_eqD hu).or (op_eqStr (by omega))
/-- x is laid, or {}; y a str -/
def dEqS : D → D → D → Prop := fun x y z => dEq x y z ∨ ∃ s, x = .dict [] ∧ y = .str s ∧ z = .bool false
theorem snd_eqS : SndOp K (rEqS K) dEqS := by
  rintro H I x y d e z iH hx hy h Q k
  rcases h with h | ⟨s, rfl, rfl, rfl⟩
  · exact Or.inl (snd_eq H I x y d e z iH hx hy h Q k)
  · cases hx
    cases hy
    rename_i a ha
    exact Or.inr ⟨a, s, rfl, rfl, iH a _ ha, k _ H I (Gr.rf iH) (.bl _)⟩
end
end Pd

set_option Elab.async false
set_option linter.all false
set_option maxRecDepth 100000
set_option maxHeartbeats 4000000
/-! not x as a value, by truth of any data -/
namespace Pd
open PySem PySem.Spec PyProof.Rows L2
section
variable {X : Cx} {a : Expr} {pos : Pos} {wa : WE}
def wNotT (wa : WE) : WE := fun en Q => wa en fun d e1 => ∃ c, Tru d c ∧ Q (.bool (!c)) e1
def tNT (K : PySem.W.Frag) (ta : TE) : TE := fun σ H Q => ta σ H fun x H1 => ∃ k, TruV K x H1 k ∧ Q (.bl (!k)) H1
theorem pe_nt {ta : TE} (ha : PE X a ta) : PE X (.UnaryOp .Not a pos) (tNT X.K ta) := ⟨fun pins s σ H Q I h => UnaryOp_ (thn (ha.run pins s σ H _ I h) fun v s1 ⟨x, H1, I1, r1, k, e, q1⟩ =>
  not_of (thn (tru_ok pins s1 σ H1 x v (fun c H2 => Q (.bl (!c)) H2) I1 r1 ⟨k, e, q1⟩) fun c s2 ⟨H2, I2, q2⟩ => ⟨.bl (!c), H2, I2, rfl, q2⟩))⟩
theorem d_notT (ha : PE X a (lE X.K ζ wa)) : PE X (.UnaryOp .Not a pos) (lE X.K ζ (wNotT wa)) :=
  (pe_nt ha).mo fun σ H Q ⟨G, en, I, Q', o, q, k⟩ => ⟨G, en, I, _, o, q, fun v H1 I1 e1 d o1 x1 dv ⟨c, hc, q1⟩ => ⟨c, by
    cases dv with
    | non => exact hc
    | bl b => exact hc
    | int i => exact hc
    | dic h => exact hc.elim
    | obj _ h _ _ => exact hc.elim
    | str x => exact hc
    | lst hs ha =>
      have h2 : c = !_ := hc
      exact Or.inl ⟨_, SqL.of (o1.iH _ _ hs), by rw [dpa_emp ha]; exact h2⟩
    | tup hs ha =>
      have h2 : c = !_ := hc
      exact Or.inr (Or.inl ⟨_, sqt_ex o1.iH hs, by rw [dpa_emp ha]; exact h2⟩), k (.bl (!c)) H1 I1 e1 _ o1 x1 (.bl _) q1⟩⟩
end
end Pd

set_option Elab.async false
set_option linter.all false
set_option maxRecDepth 100000
set_option maxHeartbeats 4000000
/-! Exceptions over data: a def that raises, its calls, raise. -/
namespace Pd
open PySem PySem.Spec PyProof.Rows L2
/-- an exception: the name of its class, its fields -/
structure Exc where
  nm : Str
  ns : List Str := []
  ds : List D := []
def ExcD (K : PySem.W.Frag) (I : Hp) (cls : Value) (d : Option Addr) (e : Exc) : Prop := cls = .ref (He.ga K e.nm) ∧ ((e.ns = [] ∧ e.ds = []) ∨
  ∃ dx vs, d = some dx ∧ I dx = some (.xd (e.ns.zip vs)) ∧ e.ns.length = vs.length ∧ DaAll K I vs e.ds)
theorem ExcD.up {K : PySem.W.Frag} {I I' : Hp} {cls : Value} {d : Option Addr} {e : Exc} (h : ExcD K I cls d e) (x : Ex I I') : ExcD K I' cls d e := by
  obtain ⟨h1, h2⟩ := h
  refine ⟨h1, ?_⟩
  rcases h2 with h2 | ⟨dx, vs, h3, h4, h5, h6⟩
  · exact Or.inl h2
  · exact Or.inr ⟨dx, vs, h3, x _ _ h4, h5, h6.up x⟩
/-- what an exception that leaves has to be -/
def wxOf (K : PySem.W.Frag) (ζ : Zt) (R : Exc → En → Prop) : WX := fun cls d σ H' => ∃ en' I' e, ζ.Z σ en' H' I' ∧ ExcD K I' cls d e ∧ R e en'
abbrev WFX := List D → (D → Prop) → (Exc → Prop) → Prop
/-- behind a call: the heap grown by what is new -/
def spX (K : PySem.W.Frag) (n : Nat) (wf : WFX) : Sp := fun vs H Q E => ∃ (I : Hp) (ds : List D) (Q' : D → Prop) (R' : Exc → Prop), Ex I H ∧ DaAll K I vs ds ∧ ds.length = n ∧ wf ds Q' R' ∧
  (∀ v H' I' d, Gr H I H' I' → Da K I' v d → Q' d → Q v H') ∧ (∀ cls d H' I' e, Gr H I H' I' → ExcD K I' cls d e → R' e → E cls d H')
theorem Gr.core {K : PySem.W.Frag} {ζ : Zt} {σ : Sg} {en : En} {H I H' I' : Hp} (ht : ζ.T = []) (c : Core K ζ H I none σ en H' I') : Gr H I H' I' := by
  have nt : ∀ a, ¬ isTb ζ a := fun a h => by unfold isTb at h; rw [ht] at h; cases h
  refine ⟨fun a u q => c.fr a u q (by simp) (nt a), c.i0, c.iH, fun a h1 h2 => ?_⟩
  cases q : H a with
  | none => rfl
  | some u => exact absurd (c.nw a (by rw [q]; simp) h2) h1
section
variable {P : Program} {w : World} {K : PySem.W.Frag} {mg : Str → Option Value} {base : Heap} {x qual : Str} {params : Arguments} {body : List Stmt} {scope : Scope} {f : Addr} {fd : FuncData} {N ps : List Str} {k : Nat}
theorem enP_get {N : List Str} {vs : List V} {ds : List D} {I H : Hp} (h2 : DaAll K I vs ds) : ∀ (i : Nat) (s : Sl), (enP N ds)[i]? = some s → SlOk K I H (L2.start N vs)[i]? s := fun i s hs => by
  have hl : vs.length = ds.length := dpa_len h2
  unfold enP at hs
  by_cases hi : i < ds.length
  · rw [List.getElem?_append_left (by rw [List.length_map]; exact hi), List.getElem?_map] at hs
    cases q : ds[i]? with
    | none => rw [q] at hs; cases hs
    | some d =>
      rw [q] at hs
      cases hs
      obtain ⟨v, hv, dv⟩ := dpa_get h2 q
      refine ⟨v, ?_, dv⟩
      unfold L2.start
      rw [List.getElem?_append_left (by rw [List.length_map, hl]; exact hi), List.getElem?_map, hv]
      rfl
  · rw [List.getElem?_append_right (by rw [List.length_map]; omega), List.getElem?_replicate] at hs
    split at hs
    · cases hs; trivial
    · cases hs
theorem enP_no {N : List Str} {vs : List V} {ds : List D} : ∀ (i : Nat) (l : Addr), ¬ OwnAt (L2.start N vs) (enP N ds) i l := fun i l ⟨q1, es, q2⟩ => by
  unfold enP at q2
  by_cases hi : i < ds.length
  · rw [List.getElem?_append_left (by rw [List.length_map]; exact hi), List.getElem?_map] at q2
    cases q : ds[i]? with
    | none => rw [q] at q2; cases q2
    | some d => rw [q] at q2; cases q2
  · rw [List.getElem?_append_right (by rw [List.length_map]; omega), List.getElem?_replicate] at q2
    split at q2
    · cases q2
    · cases q2
/-- a def that may raise -/
theorem fnX {wf : WFX} {ws : (Exc → En → Prop) → WS} (F : FunD K x qual params body scope [] [] f fd) (S : FnScope N ps scope)
    (hb : ∀ (ζ : Zt) (R : Exc → En → Prop) (cdv : Value) (A : Around) (outer : List Env) (s : Shared) (H : Hp) (E : XK), Takes (cxOf (L2.CX P w) P w K mg base N qual scope f cdv A outer s H E) (wxOf K ζ R) → PassesOwn (model P w) (cxOf (L2.CX P w) P w K mg base N qual scope f cdv A outer s H E).A (cxOf (L2.CX P w) P w K mg base N qual scope f cdv A outer s H E).env (cxOf (L2.CX P w) P w K mg base N qual scope f cdv A outer s H E).xe → Room k (A.deeper (envOfC qual scope s.heap.objs.size f cdv)) → PSs (cxOf (L2.CX P w) P w K mg base N qual scope f cdv A outer s H E) body (lS K ζ (ws R)))
    (hp : ∀ ds Q' R', ds.length = ps.length → wf ds Q' R' → ws (fun e _ => R' e) (edP Q') (enP N ds)) : FnOk P w K mg base (L2.CX P w) (k + 1) f fd ps (spX K ps.length wf) := by
  refine F.ok (CX := L2.CX P w) S (fun vs H Q E h => ?_) (fun cdv A outer s H vs Q E hr h => ?_)
  · obtain ⟨I, ds, Q', _, _, h2, h3, _⟩ := h
    rw [dpa_len h2, h3]
  · obtain ⟨I, ds, Q', R', h1, h2, h3, h4, h5, h6⟩ := h
    refine ⟨lS K ⟨[], fun _ _ => Gr H I⟩ (ws fun e _ => R' e), hb _ (fun e _ => R' e) cdv A outer s H E (Takes.imp (takes_of rfl rfl rfl rfl) fun cls d σ H' ⟨_, I', e, g, de, r⟩ => h6 cls d H' I' e g de r) (passes_of (K := fun e s'' => L2.CX P w outer H s E e s'') rfl) hr, ?_⟩
    have hpl : ps.length ≤ N.length := by have := congrArg List.length S.pre; rw [List.length_take] at this; omega
    have hl : vs.length = ds.length := dpa_len h2
    have o : Ok K ⟨[], fun _ _ => Gr H I⟩ ⟨H, I, none, []⟩ (L2.start N vs) (enP N ds) H I :=
      ⟨Ex.rf I, h1, fun a _ h => h, fun a o h _ _ => h, by unfold L2.start enP; simp [hl], enP_get h2, fun i l h => absurd h (enP_no i l), fun i j l h => absurd h (enP_no i l), fun l h => (by cases h), fun p hp => (by cases hp), fun p hp => (by cases hp), fun _ h => isTb_Nil h, Tabs_nil, fun _ _ H' I' c => Gr.core rfl c⟩
    refine lS_mk o (hp ds Q' R' h3 h4) ⟨fun σ' H' I' en' o' q => ?_, fun v σ' H' I' en' d o' dv q => ?_, fun _ _ _ _ _ q => q.elim, fun _ _ _ _ _ q => q.elim⟩
    · exact h5 .non H' I' .none o'.z .non q
    · exact h5 v H' I' d o'.z dv q
def CalX (P : Program) (w : World) (K : PySem.W.Frag) (mg : Str → Option Value) (base : Heap) (k : Nat) (x : Str) (ps : List Str) (sp : Sp) : Prop :=
  ∃ (f : Addr) (fd : FuncData), FnOk P w K mg base (L2.CX P w) k f fd ps sp ∧ mg x = some (.ref f) ∧ PySem.W.keepIn K (.ref f) = true ∧ Binds K fd ps []
end
section
variable {X : Cx} {e : Expr} {es : List Expr} {pos p p2 : Pos} {x : Str} {k n : Nat} {ps : List Str} {R : Exc → En → Prop}
def wFnX (n : Nat) (wf : WFX) (R : Exc → En → Prop) (w : WA) : WE := fun en Q => w en fun ds e1 => ds.length = n ∧ wf ds (fun d => Q d e1) fun e => R e e1
theorem c_callX {wf : WFX} {w : WA} (C : CalX X.prog X.w X.K X.mg X.base k x ps (spX X.K n wf)) (tk : Takes X (wxOf X.K ζ R)) (hr : Room k X.A) (ha : PA X (e :: es) (lA X.K ζ w)) (hg : Gl X x := by rfl)
    (hdb : (x == ("__debug__" : Str)) = false := by decide) (he : starEach (e :: es) X.env = (false, eval e X.env) :: starEach es X.env := by rfl) (hpl : (backTo pos (starEach es X.env)).any (·.1) = false := by rfl) :
    PE X (.Call (.Name x p) (e :: es) [] pos) (lE X.K ζ (wFnX n wf R w)) := by
  obtain ⟨f, fd, F, hm, hk, hb⟩ := C
  refine (pe_callS (E := L2.WE (wxOf X.K ζ R)) F hr hg hm hk hb (fun σ => passAt tk σ) ha hdb he hpl).mo fun σ H Q ⟨G, en, I, Q', o, q, k⟩ => ⟨G, en, I, _, o, q, fun vs H1 I1 e1 ds o1 x1 dvs ⟨hn, q1⟩ => ?_⟩
  refine ⟨I1, ds, _, fun e => R e e1, o1.iH, dvs, hn, q1, fun v H2 I2 d g dv q2 => ?_, fun cls d H2 I2 e g de r => ⟨e1, I2, e, (o1.gr g).z, de, r⟩⟩
  exact k v H2 I2 e1 d (o1.gr g) (x1.tr g.i) dv q2
/-- such a def where it does not raise -/
theorem c_callXN {wf : WFX} {w : WA} (C : CalX X.prog X.w X.K X.mg X.base k x ps (spX X.K n wf)) (hr : Room k X.A) (ha : PA X (e :: es) (lA X.K ζ w)) (hg : Gl X x := by rfl)
    (hdb : (x == ("__debug__" : Str)) = false := by decide) (he : starEach (e :: es) X.env = (false, eval e X.env) :: starEach es X.env := by rfl) (hpl : (backTo pos (starEach es X.env)).any (·.1) = false := by rfl) :
    PE X (.Call (.Name x p) (e :: es) [] pos) (lE X.K ζ (wFnX n wf (fun _ _ => False) w)) := by
  obtain ⟨f, fd, F, hm, hk, hb⟩ := C
  refine (pe_call (E := E0) F hr hg hm hk hb .nil passL ha hdb he hpl).mo fun σ H Q ⟨G, en, I, Q', o, q, k⟩ => ⟨G, en, I, _, o, q, fun vs H1 I1 e1 ds o1 x1 dvs ⟨hn, q1⟩ => ?_⟩
  refine ⟨I1, ds, _, fun _ => False, o1.iH, by rw [List.append_nil]; exact dvs, hn, q1, fun v H2 I2 d g dv q2 => ?_, fun cls d H2 I2 e g de r => r.elim⟩
  exact k v H2 I2 e1 d (o1.gr g) (x1.tr g.i) dv q2
/-! ### raise -/
/-- an own class of exceptions that keeps nothing -/
structure ExoC (K : PySem.W.Frag) (mg : Str → Option Value) (nm : Str) : Prop where
  ex : ∃ (B newId initId : String) (bmB : List Value), ExcBaseFacts B newId initId bmB ∧ PySem.W.excIn K (He.ga K nm) bmB newId = true
  mg : mg nm = some (.ref (He.ga K nm))
  kp : PySem.W.keepIn K (.ref (He.ga K nm)) = true
  sb : PySem.W.subIn K (.ref (He.ga K nm)) (.type "BaseException") = some true
  ty : PySem.W.typeIn K (.ref (He.ga K nm)) = some (.type "type")
def wRaise (R : Exc → En → Prop) (nm : Str) (w : WE) : WS := fun _ en => w en fun _ e1 => R ⟨nm, [], []⟩ e1
theorem s_raise {w : WE} {nm : Str} (c : ExoC X.K X.mg nm) (hc : X.calm = true) (tk : Takes X (wxOf X.K ζ R)) (he : PE X e (lE X.K ζ w)) (hg : Gl X nm := by rfl) (hs : starEach [e] X.env = (false, eval e X.env) :: starEach [] X.env := by rfl) (hdb : (nm == ("__debug__" : Str)) = false := by decide) :
    PS X (.Raise (some (.Call (.Name nm p) [e] [] p2)) none pos) (lS X.K ζ (wRaise R nm w)) := by
  obtain ⟨⟨B, newId, initId, bmB, F, q⟩, hm, kp, sb, ty⟩ := c
  refine (ps_raise hc tk (SkE.pmk_own1 F q hm kp (raises_own sb ty) hg he hs hdb)).mo fun R' σ H ⟨G, en, I, Ed', o, q, k⟩ => ?_
  exact ⟨G, en, I, _, o, q, fun v H1 I1 e1 d o1 x1 dv q1 => ⟨e1, I1, _, o1.z, ⟨rfl, Or.inl ⟨rfl, rfl⟩⟩, q1⟩⟩
end
end Pd

set_option Elab.async false
set_option linter.all false
set_option maxRecDepth 100000
set_option maxHeartbeats 4000000
/-! Own exceptions that keep one value, over any built-in base: self.f = v in __init__. -/
namespace Pd
open PySem PySem.Spec PyProof.Rows L2
/-- own classes, then the tail tl -/
def refsT (tl : List Value) : List Value → Bool
  | .ref _ :: r => refsT tl r
  | l => l == tl
theorem refsT_cases {tl : List Value} : ∀ l : List Value, refsT tl l = true → (∃ c r, l = .ref c :: r ∧ refsT tl r = true) ∨ l = tl
  | [], e => .inr (beq_iff_eq.mp e)
  | .ref c :: r, e => .inl ⟨c, r, rfl, e⟩
  | .none :: _, e => .inr (beq_iff_eq.mp e)
  | .ellipsis :: _, e => .inr (beq_iff_eq.mp e)
  | .notImplemented :: _, e => .inr (beq_iff_eq.mp e)
  | .bool _ :: _, e => .inr (beq_iff_eq.mp e)
  | .int _ _ :: _, e => .inr (beq_iff_eq.mp e)
  | .float _ _ :: _, e => .inr (beq_iff_eq.mp e)
  | .str _ _ :: _, e => .inr (beq_iff_eq.mp e)
  | .bytes _ _ :: _, e => .inr (beq_iff_eq.mp e)
  | .type _ :: _, e => .inr (beq_iff_eq.mp e)
  | .builtin _ :: _, e => .inr (beq_iff_eq.mp e)
/-- what is known of a built-in base -/
structure TailF (B newId initId : String) (tl : List Value) : Prop where
  base : ExcBaseFacts B newId initId tl
  st : StoreFacts B tl "object.__setattr__" "object"
theorem TailF.ne {B newId initId : String} {tl : List Value} (t : TailF B newId initId tl) : tl ≠ [] := fun e => by
  have h := t.base.hasB
  rw [e] at h
  cases h
theorem refsT_pass {B newId initId : String} {tl : List Value} (t : TailF B newId initId tl) (self : Value) : ∀ l : List Value, refsT tl l = true → refuseLoop self "__setattr__" l = pure ()
  | [], e => absurd (beq_iff_eq.mp e).symm t.ne
  | a :: r, e => by
    rcases refsT_cases (a :: r) e with ⟨c, r', q, h⟩ | q
    · obtain ⟨rfl, rfl⟩ := List.cons.inj q
      rw [refuseLoop_ref]; exact refsT_pass t self r h
    · rw [q]; exact t.st.passes self
theorem refsT_contains {B newId initId : String} {tl : List Value} (t : TailF B newId initId tl) (X : String) : ∀ l : List Value, refsT tl l = true → l.contains (.type X) = tl.contains (.type X)
  | [], e => absurd (beq_iff_eq.mp e).symm t.ne
  | a :: r, e => by
    rcases refsT_cases (a :: r) e with ⟨c, r', q, h⟩ | q
    · obtain ⟨rfl, rfl⟩ := List.cons.inj q
      rw [List.contains_cons, refsT_contains t X r h]; rfl
    · rw [q]
theorem refsT_ne {B newId initId : String} {tl : List Value} (t : TailF B newId initId tl) {l : List Value} (e : refsT tl l = true) : l.isEmpty = false := by
  cases l with
  | nil => exact absurd (beq_iff_eq.mp e).symm t.ne
  | cons _ _ => rfl
end Pd
namespace Pd
open PySem PySem.Spec PyProof.Rows L2 PySem.HandSPX PySem.Builtin PySem.Builtin.ObjectAttr
section
variable {prog : Program} {w : World} {A : Around} {E : Value → Shared → Prop} {R : Result → Shared → Prop} {hp : Heap} {g : Array GenState} {d : Drawn} {t : Nat} {os : OsState}
theorem exc_osaT {B newId initId : String} {tl : List Value} (TF : TailF B newId initId tl) {K : PySem.W.Frag} {name : Str} {tk : Tok} {v : Value} {x C : Addr} {fv : Array Value} {cd : ClassData}
    (X : K.In hp) (hx : hp.get? x = some { cls := .ref C, data := .fields fv }) (hcd : PySem.W.clsIn K C = some cd) (hm : refsT tl cd.mro = true) (hh : cd.hasDict = true) (ha : PySem.W.findIn K (.ref C) name = some none)
    (hq : ∀ h' tk' dx, (∀ b o, b ≠ x → hp.get? b = some o → h'.get? b = some o) → hp.objs.size ≤ dx → dx ≠ x → h'.get? x = some { cls := .ref C, dict := some dx, data := .fields fv } →
      h'.Ns1 dx (fun y => if y = name then some v else none) → R (.ok (.ret .none)) ⟨h', g, d, tk', os⟩) :
    codeAny (model prog w) A (.call (.builtin "object.__setattr__") ⟨[.ref x, .str name tk, v], []⟩) R ⟨hp, g, d, t, os⟩ := by
  have I : PySem.W.InstAt hp x { cls := .ref C, data := .fields fv } C none := ⟨hx, rfl, rfl, trivial⟩
  have SF := F.store_object
  have ne := refsT_ne TF hm
  have hob : cd.mro.contains (.type "object") = true := (refsT_contains TF "object" _ hm).trans TF.st.hasOwner
  have hxs : x ≠ hp.objs.size := Nat.ne_of_lt (Heap.lt_size hx)
  have sub : PySem.W.Looks (model prog w) hp (isInstance (.ref x) (.type "object")) true := I.type.andThen (PySem.W.looks_mroIn X (by unfold PySem.W.mroIn; rw [hcd, Option.bind_some, if_neg (by rw [ne]; decide), hob]))
  refine codeAny_call_builtin SF.slot.plain SF.entry (@PySem.W.check_slot (model prog w) _ _ ⟨hp, g, d, t, os⟩ "object.__setattr__" "object" "__setattr__" (.ref x) [.str name tk, v] [] _ SF.kind SF.split sub (SF.args (.ref x) (.str name tk) v) ?_)
  have hmr : PySem.W.Looks (model prog w) hp (mroOf (.ref C)) cd.mro := (PySem.W.looks_clsIn X hcd).andThen .now
  have L3 : PySem.W.Looks (model prog w) hp (storeTaker? none) none := .now
  have hcls : PySem.W.Looks (model prog w) hp (classData C) cd := PySem.W.looks_clsIn X hcd
  rw [PySem.W.osa_eq, refuse_eq]
  refine wpAny_bind (wpAny_bind (I.type.at (wpAny_bind (hmr.at ?_))))
  rw [refsT_pass TF _ _ hm]
  refine wpAny_pure (wpAny_bind (I.type.at (wpAny_bind ((PySem.W.looks_findIn X ha).at (wpAny_bind (L3.at ?_))))))
  show wpAny _ _ (storeInOwnDict (.ref x) (.ref C) (.str name tk) name v false) _ _ _
  obtain ⟨nm, bs, mro, ns, qn, hd, sn, sb, ab, col, del⟩ := cd
  dsimp only at hh
  subst hh
  unfold storeInOwnDict ownDictForStores
  repeat (first | with_reducible refine store_in_new ?_ ?_ | with_reducible refine wpAny_loadPart_at hx ?_ | with_reducible refine hcls.at ?_ | wp_step)
  · exact ⟨_, #[], _, (Heap.get?_update_ne _ _ _ _ hxs.symm).trans (Heap.get?_push_at rfl rfl), rfl, fun e he => absurd he (by simp), fun _ => rfl⟩
  · intro h' tk' hn' hs
    have hx₁ : (hp.push { cls := .type "dict", data := .dict #[] }).get? x = some { cls := .ref C, data := .fields fv } := Heap.get?_push_of_some _ hx
    refine hq h' tk' hp.objs.size (fun b o hb ho => ?_) (Nat.le_refl _) hxs.symm ?_ hn'
    · exact (hs.2 b (Nat.ne_of_lt (Heap.lt_size ho))).trans ((Heap.get?_update_ne _ _ _ _ hb).trans (Heap.get?_push_of_some _ ho))
    · exact (hs.2 x hxs).trans (Heap.get?_update_self _ hx₁ rfl)
end
end Pd
namespace Pd
open PySem PySem.Spec PyProof.Rows L2
/-- what the written part says of such a class -/
structure OexG (K : PySem.W.Frag) (C : Addr) (newId : String) (tl : List Value) : Prop where
  cls : ∃ nm q N bs bm sn sub ab col dd k0 k1 k2 k3 k5, K.lookup C = some (excClassObj nm q C N bs bm true sn sub ab col dd k0 k1 k2 k3 k5 newId) ∧ refsT tl bm = true
  sa : PySem.W.findIn K (.ref C) "__setattr__" = some (some (.builtin "object.__setattr__"))
  exC : PySem.W.subIn K (.ref C) (.type "BaseException") = some true
  tyC : PySem.W.typeIn K (.ref C) = some (.type "type")
  kC : PySem.W.keepIn K (.ref C) = true
def oexB (K : PySem.W.Frag) (C : Addr) (newId : String) (tl : List Value) : Bool := match K.lookup C with
  | some ⟨.type "type", _, .cls cd, sl⟩ => (match cd.mro, sl.toList with
    | .ref C' :: bm, [_, _, _, _, some (.builtin n), _] => C' == C && n == newId && !cd.hasDel && cd.hasDict && refsT tl bm
    | _, _ => false)
  | _ => false
theorem oexB_ok {K : PySem.W.Frag} {C : Addr} {newId : String} {tl : List Value} (q : oexB K C newId tl = true) : ∃ nm q N bs bm sn sub ab col dd k0 k1 k2 k3 k5, K.lookup C = some (excClassObj nm q C N bs bm true sn sub ab col dd k0 k1 k2 k3 k5 newId) ∧ refsT tl bm = true := by
  unfold oexB at q
  split at q
  · rename_i dd cd sl ho
    split at q
    · rename_i C' bm k0 k1 k2 k3 n k5 hm hs
      simp only [Bool.and_eq_true, beq_iff_eq, Bool.not_eq_true'] at q
      obtain ⟨⟨⟨⟨rfl, rfl⟩, hdel⟩, hhd⟩, ht⟩ := q
      obtain ⟨nm, bs, mro, ns, qn, hd, sn, sub, ab, col, del⟩ := cd
      dsimp only at hm hdel hhd
      subst hm hdel hhd
      have hsl : sl = #[k0, k1, k2, k3, some (.builtin n), k5] := by
        obtain ⟨l⟩ := sl
        simp only at hs
        rw [hs]
      subst hsl
      exact ⟨nm, qn, ns, bs, bm, sn, sub, ab, col, dd, k0, k1, k2, k3, k5, ho, ht⟩
    · cases q
  · cases q
section
variable {X : Cx} {pins : List (Addr × Obj)} {σ : L2.St} {H : Hp} {s : Shared} {a C dx : Addr} {f : Str} {y : V} {u : Value} {Q : Unit → Shared → Prop} {E : Value → Shared → Prop} {A : Around} {B newId initId : String} {tl : List Value}
/-- self.f = y, the first one -/
theorem ost_newT (TF : TailF B newId initId tl) (T : OexG X.K C newId tl) (I : Inv X pins σ H s) (e : H a = some (exo a C none)) (hno : PySem.W.findIn X.K (.ref C) f = some none) (ry : RelV y u)
    (h : ∀ dx s', H dx = none → dx ≠ a → Inv X pins σ (upd (upd H dx (exd dx [(f, y)])) a (exo a C (some dx))) s' → Q () s') : wpAny (model X.prog X.w) A (setAttr (.ref a) f u) Q E s := by
  obtain ⟨nm, q, N, bs, bm, sn, sub, ab, col, dd, k0, k1, k2, k3, k5, hC, hbm⟩ := T.cls
  have hcl : PySem.W.clsIn X.K C = some { name := nm, bases := bs, mro := .ref C :: bm, ns := N, qualname := q, hasDict := true, slotNames := sn, subclasses := sub, abstract := ab, collection := col, hasDel := false } := by unfold PySem.W.clsIn; rw [hC] <;> rfl
  obtain ⟨t1, ho⟩ := exo_at I.hok e
  obtain ⟨hp, g, d, t, os⟩ := s
  refine PySem.W.set_plain I.kIn (ox := { cls := .ref C, dict := none, data := .fields #[.ref t1, .none, .none, .none, .bool false, .none] }) (od := none) ⟨ho, rfl, rfl, trivial⟩ T.sa ?_
  refine exc_osaT TF I.kIn ho hcl (show refsT tl (.ref C :: bm) = true from hbm) rfl hno (fun h' tk' dx k dn dne hx hn => ?_)
  have hnd : H dx = none := I.hok.fresh dn
  have nd : ∀ {b : Addr} {o : Obj}, hp.get? b = some o → b ≠ dx := fun {b o} q => Nat.ne_of_lt (Nat.lt_of_lt_of_le (Heap.lt_size q) dn)
  have na : ∀ {b : Addr}, H b = none → b ≠ a := fun {b} n z => by
    rw [z, e] at n
    cases n
  have Un1 : Un X.fs [] H (upd (upd H dx (exd dx [(f, y)])) a (exo a C (some dx))) hp h' := {
    keep := fun b o q n _ _ => k b o (na n) q
    slot := fun b o q n _ _ => ⟨o.slots, k b o (na n) q⟩
    free := fun b o q n _ => by rw [upd_ne (na n), upd_ne (nd q)]; exact n
    there := fun b o q _ => by
      by_cases hb : b = a
      · exact ⟨_, by rw [hb]; exact hx⟩
      · exact ⟨o, k b o hb q⟩
    tups := fun b xs q => by rw [upd_ne (at_ne e q exo_tup), upd_ne (ne_of_none q hnd)]; exact q
    frzs := fun b o v q => by rw [upd_ne (at_ne e q exo_frz), upd_ne (ne_of_none q hnd)]; exact q
    tbls := fun b ps q => ⟨#[], by rw [upd_ne (at_ne e q exo_tbl), upd_ne (ne_of_none q hnd), q]; simp⟩ }
  refine h dx _ hnd dne (I.un (t' := tk') Un1 fun b o q => ?_)
  by_cases hb : b = a
  · subst hb
    rw [upd_same] at q
    cases q
    exact exo_ok hx
  · rw [upd_ne hb] at q
    by_cases hd : b = dx
    · subst hd
      rw [upd_same] at q
      cases q
      exact exd_ok hn (relO_put (fs := []) ry fun g => True.intro)
    · rw [upd_ne hd] at q
      exact (I.hok b o q).stay (fun c v hc z => k c v (by
          rcases hc with hc | hc
          · rw [hc]
            exact hb
          · exact at_ne e hc exo_own) z)
        (fun c hc => by rw [upd_ne (at_ne e hc exo_own), upd_ne (ne_of_none hc hnd)]; exact hc) (fun c xs hc => by rw [upd_ne (at_ne e hc exo_tup), upd_ne (ne_of_none hc hnd)]; exact hc)
end
/-- self.f = v, where self is new -/
def spIni (C : Addr) (f : Str) : Sp := fun vs H Q _ => ∃ a v, vs = [.ref a, v] ∧ H a = some (exo a C none) ∧ ∀ dx, H dx = none → dx ≠ a → Q .non (upd (upd H dx (exd dx [(f, v)])) a (exo a C (some dx)))
def tOstT (C : Addr) (f : Str) (to te : TE) : TS := fun D σ H => te σ H fun y H1 => to σ H1 fun x H2 => ∃ a : Addr, x = .ref a ∧ H2 a = some (exo a C none) ∧ ∀ dx, H2 dx = none → dx ≠ a → D.nx σ (upd (upd H2 dx (exd dx [(f, y)])) a (exo a C (some dx)))
section
variable {X : Cx} {o e : Expr} {es : List Expr} {to te : TE} {f : Str} {p p' p1 p2 p3 pos : Pos} {C : Addr} {B newId initId : String} {tl : List Value}
theorem ps_ostT (TF : TailF B newId initId tl) (T : OexG X.K C newId tl) (hno : PySem.W.findIn X.K (.ref C) f = some none) (ho : PE X o to) (he : PE X e te) (hs : swapsWith e (some (.Attribute o f p')) pos.line X.env = pure false := by rfl) :
    PS X (.Assign [.Attribute o f p'] e pos) (tOstT C f to te) := by
  refine ⟨fun pins s σ H D I h => ?_⟩
  refine plainObj_wpAny_Assign_Attribute (thn (he.run pins s σ H _ I h) fun v s1 ⟨y, H1, I1, r1, q1⟩ => thn (ho.run pins s1 σ H1 _ I1 q1) fun u s2 ⟨x, H2, I2, r2, a, ex, ea, q⟩ => ?_) hs
  subst ex
  obtain rfl : u = Value.ref a := r2
  exact ost_newT TF T I2 ea hno r1 fun dx s' n ne J => ⟨σ, _, J, q dx n ne⟩
end
section
variable {P : Program} {w : World} {K : PySem.W.Frag} {mg : Str → Option Value} {base : Heap} {x qual : Str} {params : Arguments} {body : List Stmt} {scope : Scope} {fI : Addr} {fd : FuncData} {C : Addr} {B newId initId : String} {tl : List Value} {s g f : Str} {p1 p2 p3 p4 : Pos}
/-- def __init__(self, g): self.f = g -/
theorem ok_ini (F : FunD K x qual params body scope [] [] fI fd) (S : FnScope [s, g] [s, g] scope) (TF : TailF B newId initId tl) (T : OexG K C newId tl) (hno : PySem.W.findIn K (.ref C) f = some none)
    (hb : body = [.Assign [.Attribute (.Name s p1) f p2] (.Name g p3) p4]) (vs : Vis scope s) (vg : Vis scope g) (d1 : (s == ("__debug__" : Str)) = false := by decide) (d2 : (s == ("__classdict__" : Str)) = false := by decide) (d3 : (g == ("__debug__" : Str)) = false := by decide) (d4 : (g == ("__classdict__" : Str)) = false := by decide) :
    FnOk P w K mg base CX0 1 fI fd [s, g] (spIni C f) := by
  refine F.ok (CX := CX0) S (fun vs H Q E h => ?_) (fun cdv A outer s' H vs' Q E hr h => ⟨tOstT C f (tVar 0) (tVar 1), ?_, ?_⟩)
  · obtain ⟨a, v, rfl, _⟩ := h
    rfl
  · rw [hb]
    exact pss_one (ps_ostT (X := cxOf CX0 P w K mg base [s, g] qual scope fI cdv A outer s' H E) TF T hno (pe_var rfl vs d1 d2) (pe_var rfl vg d3 d4))
  · obtain ⟨a, v, rfl, ea, q⟩ := h
    exact ⟨v, rfl, .ref a, rfl, a, rfl, ea, q⟩
end
section
variable {X : Cx} {e : Expr} {es : List Expr} {ta : TA} {p pos : Pos} {B newId initId : String} {tl : List Value}
theorem pmk_oexT {CX : CXT} {x : Str} {C fI : Addr} {k : Nat} {fd : FuncData} {ps : List Str} {sp : Sp} {ds : List Value} {dvs : List V} (TF : TailF B newId initId tl) (T : OexG X.K C newId tl) (iC : PySem.W.findIn X.K (.ref C) "__init__" = some (some (.ref fI))) (tI : PySem.W.typeIn X.K (.ref fI) = some (.type "function"))
    (F1 : FnOk X.prog X.w X.K X.mg X.base CX k fI fd ps sp) (hr : Room (k + 1) X.A) (hb : Binds X.K fd ps ds) (hd : Vals dvs ds) (hx : Passes CX X (fun _ _ _ => False)) (hg : Gl X x) (hm : X.mg x = some (.ref C)) (ha : PA X (e :: es) ta)
    (hdb : (x == ("__debug__" : Str)) = false := by decide) (he : starEach (e :: es) X.env = (false, eval e X.env) :: starEach es X.env := by rfl) (hpl : (backTo pos (starEach es X.env)).any (·.1) = false := by rfl) :
    PMk X (.Call (.Name x p) (e :: es) [] pos) (tMkO C sp dvs ta) := by
  intro pins s σ H Q I h
  obtain ⟨nm, q, N, bs, bm, sn, sub, ab, col, dd, k0, k1, k2, k3, k5, hC, hbm⟩ := T.cls
  refine wpAny_Call_Name_kw (ld_glob I hg hm ?_ hdb)
  refine PySem.W.callWith_K (h₀ := X.base) I.ok.mod.kin T.kC (thn (ha.run pos pins s σ H _ I h) fun us s1 ⟨vs, H1, I1, r1, hz, q1⟩ => ⟨I1.kIn, ?_⟩) he hpl
  show wpAny _ _ (call (.ref C) us) _ _ _
  obtain ⟨hp, g, dr, tk, os⟩ := s1
  have hsz : hp.objs.size ≤ hp.objs.size + 1 := Nat.le_succ _
  have hn : H1 (hp.objs.size + 1) = none := I1.hok.fresh hsz
  have hq := q1 (hp.objs.size + 1) hn
  have kk : ∀ b o, hp.get? b = some o → ((hp.push (PySem.W.kdv_tup us)).push (PySem.HandSPX.excO C hp.objs.size)).get? b = some o := fun b o e => Heap.get?_push_of_some _ (Heap.get?_push_of_some _ e)
  have hget : ((hp.push (PySem.W.kdv_tup us)).push (PySem.HandSPX.excO C hp.objs.size)).get? (hp.objs.size + 1) = some (PySem.HandSPX.excO C hp.objs.size) := by heap_get
  have I2 : Inv X pins σ (upd H1 (hp.objs.size + 1) (exo (hp.objs.size + 1) C none)) ⟨(hp.push (PySem.W.kdv_tup us)).push (PySem.HandSPX.excO C hp.objs.size), g, dr, tk, os⟩ :=
    I1.laid (t' := tk) (a := hp.objs.size + 1) (o := exo (hp.objs.size + 1) C none) (h' := (hp.push (PySem.W.kdv_tup us)).push (PySem.HandSPX.excO C hp.objs.size)) kk hsz (exo_ok hget)
  have r2 : Vals (V.ref (hp.objs.size + 1) :: (vs ++ dvs)) (Value.ref (hp.objs.size + 1) :: (us ++ ds)) := .cons rfl (r1.append hd)
  have hl : (Value.ref (hp.objs.size + 1) :: us ++ ds).length = ps.length := by
    have e := r2.length
    rw [F1.len _ _ _ _ hq] at e
    exact e.symm
  have hus : us.length ≤ sizeLine := by
    rw [← Paired.length r1, sizeLine_eq]
    omega
  refine wpAny_call (PySem.HandSPX.call_own TF.base (fun Y => refsT_contains TF Y bm hbm) (I1.kIn _ _ hC) (PySem.W.looks_findIn I1.kIn iC) (fun self => PySem.W.bind_fn I1.kIn self tI) hus
    (codeAny_mono (F1.run _ X.stack _ _ ⟨Value.ref (hp.objs.size + 1) :: us, []⟩ (Value.ref (hp.objs.size + 1) :: (us ++ ds)) _ _ (fun _ _ _ => False) (hr.make C us []) (I2.env0.make C us []) (hb _ (Value.ref (hp.objs.size + 1) :: us) I2.kIn hl) r2 hq) fun r s' hq' => ?_))
  cases r with
  | error er => exact hx pins σ _ _ er s' I2 hq'
  | ok fl =>
    cases fl with
    | ret u =>
      obtain ⟨v, H2, os2, bare2, un2, hok2, rv, ev, d, fs, ea, ed, hd1, q2⟩ := hq'
      subst ev
      obtain ⟨h2, g2, d2, t2, os'⟩ := s'
      exact ⟨rv, mk_end (raises_own T.exC T.tyC) I1 hsz kk un2 hok2 os2 bare2 ea ed hd1 q2⟩
    | next => exact False.elim hq'
    | brk => exact False.elim hq'
    | cont => exact False.elim hq'
end
/-- an own class of exceptions that keeps one value in f -/
structure ExfC (P : Program) (w : World) (K : PySem.W.Frag) (mg : Str → Option Value) (base : Heap) (nm f : Str) : Prop where
  oe : ∃ (B newId initId : String) (tl : List Value) (fI : Addr) (fd : FuncData) (ps : List Str), TailF B newId initId tl ∧ OexG K (He.ga K nm) newId tl ∧ PySem.W.findIn K (.ref (He.ga K nm)) "__init__" = some (some (.ref fI)) ∧ PySem.W.typeIn K (.ref fI) = some (.type "function") ∧
    FnOk P w K mg base CX0 1 fI fd ps (spIni (He.ga K nm) f) ∧ Binds K fd ps []
  mg : mg nm = some (.ref (He.ga K nm))
section
variable {X : Cx} {e : Expr} {p p2 pos : Pos} {R : Exc → En → Prop} {nm f : Str}
def wRaiseF (R : Exc → En → Prop) (nm f : Str) (w : WE) : WS := fun _ en => w en fun d e1 => R ⟨nm, [f], [d]⟩ e1
theorem s_raiseF {w : WE} (c : ExfC X.prog X.w X.K X.mg X.base nm f) (hc : X.calm = true) (hr : Room 2 X.A) (tk : Takes X (wxOf X.K ζ R)) (he : PE X e (lE X.K ζ w)) (hg : Gl X nm := by rfl)
    (hs : starEach (e :: []) X.env = (false, eval e X.env) :: starEach [] X.env := by rfl) (hpl : (backTo p2 (starEach [] X.env)).any (·.1) = false := by rfl) (hdb : (nm == ("__debug__" : Str)) = false := by decide) :
    PS X (.Raise (some (.Call (.Name nm p) [e] [] p2)) none pos) (lS X.K ζ (wRaiseF R nm f w)) := by
  obtain ⟨⟨B, newId, initId, tl, fI, fd, ps, TF, T, iC, tI, F1, hb⟩, hm⟩ := c
  refine (ps_raise hc tk (pmk_oexT TF T iC tI F1 hr hb .nil pass0 hg hm (pa_cons he pa_nil hs) hdb hs hpl)).mo fun R' σ H ⟨G, en, I, Ed', o, q, k⟩ => ?_
  refine ⟨G, en, I, _, o, q, fun v H1 I1 e1 d o1 x1 dv q1 => ⟨by show 1 ≤ 1000; decide, fun a ha => ?_⟩⟩
  refine ⟨a, v, rfl, upd_same, fun dx hdx hne => ⟨rfl, dx, [(f, v)], upd_same, by rw [upd_ne hne, upd_same], ?_, ?_⟩⟩
  · rw [upd_ne hne] at hdx; exact hdx
  · rw [upd_ne hne] at hdx
    have eH : upd (del (upd (upd (upd H1 a (exo a (He.ga X.K nm) none)) dx (exd dx [(f, v)])) a (exo a (He.ga X.K nm) (some dx))) a) dx (.xd [(f, v)]) = upd H1 dx (.xd [(f, v)]) := by
      funext b
      by_cases h1 : b = dx
      · rw [h1, upd_same, upd_same]
      · rw [upd_ne h1, upd_ne h1]
        by_cases h2 : b = a
        · rw [h2, del_same, ha]
        · rw [del_ne h2, upd_ne h2, upd_ne h1, upd_ne h2]
    rw [eH]
    have g := Gr.nw (u := .xd [(f, v)]) o1.iH hdx
    exact ⟨e1, _, _, (o1.gr g).z, ⟨rfl, Or.inr ⟨dx, [v], rfl, upd_same, rfl, .cons (dv.up g.i) .nil⟩⟩, q1⟩
end
end Pd

set_option Elab.async false
set_option linter.all false
set_option maxRecDepth 100000
set_option maxHeartbeats 4000000
/-! A lambda without parameters handed to a def, over data. -/
namespace Pd
open PySem PySem.Spec PyProof.Rows L2 LamX
/-- nothing was written but a table of T, and a code object laid -/
def TabW (T : List (Addr × Str)) (H H1 : Hp) : Prop := H1 = H ∨ ∃ (P : Addr) (ps : Array Value) (c : Addr) (q : Str), P ∈ T.map (·.1) ∧ H c = none ∧ H1 = upd (upd H P (.tbl ps)) c (CodeO c q)
theorem tab_more {T : List (Addr × Str)} {H : Hp} {P c : Addr} {q : Str} {ps : Array Value} {pos : Pos} (hT : Tabs T H) (hP : H P = some (.tbl ps)) (nC : H c = none) (ht : TriplesOk ps.toList) (hu : ∀ p ∈ T, p.1 = P → p.2 = q)
    (ha : ∀ (p : Pos) (cv : Value), codeAmong p ps.toList = some cv → ∃ c, cv = .ref c ∧ H c = some (CodeO c q)) : Tabs T (upd (upd H P (.tbl (ps ++ #[rawInt pos.line, rawInt pos.col, .ref c]))) c (CodeO c q)) := fun p hp => by
  have eL : (ps ++ #[rawInt pos.line, rawInt pos.col, .ref c]).toList = ps.toList ++ [rawInt pos.line, rawInt pos.col, .ref c] := by simp
  have keep : ∀ {d : Addr} {z : Str}, H d = some (CodeO d z) → upd (upd H P (.tbl (ps ++ #[rawInt pos.line, rawInt pos.col, .ref c]))) c (CodeO c q) d = some (CodeO d z) := fun {d z} e => by
    rw [upd_ne (ne_of_none e nC), upd_ne fun z' => by rw [z', hP] at e; cases e]
    exact e
  obtain ⟨ps', a1, a2, a3⟩ := hT p hp
  by_cases hb : p.1 = P
  · rw [hu p hp hb, hb]
    refine ⟨_, by rw [upd_ne (ne_of_none hP nC), upd_same], by rw [eL]; exact PySem.TriplesOk_snoc _ _ _ _ ht, fun p' cv hcv => ?_⟩
    rw [eL] at hcv
    rcases among_app _ ht hcv with z | z
    · obtain ⟨d, e1, e2⟩ := ha p' cv z
      exact ⟨d, e1, keep e2⟩
    · exact ⟨c, z, upd_same⟩
  · refine ⟨ps', by rw [upd_ne (ne_of_none a1 nC), upd_ne hb]; exact a1, a2, fun p' cv hcv => ?_⟩
    obtain ⟨d, e1, e2⟩ := a3 p' cv hcv
    exact ⟨d, e1, keep e2⟩
section
variable {X : Cx} {pins : List (Addr × Obj)} {σ : L2.St} {H : Hp} {s : Shared}
/-- the lambda's function object is made -/
theorem lam_mk {T : List (Addr × Str)} {c P : Addr} {params : Arguments} {body : Expr} {scope : Scope} {pos : Pos} {E : Value → Shared → Prop} {Q : Value → Shared → Prop} (I : Inv X pins σ H s) (TB : TabB X.base X.mg c P) (hcode : X.env.code = .ref c)
    (hm : (P, X.env.qual ++ "<lambda>") ∈ T) (hu : ∀ p ∈ T, p.1 = P → p.2 = X.env.qual ++ "<lambda>") (hT : Tabs T H) (hdef : defaultsOf params X.env = ([], [])) (hfree : ∀ y ∈ scope.names, y.2 = .free → ∃ c, X.env.cells.lookup y.1 = some c)
    (h : ∀ (f c' : Addr) (pm ctv : Value) (H1 : Hp) (s' : Shared), Inv X pins σ H1 s' → TabW T H H1 → Tabs T H1 →
      s'.heap.get? f = some (PySem.W.kla_obj "<lambda>" (X.env.qual ++ "<lambda>") params body scope (cloFrom X.env.cells scope.names []) pm c' ctv) → H1 f = none → f ∉ frs X.stack → H1 c' = some (CodeO c' (X.env.qual ++ "<lambda>")) → Q (.ref f) s') :
    wpAny (model X.prog X.w) X.A (eval (.Lambda params body scope pos) X.env) Q E s := by
  obtain ⟨ps, hP, ht, ha⟩ := hT _ hm
  have bP := TB.bm.keeps I.bk
  have oP : s.heap.get? P = some { cls := .none, data := .fields ps } := I.hok P _ hP
  have out : ∀ f, s.heap.objs.size ≤ f → f ∉ frs X.stack := fun f hf z => (List.mem_cons.mp (I.stkSub _ z)).elim
    (fun e => by have h1 := I.lt; rw [← e] at h1; exact absurd (Nat.lt_of_lt_of_le h1 hf) (Nat.lt_irrefl _)) (I.nofs hf)
  refine PySem.W.kla_eval hdef ?_
  cases hc : codeAmong pos ps.toList with
  | none =>
    refine PySem.W.kla_makeFunction (mg := X.mg) (c := c) (P := P) (ps := ps) (closure_ok hfree) I.ok.glob (I.mod.glob.keeps I.bk) hcode (TB.code.keeps I.bk) oP ht hc TB.gP bP fun c' ctv h' tk hx hge hlt hrec htb => ?_
    obtain ⟨_, oc, vs, t, ee, hoc, hd, hv⟩ := hrec
    cases ee
    have big := Nat.le_trans hge (Nat.le_of_lt hlt)
    have I1 := inv_table (t' := tk) (more := #[rawInt pos.line, rawInt pos.col, .ref c']) (h' := h'.push (PySem.W.kla_obj "<lambda>" (X.env.qual ++ "<lambda>") params body scope (cloFrom X.env.cells scope.names []) ((X.mg "__name__").getD .none) c' ctv)) I hP
      (fun b o hb e => Heap.get?_push_of_some _ (hx b o hb e)) (Heap.get?_push_of_some _ htb) hge ⟨oc, vs, t, Heap.get?_push_of_some _ hoc, hd, hv⟩
    refine h h'.objs.size c' ((X.mg "__name__").getD .none) ctv _ _ I1 (Or.inr ⟨P, _, c', _, List.mem_map.mpr ⟨_, hm, rfl⟩, I.hok.fresh hge, rfl⟩) (tab_more hT hP (I.hok.fresh hge) ht hu ha) (Heap.get?_push_size _ rfl) ?_ (out _ big) upd_same
    rw [upd_ne (Nat.ne_of_gt hlt), upd_ne (Nat.ne_of_gt (Nat.lt_of_lt_of_le (Heap.lt_size oP) big))]
    exact I.hok.fresh big
  | some cv =>
    obtain ⟨c', rfl, hco⟩ := ha pos cv hc
    refine PySem.W.kla_makeFunctionHit (mg := X.mg) (c := c) (P := P) (ps := ps) (closure_ok hfree) I.ok.glob (I.mod.glob.keeps I.bk) hcode (TB.code.keeps I.bk) oP ht hc bP fun ctv h' tk hx hsz => ?_
    exact h h'.objs.size c' ((X.mg "__name__").getD .none) ctv H _ (I.kept fun b o e => Heap.get?_push_of_some _ (hx b o e)) (Or.inl rfl) hT (Heap.get?_push_size _ rfl) (I.hok.fresh hsz) (out _ hsz) hco
end
def tLamW (T : List (Addr × Str)) (TT : (XK → Hp → VK → Prop) → Hp → VK → Prop) (t : XK → TE) : TE := fun σ H Q => Tabs T H ∧ ∀ H1, TabW T H H1 → Tabs T H1 → TT (fun E H' Q' => t E σ H' Q') H1 Q
section
variable {X : Cx}
/-- x(lambda: body) -/
theorem pe_lam {T : List (Addr × Str)} {TT : (XK → Hp → VK → Prop) → Hp → VK → Prop} {x a : Str} {g c P : Addr} {k : Nat} {pg : Arguments} {bg : List Stmt} {sg : Scope} {dV kV doc pm cdv ct oc : Value} {an od : Option Addr} {osl : Array (Option Value)} {Ng : List Str}
    {params : Arguments} {body : Expr} {scope : Scope} {t : XK → TE} {p lpos pos : Pos} (hg : Gl X x) (hm : X.mg x = some (.ref g)) (hk : PySem.W.keepIn X.K (.ref g) = true)
    (lk : X.K.lookup g = some ⟨oc, od, .func (PySem.W.fnOf x x pg bg sg dV kV doc pm an cdv ct), osl⟩) (hcg : PySem.W.codeIn X.K cdv x = true) (hb : L2.Binds X.K (PySem.W.fnOf x x pg bg sg dV kV doc pm an cdv ct) [a] []) (Sg : FnScope Ng [a] sg) (hNg : Ng[0]? = some a) (hva : Vis sg a)
    (hG : GivesTo X Ng x sg g cdv bg a (X.env.qual ++ "<lambda>") TT) (TB : TabB X.base X.mg c P) (hcode : X.env.code = .ref c) (hmT : (P, X.env.qual ++ "<lambda>") ∈ T) (hu : ∀ p ∈ T, p.1 = P → p.2 = X.env.qual ++ "<lambda>") (hr : Room (k + 2) X.A) (L : LamS X.env.scope scope)
    (hdef : defaultsOf params X.env = ([], [])) (hbind : ∀ (q : Str) (cl : List (Str × Addr)) (pm cv ctv : Value), bindArgs (PySem.W.kla_fn "<lambda>" q params body scope cl pm cv ctv) ⟨[], []⟩ = pure [])
    (hbody : ∀ (A : Around) (outer : List Env) (s : Shared) (H : Hp) (E : XK) (f c' : Addr), Room k (A.deeper (lamEnv X scope s.heap.objs.size f c')) → PE (lamCx X A outer s H E scope f c') body (t E))
    (hdb : (x == ("__debug__" : Str)) = false := by decide) (hd : (a == ("__debug__" : Str)) = false := by decide) (hcd : (a == ("__classdict__" : Str)) = false := by decide) :
    PE X (.Call (.Name x p) [.Lambda params body scope lpos] [] pos) (tLamW T TT t) := by
  refine ⟨fun pins s σ H Q I ⟨hT, h⟩ => ?_⟩
  refine wpAny_Call_Name_kw (ld_glob I hg hm (PySem.W.callWith_K (h₀ := X.base) I.ok.mod.kin hk ?_ (by rfl) (by rfl)) hdb)
  show wpAny _ _ (spliced ((false, eval (.Lambda params body scope lpos) X.env) :: backTo pos (starEach [] X.env))) _ _ s
  refine Calls.spliced_cons (lam_mk I TB hcode hmT hu hT hdef (L.has I.ok) fun f c' pm' ctv H1 s' I1 eN T1 hf hfn hfr hco => Calls.spliced_nil ⟨I1.kIn, ?_⟩)
  have rc : codeAny (model X.prog X.w) X.A (.call (.ref g) ⟨[.ref f], []⟩) (CR C8.CX0 X.stack X.prog X.w H1 s' Q C8.E0) s' :=
    run_ofS (N := Ng) (ps := [a]) (us := [.ref f]) (vs := [.ref f]) lk hcg Sg hr I1.env0 (hb s' [.ref f] I1.kIn rfl) (.cons rfl .nil) rfl fun hr' => by
      obtain ⟨t', ht', hq'⟩ := hG f c' s' H1 Q (fun E H' Q' => t E σ H' Q') (fun W pn xe E p1 p2 tk hW => pe_act (i := 0) I1 L hf hfn hfr (hbind _ _ _ _ _) tk hW hr' (fun A outer s H hr2 => hbody A outer s H E f c' hr2) hNg hva hd hcd) hco (h H1 eN T1)
      exact ⟨t', ht'.nox, hq'⟩
  refine wpAny_call (codeAny_mono rc fun r s2 hq => ?_)
  match r, hq with
  | .error e, hq => exact (show False from hq).elim
  | .ok (.ret u), hq => exact I1.after hq
  | .ok .next, hq => exact False.elim hq
  | .ok .brk, hq => exact False.elim hq
  | .ok .cont, hq => exact False.elim hq
end
/-- the state behind the making of a lambda -/
theorem Ok.tab {K : PySem.W.Frag} {G : Gh} {σ : Sg} {en : En} {H I H1 : Hp} (o : Ok K ζ G σ en H I) (w : TabW ζ.T H H1) (t : Tabs ζ.T H1) : Ok K ζ G σ en H1 I := by
  rcases w with rfl | ⟨P, ps, c, q, hP, nC, rfl⟩
  · exact o
  · have at_ : ∀ {a : Addr} {u : HO}, H a = some u → ¬ isTb ζ a → upd (upd H P (.tbl ps)) c (CodeO c q) a = some u := fun {a u} h n => by
      rw [upd_ne (ne_of_none h nC), upd_ne fun e => n (by rw [e]; exact hP)]
      exact h
    have inI : ∀ {a : Addr} {u : HO}, I a = some u → ¬ isTb ζ a := fun {a u} h n => by rw [o.tg a n] at h; cases h
    refine ⟨o.i0, fun a u h => at_ (o.iH a u h) (inI h), o.nw, fun a u h1 h2 h3 => at_ (o.fr a u h1 h2 h3) h3, o.ln, fun i s h => ?_, o.ml, o.ds, o.pj, fun p hp => ?_, o.pn, o.tg, t, o.lk⟩
    · have r := o.sl i s h
      cases s with
      | un => trivial
      | scr ns => exact r
      | adr a => exact r
      | fnv nm => exact r
      | exc a dx ns ds => exact r
      | imm d => exact r
      | own es =>
        obtain ⟨l, vs, r1, r2, r3, r4⟩ := r
        exact ⟨l, vs, r1, r2, at_ r3 (o.ntb r3 trivial), r4⟩
    · obtain ⟨r1, r2, r3⟩ := o.pr p hp
      exact ⟨at_ r1 (o.ntb r1 (o.pn p hp)), r2, r3⟩
theorem Gr.tr {H I H1 I1 H2 I2 : Hp} (a : Gr H I H1 I1) (b : Gr H1 I1 H2 I2) : Gr H I H2 I2 := ⟨a.h.tr b.h, a.i.tr b.i, b.s, fun x h1 h2 => by
  cases h : I1 x with
  | none => exact Ex.no a.h (b.n x h1 h)
  | some u => exact a.n x (by rw [h]; simp) h2⟩
/-- one's own lists out of sight -/
def hide (en : En) : En := en.map fun s => match s with
  | .own _ => .un
  | s => s
end Pd

set_option Elab.async false
set_option linter.all false
set_option maxRecDepth 100000
set_option maxHeartbeats 4000000
/-! try with any number of clauses, with a name or without. -/
namespace Pd
open PySem PySem.Spec PyProof.Rows L2
abbrev Sui := Addr → Value → Option Addr → TS
/-- a clause: its class, the slot of its name, its suite -/
abbrev Cla := Value × Option Nat × Sui
def endI (i : Nat) (D : Ends) : Ends := { nx := fun σ' H' => D.nx (σ'.set i none) H', rt := D.rt, bk := fun σ' H' => D.bk (σ'.set i none) H', ct := fun σ' H' => D.ct (σ'.set i none) H' }
/-- the first clause that takes it -/
def wCla (K : PySem.W.Frag) (Wout : WX) (D : Ends) : List Cla → WX
  | [], cls, d, σ, H => Wout cls d σ H
  | (c, n, ts) :: r, cls, d, σ, H => ∃ b, PySem.W.exmOne K cls c = some b ∧ (b = true → ∀ a, H a = none → match n with
      | none => ts a cls d D σ H
      | some i => ts a cls d (endI i D) (σ.set i (some (.ref a))) H) ∧ (b = false → wCla K Wout D r cls d σ H)
inductive ClaOk (X : Cx) : List ExceptHandler → List Cla → Prop
  | nil : ClaOk X [] []
  | plain {x : Str} {c : Value} {ts : Sui} {b₀ : Stmt} {suite : List Stmt} {np pos' : Pos} {hds : List ExceptHandler} {l : List Cla} (hc : Names X x c)
      (hsu : ∀ (a : Addr) (oe : Obj) (cls : Value) (d : Option Addr) (pn : List (Addr × Obj)), Zc cls d oe → (∃ vs, oe.data = .fields vs) → PSs (X.suite a ((a, oe) :: pn)) (b₀ :: suite) (ts a cls d)) (r : ClaOk X hds l) :
      ClaOk X (.ExceptHandler (some (.Name x np)) none (b₀ :: suite) pos' :: hds) ((c, none, ts) :: l)
  | named {x n : Str} {i : Nat} {c : Value} {ts : Sui} {b₀ : Stmt} {suite : List Stmt} {np pos' : Pos} {hds : List ExceptHandler} {l : List Cla} (hN : X.N.Nodup) (hi : X.N[i]? = some n) (hl : X.env.kindOf n = some .local) (hc : Names X x c)
      (hsu : ∀ (a : Addr) (oe : Obj) (cls : Value) (d : Option Addr) (pn : List (Addr × Obj)), Zc cls d oe → (∃ vs, oe.data = .fields vs) → PSs (X.suite a ((a, oe) :: pn)) (b₀ :: suite) (ts a cls d)) (r : ClaOk X hds l) :
      ClaOk X (.ExceptHandler (some (.Name x np)) (some n) (b₀ :: suite) pos' :: hds) ((c, some i, ts) :: l)
section
variable {X : Cx} {body : List Stmt} {h₀ : ExceptHandler} {hds : List ExceptHandler} {l : List Cla} {pos : Pos} {tb : WX → TS} {Wout : WX}
theorem ps_try_cl (hs : X.stack = X.env :: X.outer) (hf : X.env.frame = some X.env.locals) (tk : Takes X Wout)
    (hb : ∀ (W : WX) (pn : List (Addr × Obj)) (xe : Value → Shared → Prop), Takes (X.tr pn xe) W → PassesOwn (model X.prog X.w) X.A X.env xe → PSs (X.tr pn xe) body (tb W))
    (hh : ClaOk X (h₀ :: hds) l) : PS X (.Try body (h₀ :: hds) [] [] pos) (fun D σ H => tb (wCla X.K Wout D l) D σ H) := by
  refine ⟨fun pins s σ H D I h => wpAny_Try_except ?_⟩
  have ok := I.ok
  have hfr : X.A.frames = some (X.env :: X.outer) := ok.frames.trans (congrArg some hs)
  refine wpAny_mono ((hb (wCla X.K Wout D l) (X.pn ++ pins) (fun e s₁ => wpAny (model X.prog X.w) X.A (noteFrame e X.env) (fun _ s₂ => wpAny (model X.prog X.w) X.A (setFlight e none) (fun _ s₃ =>
    wpAny (model X.prog X.w) X.A (handleBy e X.env (h₀ :: hds)) (SP X pins D) X.xe s₃) X.xe s₂) X.xe s₁) (fun u s' xx => ?_) PassesOwn.looking).run [] s σ H D (I.toTry _) h) (fun f s1 hsp => ?_) fun _ _ he => he
  · obtain ⟨a, B, sI, _, σ', H', cls, d, rfl, J', nb, up, sky, na, os, ag, w⟩ := xx
    have J : Inv X pins σ' H' sI := J'.ofTry ok
    show wpAny (model X.prog X.w) X.A (noteFrame (.ref a) X.env) _ _ _
    refine Sky.land Zc.steady hfr hf (hs ▸ sky : Sky B (X.env :: X.outer) a (Zc cls d) X.env.locals s'.heap) fun h3 fl3 up3 => ?_
    have J3 : Inv X pins σ' H' { s' with heap := h3 } := J.landed nb fl3.1 (up.trans up3) os ag
    obtain ⟨oe3, vs3, he3, hz3, hd3⟩ := fl3.there
    have away : a ∉ frs (X.env :: X.outer) := fun hm => by
      obtain ⟨_, o', e', hnf⟩ := fl3.2.2.1.mem hm
      rw [he3] at e'
      cases e'
      exact hnf _ hd3
    have nL : a ≠ X.env.locals := fun z => away (List.mem_filterMap.mpr ⟨X.env, List.mem_cons_self, by rw [hf, z]⟩)
    have nF : a ∉ X.fs := fun hm => by
      obtain ⟨e, he, q⟩ := List.mem_filterMap.mp hm
      exact away (List.mem_filterMap.mpr ⟨e, List.mem_cons_of_mem _ he, q⟩)
    have S3 := J3.suite he3 hd3 na nL nF
    have LT : PySem.W.Looks (model X.prog X.w) h3 (typeOf (.ref a)) cls := fun A Q E s k q => wpAny_typeOf_ref (k _ _ he3) (by rw [hz3.1]; exact q)
    have test : ∀ {x : Str} {c : Value} {np : Pos} {Q : Value → Shared → Prop} {E : Value → Shared → Prop}, Names X x c → Q c { s' with heap := h3 } → wpAny (model X.prog X.w) (X.A.mark (some (.ref a))) (eval (.Name x np) X.env) Q E { s' with heap := h3 } := fun {x c np Q E} hc q => by
      obtain ⟨hg, hdbg, hm | ⟨hm, hv, hnn⟩⟩ := hc
      · exact ld_glob (X := X.suite a ((a, oe3) :: (X.pn ++ pins))) S3 hg hm q hdbg
      · exact ld_blt (X := X.suite a ((a, oe3) :: (X.pn ++ pins))) S3 hg hm hv q hnn hdbg
    have go : ∀ {hds' : List ExceptHandler} {l' : List Cla}, ClaOk X hds' l' → wCla X.K Wout D l' cls d σ' H' → wpAny (model X.prog X.w) X.A (handleBy (.ref a) X.env hds') (SP X pins D) X.xe { s' with heap := h3 } := by
      intro hds' l' hk
      induction hk with
      | nil =>
        intro w
        refine wpAny_handleBy_nil ?_
        obtain ⟨k1, k2, k3, oe, vs, T, oT, ts', he, hz, hd, h1, hr⟩ := id fl3
        unfold PySem.passOn
        refine wpAny_bind (wpAny_field he hd h1 ?_)
        rw [if_neg (show ¬ ((Value.ref T == Value.none) = true) from by simp)]
        have fin : wpAny (model X.prog X.w) X.A (setFlight (.ref a) X.env.frame) (fun _ s4 => wpAny (model X.prog X.w) X.A (throw (.ref a) : Sem Flow) (SP X pins D) X.xe s4) X.xe { s' with heap := h3 } := by
          rw [hf]
          exact HandSPX.setFlight_upZ fl3 fun h4 hh4 up4 => wpAny_throw (tk _ _ ⟨a, B, sI, pins, σ', H', cls, d, rfl, J, nb, (up.trans up3).trans up4, .inr (.inr (by rw [hs]; exact hh4)), na, os, ag, w⟩)
        first
          | exact wpAny_bind (wpAny_pure (wpAny_bind fin))
          | exact wpAny_bind fin
      | plain hc hsu r ih =>
        intro w
        obtain ⟨b, hb1, hyes, hno⟩ := w
        refine wpAny_handleBy_cons (codeAny_handlers_test (test hc ((PySem.W.exm_one (M := model X.prog X.w) J3.kIn LT hb1).here ?_))) (by intro q; cases q)
        cases b with
        | false => exact ih (hno rfl)
        | true =>
          refine codeAny_handlers_suite (HandSPX.lands_againZ fl3 fun h4 fl4 up4 => ?_)
          have J4 : Inv X pins σ' H' { s' with heap := h4 } := J.landed nb fl4.1 ((up.trans up3).trans up4) os ag
          obtain ⟨oe4, vs4, he4, hz4, hd4⟩ := fl4.there
          refine wpAny_mono ((hsu a oe4 cls d (X.pn ++ pins) hz4 ⟨_, hd4⟩).run [] _ _ H' _ (J4.suite he4 hd4 na nL nF) (hyes rfl a na)) (fun f s6 hsp => ?_) fun _ _ z => False.elim z
          match f, hsp with
          | .next, ⟨_, _, S6, q6⟩ => exact ⟨_, _, S6.unsuite ok, q6⟩
          | .brk, ⟨_, _, S6, q6⟩ => exact ⟨_, _, S6.unsuite ok, q6⟩
          | .cont, ⟨_, _, S6, q6⟩ => exact ⟨_, _, S6.unsuite ok, q6⟩
          | .ret u, ⟨_, _, _, S6, r6, q6⟩ => exact ⟨_, _, _, S6.unsuite ok, r6, q6⟩
      | @named x n i c ts b₀ suite np pos' hds2 l2 hN hi hl hc hsu r ih =>
        intro w
        obtain ⟨b, hb1, hyes, hno⟩ := w
        refine wpAny_handleBy_cons (codeAny_handlers_test (test hc ((PySem.W.exm_one (M := model X.prog X.w) J3.kIn LT hb1).here ?_))) (by intro q; cases q)
        cases b with
        | false => exact ih (hno rfl)
        | true =>
          refine codeAny_handlers_suite_as (HandSPX.lands_againZ fl3 fun h4 fl4 up4 => ?_)
          have J4 : Inv X pins σ' H' { s' with heap := h4 } := J.landed nb fl4.1 ((up.trans up3).trans up4) os ag
          obtain ⟨oe4, vs4, he4, hz4, hd4⟩ := fl4.there
          refine store_ok (X := X.suite a ((a, oe4) :: (X.pn ++ pins))) (v := .ref a) (J4.suite he4 hd4 na nL nF) hN hi (.inl hl) rfl (fun s5 S5 => ?_) (.inr hl)
          refine wpAny_mono ((hsu a oe4 cls d (X.pn ++ pins) hz4 ⟨_, hd4⟩).run [] s5 _ H' _ S5 (hyes rfl a na)) (fun f s6 hsp => ?_) fun _ _ z => False.elim z
          have end_ : ∀ {σ6 : L2.St} {H6 : Hp} {Q : Shared → Prop}, Inv (X.suite a ((a, oe4) :: (X.pn ++ pins))) [] σ6 H6 s6 → (∀ s7, Inv X pins (σ6.set i none) H6 s7 → Q s7) →
              wpAny (model X.prog X.w) X.A (do bindName X.env n .none; unbindBehindTheSuite X.env n pos') (fun _ s7 => Q s7) X.xe s6 := fun {σ6 H6 Q} S6 hq => gone_ok (S6.unsuite ok) hN hi hl hq
          match f, hsp with
          | .next, ⟨_, _, S6, q6⟩ => exact end_ S6 fun s7 J7 => ⟨_, _, J7, q6⟩
          | .brk, ⟨_, _, S6, q6⟩ => exact end_ S6 fun s7 J7 => ⟨_, _, J7, q6⟩
          | .cont, ⟨_, _, S6, q6⟩ => exact end_ S6 fun s7 J7 => ⟨_, _, J7, q6⟩
          | .ret u, ⟨_, _, _, S6, r6, q6⟩ => exact end_ S6 fun s7 J7 => ⟨_, _, _, J7, r6, q6⟩
    exact go hh w
  · match f, hsp with
    | .next, ⟨σ', H', J', q⟩ => exact wpAny_execs_nil ⟨σ', H', J'.ofTry ok, q⟩
    | .brk, ⟨σ', H', J', q⟩ => exact ⟨σ', H', J'.ofTry ok, q⟩
    | .cont, ⟨σ', H', J', q⟩ => exact ⟨σ', H', J'.ofTry ok, q⟩
    | .ret u, ⟨v, σ', H', J', r, q⟩ => exact ⟨v, σ', H', J'.ofTry ok, r, q⟩
end
/-- the number of slots is known where a statement runs -/
theorem pss_len {X : Cx} {st : List Stmt} {t : TS} (h : PSs X st t) : PSs X st (fun D σ H => σ.length = X.N.length → t D σ H) := ⟨fun pins s σ H D I q => h.run pins s σ H D I (q I.len)⟩
end Pd

set_option Elab.async false
set_option linter.all false
set_option maxRecDepth 100000
set_option maxHeartbeats 4000000
/-! def met(call): try: call() except .. : return ..; return ..: over data. -/
namespace Pd
open PySem PySem.Spec PyProof.Rows L2 LamX
/-- a clause over data: the class's name, the slot of its name, its suite (the exception's object, its dict) -/
abbrev ClaD := Str × Option Nat × (Addr → Addr → Str → WS)
def enU (n : Nat) : En := List.replicate n .un
/-- the suite hands back -/
def edR (Q : D → Prop) : Ed := { nx := fun _ => False, rt := fun d _ => Q d }
def clW (exB : Str → Str → Option Bool) (n : Nat) : List ClaD → Exc → (D → Prop) → Prop
  | [], _, _ => False
  | (c, none, ws) :: r, e, Q => ∃ b, exB e.nm c = some b ∧ if b = true then ∀ a dx, ws a dx e.nm (edR Q) (enU n) else clW exB n r e Q
  | (c, some i, ws) :: r, e, Q => ∃ b, exB e.nm c = some b ∧ if b = true then e.ns ≠ [] ∧ ∀ a dx, ws a dx e.nm (edR Q) ((enU n).set i (.exc a dx e.ns e.ds)) else clW exB n r e Q
/-- which class is one of which -/
def ExB (K : PySem.W.Frag) (exB : Str → Str → Option Bool) : Prop := ∀ x y b, exB x y = some b → PySem.W.exmOne K (.ref (He.ga K x)) (.ref (He.ga K y)) = some b
/-- a suite's reading -/
def tSui (K : PySem.W.Frag) (n : Nat) (nd : Bool) (ws : Addr → Addr → Str → WS) : Sui := fun a cls d D σ H => σ.length = n → ∃ dx nm, cls = .ref (He.ga K nm) ∧ (nd = true → d = some dx) ∧ lS K ζ0 (ws a dx nm) D σ H
theorem pss_sui {X : Cx} {st : List Stmt} {n : Nat} {nd : Bool} {ws : Addr → Addr → Str → WS} {a : Addr} {cls : Value} {d : Option Addr} (hn : X.N.length = n) (h : ∀ dx nm, cls = .ref (He.ga X.K nm) → (nd = true → d = some dx) → PSs X st (lS X.K ζ0 (ws a dx nm))) : PSs X st (tSui X.K n nd ws a cls d) := ⟨fun pins s σ H D I q => by
  obtain ⟨dx, nm, hc, hd, q⟩ := q (I.len.trans hn)
  exact (h dx nm hc hd).run pins s σ H D I q⟩
def claV (K : PySem.W.Frag) (n : Nat) (cl : List ClaD) : List Cla := cl.map fun c => (.ref (He.ga K c.1), c.2.1, tSui K n c.2.1.isSome c.2.2)
theorem ok_suite {K : PySem.W.Frag} {σ : Sg} {n : Nat} {H I : Hp} (iH : Ex I H) (hl : σ.length = n) : Ok K ζ0 ⟨H, I, none, []⟩ σ (enU n) H I := by
  have un_ : ∀ (i : Nat) (s : Sl), (enU n)[i]? = some s → s = .un := fun i s h => by
    unfold enU at h
    rw [List.getElem?_replicate] at h
    split at h
    · cases h; rfl
    · cases h
  have no : ∀ (i : Nat) (l : Addr), ¬ OwnAt σ (enU n) i l := fun i l ⟨_, ds, h⟩ => by cases un_ i _ h
  exact ⟨Ex.rf I, iH, fun a _ h => h, fun a o h _ _ => h, by unfold enU; rw [List.length_replicate]; exact hl, fun i s h => by rw [un_ i s h]; trivial, fun i l h => absurd h (no i l), fun i j l h => absurd h (no i l), fun l h => (by cases h), fun p hp => (by cases hp), fun p hp => (by cases hp), fun _ h => isTb_Nil h, Tabs_nil, fun _ _ _ _ _ => trivial⟩
theorem ok_suiteE {K : PySem.W.Frag} {σ : Sg} {n i : Nat} {H I : Hp} {a dx : Addr} {ns : List Str} {ds : List D} {vs : List V} (iH : Ex I H) (hl : σ.length = n) (h3 : I dx = some (.xd (ns.zip vs))) (h4 : ns.length = vs.length) (h5 : DaAll K I vs ds) : Ok K ζ0 ⟨H, I, none, []⟩ (σ.set i (some (.ref a))) ((enU n).set i (.exc a dx ns ds)) H I := by
  have o := ok_suite (K := K) (σ := σ.set i (some (.ref a))) (n := n) iH (by rw [List.length_set]; exact hl)
  have no : ∀ (j : Nat) (l : Addr), ¬ OwnAt (σ.set i (some (.ref a))) ((enU n).set i (.exc a dx ns ds)) j l := fun j l ⟨_, es, h⟩ => by
    rcases set_get h with ⟨_, h⟩ | ⟨_, h⟩
    · cases h
    · unfold enU at h
      rw [List.getElem?_replicate] at h
      split at h <;> cases h
  refine ⟨o.i0, o.iH, o.nw, o.fr, by rw [List.length_set (as := enU n)]; exact o.ln, fun j s h => ?_, fun i l h => absurd h (no i l), fun i j l h => absurd h (no i l), fun l h => (by cases h), fun p hp => (by cases hp), o.pn, o.tg, o.tt, fun _ _ _ _ _ => trivial⟩
  rcases set_get h with ⟨e1, h1⟩ | ⟨_, h1⟩
  · subst e1 h1
    refine ⟨?_, vs, h3, h4, h5⟩
    rw [List.getElem?_set, if_pos rfl]
    have : i < ((enU n).set i (.exc a dx ns ds)).length := (List.getElem?_eq_some_iff.mp h).1
    rw [List.length_set] at this
    unfold enU at this
    rw [List.length_replicate] at this
    simp [hl, this]
  · exact o.sl j s h1
/-- the clauses, told over data -/
theorem clW_run {K : PySem.W.Frag} {exB : Str → Str → Option Bool} {n : Nat} {H I : Hp} {Q : VK} {Qd : D → Prop} {nx bk ct : Sg → Hp → Prop} (ex : ExB K exB) (iH : Ex I H) (hQ : ∀ v H' I' z, Gr H I H' I' → Da K I' v z → Qd z → Q v H') {Wout : WX} {e : Exc} {cls : Value} {d : Option Addr} {σ : Sg} (he : ExcD K I cls d e) :
    ∀ (cl : List ClaD), clW exB n cl e Qd → wCla K Wout { nx := nx, rt := Q, bk := bk, ct := ct } (claV K n cl) cls d σ H := by
  intro cl
  induction cl with
  | nil => intro h; exact h.elim
  | cons x r ih =>
    obtain ⟨c, i, ws⟩ := x
    have ks : ∀ D' : Ends, D'.rt = Q → KS K ζ0 ⟨H, I, none, []⟩ (edR Qd) D' := fun D' e => by
      refine ⟨fun _ _ _ _ _ q => q.elim, fun v σ' H' I' en' z o' dv q => ?_, fun _ _ _ _ _ q => q.elim, fun _ _ _ _ _ q => q.elim⟩
      rw [e]
      exact hQ v H' I' z (Gr.core rfl o'.core) dv q
    cases i with
    | none =>
      rintro ⟨b, hb, h⟩
      refine ⟨b, by rw [he.1]; exact ex _ _ _ hb, fun hb' a na hl => ?_, fun hb' => ?_⟩
      · subst hb'
        rw [if_pos rfl] at h
        exact ⟨0, e.nm, he.1, fun h => (by cases h), lS_mk (ok_suite iH hl) (h a 0) (ks _ rfl)⟩
      · subst hb'
        rw [if_neg (by simp)] at h
        exact ih h
    | some i =>
      rintro ⟨b, hb, h⟩
      refine ⟨b, by rw [he.1]; exact ex _ _ _ hb, fun hb' a na hl => ?_, fun hb' => ?_⟩
      · subst hb'
        rw [if_pos rfl] at h
        obtain ⟨hne, h⟩ := h
        obtain ⟨h0, ⟨h1, _⟩ | ⟨dx, vs, h2, h3, h4, h5⟩⟩ := he
        · exact absurd h1 hne
        · exact ⟨dx, e.nm, h0, fun _ => h2, lS_mk (ok_suiteE iH (by rw [List.length_set] at hl; exact hl) h3 h4 h5) (h a dx) (ks _ rfl)⟩
      · subst hb'
        rw [if_neg (by simp)] at h
        exact ih h
/-- what such a def makes of the call's reading -/
def TTd (K : PySem.W.Frag) (exB : Str → Str → Option Bool) (n : Nat) (cl : List ClaD) (wl : WS) : (XK → Hp → VK → Prop) → Hp → VK → Prop := fun tl H Q =>
  ∃ (I : Hp) (Qd : D → Prop) (Re : Exc → Prop), Ex I H ∧ (∀ e, Re e → clW exB n cl e Qd) ∧ (∀ v H' I' z, Gr H I H' I' → Da K I' v z → Qd z → Q v H') ∧
    ∀ (E : XK) (Qn : VK), (∀ cls d H' I' e, Gr H I H' I' → ExcD K I' cls d e → Re e → E cls d H') → (∀ v H' I', Gr H I H' I' → wl (edR Qd) (enU n) → Qn v H') → tl E H Qn
section
variable {X : Cx} {x a : Str} {g : Addr} {cdg : Value} {sg : Scope} {Ng : List Str} {q : Str} {hds : List ExceptHandler} {h₀ : ExceptHandler} {last : List Stmt} {cl : List ClaD} {wl : WS} {exB : Str → Str → Option Bool} {p1 p2 p3 p4 : Pos} {n : Nat}
/-- try: a() / clauses; the rest hands back -/
theorem met_gives (hn : Ng.length = n) (h0 : ∀ f : Addr, (L2.start Ng [V.ref f])[0]? = some (some (V.ref f))) (h1 : ∀ f : Addr, (L2.start Ng [V.ref f]).length = n) (ex : ExB X.K exB)
    (hc : ∀ (s : Shared) (H : Hp), ClaOk (cxOf C8.CX0 X.prog X.w X.K X.mg X.base Ng x sg g cdg X.A X.stack s H C8.E0).nox (h₀ :: hds) (claV X.K n cl))
    (hl : ∀ (s : Shared) (H : Hp), PSs (cxOf C8.CX0 X.prog X.w X.K X.mg X.base Ng x sg g cdg X.A X.stack s H C8.E0).nox last (lS X.K ζ0 wl))
    (hsw : ∀ (env : Env), swapsWith (.Call (.Name a p1) [] [] p2) none p3.line env = pure false := by intro _; rfl) :
    GivesTo X Ng x sg g cdg (.Try [.Expr (.Call (.Name a p1) [] [] p2) p3] (h₀ :: hds) [] [] p4 :: last) a q (TTd X.K exB n cl wl) := by
  intro f c' s H Q tl act hcd ⟨I, Qd, Re, iH, hR, hQ, h⟩
  refine ⟨_, pss_cons (ps_try_cl (X := (cxOf C8.CX0 X.prog X.w X.K X.mg X.base Ng x sg g cdg X.A X.stack s H C8.E0).nox) (l := claV X.K n cl)
    (tb := fun W D σ H => ∃ Ech : XK, (∀ cls d σ' H', Ech cls d H' → W cls d σ' H') ∧ σ[0]? = some (some (.ref f)) ∧ H c' = some (CodeO c' q) ∧ tl Ech H fun _ H' => D.nx σ H')
    rfl rfl L2.takes0 (fun W pn xe tk _ => ?_) (hc s H)) (hl s H), ?_⟩
  · refine ⟨fun pins s' σ H' D I h' => ?_⟩
    obtain ⟨Ech, hW, g1, g2, g3⟩ := h'
    exact (pss_one (ps_expr (act W pn xe Ech p1 p2 tk hW) (hsw _))).run pins s' σ H' D I ⟨g1, g2, g3⟩
  · refine ⟨fun cls d H' => ∃ I' e, Gr H I H' I' ∧ ExcD X.K I' cls d e ∧ Re e, fun cls d σ' H' ⟨I', e, g, he, hr⟩ => ?_, h0 f, hcd, h _ _ (fun cls d H' I' e g he hr => ⟨I', e, g, he, hr⟩) fun v H' I' g hw => ?_⟩
    · exact clW_run ex g.s (fun v H'' I'' z g' dv qz => hQ v H'' I'' z (g.tr g') dv qz) he cl (hR e hr)
    · refine lS_mk (ok_suite g.s (h1 f)) hw ⟨fun _ _ _ _ _ q => q.elim, fun v σ' H'' I'' en' z o' dv qz => ?_, fun _ _ _ _ _ q => q.elim, fun _ _ _ _ _ q => q.elim⟩
      exact hQ v H'' I'' z (g.tr (Gr.core rfl o'.core)) dv qz
end
end Pd

set_option Elab.async false
set_option linter.all false
set_option maxRecDepth 100000
set_option maxHeartbeats 4000000
/-! met(lambda: ..) at its call; clauses' parts; error.f. -/
namespace Pd
open PySem PySem.Spec PyProof.Rows L2 LamX
theorem hide_get {en : En} {i : Nat} {s : Sl} (h : (hide en)[i]? = some s) : (s = .un) ∨ (en[i]? = some s ∧ ∀ ds, s ≠ .own ds) := by
  unfold hide at h
  rw [List.getElem?_map] at h
  cases q : en[i]? with
  | none => rw [q] at h; cases h
  | some t =>
    rw [q] at h
    cases t with
    | own ds => cases h; exact Or.inl rfl
    | _ => cases h; exact Or.inr ⟨rfl, fun ds e => by cases e⟩
theorem Ok.hid {K : PySem.W.Frag} {G : Gh} {σ : Sg} {en : En} {H I : Hp} (o : Ok K ζ G σ en H I) : Ok K ⟨[], fun _ _ => Gr H I⟩ ⟨H, I, none, []⟩ σ (hide en) H I := by
  have no : ∀ (i : Nat) (l : Addr), ¬ OwnAt σ (hide en) i l := fun i l ⟨_, ds, h⟩ => by
    rcases hide_get h with e | ⟨_, e⟩
    · cases e
    · exact e ds rfl
  refine ⟨Ex.rf I, o.iH, fun a _ h => h, fun a u h _ _ => h, by unfold hide; rw [List.length_map]; exact o.ln, fun i s h => ?_, fun i l h => absurd h (no i l), fun i j l h => absurd h (no i l), fun l h => (by cases h), fun p hp => (by cases hp), fun p hp => (by cases hp), fun _ h => isTb_Nil h, Tabs_nil, fun _ _ _ _ c => Gr.core rfl c⟩
  rcases hide_get h with e | ⟨e, _⟩
  · rw [e]; trivial
  · exact o.sl i s e
def wMet (exB : Str → Str → Option Bool) (n : Nat) (cl : List ClaD) (wl : WS) (wb : (Exc → En → Prop) → WE) : WE := fun en Q => wb (fun e _ => clW exB n cl e fun z => Q z en) (hide en) fun _ _ => wl (edR fun z => Q z en) (enU n)
section
variable {X : Cx} {x a : Str} {g c P : Addr} {fd : FuncData} {k n : Nat} {pg : Arguments} {bg : List Stmt} {sg : Scope} {Ng : List Str} {params : Arguments} {body : Expr} {scope : Scope} {p lpos pos : Pos} {exB : Str → Str → Option Bool} {cl : List ClaD} {wl : WS} {wb : (Exc → En → Prop) → WE}
theorem c_met (F : FunD X.K x x pg bg sg [] [] g fd) (hm : X.mg x = some (.ref g)) (hb : L2.Binds X.K fd [a] []) (Sg : FnScope Ng [a] sg) (hNg : Ng[0]? = some a) (hva : Vis sg a) (hG : ∀ cdv, GivesTo X Ng x sg g cdv bg a (X.env.qual ++ "<lambda>") (TTd X.K exB n cl wl))
    (TB : TabB X.base X.mg c P) (hcode : X.env.code = .ref c) (hmT : (P, X.env.qual ++ "<lambda>") ∈ ζ.T) (hu : ∀ p ∈ ζ.T, p.1 = P → p.2 = X.env.qual ++ "<lambda>") (hr : Room (k + 2) X.A) (L : LamS X.env.scope scope)
    (hbind : ∀ (q : Str) (cl : List (Str × Addr)) (pm cv ctv : Value), bindArgs (PySem.W.kla_fn "<lambda>" q params body scope cl pm cv ctv) ⟨[], []⟩ = pure [])
    (hbody : ∀ (A : Around) (outer : List Env) (s : Shared) (H : Hp) (E : XK) (f c' : Addr) (ζ' : Zt) (R : Exc → En → Prop), Room k (A.deeper (lamEnv X scope s.heap.objs.size f c')) → Takes (lamCx X A outer s H E scope f c') (wxOf X.K ζ' R) → PE (lamCx X A outer s H E scope f c') body (lE X.K ζ' (wb R)))
    (hg : Gl X x := by rfl) (hdef : defaultsOf params X.env = ([], []) := by rfl) (hdb : (x == ("__debug__" : Str)) = false := by decide) (hd : (a == ("__debug__" : Str)) = false := by decide) (hcd : (a == ("__classdict__" : Str)) = false := by decide) :
    PE X (.Call (.Name x p) [.Lambda params body scope lpos] [] pos) (lE X.K ζ (wMet exB n cl wl wb)) := by
  obtain ⟨oc, od, dV, kV, doc, pm, an, cdv, ct, osl, rfl, lk, hcd', _, _⟩ := F.ex
  refine (pe_lam (T := ζ.T) (TT := TTd X.K exB n cl wl) (t := fun E σ H Q => ∃ (ζ' : Zt) (R : Exc → En → Prop), (∀ cls d σ' H', wxOf X.K ζ' R cls d σ' H' → E cls d H') ∧ lE X.K ζ' (wb R) σ H Q) hg hm F.kp lk hcd' hb Sg hNg hva (hG cdv) TB hcode hmT hu hr L hdef hbind
    (fun A outer s H E f c' hr' => ⟨fun pins s' σ H' Q I ⟨ζ', R, hE, q⟩ => (hbody A outer s H E f c' ζ' R hr' (Takes.imp (takes_of rfl rfl rfl rfl) fun cls d σ H h => hE cls d σ H h)).run pins s' σ H' Q I q⟩) hdb hd hcd).mo ?_
  rintro σ H Q ⟨G, en, I, Q', o, q, k⟩
  refine ⟨o.tt, fun H1 w T1 => ?_⟩
  have o1 := o.tab w T1
  refine ⟨I, fun z => Q' z en, fun e => clW exB n cl e fun z => Q' z en, o1.iH, fun e h => h, fun v H' I' z g dv qz => k v H' I' en z (o1.gr g) g.i dv qz, fun E Qn hE hn => ?_⟩
  exact ⟨⟨[], fun _ _ => Gr H1 I⟩, fun e _ => clW exB n cl e fun z => Q' z en, fun cls d σ' H' ⟨_, I', e, g, he, r⟩ => hE cls d H' I' e g he r, ⟨H1, I, none, []⟩, hide en, I, _, o1.hid, q, fun v H' I' en' d o' x dv q' => hn v H' I' o'.z q'⟩
/-! ### clauses -/
theorem cla_nil : ClaOk X [] (claV X.K n []) := .nil
theorem cla_plain {y : Str} {ws : Addr → Addr → Str → WS} {b₀ : Stmt} {suite : List Stmt} {np pos' : Pos} {hds : List ExceptHandler} {l : List ClaD} (hn : X.N.length = n) (hm : X.mg y = some (.ref (He.ga X.K y))) (hsu : ∀ (a : Addr) (oe : Obj) (pn : List (Addr × Obj)) (dx : Addr) (nm : Str), PSs (X.suite a ((a, oe) :: pn)) (b₀ :: suite) (lS X.K ζ0 (ws a dx nm))) (r : ClaOk X hds (claV X.K n l))
    (hg : Gl X y := by rfl) (hdb : (y == ("__debug__" : Str)) = false := by decide) : ClaOk X (.ExceptHandler (some (.Name y np)) none (b₀ :: suite) pos' :: hds) (claV X.K n ((y, none, ws) :: l)) :=
  .plain ⟨hg, hdb, .inl hm⟩ (fun a oe cls d pn _ _ => pss_sui (X := X.suite a ((a, oe) :: pn)) (nd := false) hn fun dx nm _ _ => hsu a oe pn dx nm) r
theorem cla_named {y m : Str} {i : Nat} {ws : Addr → Addr → Str → WS} {b₀ : Stmt} {suite : List Stmt} {np pos' : Pos} {hds : List ExceptHandler} {l : List ClaD} (hn : X.N.length = n) (hm : X.mg y = some (.ref (He.ga X.K y))) (hN : X.N.Nodup) (hi : X.N[i]? = some m) (hl : X.env.kindOf m = some .local)
    (hsu : ∀ (a : Addr) (oe : Obj) (cls : Value) (pn : List (Addr × Obj)) (dx : Addr) (nm : Str), Zc cls (some dx) oe → (∃ vs, oe.data = .fields vs) → cls = .ref (He.ga X.K nm) → PSs (X.suite a ((a, oe) :: pn)) (b₀ :: suite) (lS X.K ζ0 (ws a dx nm))) (r : ClaOk X hds (claV X.K n l))
    (hg : Gl X y := by rfl) (hdb : (y == ("__debug__" : Str)) = false := by decide) : ClaOk X (.ExceptHandler (some (.Name y np)) (some m) (b₀ :: suite) pos' :: hds) (claV X.K n ((y, some i, ws) :: l)) :=
  .named hN hi hl ⟨hg, hdb, .inl hm⟩ (fun a oe cls d pn hz hf => pss_sui (X := X.suite a ((a, oe) :: pn)) (nd := true) hn fun dx nm hc hd => by
    have := hd rfl
    subst this
    exact hsu a oe cls pn dx nm hz hf hc) r
/-! ### error.f -/
def wEF (nms : List Str) (a dx : Addr) (nm : Str) (i : Nat) (f : Str) : WE := fun en Q => nm ∈ nms ∧ ∃ ns ds z, en[i]? = some (.exc a dx ns ds) ∧ fldOf ns ds f = some z ∧ Q z en
theorem d_efld {nms : List Str} {a dx : Addr} {oe : Obj} {cls : Value} {pn : List (Addr × Obj)} {nm f : Str} {i : Nat} {e : Expr} (hT : ∀ m ∈ nms, XfC X.K (He.ga X.K m) ∧ PySem.W.findIn X.K (.ref (He.ga X.K m)) f = some none) (hz : Zc cls (some dx) oe) (hf : ∃ vs, oe.data = .fields vs) (hc : cls = .ref (He.ga X.K nm))
    (he : PE (X.suite a ((a, oe) :: pn)) e (tVar i)) (hb : attributeBase e f X.env (eval e X.env) = eval e X.env := by rfl) : PE (X.suite a ((a, oe) :: pn)) (.Attribute e f pos) (lE X.K ζ (wEF nms a dx nm i f)) := by
  by_cases hn : nm ∈ nms
  · obtain ⟨T, hno⟩ := hT nm hn
    refine (pe_xf T hno hz hf he hb).mo fun σ H Q ⟨G, en, I, Q', o, ⟨_, ns, ds, z, h1, h2, q⟩, k⟩ => ?_
    obtain ⟨r1, vs, r2, r3, r4⟩ := o.sl i _ h1
    obtain ⟨v, hv, dv⟩ := fld_at r4 h2
    exact ⟨.ref a, r1, rfl, hc, dx, _, v, rfl, o.iH _ _ r2, hv, k v H I en z o (Ex.rf I) dv q⟩
  · exact ⟨fun pins s σ H Q I ⟨G, en, I', Q', o, ⟨h, _⟩, k⟩ => absurd h hn⟩
end
/-! ### repr -/
def RepOk (d : D) : Prop := (PyData.canLay0 d = true ∧ PyData.showable d = true ∧ PyData.depth d ≤ 100 ∧ (PyData.shown d).length ≤ sizeLine) ∨ d = .dict []
def dRepr : List D → D → Prop := fun xs z => ∃ d, xs = [d] ∧ RepOk d ∧ z = .str (PyData.shown d)
def rReprD (K : PySem.W.Frag) : List V → Hp → VK → Prop := fun xs H Q => ∃ x, xs = [x] ∧ ((∃ d, Dp K H x d ∧ PyData.showable d = true ∧ PyData.hasDict d = false ∧ PyData.depth d ≤ 100 ∧ (PyData.shown d).length ≤ sizeLine ∧ Q (.str (PyData.shown d)) H) ∨
  ∃ a, x = .ref a ∧ H a = some (.dK []) ∧ Q (.str (PyData.shown (.dict []))) H)
theorem snd_repr {K : PySem.W.Frag} : SndCl K (rReprD K) dRepr := by
  rintro H I xs ds z iH hx ⟨d, rfl, hr, rfl⟩ Q k
  cases hx with
  | cons h t =>
    cases t
    rcases hr with ⟨h1, h2, h3, h4⟩ | rfl
    · exact ⟨_, rfl, Or.inl ⟨d, da_dp d _ h1 (h.up iH), h2, PyData.hasDict_of_canLay d h1, h3, h4, k _ H I (Gr.rf iH) (.str _)⟩⟩
    · cases h with
      | dic h => exact ⟨_, rfl, Or.inr ⟨_, rfl, iH _ _ h, k _ H I (Gr.rf iH) (.str _)⟩⟩
theorem call_repr {X : Cx} (hG : X.A.guards = some []) (hu : X.A.units + 150 < cLine) : CallR X (.builtin "repr") (rReprD X.K) := by
  intro pins s σ H xs us Q I r h
  obtain ⟨x, rfl, h⟩ := h
  cases r with
  | cons r1 rn =>
    cases rn
    have fin : ∀ {h' : Heap} {d : D} {u : Tok} {tk : Nat}, (∀ b o, s.heap.get? b = some o → h'.get? b = some o) → Q (.str (PyData.shown d)) H → EP X pins σ Q (.str (PyData.shown d) u) { s with heap := h', toks := tk } := fun hk q => ⟨.str _, H, I.kept hk, ⟨_, rfl⟩, q⟩
    rcases h with ⟨d, hd, hs, hnd, hdp, hz, q⟩ | ⟨a, rfl, ha, q⟩
    · obtain ⟨as, hr⟩ := Dp.reads I d _ _ hd r1
      cases hr with
      | none => exact PySem.P.repr_of_none ⟨.str _, H, I.tok _, ⟨_, rfl⟩, q⟩
      | bool b => exact PySem.P.repr_of_bool ⟨.str _, H, I.tok _, ⟨_, rfl⟩, q⟩
      | int i t => exact PySem.P.repr_of_int (of_decide_eq_true hs) ⟨.str _, H, I.tok _, ⟨_, rfl⟩, q⟩
      | str y t => exact PySem.P.repr_of_str (h := ⟨.str _, H, I.tok _, ⟨_, rfl⟩, q⟩) (hsz := hz)
      | list h1 h2 h3 h4 => exact repr_of_reads' (.list h1 h2 h3 h4) hs (PyData.noDict_hsm hnd) hG (by omega) (fun _ _ e => e) (fun h' u tk hk => fin hk q) hz
      | tuple h1 h2 h3 h4 => exact repr_of_reads' (.tuple h1 h2 h3 h4) hs (PyData.noDict_hsm hnd) hG (by omega) (fun _ _ e => e) (fun h' u tk hk => fin hk q) hz
      | dict h1 h2 h3 h4 h5 => cases hnd
    · obtain rfl : _ = Value.ref a := r1
      have hk : ObjOk X.prog X.w H s.heap a (.dK []) := I.hok a _ ha
      obtain ⟨_, hsys, vs, rk, o, es, ep, e1, ⟨c1, _, _⟩, e3, _, hp, _⟩ := hk
      cases rk
      have hes : es.toList = [] := by
        generalize es.toList = l at hp
        cases hp
        rfl
      have hsys' : sysModules ∉ [a] := fun hm => by
        rw [← List.mem_singleton.mp hm] at hsys
        simp at hsys
      have hr : Reads s.heap (.ref a) (.dict []) (a :: [] ++ []) := .dict e1 c1 e3 (by rw [hes]; exact .nil) (by rw [hes]; exact .nil)
      exact repr_of_reads' hr (by simp [PyData.showable, PyData.showableKv]) (fun _ => hsys') hG (by show X.A.units + (PyData.depth (.dict []) + 1) < cLine; have : PyData.depth (.dict []) ≤ 10 := by decide
                                                                                                     omega) (fun _ _ e => e) (fun h' u tk hk => fin hk q) (by decide +kernel)
end Pd

set_option Elab.async false
set_option linter.all false
set_option maxRecDepth 100000
set_option maxHeartbeats 4000000
/-! Defs around which nothing is shown (no guard), tables; the law's end. -/
namespace Pd
open PySem PySem.Spec PyProof.Rows L2 LamX
structure FnG (P : Program) (w : World) (K : PySem.W.Frag) (mg : Str → Option Value) (base : Heap) (k : Nat) (f : Addr) (fd : FuncData) (ps : List Str) (sp : Sp) : Prop where
  len : ∀ vs H Q E, sp vs H Q E → vs.length = ps.length
  run : ∀ (A : Around) (outer : List Env) (s : Shared) (H : Hp) (args : Args) (us : List Value) (vs : List V) (Q : VK), A.guards = some [] → Room k A → Env0 P w K mg base A outer s H → BindsTo s fd args (ps.zip us) → Vals vs us → sp vs H Q E0 →
    codeAny (model P w) A (.call (.ref f) args) (CR CX0 outer P w H s Q E0) s
section
variable {P : Program} {w : World} {K : PySem.W.Frag} {mg : Str → Option Value} {base : Heap} {x qual : Str} {params : Arguments} {body : List Stmt} {scope : Scope} {fd : FuncData} {N ps : List Str} {k : Nat}
theorem fun_g {p : He.Defn} {sp : Sp} (F : FunD K x qual params body scope [] [] (He.fAd K p) fd) (S : FnScope N ps scope) (len : ∀ vs H Q E, sp vs H Q E → vs.length = ps.length)
    (hb : ∀ (A : Around) (outer : List Env) (s : Shared) (H : Hp) (vs : List V) (Q : VK), A.guards = some [] → Room k (A.deeper (envOfC qual scope s.heap.objs.size (He.fAd K p) (.ref (He.codeOf K p)))) → sp vs H Q E0 →
      ∃ t, PSs (cxOf CX0 P w K mg base N qual scope (He.fAd K p) (.ref (He.codeOf K p)) A outer s H E0) body t ∧ t { nx := fun _ H' => Q .non H', rt := Q } (L2.start N vs) H) : FnG P w K mg base (k + 1) (He.fAd K p) fd ps sp := by
  obtain ⟨oc, od, dV, kV, doc, pm, an, cdv, ct, osl, rfl, lk, hcd, _, _⟩ := F.ex
  obtain ⟨c, rfl⟩ := He.codeIn_ref hcd
  have e : He.codeOf K p = c := He.codeOf_eq lk rfl
  subst e
  exact ⟨len, fun A outer s H args us vs Q hg hr e0 hbd r hs => run_ofS lk hcd S hr e0 hbd r (len _ _ _ _ hs) fun hr' => hb A outer s H vs Q hg hr' hs⟩
end
/-- as spJ, where tables may be written -/
def spJT (K : PySem.W.Frag) (T : List (Addr × Str)) (n : Nat) (wf : WJ) : Sp := fun vs H Q _ => ∃ (j : Addr) (vj : List V) (dj : List D) (us : List V) (ds : List D) (I : Hp) (Q' : D → List D → Prop),
  vs = .ref j :: us ∧ I j = none ∧ H j = some (.lst vj) ∧ DaAll K I vj dj ∧ Ex I H ∧ DaAll K I us ds ∧ ds.length + 1 = n ∧ Tabs T H ∧ (∀ a ∈ T.map (·.1), I a = none) ∧ wf dj ds Q' ∧
  ∀ v H' I' d vj' dj', (∀ a o, a ≠ j → a ∉ T.map (·.1) → H a = some o → H' a = some o) → Tabs T H' → Ex I I' → Ex I' H' → (∀ a, I' a ≠ none → I a = none → H a = none) → H' j = some (.lst vj') → DaAll K I' vj' dj' → Da K I' v d → Q' d dj' → Q v H'
def spST (K : PySem.W.Frag) (T : List (Addr × Str)) (n : Nat) (wf : WSc) : Sp := fun vs H Q _ => ∃ (a : Addr) (ns : List Int) (us : List V) (ds : List D) (I : Hp) (Q' : D → Prop),
  vs = .ref a :: us ∧ Ex I H ∧ SqS K I a (ns.map V.int) ∧ DaAll K I us ds ∧ ds.length + 1 = n ∧ Tabs T H ∧ (∀ a ∈ T.map (·.1), I a = none) ∧ wf ns ds Q' ∧ ∀ v H' I' d, Da K I' v d → Q' d → Q v H'
/-- with tables T -/
abbrev ζT (T : List (Addr × Str)) : Zt := ⟨T, fun _ _ _ _ => True⟩
section
variable {P : Program} {w : World} {K : PySem.W.Frag} {mg : Str → Option Value} {base : Heap} {x qual : Str} {params : Arguments} {body : List Stmt} {scope : Scope} {fd : FuncData} {N ps : List Str} {k : Nat} {T : List (Addr × Str)}
theorem enJ_get {N : List Str} {j : Addr} {us : List V} {dj ds : List D} {I : Hp} (h2 : DaAll K I us ds) : ∀ (i : Nat) (s : Sl), (enJ N dj ds)[i]? = some s → (i = 0 ∧ s = .own dj) ∨ (∃ d v, Da K I v d ∧ s = .imm d ∧ (L2.start N (V.ref j :: us))[i]? = some (some v)) ∨ s = .un := fun i s hs => by
  have hl : us.length = ds.length := dpa_len h2
  unfold enJ at hs
  cases i with
  | zero => exact Or.inl ⟨rfl, by simpa using hs.symm⟩
  | succ i =>
    rw [List.getElem?_cons_succ] at hs
    by_cases hi : i < ds.length
    · rw [List.getElem?_append_left (by rw [List.length_map]; exact hi), List.getElem?_map] at hs
      cases q : ds[i]? with
      | none => rw [q] at hs; cases hs
      | some d =>
        rw [q] at hs
        cases hs
        obtain ⟨v, hv, dv⟩ := dpa_get h2 q
        refine Or.inr (Or.inl ⟨d, v, dv, rfl, ?_⟩)
        unfold L2.start
        rw [List.getElem?_append_left (by rw [List.length_map, List.length_cons, hl]; omega), List.getElem?_map, List.getElem?_cons_succ, hv]
        rfl
    · rw [List.getElem?_append_right (by rw [List.length_map]; omega), List.getElem?_replicate] at hs
      split at hs
      · cases hs; exact Or.inr (Or.inr rfl)
      · cases hs
theorem fnJT {p : He.Defn} {wf : WJ} {ws : WS} {n : Nat} (F : FunD K x qual params body scope [] [] (He.fAd K p) fd) (S : FnScope N ps scope) (hn : ps.length = n)
    (hb : ∀ (A : Around) (outer : List Env) (s : Shared) (H : Hp), A.guards = some [] → Room k (A.deeper (envOfC qual scope s.heap.objs.size (He.fAd K p) (.ref (He.codeOf K p)))) → PSs (cxOf CX0 P w K mg base N qual scope (He.fAd K p) (.ref (He.codeOf K p)) A outer s H E0).nox body (lS K (ζT T) ws))
    (hp : ∀ dj ds Q', ds.length + 1 = n → wf dj ds Q' → ws (edJ Q') (enJ N dj ds)) : FnG P w K mg base (k + 1) (He.fAd K p) fd ps (spJT K T n wf) := by
  refine fun_g F S (fun vs H Q E h => ?_) fun A outer s H vs Q hg hr h => ?_
  · obtain ⟨j, vj, dj, us, ds, I, Q', rfl, _, _, _, _, h6, h7, _⟩ := h
    rw [List.length_cons, dpa_len h6, h7, hn]
  · obtain ⟨j, vj, dj, us, ds, I, Q', rfl, g1, g2, g3, h1, h2, h3, ht, hi, h4, h5⟩ := h
    refine ⟨lS K (ζT T) ws, PSs.nox (hb A outer s H hg hr), ?_⟩
    have hl : us.length = ds.length := dpa_len h2
    have s0 : (L2.start N (V.ref j :: us))[0]? = some (some (V.ref j)) := by unfold L2.start; simp
    have get_ := fun i s => enJ_get (N := N) (j := j) (dj := dj) h2 i s
    have own0 : ∀ (i : Nat) (l : Addr), OwnAt (L2.start N (V.ref j :: us)) (enJ N dj ds) i l → i = 0 ∧ l = j := fun i l ⟨q1, es, q2⟩ => by
      rcases get_ i _ q2 with ⟨e, _⟩ | ⟨d, v, _, e, _⟩ | e
      · subst e
        rw [s0] at q1
        injection q1 with q1; injection q1 with q1; injection q1 with q1
        exact ⟨rfl, q1.symm⟩
      · cases e
      · cases e
    have o : Ok K (ζT T) ⟨H, I, some j, []⟩ (L2.start N (V.ref j :: us)) (enJ N dj ds) H I := by
      refine ⟨Ex.rf I, h1, fun a _ h => h, fun a o h _ _ => h, ?_, fun i s hs => ?_, fun i l h => ?_, fun a b l h g => ?_, fun l h => ?_, fun p hp => (by cases hp), fun p hp => (by cases hp), hi, ht, fun _ _ _ _ _ => trivial⟩
      · unfold L2.start enJ
        rw [List.length_append, List.length_map, List.length_replicate, List.length_cons, List.length_cons, List.length_append, List.length_map, List.length_replicate]
        omega
      · rcases get_ i s hs with ⟨e1, e2⟩ | ⟨d, v, q3, e, q5⟩ | e
        · subst e1 e2
          exact ⟨j, vj, s0, g1, g2, g3⟩
        · subst e
          exact ⟨v, q5, q3⟩
        · subst e; trivial
      · obtain ⟨_, e⟩ := own0 i l h
        exact Or.inl (by rw [e])
      · rw [(own0 a l h).1, (own0 b l g).1]
      · have e : j = l := Option.some.inj h
        subst e
        exact ⟨s0, dj, rfl⟩
    have fin : ∀ {v σ' H' I' en' d}, Ok K (ζT T) ⟨H, I, some j, []⟩ σ' en' H' I' → Da K I' v d → (∀ dj, en'[0]? = some (.own dj) → Q' d dj) → Q v H' := fun {v σ' H' I' en' d} o' dv q => by
      obtain ⟨p1, dj', p2⟩ := o'.pj j rfl
      obtain ⟨l, vs', r1, r2, r3, r4⟩ := o'.own p2
      rw [p1] at r1
      have e : j = l := by injection r1 with r1; injection r1 with r1; injection r1
      subst e
      refine h5 v H' I' d vs' dj' (fun a u ha hb q => o'.fr a u q (fun e => ha (Option.some.inj e).symm) hb) o'.tt o'.i0 o'.iH (fun a h1 h2 => ?_) r3 r4 dv (q dj' p2)
      cases z : H a with
      | none => rfl
      | some u => exact absurd (o'.nw a (show H a ≠ none by rw [z]; simp) h2) h1
    exact lS_mk o (hp dj ds Q' h3 h4) ⟨fun σ' H' I' en' o' q => fin o' .non q, fun v σ' H' I' en' d o' dv q => fin o' dv q, fun _ _ _ _ _ q => q.elim, fun _ _ _ _ _ q => q.elim⟩
def CalG (P : Program) (w : World) (K : PySem.W.Frag) (mg : Str → Option Value) (base : Heap) (k : Nat) (x : Str) (ps : List Str) (sp : Sp) : Prop :=
  ∃ (f : Addr) (fd : FuncData), FnG P w K mg base k f fd ps sp ∧ mg x = some (.ref f) ∧ PySem.W.keepIn K (.ref f) = true ∧ Binds K fd ps []
end
section
variable {X : Cx} {e : Expr} {es : List Expr} {pos p : Pos} {x : Str} {k n : Nat} {ps : List Str} {f : Addr} {fd : FuncData} {sp : Sp} {t : TA}
theorem pe_callG (F : FnG X.prog X.w X.K X.mg X.base k f fd ps sp) (hG : X.A.guards = some []) (hr : Room k X.A) (hg : Gl X x) (hm : X.mg x = some (.ref f)) (hk : PySem.W.keepIn X.K (.ref f) = true) (hb : Binds X.K fd ps [])
    (ha : PA X (e :: es) t) (hdb : (x == ("__debug__" : Str)) = false := by decide) (he : starEach (e :: es) X.env = (false, eval e X.env) :: starEach es X.env := by rfl) (hpl : (backTo pos (starEach es X.env)).any (·.1) = false := by rfl) :
    PE X (.Call (.Name x p) (e :: es) [] pos) (fun σ H Q => t σ H fun vs H1 => sp vs H1 Q E0) := by
  refine ⟨fun pins s σ H Q I h => wpAny_Call_Name_kw (ld_glob I hg hm ?_ hdb)⟩
  refine PySem.W.callWith_K (h₀ := X.base) I.ok.mod.kin hk (thn (ha.run pos pins s σ H _ I h) fun us s1 ⟨vs, H1, I1, r, q⟩ => ⟨I1.kIn, ?_⟩) he hpl
  have hl : us.length = ps.length := by rw [← r.length]; exact F.len _ _ _ _ q
  have b := hb s1 us I1.kIn (by rw [List.append_nil]; exact hl)
  rw [List.append_nil] at b
  refine wpAny_call (codeAny_mono (F.run X.A X.stack s1 H1 ⟨us, []⟩ us vs Q hG hr I1.env0 b r q) fun r s' hq => ?_)
  match r, hq with
  | .error e, hq => exact (show False from hq).elim
  | .ok (.ret u), hq => exact I1.after hq
  | .ok .next, hq => exact False.elim hq
  | .ok .brk, hq => exact False.elim hq
  | .ok .cont, hq => exact False.elim hq
theorem c_callJT {wf : WJ} {w : WA} {i : Nat} (C : CalG X.prog X.w X.K X.mg X.base k x ps (spJT X.K ζ.T n wf)) (hG : X.A.guards = some []) (hr : Room k X.A) (h0 : PE X e (tVar i)) (ha : PA X es (lA X.K ζ w)) (hg : Gl X x := by rfl)
    (hdb : (x == ("__debug__" : Str)) = false := by decide) (he : starEach (e :: es) X.env = (false, eval e X.env) :: starEach es X.env := by rfl) (hpl : (backTo pos (starEach es X.env)).any (·.1) = false := by rfl) :
    PE X (.Call (.Name x p) (e :: es) [] pos) (lE X.K ζ (wFnJ i n wf w)) := by
  obtain ⟨f, fd, F, hm, hk, hb⟩ := C
  refine (pe_callG F hG hr hg hm hk hb (pa_cons h0 ha he) hdb he hpl).mo fun σ H Q ⟨G, en, I, Q', o, ⟨⟨dj0, hj0⟩, q⟩, k⟩ => ?_
  obtain ⟨j, _, hj, _⟩ := o.own hj0
  refine ⟨.ref j, hj, G, en, I, _, o, q, fun vs H1 I1 e1 ds o1 x1 dvs ⟨hn, dj, hd, q1⟩ => ?_⟩
  obtain ⟨l, vj, r1, r2, r3, r4⟩ := o1.own hd
  rw [hj] at r1
  have q5 : j = l := by injection r1 with r1; injection r1 with r1; injection r1
  subst q5
  refine ⟨j, vj, dj, vs, ds, I1, _, rfl, r2, r3, r4, o1.iH, dvs, hn, o1.tt, o1.tg, q1, fun v H2 I2 d vj' dj' k1 kt k2 k3 k4 k5 k6 k7 k8 => ?_⟩
  exact k v H2 I2 _ d (o1.turnT ⟨hj, dj, hd⟩ k1 kt k2 k3 k4 k5 k6) (x1.tr k2) k7 k8
end
end Pd

set_option Elab.async false
set_option linter.all false
set_option maxRecDepth 100000
set_option maxHeartbeats 4000000
/-! The law's own def with tables, and the row's end. -/
namespace Pd
open PySem PySem.Spec PyProof.Rows L2 LamX
theorem enS_get {K : PySem.W.Frag} {N : List Str} {a : Addr} {us : List V} {ns : List Int} {ds : List D} {I : Hp} (h2 : DaAll K I us ds) : ∀ (i : Nat) (s : Sl), (enS N ns ds)[i]? = some s → (i = 0 ∧ s = .scr ns) ∨ (∃ d v, Da K I v d ∧ s = .imm d ∧ (L2.start N (V.ref a :: us))[i]? = some (some v)) ∨ s = .un := fun i s hs => by
  have hl : us.length = ds.length := dpa_len h2
  unfold enS at hs
  cases i with
  | zero => exact Or.inl ⟨rfl, by simpa using hs.symm⟩
  | succ i =>
    rw [List.getElem?_cons_succ] at hs
    by_cases hi : i < ds.length
    · rw [List.getElem?_append_left (by rw [List.length_map]; exact hi), List.getElem?_map] at hs
      cases q : ds[i]? with
      | none => rw [q] at hs; cases hs
      | some d =>
        rw [q] at hs
        cases hs
        obtain ⟨v, hv, dv⟩ := dpa_get h2 q
        refine Or.inr (Or.inl ⟨d, v, dv, rfl, ?_⟩)
        unfold L2.start
        rw [List.getElem?_append_left (by rw [List.length_map, List.length_cons, hl]; omega), List.getElem?_map, List.getElem?_cons_succ, hv]
        rfl
    · rw [List.getElem?_append_right (by rw [List.length_map]; omega), List.getElem?_replicate] at hs
      split at hs
      · cases hs; exact Or.inr (Or.inr rfl)
      · cases hs
section
variable {P : Program} {w : World} {K : PySem.W.Frag} {mg : Str → Option Value} {base : Heap} {x qual : Str} {params : Arguments} {body : List Stmt} {scope : Scope} {fd : FuncData} {N ps : List Str} {k : Nat} {T : List (Addr × Str)}
theorem fnST {p : He.Defn} {wf : WSc} {ws : WS} {n : Nat} (F : FunD K x qual params body scope [] [] (He.fAd K p) fd) (S : FnScope N ps scope) (hn : ps.length = n)
    (hb : ∀ (A : Around) (outer : List Env) (s : Shared) (H : Hp), A.guards = some [] → Room k (A.deeper (envOfC qual scope s.heap.objs.size (He.fAd K p) (.ref (He.codeOf K p)))) → PSs (cxOf CX0 P w K mg base N qual scope (He.fAd K p) (.ref (He.codeOf K p)) A outer s H E0).nox body (lS K (ζT T) ws))
    (hp : ∀ ns ds Q', ds.length + 1 = n → wf ns ds Q' → ws (edP Q') (enS N ns ds)) : FnG P w K mg base (k + 1) (He.fAd K p) fd ps (spST K T n wf) := by
  refine fun_g F S (fun vs H Q E h => ?_) fun A outer s H vs Q hg hr h => ?_
  · obtain ⟨a, ns, us, ds, I, Q', rfl, _, _, h6, h7, _⟩ := h
    rw [List.length_cons, dpa_len h6, h7, hn]
  · obtain ⟨a, ns, us, ds, I, Q', rfl, h1, h0, h2, h3, ht, hi, h4, h5⟩ := h
    refine ⟨lS K (ζT T) ws, PSs.nox (hb A outer s H hg hr), ?_⟩
    have hl : us.length = ds.length := dpa_len h2
    have get_ := fun i s => enS_get (N := N) (a := a) (ns := ns) h2 i s
    have s0 : (L2.start N (V.ref a :: us))[0]? = some (some (V.ref a)) := by unfold L2.start; simp
    have no : ∀ (i : Nat) (l : Addr), ¬ OwnAt (L2.start N (V.ref a :: us)) (enS N ns ds) i l := fun i l ⟨_, es, q2⟩ => by
      rcases get_ i _ q2 with ⟨_, e⟩ | ⟨_, _, _, e, _⟩ | e <;> cases e
    have o : Ok K (ζT T) ⟨H, I, none, []⟩ (L2.start N (V.ref a :: us)) (enS N ns ds) H I := by
      refine ⟨Ex.rf I, h1, fun a _ h => h, fun a o h _ _ => h, ?_, fun i s hs => ?_, fun i l h => absurd h (no i l), fun i j l h => absurd h (no i l), fun l h => (by cases h), fun p hp => (by cases hp), fun p hp => (by cases hp), hi, ht, fun _ _ _ _ _ => trivial⟩
      · unfold L2.start enS
        rw [List.length_append, List.length_map, List.length_replicate, List.length_cons, List.length_cons, List.length_append, List.length_map, List.length_replicate]
        omega
      · rcases get_ i s hs with ⟨e1, e2⟩ | ⟨d, v, q3, e, q5⟩ | e
        · subst e1 e2
          exact ⟨a, s0, h0⟩
        · subst e
          exact ⟨v, q5, q3⟩
        · subst e; trivial
    exact lS_mk o (hp ns ds Q' h3 h4) ⟨fun σ' H' I' en' o' q => h5 .non H' I' .none .non q, fun v σ' H' I' en' d o' dv q => h5 v H' I' d dv q, fun _ _ _ _ _ q => q.elim, fun _ _ _ _ _ q => q.elim⟩
end
/-- the law hands back True -/
theorem law_spT {K : PySem.W.Frag} {n : Nat} {H : Hp} {a : Addr} {ns : List Int} {T : List (Addr × Str)} (hn : ns.length ≤ n) (ht : Tabs T H) (hS : (∃ o, H a = some (.frz o (.lst (ns.map V.int)))) ∨ ∀ H', SqL K H' a (ns.map V.int)) (haT : a ∉ T.map (·.1)) : spST K T 1 (wfLaw n) [.ref a] H (fun v _ => v = .bl true) E0 := by
  refine ⟨a, ns, [], [], fun b => if b = a then H a else none, fun d => d = .bool true, rfl, fun b u h => ?_, ?_, .nil, rfl, ht, fun b hb => if_neg fun e => haT (by rw [← e]; exact hb), ⟨rfl, hn, rfl⟩, fun v H' I' d dv hd => by subst hd; exact dp_bl dv⟩
  · have h : (if b = a then H a else none) = some u := h
    by_cases e : b = a
    · rw [if_pos e] at h; rw [e]; exact h
    · rw [if_neg e] at h; cases h
  · rcases hS with ⟨o, h⟩ | h
    · exact Or.inl ⟨o, (if_pos rfl).trans h⟩
    · exact Or.inr h
/-- the tables cs and the script, as they stand at the law's call -/
structure Start (K : PySem.W.Frag) (h : Heap) (H : Hp) (a : Addr) (vs : List Value) (ns : List Int) (cs : List (Addr × Addr)) : Prop where
  tb : ∀ p ∈ cs, H p.2 = some (.tbl #[])
  only : ∀ b u, H b = some u → (b = a ∧ u = .frz { cls := .type "list", data := .seq vs.toArray } (.lst (ns.map V.int)) ∧ K.lookup a = none) ∨ (∃ p ∈ cs, b = p.2 ∧ u = .tbl #[])
  sq : (∃ o, H a = some (.frz o (.lst (ns.map V.int)))) ∨ ∀ H', SqL K H' a (ns.map V.int)
theorem start_ex {K : PySem.W.Frag} {h : Heap} {a : Addr} {vs : List Value} {ns : List Int} {cs : List (Addr × Addr)} (KX : K.In h) (hT : ∀ p ∈ cs, h.get? p.2 = some { cls := .none, data := .fields #[] }) (ha : h.get? a = some { cls := .type "list", data := .seq vs.toArray }) (hi : IntsAre vs ns) (hl : ns.length ≤ sizeLine) :
    ∃ H, Start K h H a vs ns cs := by
  have aT : ∀ p ∈ cs, p.2 ≠ a := fun p hp e => by
    have q := hT p hp
    rw [e, ha] at q
    cases q
  have tb1 : ∀ p ∈ cs, p.2 ∈ cs.map (·.2) := fun p hp => List.mem_map.mpr ⟨p, hp, rfl⟩
  cases hk : K.lookup a with
  | some o =>
    have e := KX a o hk
    rw [ha] at e
    cases e
    refine ⟨fun b => if b ∈ cs.map (·.2) then some (.tbl #[]) else none, fun p hp => if_pos (tb1 p hp), fun b u hu => ?_, Or.inr fun H' => Or.inr ⟨_, vs.toArray, _, hk, rfl, rfl, rfl, by rw [List.size_toArray, hi.length]; exact hl, by simpa using vals_ints hi⟩⟩
    by_cases hb : b ∈ cs.map (·.2)
    · have hu' := (if_pos hb).symm.trans hu
      obtain ⟨p, hp, e⟩ := List.mem_map.mp hb
      exact Or.inr ⟨p, hp, e.symm, (Option.some.inj hu').symm⟩
    · have hu' := (if_neg hb).symm.trans hu
      cases hu'
  | none =>
    refine ⟨fun b => if b = a then some (.frz { cls := .type "list", data := .seq vs.toArray } (.lst (ns.map V.int))) else if b ∈ cs.map (·.2) then some (.tbl #[]) else none, fun p hp => (if_neg (aT p hp)).trans (if_pos (tb1 p hp)), fun b u hu => ?_, Or.inl ⟨_, if_pos rfl⟩⟩
    by_cases hba : b = a
    · have hu' := (if_pos hba).symm.trans hu
      exact Or.inl ⟨hba, (Option.some.inj hu').symm, hk⟩
    · have hu1 := (if_neg hba).symm.trans hu
      by_cases hb : b ∈ cs.map (·.2)
      · have hu' := (if_pos hb).symm.trans hu1
        obtain ⟨p, hp, e⟩ := List.mem_map.mp hb
        exact Or.inr ⟨p, hp, e.symm, (Option.some.inj hu').symm⟩
      · have hu' := (if_neg hb).symm.trans hu1
        cases hu'
section
variable {P : Program} {w : World} {K : PySem.W.Frag} {mg mb : Str → Option Value} {k : Nat} {fa a : Addr} {cs : List (Addr × Addr)} {fd : FuncData} {x : Str} {sp : Sp} {s₁ : Shared} {vs : List Value} {ns : List Int}
/-- the law's call, in a heap of which the script and the tables are known -/
theorem law_callG (KX : K.In s₁.heap) (hns : s₁.heap.Ns mainGlobals mg) (hb : s₁.heap.Ns builtinsNs mb) (hbb : ∀ x : Str, x ≠ "__name__" → mb x = bootBuiltins x) (hlim : s₁.heap.NoLimit) (hg : s₁.gens = #[])
    (hT : ∀ p ∈ cs, s₁.heap.get? p.2 = some { cls := .none, data := .fields #[] }) (nT : ∀ p ∈ cs, K.lookup p.2 = none) (C : ∀ p ∈ cs, PySem.W.CodeHd s₁.heap p.1 p.2)
    (hbm : ∃ (bm : Addr) (ob : Obj), mg "__builtins__" = some (.ref bm) ∧ bm ≠ builtinsNs ∧ s₁.heap.get? bm = some ob ∧ ob.cls = .type "module" ∧ ob.dict = some builtinsNs ∧ ob.data = .plain)
    (ha : s₁.heap.get? a = some { cls := .type "list", data := .seq vs.toArray }) (hi : IntsAre vs ns) (hl : ns.length ≤ sizeLine) (hr : Room k callerA)
    (F : ∀ base : Heap, K.In base → base.Ns mainGlobals mg → (∀ p ∈ cs, TabB base mg p.1 p.2) → FnG P w K mg base k fa fd [x] sp) (hbind : ∀ (s : Shared) (u : Value), BindsTo s fd ⟨[u], []⟩ [(x, u)])
    (hsp : ∀ H : Hp, Start K s₁.heap H a vs ns cs → sp [.ref a] H (fun v _ => v = .bl true) E0) :
    codeAny (model P w) callerA (.call (.ref fa) ⟨[.ref a], []⟩) (fun r s' => r = .ok (.ret (.bool true)) ∧ OldK s₁.heap s'.heap ∧ s'.os = s₁.os ∧ AllBare s'.gens) s₁ := by
  obtain ⟨H, S⟩ := start_ex KX hT ha hi hl
  -- what is tracked is a list or an empty record
  have kinds : ∀ {b : Addr} {u : HO} {o : Obj}, H b = some u → s₁.heap.get? b = some o → (∃ vs n, o.data = .seq vs n) ∨ o = { cls := .none, data := .fields #[] } := fun {b u o} h e => by
    rcases S.only b u h with ⟨rfl, _, _⟩ | ⟨p, hp, rfl, _⟩
    · rw [ha] at e; cases e; exact Or.inl ⟨_, _, rfl⟩
    · rw [hT p hp] at e; cases e; exact Or.inr rfl
  have free : ∀ {b : Addr} {o : Obj}, s₁.heap.get? b = some o → (∀ vs n, o.data ≠ .seq vs n) → o.data ≠ .fields #[] → H b = none := fun {b o} e h1 h2 => by
    cases q : H b with
    | none => rfl
    | some u =>
      rcases kinds q e with ⟨vs, n, z⟩ | z
      · exact absurd z (h1 vs n)
      · exact absurd (by rw [z]) h2
  have low : ∀ {b : Addr} {o : Obj}, s₁.heap.get? b = some o → (∀ vs n, o.data ≠ .seq vs n) → o.data ≠ .fields #[] → (hidT s₁.heap H).get? b = some o := fun e h1 h2 => hidT_get e (free e h1 h2)
  have spaces : ∀ {b : Addr} {m : Str → Option Value}, s₁.heap.Ns b m → (hidT s₁.heap H).Ns b m := fun {b m} ⟨o, es, ep, e, d, r⟩ => ⟨o, es, ep, low e (fun _ _ z => by rw [d] at z; cases z) (fun z => by rw [d] at z; cases z), d, r⟩
  have KB : K.In (hidT s₁.heap H) := fun b o e => hidT_get (KX b o e) (by
    cases q : H b with
    | none => rfl
    | some u =>
      rcases S.only b u q with ⟨rfl, _, z⟩ | ⟨p, hp, rfl, _⟩
      · rw [z] at e; cases e
      · rw [nT p hp] at e; cases e)
  have hM : L2.Mod K mg (hidT s₁.heap H) := ⟨KB, spaces hns, ⟨mb, spaces hb, hbb⟩, let ⟨mc, h1, h2⟩ := hlim; ⟨mc, spaces h1, h2⟩⟩
  have TB : ∀ p ∈ cs, TabB (hidT s₁.heap H) mg p.1 p.2 := fun p hp => by
    refine ⟨?_, ?_, fun z => ?_⟩
    · obtain ⟨o, us, file, tf, flags, tg, inF, text, tt, e1, r1, r2, r3, rest⟩ := C p hp
      exact ⟨o, us, file, tf, flags, tg, inF, text, tt, low e1 (fun _ _ z => by rw [r2] at z; cases z) (fun z => by rw [r2] at z; cases z; simp at r3), r1, r2, r3, rest⟩
    · obtain ⟨bm, ob, b1, b2, b3, b4, b5, b6⟩ := hbm
      refine ⟨bm, ob, b1, b2, fun q => ?_, fun q => ?_, low b3 (fun _ _ z => by rw [b6] at z; cases z) (fun z => by rw [b6] at z; cases z), b4, b5, b6⟩
      · obtain ⟨o, es, ep, e, d, _⟩ := hns
        rw [q, e] at b3
        cases b3
        rw [d] at b6
        cases b6
      · rw [q, hT p hp] at b3
        cases b3
        cases b6
    · obtain ⟨o, es, ep, e, d, _⟩ := hns
      rw [z, hT p hp] at e
      cases e
      cases d
  have hok : HOk P w H s₁.heap := fun b u h => by
    rcases S.only b u h with ⟨rfl, rfl, _⟩ | ⟨p, hp, rfl, rfl⟩
    · exact ⟨ha, by rw [List.length_map]; exact hl, vs, _, vals_ints hi, ha⟩
    · exact hT p hp
  have e0 : Env0 P w K mg (hidT s₁.heap H) callerA [] s₁ H := ⟨rfl, hM, fun b o e => of_hidT e, Nat.le_of_eq (hidT_size _ _), trivial, fun b hb => absurd (show b ∈ ([] : List Addr) from hb) (by simp), hok, .of_eq hg⟩
  refine codeAny_mono ((F _ KB (spaces hns) TB).run callerA [] s₁ H ⟨[.ref a], []⟩ [.ref a] [.ref a] _ rfl hr e0 (hbind s₁ (.ref a)) (.cons rfl .nil) (hsp H S)) fun r s' h => ?_
  match r, h with
  | .error e, h => exact (show False from h).elim
  | .ok .next, h => exact False.elim h
  | .ok .brk, h => exact False.elim h
  | .ok .cont, h => exact False.elim h
  | .ok (.ret u), ⟨v, H', os, bare, un, hok', r', q⟩ =>
    have q' : v = .bl true := q
    subst q'
    obtain rfl : u = Value.bool true := r'
    have same : ∀ b o, (∀ p ∈ cs, b ≠ p.2) → s₁.heap.get? b = some o → s'.heap.get? b = some o := fun b o nb e => by
      cases q : H b with
      | none => exact un.keep b o e q (fun z => absurd (show b ∈ ([] : List Addr) from z) (by simp)) (by simp)
      | some u =>
        rcases S.only b u q with ⟨e2, rfl, _⟩ | ⟨p, hp, e2, _⟩
        · obtain ⟨e3, _⟩ := hok' b _ (un.frzs b _ _ q)
          rw [e2, ha] at e
          cases e
          exact e3
        · exact absurd e2 (nb p hp)
    have more : ∀ p ∈ cs, ∃ ms : Array Value, s'.heap.get? p.2 = some { cls := .none, data := .fields ms } := fun p hp => by
      obtain ⟨ms, z⟩ := un.tbls p.2 #[] (S.tb p hp)
      exact ⟨_, hok' p.2 _ z⟩
    refine ⟨rfl, ⟨fun b o e => ?_, fun b o e => ?_⟩, os, bare⟩
    · by_cases hc : ∀ p ∈ cs, b ≠ p.2
      · exact .inl (same b o hc e)
      · obtain ⟨p, hp, hn⟩ : ∃ p ∈ cs, b = p.2 := by
          refine Classical.byContradiction fun z => hc fun p hp e => z ⟨p, hp, e⟩
        subst hn
        obtain ⟨ms, hm⟩ := more p hp
        rw [hT p hp] at e
        cases e
        exact .inr (.inl ⟨((C p hp).tab (hT p hp)).isCodeTable, rfl, #[], ms, rfl, by rw [Array.empty_append]; exact hm⟩)
    · by_cases hc : ∀ p ∈ cs, b ≠ p.2
      · exact ⟨o, same b o hc e⟩
      · obtain ⟨p, hp, hn⟩ : ∃ p ∈ cs, b = p.2 := by
          refine Classical.byContradiction fun z => hc fun p hp e => z ⟨p, hp, e⟩
        subst hn
        obtain ⟨ms, hm⟩ := more p hp
        exact ⟨_, hm⟩
end
/-- a law row's end -/
theorem walk_ofG {l : PySem.W.OpenLaw} {n k : Nat} {q : Program} {loose : List Str} {XP : (Str → Option Value) → Heap → Prop} {YP : World → Heap → Prop} {d : DefRec} {x : Str} (hn : l.most = some n) (hn2 : n ≤ sizeLine) (hdf : d.params.defaults = []) (hr : Room k callerA)
    (F : ∀ (w : World) (mg : Str → Option Value) (fa : Addr) (h : Heap), YP w h → h.Ns mainGlobals mg → mg d.name = some (.ref fa) → ∃ (K : PySem.W.Frag) (fd : FuncData) (cs : List (Addr × Addr)) (sp : Sp), K.In h ∧ (∀ p ∈ cs, h.get? p.2 = some { cls := .none, data := .fields #[] }) ∧ (∀ p ∈ cs, K.lookup p.2 = none) ∧
      (∀ p ∈ cs, PySem.W.CodeHd h p.1 p.2) ∧ (∀ (s : Shared) (u : Value), BindsTo s fd ⟨[u], []⟩ [(x, u)]) ∧ (∀ (H : Hp) (a : Addr) (vs : List Value) (ns : List Int), ns.length ≤ n → h.get? a = some { cls := .type "list", data := .seq vs.toArray } → Start K h H a vs ns cs → sp [.ref a] H (fun v _ => v = .bl true) E0) ∧
      ∀ base : Heap, K.In base → base.Ns mainGlobals mg → (∀ p ∈ cs, TabB base mg p.1 p.2) → FnG l.prog w K mg base k fa fd [x] sp) :
    PySem.W.WalkO q loose XP YP l.row.toRowW d [] (fun f vs => PySem.call f vs) := by
  refine Att.attach_callB hn hdf fun w s₀ s₁ mg mb fa o pm cd doc a vs ns G Y ho hd hcd hmg hobj hints hlen hbits hg => ?_
  obtain ⟨K, fd, cs, sp, KX, hT, nT, C, hb, hsp, hF⟩ := F w mg fa _ Y G.T.g hmg
  exact law_callG KX G.T.g G.T.b G.T.builtins G.T.nolimit hg hT nT C G.T.bmain hobj hints (Nat.le_trans hlen hn2) hr hF hb fun H S => hsp H a vs ns hlen hobj S
end Pd

set_option Elab.async false
set_option linter.all false
set_option maxRecDepth 100000
set_option maxHeartbeats 4000000
/-! A name that holds a def of the module: loops over such, calls. -/
namespace Pd
open PySem PySem.Spec PyProof.Rows L2
theorem Ok.putFn {K : PySem.W.Frag} {G : Gh} {σ : Sg} {en : En} {H I : Hp} (o : Ok K ζ G σ en H I) {i : Nat} {nm : Str} (hi : i ≠ 0 ∨ ∀ ds, en[i]? ≠ some (.own ds)) : Ok K ζ G (σ.set i (some (.ref (He.ga K nm)))) (en.set i (.fnv nm)) H I := by
  have o' := o.put (v := .int 0) (d := .int 0) (.int 0) hi
  have own' : ∀ j b, OwnAt (σ.set i (some (.ref (He.ga K nm)))) (en.set i (.fnv nm)) j b → i ≠ j ∧ OwnAt σ en j b := fun j b ⟨q1, es, q2⟩ => by
    rcases set_get q2 with ⟨e, q⟩ | ⟨ne, q3⟩
    · cases q
    · rw [List.getElem?_set_ne ne] at q1
      exact ⟨ne, q1, es, q3⟩
  refine ⟨o.i0, o.iH, o.nw, o.fr, by rw [List.length_set, List.length_set]; exact o.ln, fun j s q => ?_, fun j b q => o.ml j b (own' j b q).2, fun a b c q1 q2 => o.ds a b c (own' a c q1).2 (own' b c q2).2, fun b q => ?_, fun p hp => ⟨(o.pr p hp).1, (o.pr p hp).2.1, fun j q => (o.pr p hp).2.2 j (own' j _ q).2⟩, o.pn, o.tg, o.tt, o.lk⟩
  · rcases set_get q with ⟨e, q2⟩ | ⟨ne, q2⟩
    · subst e q2
      show _ = _
      rw [List.getElem?_set, if_pos rfl]
      have : i < (en.set i (.fnv nm)).length := (List.getElem?_eq_some_iff.mp q).1
      rw [List.length_set] at this
      simp [o.ln, this]
    · rw [List.getElem?_set_ne ne]
      exact o.sl j s q2
  · obtain ⟨r1, es, r2⟩ := o.pj b q
    have e : i ≠ 0 := fun e => by
      subst e
      rcases hi with hi | hi
      · exact hi rfl
      · exact hi es r2
    exact ⟨by rw [List.getElem?_set_ne e]; exact r1, es, by rw [List.getElem?_set_ne e]; exact r2⟩
def tFnA (K : PySem.W.Frag) (nms : List Str) : TA := fun σ H Q => Q (nms.map fun n => V.ref (He.ga K n)) H
section
variable {X : Cx} {e : Expr} {es : List Expr} {pos p : Pos}
theorem fa_nil : PA X [] (tFnA X.K []) := pa_nil.mo fun σ H Q q => q
theorem fa_cons {nm : Str} {nms : List Str} (hm : X.mg nm = some (.ref (He.ga X.K nm))) (r : PA X es (tFnA X.K nms)) (hg : Gl X nm := by rfl) (hd : (nm == ("__debug__" : Str)) = false := by decide) (hs : starEach (.Name nm p :: es) X.env = (false, eval (.Name nm p) X.env) :: starEach es X.env := by rfl) : PA X (.Name nm p :: es) (tFnA X.K (nm :: nms)) :=
  (pa_cons (pe_glob (v := .ref (He.ga X.K nm)) hg hm rfl hd) r hs).mo fun σ H Q q => q
end
def forFnW (i : Nat) (b : WS) (R : Ed) : List Str → En → Prop
  | [], en => R.nx en
  | nm :: r, en => (i ≠ 0 ∨ NotOwn en[i]?) ∧ b { R with nx := forFnW i b R r, ct := forFnW i b R r, bk := R.nx } (en.set i (.fnv nm))
def wForFn (i : Nat) (nms : List Str) (b : WS) : WS := fun R en => forFnW i b R nms en
theorem s_forFn {X : Cx} {es : List Expr} {k : Nat} {body : List Stmt} {pos tp np : Pos} {i : Nat} {y : Str} {nms : List Str} {b : WS} (hp : PassesOwn (model X.prog X.w) X.A X.env X.xe) (hc : X.calm = true) (hN : X.N.Nodup) (hi : X.N[i]? = some y) (hx : Loc X.env.scope y) (ha : PA X es (tFnA X.K nms)) (hb : PSs X body (lS X.K ζ b))
    (hl : nms.length ≤ 1000 := by decide) (hf : X.fn y = true ∨ X.env.scope.names.lookup y = some .local := by first | exact .inl rfl | exact .inr rfl | assumption) (hs : ∀ x, foldedSetIterable (.Tuple es k tp) X.env x = pure x := by intro _; rfl) :
    PS X (.For (.Name y np) (.Tuple es k tp) body [] pos) (lS X.K ζ (wForFn i nms b)) :=
  (ps_for hp hc (pi_seq (pe_tup ha)) (pg_name hN hi hx hf) hb hs).mo fun R σ H ⟨G, en, I, R', ok, q, kk⟩ => by
    refine ⟨by rw [List.length_map, sizeLine_eq]; omega, fun pp hpp => ⟨pp, rfl, Or.inr ⟨⟨_, SqT.of upd_same⟩, ?_⟩⟩⟩
    obtain ⟨o1, x1⟩ := ok.new (u := .tup (nms.map fun n => V.ref (He.ga X.K n))) hpp
    have tp : ∀ {I2 H2 : Hp}, Ex (upd I pp (.tup (nms.map fun n => V.ref (He.ga X.K n)))) I2 → Ex I2 H2 → SqT X.K H2 pp (nms.map fun n => V.ref (He.ga X.K n)) := fun e1 e2 => SqT.of (e2 _ _ (e1 _ _ upd_same))
    refine ⟨fun j m σ H => m = nms.length - j ∧ j ≤ nms.length ∧ ∃ en I', Ok X.K ζ { G with I0 := upd I pp (.tup (nms.map fun n => V.ref (He.ga X.K n))) } σ en H I' ∧ forFnW i b R' (nms.drop j) en, ⟨nms.length, by omega, Nat.zero_le _, en, _, o1.base o1 (Ex.rf _), q⟩, ?_⟩
    rintro j m σ2 H2 ⟨hm, hj, e2, I2, o2, q2⟩
    by_cases hlt : j < nms.length
    · rw [List.drop_eq_getElem_cons hlt] at q2
      obtain ⟨hi2, q2⟩ := q2
      have at_ : (nms.map fun n => V.ref (He.ga X.K n))[j]? = some (V.ref (He.ga X.K nms[j])) := by rw [List.getElem?_map, List.getElem?_eq_getElem hlt]; rfl
      refine Or.inr ⟨⟨_, _, tp o2.i0 o2.iH, at_⟩, fun σ H => ∃ en I', Ok X.K ζ { G with I0 := upd I pp (.tup (nms.map fun n => V.ref (He.ga X.K n))) } σ en H I' ∧ forFnW i b R' (nms.drop (j + 1)) en, fun σ' H' h => ⟨nms.length - (j + 1), by omega, rfl, hlt, h⟩, fun v H3 y3 => ?_⟩
      obtain ⟨rfl, hv⟩ := y3
      have ev := hv _ (tp o2.i0 o2.iH)
      rw [at_] at ev
      cases ev
      refine ⟨{ G with I0 := _ }, _, I2, _, o2.putFn (hi2.imp id notOwn_ne), q2, fun σ' H' I' en' o' h => ⟨en', I', o', h⟩, fun v σ' H' I' en' d o' dv h => ?_, fun σ' H' I' en' o' h => ?_, fun σ' H' I' en' o' h => ⟨en', I', o', h⟩⟩
      · exact kk.2.1 v σ' H' I' en' d (o1.back o').1 dv h
      · exact kk.1 σ' H' I' en' (o1.back o').1 h
    · have e : j = nms.length := by omega
      subst e
      rw [List.drop_length] at q2
      exact Or.inl ⟨⟨_, tp o2.i0 o2.iH, by rw [List.length_map]; exact Nat.le_refl _⟩, kk.1 σ2 H2 I2 e2 (o1.back o2).1 q2⟩
/-! ### y(..), y a name that holds a def -/
def CV (X : Cx) (k n : Nat) (tab : List (Str × WFX)) : Prop := ∀ q ∈ tab, ∃ ps, CalX X.prog X.w X.K X.mg X.base k q.1 ps (spX X.K n q.2) ∧ X.mg q.1 = some (.ref (He.ga X.K q.1))
theorem cv_nil {X : Cx} {k n : Nat} : CV X k n [] := fun q h => by cases h
theorem CalX.mono {P : Program} {w : World} {K : PySem.W.Frag} {mg : Str → Option Value} {base : Heap} {j k : Nat} {x : Str} {ps : List Str} {sp : Sp} (C : CalX P w K mg base j x ps sp) (h : j ≤ k) : CalX P w K mg base k x ps sp := by
  obtain ⟨f, fd, F, r⟩ := C
  exact ⟨f, fd, F.mono h, r⟩
theorem cv_cons {X : Cx} {j k n : Nat} {x : Str} {ps : List Str} {wf : WFX} {tab : List (Str × WFX)} (C : CalX X.prog X.w X.K X.mg X.base j x ps (spX X.K n wf)) (hm : X.mg x = some (.ref (He.ga X.K x))) (r : CV X k n tab) (h : j ≤ k := by decide) : CV X k n ((x, wf) :: tab) := fun q hq => by
  rcases List.mem_cons.mp hq with e | hq
  · subst e; exact ⟨ps, C.mono h, hm⟩
  · exact r q hq
def wCallV (i n : Nat) (tab : List (Str × WFX)) (R : Exc → En → Prop) (w : WA) : WE := fun en Q => ∃ nm wf, en[i]? = some (.fnv nm) ∧ (nm, wf) ∈ tab ∧ w en fun ds e1 => ds.length = n ∧ wf ds (fun d => Q d e1) fun e => R e e1
section
variable {X : Cx} {e : Expr} {es : List Expr} {pos p : Pos} {y : Str} {k n i : Nat} {R : Exc → En → Prop} {tab : List (Str × WFX)} {w : WA}
theorem c_callV (hv : PE X (.Name y p) (tVar i)) (C : CV X k n tab) (tk : Takes X (wxOf X.K ζ R)) (hr : Room k X.A) (ha : PA X (e :: es) (lA X.K ζ w))
    (he : starEach (e :: es) X.env = (false, eval e X.env) :: starEach es X.env := by rfl) (hpl : (backTo pos (starEach es X.env)).any (·.1) = false := by rfl) : PE X (.Call (.Name y p) (e :: es) [] pos) (lE X.K ζ (wCallV i n tab R w)) := by
  refine ⟨fun pins s σ H Q I ⟨G, en, I0, Q', o, ⟨nm, wf, hnm, hwf, q⟩, kq⟩ => ?_⟩
  have hs : σ[i]? = some (some (.ref (He.ga X.K nm))) := o.sl i _ hnm
  refine wpAny_Call_Name_kw (thn (hv.run pins s σ H (fun v H1 => v = .ref (He.ga X.K nm) ∧ H1 = H) I ⟨_, hs, rfl, rfl⟩) fun u s1 ⟨v, H1, I1, r1, ev, eH⟩ => ?_)
  subst ev eH
  obtain rfl : u = Value.ref (He.ga X.K nm) := r1
  obtain ⟨ps, ⟨f1, fd, F, hm1, hk, hb⟩, hm⟩ := C _ hwf
  have ef : f1 = He.ga X.K nm := by
    have z := hm1.symm.trans hm
    injection z with z; injection z
  subst ef
  refine PySem.W.callWith_K (h₀ := X.base) I1.ok.mod.kin hk (thn (ha.run pos pins s1 σ H1 (fun vs H2 => ∃ I2 e2 ds, Ok X.K ζ G σ e2 H2 I2 ∧ Ex I0 I2 ∧ DaAll X.K I2 vs ds ∧ ds.length = n ∧ wf ds (fun d => Q' d e2) fun e => R e e2) I1 ⟨G, en, I0, _, o, q, fun vs H2 I2 e2 ds o2 x2 dvs ⟨h1, h2⟩ => ⟨I2, e2, ds, o2, x2, dvs, h1, h2⟩⟩) fun us s2 ⟨vs, H2, I2, r, I3, e2, ds, o2, x2, dvs, hn, hw⟩ => ⟨I2.kIn, ?_⟩) he hpl
  exact run_fnS (E := L2.WE (wxOf X.K ζ R)) F hr hb (passAt tk σ) I2 r ⟨I3, ds, _, fun e => R e e2, o2.iH, dvs, hn, hw, fun v H3 I4 d g dv q2 => kq v H3 I4 e2 d (o2.gr g) (x2.tr g.i) dv q2, fun cls d H3 I4 e g de r => ⟨e2, I4, e, (o2.gr g).z, de, r⟩⟩
end
/-! ### what a head tells -/
/-- a built-in class of exceptions: what makes it, its classes -/
structure Bas where
  newId : String
  tl : List Value
def basOf (B : String) : Bas := if B = "IndexError" then ⟨"IndexError.__new__", [.type "IndexError", .type "LookupError", .type "Exception", .type "BaseException", .type "object"]⟩
  else if B = "OverflowError" then ⟨"OverflowError.__new__", [.type "OverflowError", .type "ArithmeticError", .type "Exception", .type "BaseException", .type "object"]⟩
  else if B = "ArithmeticError" then ⟨"ArithmeticError.__new__", [.type "ArithmeticError", .type "Exception", .type "BaseException", .type "object"]⟩
  else if B = "LookupError" then ⟨"LookupError.__new__", [.type "LookupError", .type "Exception", .type "BaseException", .type "object"]⟩
  else ⟨"ValueError.__new__", He.veBase⟩
theorem tail_of (B : String) : ∃ B' initId, TailF B' (basOf B).newId initId (basOf B).tl := by
  unfold basOf
  split
  · exact ⟨_, _, F.excBase_IndexError, F.store_IndexError⟩
  split
  · exact ⟨_, _, F.excBase_OverflowError, F.store_OverflowError⟩
  split
  · exact ⟨_, _, F.excBase_ArithmeticError, F.store_ArithmeticError⟩
  split
  · exact ⟨_, _, F.excBase_LookupError, F.store_LookupError⟩
  · exact ⟨_, _, F.excBase_ValueError, F.store_ValueError⟩
inductive YF where
  | x (f : XF)
  /-- an own class of exceptions over B that keeps f -/
  | oex (nm B f : Str)
  /-- e.f of its instances -/
  | fld (nm f : Str)
  /-- two defs' tables stand apart -/
  | apart (p q : He.Defn)
def strOf (s : Str) : String := if s = ("IndexError" : Str) then "IndexError" else if s = ("OverflowError" : Str) then "OverflowError" else if s = ("ArithmeticError" : Str) then "ArithmeticError" else if s = ("LookupError" : Str) then "LookupError" else "ValueError"
def YF.ok (K : PySem.W.Frag) : YF → Bool
  | .x f => f.ok K
  | .oex nm B f => oexB K (He.ga K nm) (basOf (strOf B)).newId (basOf (strOf B)).tl && (He.eqO (PySem.W.findIn K (.ref (He.ga K nm)) "__setattr__") (some (some (.builtin "object.__setattr__"))) && (decide (PySem.W.subIn K (.ref (He.ga K nm)) (.type "BaseException") = some true) &&
      (decide (PySem.W.typeIn K (.ref (He.ga K nm)) = some (.type "type")) && (PySem.W.keepIn K (.ref (He.ga K nm)) && (He.eqO (PySem.W.findIn K (.ref (He.ga K nm)) "__init__") (some (some (.ref (He.ma K (He.ga K nm) "__init__")))) &&
      (decide (PySem.W.typeIn K (.ref (He.ma K (He.ga K nm) "__init__")) = some (.type "function")) && (He.eqO (PySem.W.findIn K (.ref (He.ga K nm)) f) (some none) && decide (He.ma K (He.ga K nm) "__init__" = He.fAd K (nm, some "__init__")))))))))
  | .fld nm f => xfB K (He.ga K nm) && He.eqO (PySem.W.findIn K (.ref (He.ga K nm)) f) (some none)
  | .apart p q => decide ((He.cT K p).2 ≠ (He.cT K q).2)
section
variable {P : Program} {w : World} {K : PySem.W.Frag} {mg : Str → Option Value} {base : Heap} {nm B f s g : Str} {params : Arguments} {body : List Stmt} {scope : Scope} {qual : Str} {fd : FuncData} {p1 p2 p3 p4 : Pos}
theorem oex_ok (c : (YF.oex nm B f).ok K = true) (hm : mg nm = some (.ref (He.ga K nm))) (F : FunD K "__init__" qual params body scope [] [] (He.fAd K (nm, some "__init__")) fd) (S : FnScope [s, g] [s, g] scope)
    (hb : body = [.Assign [.Attribute (.Name s p1) f p2] (.Name g p3) p4]) (vs : Vis scope s) (vg : Vis scope g) (bd : Binds K fd [s, g] []) (d1 : (s == ("__debug__" : Str)) = false := by decide) (d2 : (s == ("__classdict__" : Str)) = false := by decide) (d3 : (g == ("__debug__" : Str)) = false := by decide) (d4 : (g == ("__classdict__" : Str)) = false := by decide) : ExfC P w K mg base nm f := by
  obtain ⟨c1, c⟩ := He.ba c
  obtain ⟨c2, c⟩ := He.ba c
  obtain ⟨c3, c⟩ := He.ba c
  obtain ⟨c4, c⟩ := He.ba c
  obtain ⟨c5, c⟩ := He.ba c
  obtain ⟨c6, c⟩ := He.ba c
  obtain ⟨c7, c⟩ := He.ba c
  obtain ⟨c8, c9⟩ := He.ba c
  obtain ⟨B', initId, TF⟩ := tail_of (strOf B)
  have T : OexG K (He.ga K nm) (basOf (strOf B)).newId (basOf (strOf B)).tl := ⟨oexB_ok c1, He.eqO_ok c2, of_decide_eq_true c3, of_decide_eq_true c4, c5⟩
  have e := of_decide_eq_true c9
  exact ⟨⟨B', _, initId, _, He.fAd K (nm, some "__init__"), fd, [s, g], TF, T, by rw [← e]; exact He.eqO_ok c6, by rw [← e]; exact of_decide_eq_true c7, ok_ini F S TF T (He.eqO_ok c8) hb vs vg d1 d2 d3 d4, bd⟩, hm⟩
theorem fld_ok (c : (YF.fld nm f).ok K = true) : XfC K (He.ga K nm) ∧ PySem.W.findIn K (.ref (He.ga K nm)) f = some none := by
  obtain ⟨c1, c2⟩ := He.ba c
  exact ⟨xfB_ok c1, He.eqO_ok c2⟩
theorem exo_cls (c : (He.Fa.exc nm).ok K = true) (hm : mg nm = some (.ref (He.ga K nm))) : ExoC K mg nm := by
  obtain ⟨c1, c⟩ := He.ba c
  obtain ⟨c2, c⟩ := He.ba c
  obtain ⟨c3, c4⟩ := He.ba c
  exact ⟨⟨_, _, _, _, F.excBase_ValueError, c1⟩, hm, c2, of_decide_eq_true c3, of_decide_eq_true c4⟩
theorem exm_ok {x y : Str} {b : Bool} (c : (He.Fa.exm x y b).ok K = true) : PySem.W.exmOne K (.ref (He.ga K x)) (.ref (He.ga K y)) = some b := of_decide_eq_true c
end
end Pd

set_option Elab.async false
set_option linter.all false
set_option maxRecDepth 100000
set_option maxHeartbeats 4000000
/-! Small help for texts that are printed. -/
namespace Pd
open PySem PySem.Spec PyProof.Rows L2 LamX
theorem room_u {k : Nat} {A : Around} (r : Room k A) : A.units + 160 < cLine := by have := r.un; omega
theorem unit_0 {n : Nat} (h : n + 160 < cLine) : n + 150 < cLine := by omega
theorem unit_s {n : Nat} (h : n + 160 < cLine) : n + 3 + 150 < cLine := by omega
/-- exceptions' classes: one, the other, whether -/
def exBof (l : List (Str × Str × Bool)) (x y : Str) : Option Bool := (l.find? fun t => decide (t.1 = x) && decide (t.2.1 = y)).map fun t => t.2.2
theorem exB_of {K : PySem.W.Frag} {l : List (Str × Str × Bool)} (h : ∀ t ∈ l, PySem.W.exmOne K (.ref (He.ga K t.1)) (.ref (He.ga K t.2.1)) = some t.2.2) : ExB K (exBof l) := fun x y b e => by
  unfold exBof at e
  cases q : l.find? fun t => decide (t.1 = x) && decide (t.2.1 = y) with
  | none => rw [q] at e; cases e
  | some t =>
    rw [q] at e
    have e' : t.2.2 = b := Option.some.inj e
    have h1 := List.find?_some q
    rw [Bool.and_eq_true, decide_eq_true_eq, decide_eq_true_eq] at h1
    have := h t (List.mem_of_find?_eq_some q)
    rw [h1.1, h1.2, e'] at this
    exact this
def tabsT (K : PySem.W.Frag) (fs : List Str) : List (Addr × Str) := fs.map fun f => ((He.cT K (f, none)).2, (f ++ ".<locals>.") ++ "<lambda>")
def Apart (K : PySem.W.Frag) (fs : List Str) : Prop := ∀ f ∈ fs, ∀ g ∈ fs, (He.cT K (f, none)).2 = (He.cT K (g, none)).2 → f = g
def TabsB (K : PySem.W.Frag) (mg : Str → Option Value) (base : Heap) (fs : List Str) : Prop := ∀ f ∈ fs, TabB base mg (He.cT K (f, none)).1 (He.cT K (f, none)).2
theorem apart_nil {K : PySem.W.Frag} : Apart K [] := fun f h => by cases h
theorem apart_cons {K : PySem.W.Frag} {f : Str} {fs : List Str} (h : ∀ g ∈ fs, (He.cT K (f, none)).2 ≠ (He.cT K (g, none)).2) (r : Apart K fs) : Apart K (f :: fs) := fun a ha b hb e => by
  rcases List.mem_cons.mp ha with e1 | h1
  · rcases List.mem_cons.mp hb with e2 | h2
    · rw [e1, e2]
    · exact absurd (by rw [← e1]; exact e) (h b h2)
  · rcases List.mem_cons.mp hb with e2 | h2
    · exact absurd (by rw [← e2]; exact e.symm) (h a h1)
    · exact r a h1 b h2 e
section
variable {X : Cx} {x a f : Str} {g : Addr} {fd : FuncData} {k n : Nat} {pg : Arguments} {bg : List Stmt} {sg : Scope} {Ng : List Str} {params : Arguments} {body : Expr} {scope : Scope} {p lpos pos : Pos} {exB : Str → Str → Option Bool} {cl : List ClaD} {wl : WS} {wb : (Exc → En → Prop) → WE} {fs : List Str}
/-- met(lambda: ..) within the def f -/
theorem c_metL (F : FunD X.K x x pg bg sg [] [] g fd) (hm : X.mg x = some (.ref g)) (hb : L2.Binds X.K fd [a] []) (Sg : FnScope Ng [a] sg) (hG : ∀ cdv, GivesTo X Ng x sg g cdv bg a (X.env.qual ++ "<lambda>") (TTd X.K exB n cl wl))
    (ap : Apart X.K fs) (tb : TabsB X.K X.mg X.base fs) (hf : f ∈ fs) (hr : Room (k + 2) X.A) (L : LamS X.env.scope scope)
    (hbody : ∀ (A : Around) (outer : List Env) (s : Shared) (H : Hp) (E : XK) (f c' : Addr) (ζ' : Zt) (R : Exc → En → Prop), Room k (A.deeper (lamEnv X scope s.heap.objs.size f c')) → Takes (lamCx X A outer s H E scope f c') (wxOf X.K ζ' R) → PE (lamCx X A outer s H E scope f c') body (lE X.K ζ' (wb R)))
    (hq : X.env.qual = f ++ ".<locals>." := by rfl) (hcode : X.env.code = .ref (He.cT X.K (f, none)).1 := by rfl) (hNg : Ng[0]? = some a := by rfl) (hva : Vis sg a := by first | exact .inl rfl | exact .inr (.inl rfl)) (hbind : ∀ (q : Str) (cl : List (Str × Addr)) (pm cv ctv : Value), bindArgs (PySem.W.kla_fn "<lambda>" q params body scope cl pm cv ctv) ⟨[], []⟩ = pure [] := by intros; rfl)
    (hg : Gl X x := by rfl) (hdef : defaultsOf params X.env = ([], []) := by rfl) (hdb : (x == ("__debug__" : Str)) = false := by decide) (hd : (a == ("__debug__" : Str)) = false := by decide) (hcd : (a == ("__classdict__" : Str)) = false := by decide) :
    PE X (.Call (.Name x p) [.Lambda params body scope lpos] [] pos) (lE X.K (ζT (tabsT X.K fs)) (wMet exB n cl wl wb)) := by
  refine c_met (ζ := ζT (tabsT X.K fs)) F hm hb Sg hNg hva hG (tb f hf) hcode (List.mem_map.mpr ⟨f, hf, by rw [hq]⟩) (fun p hp e => ?_) hr L hbind hbody hg hdef hdb hd hcd
  obtain ⟨h, hh, rfl⟩ := List.mem_map.mp hp
  rw [hq, ap h hh f hf e]
end
/-- the law's call, by the tables -/
theorem law_start {K : PySem.W.Frag} {h : Heap} {H : Hp} {a : Addr} {vs : List Value} {ns : List Int} {fs : List Str} {n : Nat} (hn : ns.length ≤ n) (he : ∀ f ∈ fs, h.get? (He.cT K (f, none)).2 = some { cls := .none, data := .fields #[] }) (ha : h.get? a = some { cls := .type "list", data := .seq vs.toArray })
    (S : Start K h H a vs ns (fs.map fun f => He.cT K (f, none))) : spST K (tabsT K fs) 1 (wfLaw n) [.ref a] H (fun v _ => v = .bl true) E0 := by
  refine law_spT hn (fun p hp => ?_) S.sq fun hm => ?_
  · obtain ⟨f, hf, rfl⟩ := List.mem_map.mp hp
    exact TabS.nil (S.tb _ (List.mem_map.mpr ⟨f, hf, rfl⟩))
  · obtain ⟨p, hp, e⟩ := List.mem_map.mp hm
    obtain ⟨f, hf, rfl⟩ := List.mem_map.mp hp
    have q := he f hf
    rw [show (He.cT K (f, none)).2 = a from e, ha] at q
    cases q
end Pd

set_option Elab.async false
set_option linter.all false
set_option maxRecDepth 100000
set_option maxHeartbeats 4000000
/-! Help for laws of errors: values that have a text, lists of answers. -/
namespace Pd
open PySem PySem.Spec PyProof.Rows L2
def repB (d : D) : Bool := ((PyData.canLay0 d && (PyData.showable d && (decide (PyData.depth d ≤ 60) && decide ((PyData.shown d).length ≤ 100000)))) || (match d with
  | .dict [] => true
  | _ => false)) && PyData.strOk (PyData.shown d)
theorem repB_ok {d : D} (h : repB d = true) : RepOk d ∧ PyData.strOk (PyData.shown d) = true ∧ (PyData.shown d).length ≤ 100000 := by
  unfold repB at h
  rw [Bool.and_eq_true] at h
  obtain ⟨h, hs⟩ := h
  rcases Bool.or_eq_true _ _ ▸ h with h | h
  · rw [Bool.and_eq_true, Bool.and_eq_true, Bool.and_eq_true, decide_eq_true_eq, decide_eq_true_eq] at h
    exact ⟨Or.inl ⟨h.1, h.2.1, by omega, Nat.le_trans h.2.2.2 (by decide)⟩, hs, h.2.2.2⟩
  · cases d with
    | dict kvs => cases kvs with
      | nil => exact ⟨Or.inr rfl, hs, by decide +kernel⟩
      | cons _ _ => cases h
    | _ => cases h
/-- equal to itself, of a text's form, not deep -/
def Nc (n : Nat) (d : D) : Prop := PyData.eqv d d = true ∧ PyData.canLay0 d = true ∧ PyData.depth d ≤ n
theorem nc_mono {m n : Nat} {d : D} (h : Nc m d) (k : m ≤ n) : Nc n d := ⟨h.1, h.2.1, Nat.le_trans h.2.2 k⟩
theorem nc_all {n : Nat} : ∀ (xs : List D), (∀ x ∈ xs, Nc n x) → PyData.eqvAll xs xs = true ∧ PyData.canLayAll0 xs = true ∧ PyData.depthAll xs ≤ n
  | [], _ => ⟨rfl, rfl, Nat.zero_le _⟩
  | x :: xs, h => by
    obtain ⟨a1, a2, a3⟩ := h x List.mem_cons_self
    obtain ⟨b1, b2, b3⟩ := nc_all xs fun y hy => h y (List.mem_cons_of_mem _ hy)
    refine ⟨?_, ?_, ?_⟩
    · show (PyData.eqv x x && PyData.eqvAll xs xs) = true
      rw [a1, b1]; rfl
    · show (PyData.canLay0 x && PyData.canLayAll0 xs) = true
      rw [a2, b2]; rfl
    · show max (PyData.depth x) (PyData.depthAll xs) ≤ n
      exact Nat.max_le.mpr ⟨a3, b3⟩
theorem nc_list {n : Nat} {xs : List D} (h : ∀ x ∈ xs, Nc n x) : Nc (n + 1) (.list xs) := by
  obtain ⟨a1, a2, a3⟩ := nc_all xs h
  exact ⟨a1, a2, by show PyData.depthAll xs + 1 ≤ n + 1; omega⟩
theorem nc_tup {n : Nat} {xs : List D} (h : ∀ x ∈ xs, Nc n x) : Nc (n + 1) (.tuple xs) := by
  obtain ⟨a1, a2, a3⟩ := nc_all xs h
  exact ⟨a1, a2, by show PyData.depthAll xs + 1 ≤ n + 1; omega⟩
theorem nc_str {n : Nat} {x : Str} (h : PyData.strOk x = true) : Nc n (.str x) := ⟨by simp [PyData.eqv], h, by simp [PyData.depth]⟩
theorem eq_nc {n : Nat} {d : D} (h : Nc n d) (hn : n ≤ 64) : dEq d d (.bool true) := by
  have hs : SeqAt.shaped d = true := by
    unfold SeqAt.shaped
    rw [h.2.1, decide_eq_true (Nat.le_trans h.2.2 hn)]; rfl
  exact ⟨hs, hs, by rw [h.1]⟩
theorem rep_list {K' : Nat} {xs : List D} (hk : K' ≤ 1000) (hx : xs.length ≤ 1000) : dMul (.list xs) (.int (K' : Int)) (.list (List.replicate K' xs).flatten) :=
  Or.inr (Or.inr ⟨xs, K', rfl, rfl, by omega, by omega, by
    rw [Int.toNat_natCast]
    exact Nat.le_trans (Nat.mul_le_mul hx hk) (by decide), by rw [Int.toNat_natCast]⟩)
end Pd

set_option Elab.async false
set_option linter.all false
set_option maxRecDepth 100000
set_option maxHeartbeats 4000000
namespace K03
open PySem PySem.Spec PyProof.Rows L2 Pd
abbrev RR : PySem.W.OpenLaw := PySem.Challenge.rw_fetchunseen_k03_errors_of_letters
abbrev PP : Program := RR.prog
def top (i : Nat) : Stmt := PP.main.body.getD i (.Pass ⟨0, 0, 0, 0⟩)
/-! ### what each def does -/
def isW : D → Bool
  | .int _ => true
  | _ => false
def isBtw : D → Int → Int → Bool
  | .int i, a, b => decide (a ≤ i) && decide (i ≤ b)
  | _, _, _ => false
def ldF : Nat → Int → Int → Int
  | 0, n, _ => n
  | f + 1, n, d => if d * d ≤ n then (if n % d = 0 then d else ldF f n (d + 1)) else n
def isP (n : Int) : Bool := (decide (2 ≤ n) && decide (n ≤ 9973)) && decide (ldF 200 n 2 = n)
def isPD : D → Bool
  | .int n => isP n
  | _ => false
def Sz : D → Prop
  | .tuple xs => xs.length ≤ 150
  | _ => True
def letB (p lo hi : Int) : D → Bool
  | .tuple xs => (decide (lo ≤ (xs.length : Int)) && decide ((xs.length : Int) ≤ hi)) && xs.all fun x => isBtw x 0 (p - 1)
  | _ => false
def errN (d : D) : Exc := ⟨"InvalidNumber", ["given"], [d]⟩
def errR : Exc := ⟨"InvalidRow", [], []⟩
def errZ : Exc := ⟨"Refused", ["reason"], [.tuple [.str "zero"]]⟩
def wf_is_whole : WF := fun ds Q => ∃ d, ds = [d] ∧ Q (.bool (isW d))
def wf_is_between : WF := fun ds Q => ∃ d a b, ds = [d, .int a, .int b] ∧ Q (.bool (isBtw d a b))
def wf_check_between : WFX := fun ds Q R => ∃ d a b, ds = [d, .int a, .int b] ∧ (isBtw d a b = true → Q .none) ∧ (isBtw d a b = false → R (errN d))
def wf_least_divisor : WF := fun ds Q => ∃ n, ds = [.int n] ∧ n ≤ 9973 ∧ Q (.int (ldF 200 n 2))
def wf_is_prime : WF := fun ds Q => ∃ d, ds = [d] ∧ Q (.bool (isPD d))
def wf_check_prime : WFX := fun ds Q R => ∃ d, ds = [d] ∧ (isPD d = true → Q .none) ∧ (isPD d = false → R (errN d))
def wf_check_letter : WFX := fun ds Q R => ∃ (p : Int) (d : D), ds = [.int p, d] ∧ (isBtw d 0 (p - 1) = true → Q .none) ∧ (isBtw d 0 (p - 1) = false → R (errN d))
def wf_are_letters : WF := fun ds Q => ∃ (p lo hi : Int) (d : D), ds = [.int p, d, .int lo, .int hi] ∧ Sz d ∧ Q (.bool (letB p lo hi d))
def wf_next_prime : WFX := fun ds Q R => ∃ d, ds = [d] ∧ ((isBtw d 0 9973 = false ∧ R (errN d)) ∨ (d = .int 9973 ∧ Q (.int 9973)))
def wf_power_of : WF := fun ds Q => ∃ (p l : Int) (t : Nat), ds = [.int p, .int l, .int t] ∧ 2 ≤ p ∧ p ≤ 9973 ∧ 0 ≤ l ∧ l < p ∧ Q (.int (l ^ t % p))
def wf_inverse_of : WF := fun _ _ => False
def wf_inverse : WFX := fun ds Q R => ∃ d l, ds = [d, l] ∧ ((isPD d = false ∧ R (errN d)) ∨ ∃ p : Int, d = .int p ∧ isP p = true ∧ ((isBtw l 0 (p - 1) = false ∧ R (errN l)) ∨ (l = .int 0 ∧ R errZ)))
def wf_power : WFX := fun ds Q R => ∃ d l t, ds = [d, l, t] ∧ ((isPD d = false ∧ R (errN d)) ∨ ∃ p : Int, d = .int p ∧ isP p = true ∧ ((isBtw l 0 (p - 1) = false ∧ R (errN l)) ∨ (isBtw l 0 (p - 1) = true ∧ ((isBtw t 0 1000000000 = false ∧ R (errN t)) ∨ (isBtw t 0 1000000000 = true ∧ ∀ z, Q z)))))
def wf_letters_at : WFX := fun ds Q R => ∃ d m n, ds = [d, m, n] ∧ ((isPD d = false ∧ R (errN d)) ∨ ∃ p : Int, d = .int p ∧ isP p = true ∧ ((isBtw m 0 100 = false ∧ R (errN m)) ∨ (∃ k : Nat, m = .int k ∧ k ≤ 100 ∧ ((isW n = false ∧ R (errN n)) ∨ ∃ i : Int, n = .int i ∧ i.natAbs.log2 < 5000 ∧ ((i < 0 ∧ R (errN n)) ∨ (0 ≤ i ∧ (0 < i / p ^ k → R (errN n)) ∧ (i / p ^ k = 0 → ∀ z, Q z)))))))
def wf_number_at : WFX := fun ds Q R => ∃ d l, ds = [d, l] ∧ ((isPD d = false ∧ R (errN d)) ∨ ∃ p : Int, d = .int p ∧ isP p = true ∧ Sz l ∧ ((letB p 0 100 l = false ∧ R errR) ∨ (letB p 0 100 l = true ∧ ∀ z, Q z)))
def wf_prime_divisors : WF := fun _ _ => False
def wf_is_root : WF := fun _ _ => False
def wf_root : WFX := fun ds Q R => ∃ d, ds = [d] ∧ isPD d = false ∧ R (errN d)
def wf_exponent_of : WFX := fun ds Q R => ∃ d b l, ds = [d, b, l] ∧ ((isPD d = false ∧ R (errN d)) ∨ ∃ p : Int, d = .int p ∧ isP p = true ∧ ((isBtw b 0 (p - 1) = false ∧ R (errN b)) ∨ (isBtw b 0 (p - 1) = true ∧ isBtw l 0 (p - 1) = false ∧ R (errN l))))
def wf__law_jug : WSc := fun ns ds Q => ∃ s : Nat, ds = [.int s] ∧ ∀ g m c : Int, Q (.list [.int g, .int m, .int c])
def wf__law_pour : WJ := fun dj ds Q => ∃ g m c t : Int, dj = [.int g, .int m, .int c] ∧ ds = [.int t] ∧ 0 < t ∧ t.natAbs.log2 < 9000 ∧ ∀ r g m c : Int, 0 ≤ r → r < t → Q (.int r) [.int g, .int m, .int c]
def wf__law_sip : WJ := fun dj ds Q => ∃ (g m c : Int) (xs : List D), dj = [.int g, .int m, .int c] ∧ ds = [.list xs] ∧ xs ≠ [] ∧ xs.length ≤ 100 ∧ ∀ x ∈ xs, ∀ g m c : Int, Q x [.int g, .int m, .int c]
def wf__law_right : WJ := fun dj ds Q => ∃ g m c : Int, dj = [.int g, .int m, .int c] ∧ ds = [] ∧ ∀ g m c : Int, Q (.bool true) [.int g, .int m, .int c]
abbrev wf_law : WSc := wfLaw 63
end K03

set_option Elab.async false
set_option linter.all false
set_option maxRecDepth 100000
set_option maxHeartbeats 4000000
namespace K03
open PySem PySem.Spec PyProof.Rows L2 Pd
def exT : List (Str × Str × Bool) := [("InvalidNumber", "InvalidNumber", true), ("InvalidNumber", "InvalidRow", false), ("InvalidNumber", "Refused", false), ("InvalidRow", "InvalidNumber", false), ("InvalidRow", "InvalidRow", true), ("InvalidRow", "Refused", false), ("Refused", "InvalidNumber", false), ("Refused", "InvalidRow", false), ("Refused", "Refused", true)]
def exB : Str → Str → Option Bool := exBof exT
abbrev tabF : List Str := ["_law_right", "law"]
/-- what the module's names are -/
structure Tb (K : PySem.W.Frag) (mg : Str → Option Value) : Prop where
  un : True
  b_abs : mg "abs" = none
  b_all : mg "all" = none
  b_bool : mg "bool" = none
  b_int : mg "int" = none
  b_isinstance : mg "isinstance" = none
  b_len : mg "len" = none
  b_max : mg "max" = none
  b_min : mg "min" = none
  b_range : mg "range" = none
  b_repr : mg "repr" = none
  b_tuple : mg "tuple" = none
  x_InvalidRow : ExoC K mg "InvalidRow"
  m_InvalidNumber : mg "InvalidNumber" = some (.ref (He.ga K "InvalidNumber"))
  m_InvalidRow : mg "InvalidRow" = some (.ref (He.ga K "InvalidRow"))
  m_Refused : mg "Refused" = some (.ref (He.ga K "Refused"))
  exb : ExB K exB
  e_given : ∀ m ∈ (["InvalidNumber"] : List Str), XfC K (He.ga K m) ∧ PySem.W.findIn K (.ref (He.ga K m)) "given" = some none
  e_reason : ∀ m ∈ (["Refused"] : List Str), XfC K (He.ga K m) ∧ PySem.W.findIn K (.ref (He.ga K m)) "reason" = some none
  h_exponent_of : mg "exponent_of" = some (.ref (He.ga K "exponent_of"))
  h_inverse : mg "inverse" = some (.ref (He.ga K "inverse"))
  h_letters_at : mg "letters_at" = some (.ref (He.ga K "letters_at"))
  h_number_at : mg "number_at" = some (.ref (He.ga K "number_at"))
  h_power : mg "power" = some (.ref (He.ga K "power"))
  c_MOST_LETTERS : ∃ t, mg "MOST_LETTERS" = some (.int 100 t)
  c_MOST_PRIME : ∃ t, mg "MOST_PRIME" = some (.int 9973 t)
  c_MOST_TIMES : ∃ t, mg "MOST_TIMES" = some (.int 1000000000 t)
section
variable {P : Program} {w : World} {K : PySem.W.Frag} {mg : Str → Option Value} {base : Heap}
/-! ### _law_jug -/
abbrev N__law_jug : List Str := ["script", "spot", "cell", "great", "mixed"]
theorem sc__law_jug : FnScope N__law_jug ["script", "spot"] (defScope (top 30)) := ⟨rfl, rfl, rfl, by decide +kernel, rfl, by decide +kernel, by decide +kernel⟩
def ws__law_jug : WS := (wSeq (wSet 2 (wIf (wB (wOp dLt (wVar 1) (wLenS 0))) (wCl dIntOf (wCons (wIxS 0 (wVar 1)) wNil)) (wOp dAdd (wOp dMul (wC (.int 449)) (wVar 1)) (wC (.int 67))))) (wSeq (wSet 3 (wOp dMod (wCl dIntOf (wCons (wCl dAbs (wCons (wVar 2) wNil)) wNil)) (wOp dPow (wOp dPow (wC (.int 10)) (wC (.int 55))) (wC (.int 6))))) (wSeq (wSet 4 (wOp dAdd (wOp dAdd (wOp dAdd (wOp dMul (wOp dMod (wCl dIntOf (wCons (wVar 3) wNil)) (wC (.int 2305843009213693669))) (wC (.int 83))) (wOp dMul (wC (.int 1013)) (wVar 1))) (wOp dMul (wC (.int 47)) (wCl dIntOf (wCons (wOp dLt (wVar 2) (wC (.int 0))) wNil)))) (wC (.int 29)))) (wRet (wLe (wSz (wCons (wCl dMax2 (wCons (wC (.int 0)) (wCons (wOp dSub (wVar 3) (wOp dPow (wC (.int 10)) (wC (.int 16)))) wNil))) (wCons (wVar 4) (wCons (wC (.int 0)) wNil)))))))))
theorem der__law_jug (T : Tb K mg)  (f : Addr) (cdv : Value) (A : Around) (outer : List Env) (s : Shared) (H : Hp) (E : XK) (hr : Room 0 (A.deeper (envOfC "_law_jug" (defScope (top 30)) s.heap.objs.size f cdv))) : PSs (cxOf CX0 P w K mg base N__law_jug "_law_jug" (defScope (top 30)) f cdv A outer s H E).nox (defBody (top 30)) (lS K ζ ws__law_jug) :=
  (s_cons (s_set (i := 2) sc__law_jug.nd rfl (by first | exact Or.inl rfl | exact Or.inr rfl) (d_if (t_cmp (op_ltD hr.units0) snd_lt (d_var (pv 1)) (d_lenS (i := 0) T.b_len (pv 0)) (nomark _)) (d_cty call_int1 snd_intOf T.b_int (by decide +kernel) (a_cons (d_ixS (i := 0) (pv 0) (d_var (pv 1))) a_nil)) (d_op op_addD snd_add (d_op op_mulD snd_mul d_int (d_var (pv 1))) d_int))) (s_cons (s_set (i := 3) sc__law_jug.nd rfl (by first | exact Or.inl rfl | exact Or.inr rfl) (d_op op_mod snd_mod (d_cty call_int1 snd_intOf T.b_int (by decide +kernel) (a_cons (d_cb call_abs snd_abs T.b_abs (by decide +kernel) (a_cons (d_var (pv 2)) a_nil)) a_nil)) (d_op op_powW snd_pow (d_op op_powW snd_pow d_int d_int) d_int))) (s_cons (s_set (i := 4) sc__law_jug.nd rfl (by first | exact Or.inl rfl | exact Or.inr rfl) (d_op op_addD snd_add (d_op op_addD snd_add (d_op op_addD snd_add (d_op op_mulD snd_mul (d_op op_mod snd_mod (d_cty call_int1 snd_intOf T.b_int (by decide +kernel) (a_cons (d_var (pv 3)) a_nil)) d_int) d_int) (d_op op_mulD snd_mul d_int (d_var (pv 1)))) (d_op op_mulD snd_mul d_int (d_cty call_int1 snd_intOf T.b_int (by decide +kernel) (a_cons (d_cmp (op_ltD hr.units0) snd_lt (d_var (pv 2)) d_int (nomark _)) a_nil)))) d_int)) (s_one (s_ret (d_lL (l_lst (a_cons (d_cb (call_max2 rfl) snd_max2 T.b_max (by decide +kernel) (a_cons d_int (a_cons (d_op op_sub snd_sub (d_var (pv 3)) (d_op op_powW snd_pow d_int d_int)) a_nil))) (a_cons (d_var (pv 4)) (a_cons d_int a_nil))))))))))
theorem ok__law_jug (T : Tb K mg)  {f : Addr} {fd : FuncData} (F : FunD K "_law_jug" "_law_jug" (defArgs (top 30)) (defBody (top 30)) (defScope (top 30)) [] [] f fd) (hm : mg "_law_jug" = some (.ref f)) (pu : ∀ ns ds Q', ds.length + 1 = 2 → wf__law_jug ns ds Q' → ws__law_jug (edP Q') (enS N__law_jug ns ds)) : Cal P w K mg base 1 "_law_jug" ["script", "spot"] (spS K 2 wf__law_jug) :=
  ⟨f, fd, fnS F sc__law_jug rfl (fun cdv A outer s H E hr => der__law_jug T  f cdv A outer s H E hr) pu, hm, F.kp, F.bindsN (ps := ["script", "spot"]) fun _ _ _ _ _ _ us hl => match us, hl with | [_, _], _ => rfl⟩
/-! ### _law_pour -/
abbrev N__law_pour : List Str := ["jug", "total", "found", "one", "two"]
theorem sc__law_pour : FnScope N__law_pour ["jug", "total"] (defScope (top 31)) := ⟨rfl, rfl, rfl, by decide +kernel, rfl, by decide +kernel, by decide +kernel⟩
def ws__law_pour : WS := (wSeq (wIfS (wB (wOp dGt (wOpO 0 dIx (wC (.int 0))) (wC (.int 0)))) (wSeq (wSet 2 (wOp dMod (wCl dIntOf (wCons (wOpO 0 dIx (wC (.int 0))) wNil)) (wVar 1))) (wSeq (wSetIt 0 (wC (.int 0)) (wOp dFdivG (wOpO 0 dIx (wC (.int 0))) (wVar 1))) (wRet (wVar 2)))) wNext) (wSeq (wSetIt 0 (wC (.int 2)) (wOp dAdd (wOpO 0 dIx (wC (.int 2))) (wC (.int 1)))) (wSeq (wSet 3 (wOp dMod (wCl dIntOf (wCons (wOp dAdd (wOpO 0 dIx (wC (.int 1))) (wOp dMul (wC (.int 49979687)) (wOpO 0 dIx (wC (.int 2))))) wNil)) (wC (.int 2305843009213693951)))) (wSeq (wSet 4 (wOp dAdd (wOp dMul (wOp dMod (wCl dIntOf (wCons (wOp dAdd (wOp dMul (wVar 3) (wVar 3)) (wOp dMul (wC (.int 131)) (wOpO 0 dIx (wC (.int 2))))) wNil)) (wC (.int 2305843009213693921))) (wC (.int 32452843))) (wVar 3))) (wRet (wOp dMod (wCl dIntOf (wCons (wOp dFdivG (wVar 4) (wC (.int 65539))) wNil)) (wVar 1)))))))
theorem der__law_pour (T : Tb K mg)  (f : Addr) (cdv : Value) (A : Around) (outer : List Env) (s : Shared) (H : Hp) (E : XK) (hr : Room 0 (A.deeper (envOfC "_law_pour" (defScope (top 31)) s.heap.objs.size f cdv))) : PSs (cxOf CX0 P w K mg base N__law_pour "_law_pour" (defScope (top 31)) f cdv A outer s H E).nox (defBody (top 31)) (lS K ζ ws__law_pour) :=
  (s_cons (s_if (t_cmp op_gt snd_gt (d_ixO (pv 0) d_int) d_int (nomark _)) (s_cons (s_set (i := 2) sc__law_pour.nd rfl (by first | exact Or.inl rfl | exact Or.inr rfl) (d_op op_mod snd_mod (d_cty call_int1 snd_intOf T.b_int (by decide +kernel) (a_cons (d_ixO (pv 0) d_int) a_nil)) (d_var (pv 1)))) (s_cons (s_setIt (i := 0) (ps_asg (d_op op_fdivG snd_fdivG (d_ixO (pv 0) d_int) (d_var (pv 1))) (pg_sub (pv 0) d_int set_list))) (s_one (s_ret (d_var (pv 2)))))) s_nil) (s_cons (s_setIt (i := 0) (ps_asg (d_op op_addD snd_add (d_ixO (pv 0) d_int) d_int) (pg_sub (pv 0) d_int set_list))) (s_cons (s_set (i := 3) sc__law_pour.nd rfl (by first | exact Or.inl rfl | exact Or.inr rfl) (d_op op_mod snd_mod (d_cty call_int1 snd_intOf T.b_int (by decide +kernel) (a_cons (d_op op_addD snd_add (d_ixO (pv 0) d_int) (d_op op_mulD snd_mul d_int (d_ixO (pv 0) d_int))) a_nil)) d_int)) (s_cons (s_set (i := 4) sc__law_pour.nd rfl (by first | exact Or.inl rfl | exact Or.inr rfl) (d_op op_addD snd_add (d_op op_mulD snd_mul (d_op op_mod snd_mod (d_cty call_int1 snd_intOf T.b_int (by decide +kernel) (a_cons (d_op op_addD snd_add (d_op op_mulD snd_mul (d_var (pv 3)) (d_var (pv 3))) (d_op op_mulD snd_mul d_int (d_ixO (pv 0) d_int))) a_nil)) d_int) d_int) (d_var (pv 3)))) (s_one (s_ret (d_op op_mod snd_mod (d_cty call_int1 snd_intOf T.b_int (by decide +kernel) (a_cons (d_op op_fdivG snd_fdivG (d_var (pv 4)) d_int) a_nil)) (d_var (pv 1)))))))))
theorem ok__law_pour (T : Tb K mg)  {f : Addr} {fd : FuncData} (F : FunD K "_law_pour" "_law_pour" (defArgs (top 31)) (defBody (top 31)) (defScope (top 31)) [] [] f fd) (hm : mg "_law_pour" = some (.ref f)) (pu : ∀ dj ds Q', ds.length + 1 = 2 → wf__law_pour dj ds Q' → ws__law_pour (edJ Q') (enJ N__law_pour dj ds)) : Cal P w K mg base 1 "_law_pour" ["jug", "total"] (spJ K 2 wf__law_pour) :=
  ⟨f, fd, fnJ F sc__law_pour rfl (fun cdv A outer s H E hr => der__law_pour T  f cdv A outer s H E hr) pu, hm, F.kp, F.bindsN (ps := ["jug", "total"]) fun _ _ _ _ _ _ us hl => match us, hl with | [_, _], _ => rfl⟩
/-! ### _law_sip -/
abbrev N__law_sip : List Str := ["jug", "items"]
theorem sc__law_sip : FnScope N__law_sip ["jug", "items"] (defScope (top 32)) := ⟨rfl, rfl, rfl, by decide +kernel, rfl, by decide +kernel, by decide +kernel⟩
def ws__law_sip : WS := (wRet (wOp dIx (wVar 1) (wFnJ 0 2 wf__law_pour (wCons (wCl dLen (wCons (wVar 1) wNil)) wNil))))
theorem der__law_sip (T : Tb K mg) (C__law_pour : Cal P w K mg base 1 "_law_pour" ["jug", "total"] (spJ K 2 wf__law_pour)) (f : Addr) (cdv : Value) (A : Around) (outer : List Env) (s : Shared) (H : Hp) (E : XK) (hr : Room 1 (A.deeper (envOfC "_law_sip" (defScope (top 32)) s.heap.objs.size f cdv))) : PSs (cxOf CX0 P w K mg base N__law_sip "_law_sip" (defScope (top 32)) f cdv A outer s H E).nox (defBody (top 32)) (lS K ζ ws__law_sip) :=
  (s_one (s_ret (d_ix (d_var (pv 1)) (c_callJ (i := 0) C__law_pour (hr.mono (by decide)) (pv 0) (a_cons (d_cb call_len snd_len T.b_len (by decide +kernel) (a_cons (d_var (pv 1)) a_nil)) a_nil)))))
theorem ok__law_sip (T : Tb K mg) (C__law_pour : Cal P w K mg base 1 "_law_pour" ["jug", "total"] (spJ K 2 wf__law_pour)) {f : Addr} {fd : FuncData} (F : FunD K "_law_sip" "_law_sip" (defArgs (top 32)) (defBody (top 32)) (defScope (top 32)) [] [] f fd) (hm : mg "_law_sip" = some (.ref f)) (pu : ∀ dj ds Q', ds.length + 1 = 2 → wf__law_sip dj ds Q' → ws__law_sip (edJ Q') (enJ N__law_sip dj ds)) : Cal P w K mg base 2 "_law_sip" ["jug", "items"] (spJ K 2 wf__law_sip) :=
  ⟨f, fd, fnJ F sc__law_sip rfl (fun cdv A outer s H E hr => der__law_sip T C__law_pour f cdv A outer s H E hr) pu, hm, F.kp, F.bindsN (ps := ["jug", "items"]) fun _ _ _ _ _ _ us hl => match us, hl with | [_, _], _ => rfl⟩
/-! ### _law_met -/
abbrev N__law_met : List Str := ["call", "error"]
theorem sc__law_met : FnScope N__law_met ["call"] (defScope (top 33)) := ⟨rfl, rfl, rfl, by decide +kernel, rfl, by decide +kernel, by decide +kernel⟩
def cl__law_met : List ClaD := [("InvalidNumber", some 1, fun a dx nm => (wRet (wTup (wCons (wC (.str "number")) (wCons (wCl dRepr (wCons (wEF ["InvalidNumber"] a dx nm 1 "given") wNil)) wNil))))), ("InvalidRow", none, fun a dx nm => (wRet (wC (.str "row")))), ("Refused", some 1, fun a dx nm => (wRet (wTup (wCons (wC (.str "refused")) (wCons (wEF ["Refused"] a dx nm 1 "reason") wNil)))))]
def wl__law_met : WS := (wRet (wC (.str "fine")))
theorem giv__law_met {X : Cx} {q : Str} {g : Addr} {cdv : Value} (T : Tb X.K X.mg) (hg : X.A.guards = some []) (hU : X.A.units + 160 < cLine) : LamX.GivesTo X N__law_met "_law_met" (defScope (top 33)) g cdv (defBody (top 33)) "call" q (TTd X.K exB 2 cl__law_met wl__law_met) :=
  met_gives rfl (fun _ => rfl) (fun _ => rfl) T.exb (fun s H => (cla_named rfl T.m_InvalidNumber sc__law_met.nd rfl rfl (fun a oe cls pn dx nm hz hf hc => (s_one (s_ret (d_tup (a_cons d_str (a_cons (d_cb (call_repr hg (unit_s hU)) snd_repr T.b_repr (by decide +kernel) (a_cons (d_efld T.e_given hz hf hc (pv 1)) a_nil)) a_nil)))))) (cla_plain rfl T.m_InvalidRow (fun a oe pn dx nm => (s_one (s_ret d_str))) (cla_named rfl T.m_Refused sc__law_met.nd rfl rfl (fun a oe cls pn dx nm hz hf hc => (s_one (s_ret (d_tup (a_cons d_str (a_cons (d_efld T.e_reason hz hf hc (pv 1)) a_nil)))))) cla_nil)))) (fun s H => (s_one (s_ret d_str)))
/-! ### least_divisor -/
abbrev N_least_divisor : List Str := ["number", "divisor"]
theorem sc_least_divisor : FnScope N_least_divisor ["number"] (defScope (top 13)) := ⟨rfl, rfl, rfl, by decide +kernel, rfl, by decide +kernel, by decide +kernel⟩
def ws_least_divisor : WS := (wSeq (wSet 1 (wC (.int 2))) (wSeq (wWhile (wB (wOp dLe (wOp dMul (wVar 1) (wVar 1)) (wVar 0))) (wSeq (wIfS (wB (wOp dEq (wOp dMod (wVar 0) (wVar 1)) (wC (.int 0)))) (wRet (wVar 1)) wNext) (wAug 1 dIadd (wC (.int 1))))) (wRet (wVar 0))))
theorem der_least_divisor (T : Tb K mg)  (f : Addr) (cdv : Value) (A : Around) (outer : List Env) (s : Shared) (H : Hp) (E : XK) (hr : Room 0 (A.deeper (envOfC "least_divisor" (defScope (top 13)) s.heap.objs.size f cdv))) : PSs (cxOf CX0 P w K mg base N_least_divisor "least_divisor" (defScope (top 13)) f cdv A outer s H E).nox (defBody (top 13)) (lS K ζ ws_least_divisor) :=
  (s_cons (s_set (i := 1) sc_least_divisor.nd rfl (by first | exact Or.inl rfl | exact Or.inr rfl) d_int) (s_cons (s_while PassesOwn.never (t_cmp op_le snd_le (d_op op_mulD snd_mul (d_var (pv 1)) (d_var (pv 1))) (d_var (pv 0)) (nomark _)) (s_cons (s_if (t_cmp (op_eqD hr.units) snd_eq (d_op op_mod snd_mod (d_var (pv 0)) (d_var (pv 1))) d_int (nomark _)) (s_one (s_ret (d_var (pv 1)))) s_nil) (s_one (s_aug (i := 1) sc_least_divisor.nd rfl (by first | exact Or.inl rfl | exact Or.inr rfl) d_int ip_add snd_ipadd)))) (s_one (s_ret (d_var (pv 0))))))
theorem ok_least_divisor (T : Tb K mg)  {f : Addr} {fd : FuncData} (F : FunD K "least_divisor" "least_divisor" (defArgs (top 13)) (defBody (top 13)) (defScope (top 13)) [] [] f fd) (hm : mg "least_divisor" = some (.ref f)) (pu : ∀ ds Q', ds.length = 1 → wf_least_divisor ds Q' → ws_least_divisor (edP Q') (enP N_least_divisor ds)) : Cal P w K mg base 1 "least_divisor" ["number"] (spP K 1 wf_least_divisor) :=
  ⟨f, fd, fnP F sc_least_divisor (fun cdv A outer s H E hr => der_least_divisor T  f cdv A outer s H E hr) pu, hm, F.kp, F.bindsN (ps := ["number"]) fun _ _ _ _ _ _ us hl => match us, hl with | [_], _ => rfl⟩
/-! ### is_whole -/
abbrev N_is_whole : List Str := ["value"]
theorem sc_is_whole : FnScope N_is_whole ["value"] (defScope (top 6)) := ⟨rfl, rfl, rfl, by decide +kernel, rfl, by decide +kernel, by decide +kernel⟩
def ws_is_whole : WS := (wRet (wAndV (wIsi "int" (wVar 0)) (wNotV (wIsi "bool" (wVar 0)))))
theorem der_is_whole (T : Tb K mg)  (f : Addr) (cdv : Value) (A : Around) (outer : List Env) (s : Shared) (H : Hp) (E : XK) (hr : Room 0 (A.deeper (envOfC "is_whole" (defScope (top 6)) s.heap.objs.size f cdv))) : PSs (cxOf CX0 P w K mg base N_is_whole "is_whole" (defScope (top 6)) f cdv A outer s H E).nox (defBody (top 6)) (lS K ζ ws_is_whole) :=
  (s_one (s_ret (d_and (d_isi (T' := "int") T.b_isinstance T.b_int (by decide +kernel) (d_var (pv 0))) (d_one (d_not (d_isi (T' := "bool") T.b_isinstance T.b_bool (by decide +kernel) (d_var (pv 0))))))))
theorem ok_is_whole (T : Tb K mg)  {f : Addr} {fd : FuncData} (F : FunD K "is_whole" "is_whole" (defArgs (top 6)) (defBody (top 6)) (defScope (top 6)) [] [] f fd) (hm : mg "is_whole" = some (.ref f)) (pu : ∀ ds Q', ds.length = 1 → wf_is_whole ds Q' → ws_is_whole (edP Q') (enP N_is_whole ds)) : Cal P w K mg base 1 "is_whole" ["value"] (spP K 1 wf_is_whole) :=
  ⟨f, fd, fnP F sc_is_whole (fun cdv A outer s H E hr => der_is_whole T  f cdv A outer s H E hr) pu, hm, F.kp, F.bindsN (ps := ["value"]) fun _ _ _ _ _ _ us hl => match us, hl with | [_], _ => rfl⟩
/-! ### is_between -/
abbrev N_is_between : List Str := ["value", "least", "most"]
theorem sc_is_between : FnScope N_is_between ["value", "least", "most"] (defScope (top 7)) := ⟨rfl, rfl, rfl, by decide +kernel, rfl, by decide +kernel, by decide +kernel⟩
def ws_is_between : WS := (wRet (wAndV (wFn 1 wf_is_whole (wCons (wVar 0) wNil)) (wCh dLe dLe (wVar 1) (wVar 0) (wVar 2))))
theorem der_is_between (T : Tb K mg) (C_is_whole : Cal P w K mg base 1 "is_whole" ["value"] (spP K 1 wf_is_whole)) (f : Addr) (cdv : Value) (A : Around) (outer : List Env) (s : Shared) (H : Hp) (E : XK) (hr : Room 1 (A.deeper (envOfC "is_between" (defScope (top 7)) s.heap.objs.size f cdv))) : PSs (cxOf CX0 P w K mg base N_is_between "is_between" (defScope (top 7)) f cdv A outer s H E).nox (defBody (top 7)) (lS K ζ ws_is_between) :=
  (s_one (s_ret (d_and (c_call C_is_whole (hr.mono (by decide)) (a_cons (d_var (pv 0)) a_nil)) (d_one (d_ch op_le snd_le op_le snd_le (d_var (pv 1)) (d_var (pv 0)) (d_var (pv 2)))))))
theorem ok_is_between (T : Tb K mg) (C_is_whole : Cal P w K mg base 1 "is_whole" ["value"] (spP K 1 wf_is_whole)) {f : Addr} {fd : FuncData} (F : FunD K "is_between" "is_between" (defArgs (top 7)) (defBody (top 7)) (defScope (top 7)) [] [] f fd) (hm : mg "is_between" = some (.ref f)) (pu : ∀ ds Q', ds.length = 3 → wf_is_between ds Q' → ws_is_between (edP Q') (enP N_is_between ds)) : Cal P w K mg base 2 "is_between" ["value", "least", "most"] (spP K 3 wf_is_between) :=
  ⟨f, fd, fnP F sc_is_between (fun cdv A outer s H E hr => der_is_between T C_is_whole f cdv A outer s H E hr) pu, hm, F.kp, F.bindsN (ps := ["value", "least", "most"]) fun _ _ _ _ _ _ us hl => match us, hl with | [_, _, _], _ => rfl⟩
/-! ### is_prime -/
abbrev N_is_prime : List Str := ["value"]
theorem sc_is_prime : FnScope N_is_prime ["value"] (defScope (top 14)) := ⟨rfl, rfl, rfl, by decide +kernel, rfl, by decide +kernel, by decide +kernel⟩
def ws_is_prime : WS := (wRet (wAndV (wFn 3 wf_is_between (wCons (wVar 0) (wCons (wC (.int 2)) (wCons (wC (.int 9973)) wNil)))) (wOp dEq (wFn 1 wf_least_divisor (wCons (wVar 0) wNil)) (wVar 0))))
theorem der_is_prime (T : Tb K mg) (C_least_divisor : Cal P w K mg base 1 "least_divisor" ["number"] (spP K 1 wf_least_divisor)) (C_is_between : Cal P w K mg base 2 "is_between" ["value", "least", "most"] (spP K 3 wf_is_between)) (f : Addr) (cdv : Value) (A : Around) (outer : List Env) (s : Shared) (H : Hp) (E : XK) (hr : Room 2 (A.deeper (envOfC "is_prime" (defScope (top 14)) s.heap.objs.size f cdv))) : PSs (cxOf CX0 P w K mg base N_is_prime "is_prime" (defScope (top 14)) f cdv A outer s H E).nox (defBody (top 14)) (lS K ζ ws_is_prime) :=
  (s_one (s_ret (d_and (c_call C_is_between (hr.mono (by decide)) (a_cons (d_var (pv 0)) (a_cons d_int (a_cons (d_gint T.c_MOST_PRIME) a_nil)))) (d_one (d_cmp (op_eqD hr.units) snd_eq (c_call C_least_divisor (hr.mono (by decide)) (a_cons (d_var (pv 0)) a_nil)) (d_var (pv 0)) (nomark _))))))
theorem ok_is_prime (T : Tb K mg) (C_least_divisor : Cal P w K mg base 1 "least_divisor" ["number"] (spP K 1 wf_least_divisor)) (C_is_between : Cal P w K mg base 2 "is_between" ["value", "least", "most"] (spP K 3 wf_is_between)) {f : Addr} {fd : FuncData} (F : FunD K "is_prime" "is_prime" (defArgs (top 14)) (defBody (top 14)) (defScope (top 14)) [] [] f fd) (hm : mg "is_prime" = some (.ref f)) (pu : ∀ ds Q', ds.length = 1 → wf_is_prime ds Q' → ws_is_prime (edP Q') (enP N_is_prime ds)) : Cal P w K mg base 3 "is_prime" ["value"] (spP K 1 wf_is_prime) :=
  ⟨f, fd, fnP F sc_is_prime (fun cdv A outer s H E hr => der_is_prime T C_least_divisor C_is_between f cdv A outer s H E hr) pu, hm, F.kp, F.bindsN (ps := ["value"]) fun _ _ _ _ _ _ us hl => match us, hl with | [_], _ => rfl⟩
/-! ### check_prime -/
abbrev N_check_prime : List Str := ["prime"]
theorem sc_check_prime : FnScope N_check_prime ["prime"] (defScope (top 15)) := ⟨rfl, rfl, rfl, by decide +kernel, rfl, by decide +kernel, by decide +kernel⟩
def ws_check_prime (R : Exc → En → Prop) : WS := (wIfS (wNot (wTr (wFn 1 wf_is_prime (wCons (wVar 0) wNil)))) (wRaiseF R "InvalidNumber" "given" (wVar 0)) wNext)
theorem der_check_prime {R : Exc → En → Prop} (T : Tb K mg) (C_is_prime : Cal P w K mg base 3 "is_prime" ["value"] (spP K 1 wf_is_prime)) (C_InvalidNumber___init__ : ExfC P w K mg base "InvalidNumber" "given") (f : Addr) (cdv : Value) (A : Around) (outer : List Env) (s : Shared) (H : Hp) (E : XK) (tk : Takes (cxOf (L2.CX P w) P w K mg base N_check_prime "check_prime" (defScope (top 15)) f cdv A outer s H E) (wxOf K ζ R)) (hpo : PassesOwn (model P w) (cxOf (L2.CX P w) P w K mg base N_check_prime "check_prime" (defScope (top 15)) f cdv A outer s H E).A (cxOf (L2.CX P w) P w K mg base N_check_prime "check_prime" (defScope (top 15)) f cdv A outer s H E).env (cxOf (L2.CX P w) P w K mg base N_check_prime "check_prime" (defScope (top 15)) f cdv A outer s H E).xe) (hr : Room 3 (A.deeper (envOfC "check_prime" (defScope (top 15)) s.heap.objs.size f cdv))) : PSs (cxOf (L2.CX P w) P w K mg base N_check_prime "check_prime" (defScope (top 15)) f cdv A outer s H E) (defBody (top 15)) (lS K ζ (ws_check_prime R)) :=
  (s_one (s_if (t_not (t_tru (c_call C_is_prime (hr.mono (by decide)) (a_cons (d_var (pv 0)) a_nil)))) (s_one (s_raiseF C_InvalidNumber___init__ rfl (hr.mono (by decide)) tk (d_var (pv 0)))) s_nil))
theorem ok_check_prime (T : Tb K mg) (C_is_prime : Cal P w K mg base 3 "is_prime" ["value"] (spP K 1 wf_is_prime)) (C_InvalidNumber___init__ : ExfC P w K mg base "InvalidNumber" "given") {f : Addr} {fd : FuncData} (F : FunD K "check_prime" "check_prime" (defArgs (top 15)) (defBody (top 15)) (defScope (top 15)) [] [] f fd) (hm : mg "check_prime" = some (.ref f)) (pu : ∀ ds Q' R', ds.length = 1 → wf_check_prime ds Q' R' → ws_check_prime (fun e _ => R' e) (edP Q') (enP N_check_prime ds)) : CalX P w K mg base 4 "check_prime" ["prime"] (spX K 1 wf_check_prime) :=
  ⟨f, fd, fnX F sc_check_prime (fun ζ R cdv A outer s H E tk hpo hr => der_check_prime T C_is_prime C_InvalidNumber___init__ f cdv A outer s H E tk hpo hr) pu, hm, F.kp, F.bindsN (ps := ["prime"]) fun _ _ _ _ _ _ us hl => match us, hl with | [_], _ => rfl⟩
/-! ### check_between -/
abbrev N_check_between : List Str := ["value", "least", "most"]
theorem sc_check_between : FnScope N_check_between ["value", "least", "most"] (defScope (top 8)) := ⟨rfl, rfl, rfl, by decide +kernel, rfl, by decide +kernel, by decide +kernel⟩
def ws_check_between (R : Exc → En → Prop) : WS := (wIfS (wNot (wTr (wFn 3 wf_is_between (wCons (wVar 0) (wCons (wVar 1) (wCons (wVar 2) wNil)))))) (wRaiseF R "InvalidNumber" "given" (wVar 0)) wNext)
theorem der_check_between {R : Exc → En → Prop} (T : Tb K mg) (C_is_between : Cal P w K mg base 2 "is_between" ["value", "least", "most"] (spP K 3 wf_is_between)) (C_InvalidNumber___init__ : ExfC P w K mg base "InvalidNumber" "given") (f : Addr) (cdv : Value) (A : Around) (outer : List Env) (s : Shared) (H : Hp) (E : XK) (tk : Takes (cxOf (L2.CX P w) P w K mg base N_check_between "check_between" (defScope (top 8)) f cdv A outer s H E) (wxOf K ζ R)) (hpo : PassesOwn (model P w) (cxOf (L2.CX P w) P w K mg base N_check_between "check_between" (defScope (top 8)) f cdv A outer s H E).A (cxOf (L2.CX P w) P w K mg base N_check_between "check_between" (defScope (top 8)) f cdv A outer s H E).env (cxOf (L2.CX P w) P w K mg base N_check_between "check_between" (defScope (top 8)) f cdv A outer s H E).xe) (hr : Room 2 (A.deeper (envOfC "check_between" (defScope (top 8)) s.heap.objs.size f cdv))) : PSs (cxOf (L2.CX P w) P w K mg base N_check_between "check_between" (defScope (top 8)) f cdv A outer s H E) (defBody (top 8)) (lS K ζ (ws_check_between R)) :=
  (s_one (s_if (t_not (t_tru (c_call C_is_between (hr.mono (by decide)) (a_cons (d_var (pv 0)) (a_cons (d_var (pv 1)) (a_cons (d_var (pv 2)) a_nil)))))) (s_one (s_raiseF C_InvalidNumber___init__ rfl (hr.mono (by decide)) tk (d_var (pv 0)))) s_nil))
theorem ok_check_between (T : Tb K mg) (C_is_between : Cal P w K mg base 2 "is_between" ["value", "least", "most"] (spP K 3 wf_is_between)) (C_InvalidNumber___init__ : ExfC P w K mg base "InvalidNumber" "given") {f : Addr} {fd : FuncData} (F : FunD K "check_between" "check_between" (defArgs (top 8)) (defBody (top 8)) (defScope (top 8)) [] [] f fd) (hm : mg "check_between" = some (.ref f)) (pu : ∀ ds Q' R', ds.length = 3 → wf_check_between ds Q' R' → ws_check_between (fun e _ => R' e) (edP Q') (enP N_check_between ds)) : CalX P w K mg base 3 "check_between" ["value", "least", "most"] (spX K 3 wf_check_between) :=
  ⟨f, fd, fnX F sc_check_between (fun ζ R cdv A outer s H E tk hpo hr => der_check_between T C_is_between C_InvalidNumber___init__ f cdv A outer s H E tk hpo hr) pu, hm, F.kp, F.bindsN (ps := ["value", "least", "most"]) fun _ _ _ _ _ _ us hl => match us, hl with | [_, _, _], _ => rfl⟩
/-! ### check_letter -/
abbrev N_check_letter : List Str := ["prime", "letter"]
theorem sc_check_letter : FnScope N_check_letter ["prime", "letter"] (defScope (top 16)) := ⟨rfl, rfl, rfl, by decide +kernel, rfl, by decide +kernel, by decide +kernel⟩
def ws_check_letter (R : Exc → En → Prop) : WS := (wDrop (wFnX 3 wf_check_between R (wCons (wVar 1) (wCons (wC (.int 0)) (wCons (wOp dSub (wVar 0) (wC (.int 1))) wNil)))))
theorem der_check_letter {R : Exc → En → Prop} (T : Tb K mg) (C_check_between : CalX P w K mg base 3 "check_between" ["value", "least", "most"] (spX K 3 wf_check_between)) (f : Addr) (cdv : Value) (A : Around) (outer : List Env) (s : Shared) (H : Hp) (E : XK) (tk : Takes (cxOf (L2.CX P w) P w K mg base N_check_letter "check_letter" (defScope (top 16)) f cdv A outer s H E) (wxOf K ζ R)) (hpo : PassesOwn (model P w) (cxOf (L2.CX P w) P w K mg base N_check_letter "check_letter" (defScope (top 16)) f cdv A outer s H E).A (cxOf (L2.CX P w) P w K mg base N_check_letter "check_letter" (defScope (top 16)) f cdv A outer s H E).env (cxOf (L2.CX P w) P w K mg base N_check_letter "check_letter" (defScope (top 16)) f cdv A outer s H E).xe) (hr : Room 3 (A.deeper (envOfC "check_letter" (defScope (top 16)) s.heap.objs.size f cdv))) : PSs (cxOf (L2.CX P w) P w K mg base N_check_letter "check_letter" (defScope (top 16)) f cdv A outer s H E) (defBody (top 16)) (lS K ζ (ws_check_letter R)) :=
  (s_one (s_expr (c_callX C_check_between tk (hr.mono (by decide)) (a_cons (d_var (pv 1)) (a_cons d_int (a_cons (d_op op_sub snd_sub (d_var (pv 0)) d_int) a_nil))))))
theorem ok_check_letter (T : Tb K mg) (C_check_between : CalX P w K mg base 3 "check_between" ["value", "least", "most"] (spX K 3 wf_check_between)) {f : Addr} {fd : FuncData} (F : FunD K "check_letter" "check_letter" (defArgs (top 16)) (defBody (top 16)) (defScope (top 16)) [] [] f fd) (hm : mg "check_letter" = some (.ref f)) (pu : ∀ ds Q' R', ds.length = 2 → wf_check_letter ds Q' R' → ws_check_letter (fun e _ => R' e) (edP Q') (enP N_check_letter ds)) : CalX P w K mg base 4 "check_letter" ["prime", "letter"] (spX K 2 wf_check_letter) :=
  ⟨f, fd, fnX F sc_check_letter (fun ζ R cdv A outer s H E tk hpo hr => der_check_letter T C_check_between f cdv A outer s H E tk hpo hr) pu, hm, F.kp, F.bindsN (ps := ["prime", "letter"]) fun _ _ _ _ _ _ us hl => match us, hl with | [_, _], _ => rfl⟩
/-! ### power_of -/
abbrev N_power_of : List Str := ["prime", "letter", "times", "made", "square", "left"]
theorem sc_power_of : FnScope N_power_of ["prime", "letter", "times"] (defScope (top 19)) := ⟨rfl, rfl, rfl, by decide +kernel, rfl, by decide +kernel, by decide +kernel⟩
def ws_power_of : WS := (wSeq (wSet 3 (wC (.int 1))) (wSeq (wSet 4 (wVar 1)) (wSeq (wSet 5 (wVar 2)) (wSeq (wWhile (wB (wOp dGt (wVar 5) (wC (.int 0)))) (wSeq (wIfS (wB (wOp dEq (wOp dMod (wVar 5) (wC (.int 2))) (wC (.int 1)))) (wSet 3 (wOp dMod (wOp dMul (wVar 3) (wVar 4)) (wVar 0))) wNext) (wSeq (wSet 4 (wOp dMod (wOp dMul (wVar 4) (wVar 4)) (wVar 0))) (wSet 5 (wOp dFdivG (wVar 5) (wC (.int 2))))))) (wRet (wVar 3))))))
theorem der_power_of (T : Tb K mg)  (f : Addr) (cdv : Value) (A : Around) (outer : List Env) (s : Shared) (H : Hp) (E : XK) (hr : Room 0 (A.deeper (envOfC "power_of" (defScope (top 19)) s.heap.objs.size f cdv))) : PSs (cxOf CX0 P w K mg base N_power_of "power_of" (defScope (top 19)) f cdv A outer s H E).nox (defBody (top 19)) (lS K ζ ws_power_of) :=
  (s_cons (s_set (i := 3) sc_power_of.nd rfl (by first | exact Or.inl rfl | exact Or.inr rfl) d_int) (s_cons (s_set (i := 4) sc_power_of.nd rfl (by first | exact Or.inl rfl | exact Or.inr rfl) (d_var (pv 1))) (s_cons (s_set (i := 5) sc_power_of.nd rfl (by first | exact Or.inl rfl | exact Or.inr rfl) (d_var (pv 2))) (s_cons (s_while PassesOwn.never (t_cmp op_gt snd_gt (d_var (pv 5)) d_int (nomark _)) (s_cons (s_if (t_cmp (op_eqD hr.units) snd_eq (d_op op_mod snd_mod (d_var (pv 5)) d_int) d_int (nomark _)) (s_one (s_set (i := 3) sc_power_of.nd rfl (by first | exact Or.inl rfl | exact Or.inr rfl) (d_op op_mod snd_mod (d_op op_mulD snd_mul (d_var (pv 3)) (d_var (pv 4))) (d_var (pv 0))))) s_nil) (s_cons (s_set (i := 4) sc_power_of.nd rfl (by first | exact Or.inl rfl | exact Or.inr rfl) (d_op op_mod snd_mod (d_op op_mulD snd_mul (d_var (pv 4)) (d_var (pv 4))) (d_var (pv 0)))) (s_one (s_set (i := 5) sc_power_of.nd rfl (by first | exact Or.inl rfl | exact Or.inr rfl) (d_op op_fdivG snd_fdivG (d_var (pv 5)) d_int)))))) (s_one (s_ret (d_var (pv 3))))))))
theorem ok_power_of (T : Tb K mg)  {f : Addr} {fd : FuncData} (F : FunD K "power_of" "power_of" (defArgs (top 19)) (defBody (top 19)) (defScope (top 19)) [] [] f fd) (hm : mg "power_of" = some (.ref f)) (pu : ∀ ds Q', ds.length = 3 → wf_power_of ds Q' → ws_power_of (edP Q') (enP N_power_of ds)) : Cal P w K mg base 1 "power_of" ["prime", "letter", "times"] (spP K 3 wf_power_of) :=
  ⟨f, fd, fnP F sc_power_of (fun cdv A outer s H E hr => der_power_of T  f cdv A outer s H E hr) pu, hm, F.kp, F.bindsN (ps := ["prime", "letter", "times"]) fun _ _ _ _ _ _ us hl => match us, hl with | [_, _, _], _ => rfl⟩
/-! ### inverse_of -/
abbrev N_inverse_of : List Str := ["prime", "letter"]
theorem sc_inverse_of : FnScope N_inverse_of ["prime", "letter"] (defScope (top 20)) := ⟨rfl, rfl, rfl, by decide +kernel, rfl, by decide +kernel, by decide +kernel⟩
def ws_inverse_of : WS := (wRet (wFn 3 wf_power_of (wCons (wVar 0) (wCons (wVar 1) (wCons (wOp dSub (wVar 0) (wC (.int 2))) wNil)))))
theorem der_inverse_of (T : Tb K mg) (C_power_of : Cal P w K mg base 1 "power_of" ["prime", "letter", "times"] (spP K 3 wf_power_of)) (f : Addr) (cdv : Value) (A : Around) (outer : List Env) (s : Shared) (H : Hp) (E : XK) (hr : Room 1 (A.deeper (envOfC "inverse_of" (defScope (top 20)) s.heap.objs.size f cdv))) : PSs (cxOf CX0 P w K mg base N_inverse_of "inverse_of" (defScope (top 20)) f cdv A outer s H E).nox (defBody (top 20)) (lS K ζ ws_inverse_of) :=
  (s_one (s_ret (c_call C_power_of (hr.mono (by decide)) (a_cons (d_var (pv 0)) (a_cons (d_var (pv 1)) (a_cons (d_op op_sub snd_sub (d_var (pv 0)) d_int) a_nil))))))
theorem ok_inverse_of (T : Tb K mg) (C_power_of : Cal P w K mg base 1 "power_of" ["prime", "letter", "times"] (spP K 3 wf_power_of)) {f : Addr} {fd : FuncData} (F : FunD K "inverse_of" "inverse_of" (defArgs (top 20)) (defBody (top 20)) (defScope (top 20)) [] [] f fd) (hm : mg "inverse_of" = some (.ref f)) (pu : ∀ ds Q', ds.length = 2 → wf_inverse_of ds Q' → ws_inverse_of (edP Q') (enP N_inverse_of ds)) : Cal P w K mg base 2 "inverse_of" ["prime", "letter"] (spP K 2 wf_inverse_of) :=
  ⟨f, fd, fnP F sc_inverse_of (fun cdv A outer s H E hr => der_inverse_of T C_power_of f cdv A outer s H E hr) pu, hm, F.kp, F.bindsN (ps := ["prime", "letter"]) fun _ _ _ _ _ _ us hl => match us, hl with | [_, _], _ => rfl⟩
/-! ### inverse -/
abbrev N_inverse : List Str := ["prime", "letter"]
theorem sc_inverse : FnScope N_inverse ["prime", "letter"] (defScope (top 21)) := ⟨rfl, rfl, rfl, by decide +kernel, rfl, by decide +kernel, by decide +kernel⟩
def ws_inverse (R : Exc → En → Prop) : WS := (wSeq (wDrop (wFnX 1 wf_check_prime R (wCons (wVar 0) wNil))) (wSeq (wDrop (wFnX 2 wf_check_letter R (wCons (wVar 0) (wCons (wVar 1) wNil)))) (wSeq (wIfS (wB (wOp dEq (wVar 1) (wC (.int 0)))) (wRaiseF R "Refused" "reason" (wTup (wCons (wC (.str "zero")) wNil))) wNext) (wRet (wFn 2 wf_inverse_of (wCons (wVar 0) (wCons (wVar 1) wNil)))))))
theorem der_inverse {R : Exc → En → Prop} (T : Tb K mg) (C_check_prime : CalX P w K mg base 4 "check_prime" ["prime"] (spX K 1 wf_check_prime)) (C_check_letter : CalX P w K mg base 4 "check_letter" ["prime", "letter"] (spX K 2 wf_check_letter)) (C_inverse_of : Cal P w K mg base 2 "inverse_of" ["prime", "letter"] (spP K 2 wf_inverse_of)) (C_Refused___init__ : ExfC P w K mg base "Refused" "reason") (f : Addr) (cdv : Value) (A : Around) (outer : List Env) (s : Shared) (H : Hp) (E : XK) (tk : Takes (cxOf (L2.CX P w) P w K mg base N_inverse "inverse" (defScope (top 21)) f cdv A outer s H E) (wxOf K ζ R)) (hpo : PassesOwn (model P w) (cxOf (L2.CX P w) P w K mg base N_inverse "inverse" (defScope (top 21)) f cdv A outer s H E).A (cxOf (L2.CX P w) P w K mg base N_inverse "inverse" (defScope (top 21)) f cdv A outer s H E).env (cxOf (L2.CX P w) P w K mg base N_inverse "inverse" (defScope (top 21)) f cdv A outer s H E).xe) (hr : Room 4 (A.deeper (envOfC "inverse" (defScope (top 21)) s.heap.objs.size f cdv))) : PSs (cxOf (L2.CX P w) P w K mg base N_inverse "inverse" (defScope (top 21)) f cdv A outer s H E) (defBody (top 21)) (lS K ζ (ws_inverse R)) :=
  (s_cons (s_expr (c_callX C_check_prime tk (hr.mono (by decide)) (a_cons (d_var (pv 0)) a_nil))) (s_cons (s_expr (c_callX C_check_letter tk (hr.mono (by decide)) (a_cons (d_var (pv 0)) (a_cons (d_var (pv 1)) a_nil)))) (s_cons (s_if (t_cmp (op_eqD hr.units) snd_eq (d_var (pv 1)) d_int (nomark _)) (s_one (s_raiseF C_Refused___init__ rfl (hr.mono (by decide)) tk (d_tup (a_cons d_str a_nil)))) s_nil) (s_one (s_ret (c_call C_inverse_of (hr.mono (by decide)) (a_cons (d_var (pv 0)) (a_cons (d_var (pv 1)) a_nil))))))))
theorem ok_inverse (T : Tb K mg) (C_check_prime : CalX P w K mg base 4 "check_prime" ["prime"] (spX K 1 wf_check_prime)) (C_check_letter : CalX P w K mg base 4 "check_letter" ["prime", "letter"] (spX K 2 wf_check_letter)) (C_inverse_of : Cal P w K mg base 2 "inverse_of" ["prime", "letter"] (spP K 2 wf_inverse_of)) (C_Refused___init__ : ExfC P w K mg base "Refused" "reason") {f : Addr} {fd : FuncData} (F : FunD K "inverse" "inverse" (defArgs (top 21)) (defBody (top 21)) (defScope (top 21)) [] [] f fd) (hm : mg "inverse" = some (.ref f)) (pu : ∀ ds Q' R', ds.length = 2 → wf_inverse ds Q' R' → ws_inverse (fun e _ => R' e) (edP Q') (enP N_inverse ds)) : CalX P w K mg base 5 "inverse" ["prime", "letter"] (spX K 2 wf_inverse) :=
  ⟨f, fd, fnX F sc_inverse (fun ζ R cdv A outer s H E tk hpo hr => der_inverse T C_check_prime C_check_letter C_inverse_of C_Refused___init__ f cdv A outer s H E tk hpo hr) pu, hm, F.kp, F.bindsN (ps := ["prime", "letter"]) fun _ _ _ _ _ _ us hl => match us, hl with | [_, _], _ => rfl⟩
/-! ### are_letters -/
abbrev N_are_letters : List Str := ["prime", "value", "least", "most", "letter"]
theorem sc_are_letters : FnScope N_are_letters ["prime", "value", "least", "most"] (defScope (top 17)) := ⟨rfl, rfl, rfl, by decide +kernel, rfl, by decide +kernel, by decide +kernel⟩
def ws_are_letters : WS := (wSeq (wIfS (wOr (wNot (wTr (wIsi "tuple" (wVar 1)))) (wNot (wB (wCh dLe dLe (wVar 2) (wCl dLen (wCons (wVar 1) wNil)) (wVar 3))))) (wRet (wC (.bool false))) wNext) (wRet (wCl dAll (wCons (wLe (wLc (wSq (wVar 1)) (wgN 4) wYes (wFn 3 wf_is_between (wCons (wVar 4) (wCons (wC (.int 0)) (wCons (wOp dSub (wVar 0) (wC (.int 1))) wNil)))) [4])) wNil))))
theorem der_are_letters (T : Tb K mg) (C_is_between : Cal P w K mg base 2 "is_between" ["value", "least", "most"] (spP K 3 wf_is_between)) (f : Addr) (cdv : Value) (A : Around) (outer : List Env) (s : Shared) (H : Hp) (E : XK) (hr : Room 2 (A.deeper (envOfC "are_letters" (defScope (top 17)) s.heap.objs.size f cdv))) : PSs (cxOf CX0 P w K mg base N_are_letters "are_letters" (defScope (top 17)) f cdv A outer s H E).nox (defBody (top 17)) (lS K ζ ws_are_letters) :=
  (s_cons (s_if (PW.pt (t_or (t_not (t_tru (d_isi (T' := "tuple") T.b_isinstance T.b_tuple (by decide +kernel) (d_var (pv 1))))) (t_or1 (t_not (t_ch op_le snd_le op_le snd_le (d_var (pv 2)) (d_cb call_len snd_len T.b_len (by decide +kernel) (a_cons (d_var (pv 1)) a_nil)) (d_var (pv 3))))))) (s_one (s_ret d_bl)) s_nil) (s_one (s_ret (d_cb (cr_all rfl) snd_all T.b_all (by decide +kernel) (a_cons (d_lL (l_lc (own := [("letter", 4)]) rfl sc_are_letters.nd (i_seq (d_var (pv 1))) (blkOk_by (N := N_are_letters) (sc := (defScope (top 17))) (by decide +kernel)) (fun _ _ _ _ _ => (g_name (i := 4) sc_are_letters.nd rfl (by first | exact Or.inl rfl | exact Or.inr rfl))) (fun _ _ _ _ _ => ts_nil) (fun _ _ _ _ _ => (c_call C_is_between (hr.mono (by decide)) (a_cons (d_var (pv 4)) (a_cons d_int (a_cons (d_op op_sub snd_sub (d_var (pv 0)) d_int) a_nil))))))) a_nil)))))
theorem ok_are_letters (T : Tb K mg) (C_is_between : Cal P w K mg base 2 "is_between" ["value", "least", "most"] (spP K 3 wf_is_between)) {f : Addr} {fd : FuncData} (F : FunD K "are_letters" "are_letters" (defArgs (top 17)) (defBody (top 17)) (defScope (top 17)) [] [] f fd) (hm : mg "are_letters" = some (.ref f)) (pu : ∀ ds Q', ds.length = 4 → wf_are_letters ds Q' → ws_are_letters (edP Q') (enP N_are_letters ds)) : Cal P w K mg base 3 "are_letters" ["prime", "value", "least", "most"] (spP K 4 wf_are_letters) :=
  ⟨f, fd, fnP F sc_are_letters (fun cdv A outer s H E hr => der_are_letters T C_is_between f cdv A outer s H E hr) pu, hm, F.kp, F.bindsN (ps := ["prime", "value", "least", "most"]) fun _ _ _ _ _ _ us hl => match us, hl with | [_, _, _, _], _ => rfl⟩
/-! ### number_at -/
abbrev N_number_at : List Str := ["prime", "letters", "number", "letter"]
theorem sc_number_at : FnScope N_number_at ["prime", "letters"] (defScope (top 24)) := ⟨rfl, rfl, rfl, by decide +kernel, rfl, by decide +kernel, by decide +kernel⟩
def ws_number_at (R : Exc → En → Prop) : WS := (wSeq (wDrop (wFnX 1 wf_check_prime R (wCons (wVar 0) wNil))) (wSeq (wIfS (wNot (wTr (wFn 4 wf_are_letters (wCons (wVar 0) (wCons (wVar 1) (wCons (wC (.int 0)) (wCons (wC (.int 100)) wNil))))))) (wRaise R "InvalidRow" (wC (.str "a tuple of 0 to 100 letters is wanted"))) wNext) (wSeq (wSet 2 (wC (.int 0))) (wSeq (wFor (wSq (wVar 1)) (wgN 3) (wSet 2 (wOp dAdd (wOp dMul (wVar 2) (wVar 0)) (wVar 3)))) (wRet (wVar 2))))))
theorem der_number_at {R : Exc → En → Prop} (T : Tb K mg) (C_check_prime : CalX P w K mg base 4 "check_prime" ["prime"] (spX K 1 wf_check_prime)) (C_are_letters : Cal P w K mg base 3 "are_letters" ["prime", "value", "least", "most"] (spP K 4 wf_are_letters)) (f : Addr) (cdv : Value) (A : Around) (outer : List Env) (s : Shared) (H : Hp) (E : XK) (tk : Takes (cxOf (L2.CX P w) P w K mg base N_number_at "number_at" (defScope (top 24)) f cdv A outer s H E) (wxOf K ζ R)) (hpo : PassesOwn (model P w) (cxOf (L2.CX P w) P w K mg base N_number_at "number_at" (defScope (top 24)) f cdv A outer s H E).A (cxOf (L2.CX P w) P w K mg base N_number_at "number_at" (defScope (top 24)) f cdv A outer s H E).env (cxOf (L2.CX P w) P w K mg base N_number_at "number_at" (defScope (top 24)) f cdv A outer s H E).xe) (hr : Room 4 (A.deeper (envOfC "number_at" (defScope (top 24)) s.heap.objs.size f cdv))) : PSs (cxOf (L2.CX P w) P w K mg base N_number_at "number_at" (defScope (top 24)) f cdv A outer s H E) (defBody (top 24)) (lS K ζ (ws_number_at R)) :=
  (s_cons (s_expr (c_callX C_check_prime tk (hr.mono (by decide)) (a_cons (d_var (pv 0)) a_nil))) (s_cons (s_if (t_not (t_tru (c_call C_are_letters (hr.mono (by decide)) (a_cons (d_var (pv 0)) (a_cons (d_var (pv 1)) (a_cons d_int (a_cons (d_gint T.c_MOST_LETTERS) a_nil))))))) (s_one (s_raise T.x_InvalidRow rfl tk d_str)) s_nil) (s_cons (s_set (i := 2) sc_number_at.nd rfl (by first | exact Or.inl rfl | exact Or.inr rfl) d_int) (s_cons (s_for hpo rfl (i_seq (d_var (pv 1))) (g_name (i := 3) sc_number_at.nd rfl (by first | exact Or.inl rfl | exact Or.inr rfl)) (s_one (s_set (i := 2) sc_number_at.nd rfl (by first | exact Or.inl rfl | exact Or.inr rfl) (d_op op_addD snd_add (d_op op_mulD snd_mul (d_var (pv 2)) (d_var (pv 0))) (d_var (pv 3)))))) (s_one (s_ret (d_var (pv 2))))))))
theorem ok_number_at (T : Tb K mg) (C_check_prime : CalX P w K mg base 4 "check_prime" ["prime"] (spX K 1 wf_check_prime)) (C_are_letters : Cal P w K mg base 3 "are_letters" ["prime", "value", "least", "most"] (spP K 4 wf_are_letters)) {f : Addr} {fd : FuncData} (F : FunD K "number_at" "number_at" (defArgs (top 24)) (defBody (top 24)) (defScope (top 24)) [] [] f fd) (hm : mg "number_at" = some (.ref f)) (pu : ∀ ds Q' R', ds.length = 2 → wf_number_at ds Q' R' → ws_number_at (fun e _ => R' e) (edP Q') (enP N_number_at ds)) : CalX P w K mg base 5 "number_at" ["prime", "letters"] (spX K 2 wf_number_at) :=
  ⟨f, fd, fnX F sc_number_at (fun ζ R cdv A outer s H E tk hpo hr => der_number_at T C_check_prime C_are_letters f cdv A outer s H E tk hpo hr) pu, hm, F.kp, F.bindsN (ps := ["prime", "letters"]) fun _ _ _ _ _ _ us hl => match us, hl with | [_, _], _ => rfl⟩
/-! ### power -/
abbrev N_power : List Str := ["prime", "letter", "times"]
theorem sc_power : FnScope N_power ["prime", "letter", "times"] (defScope (top 22)) := ⟨rfl, rfl, rfl, by decide +kernel, rfl, by decide +kernel, by decide +kernel⟩
def ws_power (R : Exc → En → Prop) : WS := (wSeq (wDrop (wFnX 1 wf_check_prime R (wCons (wVar 0) wNil))) (wSeq (wDrop (wFnX 2 wf_check_letter R (wCons (wVar 0) (wCons (wVar 1) wNil)))) (wSeq (wDrop (wFnX 3 wf_check_between R (wCons (wVar 2) (wCons (wC (.int 0)) (wCons (wC (.int 1000000000)) wNil))))) (wRet (wFn 3 wf_power_of (wCons (wVar 0) (wCons (wVar 1) (wCons (wVar 2) wNil))))))))
theorem der_power {R : Exc → En → Prop} (T : Tb K mg) (C_check_prime : CalX P w K mg base 4 "check_prime" ["prime"] (spX K 1 wf_check_prime)) (C_check_letter : CalX P w K mg base 4 "check_letter" ["prime", "letter"] (spX K 2 wf_check_letter)) (C_check_between : CalX P w K mg base 3 "check_between" ["value", "least", "most"] (spX K 3 wf_check_between)) (C_power_of : Cal P w K mg base 1 "power_of" ["prime", "letter", "times"] (spP K 3 wf_power_of)) (f : Addr) (cdv : Value) (A : Around) (outer : List Env) (s : Shared) (H : Hp) (E : XK) (tk : Takes (cxOf (L2.CX P w) P w K mg base N_power "power" (defScope (top 22)) f cdv A outer s H E) (wxOf K ζ R)) (hpo : PassesOwn (model P w) (cxOf (L2.CX P w) P w K mg base N_power "power" (defScope (top 22)) f cdv A outer s H E).A (cxOf (L2.CX P w) P w K mg base N_power "power" (defScope (top 22)) f cdv A outer s H E).env (cxOf (L2.CX P w) P w K mg base N_power "power" (defScope (top 22)) f cdv A outer s H E).xe) (hr : Room 4 (A.deeper (envOfC "power" (defScope (top 22)) s.heap.objs.size f cdv))) : PSs (cxOf (L2.CX P w) P w K mg base N_power "power" (defScope (top 22)) f cdv A outer s H E) (defBody (top 22)) (lS K ζ (ws_power R)) :=
  (s_cons (s_expr (c_callX C_check_prime tk (hr.mono (by decide)) (a_cons (d_var (pv 0)) a_nil))) (s_cons (s_expr (c_callX C_check_letter tk (hr.mono (by decide)) (a_cons (d_var (pv 0)) (a_cons (d_var (pv 1)) a_nil)))) (s_cons (s_expr (c_callX C_check_between tk (hr.mono (by decide)) (a_cons (d_var (pv 2)) (a_cons d_int (a_cons (d_gint T.c_MOST_TIMES) a_nil))))) (s_one (s_ret (c_call C_power_of (hr.mono (by decide)) (a_cons (d_var (pv 0)) (a_cons (d_var (pv 1)) (a_cons (d_var (pv 2)) a_nil)))))))))
theorem ok_power (T : Tb K mg) (C_check_prime : CalX P w K mg base 4 "check_prime" ["prime"] (spX K 1 wf_check_prime)) (C_check_letter : CalX P w K mg base 4 "check_letter" ["prime", "letter"] (spX K 2 wf_check_letter)) (C_check_between : CalX P w K mg base 3 "check_between" ["value", "least", "most"] (spX K 3 wf_check_between)) (C_power_of : Cal P w K mg base 1 "power_of" ["prime", "letter", "times"] (spP K 3 wf_power_of)) {f : Addr} {fd : FuncData} (F : FunD K "power" "power" (defArgs (top 22)) (defBody (top 22)) (defScope (top 22)) [] [] f fd) (hm : mg "power" = some (.ref f)) (pu : ∀ ds Q' R', ds.length = 3 → wf_power ds Q' R' → ws_power (fun e _ => R' e) (edP Q') (enP N_power ds)) : CalX P w K mg base 5 "power" ["prime", "letter", "times"] (spX K 3 wf_power) :=
  ⟨f, fd, fnX F sc_power (fun ζ R cdv A outer s H E tk hpo hr => der_power T C_check_prime C_check_letter C_check_between C_power_of f cdv A outer s H E tk hpo hr) pu, hm, F.kp, F.bindsN (ps := ["prime", "letter", "times"]) fun _ _ _ _ _ _ us hl => match us, hl with | [_, _, _], _ => rfl⟩
/-! ### letters_at -/
abbrev N_letters_at : List Str := ["prime", "many", "number", "letters", "left", "_"]
theorem sc_letters_at : FnScope N_letters_at ["prime", "many", "number"] (defScope (top 23)) := ⟨rfl, rfl, rfl, by decide +kernel, rfl, by decide +kernel, by decide +kernel⟩
def ws_letters_at (R : Exc → En → Prop) : WS := (wSeq (wDrop (wFnX 1 wf_check_prime R (wCons (wVar 0) wNil))) (wSeq (wDrop (wFnX 3 wf_check_between R (wCons (wVar 1) (wCons (wC (.int 0)) (wCons (wC (.int 100)) wNil))))) (wSeq (wIfS (wOr (wNot (wTr (wFn 1 wf_is_whole (wCons (wVar 2) wNil)))) (wB (wOp dLt (wVar 2) (wC (.int 0))))) (wRaiseF R "InvalidNumber" "given" (wVar 2)) wNext) (wSeq (wSetOwn 3 (wSz wNil)) (wSeq (wSet 4 (wVar 2)) (wSeq (wFor (wRg1 (wCons (wVar 1) wNil)) (wgN 5) (wSeq (wApp 3 (wOp dMod (wVar 4) (wVar 0))) (wSet 4 (wOp dFdivG (wVar 4) (wVar 0))))) (wFrz 3 (wSeq (wIfS (wB (wOp dGt (wVar 4) (wC (.int 0)))) (wRaiseF R "InvalidNumber" "given" (wVar 2)) wNext) (wRet (wCl dTupOf (wCons (wLe (wRev (wVar 3))) wNil)))))))))))
theorem der_letters_at {R : Exc → En → Prop} (T : Tb K mg) (C_check_prime : CalX P w K mg base 4 "check_prime" ["prime"] (spX K 1 wf_check_prime)) (C_check_between : CalX P w K mg base 3 "check_between" ["value", "least", "most"] (spX K 3 wf_check_between)) (C_is_whole : Cal P w K mg base 1 "is_whole" ["value"] (spP K 1 wf_is_whole)) (C_InvalidNumber___init__ : ExfC P w K mg base "InvalidNumber" "given") (f : Addr) (cdv : Value) (A : Around) (outer : List Env) (s : Shared) (H : Hp) (E : XK) (tk : Takes (cxOf (L2.CX P w) P w K mg base N_letters_at "letters_at" (defScope (top 23)) f cdv A outer s H E) (wxOf K ζ R)) (hpo : PassesOwn (model P w) (cxOf (L2.CX P w) P w K mg base N_letters_at "letters_at" (defScope (top 23)) f cdv A outer s H E).A (cxOf (L2.CX P w) P w K mg base N_letters_at "letters_at" (defScope (top 23)) f cdv A outer s H E).env (cxOf (L2.CX P w) P w K mg base N_letters_at "letters_at" (defScope (top 23)) f cdv A outer s H E).xe) (hr : Room 4 (A.deeper (envOfC "letters_at" (defScope (top 23)) s.heap.objs.size f cdv))) : PSs (cxOf (L2.CX P w) P w K mg base N_letters_at "letters_at" (defScope (top 23)) f cdv A outer s H E) (defBody (top 23)) (lS K ζ (ws_letters_at R)) :=
  (s_cons (s_expr (c_callX C_check_prime tk (hr.mono (by decide)) (a_cons (d_var (pv 0)) a_nil))) (s_cons (s_expr (c_callX C_check_between tk (hr.mono (by decide)) (a_cons (d_var (pv 1)) (a_cons d_int (a_cons (d_gint T.c_MOST_LETTERS) a_nil))))) (s_cons (s_if (PW.pt (t_or (t_not (t_tru (c_call C_is_whole (hr.mono (by decide)) (a_cons (d_var (pv 2)) a_nil)))) (t_or1 (t_cmp (op_ltD hr.units0) snd_lt (d_var (pv 2)) d_int (nomark _))))) (s_one (s_raiseF C_InvalidNumber___init__ rfl (hr.mono (by decide)) tk (d_var (pv 2)))) s_nil) (s_cons (s_setOwn (i := 3) sc_letters_at.nd rfl (by first | exact Or.inl rfl | exact Or.inr rfl) (l_lst a_nil)) (s_cons (s_set (i := 4) sc_letters_at.nd rfl (by first | exact Or.inl rfl | exact Or.inr rfl) (d_var (pv 2))) (s_cons (s_for hpo rfl (i_rng1 T.b_range (a_cons (d_var (pv 1)) a_nil)) (g_name (i := 5) sc_letters_at.nd rfl (by first | exact Or.inl rfl | exact Or.inr rfl)) (s_cons (s_app (i := 3) (pv 3) (d_op op_mod snd_mod (d_var (pv 4)) (d_var (pv 0))) rfl (pe_bm PySem.F.plainAttrs_list PySem.F.slot_list_append PySem.F.type_list_append mt_append (pv 3) (pa_cons (d_op op_mod snd_mod (d_var (pv 4)) (d_var (pv 0))) pa_nil))) (s_one (s_set (i := 4) sc_letters_at.nd rfl (by first | exact Or.inl rfl | exact Or.inr rfl) (d_op op_fdivG snd_fdivG (d_var (pv 4)) (d_var (pv 0))))))) (ss_frz (i := 3) (s_cons (s_if (t_cmp op_gt snd_gt (d_var (pv 4)) d_int (nomark _)) (s_one (s_raiseF C_InvalidNumber___init__ rfl (hr.mono (by decide)) tk (d_var (pv 2)))) s_nil) (s_one (s_ret (d_cty call_tuple_of snd_tupOf T.b_tuple (by decide +kernel) (a_cons (d_lL (l_rev (d_var (pv 3)))) a_nil))))))))))))
theorem ok_letters_at (T : Tb K mg) (C_check_prime : CalX P w K mg base 4 "check_prime" ["prime"] (spX K 1 wf_check_prime)) (C_check_between : CalX P w K mg base 3 "check_between" ["value", "least", "most"] (spX K 3 wf_check_between)) (C_is_whole : Cal P w K mg base 1 "is_whole" ["value"] (spP K 1 wf_is_whole)) (C_InvalidNumber___init__ : ExfC P w K mg base "InvalidNumber" "given") {f : Addr} {fd : FuncData} (F : FunD K "letters_at" "letters_at" (defArgs (top 23)) (defBody (top 23)) (defScope (top 23)) [] [] f fd) (hm : mg "letters_at" = some (.ref f)) (pu : ∀ ds Q' R', ds.length = 3 → wf_letters_at ds Q' R' → ws_letters_at (fun e _ => R' e) (edP Q') (enP N_letters_at ds)) : CalX P w K mg base 5 "letters_at" ["prime", "many", "number"] (spX K 3 wf_letters_at) :=
  ⟨f, fd, fnX F sc_letters_at (fun ζ R cdv A outer s H E tk hpo hr => der_letters_at T C_check_prime C_check_between C_is_whole C_InvalidNumber___init__ f cdv A outer s H E tk hpo hr) pu, hm, F.kp, F.bindsN (ps := ["prime", "many", "number"]) fun _ _ _ _ _ _ us hl => match us, hl with | [_, _, _], _ => rfl⟩
/-! ### exponent_of -/
abbrev N_exponent_of : List Str := ["prime", "base", "letter", "made", "times"]
theorem sc_exponent_of : FnScope N_exponent_of ["prime", "base", "letter"] (defScope (top 28)) := ⟨rfl, rfl, rfl, by decide +kernel, rfl, by decide +kernel, by decide +kernel⟩
def ws_exponent_of (R : Exc → En → Prop) : WS := (wSeq (wDrop (wFnX 1 wf_check_prime R (wCons (wVar 0) wNil))) (wSeq (wDrop (wFnX 2 wf_check_letter R (wCons (wVar 0) (wCons (wVar 1) wNil)))) (wSeq (wDrop (wFnX 2 wf_check_letter R (wCons (wVar 0) (wCons (wVar 2) wNil)))) (wSeq (wSet 3 (wC (.int 1))) (wSeq (wFor (wRg1 (wCons (wVar 0) wNil)) (wgN 4) (wSeq (wIfS (wB (wOp dEq (wVar 3) (wVar 2))) (wRet (wVar 4)) wNext) (wSet 3 (wOp dMod (wOp dMul (wVar 3) (wVar 1)) (wVar 0))))) (wRet (wC .none)))))))
theorem der_exponent_of {R : Exc → En → Prop} (T : Tb K mg) (C_check_prime : CalX P w K mg base 4 "check_prime" ["prime"] (spX K 1 wf_check_prime)) (C_check_letter : CalX P w K mg base 4 "check_letter" ["prime", "letter"] (spX K 2 wf_check_letter)) (f : Addr) (cdv : Value) (A : Around) (outer : List Env) (s : Shared) (H : Hp) (E : XK) (tk : Takes (cxOf (L2.CX P w) P w K mg base N_exponent_of "exponent_of" (defScope (top 28)) f cdv A outer s H E) (wxOf K ζ R)) (hpo : PassesOwn (model P w) (cxOf (L2.CX P w) P w K mg base N_exponent_of "exponent_of" (defScope (top 28)) f cdv A outer s H E).A (cxOf (L2.CX P w) P w K mg base N_exponent_of "exponent_of" (defScope (top 28)) f cdv A outer s H E).env (cxOf (L2.CX P w) P w K mg base N_exponent_of "exponent_of" (defScope (top 28)) f cdv A outer s H E).xe) (hr : Room 4 (A.deeper (envOfC "exponent_of" (defScope (top 28)) s.heap.objs.size f cdv))) : PSs (cxOf (L2.CX P w) P w K mg base N_exponent_of "exponent_of" (defScope (top 28)) f cdv A outer s H E) (defBody (top 28)) (lS K ζ (ws_exponent_of R)) :=
  (s_cons (s_expr (c_callX C_check_prime tk (hr.mono (by decide)) (a_cons (d_var (pv 0)) a_nil))) (s_cons (s_expr (c_callX C_check_letter tk (hr.mono (by decide)) (a_cons (d_var (pv 0)) (a_cons (d_var (pv 1)) a_nil)))) (s_cons (s_expr (c_callX C_check_letter tk (hr.mono (by decide)) (a_cons (d_var (pv 0)) (a_cons (d_var (pv 2)) a_nil)))) (s_cons (s_set (i := 3) sc_exponent_of.nd rfl (by first | exact Or.inl rfl | exact Or.inr rfl) d_int) (s_cons (s_for hpo rfl (i_rng1 T.b_range (a_cons (d_var (pv 0)) a_nil)) (g_name (i := 4) sc_exponent_of.nd rfl (by first | exact Or.inl rfl | exact Or.inr rfl)) (s_cons (s_if (t_cmp (op_eqD hr.units) snd_eq (d_var (pv 3)) (d_var (pv 2)) (nomark _)) (s_one (s_ret (d_var (pv 4)))) s_nil) (s_one (s_set (i := 3) sc_exponent_of.nd rfl (by first | exact Or.inl rfl | exact Or.inr rfl) (d_op op_mod snd_mod (d_op op_mulD snd_mul (d_var (pv 3)) (d_var (pv 1))) (d_var (pv 0))))))) (s_one (s_ret d_non)))))))
theorem ok_exponent_of (T : Tb K mg) (C_check_prime : CalX P w K mg base 4 "check_prime" ["prime"] (spX K 1 wf_check_prime)) (C_check_letter : CalX P w K mg base 4 "check_letter" ["prime", "letter"] (spX K 2 wf_check_letter)) {f : Addr} {fd : FuncData} (F : FunD K "exponent_of" "exponent_of" (defArgs (top 28)) (defBody (top 28)) (defScope (top 28)) [] [] f fd) (hm : mg "exponent_of" = some (.ref f)) (pu : ∀ ds Q' R', ds.length = 3 → wf_exponent_of ds Q' R' → ws_exponent_of (fun e _ => R' e) (edP Q') (enP N_exponent_of ds)) : CalX P w K mg base 5 "exponent_of" ["prime", "base", "letter"] (spX K 3 wf_exponent_of) :=
  ⟨f, fd, fnX F sc_exponent_of (fun ζ R cdv A outer s H E tk hpo hr => der_exponent_of T C_check_prime C_check_letter f cdv A outer s H E tk hpo hr) pu, hm, F.kp, F.bindsN (ps := ["prime", "base", "letter"]) fun _ _ _ _ _ _ us hl => match us, hl with | [_, _, _], _ => rfl⟩
/-! ### prime_divisors -/
abbrev N_prime_divisors : List Str := ["number", "found", "left", "divisor"]
theorem sc_prime_divisors : FnScope N_prime_divisors ["number"] (defScope (top 25)) := ⟨rfl, rfl, rfl, by decide +kernel, rfl, by decide +kernel, by decide +kernel⟩
def ws_prime_divisors : WS := (wSeq (wSetOwn 1 (wSz wNil)) (wSeq (wSet 2 (wVar 0)) (wSeq (wWhile (wB (wOp dGt (wVar 2) (wC (.int 1)))) (wSeq (wSet 3 (wFn 1 wf_least_divisor (wCons (wVar 2) wNil))) (wSeq (wApp 1 (wVar 3)) (wWhile (wB (wOp dEq (wOp dMod (wVar 2) (wVar 3)) (wC (.int 0)))) (wSet 2 (wOp dFdivG (wVar 2) (wVar 3))))))) (wFrz 1 (wRet (wVar 1))))))
theorem der_prime_divisors (T : Tb K mg) (C_least_divisor : Cal P w K mg base 1 "least_divisor" ["number"] (spP K 1 wf_least_divisor)) (f : Addr) (cdv : Value) (A : Around) (outer : List Env) (s : Shared) (H : Hp) (E : XK) (hr : Room 1 (A.deeper (envOfC "prime_divisors" (defScope (top 25)) s.heap.objs.size f cdv))) : PSs (cxOf CX0 P w K mg base N_prime_divisors "prime_divisors" (defScope (top 25)) f cdv A outer s H E).nox (defBody (top 25)) (lS K ζ ws_prime_divisors) :=
  (s_cons (s_setOwn (i := 1) sc_prime_divisors.nd rfl (by first | exact Or.inl rfl | exact Or.inr rfl) (l_lst a_nil)) (s_cons (s_set (i := 2) sc_prime_divisors.nd rfl (by first | exact Or.inl rfl | exact Or.inr rfl) (d_var (pv 0))) (s_cons (s_while PassesOwn.never (t_cmp op_gt snd_gt (d_var (pv 2)) d_int (nomark _)) (s_cons (s_set (i := 3) sc_prime_divisors.nd rfl (by first | exact Or.inl rfl | exact Or.inr rfl) (c_call C_least_divisor (hr.mono (by decide)) (a_cons (d_var (pv 2)) a_nil))) (s_cons (s_app (i := 1) (pv 1) (d_var (pv 3)) rfl (pe_bm PySem.F.plainAttrs_list PySem.F.slot_list_append PySem.F.type_list_append mt_append (pv 1) (pa_cons (d_var (pv 3)) pa_nil))) (s_one (s_while PassesOwn.never (t_cmp (op_eqD hr.units) snd_eq (d_op op_mod snd_mod (d_var (pv 2)) (d_var (pv 3))) d_int (nomark _)) (s_one (s_set (i := 2) sc_prime_divisors.nd rfl (by first | exact Or.inl rfl | exact Or.inr rfl) (d_op op_fdivG snd_fdivG (d_var (pv 2)) (d_var (pv 3)))))))))) (ss_frz (i := 1) (s_one (s_ret (d_var (pv 1))))))))
theorem ok_prime_divisors (T : Tb K mg) (C_least_divisor : Cal P w K mg base 1 "least_divisor" ["number"] (spP K 1 wf_least_divisor)) {f : Addr} {fd : FuncData} (F : FunD K "prime_divisors" "prime_divisors" (defArgs (top 25)) (defBody (top 25)) (defScope (top 25)) [] [] f fd) (hm : mg "prime_divisors" = some (.ref f)) (pu : ∀ ds Q', ds.length = 1 → wf_prime_divisors ds Q' → ws_prime_divisors (edP Q') (enP N_prime_divisors ds)) : Cal P w K mg base 2 "prime_divisors" ["number"] (spP K 1 wf_prime_divisors) :=
  ⟨f, fd, fnP F sc_prime_divisors (fun cdv A outer s H E hr => der_prime_divisors T C_least_divisor f cdv A outer s H E hr) pu, hm, F.kp, F.bindsN (ps := ["number"]) fun _ _ _ _ _ _ us hl => match us, hl with | [_], _ => rfl⟩
/-! ### is_root -/
abbrev N_is_root : List Str := ["prime", "letter", "early", "divisor", "times"]
theorem sc_is_root : FnScope N_is_root ["prime", "letter"] (defScope (top 26)) := ⟨rfl, rfl, rfl, by decide +kernel, rfl, by decide +kernel, by decide +kernel⟩
def ws_is_root : WS := (wSeq (wSet 2 (wLe (wLc (wSq (wFn 1 wf_prime_divisors (wCons (wOp dSub (wVar 0) (wC (.int 1))) wNil))) (wgN 3) wYes (wOp dFdivG (wOp dSub (wVar 0) (wC (.int 1))) (wVar 3)) [3]))) (wRet (wCl dAll (wCons (wLe (wLc (wSq (wVar 2)) (wgN 4) wYes (wOp dNe (wFn 3 wf_power_of (wCons (wVar 0) (wCons (wVar 1) (wCons (wVar 4) wNil)))) (wC (.int 1))) [4])) wNil))))
theorem der_is_root (T : Tb K mg) (C_prime_divisors : Cal P w K mg base 2 "prime_divisors" ["number"] (spP K 1 wf_prime_divisors)) (C_power_of : Cal P w K mg base 1 "power_of" ["prime", "letter", "times"] (spP K 3 wf_power_of)) (f : Addr) (cdv : Value) (A : Around) (outer : List Env) (s : Shared) (H : Hp) (E : XK) (hr : Room 2 (A.deeper (envOfC "is_root" (defScope (top 26)) s.heap.objs.size f cdv))) : PSs (cxOf CX0 P w K mg base N_is_root "is_root" (defScope (top 26)) f cdv A outer s H E).nox (defBody (top 26)) (lS K ζ ws_is_root) :=
  (s_cons (s_lc (i := 2) (own := [("divisor", 3)]) rfl sc_is_root.nd rfl rfl (sw_true rfl rfl rfl (by decide +kernel)) (i_seq (c_call C_prime_divisors (hr.mono (by decide)) (a_cons (d_op op_sub snd_sub (d_var (pv 0)) d_int) a_nil))) (blkOk_by (N := N_is_root) (sc := (defScope (top 26))) (by decide +kernel)) (fun _ _ _ _ _ => (g_name (i := 3) sc_is_root.nd rfl (by first | exact Or.inl rfl | exact Or.inr rfl))) (fun _ _ _ _ _ => ts_nil) (fun _ _ _ _ _ => (d_op op_fdivG snd_fdivG (d_op op_sub snd_sub (d_var (pv 0)) d_int) (d_var (pv 3))))) (s_one (s_ret (d_cb (cr_all rfl) snd_all T.b_all (by decide +kernel) (a_cons (d_lL (l_lc (own := [("times", 4)]) rfl sc_is_root.nd (i_seq (d_var (pv 2))) (blkOk_by (N := N_is_root) (sc := (defScope (top 26))) (by decide +kernel)) (fun _ _ _ _ _ => (g_name (i := 4) sc_is_root.nd rfl (by first | exact Or.inl rfl | exact Or.inr rfl))) (fun _ _ _ _ _ => ts_nil) (fun _ _ _ _ _ => (d_cmp (op_neD hr.units) snd_ne (c_call C_power_of (hr.mono (by decide)) (a_cons (d_var (pv 0)) (a_cons (d_var (pv 1)) (a_cons (d_var (pv 4)) a_nil)))) d_int (nomark _))))) a_nil)))))
theorem ok_is_root (T : Tb K mg) (C_prime_divisors : Cal P w K mg base 2 "prime_divisors" ["number"] (spP K 1 wf_prime_divisors)) (C_power_of : Cal P w K mg base 1 "power_of" ["prime", "letter", "times"] (spP K 3 wf_power_of)) {f : Addr} {fd : FuncData} (F : FunD K "is_root" "is_root" (defArgs (top 26)) (defBody (top 26)) (defScope (top 26)) [] [] f fd) (hm : mg "is_root" = some (.ref f)) (pu : ∀ ds Q', ds.length = 2 → wf_is_root ds Q' → ws_is_root (edP Q') (enP N_is_root ds)) : Cal P w K mg base 3 "is_root" ["prime", "letter"] (spP K 2 wf_is_root) :=
  ⟨f, fd, fnP F sc_is_root (fun cdv A outer s H E hr => der_is_root T C_prime_divisors C_power_of f cdv A outer s H E hr) pu, hm, F.kp, F.bindsN (ps := ["prime", "letter"]) fun _ _ _ _ _ _ us hl => match us, hl with | [_, _], _ => rfl⟩
/-! ### root -/
abbrev N_root : List Str := ["prime", "letter"]
theorem sc_root : FnScope N_root ["prime"] (defScope (top 27)) := ⟨rfl, rfl, rfl, by decide +kernel, rfl, by decide +kernel, by decide +kernel⟩
def ws_root (R : Exc → En → Prop) : WS := (wSeq (wDrop (wFnX 1 wf_check_prime R (wCons (wVar 0) wNil))) (wSeq (wSet 1 (wC (.int 1))) (wSeq (wWhile (wNot (wTr (wFn 2 wf_is_root (wCons (wVar 0) (wCons (wVar 1) wNil))))) (wAug 1 dIadd (wC (.int 1)))) (wRet (wVar 1)))))
theorem der_root {R : Exc → En → Prop} (T : Tb K mg) (C_check_prime : CalX P w K mg base 4 "check_prime" ["prime"] (spX K 1 wf_check_prime)) (C_is_root : Cal P w K mg base 3 "is_root" ["prime", "letter"] (spP K 2 wf_is_root)) (f : Addr) (cdv : Value) (A : Around) (outer : List Env) (s : Shared) (H : Hp) (E : XK) (tk : Takes (cxOf (L2.CX P w) P w K mg base N_root "root" (defScope (top 27)) f cdv A outer s H E) (wxOf K ζ R)) (hpo : PassesOwn (model P w) (cxOf (L2.CX P w) P w K mg base N_root "root" (defScope (top 27)) f cdv A outer s H E).A (cxOf (L2.CX P w) P w K mg base N_root "root" (defScope (top 27)) f cdv A outer s H E).env (cxOf (L2.CX P w) P w K mg base N_root "root" (defScope (top 27)) f cdv A outer s H E).xe) (hr : Room 4 (A.deeper (envOfC "root" (defScope (top 27)) s.heap.objs.size f cdv))) : PSs (cxOf (L2.CX P w) P w K mg base N_root "root" (defScope (top 27)) f cdv A outer s H E) (defBody (top 27)) (lS K ζ (ws_root R)) :=
  (s_cons (s_expr (c_callX C_check_prime tk (hr.mono (by decide)) (a_cons (d_var (pv 0)) a_nil))) (s_cons (s_set (i := 1) sc_root.nd rfl (by first | exact Or.inl rfl | exact Or.inr rfl) d_int) (s_cons (s_while hpo (t_not (t_tru (c_call C_is_root (hr.mono (by decide)) (a_cons (d_var (pv 0)) (a_cons (d_var (pv 1)) a_nil))))) (s_one (s_aug (i := 1) sc_root.nd rfl (by first | exact Or.inl rfl | exact Or.inr rfl) d_int ip_add snd_ipadd))) (s_one (s_ret (d_var (pv 1)))))))
theorem ok_root (T : Tb K mg) (C_check_prime : CalX P w K mg base 4 "check_prime" ["prime"] (spX K 1 wf_check_prime)) (C_is_root : Cal P w K mg base 3 "is_root" ["prime", "letter"] (spP K 2 wf_is_root)) {f : Addr} {fd : FuncData} (F : FunD K "root" "root" (defArgs (top 27)) (defBody (top 27)) (defScope (top 27)) [] [] f fd) (hm : mg "root" = some (.ref f)) (pu : ∀ ds Q' R', ds.length = 1 → wf_root ds Q' R' → ws_root (fun e _ => R' e) (edP Q') (enP N_root ds)) : CalX P w K mg base 5 "root" ["prime"] (spX K 1 wf_root) :=
  ⟨f, fd, fnX F sc_root (fun ζ R cdv A outer s H E tk hpo hr => der_root T C_check_prime C_is_root f cdv A outer s H E tk hpo hr) pu, hm, F.kp, F.bindsN (ps := ["prime"]) fun _ _ _ _ _ _ us hl => match us, hl with | [_], _ => rfl⟩
/-! ### _law_right -/
abbrev N__law_right : List Str := ["jug", "none", "odd", "row", "times", "many", "told", "due", "call", "places", "number"]
theorem sc__law_right : FnScope N__law_right ["jug"] (defScope (top 34)) := ⟨rfl, rfl, rfl, by decide +kernel, rfl, by decide +kernel, by decide +kernel⟩
def ws__law_right : WS := (wSeq (wSet 1 (wFnJ 0 2 wf__law_sip (wCons (wLe (wSz (wCons (wC .none) (wCons (wC (.bool true)) (wCons (wC (.int 0)) (wCons (wC (.int 1)) (wCons (wC (.int 4)) (wCons (wC (.int 9)) (wCons (wUn dNeg (wC (.int 7))) (wCons (wC (.int 10007)) (wCons (wC (.int 9975)) (wCons (wC (.str "7")) (wCons (wTup (wCons (wC (.int 7)) wNil)) (wCons (wLe (wSz (wCons (wC (.int 7)) wNil))) (wCons wDic (wCons (wOp dPow (wC (.int 10)) (wC (.int 60))) wNil)))))))))))))))) wNil))) (wSeq (wSet 2 (wFnJ 0 2 wf__law_sip (wCons (wLe (wSz (wCons (wC .none) (wCons (wC (.bool true)) (wCons (wUn dNeg (wC (.int 1))) (wCons (wC (.int 7)) (wCons (wOp dPow (wC (.int 10)) (wC (.int 60))) (wCons (wUn dNeg (wOp dPow (wC (.int 10)) (wC (.int 60)))) (wCons (wC (.str "1")) (wCons (wTup (wCons (wC (.int 1)) wNil)) (wCons (wLe (wSz wNil)) (wCons (wC (.int 12)) wNil)))))))))))) wNil))) (wSeq (wSet 3 (wFnJ 0 2 wf__law_sip (wCons (wLe (wSz (wCons (wC .none) (wCons (wLe (wSz (wCons (wC (.int 1)) (wCons (wC (.int 2)) wNil)))) (wCons (wTup (wCons (wC (.int 1)) (wCons (wC (.int 7)) wNil))) (wCons (wTup (wCons (wC (.int 1)) (wCons (wC (.bool true)) wNil))) (wCons (wTup (wCons (wC (.int 1)) (wCons (wUn dNeg (wC (.int 1))) wNil))) (wCons (wTup (wCons (wC (.int 1)) (wCons (wC (.str "2")) wNil))) (wCons (wC (.int 5)) (wCons (wC (.str "row")) (wCons (wOp dMul (wTup (wCons (wC (.int 0)) wNil)) (wC (.int 101))) (wCons wDic (wCons (wTup (wCons (wTup (wCons (wC (.int 1)) wNil)) wNil)) wNil))))))))))))) wNil))) (wSeq (wSet 4 (wFnJ 0 2 wf__law_sip (wCons (wLe (wSz (wCons (wC .none) (wCons (wC (.bool true)) (wCons (wUn dNeg (wC (.int 1))) (wCons (wOp dAdd (wOp dPow (wC (.int 10)) (wC (.int 9))) (wC (.int 1))) (wCons (wOp dPow (wC (.int 10)) (wC (.int 60))) (wCons (wC (.str "2")) (wCons (wTup (wCons (wC (.int 2)) wNil)) wNil))))))))) wNil))) (wSeq (wSet 5 (wFnJ 0 2 wf__law_sip (wCons (wLe (wSz (wCons (wC .none) (wCons (wC (.bool true)) (wCons (wUn dNeg (wC (.int 1))) (wCons (wC (.int 101)) (wCons (wOp dPow (wC (.int 10)) (wC (.int 60))) (wCons (wC (.str "2")) (wCons (wTup (wCons (wC (.int 2)) wNil)) wNil))))))))) wNil))) (wSeq (wParOO 6 7 (wSz wNil) (wSz wNil)) (wSeq (wForFn 8 ["inverse", "number_at"] (wApp 6 (wMet exB 2 cl__law_met wl__law_met (fun R => (wCallV 8 2 [("inverse", wf_inverse), ("number_at", wf_number_at)] R (wCons (wVar 1) (wCons (wVar 2) wNil))))))) (wSeq (wForFn 8 ["power", "letters_at", "exponent_of"] (wApp 6 (wMet exB 2 cl__law_met wl__law_met (fun R => (wCallV 8 3 [("power", wf_power), ("letters_at", wf_letters_at), ("exponent_of", wf_exponent_of)] R (wCons (wVar 1) (wCons (wVar 2) (wCons (wVar 2) wNil)))))))) (wSeq (wApp 6 (wMet exB 2 cl__law_met wl__law_met (fun R => (wFnX 1 wf_root R (wCons (wVar 1) wNil))))) (wSeq (wSetOwn 7 (wCatO 7 (wOp dMul (wLe (wSz (wCons (wTup (wCons (wC (.str "number")) (wCons (wCl dRepr (wCons (wVar 1) wNil)) wNil))) wNil))) (wC (.int 6))))) (wSeq (wApp 6 (wMet exB 2 cl__law_met wl__law_met (fun R => (wFnX 2 wf_inverse R (wCons (wC (.int 7)) (wCons (wVar 2) wNil)))))) (wSeq (wApp 6 (wMet exB 2 cl__law_met wl__law_met (fun R => (wFnX 3 wf_power R (wCons (wC (.int 7)) (wCons (wVar 2) (wCons (wVar 4) wNil))))))) (wSeq (wApp 6 (wMet exB 2 cl__law_met wl__law_met (fun R => (wFnX 3 wf_exponent_of R (wCons (wC (.int 7)) (wCons (wVar 2) (wCons (wVar 2) wNil))))))) (wSeq (wApp 6 (wMet exB 2 cl__law_met wl__law_met (fun R => (wFnX 3 wf_exponent_of R (wCons (wC (.int 7)) (wCons (wC (.int 3)) (wCons (wVar 2) wNil))))))) (wSeq (wSetOwn 7 (wCatO 7 (wOp dMul (wLe (wSz (wCons (wTup (wCons (wC (.str "number")) (wCons (wCl dRepr (wCons (wVar 2) wNil)) wNil))) wNil))) (wC (.int 4))))) (wSeq (wApp 6 (wMet exB 2 cl__law_met wl__law_met (fun R => (wFnX 3 wf_power R (wCons (wC (.int 7)) (wCons (wC (.int 3)) (wCons (wVar 4) wNil))))))) (wSeq (wApp 6 (wMet exB 2 cl__law_met wl__law_met (fun R => (wFnX 3 wf_letters_at R (wCons (wC (.int 7)) (wCons (wVar 5) (wCons (wVar 2) wNil))))))) (wSeq (wApp 6 (wMet exB 2 cl__law_met wl__law_met (fun R => (wFnX 2 wf_number_at R (wCons (wC (.int 7)) (wCons (wVar 3) wNil)))))) (wSeq (wSetOwn 7 (wCatO 7 (wLe (wSz (wCons (wTup (wCons (wC (.str "number")) (wCons (wCl dRepr (wCons (wVar 4) wNil)) wNil))) (wCons (wTup (wCons (wC (.str "number")) (wCons (wCl dRepr (wCons (wVar 5) wNil)) wNil))) (wCons (wC (.str "row")) wNil))))))) (wSeq (wSet 9 (wFnJ 0 2 wf__law_pour (wCons (wC (.int 5)) wNil))) (wSeq (wSet 10 (wFnJ 0 2 wf__law_sip (wCons (wLe (wSz (wCons (wC .none) (wCons (wC (.bool true)) (wCons (wUn dNeg (wC (.int 1))) (wCons (wOp dMul (wOp dMul (wOp dMul (wOp dMul (wC (.int 7)) (wC (.int 7))) (wC (.int 7))) (wC (.int 7))) (wC (.int 7))) (wCons (wC (.str "0")) (wCons (wTup (wCons (wC (.int 0)) wNil)) (wCons (wLe (wSz (wCons (wC (.int 0)) wNil))) wNil))))))))) wNil))) (wSeq (wApp 6 (wMet exB 2 cl__law_met wl__law_met (fun R => (wFnX 3 wf_letters_at R (wCons (wC (.int 7)) (wCons (wVar 9) (wCons (wVar 10) wNil))))))) (wFrz 6 (wSeq (wApp 7 (wTup (wCons (wC (.str "number")) (wCons (wCl dRepr (wCons (wVar 10) wNil)) wNil)))) (wFrz 7 (wRet (wOp dEq (wVar 6) (wVar 7))))))))))))))))))))))))))))
theorem der__law_right (T : Tb K mg) (C__law_sip : Cal P w K mg base 2 "_law_sip" ["jug", "items"] (spJ K 2 wf__law_sip)) (C_inverse : CalX P w K mg base 5 "inverse" ["prime", "letter"] (spX K 2 wf_inverse)) (C_number_at : CalX P w K mg base 5 "number_at" ["prime", "letters"] (spX K 2 wf_number_at)) (C_power : CalX P w K mg base 5 "power" ["prime", "letter", "times"] (spX K 3 wf_power)) (C_letters_at : CalX P w K mg base 5 "letters_at" ["prime", "many", "number"] (spX K 3 wf_letters_at)) (C_exponent_of : CalX P w K mg base 5 "exponent_of" ["prime", "base", "letter"] (spX K 3 wf_exponent_of)) (C_root : CalX P w K mg base 5 "root" ["prime"] (spX K 1 wf_root)) (C__law_pour : Cal P w K mg base 1 "_law_pour" ["jug", "total"] (spJ K 2 wf__law_pour)) {g__law_met : Addr} {fd__law_met : FuncData} (F__law_met : FunD K "_law_met" "_law_met" (defArgs (top 33)) (defBody (top 33)) (defScope (top 33)) [] [] g__law_met fd__law_met) (m__law_met : mg "_law_met" = some (.ref g__law_met)) (B__law_met : Binds K fd__law_met ["call"] []) (ap : Apart K tabF) (tb : TabsB K mg base tabF) (A : Around) (outer : List Env) (s : Shared) (H : Hp) (hg : A.guards = some []) (hr : Room 7 (A.deeper (envOfC "_law_right" (defScope (top 34)) s.heap.objs.size (He.fAd K ("_law_right", none)) (.ref (He.codeOf K ("_law_right", none)))))) : PSs (cxOf CX0 P w K mg base N__law_right "_law_right" (defScope (top 34)) (He.fAd K ("_law_right", none)) (.ref (He.codeOf K ("_law_right", none))) A outer s H E0).nox (defBody (top 34)) (lS K (ζT (tabsT K tabF)) ws__law_right) :=
  (s_cons (s_set (i := 1) sc__law_right.nd rfl (by first | exact Or.inl rfl | exact Or.inr rfl) (c_callJ (i := 0) C__law_sip (hr.mono (by decide)) (pv 0) (a_cons (d_lL (l_lst (a_cons d_non (a_cons d_bl (a_cons d_int (a_cons d_int (a_cons d_int (a_cons d_int (a_cons (d_un un_neg snd_neg d_int) (a_cons d_int (a_cons d_int (a_cons d_str (a_cons (d_tup (a_cons d_int a_nil)) (a_cons (d_lL (l_lst (a_cons d_int a_nil))) (a_cons d_dic (a_cons (d_op op_powW snd_pow d_int d_int) a_nil)))))))))))))))) a_nil))) (s_cons (s_set (i := 2) sc__law_right.nd rfl (by first | exact Or.inl rfl | exact Or.inr rfl) (c_callJ (i := 0) C__law_sip (hr.mono (by decide)) (pv 0) (a_cons (d_lL (l_lst (a_cons d_non (a_cons d_bl (a_cons (d_un un_neg snd_neg d_int) (a_cons d_int (a_cons (d_op op_powW snd_pow d_int d_int) (a_cons (d_un un_neg snd_neg (d_op op_powW snd_pow d_int d_int)) (a_cons d_str (a_cons (d_tup (a_cons d_int a_nil)) (a_cons (d_lL (l_lst a_nil)) (a_cons d_int a_nil)))))))))))) a_nil))) (s_cons (s_set (i := 3) sc__law_right.nd rfl (by first | exact Or.inl rfl | exact Or.inr rfl) (c_callJ (i := 0) C__law_sip (hr.mono (by decide)) (pv 0) (a_cons (d_lL (l_lst (a_cons d_non (a_cons (d_lL (l_lst (a_cons d_int (a_cons d_int a_nil)))) (a_cons (d_tup (a_cons d_int (a_cons d_int a_nil))) (a_cons (d_tup (a_cons d_int (a_cons d_bl a_nil))) (a_cons (d_tup (a_cons d_int (a_cons (d_un un_neg snd_neg d_int) a_nil))) (a_cons (d_tup (a_cons d_int (a_cons d_str a_nil))) (a_cons d_int (a_cons d_str (a_cons (d_op op_mulD snd_mul (d_tup (a_cons d_int a_nil)) d_int) (a_cons d_dic (a_cons (d_tup (a_cons (d_tup (a_cons d_int a_nil)) a_nil)) a_nil))))))))))))) a_nil))) (s_cons (s_set (i := 4) sc__law_right.nd rfl (by first | exact Or.inl rfl | exact Or.inr rfl) (c_callJ (i := 0) C__law_sip (hr.mono (by decide)) (pv 0) (a_cons (d_lL (l_lst (a_cons d_non (a_cons d_bl (a_cons (d_un un_neg snd_neg d_int) (a_cons (d_op op_addD snd_add (d_op op_powW snd_pow d_int d_int) d_int) (a_cons (d_op op_powW snd_pow d_int d_int) (a_cons d_str (a_cons (d_tup (a_cons d_int a_nil)) a_nil))))))))) a_nil))) (s_cons (s_set (i := 5) sc__law_right.nd rfl (by first | exact Or.inl rfl | exact Or.inr rfl) (c_callJ (i := 0) C__law_sip (hr.mono (by decide)) (pv 0) (a_cons (d_lL (l_lst (a_cons d_non (a_cons d_bl (a_cons (d_un un_neg snd_neg d_int) (a_cons d_int (a_cons (d_op op_powW snd_pow d_int d_int) (a_cons d_str (a_cons (d_tup (a_cons d_int a_nil)) a_nil))))))))) a_nil))) (s_cons (s_parOO (ps_par (i := 6) (j := 7) rfl sc__law_right.nd rfl rfl (by decide) rfl rfl (pa_cons (l_lst a_nil) (pa_cons (l_lst a_nil) pa_nil)) (by rfl))) (s_cons (s_forFn (i := 8) PassesOwn.never rfl sc__law_right.nd rfl (by first | exact Or.inl rfl | exact Or.inr rfl) (fa_cons T.h_inverse (fa_cons T.h_number_at fa_nil)) (s_one (s_app (i := 6) (pv 6) (c_metL (f := "_law_right") (fs := tabF) (k := 5) F__law_met m__law_met B__law_met sc__law_met (fun cdv => giv__law_met T hg (room_u hr)) ap tb (by decide) (hr.mono (by decide)) (LamX.lamS_by (by kernel_rfl)) (fun A outer s H E f c' ζ' R hr tk => (c_callV (k := 5) (pv 8) (cv_cons C_inverse T.h_inverse (cv_cons C_number_at T.h_number_at cv_nil)) tk (hr.mono (by decide)) (a_cons (d_var (pv 1)) (a_cons (d_var (pv 2)) a_nil))))) rfl (pe_bm PySem.F.plainAttrs_list PySem.F.slot_list_append PySem.F.type_list_append mt_append (pv 6) (pa_cons (c_metL (f := "_law_right") (fs := tabF) (k := 5) F__law_met m__law_met B__law_met sc__law_met (fun cdv => giv__law_met T hg (room_u hr)) ap tb (by decide) (hr.mono (by decide)) (LamX.lamS_by (by kernel_rfl)) (fun A outer s H E f c' ζ' R hr tk => (c_callV (k := 5) (pv 8) (cv_cons C_inverse T.h_inverse (cv_cons C_number_at T.h_number_at cv_nil)) tk (hr.mono (by decide)) (a_cons (d_var (pv 1)) (a_cons (d_var (pv 2)) a_nil))))) pa_nil))))) (s_cons (s_forFn (i := 8) PassesOwn.never rfl sc__law_right.nd rfl (by first | exact Or.inl rfl | exact Or.inr rfl) (fa_cons T.h_power (fa_cons T.h_letters_at (fa_cons T.h_exponent_of fa_nil))) (s_one (s_app (i := 6) (pv 6) (c_metL (f := "_law_right") (fs := tabF) (k := 5) F__law_met m__law_met B__law_met sc__law_met (fun cdv => giv__law_met T hg (room_u hr)) ap tb (by decide) (hr.mono (by decide)) (LamX.lamS_by (by kernel_rfl)) (fun A outer s H E f c' ζ' R hr tk => (c_callV (k := 5) (pv 8) (cv_cons C_power T.h_power (cv_cons C_letters_at T.h_letters_at (cv_cons C_exponent_of T.h_exponent_of cv_nil))) tk (hr.mono (by decide)) (a_cons (d_var (pv 1)) (a_cons (d_var (pv 2)) (a_cons (d_var (pv 2)) a_nil)))))) rfl (pe_bm PySem.F.plainAttrs_list PySem.F.slot_list_append PySem.F.type_list_append mt_append (pv 6) (pa_cons (c_metL (f := "_law_right") (fs := tabF) (k := 5) F__law_met m__law_met B__law_met sc__law_met (fun cdv => giv__law_met T hg (room_u hr)) ap tb (by decide) (hr.mono (by decide)) (LamX.lamS_by (by kernel_rfl)) (fun A outer s H E f c' ζ' R hr tk => (c_callV (k := 5) (pv 8) (cv_cons C_power T.h_power (cv_cons C_letters_at T.h_letters_at (cv_cons C_exponent_of T.h_exponent_of cv_nil))) tk (hr.mono (by decide)) (a_cons (d_var (pv 1)) (a_cons (d_var (pv 2)) (a_cons (d_var (pv 2)) a_nil)))))) pa_nil))))) (s_cons (s_app (i := 6) (pv 6) (c_metL (f := "_law_right") (fs := tabF) (k := 5) F__law_met m__law_met B__law_met sc__law_met (fun cdv => giv__law_met T hg (room_u hr)) ap tb (by decide) (hr.mono (by decide)) (LamX.lamS_by (by kernel_rfl)) (fun A outer s H E f c' ζ' R hr tk => (c_callX C_root tk (hr.mono (by decide)) (a_cons (d_var (pv 1)) a_nil)))) rfl (pe_bm PySem.F.plainAttrs_list PySem.F.slot_list_append PySem.F.type_list_append mt_append (pv 6) (pa_cons (c_metL (f := "_law_right") (fs := tabF) (k := 5) F__law_met m__law_met B__law_met sc__law_met (fun cdv => giv__law_met T hg (room_u hr)) ap tb (by decide) (hr.mono (by decide)) (LamX.lamS_by (by kernel_rfl)) (fun A outer s H E f c' ζ' R hr tk => (c_callX C_root tk (hr.mono (by decide)) (a_cons (d_var (pv 1)) a_nil)))) pa_nil))) (s_cons (s_setOwn (i := 7) sc__law_right.nd rfl (by first | exact Or.inl rfl | exact Or.inr rfl) (l_catO (i := 7) (pv 7) (d_op op_mulD snd_mul (d_lL (l_lst (a_cons (d_tup (a_cons d_str (a_cons (d_cb (call_repr hg (unit_0 (room_u hr))) snd_repr T.b_repr (by decide +kernel) (a_cons (d_var (pv 1)) a_nil)) a_nil))) a_nil))) d_int))) (s_cons (s_app (i := 6) (pv 6) (c_metL (f := "_law_right") (fs := tabF) (k := 5) F__law_met m__law_met B__law_met sc__law_met (fun cdv => giv__law_met T hg (room_u hr)) ap tb (by decide) (hr.mono (by decide)) (LamX.lamS_by (by kernel_rfl)) (fun A outer s H E f c' ζ' R hr tk => (c_callX C_inverse tk (hr.mono (by decide)) (a_cons d_int (a_cons (d_var (pv 2)) a_nil))))) rfl (pe_bm PySem.F.plainAttrs_list PySem.F.slot_list_append PySem.F.type_list_append mt_append (pv 6) (pa_cons (c_metL (f := "_law_right") (fs := tabF) (k := 5) F__law_met m__law_met B__law_met sc__law_met (fun cdv => giv__law_met T hg (room_u hr)) ap tb (by decide) (hr.mono (by decide)) (LamX.lamS_by (by kernel_rfl)) (fun A outer s H E f c' ζ' R hr tk => (c_callX C_inverse tk (hr.mono (by decide)) (a_cons d_int (a_cons (d_var (pv 2)) a_nil))))) pa_nil))) (s_cons (s_app (i := 6) (pv 6) (c_metL (f := "_law_right") (fs := tabF) (k := 5) F__law_met m__law_met B__law_met sc__law_met (fun cdv => giv__law_met T hg (room_u hr)) ap tb (by decide) (hr.mono (by decide)) (LamX.lamS_by (by kernel_rfl)) (fun A outer s H E f c' ζ' R hr tk => (c_callX C_power tk (hr.mono (by decide)) (a_cons d_int (a_cons (d_var (pv 2)) (a_cons (d_var (pv 4)) a_nil)))))) rfl (pe_bm PySem.F.plainAttrs_list PySem.F.slot_list_append PySem.F.type_list_append mt_append (pv 6) (pa_cons (c_metL (f := "_law_right") (fs := tabF) (k := 5) F__law_met m__law_met B__law_met sc__law_met (fun cdv => giv__law_met T hg (room_u hr)) ap tb (by decide) (hr.mono (by decide)) (LamX.lamS_by (by kernel_rfl)) (fun A outer s H E f c' ζ' R hr tk => (c_callX C_power tk (hr.mono (by decide)) (a_cons d_int (a_cons (d_var (pv 2)) (a_cons (d_var (pv 4)) a_nil)))))) pa_nil))) (s_cons (s_app (i := 6) (pv 6) (c_metL (f := "_law_right") (fs := tabF) (k := 5) F__law_met m__law_met B__law_met sc__law_met (fun cdv => giv__law_met T hg (room_u hr)) ap tb (by decide) (hr.mono (by decide)) (LamX.lamS_by (by kernel_rfl)) (fun A outer s H E f c' ζ' R hr tk => (c_callX C_exponent_of tk (hr.mono (by decide)) (a_cons d_int (a_cons (d_var (pv 2)) (a_cons (d_var (pv 2)) a_nil)))))) rfl (pe_bm PySem.F.plainAttrs_list PySem.F.slot_list_append PySem.F.type_list_append mt_append (pv 6) (pa_cons (c_metL (f := "_law_right") (fs := tabF) (k := 5) F__law_met m__law_met B__law_met sc__law_met (fun cdv => giv__law_met T hg (room_u hr)) ap tb (by decide) (hr.mono (by decide)) (LamX.lamS_by (by kernel_rfl)) (fun A outer s H E f c' ζ' R hr tk => (c_callX C_exponent_of tk (hr.mono (by decide)) (a_cons d_int (a_cons (d_var (pv 2)) (a_cons (d_var (pv 2)) a_nil)))))) pa_nil))) (s_cons (s_app (i := 6) (pv 6) (c_metL (f := "_law_right") (fs := tabF) (k := 5) F__law_met m__law_met B__law_met sc__law_met (fun cdv => giv__law_met T hg (room_u hr)) ap tb (by decide) (hr.mono (by decide)) (LamX.lamS_by (by kernel_rfl)) (fun A outer s H E f c' ζ' R hr tk => (c_callX C_exponent_of tk (hr.mono (by decide)) (a_cons d_int (a_cons d_int (a_cons (d_var (pv 2)) a_nil)))))) rfl (pe_bm PySem.F.plainAttrs_list PySem.F.slot_list_append PySem.F.type_list_append mt_append (pv 6) (pa_cons (c_metL (f := "_law_right") (fs := tabF) (k := 5) F__law_met m__law_met B__law_met sc__law_met (fun cdv => giv__law_met T hg (room_u hr)) ap tb (by decide) (hr.mono (by decide)) (LamX.lamS_by (by kernel_rfl)) (fun A outer s H E f c' ζ' R hr tk => (c_callX C_exponent_of tk (hr.mono (by decide)) (a_cons d_int (a_cons d_int (a_cons (d_var (pv 2)) a_nil)))))) pa_nil))) (s_cons (s_setOwn (i := 7) sc__law_right.nd rfl (by first | exact Or.inl rfl | exact Or.inr rfl) (l_catO (i := 7) (pv 7) (d_op op_mulD snd_mul (d_lL (l_lst (a_cons (d_tup (a_cons d_str (a_cons (d_cb (call_repr hg (unit_0 (room_u hr))) snd_repr T.b_repr (by decide +kernel) (a_cons (d_var (pv 2)) a_nil)) a_nil))) a_nil))) d_int))) (s_cons (s_app (i := 6) (pv 6) (c_metL (f := "_law_right") (fs := tabF) (k := 5) F__law_met m__law_met B__law_met sc__law_met (fun cdv => giv__law_met T hg (room_u hr)) ap tb (by decide) (hr.mono (by decide)) (LamX.lamS_by (by kernel_rfl)) (fun A outer s H E f c' ζ' R hr tk => (c_callX C_power tk (hr.mono (by decide)) (a_cons d_int (a_cons d_int (a_cons (d_var (pv 4)) a_nil)))))) rfl (pe_bm PySem.F.plainAttrs_list PySem.F.slot_list_append PySem.F.type_list_append mt_append (pv 6) (pa_cons (c_metL (f := "_law_right") (fs := tabF) (k := 5) F__law_met m__law_met B__law_met sc__law_met (fun cdv => giv__law_met T hg (room_u hr)) ap tb (by decide) (hr.mono (by decide)) (LamX.lamS_by (by kernel_rfl)) (fun A outer s H E f c' ζ' R hr tk => (c_callX C_power tk (hr.mono (by decide)) (a_cons d_int (a_cons d_int (a_cons (d_var (pv 4)) a_nil)))))) pa_nil))) (s_cons (s_app (i := 6) (pv 6) (c_metL (f := "_law_right") (fs := tabF) (k := 5) F__law_met m__law_met B__law_met sc__law_met (fun cdv => giv__law_met T hg (room_u hr)) ap tb (by decide) (hr.mono (by decide)) (LamX.lamS_by (by kernel_rfl)) (fun A outer s H E f c' ζ' R hr tk => (c_callX C_letters_at tk (hr.mono (by decide)) (a_cons d_int (a_cons (d_var (pv 5)) (a_cons (d_var (pv 2)) a_nil)))))) rfl (pe_bm PySem.F.plainAttrs_list PySem.F.slot_list_append PySem.F.type_list_append mt_append (pv 6) (pa_cons (c_metL (f := "_law_right") (fs := tabF) (k := 5) F__law_met m__law_met B__law_met sc__law_met (fun cdv => giv__law_met T hg (room_u hr)) ap tb (by decide) (hr.mono (by decide)) (LamX.lamS_by (by kernel_rfl)) (fun A outer s H E f c' ζ' R hr tk => (c_callX C_letters_at tk (hr.mono (by decide)) (a_cons d_int (a_cons (d_var (pv 5)) (a_cons (d_var (pv 2)) a_nil)))))) pa_nil))) (s_cons (s_app (i := 6) (pv 6) (c_metL (f := "_law_right") (fs := tabF) (k := 5) F__law_met m__law_met B__law_met sc__law_met (fun cdv => giv__law_met T hg (room_u hr)) ap tb (by decide) (hr.mono (by decide)) (LamX.lamS_by (by kernel_rfl)) (fun A outer s H E f c' ζ' R hr tk => (c_callX C_number_at tk (hr.mono (by decide)) (a_cons d_int (a_cons (d_var (pv 3)) a_nil))))) rfl (pe_bm PySem.F.plainAttrs_list PySem.F.slot_list_append PySem.F.type_list_append mt_append (pv 6) (pa_cons (c_metL (f := "_law_right") (fs := tabF) (k := 5) F__law_met m__law_met B__law_met sc__law_met (fun cdv => giv__law_met T hg (room_u hr)) ap tb (by decide) (hr.mono (by decide)) (LamX.lamS_by (by kernel_rfl)) (fun A outer s H E f c' ζ' R hr tk => (c_callX C_number_at tk (hr.mono (by decide)) (a_cons d_int (a_cons (d_var (pv 3)) a_nil))))) pa_nil))) (s_cons (s_setOwn (i := 7) sc__law_right.nd rfl (by first | exact Or.inl rfl | exact Or.inr rfl) (l_catO (i := 7) (pv 7) (d_lL (l_lst (a_cons (d_tup (a_cons d_str (a_cons (d_cb (call_repr hg (unit_0 (room_u hr))) snd_repr T.b_repr (by decide +kernel) (a_cons (d_var (pv 4)) a_nil)) a_nil))) (a_cons (d_tup (a_cons d_str (a_cons (d_cb (call_repr hg (unit_0 (room_u hr))) snd_repr T.b_repr (by decide +kernel) (a_cons (d_var (pv 5)) a_nil)) a_nil))) (a_cons d_str a_nil))))))) (s_cons (s_set (i := 9) sc__law_right.nd rfl (by first | exact Or.inl rfl | exact Or.inr rfl) (c_callJ (i := 0) C__law_pour (hr.mono (by decide)) (pv 0) (a_cons d_int a_nil))) (s_cons (s_set (i := 10) sc__law_right.nd rfl (by first | exact Or.inl rfl | exact Or.inr rfl) (c_callJ (i := 0) C__law_sip (hr.mono (by decide)) (pv 0) (a_cons (d_lL (l_lst (a_cons d_non (a_cons d_bl (a_cons (d_un un_neg snd_neg d_int) (a_cons (d_op op_mulD snd_mul (d_op op_mulD snd_mul (d_op op_mulD snd_mul (d_op op_mulD snd_mul d_int d_int) d_int) d_int) d_int) (a_cons d_str (a_cons (d_tup (a_cons d_int a_nil)) (a_cons (d_lL (l_lst (a_cons d_int a_nil))) a_nil))))))))) a_nil))) (s_cons (s_app (i := 6) (pv 6) (c_metL (f := "_law_right") (fs := tabF) (k := 5) F__law_met m__law_met B__law_met sc__law_met (fun cdv => giv__law_met T hg (room_u hr)) ap tb (by decide) (hr.mono (by decide)) (LamX.lamS_by (by kernel_rfl)) (fun A outer s H E f c' ζ' R hr tk => (c_callX C_letters_at tk (hr.mono (by decide)) (a_cons d_int (a_cons (d_var (pv 9)) (a_cons (d_var (pv 10)) a_nil)))))) rfl (pe_bm PySem.F.plainAttrs_list PySem.F.slot_list_append PySem.F.type_list_append mt_append (pv 6) (pa_cons (c_metL (f := "_law_right") (fs := tabF) (k := 5) F__law_met m__law_met B__law_met sc__law_met (fun cdv => giv__law_met T hg (room_u hr)) ap tb (by decide) (hr.mono (by decide)) (LamX.lamS_by (by kernel_rfl)) (fun A outer s H E f c' ζ' R hr tk => (c_callX C_letters_at tk (hr.mono (by decide)) (a_cons d_int (a_cons (d_var (pv 9)) (a_cons (d_var (pv 10)) a_nil)))))) pa_nil))) (ss_frz (i := 6) (s_cons (s_app (i := 7) (pv 7) (d_tup (a_cons d_str (a_cons (d_cb (call_repr hg (unit_0 (room_u hr))) snd_repr T.b_repr (by decide +kernel) (a_cons (d_var (pv 10)) a_nil)) a_nil))) rfl (pe_bm PySem.F.plainAttrs_list PySem.F.slot_list_append PySem.F.type_list_append mt_append (pv 7) (pa_cons (d_tup (a_cons d_str (a_cons (d_cb (call_repr hg (unit_0 (room_u hr))) snd_repr T.b_repr (by decide +kernel) (a_cons (d_var (pv 10)) a_nil)) a_nil))) pa_nil))) (ss_frz (i := 7) (s_one (s_ret (d_cmp (op_eqD hr.units) snd_eq (d_var (pv 6)) (d_var (pv 7)) (nomark _)))))))))))))))))))))))))))))
theorem ok__law_right (T : Tb K mg) (C__law_sip : Cal P w K mg base 2 "_law_sip" ["jug", "items"] (spJ K 2 wf__law_sip)) (C_inverse : CalX P w K mg base 5 "inverse" ["prime", "letter"] (spX K 2 wf_inverse)) (C_number_at : CalX P w K mg base 5 "number_at" ["prime", "letters"] (spX K 2 wf_number_at)) (C_power : CalX P w K mg base 5 "power" ["prime", "letter", "times"] (spX K 3 wf_power)) (C_letters_at : CalX P w K mg base 5 "letters_at" ["prime", "many", "number"] (spX K 3 wf_letters_at)) (C_exponent_of : CalX P w K mg base 5 "exponent_of" ["prime", "base", "letter"] (spX K 3 wf_exponent_of)) (C_root : CalX P w K mg base 5 "root" ["prime"] (spX K 1 wf_root)) (C__law_pour : Cal P w K mg base 1 "_law_pour" ["jug", "total"] (spJ K 2 wf__law_pour)) {g__law_met : Addr} {fd__law_met : FuncData} (F__law_met : FunD K "_law_met" "_law_met" (defArgs (top 33)) (defBody (top 33)) (defScope (top 33)) [] [] g__law_met fd__law_met) (m__law_met : mg "_law_met" = some (.ref g__law_met)) (B__law_met : Binds K fd__law_met ["call"] []) (ap : Apart K tabF) (tb : TabsB K mg base tabF) {fd : FuncData} (F : FunD K "_law_right" "_law_right" (defArgs (top 34)) (defBody (top 34)) (defScope (top 34)) [] [] (He.fAd K ("_law_right", none)) fd) (hm : mg "_law_right" = some (.ref (He.fAd K ("_law_right", none)))) (pu : ∀ dj ds Q', ds.length + 1 = 1 → wf__law_right dj ds Q' → ws__law_right (edJ Q') (enJ N__law_right dj ds)) : CalG P w K mg base 8 "_law_right" ["jug"] (spJT K (tabsT K tabF) 1 wf__law_right) :=
  ⟨_, fd, fnJT F sc__law_right rfl (fun A outer s H hg hr => der__law_right T C__law_sip C_inverse C_number_at C_power C_letters_at C_exponent_of C_root C__law_pour F__law_met m__law_met B__law_met ap tb A outer s H hg hr) pu, hm, F.kp, F.bindsN (ps := ["jug"]) fun _ _ _ _ _ _ us hl => match us, hl with | [_], _ => rfl⟩
/-! ### next_prime -/
abbrev N_next_prime : List Str := ["number", "found"]
theorem sc_next_prime : FnScope N_next_prime ["number"] (defScope (top 18)) := ⟨rfl, rfl, rfl, by decide +kernel, rfl, by decide +kernel, by decide +kernel⟩
def ws_next_prime (R : Exc → En → Prop) : WS := (wSeq (wDrop (wFnX 3 wf_check_between R (wCons (wVar 0) (wCons (wC (.int 0)) (wCons (wC (.int 9973)) wNil))))) (wSeq (wSet 1 (wVar 0)) (wSeq (wWhile (wNot (wTr (wFn 1 wf_is_prime (wCons (wVar 1) wNil)))) (wAug 1 dIadd (wC (.int 1)))) (wRet (wVar 1)))))
theorem der_next_prime {R : Exc → En → Prop} (T : Tb K mg) (C_check_between : CalX P w K mg base 3 "check_between" ["value", "least", "most"] (spX K 3 wf_check_between)) (C_is_prime : Cal P w K mg base 3 "is_prime" ["value"] (spP K 1 wf_is_prime)) (f : Addr) (cdv : Value) (A : Around) (outer : List Env) (s : Shared) (H : Hp) (E : XK) (tk : Takes (cxOf (L2.CX P w) P w K mg base N_next_prime "next_prime" (defScope (top 18)) f cdv A outer s H E) (wxOf K ζ R)) (hpo : PassesOwn (model P w) (cxOf (L2.CX P w) P w K mg base N_next_prime "next_prime" (defScope (top 18)) f cdv A outer s H E).A (cxOf (L2.CX P w) P w K mg base N_next_prime "next_prime" (defScope (top 18)) f cdv A outer s H E).env (cxOf (L2.CX P w) P w K mg base N_next_prime "next_prime" (defScope (top 18)) f cdv A outer s H E).xe) (hr : Room 3 (A.deeper (envOfC "next_prime" (defScope (top 18)) s.heap.objs.size f cdv))) : PSs (cxOf (L2.CX P w) P w K mg base N_next_prime "next_prime" (defScope (top 18)) f cdv A outer s H E) (defBody (top 18)) (lS K ζ (ws_next_prime R)) :=
  (s_cons (s_expr (c_callX C_check_between tk (hr.mono (by decide)) (a_cons (d_var (pv 0)) (a_cons d_int (a_cons (d_gint T.c_MOST_PRIME) a_nil))))) (s_cons (s_set (i := 1) sc_next_prime.nd rfl (by first | exact Or.inl rfl | exact Or.inr rfl) (d_var (pv 0))) (s_cons (s_while hpo (t_not (t_tru (c_call C_is_prime (hr.mono (by decide)) (a_cons (d_var (pv 1)) a_nil)))) (s_one (s_aug (i := 1) sc_next_prime.nd rfl (by first | exact Or.inl rfl | exact Or.inr rfl) d_int ip_add snd_ipadd))) (s_one (s_ret (d_var (pv 1)))))))
theorem ok_next_prime (T : Tb K mg) (C_check_between : CalX P w K mg base 3 "check_between" ["value", "least", "most"] (spX K 3 wf_check_between)) (C_is_prime : Cal P w K mg base 3 "is_prime" ["value"] (spP K 1 wf_is_prime)) {f : Addr} {fd : FuncData} (F : FunD K "next_prime" "next_prime" (defArgs (top 18)) (defBody (top 18)) (defScope (top 18)) [] [] f fd) (hm : mg "next_prime" = some (.ref f)) (pu : ∀ ds Q' R', ds.length = 1 → wf_next_prime ds Q' R' → ws_next_prime (fun e _ => R' e) (edP Q') (enP N_next_prime ds)) : CalX P w K mg base 4 "next_prime" ["number"] (spX K 1 wf_next_prime) :=
  ⟨f, fd, fnX F sc_next_prime (fun ζ R cdv A outer s H E tk hpo hr => der_next_prime T C_check_between C_is_prime f cdv A outer s H E tk hpo hr) pu, hm, F.kp, F.bindsN (ps := ["number"]) fun _ _ _ _ _ _ us hl => match us, hl with | [_], _ => rfl⟩
/-! ### law -/
abbrev N_law : List Str := ["script", "spot", "jug", "turn", "told", "due", "odd"]
theorem sc_law : FnScope N_law ["script"] (defScope (top 35)) := ⟨rfl, rfl, rfl, by decide +kernel, rfl, by decide +kernel, by decide +kernel⟩
def ws_law : WS := (wSeq (wFor (wRg1 (wCons (wCl dMax2 (wCons (wC (.int 1)) (wCons (wCl dMin2 (wCons (wC (.int 4)) (wCons (wLenS 0) wNil))) wNil))) wNil)) (wgN 1) (wSeq (wSetOwn 2 (wFnS 0 2 wf__law_jug (wCons (wVar 1) wNil))) (wFor (wRg1 (wCons (wC (.int 3)) wNil)) (wgN 3) (wIfS (wNot (wTr (wFnJ 2 1 wf__law_right wNil))) (wRet (wC (.bool false))) wNext)))) (wSeq (wSetOwn 4 (wSz (wCons (wMet exB 2 cl__law_met wl__law_met (fun R => (wFnX 2 wf_inverse R (wCons (wC (.int 5)) (wCons (wC (.int 0)) wNil))))) wNil))) (wSeq (wApp 4 (wMet exB 2 cl__law_met wl__law_met (fun R => (wFnX 3 wf_letters_at R (wCons (wC (.int 3)) (wCons (wC (.int 2)) (wCons (wC (.int 9)) wNil))))))) (wSeq (wApp 4 (wMet exB 2 cl__law_met wl__law_met (fun R => (wFnX 3 wf_letters_at R (wCons (wC (.int 3)) (wCons (wC (.int 2)) (wCons (wC (.int 8)) wNil))))))) (wSeq (wApp 4 (wMet exB 2 cl__law_met wl__law_met (fun R => (wFnX 3 wf_letters_at R (wCons (wC (.int 3)) (wCons (wC (.int 0)) (wCons (wC (.int 1)) wNil))))))) (wSeq (wApp 4 (wMet exB 2 cl__law_met wl__law_met (fun R => (wFnX 3 wf_letters_at R (wCons (wC (.int 3)) (wCons (wC (.int 0)) (wCons (wC (.int 0)) wNil))))))) (wSeq (wApp 4 (wMet exB 2 cl__law_met wl__law_met (fun R => (wFnX 3 wf_power R (wCons (wC (.int 2)) (wCons (wC (.int 1)) (wCons (wOp dPow (wC (.int 10)) (wC (.int 9))) wNil))))))) (wSeq (wApp 4 (wMet exB 2 cl__law_met wl__law_met (fun R => (wFnX 2 wf_number_at R (wCons (wC (.int 2)) (wCons (wOp dMul (wTup (wCons (wC (.int 1)) wNil)) (wC (.int 100))) wNil)))))) (wSeq (wSetOwn 5 (wSz (wCons (wTup (wCons (wC (.str "refused")) (wCons (wTup (wCons (wC (.str "zero")) wNil)) wNil))) (wCons (wTup (wCons (wC (.str "number")) (wCons (wC (.str "9")) wNil))) (wCons (wC (.str "fine")) (wCons (wTup (wCons (wC (.str "number")) (wCons (wC (.str "1")) wNil))) (wCons (wC (.str "fine")) (wCons (wC (.str "fine")) (wCons (wC (.str "fine")) wNil))))))))) (wSeq (wFor (wSq (wTup (wCons (wC .none) (wCons (wC (.bool true)) (wCons (wUn dNeg (wC (.int 1))) (wCons (wC (.int 9974)) (wCons (wC (.str "2")) (wCons (wTup (wCons (wC (.int 2)) wNil)) (wCons (wOp dPow (wC (.int 10)) (wC (.int 60))) wNil))))))))) (wgN 6) (wSeq (wApp 4 (wMet exB 2 cl__law_met wl__law_met (fun R => (wFnX 1 wf_next_prime R (wCons (wVar 6) wNil))))) (wApp 5 (wTup (wCons (wC (.str "number")) (wCons (wCl dRepr (wCons (wVar 6) wNil)) wNil)))))) (wFrz 5 (wSeq (wApp 4 (wMet exB 2 cl__law_met wl__law_met (fun R => (wFnX 1 wf_next_prime R (wCons (wC (.int 9973)) wNil))))) (wFrz 4 (wRet (wOp dEq (wVar 4) (wOp dAdd (wVar 5) (wLe (wSz (wCons (wC (.str "fine")) wNil)))))))))))))))))))
theorem der_law (T : Tb K mg) (C__law_jug : Cal P w K mg base 1 "_law_jug" ["script", "spot"] (spS K 2 wf__law_jug)) (C__law_right : CalG P w K mg base 8 "_law_right" ["jug"] (spJT K (tabsT K tabF) 1 wf__law_right)) (C_inverse : CalX P w K mg base 5 "inverse" ["prime", "letter"] (spX K 2 wf_inverse)) (C_letters_at : CalX P w K mg base 5 "letters_at" ["prime", "many", "number"] (spX K 3 wf_letters_at)) (C_power : CalX P w K mg base 5 "power" ["prime", "letter", "times"] (spX K 3 wf_power)) (C_number_at : CalX P w K mg base 5 "number_at" ["prime", "letters"] (spX K 2 wf_number_at)) (C_next_prime : CalX P w K mg base 4 "next_prime" ["number"] (spX K 1 wf_next_prime)) {g__law_met : Addr} {fd__law_met : FuncData} (F__law_met : FunD K "_law_met" "_law_met" (defArgs (top 33)) (defBody (top 33)) (defScope (top 33)) [] [] g__law_met fd__law_met) (m__law_met : mg "_law_met" = some (.ref g__law_met)) (B__law_met : Binds K fd__law_met ["call"] []) (ap : Apart K tabF) (tb : TabsB K mg base tabF) (A : Around) (outer : List Env) (s : Shared) (H : Hp) (hg : A.guards = some []) (hr : Room 8 (A.deeper (envOfC "law" (defScope (top 35)) s.heap.objs.size (He.fAd K ("law", none)) (.ref (He.codeOf K ("law", none)))))) : PSs (cxOf CX0 P w K mg base N_law "law" (defScope (top 35)) (He.fAd K ("law", none)) (.ref (He.codeOf K ("law", none))) A outer s H E0).nox (defBody (top 35)) (lS K (ζT (tabsT K tabF)) ws_law) :=
  (s_cons (s_for PassesOwn.never rfl (i_rng1 T.b_range (a_cons (d_cb (call_max2 rfl) snd_max2 T.b_max (by decide +kernel) (a_cons d_int (a_cons (d_cb (call_min2 rfl) snd_min2 T.b_min (by decide +kernel) (a_cons d_int (a_cons (d_lenS (i := 0) T.b_len (pv 0)) a_nil))) a_nil))) a_nil)) (g_name (i := 1) sc_law.nd rfl (by first | exact Or.inl rfl | exact Or.inr rfl)) (s_cons (s_setOwn (i := 2) sc_law.nd rfl (by first | exact Or.inl rfl | exact Or.inr rfl) (c_callS (i := 0) C__law_jug (hr.mono (by decide)) (pv 0) (a_cons (d_var (pv 1)) a_nil))) (s_one (s_for PassesOwn.never rfl (i_rng1 T.b_range (a_cons d_int a_nil)) (g_name (i := 3) sc_law.nd rfl (by first | exact Or.inl rfl | exact Or.inr rfl)) (s_one (s_if (t_not (t_tru (c_callJT (i := 2) C__law_right hg (hr.mono (by decide)) (pv 2) a_nil))) (s_one (s_ret d_bl)) s_nil)))))) (s_cons (s_setOwn (i := 4) sc_law.nd rfl (by first | exact Or.inl rfl | exact Or.inr rfl) (l_lst (a_cons (c_metL (f := "law") (fs := tabF) (k := 5) F__law_met m__law_met B__law_met sc__law_met (fun cdv => giv__law_met T hg (room_u hr)) ap tb (by decide) (hr.mono (by decide)) (LamX.lamS_by (by kernel_rfl)) (fun A outer s H E f c' ζ' R hr tk => (c_callX C_inverse tk (hr.mono (by decide)) (a_cons d_int (a_cons d_int a_nil))))) a_nil))) (s_cons (s_app (i := 4) (pv 4) (c_metL (f := "law") (fs := tabF) (k := 5) F__law_met m__law_met B__law_met sc__law_met (fun cdv => giv__law_met T hg (room_u hr)) ap tb (by decide) (hr.mono (by decide)) (LamX.lamS_by (by kernel_rfl)) (fun A outer s H E f c' ζ' R hr tk => (c_callX C_letters_at tk (hr.mono (by decide)) (a_cons d_int (a_cons d_int (a_cons d_int a_nil)))))) rfl (pe_bm PySem.F.plainAttrs_list PySem.F.slot_list_append PySem.F.type_list_append mt_append (pv 4) (pa_cons (c_metL (f := "law") (fs := tabF) (k := 5) F__law_met m__law_met B__law_met sc__law_met (fun cdv => giv__law_met T hg (room_u hr)) ap tb (by decide) (hr.mono (by decide)) (LamX.lamS_by (by kernel_rfl)) (fun A outer s H E f c' ζ' R hr tk => (c_callX C_letters_at tk (hr.mono (by decide)) (a_cons d_int (a_cons d_int (a_cons d_int a_nil)))))) pa_nil))) (s_cons (s_app (i := 4) (pv 4) (c_metL (f := "law") (fs := tabF) (k := 5) F__law_met m__law_met B__law_met sc__law_met (fun cdv => giv__law_met T hg (room_u hr)) ap tb (by decide) (hr.mono (by decide)) (LamX.lamS_by (by kernel_rfl)) (fun A outer s H E f c' ζ' R hr tk => (c_callX C_letters_at tk (hr.mono (by decide)) (a_cons d_int (a_cons d_int (a_cons d_int a_nil)))))) rfl (pe_bm PySem.F.plainAttrs_list PySem.F.slot_list_append PySem.F.type_list_append mt_append (pv 4) (pa_cons (c_metL (f := "law") (fs := tabF) (k := 5) F__law_met m__law_met B__law_met sc__law_met (fun cdv => giv__law_met T hg (room_u hr)) ap tb (by decide) (hr.mono (by decide)) (LamX.lamS_by (by kernel_rfl)) (fun A outer s H E f c' ζ' R hr tk => (c_callX C_letters_at tk (hr.mono (by decide)) (a_cons d_int (a_cons d_int (a_cons d_int a_nil)))))) pa_nil))) (s_cons (s_app (i := 4) (pv 4) (c_metL (f := "law") (fs := tabF) (k := 5) F__law_met m__law_met B__law_met sc__law_met (fun cdv => giv__law_met T hg (room_u hr)) ap tb (by decide) (hr.mono (by decide)) (LamX.lamS_by (by kernel_rfl)) (fun A outer s H E f c' ζ' R hr tk => (c_callX C_letters_at tk (hr.mono (by decide)) (a_cons d_int (a_cons d_int (a_cons d_int a_nil)))))) rfl (pe_bm PySem.F.plainAttrs_list PySem.F.slot_list_append PySem.F.type_list_append mt_append (pv 4) (pa_cons (c_metL (f := "law") (fs := tabF) (k := 5) F__law_met m__law_met B__law_met sc__law_met (fun cdv => giv__law_met T hg (room_u hr)) ap tb (by decide) (hr.mono (by decide)) (LamX.lamS_by (by kernel_rfl)) (fun A outer s H E f c' ζ' R hr tk => (c_callX C_letters_at tk (hr.mono (by decide)) (a_cons d_int (a_cons d_int (a_cons d_int a_nil)))))) pa_nil))) (s_cons (s_app (i := 4) (pv 4) (c_metL (f := "law") (fs := tabF) (k := 5) F__law_met m__law_met B__law_met sc__law_met (fun cdv => giv__law_met T hg (room_u hr)) ap tb (by decide) (hr.mono (by decide)) (LamX.lamS_by (by kernel_rfl)) (fun A outer s H E f c' ζ' R hr tk => (c_callX C_letters_at tk (hr.mono (by decide)) (a_cons d_int (a_cons d_int (a_cons d_int a_nil)))))) rfl (pe_bm PySem.F.plainAttrs_list PySem.F.slot_list_append PySem.F.type_list_append mt_append (pv 4) (pa_cons (c_metL (f := "law") (fs := tabF) (k := 5) F__law_met m__law_met B__law_met sc__law_met (fun cdv => giv__law_met T hg (room_u hr)) ap tb (by decide) (hr.mono (by decide)) (LamX.lamS_by (by kernel_rfl)) (fun A outer s H E f c' ζ' R hr tk => (c_callX C_letters_at tk (hr.mono (by decide)) (a_cons d_int (a_cons d_int (a_cons d_int a_nil)))))) pa_nil))) (s_cons (s_app (i := 4) (pv 4) (c_metL (f := "law") (fs := tabF) (k := 5) F__law_met m__law_met B__law_met sc__law_met (fun cdv => giv__law_met T hg (room_u hr)) ap tb (by decide) (hr.mono (by decide)) (LamX.lamS_by (by kernel_rfl)) (fun A outer s H E f c' ζ' R hr tk => (c_callX C_power tk (hr.mono (by decide)) (a_cons d_int (a_cons d_int (a_cons (d_op op_powW snd_pow d_int d_int) a_nil)))))) rfl (pe_bm PySem.F.plainAttrs_list PySem.F.slot_list_append PySem.F.type_list_append mt_append (pv 4) (pa_cons (c_metL (f := "law") (fs := tabF) (k := 5) F__law_met m__law_met B__law_met sc__law_met (fun cdv => giv__law_met T hg (room_u hr)) ap tb (by decide) (hr.mono (by decide)) (LamX.lamS_by (by kernel_rfl)) (fun A outer s H E f c' ζ' R hr tk => (c_callX C_power tk (hr.mono (by decide)) (a_cons d_int (a_cons d_int (a_cons (d_op op_powW snd_pow d_int d_int) a_nil)))))) pa_nil))) (s_cons (s_app (i := 4) (pv 4) (c_metL (f := "law") (fs := tabF) (k := 5) F__law_met m__law_met B__law_met sc__law_met (fun cdv => giv__law_met T hg (room_u hr)) ap tb (by decide) (hr.mono (by decide)) (LamX.lamS_by (by kernel_rfl)) (fun A outer s H E f c' ζ' R hr tk => (c_callX C_number_at tk (hr.mono (by decide)) (a_cons d_int (a_cons (d_op op_mulD snd_mul (d_tup (a_cons d_int a_nil)) d_int) a_nil))))) rfl (pe_bm PySem.F.plainAttrs_list PySem.F.slot_list_append PySem.F.type_list_append mt_append (pv 4) (pa_cons (c_metL (f := "law") (fs := tabF) (k := 5) F__law_met m__law_met B__law_met sc__law_met (fun cdv => giv__law_met T hg (room_u hr)) ap tb (by decide) (hr.mono (by decide)) (LamX.lamS_by (by kernel_rfl)) (fun A outer s H E f c' ζ' R hr tk => (c_callX C_number_at tk (hr.mono (by decide)) (a_cons d_int (a_cons (d_op op_mulD snd_mul (d_tup (a_cons d_int a_nil)) d_int) a_nil))))) pa_nil))) (s_cons (s_setOwn (i := 5) sc_law.nd rfl (by first | exact Or.inl rfl | exact Or.inr rfl) (l_lst (a_cons (d_tup (a_cons d_str (a_cons (d_tup (a_cons d_str a_nil)) a_nil))) (a_cons (d_tup (a_cons d_str (a_cons d_str a_nil))) (a_cons d_str (a_cons (d_tup (a_cons d_str (a_cons d_str a_nil))) (a_cons d_str (a_cons d_str (a_cons d_str a_nil))))))))) (s_cons (s_for PassesOwn.never rfl (i_seq (d_tup (a_cons d_non (a_cons d_bl (a_cons (d_un un_neg snd_neg d_int) (a_cons d_int (a_cons d_str (a_cons (d_tup (a_cons d_int a_nil)) (a_cons (d_op op_powW snd_pow d_int d_int) a_nil))))))))) (g_name (i := 6) sc_law.nd rfl (by first | exact Or.inl rfl | exact Or.inr rfl)) (s_cons (s_app (i := 4) (pv 4) (c_metL (f := "law") (fs := tabF) (k := 5) F__law_met m__law_met B__law_met sc__law_met (fun cdv => giv__law_met T hg (room_u hr)) ap tb (by decide) (hr.mono (by decide)) (LamX.lamS_by (by kernel_rfl)) (fun A outer s H E f c' ζ' R hr tk => (c_callX C_next_prime tk (hr.mono (by decide)) (a_cons (d_var (pv 6)) a_nil)))) rfl (pe_bm PySem.F.plainAttrs_list PySem.F.slot_list_append PySem.F.type_list_append mt_append (pv 4) (pa_cons (c_metL (f := "law") (fs := tabF) (k := 5) F__law_met m__law_met B__law_met sc__law_met (fun cdv => giv__law_met T hg (room_u hr)) ap tb (by decide) (hr.mono (by decide)) (LamX.lamS_by (by kernel_rfl)) (fun A outer s H E f c' ζ' R hr tk => (c_callX C_next_prime tk (hr.mono (by decide)) (a_cons (d_var (pv 6)) a_nil)))) pa_nil))) (s_one (s_app (i := 5) (pv 5) (d_tup (a_cons d_str (a_cons (d_cb (call_repr hg (unit_0 (room_u hr))) snd_repr T.b_repr (by decide +kernel) (a_cons (d_var (pv 6)) a_nil)) a_nil))) rfl (pe_bm PySem.F.plainAttrs_list PySem.F.slot_list_append PySem.F.type_list_append mt_append (pv 5) (pa_cons (d_tup (a_cons d_str (a_cons (d_cb (call_repr hg (unit_0 (room_u hr))) snd_repr T.b_repr (by decide +kernel) (a_cons (d_var (pv 6)) a_nil)) a_nil))) pa_nil)))))) (ss_frz (i := 5) (s_cons (s_app (i := 4) (pv 4) (c_metL (f := "law") (fs := tabF) (k := 5) F__law_met m__law_met B__law_met sc__law_met (fun cdv => giv__law_met T hg (room_u hr)) ap tb (by decide) (hr.mono (by decide)) (LamX.lamS_by (by kernel_rfl)) (fun A outer s H E f c' ζ' R hr tk => (c_callX C_next_prime tk (hr.mono (by decide)) (a_cons d_int a_nil)))) rfl (pe_bm PySem.F.plainAttrs_list PySem.F.slot_list_append PySem.F.type_list_append mt_append (pv 4) (pa_cons (c_metL (f := "law") (fs := tabF) (k := 5) F__law_met m__law_met B__law_met sc__law_met (fun cdv => giv__law_met T hg (room_u hr)) ap tb (by decide) (hr.mono (by decide)) (LamX.lamS_by (by kernel_rfl)) (fun A outer s H E f c' ζ' R hr tk => (c_callX C_next_prime tk (hr.mono (by decide)) (a_cons d_int a_nil)))) pa_nil))) (ss_frz (i := 4) (s_one (s_ret (d_cmp (op_eqD hr.units) snd_eq (d_var (pv 4)) (d_op op_addD snd_add (d_var (pv 5)) (d_lL (l_lst (a_cons d_str a_nil)))) (nomark _)))))))))))))))))
theorem ok_law (T : Tb K mg) (C__law_jug : Cal P w K mg base 1 "_law_jug" ["script", "spot"] (spS K 2 wf__law_jug)) (C__law_right : CalG P w K mg base 8 "_law_right" ["jug"] (spJT K (tabsT K tabF) 1 wf__law_right)) (C_inverse : CalX P w K mg base 5 "inverse" ["prime", "letter"] (spX K 2 wf_inverse)) (C_letters_at : CalX P w K mg base 5 "letters_at" ["prime", "many", "number"] (spX K 3 wf_letters_at)) (C_power : CalX P w K mg base 5 "power" ["prime", "letter", "times"] (spX K 3 wf_power)) (C_number_at : CalX P w K mg base 5 "number_at" ["prime", "letters"] (spX K 2 wf_number_at)) (C_next_prime : CalX P w K mg base 4 "next_prime" ["number"] (spX K 1 wf_next_prime)) {g__law_met : Addr} {fd__law_met : FuncData} (F__law_met : FunD K "_law_met" "_law_met" (defArgs (top 33)) (defBody (top 33)) (defScope (top 33)) [] [] g__law_met fd__law_met) (m__law_met : mg "_law_met" = some (.ref g__law_met)) (B__law_met : Binds K fd__law_met ["call"] []) (ap : Apart K tabF) (tb : TabsB K mg base tabF) {fd : FuncData} (F : FunD K "law" "law" (defArgs (top 35)) (defBody (top 35)) (defScope (top 35)) [] [] (He.fAd K ("law", none)) fd) (pu : ∀ ns ds Q', ds.length + 1 = 1 → wf_law ns ds Q' → ws_law (edP Q') (enS N_law ns ds)) : FnG P w K mg base 9 (He.fAd K ("law", none)) fd ["script"] (spST K (tabsT K tabF) 1 wf_law) :=
  fnST F sc_law rfl (fun A outer s H hg hr => der_law T C__law_jug C__law_right C_inverse C_letters_at C_power C_number_at C_next_prime F__law_met m__law_met B__law_met ap tb A outer s H hg hr) pu
end
end K03

set_option Elab.async false
set_option linter.all false
set_option maxRecDepth 100000
set_option maxHeartbeats 4000000
namespace K03
open PySem PySem.Spec PyProof.Rows L2 Pd
theorem btw_int {i a b : Int} : isBtw (.int i) a b = (decide (a ≤ i) && decide (i ≤ b)) := rfl
theorem pu_is_whole (ds Q) (hl : ds.length = 1) (h : wf_is_whole ds Q) : ws_is_whole (edP Q) (enP N_is_whole ds) := by
  obtain ⟨d, rfl, q⟩ := h
  cases d <;> exact ⟨_, rfl, _, rfl, _, rfl, by first | exact ⟨_, rfl, _, rfl, _, rfl, q⟩ | exact q⟩
theorem pu_is_between (ds Q) (hl : ds.length = 3) (h : wf_is_between ds Q) : ws_is_between (edP Q) (enP N_is_between ds) := by
  obtain ⟨d, a, b, rfl, q⟩ := h
  simp only [ws_is_between, N_is_between, wf_is_whole, wf_is_between, wVar, wC, wOp, wUn, wCl, wB, wTr, wAnd, wOr, wNot, wAndV, wOrV, wNotV, wIf, wCh, wNil, wCons, wTup, wLe, wSz, wFn, wFnJ, wFnB, wFnJB, wBNil, wBCons, wBOwn, rsvP, rsvJ, wNext, wSeq, wRet, wRetN, wDrop, wIfS, wSet, wSetOwn, wNever, wAug, wOpO, wIxO, wOpR, wClO, wApp, wSetIt, wFrz, wFor, wRg1, wRg2, wSq, wEnum, wZip, wZipM, wZipS, wZipU, wgN, wgT, wgNil, wgCons, wYes, wAsgT, wgLs, wLenS, wIxS, wFnS, wFnJL, wFnX, wRaise, wRaiseF, wForFn, forFnW, wMet, hide, wIsi, wListOf, wRev, edP, edJ, enP, enJ, enS, NotOwn, Flat, List.map_cons, List.map_nil, List.length_cons, List.length_nil, List.replicate_succ, List.replicate_zero, List.cons_append, List.nil_append, List.append_nil, List.set_cons_zero, List.set_cons_succ, List.getElem?_cons_zero, List.getElem?_cons_succ, Nat.reduceAdd, Nat.reduceSub, Option.some.injEq, Sl.imm.injEq, Sl.own.injEq, Sl.scr.injEq, exists_eq_left, exists_eq_left', exists_eq_right, exists_eq, exists_eq', exists_and_left, and_assoc, and_true, true_and, ne_eq, not_false_eq_true, Nat.succ_ne_zero, or_true, true_or, true_implies, forall_eq', forall_eq, PyData.int.injEq, PyData.bool.injEq, PyData.list.injEq, PyData.tuple.injEq, List.cons.injEq, i_add, i_iadd, i_sub, i_mul, i_mod, i_fdiv, i_fdivG, i_pow, i_neg, i_le, i_ge, i_gt, i_lt, i_eq, i_ne, i_intI, i_intB, i_abs, i_max, i_min, i_lenL, i_lenT, i_ixL, i_ixT, i_tupL, i_tupT, i_truB, Bool.not_true, Bool.not_false, Bool.false_eq_true, if_true, if_false, reduceIte]
  cases d with
  | int i =>
    rw [btw_int] at q
    simp only [isW, if_true, wVar, wC, wOp, wUn, wCl, wB, wTr, wAnd, wOr, wNot, wAndV, wOrV, wNotV, wIf, wCh, wNil, wCons, wTup, wLe, wSz, wFn, wFnJ, wFnB, wFnJB, wBNil, wBCons, wBOwn, rsvP, rsvJ, wNext, wSeq, wRet, wRetN, wDrop, wIfS, wSet, wSetOwn, wNever, wAug, wOpO, wIxO, wOpR, wClO, wApp, wSetIt, wFrz, wFor, wRg1, wRg2, wSq, wEnum, wZip, wZipM, wZipS, wZipU, wgN, wgT, wgNil, wgCons, wYes, wAsgT, wgLs, wLenS, wIxS, wFnS, wFnJL, wFnX, wRaise, wRaiseF, wForFn, forFnW, wMet, hide, wIsi, wListOf, wRev, edP, edJ, enP, enJ, enS, NotOwn, Flat, List.map_cons, List.map_nil, List.length_cons, List.length_nil, List.replicate_succ, List.replicate_zero, List.cons_append, List.nil_append, List.append_nil, List.set_cons_zero, List.set_cons_succ, List.getElem?_cons_zero, List.getElem?_cons_succ, Nat.reduceAdd, Nat.reduceSub, Option.some.injEq, Sl.imm.injEq, Sl.own.injEq, Sl.scr.injEq, exists_eq_left, exists_eq_left', exists_eq_right, exists_eq, exists_eq', exists_and_left, and_assoc, and_true, true_and, ne_eq, not_false_eq_true, Nat.succ_ne_zero, or_true, true_or, true_implies, forall_eq', forall_eq, PyData.int.injEq, PyData.bool.injEq, PyData.list.injEq, PyData.tuple.injEq, List.cons.injEq, i_add, i_iadd, i_sub, i_mul, i_mod, i_fdiv, i_fdivG, i_pow, i_neg, i_le, i_ge, i_gt, i_lt, i_eq, i_ne, i_intI, i_intB, i_abs, i_max, i_min, i_lenL, i_lenT, i_ixL, i_ixT, i_tupL, i_tupT, i_truB, Bool.not_true, Bool.not_false, Bool.false_eq_true, if_true, if_false, reduceIte]
    by_cases h : a ≤ i
    · rw [decide_eq_true h] at q ⊢; exact q
    · rw [decide_eq_false h] at q ⊢; exact q
  | _ => exact q
theorem pu_least_divisor (ds Q) (hl : ds.length = 1) (h : wf_least_divisor ds Q) : ws_least_divisor (edP Q) (enP N_least_divisor ds) := by
  obtain ⟨n, rfl, hn, q⟩ := h
  simp only [ws_least_divisor, N_least_divisor, wWhile, wVar, wC, wOp, wUn, wCl, wB, wTr, wAnd, wOr, wNot, wAndV, wOrV, wNotV, wIf, wCh, wNil, wCons, wTup, wLe, wSz, wFn, wFnJ, wFnB, wFnJB, wBNil, wBCons, wBOwn, rsvP, rsvJ, wNext, wSeq, wRet, wRetN, wDrop, wIfS, wSet, wSetOwn, wNever, wAug, wOpO, wIxO, wOpR, wClO, wApp, wSetIt, wFrz, wFor, wRg1, wRg2, wSq, wEnum, wZip, wZipM, wZipS, wZipU, wgN, wgT, wgNil, wgCons, wYes, wAsgT, wgLs, wLenS, wIxS, wFnS, wFnJL, wFnX, wRaise, wRaiseF, wForFn, forFnW, wMet, hide, wIsi, wListOf, wRev, edP, edJ, enP, enJ, enS, NotOwn, Flat, List.map_cons, List.map_nil, List.length_cons, List.length_nil, List.replicate_succ, List.replicate_zero, List.cons_append, List.nil_append, List.append_nil, List.set_cons_zero, List.set_cons_succ, List.getElem?_cons_zero, List.getElem?_cons_succ, Nat.reduceAdd, Nat.reduceSub, Option.some.injEq, Sl.imm.injEq, Sl.own.injEq, Sl.scr.injEq, exists_eq_left, exists_eq_left', exists_eq_right, exists_eq, exists_eq', exists_and_left, and_assoc, and_true, true_and, ne_eq, not_false_eq_true, Nat.succ_ne_zero, or_true, true_or, true_implies, forall_eq', forall_eq, PyData.int.injEq, PyData.bool.injEq, PyData.list.injEq, PyData.tuple.injEq, List.cons.injEq, i_add, i_iadd, i_sub, i_mul, i_mod, i_fdiv, i_fdivG, i_pow, i_neg, i_le, i_ge, i_gt, i_lt, i_eq, i_ne, i_intI, i_intB, i_abs, i_max, i_min, i_lenL, i_lenT, i_ixL, i_ixT, i_tupL, i_tupT, i_truB, Bool.not_true, Bool.not_false, Bool.false_eq_true, if_true, if_false, reduceIte]
  refine ⟨fun m e => ∃ d : Int, m ≤ 200 ∧ d = 202 - m ∧ ldF m n d = ldF 200 n 2 ∧ e = [.imm (.int n), .imm (.int d)], ⟨200, 2, Nat.le_refl _, rfl, rfl, rfl⟩, ?_⟩
  rintro m e ⟨d, hm, hd, hf, rfl⟩
  simp only [wVar, wC, wOp, wUn, wCl, wB, wTr, wAnd, wOr, wNot, wAndV, wOrV, wNotV, wIf, wCh, wNil, wCons, wTup, wLe, wSz, wFn, wFnJ, wFnB, wFnJB, wBNil, wBCons, wBOwn, rsvP, rsvJ, wNext, wSeq, wRet, wRetN, wDrop, wIfS, wSet, wSetOwn, wNever, wAug, wOpO, wIxO, wOpR, wClO, wApp, wSetIt, wFrz, wFor, wRg1, wRg2, wSq, wEnum, wZip, wZipM, wZipS, wZipU, wgN, wgT, wgNil, wgCons, wYes, wAsgT, wgLs, wLenS, wIxS, wFnS, wFnJL, wFnX, wRaise, wRaiseF, wForFn, forFnW, wMet, hide, wIsi, wListOf, wRev, edP, edJ, enP, enJ, enS, NotOwn, Flat, List.map_cons, List.map_nil, List.length_cons, List.length_nil, List.replicate_succ, List.replicate_zero, List.cons_append, List.nil_append, List.append_nil, List.set_cons_zero, List.set_cons_succ, List.getElem?_cons_zero, List.getElem?_cons_succ, Nat.reduceAdd, Nat.reduceSub, Option.some.injEq, Sl.imm.injEq, Sl.own.injEq, Sl.scr.injEq, exists_eq_left, exists_eq_left', exists_eq_right, exists_eq, exists_eq', exists_and_left, and_assoc, and_true, true_and, ne_eq, not_false_eq_true, Nat.succ_ne_zero, or_true, true_or, true_implies, forall_eq', forall_eq, PyData.int.injEq, PyData.bool.injEq, PyData.list.injEq, PyData.tuple.injEq, List.cons.injEq, i_add, i_iadd, i_sub, i_mul, i_mod, i_fdiv, i_fdivG, i_pow, i_neg, i_le, i_ge, i_gt, i_lt, i_eq, i_ne, i_intI, i_intB, i_abs, i_max, i_min, i_lenL, i_lenT, i_ixL, i_ixT, i_tupL, i_tupT, i_truB, Bool.not_true, Bool.not_false, Bool.false_eq_true, if_true, if_false, reduceIte]
  refine ⟨small_l (by omega) (by omega), ?_⟩
  cases m with
  | zero =>
    have hd' : d = 202 := by omega
    subst hd'
    rw [if_neg (by simp; omega)]
    have : ldF 0 n 202 = n := rfl
    rw [← hf, this] at q; exact q
  | succ m =>
    by_cases hlt : d * d ≤ n
    · rw [if_pos (by simpa using hlt)]
      refine ⟨by omega, ?_⟩
      have h1 : ldF (m + 1) n d = if n % d = 0 then d else ldF m n (d + 1) := by
        show (if d * d ≤ n then (if n % d = 0 then d else ldF m n (d + 1)) else n) = _
        rw [if_pos hlt]
      by_cases h2 : n % d = 0
      · rw [if_pos (by simpa using h2)]
        rw [if_pos h2] at h1
        rw [← hf, h1] at q; exact q
      · rw [if_neg (by simpa using h2)]
        rw [if_neg h2] at h1
        exact ⟨m, by omega, by omega, by rw [← hf, h1]; congr 1; omega, by omega⟩
    · rw [if_neg (by simpa using hlt)]
      have h1 : ldF (m + 1) n d = n := by
        show (if d * d ≤ n then (if n % d = 0 then d else ldF m n (d + 1)) else n) = _
        rw [if_neg hlt]
      rw [← hf, h1] at q; exact q
theorem pu__law_jug (ns ds Q) (hl : ds.length + 1 = 2) (h : wf__law_jug ns ds Q) : ws__law_jug (edP Q) (enS N__law_jug ns ds) := by
  obtain ⟨s, rfl, q⟩ := h
  simp only [ws__law_jug, N__law_jug, wVar, wC, wOp, wUn, wCl, wB, wTr, wAnd, wOr, wNot, wAndV, wOrV, wNotV, wIf, wCh, wNil, wCons, wTup, wLe, wSz, wFn, wFnJ, wFnB, wFnJB, wBNil, wBCons, wBOwn, rsvP, rsvJ, wNext, wSeq, wRet, wRetN, wDrop, wIfS, wSet, wSetOwn, wNever, wAug, wOpO, wIxO, wOpR, wClO, wApp, wSetIt, wFrz, wFor, wRg1, wRg2, wSq, wEnum, wZip, wZipM, wZipS, wZipU, wgN, wgT, wgNil, wgCons, wYes, wAsgT, wgLs, wLenS, wIxS, wFnS, wFnJL, wFnX, wRaise, wRaiseF, wForFn, forFnW, wMet, hide, wIsi, wListOf, wRev, edP, edJ, enP, enJ, enS, NotOwn, Flat, List.map_cons, List.map_nil, List.length_cons, List.length_nil, List.replicate_succ, List.replicate_zero, List.cons_append, List.nil_append, List.append_nil, List.set_cons_zero, List.set_cons_succ, List.getElem?_cons_zero, List.getElem?_cons_succ, Nat.reduceAdd, Nat.reduceSub, Option.some.injEq, Sl.imm.injEq, Sl.own.injEq, Sl.scr.injEq, exists_eq_left, exists_eq_left', exists_eq_right, exists_eq, exists_eq', exists_and_left, and_assoc, and_true, true_and, ne_eq, not_false_eq_true, Nat.succ_ne_zero, or_true, true_or, true_implies, forall_eq', forall_eq, PyData.int.injEq, PyData.bool.injEq, PyData.list.injEq, PyData.tuple.injEq, List.cons.injEq, i_add, i_iadd, i_sub, i_mul, i_mod, i_fdiv, i_fdivG, i_pow, i_neg, i_le, i_ge, i_gt, i_lt, i_eq, i_ne, i_intI, i_intB, i_abs, i_max, i_min, i_lenL, i_lenT, i_ixL, i_ixT, i_tupL, i_tupT, i_truB, Bool.not_true, Bool.not_false, Bool.false_eq_true, if_true, if_false, reduceIte]
  by_cases h : (s : Int) < (ns.length : Nat)
  · rw [if_pos (by simpa using h)]
    refine ⟨_, at_nat (by omega), pow_ok (by decide +kernel), pow_ok (by decide +kernel), by decide +kernel, by decide, small_r (by decide) (by decide), small_l (by decide) (by decide), small_l (by decide) (by decide), pow_ok (by decide +kernel), by decide, q _ _ _⟩
  · rw [if_neg (by simpa using h)]
    refine ⟨small_l (by decide) (by decide), pow_ok (by decide +kernel), pow_ok (by decide +kernel), by decide +kernel, by decide, small_r (by decide) (by decide), small_l (by decide) (by decide), small_l (by decide) (by decide), pow_ok (by decide +kernel), by decide, q _ _ _⟩
theorem pu__law_pour (dj ds Q) (hl : ds.length + 1 = 2) (h : wf__law_pour dj ds Q) : ws__law_pour (edJ Q) (enJ N__law_pour dj ds) := by
  obtain ⟨g, m, c, t, rfl, rfl, ht, ht2, q⟩ := h
  simp only [ws__law_pour, N__law_pour, at0, at1, at2, ix30, ix32, wVar, wC, wOp, wUn, wCl, wB, wTr, wAnd, wOr, wNot, wAndV, wOrV, wNotV, wIf, wCh, wNil, wCons, wTup, wLe, wSz, wFn, wFnJ, wFnB, wFnJB, wBNil, wBCons, wBOwn, rsvP, rsvJ, wNext, wSeq, wRet, wRetN, wDrop, wIfS, wSet, wSetOwn, wNever, wAug, wOpO, wIxO, wOpR, wClO, wApp, wSetIt, wFrz, wFor, wRg1, wRg2, wSq, wEnum, wZip, wZipM, wZipS, wZipU, wgN, wgT, wgNil, wgCons, wYes, wAsgT, wgLs, wLenS, wIxS, wFnS, wFnJL, wFnX, wRaise, wRaiseF, wForFn, forFnW, wMet, hide, wIsi, wListOf, wRev, edP, edJ, enP, enJ, enS, NotOwn, Flat, List.map_cons, List.map_nil, List.length_cons, List.length_nil, List.replicate_succ, List.replicate_zero, List.cons_append, List.nil_append, List.append_nil, List.set_cons_zero, List.set_cons_succ, List.getElem?_cons_zero, List.getElem?_cons_succ, Nat.reduceAdd, Nat.reduceSub, Option.some.injEq, Sl.imm.injEq, Sl.own.injEq, Sl.scr.injEq, exists_eq_left, exists_eq_left', exists_eq_right, exists_eq, exists_eq', exists_and_left, and_assoc, and_true, true_and, ne_eq, not_false_eq_true, Nat.succ_ne_zero, or_true, true_or, true_implies, forall_eq', forall_eq, PyData.int.injEq, PyData.bool.injEq, PyData.list.injEq, PyData.tuple.injEq, List.cons.injEq, i_add, i_iadd, i_sub, i_mul, i_mod, i_fdiv, i_fdivG, i_pow, i_neg, i_le, i_ge, i_gt, i_lt, i_eq, i_ne, i_intI, i_intB, i_abs, i_max, i_min, i_lenL, i_lenT, i_ixL, i_ixT, i_tupL, i_tupT, i_truB, Bool.not_true, Bool.not_false, Bool.false_eq_true, if_true, if_false, reduceIte]
  by_cases h : 0 < g
  · rw [if_pos (by simpa using h)]
    exact ⟨ht, divG ht ht2, q _ _ _ _ (Int.emod_nonneg _ (by omega)) (Int.emod_lt_of_pos _ ht)⟩
  · rw [if_neg (by simpa using h)]
    have b1 : ∀ x : Int, 0 ≤ x % 2305843009213693951 ∧ x % 2305843009213693951 < 2305843009213693951 := fun x => by omega
    exact ⟨small_l (by decide) (by decide), by decide, small_l (by have := b1 (m + 49979687 * (c + 1)); omega) (by have := b1 (m + 49979687 * (c + 1)); omega), small_l (by decide) (by decide), by decide, small_r (by decide) (by decide),
      divG (by decide) (log_lt (by decide) (by decide)), ht, q _ _ _ _ (Int.emod_nonneg _ (by omega)) (Int.emod_lt_of_pos _ ht)⟩
theorem pu__law_sip (dj ds Q) (hl : ds.length + 1 = 2) (h : wf__law_sip dj ds Q) : ws__law_sip (edJ Q) (enJ N__law_sip dj ds) := by
  obtain ⟨g, m, c, xs, rfl, rfl, h1, h2, q⟩ := h
  simp only [ws__law_sip, N__law_sip, wf__law_pour, wVar, wC, wOp, wUn, wCl, wB, wTr, wAnd, wOr, wNot, wAndV, wOrV, wNotV, wIf, wCh, wNil, wCons, wTup, wLe, wSz, wFn, wFnJ, wFnB, wFnJB, wBNil, wBCons, wBOwn, rsvP, rsvJ, wNext, wSeq, wRet, wRetN, wDrop, wIfS, wSet, wSetOwn, wNever, wAug, wOpO, wIxO, wOpR, wClO, wApp, wSetIt, wFrz, wFor, wRg1, wRg2, wSq, wEnum, wZip, wZipM, wZipS, wZipU, wgN, wgT, wgNil, wgCons, wYes, wAsgT, wgLs, wLenS, wIxS, wFnS, wFnJL, wFnX, wRaise, wRaiseF, wForFn, forFnW, wMet, hide, wIsi, wListOf, wRev, edP, edJ, enP, enJ, enS, NotOwn, Flat, List.map_cons, List.map_nil, List.length_cons, List.length_nil, List.replicate_succ, List.replicate_zero, List.cons_append, List.nil_append, List.append_nil, List.set_cons_zero, List.set_cons_succ, List.getElem?_cons_zero, List.getElem?_cons_succ, Nat.reduceAdd, Nat.reduceSub, Option.some.injEq, Sl.imm.injEq, Sl.own.injEq, Sl.scr.injEq, exists_eq_left, exists_eq_left', exists_eq_right, exists_eq, exists_eq', exists_and_left, and_assoc, and_true, true_and, ne_eq, not_false_eq_true, Nat.succ_ne_zero, or_true, true_or, true_implies, forall_eq', forall_eq, PyData.int.injEq, PyData.bool.injEq, PyData.list.injEq, PyData.tuple.injEq, List.cons.injEq, i_add, i_iadd, i_sub, i_mul, i_mod, i_fdiv, i_fdivG, i_pow, i_neg, i_le, i_ge, i_gt, i_lt, i_eq, i_ne, i_intI, i_intB, i_abs, i_max, i_min, i_lenL, i_lenT, i_ixL, i_ixT, i_tupL, i_tupT, i_truB, Bool.not_true, Bool.not_false, Bool.false_eq_true, if_true, if_false, reduceIte]
  have hl : 0 < xs.length := List.length_pos_iff.mpr h1
  refine ⟨by omega, log_lt (by omega) (by omega), fun r g m c h3 h4 => ?_⟩
  obtain ⟨x, hx, hm⟩ := at_int h3 h4
  exact ⟨x, hx, q x hm g m c⟩
theorem pu_is_prime (ds Q) (hl : ds.length = 1) (h : wf_is_prime ds Q) : ws_is_prime (edP Q) (enP N_is_prime ds) := by
  obtain ⟨d, rfl, q⟩ := h
  cases d with
  | int n =>
    have q' : Q (.bool (isP n)) := q
    unfold isP at q'
    simp only [ws_is_prime, N_is_prime, wf_is_between, btw_int, wf_least_divisor, wVar, wC, wOp, wUn, wCl, wB, wTr, wAnd, wOr, wNot, wAndV, wOrV, wNotV, wIf, wCh, wNil, wCons, wTup, wLe, wSz, wFn, wFnJ, wFnB, wFnJB, wBNil, wBCons, wBOwn, rsvP, rsvJ, wNext, wSeq, wRet, wRetN, wDrop, wIfS, wSet, wSetOwn, wNever, wAug, wOpO, wIxO, wOpR, wClO, wApp, wSetIt, wFrz, wFor, wRg1, wRg2, wSq, wEnum, wZip, wZipM, wZipS, wZipU, wgN, wgT, wgNil, wgCons, wYes, wAsgT, wgLs, wLenS, wIxS, wFnS, wFnJL, wFnX, wRaise, wRaiseF, wForFn, forFnW, wMet, hide, wIsi, wListOf, wRev, edP, edJ, enP, enJ, enS, NotOwn, Flat, List.map_cons, List.map_nil, List.length_cons, List.length_nil, List.replicate_succ, List.replicate_zero, List.cons_append, List.nil_append, List.append_nil, List.set_cons_zero, List.set_cons_succ, List.getElem?_cons_zero, List.getElem?_cons_succ, Nat.reduceAdd, Nat.reduceSub, Option.some.injEq, Sl.imm.injEq, Sl.own.injEq, Sl.scr.injEq, exists_eq_left, exists_eq_left', exists_eq_right, exists_eq, exists_eq', exists_and_left, and_assoc, and_true, true_and, ne_eq, not_false_eq_true, Nat.succ_ne_zero, or_true, true_or, true_implies, forall_eq', forall_eq, PyData.int.injEq, PyData.bool.injEq, PyData.list.injEq, PyData.tuple.injEq, List.cons.injEq, i_add, i_iadd, i_sub, i_mul, i_mod, i_fdiv, i_fdivG, i_pow, i_neg, i_le, i_ge, i_gt, i_lt, i_eq, i_ne, i_intI, i_intB, i_abs, i_max, i_min, i_lenL, i_lenT, i_ixL, i_ixT, i_tupL, i_tupT, i_truB, Bool.not_true, Bool.not_false, Bool.false_eq_true, if_true, if_false, reduceIte]
    by_cases h : n ≤ 9973
    · simp only [h, decide_true, Bool.and_true, true_and]
      simp only [h, decide_true, Bool.and_true] at q'
      by_cases h2 : 2 ≤ n
      · simpa [h2] using q'
      · simpa [h2] using q'
    · simpa [h] using q'
  | _ =>
    simp only [ws_is_prime, N_is_prime, wf_is_between, isBtw, wVar, wC, wOp, wUn, wCl, wB, wTr, wAnd, wOr, wNot, wAndV, wOrV, wNotV, wIf, wCh, wNil, wCons, wTup, wLe, wSz, wFn, wFnJ, wFnB, wFnJB, wBNil, wBCons, wBOwn, rsvP, rsvJ, wNext, wSeq, wRet, wRetN, wDrop, wIfS, wSet, wSetOwn, wNever, wAug, wOpO, wIxO, wOpR, wClO, wApp, wSetIt, wFrz, wFor, wRg1, wRg2, wSq, wEnum, wZip, wZipM, wZipS, wZipU, wgN, wgT, wgNil, wgCons, wYes, wAsgT, wgLs, wLenS, wIxS, wFnS, wFnJL, wFnX, wRaise, wRaiseF, wForFn, forFnW, wMet, hide, wIsi, wListOf, wRev, edP, edJ, enP, enJ, enS, NotOwn, Flat, List.map_cons, List.map_nil, List.length_cons, List.length_nil, List.replicate_succ, List.replicate_zero, List.cons_append, List.nil_append, List.append_nil, List.set_cons_zero, List.set_cons_succ, List.getElem?_cons_zero, List.getElem?_cons_succ, Nat.reduceAdd, Nat.reduceSub, Option.some.injEq, Sl.imm.injEq, Sl.own.injEq, Sl.scr.injEq, exists_eq_left, exists_eq_left', exists_eq_right, exists_eq, exists_eq', exists_and_left, and_assoc, and_true, true_and, ne_eq, not_false_eq_true, Nat.succ_ne_zero, or_true, true_or, true_implies, forall_eq', forall_eq, PyData.int.injEq, PyData.bool.injEq, PyData.list.injEq, PyData.tuple.injEq, List.cons.injEq, i_add, i_iadd, i_sub, i_mul, i_mod, i_fdiv, i_fdivG, i_pow, i_neg, i_le, i_ge, i_gt, i_lt, i_eq, i_ne, i_intI, i_intB, i_abs, i_max, i_min, i_lenL, i_lenT, i_ixL, i_ixT, i_tupL, i_tupT, i_truB, Bool.not_true, Bool.not_false, Bool.false_eq_true, if_true, if_false, reduceIte]
    exact q
theorem isP_le {p : Int} (h : isP p = true) : 2 ≤ p ∧ p ≤ 9973 := by
  unfold isP at h
  simp only [Bool.and_eq_true, decide_eq_true_eq] at h
  exact ⟨h.1.1, h.1.2⟩
theorem pm (x p : Int) : ∀ k : Nat, (x % p) ^ k % p = x ^ k % p
  | 0 => by rw [Int.pow_zero, Int.pow_zero]
  | k + 1 => by
    rw [Int.pow_succ, Int.pow_succ, Int.mul_emod, pm x p k, Int.emod_emod, ← Int.mul_emod]
theorem pow_sq (s : Int) (k : Nat) : (s * s) ^ k = s ^ (2 * k) := by
  rw [Int.pow_mul]
  rw [show s ^ 2 = s * s from by rw [Int.pow_succ, Int.pow_succ, Int.pow_zero, Int.one_mul]]
theorem pow_even (a s p : Int) (k : Nat) : a * ((s * s % p) ^ k) % p = a * s ^ (2 * k) % p := by
  rw [Int.mul_emod, pm, ← Int.mul_emod, pow_sq]
theorem pow_odd (a s p : Int) (k : Nat) : (a * s % p) * ((s * s % p) ^ k) % p = a * s ^ (2 * k + 1) % p := by
  rw [Int.mul_emod, pm, Int.emod_emod, ← Int.mul_emod, pow_sq, Int.pow_succ, Int.mul_assoc, Int.mul_comm s]
theorem fdiv2 {k : Nat} : ((k : Nat) : Int).fdiv 2 = ((k / 2 : Nat) : Int) := by
  rw [Int.fdiv_eq_ediv_of_nonneg _ (by decide)]; omega
theorem pu_power_of (ds Q) (hl : ds.length = 3) (h : wf_power_of ds Q) : ws_power_of (edP Q) (enP N_power_of ds) := by
  obtain ⟨p, l, t, rfl, p1, p2, l1, l2, q⟩ := h
  simp only [ws_power_of, N_power_of, wWhile, wVar, wC, wOp, wUn, wCl, wB, wTr, wAnd, wOr, wNot, wAndV, wOrV, wNotV, wIf, wCh, wNil, wCons, wTup, wLe, wSz, wFn, wFnJ, wFnB, wFnJB, wBNil, wBCons, wBOwn, rsvP, rsvJ, wNext, wSeq, wRet, wRetN, wDrop, wIfS, wSet, wSetOwn, wNever, wAug, wOpO, wIxO, wOpR, wClO, wApp, wSetIt, wFrz, wFor, wRg1, wRg2, wSq, wEnum, wZip, wZipM, wZipS, wZipU, wgN, wgT, wgNil, wgCons, wYes, wAsgT, wgLs, wLenS, wIxS, wFnS, wFnJL, wFnX, wRaise, wRaiseF, wForFn, forFnW, wMet, hide, wIsi, wListOf, wRev, edP, edJ, enP, enJ, enS, NotOwn, Flat, List.map_cons, List.map_nil, List.length_cons, List.length_nil, List.replicate_succ, List.replicate_zero, List.cons_append, List.nil_append, List.append_nil, List.set_cons_zero, List.set_cons_succ, List.getElem?_cons_zero, List.getElem?_cons_succ, Nat.reduceAdd, Nat.reduceSub, Option.some.injEq, Sl.imm.injEq, Sl.own.injEq, Sl.scr.injEq, exists_eq_left, exists_eq_left', exists_eq_right, exists_eq, exists_eq', exists_and_left, and_assoc, and_true, true_and, ne_eq, not_false_eq_true, Nat.succ_ne_zero, or_true, true_or, true_implies, forall_eq', forall_eq, PyData.int.injEq, PyData.bool.injEq, PyData.list.injEq, PyData.tuple.injEq, List.cons.injEq, i_add, i_iadd, i_sub, i_mul, i_mod, i_fdiv, i_fdivG, i_pow, i_neg, i_le, i_ge, i_gt, i_lt, i_eq, i_ne, i_intI, i_intB, i_abs, i_max, i_min, i_lenL, i_lenT, i_ixL, i_ixT, i_tupL, i_tupT, i_truB, Bool.not_true, Bool.not_false, Bool.false_eq_true, if_true, if_false, reduceIte]
  refine ⟨fun m e => ∃ (a s : Int) (r : Nat), m = r ∧ 0 ≤ a ∧ a < p ∧ 0 ≤ s ∧ s < p ∧ a * s ^ r % p = l ^ t % p ∧ e = [.imm (.int p), .imm (.int l), .imm (.int t), .imm (.int a), .imm (.int s), .imm (.int r)], ⟨t, 1, l, t, rfl, by omega, by omega, l1, l2, by rw [Int.one_mul], rfl⟩, ?_⟩
  rintro m e ⟨a, s, r, rfl, a1, a2, s1, s2, he, rfl⟩
  simp only [fdiv2, wVar, wC, wOp, wUn, wCl, wB, wTr, wAnd, wOr, wNot, wAndV, wOrV, wNotV, wIf, wCh, wNil, wCons, wTup, wLe, wSz, wFn, wFnJ, wFnB, wFnJB, wBNil, wBCons, wBOwn, rsvP, rsvJ, wNext, wSeq, wRet, wRetN, wDrop, wIfS, wSet, wSetOwn, wNever, wAug, wOpO, wIxO, wOpR, wClO, wApp, wSetIt, wFrz, wFor, wRg1, wRg2, wSq, wEnum, wZip, wZipM, wZipS, wZipU, wgN, wgT, wgNil, wgCons, wYes, wAsgT, wgLs, wLenS, wIxS, wFnS, wFnJL, wFnX, wRaise, wRaiseF, wForFn, forFnW, wMet, hide, wIsi, wListOf, wRev, edP, edJ, enP, enJ, enS, NotOwn, Flat, List.map_cons, List.map_nil, List.length_cons, List.length_nil, List.replicate_succ, List.replicate_zero, List.cons_append, List.nil_append, List.append_nil, List.set_cons_zero, List.set_cons_succ, List.getElem?_cons_zero, List.getElem?_cons_succ, Nat.reduceAdd, Nat.reduceSub, Option.some.injEq, Sl.imm.injEq, Sl.own.injEq, Sl.scr.injEq, exists_eq_left, exists_eq_left', exists_eq_right, exists_eq, exists_eq', exists_and_left, and_assoc, and_true, true_and, ne_eq, not_false_eq_true, Nat.succ_ne_zero, or_true, true_or, true_implies, forall_eq', forall_eq, PyData.int.injEq, PyData.bool.injEq, PyData.list.injEq, PyData.tuple.injEq, List.cons.injEq, i_add, i_iadd, i_sub, i_mul, i_mod, i_fdiv, i_fdivG, i_pow, i_neg, i_le, i_ge, i_gt, i_lt, i_eq, i_ne, i_intI, i_intB, i_abs, i_max, i_min, i_lenL, i_lenT, i_ixL, i_ixT, i_tupL, i_tupT, i_truB, Bool.not_true, Bool.not_false, Bool.false_eq_true, if_true, if_false, reduceIte]
  have hp0 : 0 < p := by omega
  have g2 : ∀ i : Int, CDivG i 2 := fun i => divG (by decide) (log_lt (by decide) (by decide))
  by_cases h0 : 0 < m
  · rw [if_pos (by simpa using h0)]
    refine ⟨by decide, ?_⟩
    by_cases h1 : m % 2 = 1
    · rw [if_pos (by simp; omega)]
      refine ⟨small_l (by omega) (by omega), hp0, small_l (by omega) (by omega), hp0, g2 _, m / 2, by omega, a * s % p, Int.emod_nonneg _ (by omega), Int.emod_lt_of_pos _ hp0, s * s % p, Int.emod_nonneg _ (by omega), Int.emod_lt_of_pos _ hp0, ?_, rfl, rfl, rfl⟩
      rw [pow_odd, ← he, show 2 * (m / 2) + 1 = m by omega]
    · rw [if_neg (by simp; omega)]
      refine ⟨small_l (by omega) (by omega), hp0, g2 _, m / 2, by omega, a, a1, a2, s * s % p, Int.emod_nonneg _ (by omega), Int.emod_lt_of_pos _ hp0, ?_, rfl, rfl, rfl⟩
      rw [pow_even, ← he, show 2 * (m / 2) = m by omega]
  · rw [if_neg (by simpa using h0)]
    have : m = 0 := by omega
    subst this
    rw [Int.pow_zero, Int.mul_one, Int.emod_eq_of_lt a1 a2] at he
    rw [he]; exact q
theorem kit_tup (xs : List D) : kitB (tyName (.tuple xs)) "tuple" = some true := rfl
theorem sl200 {n : Nat} (h : n ≤ 200) : n ≤ sizeLine := Nat.le_trans h (by decide)
theorem pu_are_letters (ds Q) (hl : ds.length = 4) (h : wf_are_letters ds Q) : ws_are_letters (edP Q) (enP N_are_letters ds) := by
  obtain ⟨p, lo, hi, d, rfl, hz, q⟩ := h
  cases d with
  | tuple xs =>
    simp only [ws_are_letters, N_are_letters, kit_tup, wVar, wC, wOp, wUn, wCl, wB, wTr, wAnd, wOr, wNot, wAndV, wOrV, wNotV, wIf, wCh, wNil, wCons, wTup, wLe, wSz, wFn, wFnJ, wFnB, wFnJB, wBNil, wBCons, wBOwn, rsvP, rsvJ, wNext, wSeq, wRet, wRetN, wDrop, wIfS, wSet, wSetOwn, wNever, wAug, wOpO, wIxO, wOpR, wClO, wApp, wSetIt, wFrz, wFor, wRg1, wRg2, wSq, wEnum, wZip, wZipM, wZipS, wZipU, wgN, wgT, wgNil, wgCons, wYes, wAsgT, wgLs, wLenS, wIxS, wFnS, wFnJL, wFnX, wRaise, wRaiseF, wForFn, forFnW, wMet, hide, wIsi, wListOf, wRev, edP, edJ, enP, enJ, enS, NotOwn, Flat, List.map_cons, List.map_nil, List.length_cons, List.length_nil, List.replicate_succ, List.replicate_zero, List.cons_append, List.nil_append, List.append_nil, List.set_cons_zero, List.set_cons_succ, List.getElem?_cons_zero, List.getElem?_cons_succ, Nat.reduceAdd, Nat.reduceSub, Option.some.injEq, Sl.imm.injEq, Sl.own.injEq, Sl.scr.injEq, exists_eq_left, exists_eq_left', exists_eq_right, exists_eq, exists_eq', exists_and_left, and_assoc, and_true, true_and, ne_eq, not_false_eq_true, Nat.succ_ne_zero, or_true, true_or, true_implies, forall_eq', forall_eq, PyData.int.injEq, PyData.bool.injEq, PyData.list.injEq, PyData.tuple.injEq, List.cons.injEq, i_add, i_iadd, i_sub, i_mul, i_mod, i_fdiv, i_fdivG, i_pow, i_neg, i_le, i_ge, i_gt, i_lt, i_eq, i_ne, i_intI, i_intB, i_abs, i_max, i_min, i_lenL, i_lenT, i_ixL, i_ixT, i_tupL, i_tupT, i_truB, Bool.not_true, Bool.not_false, Bool.false_eq_true, if_true, if_false, reduceIte]
    rw [show letB p lo hi (.tuple xs) = ((decide (lo ≤ (xs.length : Int)) && decide ((xs.length : Int) ≤ hi)) && xs.all fun x => isBtw x 0 (p - 1)) from rfl] at q
    by_cases h1 : lo ≤ (xs.length : Int)
    · rw [decide_eq_true h1] at q ⊢
      simp -failIfUnchanged only [wVar, wC, wOp, wUn, wCl, wB, wTr, wAnd, wOr, wNot, wAndV, wOrV, wNotV, wIf, wCh, wNil, wCons, wTup, wLe, wSz, wFn, wFnJ, wFnB, wFnJB, wBNil, wBCons, wBOwn, rsvP, rsvJ, wNext, wRet, wRetN, wDrop, wIfS, wSet, wSetOwn, wNever, wAug, wOpO, wIxO, wOpR, wClO, wApp, wSetIt, wFrz, wFor, wRg1, wRg2, wSq, wEnum, wZip, wZipM, wZipS, wZipU, wgN, wgT, wgNil, wgCons, wYes, wAsgT, wgLs, wLenS, wIxS, wFnS, wFnJL, wFnX, wRaise, wRaiseF, wForFn, forFnW, wMet, hide, wIsi, wListOf, wRev, edP, edJ, enP, enJ, enS, NotOwn, Flat, List.map_cons, List.map_nil, List.length_cons, List.length_nil, List.replicate_succ, List.replicate_zero, List.cons_append, List.nil_append, List.append_nil, List.set_cons_zero, List.set_cons_succ, List.getElem?_cons_zero, List.getElem?_cons_succ, Nat.reduceAdd, Nat.reduceSub, Option.some.injEq, Sl.imm.injEq, Sl.own.injEq, Sl.scr.injEq, exists_eq_left, exists_eq_left', exists_eq_right, exists_eq, exists_eq', exists_and_left, and_assoc, and_true, true_and, ne_eq, not_false_eq_true, Nat.succ_ne_zero, or_true, true_or, true_implies, forall_eq', forall_eq, PyData.int.injEq, PyData.bool.injEq, PyData.list.injEq, PyData.tuple.injEq, List.cons.injEq, i_add, i_iadd, i_sub, i_mul, i_mod, i_fdiv, i_fdivG, i_pow, i_neg, i_le, i_ge, i_gt, i_lt, i_eq, i_ne, i_intI, i_intB, i_abs, i_max, i_min, i_lenL, i_lenT, i_ixL, i_ixT, i_tupL, i_tupT, i_truB, Bool.not_true, Bool.not_false, Bool.false_eq_true, if_true, if_false, reduceIte]
      by_cases h2 : (xs.length : Int) ≤ hi
      · rw [decide_eq_true h2] at q ⊢
        simp -failIfUnchanged only [wVar, wC, wOp, wUn, wCl, wB, wTr, wAnd, wOr, wNot, wAndV, wOrV, wNotV, wIf, wCh, wNil, wCons, wTup, wLe, wSz, wFn, wFnJ, wFnB, wFnJB, wBNil, wBCons, wBOwn, rsvP, rsvJ, wNext, wRet, wRetN, wDrop, wIfS, wSet, wSetOwn, wNever, wAug, wOpO, wIxO, wOpR, wClO, wApp, wSetIt, wFrz, wFor, wRg1, wRg2, wSq, wEnum, wZip, wZipM, wZipS, wZipU, wgN, wgT, wgNil, wgCons, wYes, wAsgT, wgLs, wLenS, wIxS, wFnS, wFnJL, wFnX, wRaise, wRaiseF, wForFn, forFnW, wMet, hide, wIsi, wListOf, wRev, edP, edJ, enP, enJ, enS, NotOwn, Flat, List.map_cons, List.map_nil, List.length_cons, List.length_nil, List.replicate_succ, List.replicate_zero, List.cons_append, List.nil_append, List.append_nil, List.set_cons_zero, List.set_cons_succ, List.getElem?_cons_zero, List.getElem?_cons_succ, Nat.reduceAdd, Nat.reduceSub, Option.some.injEq, Sl.imm.injEq, Sl.own.injEq, Sl.scr.injEq, exists_eq_left, exists_eq_left', exists_eq_right, exists_eq, exists_eq', exists_and_left, and_assoc, and_true, true_and, ne_eq, not_false_eq_true, Nat.succ_ne_zero, or_true, true_or, true_implies, forall_eq', forall_eq, PyData.int.injEq, PyData.bool.injEq, PyData.list.injEq, PyData.tuple.injEq, List.cons.injEq, i_add, i_iadd, i_sub, i_mul, i_mod, i_fdiv, i_fdivG, i_pow, i_neg, i_le, i_ge, i_gt, i_lt, i_eq, i_ne, i_intI, i_intB, i_abs, i_max, i_min, i_lenL, i_lenT, i_ixL, i_ixT, i_tupL, i_tupT, i_truB, Bool.not_true, Bool.not_false, Bool.false_eq_true, if_true, if_false, reduceIte]
        refine lc1 (f := fun x => .bool (isBtw x 0 (p - 1))) (xs := xs) (by decide) (fun Q q => ⟨_, rfl, _, Or.inr rfl, q⟩) trivial (sl200 (Nat.le_trans hz (by decide))) (fun x hx Q q => ?_) ?_
        · simp only [wf_is_between, wVar, wC, wOp, wUn, wCl, wB, wTr, wAnd, wOr, wNot, wAndV, wOrV, wNotV, wIf, wCh, wNil, wCons, wTup, wLe, wSz, wFn, wFnJ, wFnB, wFnJB, wBNil, wBCons, wBOwn, rsvP, rsvJ, wNext, wSeq, wRet, wRetN, wDrop, wIfS, wSet, wSetOwn, wNever, wAug, wOpO, wIxO, wOpR, wClO, wApp, wSetIt, wFrz, wFor, wRg1, wRg2, wSq, wEnum, wZip, wZipM, wZipS, wZipU, wgN, wgT, wgNil, wgCons, wYes, wAsgT, wgLs, wLenS, wIxS, wFnS, wFnJL, wFnX, wRaise, wRaiseF, wForFn, forFnW, wMet, hide, wIsi, wListOf, wRev, edP, edJ, enP, enJ, enS, NotOwn, Flat, List.map_cons, List.map_nil, List.length_cons, List.length_nil, List.replicate_succ, List.replicate_zero, List.cons_append, List.nil_append, List.append_nil, List.set_cons_zero, List.set_cons_succ, List.getElem?_cons_zero, List.getElem?_cons_succ, Nat.reduceAdd, Nat.reduceSub, Option.some.injEq, Sl.imm.injEq, Sl.own.injEq, Sl.scr.injEq, exists_eq_left, exists_eq_left', exists_eq_right, exists_eq, exists_eq', exists_and_left, and_assoc, and_true, true_and, ne_eq, not_false_eq_true, Nat.succ_ne_zero, or_true, true_or, true_implies, forall_eq', forall_eq, PyData.int.injEq, PyData.bool.injEq, PyData.list.injEq, PyData.tuple.injEq, List.cons.injEq, i_add, i_iadd, i_sub, i_mul, i_mod, i_fdiv, i_fdivG, i_pow, i_neg, i_le, i_ge, i_gt, i_lt, i_eq, i_ne, i_intI, i_intB, i_abs, i_max, i_min, i_lenL, i_lenT, i_ixL, i_ixT, i_tupL, i_tupT, i_truB, Bool.not_true, Bool.not_false, Bool.false_eq_true, if_true, if_false, reduceIte]
          exact q
        · exact ⟨_, all_map.mpr rfl, q⟩
      · rw [decide_eq_false h2] at q ⊢
        exact q
    · rw [decide_eq_false h1] at q ⊢
      exact q
  | none => simp only [ws_are_letters, N_are_letters, show kitB (tyName .none) "tuple" = some false from rfl, wVar, wC, wOp, wUn, wCl, wB, wTr, wAnd, wOr, wNot, wAndV, wOrV, wNotV, wIf, wCh, wNil, wCons, wTup, wLe, wSz, wFn, wFnJ, wFnB, wFnJB, wBNil, wBCons, wBOwn, rsvP, rsvJ, wNext, wSeq, wRet, wRetN, wDrop, wIfS, wSet, wSetOwn, wNever, wAug, wOpO, wIxO, wOpR, wClO, wApp, wSetIt, wFrz, wFor, wRg1, wRg2, wSq, wEnum, wZip, wZipM, wZipS, wZipU, wgN, wgT, wgNil, wgCons, wYes, wAsgT, wgLs, wLenS, wIxS, wFnS, wFnJL, wFnX, wRaise, wRaiseF, wForFn, forFnW, wMet, hide, wIsi, wListOf, wRev, edP, edJ, enP, enJ, enS, NotOwn, Flat, List.map_cons, List.map_nil, List.length_cons, List.length_nil, List.replicate_succ, List.replicate_zero, List.cons_append, List.nil_append, List.append_nil, List.set_cons_zero, List.set_cons_succ, List.getElem?_cons_zero, List.getElem?_cons_succ, Nat.reduceAdd, Nat.reduceSub, Option.some.injEq, Sl.imm.injEq, Sl.own.injEq, Sl.scr.injEq, exists_eq_left, exists_eq_left', exists_eq_right, exists_eq, exists_eq', exists_and_left, and_assoc, and_true, true_and, ne_eq, not_false_eq_true, Nat.succ_ne_zero, or_true, true_or, true_implies, forall_eq', forall_eq, PyData.int.injEq, PyData.bool.injEq, PyData.list.injEq, PyData.tuple.injEq, List.cons.injEq, i_add, i_iadd, i_sub, i_mul, i_mod, i_fdiv, i_fdivG, i_pow, i_neg, i_le, i_ge, i_gt, i_lt, i_eq, i_ne, i_intI, i_intB, i_abs, i_max, i_min, i_lenL, i_lenT, i_ixL, i_ixT, i_tupL, i_tupT, i_truB, Bool.not_true, Bool.not_false, Bool.false_eq_true, if_true, if_false, reduceIte]; exact q
  | bool b => simp only [ws_are_letters, N_are_letters, show kitB (tyName (.bool b)) "tuple" = some false from rfl, wVar, wC, wOp, wUn, wCl, wB, wTr, wAnd, wOr, wNot, wAndV, wOrV, wNotV, wIf, wCh, wNil, wCons, wTup, wLe, wSz, wFn, wFnJ, wFnB, wFnJB, wBNil, wBCons, wBOwn, rsvP, rsvJ, wNext, wSeq, wRet, wRetN, wDrop, wIfS, wSet, wSetOwn, wNever, wAug, wOpO, wIxO, wOpR, wClO, wApp, wSetIt, wFrz, wFor, wRg1, wRg2, wSq, wEnum, wZip, wZipM, wZipS, wZipU, wgN, wgT, wgNil, wgCons, wYes, wAsgT, wgLs, wLenS, wIxS, wFnS, wFnJL, wFnX, wRaise, wRaiseF, wForFn, forFnW, wMet, hide, wIsi, wListOf, wRev, edP, edJ, enP, enJ, enS, NotOwn, Flat, List.map_cons, List.map_nil, List.length_cons, List.length_nil, List.replicate_succ, List.replicate_zero, List.cons_append, List.nil_append, List.append_nil, List.set_cons_zero, List.set_cons_succ, List.getElem?_cons_zero, List.getElem?_cons_succ, Nat.reduceAdd, Nat.reduceSub, Option.some.injEq, Sl.imm.injEq, Sl.own.injEq, Sl.scr.injEq, exists_eq_left, exists_eq_left', exists_eq_right, exists_eq, exists_eq', exists_and_left, and_assoc, and_true, true_and, ne_eq, not_false_eq_true, Nat.succ_ne_zero, or_true, true_or, true_implies, forall_eq', forall_eq, PyData.int.injEq, PyData.bool.injEq, PyData.list.injEq, PyData.tuple.injEq, List.cons.injEq, i_add, i_iadd, i_sub, i_mul, i_mod, i_fdiv, i_fdivG, i_pow, i_neg, i_le, i_ge, i_gt, i_lt, i_eq, i_ne, i_intI, i_intB, i_abs, i_max, i_min, i_lenL, i_lenT, i_ixL, i_ixT, i_tupL, i_tupT, i_truB, Bool.not_true, Bool.not_false, Bool.false_eq_true, if_true, if_false, reduceIte]; exact q
  | int i => simp only [ws_are_letters, N_are_letters, show kitB (tyName (.int i)) "tuple" = some false from rfl, wVar, wC, wOp, wUn, wCl, wB, wTr, wAnd, wOr, wNot, wAndV, wOrV, wNotV, wIf, wCh, wNil, wCons, wTup, wLe, wSz, wFn, wFnJ, wFnB, wFnJB, wBNil, wBCons, wBOwn, rsvP, rsvJ, wNext, wSeq, wRet, wRetN, wDrop, wIfS, wSet, wSetOwn, wNever, wAug, wOpO, wIxO, wOpR, wClO, wApp, wSetIt, wFrz, wFor, wRg1, wRg2, wSq, wEnum, wZip, wZipM, wZipS, wZipU, wgN, wgT, wgNil, wgCons, wYes, wAsgT, wgLs, wLenS, wIxS, wFnS, wFnJL, wFnX, wRaise, wRaiseF, wForFn, forFnW, wMet, hide, wIsi, wListOf, wRev, edP, edJ, enP, enJ, enS, NotOwn, Flat, List.map_cons, List.map_nil, List.length_cons, List.length_nil, List.replicate_succ, List.replicate_zero, List.cons_append, List.nil_append, List.append_nil, List.set_cons_zero, List.set_cons_succ, List.getElem?_cons_zero, List.getElem?_cons_succ, Nat.reduceAdd, Nat.reduceSub, Option.some.injEq, Sl.imm.injEq, Sl.own.injEq, Sl.scr.injEq, exists_eq_left, exists_eq_left', exists_eq_right, exists_eq, exists_eq', exists_and_left, and_assoc, and_true, true_and, ne_eq, not_false_eq_true, Nat.succ_ne_zero, or_true, true_or, true_implies, forall_eq', forall_eq, PyData.int.injEq, PyData.bool.injEq, PyData.list.injEq, PyData.tuple.injEq, List.cons.injEq, i_add, i_iadd, i_sub, i_mul, i_mod, i_fdiv, i_fdivG, i_pow, i_neg, i_le, i_ge, i_gt, i_lt, i_eq, i_ne, i_intI, i_intB, i_abs, i_max, i_min, i_lenL, i_lenT, i_ixL, i_ixT, i_tupL, i_tupT, i_truB, Bool.not_true, Bool.not_false, Bool.false_eq_true, if_true, if_false, reduceIte]; exact q
  | str i => simp only [ws_are_letters, N_are_letters, show kitB (tyName (.str i)) "tuple" = some false from rfl, wVar, wC, wOp, wUn, wCl, wB, wTr, wAnd, wOr, wNot, wAndV, wOrV, wNotV, wIf, wCh, wNil, wCons, wTup, wLe, wSz, wFn, wFnJ, wFnB, wFnJB, wBNil, wBCons, wBOwn, rsvP, rsvJ, wNext, wSeq, wRet, wRetN, wDrop, wIfS, wSet, wSetOwn, wNever, wAug, wOpO, wIxO, wOpR, wClO, wApp, wSetIt, wFrz, wFor, wRg1, wRg2, wSq, wEnum, wZip, wZipM, wZipS, wZipU, wgN, wgT, wgNil, wgCons, wYes, wAsgT, wgLs, wLenS, wIxS, wFnS, wFnJL, wFnX, wRaise, wRaiseF, wForFn, forFnW, wMet, hide, wIsi, wListOf, wRev, edP, edJ, enP, enJ, enS, NotOwn, Flat, List.map_cons, List.map_nil, List.length_cons, List.length_nil, List.replicate_succ, List.replicate_zero, List.cons_append, List.nil_append, List.append_nil, List.set_cons_zero, List.set_cons_succ, List.getElem?_cons_zero, List.getElem?_cons_succ, Nat.reduceAdd, Nat.reduceSub, Option.some.injEq, Sl.imm.injEq, Sl.own.injEq, Sl.scr.injEq, exists_eq_left, exists_eq_left', exists_eq_right, exists_eq, exists_eq', exists_and_left, and_assoc, and_true, true_and, ne_eq, not_false_eq_true, Nat.succ_ne_zero, or_true, true_or, true_implies, forall_eq', forall_eq, PyData.int.injEq, PyData.bool.injEq, PyData.list.injEq, PyData.tuple.injEq, List.cons.injEq, i_add, i_iadd, i_sub, i_mul, i_mod, i_fdiv, i_fdivG, i_pow, i_neg, i_le, i_ge, i_gt, i_lt, i_eq, i_ne, i_intI, i_intB, i_abs, i_max, i_min, i_lenL, i_lenT, i_ixL, i_ixT, i_tupL, i_tupT, i_truB, Bool.not_true, Bool.not_false, Bool.false_eq_true, if_true, if_false, reduceIte]; exact q
  | list i => simp only [ws_are_letters, N_are_letters, show kitB (tyName (.list i)) "tuple" = some false from rfl, wVar, wC, wOp, wUn, wCl, wB, wTr, wAnd, wOr, wNot, wAndV, wOrV, wNotV, wIf, wCh, wNil, wCons, wTup, wLe, wSz, wFn, wFnJ, wFnB, wFnJB, wBNil, wBCons, wBOwn, rsvP, rsvJ, wNext, wSeq, wRet, wRetN, wDrop, wIfS, wSet, wSetOwn, wNever, wAug, wOpO, wIxO, wOpR, wClO, wApp, wSetIt, wFrz, wFor, wRg1, wRg2, wSq, wEnum, wZip, wZipM, wZipS, wZipU, wgN, wgT, wgNil, wgCons, wYes, wAsgT, wgLs, wLenS, wIxS, wFnS, wFnJL, wFnX, wRaise, wRaiseF, wForFn, forFnW, wMet, hide, wIsi, wListOf, wRev, edP, edJ, enP, enJ, enS, NotOwn, Flat, List.map_cons, List.map_nil, List.length_cons, List.length_nil, List.replicate_succ, List.replicate_zero, List.cons_append, List.nil_append, List.append_nil, List.set_cons_zero, List.set_cons_succ, List.getElem?_cons_zero, List.getElem?_cons_succ, Nat.reduceAdd, Nat.reduceSub, Option.some.injEq, Sl.imm.injEq, Sl.own.injEq, Sl.scr.injEq, exists_eq_left, exists_eq_left', exists_eq_right, exists_eq, exists_eq', exists_and_left, and_assoc, and_true, true_and, ne_eq, not_false_eq_true, Nat.succ_ne_zero, or_true, true_or, true_implies, forall_eq', forall_eq, PyData.int.injEq, PyData.bool.injEq, PyData.list.injEq, PyData.tuple.injEq, List.cons.injEq, i_add, i_iadd, i_sub, i_mul, i_mod, i_fdiv, i_fdivG, i_pow, i_neg, i_le, i_ge, i_gt, i_lt, i_eq, i_ne, i_intI, i_intB, i_abs, i_max, i_min, i_lenL, i_lenT, i_ixL, i_ixT, i_tupL, i_tupT, i_truB, Bool.not_true, Bool.not_false, Bool.false_eq_true, if_true, if_false, reduceIte]; exact q
  | dict i => simp only [ws_are_letters, N_are_letters, show kitB (tyName (.dict i)) "tuple" = some false from rfl, wVar, wC, wOp, wUn, wCl, wB, wTr, wAnd, wOr, wNot, wAndV, wOrV, wNotV, wIf, wCh, wNil, wCons, wTup, wLe, wSz, wFn, wFnJ, wFnB, wFnJB, wBNil, wBCons, wBOwn, rsvP, rsvJ, wNext, wSeq, wRet, wRetN, wDrop, wIfS, wSet, wSetOwn, wNever, wAug, wOpO, wIxO, wOpR, wClO, wApp, wSetIt, wFrz, wFor, wRg1, wRg2, wSq, wEnum, wZip, wZipM, wZipS, wZipU, wgN, wgT, wgNil, wgCons, wYes, wAsgT, wgLs, wLenS, wIxS, wFnS, wFnJL, wFnX, wRaise, wRaiseF, wForFn, forFnW, wMet, hide, wIsi, wListOf, wRev, edP, edJ, enP, enJ, enS, NotOwn, Flat, List.map_cons, List.map_nil, List.length_cons, List.length_nil, List.replicate_succ, List.replicate_zero, List.cons_append, List.nil_append, List.append_nil, List.set_cons_zero, List.set_cons_succ, List.getElem?_cons_zero, List.getElem?_cons_succ, Nat.reduceAdd, Nat.reduceSub, Option.some.injEq, Sl.imm.injEq, Sl.own.injEq, Sl.scr.injEq, exists_eq_left, exists_eq_left', exists_eq_right, exists_eq, exists_eq', exists_and_left, and_assoc, and_true, true_and, ne_eq, not_false_eq_true, Nat.succ_ne_zero, or_true, true_or, true_implies, forall_eq', forall_eq, PyData.int.injEq, PyData.bool.injEq, PyData.list.injEq, PyData.tuple.injEq, List.cons.injEq, i_add, i_iadd, i_sub, i_mul, i_mod, i_fdiv, i_fdivG, i_pow, i_neg, i_le, i_ge, i_gt, i_lt, i_eq, i_ne, i_intI, i_intB, i_abs, i_max, i_min, i_lenL, i_lenT, i_ixL, i_ixT, i_tupL, i_tupT, i_truB, Bool.not_true, Bool.not_false, Bool.false_eq_true, if_true, if_false, reduceIte]; exact q

theorem pu_check_prime (ds Q R) (hl : ds.length = 1) (h : wf_check_prime ds Q R) : ws_check_prime (fun e _ => R e) (edP Q) (enP N_check_prime ds) := by
  obtain ⟨d, rfl, h1, h2⟩ := h
  simp only [ws_check_prime, N_check_prime, wf_is_prime, wVar, wC, wOp, wUn, wCl, wB, wTr, wAnd, wOr, wNot, wAndV, wOrV, wNotV, wIf, wCh, wNil, wCons, wTup, wLe, wSz, wFn, wFnJ, wFnB, wFnJB, wBNil, wBCons, wBOwn, rsvP, rsvJ, wNext, wSeq, wRet, wRetN, wDrop, wIfS, wSet, wSetOwn, wNever, wAug, wOpO, wIxO, wOpR, wClO, wApp, wSetIt, wFrz, wFor, wRg1, wRg2, wSq, wEnum, wZip, wZipM, wZipS, wZipU, wgN, wgT, wgNil, wgCons, wYes, wAsgT, wgLs, wLenS, wIxS, wFnS, wFnJL, wFnX, wRaise, wRaiseF, wForFn, forFnW, wMet, hide, wIsi, wListOf, wRev, edP, edJ, enP, enJ, enS, NotOwn, Flat, List.map_cons, List.map_nil, List.length_cons, List.length_nil, List.replicate_succ, List.replicate_zero, List.cons_append, List.nil_append, List.append_nil, List.set_cons_zero, List.set_cons_succ, List.getElem?_cons_zero, List.getElem?_cons_succ, Nat.reduceAdd, Nat.reduceSub, Option.some.injEq, Sl.imm.injEq, Sl.own.injEq, Sl.scr.injEq, exists_eq_left, exists_eq_left', exists_eq_right, exists_eq, exists_eq', exists_and_left, and_assoc, and_true, true_and, ne_eq, not_false_eq_true, Nat.succ_ne_zero, or_true, true_or, true_implies, forall_eq', forall_eq, PyData.int.injEq, PyData.bool.injEq, PyData.list.injEq, PyData.tuple.injEq, List.cons.injEq, i_add, i_iadd, i_sub, i_mul, i_mod, i_fdiv, i_fdivG, i_pow, i_neg, i_le, i_ge, i_gt, i_lt, i_eq, i_ne, i_intI, i_intB, i_abs, i_max, i_min, i_lenL, i_lenT, i_ixL, i_ixT, i_tupL, i_tupT, i_truB, Bool.not_true, Bool.not_false, Bool.false_eq_true, if_true, if_false, reduceIte]
  cases h : isPD d with
  | true => exact h1 h
  | false => exact h2 h
theorem pu_check_between (ds Q R) (hl : ds.length = 3) (h : wf_check_between ds Q R) : ws_check_between (fun e _ => R e) (edP Q) (enP N_check_between ds) := by
  obtain ⟨d, a, b, rfl, h1, h2⟩ := h
  simp only [ws_check_between, N_check_between, wf_is_between, wVar, wC, wOp, wUn, wCl, wB, wTr, wAnd, wOr, wNot, wAndV, wOrV, wNotV, wIf, wCh, wNil, wCons, wTup, wLe, wSz, wFn, wFnJ, wFnB, wFnJB, wBNil, wBCons, wBOwn, rsvP, rsvJ, wNext, wSeq, wRet, wRetN, wDrop, wIfS, wSet, wSetOwn, wNever, wAug, wOpO, wIxO, wOpR, wClO, wApp, wSetIt, wFrz, wFor, wRg1, wRg2, wSq, wEnum, wZip, wZipM, wZipS, wZipU, wgN, wgT, wgNil, wgCons, wYes, wAsgT, wgLs, wLenS, wIxS, wFnS, wFnJL, wFnX, wRaise, wRaiseF, wForFn, forFnW, wMet, hide, wIsi, wListOf, wRev, edP, edJ, enP, enJ, enS, NotOwn, Flat, List.map_cons, List.map_nil, List.length_cons, List.length_nil, List.replicate_succ, List.replicate_zero, List.cons_append, List.nil_append, List.append_nil, List.set_cons_zero, List.set_cons_succ, List.getElem?_cons_zero, List.getElem?_cons_succ, Nat.reduceAdd, Nat.reduceSub, Option.some.injEq, Sl.imm.injEq, Sl.own.injEq, Sl.scr.injEq, exists_eq_left, exists_eq_left', exists_eq_right, exists_eq, exists_eq', exists_and_left, and_assoc, and_true, true_and, ne_eq, not_false_eq_true, Nat.succ_ne_zero, or_true, true_or, true_implies, forall_eq', forall_eq, PyData.int.injEq, PyData.bool.injEq, PyData.list.injEq, PyData.tuple.injEq, List.cons.injEq, i_add, i_iadd, i_sub, i_mul, i_mod, i_fdiv, i_fdivG, i_pow, i_neg, i_le, i_ge, i_gt, i_lt, i_eq, i_ne, i_intI, i_intB, i_abs, i_max, i_min, i_lenL, i_lenT, i_ixL, i_ixT, i_tupL, i_tupT, i_truB, Bool.not_true, Bool.not_false, Bool.false_eq_true, if_true, if_false, reduceIte]
  cases h : isBtw d a b with
  | true => exact h1 h
  | false => exact h2 h
theorem pu_check_letter (ds Q R) (hl : ds.length = 2) (h : wf_check_letter ds Q R) : ws_check_letter (fun e _ => R e) (edP Q) (enP N_check_letter ds) := by
  obtain ⟨p, d, rfl, h1, h2⟩ := h
  simp only [ws_check_letter, N_check_letter, wf_check_between, wVar, wC, wOp, wUn, wCl, wB, wTr, wAnd, wOr, wNot, wAndV, wOrV, wNotV, wIf, wCh, wNil, wCons, wTup, wLe, wSz, wFn, wFnJ, wFnB, wFnJB, wBNil, wBCons, wBOwn, rsvP, rsvJ, wNext, wSeq, wRet, wRetN, wDrop, wIfS, wSet, wSetOwn, wNever, wAug, wOpO, wIxO, wOpR, wClO, wApp, wSetIt, wFrz, wFor, wRg1, wRg2, wSq, wEnum, wZip, wZipM, wZipS, wZipU, wgN, wgT, wgNil, wgCons, wYes, wAsgT, wgLs, wLenS, wIxS, wFnS, wFnJL, wFnX, wRaise, wRaiseF, wForFn, forFnW, wMet, hide, wIsi, wListOf, wRev, edP, edJ, enP, enJ, enS, NotOwn, Flat, List.map_cons, List.map_nil, List.length_cons, List.length_nil, List.replicate_succ, List.replicate_zero, List.cons_append, List.nil_append, List.append_nil, List.set_cons_zero, List.set_cons_succ, List.getElem?_cons_zero, List.getElem?_cons_succ, Nat.reduceAdd, Nat.reduceSub, Option.some.injEq, Sl.imm.injEq, Sl.own.injEq, Sl.scr.injEq, exists_eq_left, exists_eq_left', exists_eq_right, exists_eq, exists_eq', exists_and_left, and_assoc, and_true, true_and, ne_eq, not_false_eq_true, Nat.succ_ne_zero, or_true, true_or, true_implies, forall_eq', forall_eq, PyData.int.injEq, PyData.bool.injEq, PyData.list.injEq, PyData.tuple.injEq, List.cons.injEq, i_add, i_iadd, i_sub, i_mul, i_mod, i_fdiv, i_fdivG, i_pow, i_neg, i_le, i_ge, i_gt, i_lt, i_eq, i_ne, i_intI, i_intB, i_abs, i_max, i_min, i_lenL, i_lenT, i_ixL, i_ixT, i_tupL, i_tupT, i_truB, Bool.not_true, Bool.not_false, Bool.false_eq_true, if_true, if_false, reduceIte]
  exact ⟨h1, h2⟩
theorem pu_inverse_of (ds Q) (hl : ds.length = 2) (h : wf_inverse_of ds Q) : ws_inverse_of (edP Q) (enP N_inverse_of ds) := h.elim
theorem pu_prime_divisors (ds Q) (hl : ds.length = 1) (h : wf_prime_divisors ds Q) : ws_prime_divisors (edP Q) (enP N_prime_divisors ds) := h.elim
theorem pu_is_root (ds Q) (hl : ds.length = 2) (h : wf_is_root ds Q) : ws_is_root (edP Q) (enP N_is_root ds) := h.elim
theorem pd_int {p : Int} (h : isP p = true) : isPD (.int p) = true := h
theorem pu_inverse (ds Q R) (hl : ds.length = 2) (h : wf_inverse ds Q R) : ws_inverse (fun e _ => R e) (edP Q) (enP N_inverse ds) := by
  obtain ⟨d, l, rfl, ⟨h, q⟩ | ⟨p, rfl, hp, ⟨h, q⟩ | ⟨rfl, q⟩⟩⟩ := h
  · unfold ws_inverse
    (try dsimp only); rw [wSeq_eq]; simp -failIfUnchanged only [N_inverse, wf_check_prime, wVar, wC, wOp, wUn, wCl, wB, wTr, wAnd, wOr, wNot, wAndV, wOrV, wNotV, wIf, wCh, wNil, wCons, wTup, wLe, wSz, wFn, wFnJ, wFnB, wFnJB, wBNil, wBCons, wBOwn, rsvP, rsvJ, wNext, wRet, wRetN, wDrop, wIfS, wSet, wSetOwn, wNever, wAug, wOpO, wIxO, wOpR, wClO, wApp, wSetIt, wFrz, wFor, wRg1, wRg2, wSq, wEnum, wZip, wZipM, wZipS, wZipU, wgN, wgT, wgNil, wgCons, wYes, wAsgT, wgLs, wLenS, wIxS, wFnS, wFnJL, wFnX, wRaise, wRaiseF, wForFn, forFnW, wMet, hide, wIsi, wListOf, wRev, edP, edJ, enP, enJ, enS, NotOwn, Flat, List.map_cons, List.map_nil, List.length_cons, List.length_nil, List.replicate_succ, List.replicate_zero, List.cons_append, List.nil_append, List.append_nil, List.set_cons_zero, List.set_cons_succ, List.getElem?_cons_zero, List.getElem?_cons_succ, Nat.reduceAdd, Nat.reduceSub, Option.some.injEq, Sl.imm.injEq, Sl.own.injEq, Sl.scr.injEq, exists_eq_left, exists_eq_left', exists_eq_right, exists_eq, exists_eq', exists_and_left, and_assoc, and_true, true_and, ne_eq, not_false_eq_true, Nat.succ_ne_zero, or_true, true_or, true_implies, forall_eq', forall_eq, PyData.int.injEq, PyData.bool.injEq, PyData.list.injEq, PyData.tuple.injEq, List.cons.injEq, i_add, i_iadd, i_sub, i_mul, i_mod, i_fdiv, i_fdivG, i_pow, i_neg, i_le, i_ge, i_gt, i_lt, i_eq, i_ne, i_intI, i_intB, i_abs, i_max, i_min, i_lenL, i_lenT, i_ixL, i_ixT, i_tupL, i_tupT, i_truB, Bool.not_true, Bool.not_false, Bool.false_eq_true, if_true, if_false, reduceIte]
    exact ⟨fun z => (by rw [h] at z; cases z), fun _ => q⟩
  · unfold ws_inverse
    (try dsimp only); rw [wSeq_eq]; simp -failIfUnchanged only [N_inverse, wf_check_prime, wVar, wC, wOp, wUn, wCl, wB, wTr, wAnd, wOr, wNot, wAndV, wOrV, wNotV, wIf, wCh, wNil, wCons, wTup, wLe, wSz, wFn, wFnJ, wFnB, wFnJB, wBNil, wBCons, wBOwn, rsvP, rsvJ, wNext, wRet, wRetN, wDrop, wIfS, wSet, wSetOwn, wNever, wAug, wOpO, wIxO, wOpR, wClO, wApp, wSetIt, wFrz, wFor, wRg1, wRg2, wSq, wEnum, wZip, wZipM, wZipS, wZipU, wgN, wgT, wgNil, wgCons, wYes, wAsgT, wgLs, wLenS, wIxS, wFnS, wFnJL, wFnX, wRaise, wRaiseF, wForFn, forFnW, wMet, hide, wIsi, wListOf, wRev, edP, edJ, enP, enJ, enS, NotOwn, Flat, List.map_cons, List.map_nil, List.length_cons, List.length_nil, List.replicate_succ, List.replicate_zero, List.cons_append, List.nil_append, List.append_nil, List.set_cons_zero, List.set_cons_succ, List.getElem?_cons_zero, List.getElem?_cons_succ, Nat.reduceAdd, Nat.reduceSub, Option.some.injEq, Sl.imm.injEq, Sl.own.injEq, Sl.scr.injEq, exists_eq_left, exists_eq_left', exists_eq_right, exists_eq, exists_eq', exists_and_left, and_assoc, and_true, true_and, ne_eq, not_false_eq_true, Nat.succ_ne_zero, or_true, true_or, true_implies, forall_eq', forall_eq, PyData.int.injEq, PyData.bool.injEq, PyData.list.injEq, PyData.tuple.injEq, List.cons.injEq, i_add, i_iadd, i_sub, i_mul, i_mod, i_fdiv, i_fdivG, i_pow, i_neg, i_le, i_ge, i_gt, i_lt, i_eq, i_ne, i_intI, i_intB, i_abs, i_max, i_min, i_lenL, i_lenT, i_ixL, i_ixT, i_tupL, i_tupT, i_truB, Bool.not_true, Bool.not_false, Bool.false_eq_true, if_true, if_false, reduceIte]
    refine ⟨fun _ => ?_, fun z => (by rw [pd_int hp] at z; cases z)⟩
    (try dsimp only); rw [wSeq_eq]; simp -failIfUnchanged only [wf_check_letter, wVar, wC, wOp, wUn, wCl, wB, wTr, wAnd, wOr, wNot, wAndV, wOrV, wNotV, wIf, wCh, wNil, wCons, wTup, wLe, wSz, wFn, wFnJ, wFnB, wFnJB, wBNil, wBCons, wBOwn, rsvP, rsvJ, wNext, wRet, wRetN, wDrop, wIfS, wSet, wSetOwn, wNever, wAug, wOpO, wIxO, wOpR, wClO, wApp, wSetIt, wFrz, wFor, wRg1, wRg2, wSq, wEnum, wZip, wZipM, wZipS, wZipU, wgN, wgT, wgNil, wgCons, wYes, wAsgT, wgLs, wLenS, wIxS, wFnS, wFnJL, wFnX, wRaise, wRaiseF, wForFn, forFnW, wMet, hide, wIsi, wListOf, wRev, edP, edJ, enP, enJ, enS, NotOwn, Flat, List.map_cons, List.map_nil, List.length_cons, List.length_nil, List.replicate_succ, List.replicate_zero, List.cons_append, List.nil_append, List.append_nil, List.set_cons_zero, List.set_cons_succ, List.getElem?_cons_zero, List.getElem?_cons_succ, Nat.reduceAdd, Nat.reduceSub, Option.some.injEq, Sl.imm.injEq, Sl.own.injEq, Sl.scr.injEq, exists_eq_left, exists_eq_left', exists_eq_right, exists_eq, exists_eq', exists_and_left, and_assoc, and_true, true_and, ne_eq, not_false_eq_true, Nat.succ_ne_zero, or_true, true_or, true_implies, forall_eq', forall_eq, PyData.int.injEq, PyData.bool.injEq, PyData.list.injEq, PyData.tuple.injEq, List.cons.injEq, i_add, i_iadd, i_sub, i_mul, i_mod, i_fdiv, i_fdivG, i_pow, i_neg, i_le, i_ge, i_gt, i_lt, i_eq, i_ne, i_intI, i_intB, i_abs, i_max, i_min, i_lenL, i_lenT, i_ixL, i_ixT, i_tupL, i_tupT, i_truB, Bool.not_true, Bool.not_false, Bool.false_eq_true, if_true, if_false, reduceIte]
    exact ⟨fun z => (by rw [h] at z; cases z), fun _ => q⟩
  · unfold ws_inverse
    (try dsimp only); rw [wSeq_eq]; simp -failIfUnchanged only [N_inverse, wf_check_prime, wVar, wC, wOp, wUn, wCl, wB, wTr, wAnd, wOr, wNot, wAndV, wOrV, wNotV, wIf, wCh, wNil, wCons, wTup, wLe, wSz, wFn, wFnJ, wFnB, wFnJB, wBNil, wBCons, wBOwn, rsvP, rsvJ, wNext, wRet, wRetN, wDrop, wIfS, wSet, wSetOwn, wNever, wAug, wOpO, wIxO, wOpR, wClO, wApp, wSetIt, wFrz, wFor, wRg1, wRg2, wSq, wEnum, wZip, wZipM, wZipS, wZipU, wgN, wgT, wgNil, wgCons, wYes, wAsgT, wgLs, wLenS, wIxS, wFnS, wFnJL, wFnX, wRaise, wRaiseF, wForFn, forFnW, wMet, hide, wIsi, wListOf, wRev, edP, edJ, enP, enJ, enS, NotOwn, Flat, List.map_cons, List.map_nil, List.length_cons, List.length_nil, List.replicate_succ, List.replicate_zero, List.cons_append, List.nil_append, List.append_nil, List.set_cons_zero, List.set_cons_succ, List.getElem?_cons_zero, List.getElem?_cons_succ, Nat.reduceAdd, Nat.reduceSub, Option.some.injEq, Sl.imm.injEq, Sl.own.injEq, Sl.scr.injEq, exists_eq_left, exists_eq_left', exists_eq_right, exists_eq, exists_eq', exists_and_left, and_assoc, and_true, true_and, ne_eq, not_false_eq_true, Nat.succ_ne_zero, or_true, true_or, true_implies, forall_eq', forall_eq, PyData.int.injEq, PyData.bool.injEq, PyData.list.injEq, PyData.tuple.injEq, List.cons.injEq, i_add, i_iadd, i_sub, i_mul, i_mod, i_fdiv, i_fdivG, i_pow, i_neg, i_le, i_ge, i_gt, i_lt, i_eq, i_ne, i_intI, i_intB, i_abs, i_max, i_min, i_lenL, i_lenT, i_ixL, i_ixT, i_tupL, i_tupT, i_truB, Bool.not_true, Bool.not_false, Bool.false_eq_true, if_true, if_false, reduceIte]
    refine ⟨fun _ => ?_, fun z => (by rw [pd_int hp] at z; cases z)⟩
    (try dsimp only); rw [wSeq_eq]; simp -failIfUnchanged only [wf_check_letter, wVar, wC, wOp, wUn, wCl, wB, wTr, wAnd, wOr, wNot, wAndV, wOrV, wNotV, wIf, wCh, wNil, wCons, wTup, wLe, wSz, wFn, wFnJ, wFnB, wFnJB, wBNil, wBCons, wBOwn, rsvP, rsvJ, wNext, wRet, wRetN, wDrop, wIfS, wSet, wSetOwn, wNever, wAug, wOpO, wIxO, wOpR, wClO, wApp, wSetIt, wFrz, wFor, wRg1, wRg2, wSq, wEnum, wZip, wZipM, wZipS, wZipU, wgN, wgT, wgNil, wgCons, wYes, wAsgT, wgLs, wLenS, wIxS, wFnS, wFnJL, wFnX, wRaise, wRaiseF, wForFn, forFnW, wMet, hide, wIsi, wListOf, wRev, edP, edJ, enP, enJ, enS, NotOwn, Flat, List.map_cons, List.map_nil, List.length_cons, List.length_nil, List.replicate_succ, List.replicate_zero, List.cons_append, List.nil_append, List.append_nil, List.set_cons_zero, List.set_cons_succ, List.getElem?_cons_zero, List.getElem?_cons_succ, Nat.reduceAdd, Nat.reduceSub, Option.some.injEq, Sl.imm.injEq, Sl.own.injEq, Sl.scr.injEq, exists_eq_left, exists_eq_left', exists_eq_right, exists_eq, exists_eq', exists_and_left, and_assoc, and_true, true_and, ne_eq, not_false_eq_true, Nat.succ_ne_zero, or_true, true_or, true_implies, forall_eq', forall_eq, PyData.int.injEq, PyData.bool.injEq, PyData.list.injEq, PyData.tuple.injEq, List.cons.injEq, i_add, i_iadd, i_sub, i_mul, i_mod, i_fdiv, i_fdivG, i_pow, i_neg, i_le, i_ge, i_gt, i_lt, i_eq, i_ne, i_intI, i_intB, i_abs, i_max, i_min, i_lenL, i_lenT, i_ixL, i_ixT, i_tupL, i_tupT, i_truB, Bool.not_true, Bool.not_false, Bool.false_eq_true, if_true, if_false, reduceIte]
    have hb : isBtw (.int 0) 0 (p - 1) = true := by rw [btw_int, decide_eq_true (by decide), decide_eq_true (by have := isP_le hp; omega)]; rfl
    refine ⟨fun _ => ?_, fun z => (by rw [hb] at z; cases z)⟩
    (try dsimp only); rw [wSeq_eq]; simp -failIfUnchanged only [wVar, wC, wOp, wUn, wCl, wB, wTr, wAnd, wOr, wNot, wAndV, wOrV, wNotV, wIf, wCh, wNil, wCons, wTup, wLe, wSz, wFn, wFnJ, wFnB, wFnJB, wBNil, wBCons, wBOwn, rsvP, rsvJ, wNext, wRet, wRetN, wDrop, wIfS, wSet, wSetOwn, wNever, wAug, wOpO, wIxO, wOpR, wClO, wApp, wSetIt, wFrz, wFor, wRg1, wRg2, wSq, wEnum, wZip, wZipM, wZipS, wZipU, wgN, wgT, wgNil, wgCons, wYes, wAsgT, wgLs, wLenS, wIxS, wFnS, wFnJL, wFnX, wRaise, wRaiseF, wForFn, forFnW, wMet, hide, wIsi, wListOf, wRev, edP, edJ, enP, enJ, enS, NotOwn, Flat, List.map_cons, List.map_nil, List.length_cons, List.length_nil, List.replicate_succ, List.replicate_zero, List.cons_append, List.nil_append, List.append_nil, List.set_cons_zero, List.set_cons_succ, List.getElem?_cons_zero, List.getElem?_cons_succ, Nat.reduceAdd, Nat.reduceSub, Option.some.injEq, Sl.imm.injEq, Sl.own.injEq, Sl.scr.injEq, exists_eq_left, exists_eq_left', exists_eq_right, exists_eq, exists_eq', exists_and_left, and_assoc, and_true, true_and, ne_eq, not_false_eq_true, Nat.succ_ne_zero, or_true, true_or, true_implies, forall_eq', forall_eq, PyData.int.injEq, PyData.bool.injEq, PyData.list.injEq, PyData.tuple.injEq, List.cons.injEq, i_add, i_iadd, i_sub, i_mul, i_mod, i_fdiv, i_fdivG, i_pow, i_neg, i_le, i_ge, i_gt, i_lt, i_eq, i_ne, i_intI, i_intB, i_abs, i_max, i_min, i_lenL, i_lenT, i_ixL, i_ixT, i_tupL, i_tupT, i_truB, Bool.not_true, Bool.not_false, Bool.false_eq_true, if_true, if_false, reduceIte]
    exact ⟨by decide, q⟩
theorem pu_root (ds Q R) (hl : ds.length = 1) (h : wf_root ds Q R) : ws_root (fun e _ => R e) (edP Q) (enP N_root ds) := by
  obtain ⟨d, rfl, h, q⟩ := h
  unfold ws_root
  (try dsimp only); rw [wSeq_eq]; simp -failIfUnchanged only [N_root, wf_check_prime, wVar, wC, wOp, wUn, wCl, wB, wTr, wAnd, wOr, wNot, wAndV, wOrV, wNotV, wIf, wCh, wNil, wCons, wTup, wLe, wSz, wFn, wFnJ, wFnB, wFnJB, wBNil, wBCons, wBOwn, rsvP, rsvJ, wNext, wRet, wRetN, wDrop, wIfS, wSet, wSetOwn, wNever, wAug, wOpO, wIxO, wOpR, wClO, wApp, wSetIt, wFrz, wFor, wRg1, wRg2, wSq, wEnum, wZip, wZipM, wZipS, wZipU, wgN, wgT, wgNil, wgCons, wYes, wAsgT, wgLs, wLenS, wIxS, wFnS, wFnJL, wFnX, wRaise, wRaiseF, wForFn, forFnW, wMet, hide, wIsi, wListOf, wRev, edP, edJ, enP, enJ, enS, NotOwn, Flat, List.map_cons, List.map_nil, List.length_cons, List.length_nil, List.replicate_succ, List.replicate_zero, List.cons_append, List.nil_append, List.append_nil, List.set_cons_zero, List.set_cons_succ, List.getElem?_cons_zero, List.getElem?_cons_succ, Nat.reduceAdd, Nat.reduceSub, Option.some.injEq, Sl.imm.injEq, Sl.own.injEq, Sl.scr.injEq, exists_eq_left, exists_eq_left', exists_eq_right, exists_eq, exists_eq', exists_and_left, and_assoc, and_true, true_and, ne_eq, not_false_eq_true, Nat.succ_ne_zero, or_true, true_or, true_implies, forall_eq', forall_eq, PyData.int.injEq, PyData.bool.injEq, PyData.list.injEq, PyData.tuple.injEq, List.cons.injEq, i_add, i_iadd, i_sub, i_mul, i_mod, i_fdiv, i_fdivG, i_pow, i_neg, i_le, i_ge, i_gt, i_lt, i_eq, i_ne, i_intI, i_intB, i_abs, i_max, i_min, i_lenL, i_lenT, i_ixL, i_ixT, i_tupL, i_tupT, i_truB, Bool.not_true, Bool.not_false, Bool.false_eq_true, if_true, if_false, reduceIte]
  exact ⟨fun z => (by rw [h] at z; cases z), fun _ => q⟩
theorem pu_exponent_of (ds Q R) (hl : ds.length = 3) (h : wf_exponent_of ds Q R) : ws_exponent_of (fun e _ => R e) (edP Q) (enP N_exponent_of ds) := by
  obtain ⟨d, b, l, rfl, ⟨h, q⟩ | ⟨p, rfl, hp, ⟨h, q⟩ | ⟨h0, h, q⟩⟩⟩ := h
  · unfold ws_exponent_of
    (try dsimp only); rw [wSeq_eq]; simp -failIfUnchanged only [N_exponent_of, wf_check_prime, wVar, wC, wOp, wUn, wCl, wB, wTr, wAnd, wOr, wNot, wAndV, wOrV, wNotV, wIf, wCh, wNil, wCons, wTup, wLe, wSz, wFn, wFnJ, wFnB, wFnJB, wBNil, wBCons, wBOwn, rsvP, rsvJ, wNext, wRet, wRetN, wDrop, wIfS, wSet, wSetOwn, wNever, wAug, wOpO, wIxO, wOpR, wClO, wApp, wSetIt, wFrz, wFor, wRg1, wRg2, wSq, wEnum, wZip, wZipM, wZipS, wZipU, wgN, wgT, wgNil, wgCons, wYes, wAsgT, wgLs, wLenS, wIxS, wFnS, wFnJL, wFnX, wRaise, wRaiseF, wForFn, forFnW, wMet, hide, wIsi, wListOf, wRev, edP, edJ, enP, enJ, enS, NotOwn, Flat, List.map_cons, List.map_nil, List.length_cons, List.length_nil, List.replicate_succ, List.replicate_zero, List.cons_append, List.nil_append, List.append_nil, List.set_cons_zero, List.set_cons_succ, List.getElem?_cons_zero, List.getElem?_cons_succ, Nat.reduceAdd, Nat.reduceSub, Option.some.injEq, Sl.imm.injEq, Sl.own.injEq, Sl.scr.injEq, exists_eq_left, exists_eq_left', exists_eq_right, exists_eq, exists_eq', exists_and_left, and_assoc, and_true, true_and, ne_eq, not_false_eq_true, Nat.succ_ne_zero, or_true, true_or, true_implies, forall_eq', forall_eq, PyData.int.injEq, PyData.bool.injEq, PyData.list.injEq, PyData.tuple.injEq, List.cons.injEq, i_add, i_iadd, i_sub, i_mul, i_mod, i_fdiv, i_fdivG, i_pow, i_neg, i_le, i_ge, i_gt, i_lt, i_eq, i_ne, i_intI, i_intB, i_abs, i_max, i_min, i_lenL, i_lenT, i_ixL, i_ixT, i_tupL, i_tupT, i_truB, Bool.not_true, Bool.not_false, Bool.false_eq_true, if_true, if_false, reduceIte]
    exact ⟨fun z => (by rw [h] at z; cases z), fun _ => q⟩
  · unfold ws_exponent_of
    (try dsimp only); rw [wSeq_eq]; simp -failIfUnchanged only [N_exponent_of, wf_check_prime, wVar, wC, wOp, wUn, wCl, wB, wTr, wAnd, wOr, wNot, wAndV, wOrV, wNotV, wIf, wCh, wNil, wCons, wTup, wLe, wSz, wFn, wFnJ, wFnB, wFnJB, wBNil, wBCons, wBOwn, rsvP, rsvJ, wNext, wRet, wRetN, wDrop, wIfS, wSet, wSetOwn, wNever, wAug, wOpO, wIxO, wOpR, wClO, wApp, wSetIt, wFrz, wFor, wRg1, wRg2, wSq, wEnum, wZip, wZipM, wZipS, wZipU, wgN, wgT, wgNil, wgCons, wYes, wAsgT, wgLs, wLenS, wIxS, wFnS, wFnJL, wFnX, wRaise, wRaiseF, wForFn, forFnW, wMet, hide, wIsi, wListOf, wRev, edP, edJ, enP, enJ, enS, NotOwn, Flat, List.map_cons, List.map_nil, List.length_cons, List.length_nil, List.replicate_succ, List.replicate_zero, List.cons_append, List.nil_append, List.append_nil, List.set_cons_zero, List.set_cons_succ, List.getElem?_cons_zero, List.getElem?_cons_succ, Nat.reduceAdd, Nat.reduceSub, Option.some.injEq, Sl.imm.injEq, Sl.own.injEq, Sl.scr.injEq, exists_eq_left, exists_eq_left', exists_eq_right, exists_eq, exists_eq', exists_and_left, and_assoc, and_true, true_and, ne_eq, not_false_eq_true, Nat.succ_ne_zero, or_true, true_or, true_implies, forall_eq', forall_eq, PyData.int.injEq, PyData.bool.injEq, PyData.list.injEq, PyData.tuple.injEq, List.cons.injEq, i_add, i_iadd, i_sub, i_mul, i_mod, i_fdiv, i_fdivG, i_pow, i_neg, i_le, i_ge, i_gt, i_lt, i_eq, i_ne, i_intI, i_intB, i_abs, i_max, i_min, i_lenL, i_lenT, i_ixL, i_ixT, i_tupL, i_tupT, i_truB, Bool.not_true, Bool.not_false, Bool.false_eq_true, if_true, if_false, reduceIte]
    refine ⟨fun _ => ?_, fun z => (by rw [pd_int hp] at z; cases z)⟩
    (try dsimp only); rw [wSeq_eq]; simp -failIfUnchanged only [wf_check_letter, wVar, wC, wOp, wUn, wCl, wB, wTr, wAnd, wOr, wNot, wAndV, wOrV, wNotV, wIf, wCh, wNil, wCons, wTup, wLe, wSz, wFn, wFnJ, wFnB, wFnJB, wBNil, wBCons, wBOwn, rsvP, rsvJ, wNext, wRet, wRetN, wDrop, wIfS, wSet, wSetOwn, wNever, wAug, wOpO, wIxO, wOpR, wClO, wApp, wSetIt, wFrz, wFor, wRg1, wRg2, wSq, wEnum, wZip, wZipM, wZipS, wZipU, wgN, wgT, wgNil, wgCons, wYes, wAsgT, wgLs, wLenS, wIxS, wFnS, wFnJL, wFnX, wRaise, wRaiseF, wForFn, forFnW, wMet, hide, wIsi, wListOf, wRev, edP, edJ, enP, enJ, enS, NotOwn, Flat, List.map_cons, List.map_nil, List.length_cons, List.length_nil, List.replicate_succ, List.replicate_zero, List.cons_append, List.nil_append, List.append_nil, List.set_cons_zero, List.set_cons_succ, List.getElem?_cons_zero, List.getElem?_cons_succ, Nat.reduceAdd, Nat.reduceSub, Option.some.injEq, Sl.imm.injEq, Sl.own.injEq, Sl.scr.injEq, exists_eq_left, exists_eq_left', exists_eq_right, exists_eq, exists_eq', exists_and_left, and_assoc, and_true, true_and, ne_eq, not_false_eq_true, Nat.succ_ne_zero, or_true, true_or, true_implies, forall_eq', forall_eq, PyData.int.injEq, PyData.bool.injEq, PyData.list.injEq, PyData.tuple.injEq, List.cons.injEq, i_add, i_iadd, i_sub, i_mul, i_mod, i_fdiv, i_fdivG, i_pow, i_neg, i_le, i_ge, i_gt, i_lt, i_eq, i_ne, i_intI, i_intB, i_abs, i_max, i_min, i_lenL, i_lenT, i_ixL, i_ixT, i_tupL, i_tupT, i_truB, Bool.not_true, Bool.not_false, Bool.false_eq_true, if_true, if_false, reduceIte]
    exact ⟨fun z => (by rw [h] at z; cases z), fun _ => q⟩
  · unfold ws_exponent_of
    (try dsimp only); rw [wSeq_eq]; simp -failIfUnchanged only [N_exponent_of, wf_check_prime, wVar, wC, wOp, wUn, wCl, wB, wTr, wAnd, wOr, wNot, wAndV, wOrV, wNotV, wIf, wCh, wNil, wCons, wTup, wLe, wSz, wFn, wFnJ, wFnB, wFnJB, wBNil, wBCons, wBOwn, rsvP, rsvJ, wNext, wRet, wRetN, wDrop, wIfS, wSet, wSetOwn, wNever, wAug, wOpO, wIxO, wOpR, wClO, wApp, wSetIt, wFrz, wFor, wRg1, wRg2, wSq, wEnum, wZip, wZipM, wZipS, wZipU, wgN, wgT, wgNil, wgCons, wYes, wAsgT, wgLs, wLenS, wIxS, wFnS, wFnJL, wFnX, wRaise, wRaiseF, wForFn, forFnW, wMet, hide, wIsi, wListOf, wRev, edP, edJ, enP, enJ, enS, NotOwn, Flat, List.map_cons, List.map_nil, List.length_cons, List.length_nil, List.replicate_succ, List.replicate_zero, List.cons_append, List.nil_append, List.append_nil, List.set_cons_zero, List.set_cons_succ, List.getElem?_cons_zero, List.getElem?_cons_succ, Nat.reduceAdd, Nat.reduceSub, Option.some.injEq, Sl.imm.injEq, Sl.own.injEq, Sl.scr.injEq, exists_eq_left, exists_eq_left', exists_eq_right, exists_eq, exists_eq', exists_and_left, and_assoc, and_true, true_and, ne_eq, not_false_eq_true, Nat.succ_ne_zero, or_true, true_or, true_implies, forall_eq', forall_eq, PyData.int.injEq, PyData.bool.injEq, PyData.list.injEq, PyData.tuple.injEq, List.cons.injEq, i_add, i_iadd, i_sub, i_mul, i_mod, i_fdiv, i_fdivG, i_pow, i_neg, i_le, i_ge, i_gt, i_lt, i_eq, i_ne, i_intI, i_intB, i_abs, i_max, i_min, i_lenL, i_lenT, i_ixL, i_ixT, i_tupL, i_tupT, i_truB, Bool.not_true, Bool.not_false, Bool.false_eq_true, if_true, if_false, reduceIte]
    refine ⟨fun _ => ?_, fun z => (by rw [pd_int hp] at z; cases z)⟩
    (try dsimp only); rw [wSeq_eq]; simp -failIfUnchanged only [wf_check_letter, wVar, wC, wOp, wUn, wCl, wB, wTr, wAnd, wOr, wNot, wAndV, wOrV, wNotV, wIf, wCh, wNil, wCons, wTup, wLe, wSz, wFn, wFnJ, wFnB, wFnJB, wBNil, wBCons, wBOwn, rsvP, rsvJ, wNext, wRet, wRetN, wDrop, wIfS, wSet, wSetOwn, wNever, wAug, wOpO, wIxO, wOpR, wClO, wApp, wSetIt, wFrz, wFor, wRg1, wRg2, wSq, wEnum, wZip, wZipM, wZipS, wZipU, wgN, wgT, wgNil, wgCons, wYes, wAsgT, wgLs, wLenS, wIxS, wFnS, wFnJL, wFnX, wRaise, wRaiseF, wForFn, forFnW, wMet, hide, wIsi, wListOf, wRev, edP, edJ, enP, enJ, enS, NotOwn, Flat, List.map_cons, List.map_nil, List.length_cons, List.length_nil, List.replicate_succ, List.replicate_zero, List.cons_append, List.nil_append, List.append_nil, List.set_cons_zero, List.set_cons_succ, List.getElem?_cons_zero, List.getElem?_cons_succ, Nat.reduceAdd, Nat.reduceSub, Option.some.injEq, Sl.imm.injEq, Sl.own.injEq, Sl.scr.injEq, exists_eq_left, exists_eq_left', exists_eq_right, exists_eq, exists_eq', exists_and_left, and_assoc, and_true, true_and, ne_eq, not_false_eq_true, Nat.succ_ne_zero, or_true, true_or, true_implies, forall_eq', forall_eq, PyData.int.injEq, PyData.bool.injEq, PyData.list.injEq, PyData.tuple.injEq, List.cons.injEq, i_add, i_iadd, i_sub, i_mul, i_mod, i_fdiv, i_fdivG, i_pow, i_neg, i_le, i_ge, i_gt, i_lt, i_eq, i_ne, i_intI, i_intB, i_abs, i_max, i_min, i_lenL, i_lenT, i_ixL, i_ixT, i_tupL, i_tupT, i_truB, Bool.not_true, Bool.not_false, Bool.false_eq_true, if_true, if_false, reduceIte]
    refine ⟨fun _ => ?_, fun z => (by rw [h0] at z; cases z)⟩
    (try dsimp only); rw [wSeq_eq]; simp -failIfUnchanged only [wf_check_letter, wVar, wC, wOp, wUn, wCl, wB, wTr, wAnd, wOr, wNot, wAndV, wOrV, wNotV, wIf, wCh, wNil, wCons, wTup, wLe, wSz, wFn, wFnJ, wFnB, wFnJB, wBNil, wBCons, wBOwn, rsvP, rsvJ, wNext, wRet, wRetN, wDrop, wIfS, wSet, wSetOwn, wNever, wAug, wOpO, wIxO, wOpR, wClO, wApp, wSetIt, wFrz, wFor, wRg1, wRg2, wSq, wEnum, wZip, wZipM, wZipS, wZipU, wgN, wgT, wgNil, wgCons, wYes, wAsgT, wgLs, wLenS, wIxS, wFnS, wFnJL, wFnX, wRaise, wRaiseF, wForFn, forFnW, wMet, hide, wIsi, wListOf, wRev, edP, edJ, enP, enJ, enS, NotOwn, Flat, List.map_cons, List.map_nil, List.length_cons, List.length_nil, List.replicate_succ, List.replicate_zero, List.cons_append, List.nil_append, List.append_nil, List.set_cons_zero, List.set_cons_succ, List.getElem?_cons_zero, List.getElem?_cons_succ, Nat.reduceAdd, Nat.reduceSub, Option.some.injEq, Sl.imm.injEq, Sl.own.injEq, Sl.scr.injEq, exists_eq_left, exists_eq_left', exists_eq_right, exists_eq, exists_eq', exists_and_left, and_assoc, and_true, true_and, ne_eq, not_false_eq_true, Nat.succ_ne_zero, or_true, true_or, true_implies, forall_eq', forall_eq, PyData.int.injEq, PyData.bool.injEq, PyData.list.injEq, PyData.tuple.injEq, List.cons.injEq, i_add, i_iadd, i_sub, i_mul, i_mod, i_fdiv, i_fdivG, i_pow, i_neg, i_le, i_ge, i_gt, i_lt, i_eq, i_ne, i_intI, i_intB, i_abs, i_max, i_min, i_lenL, i_lenT, i_ixL, i_ixT, i_tupL, i_tupT, i_truB, Bool.not_true, Bool.not_false, Bool.false_eq_true, if_true, if_false, reduceIte]
    exact ⟨fun z => (by rw [h] at z; cases z), fun _ => q⟩
theorem btw_get {d : D} {a b : Int} (h : isBtw d a b = true) : ∃ i : Int, d = .int i ∧ a ≤ i ∧ i ≤ b := by
  cases d with
  | int i =>
    rw [btw_int, Bool.and_eq_true, decide_eq_true_eq, decide_eq_true_eq] at h
    exact ⟨i, rfl, h.1, h.2⟩
  | _ => cases h
theorem pu_power (ds Q R) (hl : ds.length = 3) (h : wf_power ds Q R) : ws_power (fun e _ => R e) (edP Q) (enP N_power ds) := by
  obtain ⟨d, l, t, rfl, ⟨h, q⟩ | ⟨p, rfl, hp, ⟨h, q⟩ | ⟨h0, ⟨h, q⟩ | ⟨h, q⟩⟩⟩⟩ := h
  · unfold ws_power
    (try dsimp only); rw [wSeq_eq]; simp -failIfUnchanged only [N_power, wf_check_prime, wVar, wC, wOp, wUn, wCl, wB, wTr, wAnd, wOr, wNot, wAndV, wOrV, wNotV, wIf, wCh, wNil, wCons, wTup, wLe, wSz, wFn, wFnJ, wFnB, wFnJB, wBNil, wBCons, wBOwn, rsvP, rsvJ, wNext, wRet, wRetN, wDrop, wIfS, wSet, wSetOwn, wNever, wAug, wOpO, wIxO, wOpR, wClO, wApp, wSetIt, wFrz, wFor, wRg1, wRg2, wSq, wEnum, wZip, wZipM, wZipS, wZipU, wgN, wgT, wgNil, wgCons, wYes, wAsgT, wgLs, wLenS, wIxS, wFnS, wFnJL, wFnX, wRaise, wRaiseF, wForFn, forFnW, wMet, hide, wIsi, wListOf, wRev, edP, edJ, enP, enJ, enS, NotOwn, Flat, List.map_cons, List.map_nil, List.length_cons, List.length_nil, List.replicate_succ, List.replicate_zero, List.cons_append, List.nil_append, List.append_nil, List.set_cons_zero, List.set_cons_succ, List.getElem?_cons_zero, List.getElem?_cons_succ, Nat.reduceAdd, Nat.reduceSub, Option.some.injEq, Sl.imm.injEq, Sl.own.injEq, Sl.scr.injEq, exists_eq_left, exists_eq_left', exists_eq_right, exists_eq, exists_eq', exists_and_left, and_assoc, and_true, true_and, ne_eq, not_false_eq_true, Nat.succ_ne_zero, or_true, true_or, true_implies, forall_eq', forall_eq, PyData.int.injEq, PyData.bool.injEq, PyData.list.injEq, PyData.tuple.injEq, List.cons.injEq, i_add, i_iadd, i_sub, i_mul, i_mod, i_fdiv, i_fdivG, i_pow, i_neg, i_le, i_ge, i_gt, i_lt, i_eq, i_ne, i_intI, i_intB, i_abs, i_max, i_min, i_lenL, i_lenT, i_ixL, i_ixT, i_tupL, i_tupT, i_truB, Bool.not_true, Bool.not_false, Bool.false_eq_true, if_true, if_false, reduceIte]
    exact ⟨fun z => (by rw [h] at z; cases z), fun _ => q⟩
  · unfold ws_power
    (try dsimp only); rw [wSeq_eq]; simp -failIfUnchanged only [N_power, wf_check_prime, wVar, wC, wOp, wUn, wCl, wB, wTr, wAnd, wOr, wNot, wAndV, wOrV, wNotV, wIf, wCh, wNil, wCons, wTup, wLe, wSz, wFn, wFnJ, wFnB, wFnJB, wBNil, wBCons, wBOwn, rsvP, rsvJ, wNext, wRet, wRetN, wDrop, wIfS, wSet, wSetOwn, wNever, wAug, wOpO, wIxO, wOpR, wClO, wApp, wSetIt, wFrz, wFor, wRg1, wRg2, wSq, wEnum, wZip, wZipM, wZipS, wZipU, wgN, wgT, wgNil, wgCons, wYes, wAsgT, wgLs, wLenS, wIxS, wFnS, wFnJL, wFnX, wRaise, wRaiseF, wForFn, forFnW, wMet, hide, wIsi, wListOf, wRev, edP, edJ, enP, enJ, enS, NotOwn, Flat, List.map_cons, List.map_nil, List.length_cons, List.length_nil, List.replicate_succ, List.replicate_zero, List.cons_append, List.nil_append, List.append_nil, List.set_cons_zero, List.set_cons_succ, List.getElem?_cons_zero, List.getElem?_cons_succ, Nat.reduceAdd, Nat.reduceSub, Option.some.injEq, Sl.imm.injEq, Sl.own.injEq, Sl.scr.injEq, exists_eq_left, exists_eq_left', exists_eq_right, exists_eq, exists_eq', exists_and_left, and_assoc, and_true, true_and, ne_eq, not_false_eq_true, Nat.succ_ne_zero, or_true, true_or, true_implies, forall_eq', forall_eq, PyData.int.injEq, PyData.bool.injEq, PyData.list.injEq, PyData.tuple.injEq, List.cons.injEq, i_add, i_iadd, i_sub, i_mul, i_mod, i_fdiv, i_fdivG, i_pow, i_neg, i_le, i_ge, i_gt, i_lt, i_eq, i_ne, i_intI, i_intB, i_abs, i_max, i_min, i_lenL, i_lenT, i_ixL, i_ixT, i_tupL, i_tupT, i_truB, Bool.not_true, Bool.not_false, Bool.false_eq_true, if_true, if_false, reduceIte]
    refine ⟨fun _ => ?_, fun z => (by rw [pd_int hp] at z; cases z)⟩
    (try dsimp only); rw [wSeq_eq]; simp -failIfUnchanged only [wf_check_letter, wVar, wC, wOp, wUn, wCl, wB, wTr, wAnd, wOr, wNot, wAndV, wOrV, wNotV, wIf, wCh, wNil, wCons, wTup, wLe, wSz, wFn, wFnJ, wFnB, wFnJB, wBNil, wBCons, wBOwn, rsvP, rsvJ, wNext, wRet, wRetN, wDrop, wIfS, wSet, wSetOwn, wNever, wAug, wOpO, wIxO, wOpR, wClO, wApp, wSetIt, wFrz, wFor, wRg1, wRg2, wSq, wEnum, wZip, wZipM, wZipS, wZipU, wgN, wgT, wgNil, wgCons, wYes, wAsgT, wgLs, wLenS, wIxS, wFnS, wFnJL, wFnX, wRaise, wRaiseF, wForFn, forFnW, wMet, hide, wIsi, wListOf, wRev, edP, edJ, enP, enJ, enS, NotOwn, Flat, List.map_cons, List.map_nil, List.length_cons, List.length_nil, List.replicate_succ, List.replicate_zero, List.cons_append, List.nil_append, List.append_nil, List.set_cons_zero, List.set_cons_succ, List.getElem?_cons_zero, List.getElem?_cons_succ, Nat.reduceAdd, Nat.reduceSub, Option.some.injEq, Sl.imm.injEq, Sl.own.injEq, Sl.scr.injEq, exists_eq_left, exists_eq_left', exists_eq_right, exists_eq, exists_eq', exists_and_left, and_assoc, and_true, true_and, ne_eq, not_false_eq_true, Nat.succ_ne_zero, or_true, true_or, true_implies, forall_eq', forall_eq, PyData.int.injEq, PyData.bool.injEq, PyData.list.injEq, PyData.tuple.injEq, List.cons.injEq, i_add, i_iadd, i_sub, i_mul, i_mod, i_fdiv, i_fdivG, i_pow, i_neg, i_le, i_ge, i_gt, i_lt, i_eq, i_ne, i_intI, i_intB, i_abs, i_max, i_min, i_lenL, i_lenT, i_ixL, i_ixT, i_tupL, i_tupT, i_truB, Bool.not_true, Bool.not_false, Bool.false_eq_true, if_true, if_false, reduceIte]
    exact ⟨fun z => (by rw [h] at z; cases z), fun _ => q⟩
  · unfold ws_power
    (try dsimp only); rw [wSeq_eq]; simp -failIfUnchanged only [N_power, wf_check_prime, wVar, wC, wOp, wUn, wCl, wB, wTr, wAnd, wOr, wNot, wAndV, wOrV, wNotV, wIf, wCh, wNil, wCons, wTup, wLe, wSz, wFn, wFnJ, wFnB, wFnJB, wBNil, wBCons, wBOwn, rsvP, rsvJ, wNext, wRet, wRetN, wDrop, wIfS, wSet, wSetOwn, wNever, wAug, wOpO, wIxO, wOpR, wClO, wApp, wSetIt, wFrz, wFor, wRg1, wRg2, wSq, wEnum, wZip, wZipM, wZipS, wZipU, wgN, wgT, wgNil, wgCons, wYes, wAsgT, wgLs, wLenS, wIxS, wFnS, wFnJL, wFnX, wRaise, wRaiseF, wForFn, forFnW, wMet, hide, wIsi, wListOf, wRev, edP, edJ, enP, enJ, enS, NotOwn, Flat, List.map_cons, List.map_nil, List.length_cons, List.length_nil, List.replicate_succ, List.replicate_zero, List.cons_append, List.nil_append, List.append_nil, List.set_cons_zero, List.set_cons_succ, List.getElem?_cons_zero, List.getElem?_cons_succ, Nat.reduceAdd, Nat.reduceSub, Option.some.injEq, Sl.imm.injEq, Sl.own.injEq, Sl.scr.injEq, exists_eq_left, exists_eq_left', exists_eq_right, exists_eq, exists_eq', exists_and_left, and_assoc, and_true, true_and, ne_eq, not_false_eq_true, Nat.succ_ne_zero, or_true, true_or, true_implies, forall_eq', forall_eq, PyData.int.injEq, PyData.bool.injEq, PyData.list.injEq, PyData.tuple.injEq, List.cons.injEq, i_add, i_iadd, i_sub, i_mul, i_mod, i_fdiv, i_fdivG, i_pow, i_neg, i_le, i_ge, i_gt, i_lt, i_eq, i_ne, i_intI, i_intB, i_abs, i_max, i_min, i_lenL, i_lenT, i_ixL, i_ixT, i_tupL, i_tupT, i_truB, Bool.not_true, Bool.not_false, Bool.false_eq_true, if_true, if_false, reduceIte]
    refine ⟨fun _ => ?_, fun z => (by rw [pd_int hp] at z; cases z)⟩
    (try dsimp only); rw [wSeq_eq]; simp -failIfUnchanged only [wf_check_letter, wVar, wC, wOp, wUn, wCl, wB, wTr, wAnd, wOr, wNot, wAndV, wOrV, wNotV, wIf, wCh, wNil, wCons, wTup, wLe, wSz, wFn, wFnJ, wFnB, wFnJB, wBNil, wBCons, wBOwn, rsvP, rsvJ, wNext, wRet, wRetN, wDrop, wIfS, wSet, wSetOwn, wNever, wAug, wOpO, wIxO, wOpR, wClO, wApp, wSetIt, wFrz, wFor, wRg1, wRg2, wSq, wEnum, wZip, wZipM, wZipS, wZipU, wgN, wgT, wgNil, wgCons, wYes, wAsgT, wgLs, wLenS, wIxS, wFnS, wFnJL, wFnX, wRaise, wRaiseF, wForFn, forFnW, wMet, hide, wIsi, wListOf, wRev, edP, edJ, enP, enJ, enS, NotOwn, Flat, List.map_cons, List.map_nil, List.length_cons, List.length_nil, List.replicate_succ, List.replicate_zero, List.cons_append, List.nil_append, List.append_nil, List.set_cons_zero, List.set_cons_succ, List.getElem?_cons_zero, List.getElem?_cons_succ, Nat.reduceAdd, Nat.reduceSub, Option.some.injEq, Sl.imm.injEq, Sl.own.injEq, Sl.scr.injEq, exists_eq_left, exists_eq_left', exists_eq_right, exists_eq, exists_eq', exists_and_left, and_assoc, and_true, true_and, ne_eq, not_false_eq_true, Nat.succ_ne_zero, or_true, true_or, true_implies, forall_eq', forall_eq, PyData.int.injEq, PyData.bool.injEq, PyData.list.injEq, PyData.tuple.injEq, List.cons.injEq, i_add, i_iadd, i_sub, i_mul, i_mod, i_fdiv, i_fdivG, i_pow, i_neg, i_le, i_ge, i_gt, i_lt, i_eq, i_ne, i_intI, i_intB, i_abs, i_max, i_min, i_lenL, i_lenT, i_ixL, i_ixT, i_tupL, i_tupT, i_truB, Bool.not_true, Bool.not_false, Bool.false_eq_true, if_true, if_false, reduceIte]
    refine ⟨fun _ => ?_, fun z => (by rw [h0] at z; cases z)⟩
    (try dsimp only); rw [wSeq_eq]; simp -failIfUnchanged only [wf_check_between, wVar, wC, wOp, wUn, wCl, wB, wTr, wAnd, wOr, wNot, wAndV, wOrV, wNotV, wIf, wCh, wNil, wCons, wTup, wLe, wSz, wFn, wFnJ, wFnB, wFnJB, wBNil, wBCons, wBOwn, rsvP, rsvJ, wNext, wRet, wRetN, wDrop, wIfS, wSet, wSetOwn, wNever, wAug, wOpO, wIxO, wOpR, wClO, wApp, wSetIt, wFrz, wFor, wRg1, wRg2, wSq, wEnum, wZip, wZipM, wZipS, wZipU, wgN, wgT, wgNil, wgCons, wYes, wAsgT, wgLs, wLenS, wIxS, wFnS, wFnJL, wFnX, wRaise, wRaiseF, wForFn, forFnW, wMet, hide, wIsi, wListOf, wRev, edP, edJ, enP, enJ, enS, NotOwn, Flat, List.map_cons, List.map_nil, List.length_cons, List.length_nil, List.replicate_succ, List.replicate_zero, List.cons_append, List.nil_append, List.append_nil, List.set_cons_zero, List.set_cons_succ, List.getElem?_cons_zero, List.getElem?_cons_succ, Nat.reduceAdd, Nat.reduceSub, Option.some.injEq, Sl.imm.injEq, Sl.own.injEq, Sl.scr.injEq, exists_eq_left, exists_eq_left', exists_eq_right, exists_eq, exists_eq', exists_and_left, and_assoc, and_true, true_and, ne_eq, not_false_eq_true, Nat.succ_ne_zero, or_true, true_or, true_implies, forall_eq', forall_eq, PyData.int.injEq, PyData.bool.injEq, PyData.list.injEq, PyData.tuple.injEq, List.cons.injEq, i_add, i_iadd, i_sub, i_mul, i_mod, i_fdiv, i_fdivG, i_pow, i_neg, i_le, i_ge, i_gt, i_lt, i_eq, i_ne, i_intI, i_intB, i_abs, i_max, i_min, i_lenL, i_lenT, i_ixL, i_ixT, i_tupL, i_tupT, i_truB, Bool.not_true, Bool.not_false, Bool.false_eq_true, if_true, if_false, reduceIte]
    exact ⟨fun z => (by rw [h] at z; cases z), fun _ => q⟩
  · unfold ws_power
    (try dsimp only); rw [wSeq_eq]; simp -failIfUnchanged only [N_power, wf_check_prime, wVar, wC, wOp, wUn, wCl, wB, wTr, wAnd, wOr, wNot, wAndV, wOrV, wNotV, wIf, wCh, wNil, wCons, wTup, wLe, wSz, wFn, wFnJ, wFnB, wFnJB, wBNil, wBCons, wBOwn, rsvP, rsvJ, wNext, wRet, wRetN, wDrop, wIfS, wSet, wSetOwn, wNever, wAug, wOpO, wIxO, wOpR, wClO, wApp, wSetIt, wFrz, wFor, wRg1, wRg2, wSq, wEnum, wZip, wZipM, wZipS, wZipU, wgN, wgT, wgNil, wgCons, wYes, wAsgT, wgLs, wLenS, wIxS, wFnS, wFnJL, wFnX, wRaise, wRaiseF, wForFn, forFnW, wMet, hide, wIsi, wListOf, wRev, edP, edJ, enP, enJ, enS, NotOwn, Flat, List.map_cons, List.map_nil, List.length_cons, List.length_nil, List.replicate_succ, List.replicate_zero, List.cons_append, List.nil_append, List.append_nil, List.set_cons_zero, List.set_cons_succ, List.getElem?_cons_zero, List.getElem?_cons_succ, Nat.reduceAdd, Nat.reduceSub, Option.some.injEq, Sl.imm.injEq, Sl.own.injEq, Sl.scr.injEq, exists_eq_left, exists_eq_left', exists_eq_right, exists_eq, exists_eq', exists_and_left, and_assoc, and_true, true_and, ne_eq, not_false_eq_true, Nat.succ_ne_zero, or_true, true_or, true_implies, forall_eq', forall_eq, PyData.int.injEq, PyData.bool.injEq, PyData.list.injEq, PyData.tuple.injEq, List.cons.injEq, i_add, i_iadd, i_sub, i_mul, i_mod, i_fdiv, i_fdivG, i_pow, i_neg, i_le, i_ge, i_gt, i_lt, i_eq, i_ne, i_intI, i_intB, i_abs, i_max, i_min, i_lenL, i_lenT, i_ixL, i_ixT, i_tupL, i_tupT, i_truB, Bool.not_true, Bool.not_false, Bool.false_eq_true, if_true, if_false, reduceIte]
    refine ⟨fun _ => ?_, fun z => (by rw [pd_int hp] at z; cases z)⟩
    (try dsimp only); rw [wSeq_eq]; simp -failIfUnchanged only [wf_check_letter, wVar, wC, wOp, wUn, wCl, wB, wTr, wAnd, wOr, wNot, wAndV, wOrV, wNotV, wIf, wCh, wNil, wCons, wTup, wLe, wSz, wFn, wFnJ, wFnB, wFnJB, wBNil, wBCons, wBOwn, rsvP, rsvJ, wNext, wRet, wRetN, wDrop, wIfS, wSet, wSetOwn, wNever, wAug, wOpO, wIxO, wOpR, wClO, wApp, wSetIt, wFrz, wFor, wRg1, wRg2, wSq, wEnum, wZip, wZipM, wZipS, wZipU, wgN, wgT, wgNil, wgCons, wYes, wAsgT, wgLs, wLenS, wIxS, wFnS, wFnJL, wFnX, wRaise, wRaiseF, wForFn, forFnW, wMet, hide, wIsi, wListOf, wRev, edP, edJ, enP, enJ, enS, NotOwn, Flat, List.map_cons, List.map_nil, List.length_cons, List.length_nil, List.replicate_succ, List.replicate_zero, List.cons_append, List.nil_append, List.append_nil, List.set_cons_zero, List.set_cons_succ, List.getElem?_cons_zero, List.getElem?_cons_succ, Nat.reduceAdd, Nat.reduceSub, Option.some.injEq, Sl.imm.injEq, Sl.own.injEq, Sl.scr.injEq, exists_eq_left, exists_eq_left', exists_eq_right, exists_eq, exists_eq', exists_and_left, and_assoc, and_true, true_and, ne_eq, not_false_eq_true, Nat.succ_ne_zero, or_true, true_or, true_implies, forall_eq', forall_eq, PyData.int.injEq, PyData.bool.injEq, PyData.list.injEq, PyData.tuple.injEq, List.cons.injEq, i_add, i_iadd, i_sub, i_mul, i_mod, i_fdiv, i_fdivG, i_pow, i_neg, i_le, i_ge, i_gt, i_lt, i_eq, i_ne, i_intI, i_intB, i_abs, i_max, i_min, i_lenL, i_lenT, i_ixL, i_ixT, i_tupL, i_tupT, i_truB, Bool.not_true, Bool.not_false, Bool.false_eq_true, if_true, if_false, reduceIte]
    refine ⟨fun _ => ?_, fun z => (by rw [h0] at z; cases z)⟩
    (try dsimp only); rw [wSeq_eq]; simp -failIfUnchanged only [wf_check_between, wVar, wC, wOp, wUn, wCl, wB, wTr, wAnd, wOr, wNot, wAndV, wOrV, wNotV, wIf, wCh, wNil, wCons, wTup, wLe, wSz, wFn, wFnJ, wFnB, wFnJB, wBNil, wBCons, wBOwn, rsvP, rsvJ, wNext, wRet, wRetN, wDrop, wIfS, wSet, wSetOwn, wNever, wAug, wOpO, wIxO, wOpR, wClO, wApp, wSetIt, wFrz, wFor, wRg1, wRg2, wSq, wEnum, wZip, wZipM, wZipS, wZipU, wgN, wgT, wgNil, wgCons, wYes, wAsgT, wgLs, wLenS, wIxS, wFnS, wFnJL, wFnX, wRaise, wRaiseF, wForFn, forFnW, wMet, hide, wIsi, wListOf, wRev, edP, edJ, enP, enJ, enS, NotOwn, Flat, List.map_cons, List.map_nil, List.length_cons, List.length_nil, List.replicate_succ, List.replicate_zero, List.cons_append, List.nil_append, List.append_nil, List.set_cons_zero, List.set_cons_succ, List.getElem?_cons_zero, List.getElem?_cons_succ, Nat.reduceAdd, Nat.reduceSub, Option.some.injEq, Sl.imm.injEq, Sl.own.injEq, Sl.scr.injEq, exists_eq_left, exists_eq_left', exists_eq_right, exists_eq, exists_eq', exists_and_left, and_assoc, and_true, true_and, ne_eq, not_false_eq_true, Nat.succ_ne_zero, or_true, true_or, true_implies, forall_eq', forall_eq, PyData.int.injEq, PyData.bool.injEq, PyData.list.injEq, PyData.tuple.injEq, List.cons.injEq, i_add, i_iadd, i_sub, i_mul, i_mod, i_fdiv, i_fdivG, i_pow, i_neg, i_le, i_ge, i_gt, i_lt, i_eq, i_ne, i_intI, i_intB, i_abs, i_max, i_min, i_lenL, i_lenT, i_ixL, i_ixT, i_tupL, i_tupT, i_truB, Bool.not_true, Bool.not_false, Bool.false_eq_true, if_true, if_false, reduceIte]
    refine ⟨fun _ => ?_, fun z => (by rw [h] at z; cases z)⟩
    obtain ⟨i, rfl, i1, i2⟩ := btw_get h0
    obtain ⟨j, rfl, j1, j2⟩ := btw_get h
    simp -failIfUnchanged only [wVar, wC, wOp, wUn, wCl, wB, wTr, wAnd, wOr, wNot, wAndV, wOrV, wNotV, wIf, wCh, wNil, wCons, wTup, wLe, wSz, wFn, wFnJ, wFnB, wFnJB, wBNil, wBCons, wBOwn, rsvP, rsvJ, wNext, wRet, wRetN, wDrop, wIfS, wSet, wSetOwn, wNever, wAug, wOpO, wIxO, wOpR, wClO, wApp, wSetIt, wFrz, wFor, wRg1, wRg2, wSq, wEnum, wZip, wZipM, wZipS, wZipU, wgN, wgT, wgNil, wgCons, wYes, wAsgT, wgLs, wLenS, wIxS, wFnS, wFnJL, wFnX, wRaise, wRaiseF, wForFn, forFnW, wMet, hide, wIsi, wListOf, wRev, edP, edJ, enP, enJ, enS, NotOwn, Flat, List.map_cons, List.map_nil, List.length_cons, List.length_nil, List.replicate_succ, List.replicate_zero, List.cons_append, List.nil_append, List.append_nil, List.set_cons_zero, List.set_cons_succ, List.getElem?_cons_zero, List.getElem?_cons_succ, Nat.reduceAdd, Nat.reduceSub, Option.some.injEq, Sl.imm.injEq, Sl.own.injEq, Sl.scr.injEq, exists_eq_left, exists_eq_left', exists_eq_right, exists_eq, exists_eq', exists_and_left, and_assoc, and_true, true_and, ne_eq, not_false_eq_true, Nat.succ_ne_zero, or_true, true_or, true_implies, forall_eq', forall_eq, PyData.int.injEq, PyData.bool.injEq, PyData.list.injEq, PyData.tuple.injEq, List.cons.injEq, i_add, i_iadd, i_sub, i_mul, i_mod, i_fdiv, i_fdivG, i_pow, i_neg, i_le, i_ge, i_gt, i_lt, i_eq, i_ne, i_intI, i_intB, i_abs, i_max, i_min, i_lenL, i_lenT, i_ixL, i_ixT, i_tupL, i_tupT, i_truB, Bool.not_true, Bool.not_false, Bool.false_eq_true, if_true, if_false, reduceIte]
    obtain ⟨p1, p2⟩ := isP_le hp
    exact ⟨p, i, j.toNat, (by rw [Int.toNat_of_nonneg j1]), p1, p2, i1, by omega, q _⟩
theorem pu_number_at (ds Q R) (hl : ds.length = 2) (h : wf_number_at ds Q R) : ws_number_at (fun e _ => R e) (edP Q) (enP N_number_at ds) := by
  obtain ⟨d, l, rfl, ⟨h, q⟩ | ⟨p, rfl, hp, hz, h⟩⟩ := h
  · unfold ws_number_at
    (try dsimp only); rw [wSeq_eq]; simp -failIfUnchanged only [N_number_at, wf_check_prime, wVar, wC, wOp, wUn, wCl, wB, wTr, wAnd, wOr, wNot, wAndV, wOrV, wNotV, wIf, wCh, wNil, wCons, wTup, wLe, wSz, wFn, wFnJ, wFnB, wFnJB, wBNil, wBCons, wBOwn, rsvP, rsvJ, wNext, wRet, wRetN, wDrop, wIfS, wSet, wSetOwn, wNever, wAug, wOpO, wIxO, wOpR, wClO, wApp, wSetIt, wFrz, wFor, wRg1, wRg2, wSq, wEnum, wZip, wZipM, wZipS, wZipU, wgN, wgT, wgNil, wgCons, wYes, wAsgT, wgLs, wLenS, wIxS, wFnS, wFnJL, wFnX, wRaise, wRaiseF, wForFn, forFnW, wMet, hide, wIsi, wListOf, wRev, edP, edJ, enP, enJ, enS, NotOwn, Flat, List.map_cons, List.map_nil, List.length_cons, List.length_nil, List.replicate_succ, List.replicate_zero, List.cons_append, List.nil_append, List.append_nil, List.set_cons_zero, List.set_cons_succ, List.getElem?_cons_zero, List.getElem?_cons_succ, Nat.reduceAdd, Nat.reduceSub, Option.some.injEq, Sl.imm.injEq, Sl.own.injEq, Sl.scr.injEq, exists_eq_left, exists_eq_left', exists_eq_right, exists_eq, exists_eq', exists_and_left, and_assoc, and_true, true_and, ne_eq, not_false_eq_true, Nat.succ_ne_zero, or_true, true_or, true_implies, forall_eq', forall_eq, PyData.int.injEq, PyData.bool.injEq, PyData.list.injEq, PyData.tuple.injEq, List.cons.injEq, i_add, i_iadd, i_sub, i_mul, i_mod, i_fdiv, i_fdivG, i_pow, i_neg, i_le, i_ge, i_gt, i_lt, i_eq, i_ne, i_intI, i_intB, i_abs, i_max, i_min, i_lenL, i_lenT, i_ixL, i_ixT, i_tupL, i_tupT, i_truB, Bool.not_true, Bool.not_false, Bool.false_eq_true, if_true, if_false, reduceIte]
    exact ⟨fun z => (by rw [h] at z; cases z), fun _ => q⟩
  · unfold ws_number_at
    (try dsimp only); rw [wSeq_eq]; simp -failIfUnchanged only [N_number_at, wf_check_prime, wVar, wC, wOp, wUn, wCl, wB, wTr, wAnd, wOr, wNot, wAndV, wOrV, wNotV, wIf, wCh, wNil, wCons, wTup, wLe, wSz, wFn, wFnJ, wFnB, wFnJB, wBNil, wBCons, wBOwn, rsvP, rsvJ, wNext, wRet, wRetN, wDrop, wIfS, wSet, wSetOwn, wNever, wAug, wOpO, wIxO, wOpR, wClO, wApp, wSetIt, wFrz, wFor, wRg1, wRg2, wSq, wEnum, wZip, wZipM, wZipS, wZipU, wgN, wgT, wgNil, wgCons, wYes, wAsgT, wgLs, wLenS, wIxS, wFnS, wFnJL, wFnX, wRaise, wRaiseF, wForFn, forFnW, wMet, hide, wIsi, wListOf, wRev, edP, edJ, enP, enJ, enS, NotOwn, Flat, List.map_cons, List.map_nil, List.length_cons, List.length_nil, List.replicate_succ, List.replicate_zero, List.cons_append, List.nil_append, List.append_nil, List.set_cons_zero, List.set_cons_succ, List.getElem?_cons_zero, List.getElem?_cons_succ, Nat.reduceAdd, Nat.reduceSub, Option.some.injEq, Sl.imm.injEq, Sl.own.injEq, Sl.scr.injEq, exists_eq_left, exists_eq_left', exists_eq_right, exists_eq, exists_eq', exists_and_left, and_assoc, and_true, true_and, ne_eq, not_false_eq_true, Nat.succ_ne_zero, or_true, true_or, true_implies, forall_eq', forall_eq, PyData.int.injEq, PyData.bool.injEq, PyData.list.injEq, PyData.tuple.injEq, List.cons.injEq, i_add, i_iadd, i_sub, i_mul, i_mod, i_fdiv, i_fdivG, i_pow, i_neg, i_le, i_ge, i_gt, i_lt, i_eq, i_ne, i_intI, i_intB, i_abs, i_max, i_min, i_lenL, i_lenT, i_ixL, i_ixT, i_tupL, i_tupT, i_truB, Bool.not_true, Bool.not_false, Bool.false_eq_true, if_true, if_false, reduceIte]
    refine ⟨fun _ => ?_, fun z => (by rw [pd_int hp] at z; cases z)⟩
    (try dsimp only); rw [wSeq_eq]; simp -failIfUnchanged only [wf_are_letters, wVar, wC, wOp, wUn, wCl, wB, wTr, wAnd, wOr, wNot, wAndV, wOrV, wNotV, wIf, wCh, wNil, wCons, wTup, wLe, wSz, wFn, wFnJ, wFnB, wFnJB, wBNil, wBCons, wBOwn, rsvP, rsvJ, wNext, wRet, wRetN, wDrop, wIfS, wSet, wSetOwn, wNever, wAug, wOpO, wIxO, wOpR, wClO, wApp, wSetIt, wFrz, wFor, wRg1, wRg2, wSq, wEnum, wZip, wZipM, wZipS, wZipU, wgN, wgT, wgNil, wgCons, wYes, wAsgT, wgLs, wLenS, wIxS, wFnS, wFnJL, wFnX, wRaise, wRaiseF, wForFn, forFnW, wMet, hide, wIsi, wListOf, wRev, edP, edJ, enP, enJ, enS, NotOwn, Flat, List.map_cons, List.map_nil, List.length_cons, List.length_nil, List.replicate_succ, List.replicate_zero, List.cons_append, List.nil_append, List.append_nil, List.set_cons_zero, List.set_cons_succ, List.getElem?_cons_zero, List.getElem?_cons_succ, Nat.reduceAdd, Nat.reduceSub, Option.some.injEq, Sl.imm.injEq, Sl.own.injEq, Sl.scr.injEq, exists_eq_left, exists_eq_left', exists_eq_right, exists_eq, exists_eq', exists_and_left, and_assoc, and_true, true_and, ne_eq, not_false_eq_true, Nat.succ_ne_zero, or_true, true_or, true_implies, forall_eq', forall_eq, PyData.int.injEq, PyData.bool.injEq, PyData.list.injEq, PyData.tuple.injEq, List.cons.injEq, i_add, i_iadd, i_sub, i_mul, i_mod, i_fdiv, i_fdivG, i_pow, i_neg, i_le, i_ge, i_gt, i_lt, i_eq, i_ne, i_intI, i_intB, i_abs, i_max, i_min, i_lenL, i_lenT, i_ixL, i_ixT, i_tupL, i_tupT, i_truB, Bool.not_true, Bool.not_false, Bool.false_eq_true, if_true, if_false, reduceIte]
    refine ⟨hz, ?_⟩
    rcases h with ⟨h, q⟩ | ⟨h, q⟩
    · rw [h]
      exact q
    · rw [h]
      simp -failIfUnchanged only [wVar, wC, wOp, wUn, wCl, wB, wTr, wAnd, wOr, wNot, wAndV, wOrV, wNotV, wIf, wCh, wNil, wCons, wTup, wLe, wSz, wFn, wFnJ, wFnB, wFnJB, wBNil, wBCons, wBOwn, rsvP, rsvJ, wNext, wRet, wRetN, wDrop, wIfS, wSet, wSetOwn, wNever, wAug, wOpO, wIxO, wOpR, wClO, wApp, wSetIt, wFrz, wFor, wRg1, wRg2, wSq, wEnum, wZip, wZipM, wZipS, wZipU, wgN, wgT, wgNil, wgCons, wYes, wAsgT, wgLs, wLenS, wIxS, wFnS, wFnJL, wFnX, wRaise, wRaiseF, wForFn, forFnW, wMet, hide, wIsi, wListOf, wRev, edP, edJ, enP, enJ, enS, NotOwn, Flat, List.map_cons, List.map_nil, List.length_cons, List.length_nil, List.replicate_succ, List.replicate_zero, List.cons_append, List.nil_append, List.append_nil, List.set_cons_zero, List.set_cons_succ, List.getElem?_cons_zero, List.getElem?_cons_succ, Nat.reduceAdd, Nat.reduceSub, Option.some.injEq, Sl.imm.injEq, Sl.own.injEq, Sl.scr.injEq, exists_eq_left, exists_eq_left', exists_eq_right, exists_eq, exists_eq', exists_and_left, and_assoc, and_true, true_and, ne_eq, not_false_eq_true, Nat.succ_ne_zero, or_true, true_or, true_implies, forall_eq', forall_eq, PyData.int.injEq, PyData.bool.injEq, PyData.list.injEq, PyData.tuple.injEq, List.cons.injEq, i_add, i_iadd, i_sub, i_mul, i_mod, i_fdiv, i_fdivG, i_pow, i_neg, i_le, i_ge, i_gt, i_lt, i_eq, i_ne, i_intI, i_intB, i_abs, i_max, i_min, i_lenL, i_lenT, i_ixL, i_ixT, i_tupL, i_tupT, i_truB, Bool.not_true, Bool.not_false, Bool.false_eq_true, if_true, if_false, reduceIte]
      cases l with
      | tuple xs =>
        have hx : ∀ x ∈ xs, ∃ i : Int, x = .int i := fun x hx => by
          have h' : ((decide (0 ≤ (xs.length : Int)) && decide ((xs.length : Int) ≤ 100)) && xs.all fun x => isBtw x 0 (p - 1)) = true := h
          rw [Bool.and_eq_true, List.all_eq_true] at h'
          obtain ⟨i, hi, _⟩ := btw_get (h'.2 x hx)
          exact ⟨i, hi⟩
        (try dsimp only); rw [wSeq_eq]; simp -failIfUnchanged only [wVar, wC, wOp, wUn, wCl, wB, wTr, wAnd, wOr, wNot, wAndV, wOrV, wNotV, wIf, wCh, wNil, wCons, wTup, wLe, wSz, wFn, wFnJ, wFnB, wFnJB, wBNil, wBCons, wBOwn, rsvP, rsvJ, wNext, wRet, wRetN, wDrop, wIfS, wSet, wSetOwn, wNever, wAug, wOpO, wIxO, wOpR, wClO, wApp, wSetIt, wFrz, wFor, wRg1, wRg2, wSq, wEnum, wZip, wZipM, wZipS, wZipU, wgN, wgT, wgNil, wgCons, wYes, wAsgT, wgLs, wLenS, wIxS, wFnS, wFnJL, wFnX, wRaise, wRaiseF, wForFn, forFnW, wMet, hide, wIsi, wListOf, wRev, edP, edJ, enP, enJ, enS, NotOwn, Flat, List.map_cons, List.map_nil, List.length_cons, List.length_nil, List.replicate_succ, List.replicate_zero, List.cons_append, List.nil_append, List.append_nil, List.set_cons_zero, List.set_cons_succ, List.getElem?_cons_zero, List.getElem?_cons_succ, Nat.reduceAdd, Nat.reduceSub, Option.some.injEq, Sl.imm.injEq, Sl.own.injEq, Sl.scr.injEq, exists_eq_left, exists_eq_left', exists_eq_right, exists_eq, exists_eq', exists_and_left, and_assoc, and_true, true_and, ne_eq, not_false_eq_true, Nat.succ_ne_zero, or_true, true_or, true_implies, forall_eq', forall_eq, PyData.int.injEq, PyData.bool.injEq, PyData.list.injEq, PyData.tuple.injEq, List.cons.injEq, i_add, i_iadd, i_sub, i_mul, i_mod, i_fdiv, i_fdivG, i_pow, i_neg, i_le, i_ge, i_gt, i_lt, i_eq, i_ne, i_intI, i_intB, i_abs, i_max, i_min, i_lenL, i_lenT, i_ixL, i_ixT, i_tupL, i_tupT, i_truB, Bool.not_true, Bool.not_false, Bool.false_eq_true, if_true, if_false, reduceIte]
        (try dsimp only); rw [wSeq_eq]; simp -failIfUnchanged only [wVar, wC, wOp, wUn, wCl, wB, wTr, wAnd, wOr, wNot, wAndV, wOrV, wNotV, wIf, wCh, wNil, wCons, wTup, wLe, wSz, wFn, wFnJ, wFnB, wFnJB, wBNil, wBCons, wBOwn, rsvP, rsvJ, wNext, wRet, wRetN, wDrop, wIfS, wSet, wSetOwn, wNever, wAug, wOpO, wIxO, wOpR, wClO, wApp, wSetIt, wFrz, wFor, wRg1, wRg2, wSq, wEnum, wZip, wZipM, wZipS, wZipU, wgN, wgT, wgNil, wgCons, wYes, wAsgT, wgLs, wLenS, wIxS, wFnS, wFnJL, wFnX, wRaise, wRaiseF, wForFn, forFnW, wMet, hide, wIsi, wListOf, wRev, edP, edJ, enP, enJ, enS, NotOwn, Flat, List.map_cons, List.map_nil, List.length_cons, List.length_nil, List.replicate_succ, List.replicate_zero, List.cons_append, List.nil_append, List.append_nil, List.set_cons_zero, List.set_cons_succ, List.getElem?_cons_zero, List.getElem?_cons_succ, Nat.reduceAdd, Nat.reduceSub, Option.some.injEq, Sl.imm.injEq, Sl.own.injEq, Sl.scr.injEq, exists_eq_left, exists_eq_left', exists_eq_right, exists_eq, exists_eq', exists_and_left, and_assoc, and_true, true_and, ne_eq, not_false_eq_true, Nat.succ_ne_zero, or_true, true_or, true_implies, forall_eq', forall_eq, PyData.int.injEq, PyData.bool.injEq, PyData.list.injEq, PyData.tuple.injEq, List.cons.injEq, i_add, i_iadd, i_sub, i_mul, i_mod, i_fdiv, i_fdivG, i_pow, i_neg, i_le, i_ge, i_gt, i_lt, i_eq, i_ne, i_intI, i_intB, i_abs, i_max, i_min, i_lenL, i_lenT, i_ixL, i_ixT, i_tupL, i_tupT, i_truB, Bool.not_true, Bool.not_false, Bool.false_eq_true, if_true, if_false, reduceIte]
        refine ⟨xs, Or.inr rfl, ?_⟩
        obtain ⟨p1, p2⟩ := isP_le hp
        have key : ∀ (ys : List D), (∀ x ∈ ys, ∃ i : Int, x = .int i) → ∀ (z : Int) (x : Sl), forW (wgN 3) (wSet 2 (wOp dAdd (wOp dMul (wVar 2) (wVar 0)) (wVar 3))) { nx := (wRet (wVar 2)) { nx := fun x => Q PyData.none, rt := fun d x => Q d }, rt := fun d x => Q d } ys [.imm (.int p), .imm (.tuple xs), .imm (.int z), x] := by
          intro ys
          induction ys with
          | nil =>
            intro _ z x
            simp only [forW, wVar, wC, wOp, wUn, wCl, wB, wTr, wAnd, wOr, wNot, wAndV, wOrV, wNotV, wIf, wCh, wNil, wCons, wTup, wLe, wSz, wFn, wFnJ, wFnB, wFnJB, wBNil, wBCons, wBOwn, rsvP, rsvJ, wNext, wSeq, wRet, wRetN, wDrop, wIfS, wSet, wSetOwn, wNever, wAug, wOpO, wIxO, wOpR, wClO, wApp, wSetIt, wFrz, wFor, wRg1, wRg2, wSq, wEnum, wZip, wZipM, wZipS, wZipU, wgN, wgT, wgNil, wgCons, wYes, wAsgT, wgLs, wLenS, wIxS, wFnS, wFnJL, wFnX, wRaise, wRaiseF, wForFn, forFnW, wMet, hide, wIsi, wListOf, wRev, edP, edJ, enP, enJ, enS, NotOwn, Flat, List.map_cons, List.map_nil, List.length_cons, List.length_nil, List.replicate_succ, List.replicate_zero, List.cons_append, List.nil_append, List.append_nil, List.set_cons_zero, List.set_cons_succ, List.getElem?_cons_zero, List.getElem?_cons_succ, Nat.reduceAdd, Nat.reduceSub, Option.some.injEq, Sl.imm.injEq, Sl.own.injEq, Sl.scr.injEq, exists_eq_left, exists_eq_left', exists_eq_right, exists_eq, exists_eq', exists_and_left, and_assoc, and_true, true_and, ne_eq, not_false_eq_true, Nat.succ_ne_zero, or_true, true_or, true_implies, forall_eq', forall_eq, PyData.int.injEq, PyData.bool.injEq, PyData.list.injEq, PyData.tuple.injEq, List.cons.injEq, i_add, i_iadd, i_sub, i_mul, i_mod, i_fdiv, i_fdivG, i_pow, i_neg, i_le, i_ge, i_gt, i_lt, i_eq, i_ne, i_intI, i_intB, i_abs, i_max, i_min, i_lenL, i_lenT, i_ixL, i_ixT, i_tupL, i_tupT, i_truB, Bool.not_true, Bool.not_false, Bool.false_eq_true, if_true, if_false, reduceIte]
            exact q _
          | cons y ys ih =>
            intro hy z x
            obtain ⟨i, rfl⟩ := hy y List.mem_cons_self
            simp only [forW, wVar, wC, wOp, wUn, wCl, wB, wTr, wAnd, wOr, wNot, wAndV, wOrV, wNotV, wIf, wCh, wNil, wCons, wTup, wLe, wSz, wFn, wFnJ, wFnB, wFnJB, wBNil, wBCons, wBOwn, rsvP, rsvJ, wNext, wSeq, wRet, wRetN, wDrop, wIfS, wSet, wSetOwn, wNever, wAug, wOpO, wIxO, wOpR, wClO, wApp, wSetIt, wFrz, wFor, wRg1, wRg2, wSq, wEnum, wZip, wZipM, wZipS, wZipU, wgN, wgT, wgNil, wgCons, wYes, wAsgT, wgLs, wLenS, wIxS, wFnS, wFnJL, wFnX, wRaise, wRaiseF, wForFn, forFnW, wMet, hide, wIsi, wListOf, wRev, edP, edJ, enP, enJ, enS, NotOwn, Flat, List.map_cons, List.map_nil, List.length_cons, List.length_nil, List.replicate_succ, List.replicate_zero, List.cons_append, List.nil_append, List.append_nil, List.set_cons_zero, List.set_cons_succ, List.getElem?_cons_zero, List.getElem?_cons_succ, Nat.reduceAdd, Nat.reduceSub, Option.some.injEq, Sl.imm.injEq, Sl.own.injEq, Sl.scr.injEq, exists_eq_left, exists_eq_left', exists_eq_right, exists_eq, exists_eq', exists_and_left, and_assoc, and_true, true_and, ne_eq, not_false_eq_true, Nat.succ_ne_zero, or_true, true_or, true_implies, forall_eq', forall_eq, PyData.int.injEq, PyData.bool.injEq, PyData.list.injEq, PyData.tuple.injEq, List.cons.injEq, i_add, i_iadd, i_sub, i_mul, i_mod, i_fdiv, i_fdivG, i_pow, i_neg, i_le, i_ge, i_gt, i_lt, i_eq, i_ne, i_intI, i_intB, i_abs, i_max, i_min, i_lenL, i_lenT, i_ixL, i_ixT, i_tupL, i_tupT, i_truB, Bool.not_true, Bool.not_false, Bool.false_eq_true, if_true, if_false, reduceIte]
            exact ⟨small_r (by omega) (by omega), ih (fun y h => hy y (List.mem_cons_of_mem _ h)) _ _⟩
        exact key xs hx 0 _
      | _ => cases h
theorem pu_next_prime (ds Q R) (hl : ds.length = 1) (h : wf_next_prime ds Q R) : ws_next_prime (fun e _ => R e) (edP Q) (enP N_next_prime ds) := by
  obtain ⟨d, rfl, ⟨h, q⟩ | ⟨rfl, q⟩⟩ := h
  · unfold ws_next_prime
    (try dsimp only); rw [wSeq_eq]; simp -failIfUnchanged only [N_next_prime, wf_check_between, wVar, wC, wOp, wUn, wCl, wB, wTr, wAnd, wOr, wNot, wAndV, wOrV, wNotV, wIf, wCh, wNil, wCons, wTup, wLe, wSz, wFn, wFnJ, wFnB, wFnJB, wBNil, wBCons, wBOwn, rsvP, rsvJ, wNext, wRet, wRetN, wDrop, wIfS, wSet, wSetOwn, wNever, wAug, wOpO, wIxO, wOpR, wClO, wApp, wSetIt, wFrz, wFor, wRg1, wRg2, wSq, wEnum, wZip, wZipM, wZipS, wZipU, wgN, wgT, wgNil, wgCons, wYes, wAsgT, wgLs, wLenS, wIxS, wFnS, wFnJL, wFnX, wRaise, wRaiseF, wForFn, forFnW, wMet, hide, wIsi, wListOf, wRev, edP, edJ, enP, enJ, enS, NotOwn, Flat, List.map_cons, List.map_nil, List.length_cons, List.length_nil, List.replicate_succ, List.replicate_zero, List.cons_append, List.nil_append, List.append_nil, List.set_cons_zero, List.set_cons_succ, List.getElem?_cons_zero, List.getElem?_cons_succ, Nat.reduceAdd, Nat.reduceSub, Option.some.injEq, Sl.imm.injEq, Sl.own.injEq, Sl.scr.injEq, exists_eq_left, exists_eq_left', exists_eq_right, exists_eq, exists_eq', exists_and_left, and_assoc, and_true, true_and, ne_eq, not_false_eq_true, Nat.succ_ne_zero, or_true, true_or, true_implies, forall_eq', forall_eq, PyData.int.injEq, PyData.bool.injEq, PyData.list.injEq, PyData.tuple.injEq, List.cons.injEq, i_add, i_iadd, i_sub, i_mul, i_mod, i_fdiv, i_fdivG, i_pow, i_neg, i_le, i_ge, i_gt, i_lt, i_eq, i_ne, i_intI, i_intB, i_abs, i_max, i_min, i_lenL, i_lenT, i_ixL, i_ixT, i_tupL, i_tupT, i_truB, Bool.not_true, Bool.not_false, Bool.false_eq_true, if_true, if_false, reduceIte]
    exact ⟨fun z => (by rw [h] at z; cases z), fun _ => q⟩
  · unfold ws_next_prime
    (try dsimp only); rw [wSeq_eq]; simp -failIfUnchanged only [N_next_prime, wf_check_between, wVar, wC, wOp, wUn, wCl, wB, wTr, wAnd, wOr, wNot, wAndV, wOrV, wNotV, wIf, wCh, wNil, wCons, wTup, wLe, wSz, wFn, wFnJ, wFnB, wFnJB, wBNil, wBCons, wBOwn, rsvP, rsvJ, wNext, wRet, wRetN, wDrop, wIfS, wSet, wSetOwn, wNever, wAug, wOpO, wIxO, wOpR, wClO, wApp, wSetIt, wFrz, wFor, wRg1, wRg2, wSq, wEnum, wZip, wZipM, wZipS, wZipU, wgN, wgT, wgNil, wgCons, wYes, wAsgT, wgLs, wLenS, wIxS, wFnS, wFnJL, wFnX, wRaise, wRaiseF, wForFn, forFnW, wMet, hide, wIsi, wListOf, wRev, edP, edJ, enP, enJ, enS, NotOwn, Flat, List.map_cons, List.map_nil, List.length_cons, List.length_nil, List.replicate_succ, List.replicate_zero, List.cons_append, List.nil_append, List.append_nil, List.set_cons_zero, List.set_cons_succ, List.getElem?_cons_zero, List.getElem?_cons_succ, Nat.reduceAdd, Nat.reduceSub, Option.some.injEq, Sl.imm.injEq, Sl.own.injEq, Sl.scr.injEq, exists_eq_left, exists_eq_left', exists_eq_right, exists_eq, exists_eq', exists_and_left, and_assoc, and_true, true_and, ne_eq, not_false_eq_true, Nat.succ_ne_zero, or_true, true_or, true_implies, forall_eq', forall_eq, PyData.int.injEq, PyData.bool.injEq, PyData.list.injEq, PyData.tuple.injEq, List.cons.injEq, i_add, i_iadd, i_sub, i_mul, i_mod, i_fdiv, i_fdivG, i_pow, i_neg, i_le, i_ge, i_gt, i_lt, i_eq, i_ne, i_intI, i_intB, i_abs, i_max, i_min, i_lenL, i_lenT, i_ixL, i_ixT, i_tupL, i_tupT, i_truB, Bool.not_true, Bool.not_false, Bool.false_eq_true, if_true, if_false, reduceIte]
    refine ⟨fun _ => ?_, fun z => (by rw [show isBtw (.int 9973) 0 9973 = true from rfl] at z; cases z)⟩
    simp only [wWhile, wVar, wC, wOp, wUn, wCl, wB, wTr, wAnd, wOr, wNot, wAndV, wOrV, wNotV, wIf, wCh, wNil, wCons, wTup, wLe, wSz, wFn, wFnJ, wFnB, wFnJB, wBNil, wBCons, wBOwn, rsvP, rsvJ, wNext, wSeq, wRet, wRetN, wDrop, wIfS, wSet, wSetOwn, wNever, wAug, wOpO, wIxO, wOpR, wClO, wApp, wSetIt, wFrz, wFor, wRg1, wRg2, wSq, wEnum, wZip, wZipM, wZipS, wZipU, wgN, wgT, wgNil, wgCons, wYes, wAsgT, wgLs, wLenS, wIxS, wFnS, wFnJL, wFnX, wRaise, wRaiseF, wForFn, forFnW, wMet, hide, wIsi, wListOf, wRev, edP, edJ, enP, enJ, enS, NotOwn, Flat, List.map_cons, List.map_nil, List.length_cons, List.length_nil, List.replicate_succ, List.replicate_zero, List.cons_append, List.nil_append, List.append_nil, List.set_cons_zero, List.set_cons_succ, List.getElem?_cons_zero, List.getElem?_cons_succ, Nat.reduceAdd, Nat.reduceSub, Option.some.injEq, Sl.imm.injEq, Sl.own.injEq, Sl.scr.injEq, exists_eq_left, exists_eq_left', exists_eq_right, exists_eq, exists_eq', exists_and_left, and_assoc, and_true, true_and, ne_eq, not_false_eq_true, Nat.succ_ne_zero, or_true, true_or, true_implies, forall_eq', forall_eq, PyData.int.injEq, PyData.bool.injEq, PyData.list.injEq, PyData.tuple.injEq, List.cons.injEq, i_add, i_iadd, i_sub, i_mul, i_mod, i_fdiv, i_fdivG, i_pow, i_neg, i_le, i_ge, i_gt, i_lt, i_eq, i_ne, i_intI, i_intB, i_abs, i_max, i_min, i_lenL, i_lenT, i_ixL, i_ixT, i_tupL, i_tupT, i_truB, Bool.not_true, Bool.not_false, Bool.false_eq_true, if_true, if_false, reduceIte]
    refine ⟨fun m e => e = [.imm (.int 9973), .imm (.int 9973)], ⟨0, rfl⟩, ?_⟩
    rintro m e rfl
    simp only [wf_is_prime, isPD, wVar, wC, wOp, wUn, wCl, wB, wTr, wAnd, wOr, wNot, wAndV, wOrV, wNotV, wIf, wCh, wNil, wCons, wTup, wLe, wSz, wFn, wFnJ, wFnB, wFnJB, wBNil, wBCons, wBOwn, rsvP, rsvJ, wNext, wSeq, wRet, wRetN, wDrop, wIfS, wSet, wSetOwn, wNever, wAug, wOpO, wIxO, wOpR, wClO, wApp, wSetIt, wFrz, wFor, wRg1, wRg2, wSq, wEnum, wZip, wZipM, wZipS, wZipU, wgN, wgT, wgNil, wgCons, wYes, wAsgT, wgLs, wLenS, wIxS, wFnS, wFnJL, wFnX, wRaise, wRaiseF, wForFn, forFnW, wMet, hide, wIsi, wListOf, wRev, edP, edJ, enP, enJ, enS, NotOwn, Flat, List.map_cons, List.map_nil, List.length_cons, List.length_nil, List.replicate_succ, List.replicate_zero, List.cons_append, List.nil_append, List.append_nil, List.set_cons_zero, List.set_cons_succ, List.getElem?_cons_zero, List.getElem?_cons_succ, Nat.reduceAdd, Nat.reduceSub, Option.some.injEq, Sl.imm.injEq, Sl.own.injEq, Sl.scr.injEq, exists_eq_left, exists_eq_left', exists_eq_right, exists_eq, exists_eq', exists_and_left, and_assoc, and_true, true_and, ne_eq, not_false_eq_true, Nat.succ_ne_zero, or_true, true_or, true_implies, forall_eq', forall_eq, PyData.int.injEq, PyData.bool.injEq, PyData.list.injEq, PyData.tuple.injEq, List.cons.injEq, i_add, i_iadd, i_sub, i_mul, i_mod, i_fdiv, i_fdivG, i_pow, i_neg, i_le, i_ge, i_gt, i_lt, i_eq, i_ne, i_intI, i_intB, i_abs, i_max, i_min, i_lenL, i_lenT, i_ixL, i_ixT, i_tupL, i_tupT, i_truB, Bool.not_true, Bool.not_false, Bool.false_eq_true, if_true, if_false, reduceIte]
    rw [if_neg (by rw [show isP 9973 = true by decide +kernel]; decide)]
    exact q
end K03

set_option Elab.async false
set_option linter.all false
set_option maxRecDepth 100000
set_option maxHeartbeats 4000000
namespace K03
open PySem PySem.Spec PyProof.Rows L2 Pd
theorem fdivN {i p : Int} (h : 0 ≤ i) (hp : 0 < p) : i.fdiv p = i / p := Int.fdiv_eq_ediv_of_nonneg _ (Int.le_of_lt hp)
theorem pu_letters_at (ds Q R) (hl : ds.length = 3) (h : wf_letters_at ds Q R) : ws_letters_at (fun e _ => R e) (edP Q) (enP N_letters_at ds) := by
  obtain ⟨d, m, n, rfl, ⟨h, q⟩ | ⟨p, rfl, hp, ⟨h, q⟩ | ⟨k, rfl, hk, h⟩⟩⟩ := h
  · unfold ws_letters_at
    (try dsimp only); rw [wSeq_eq]; simp -failIfUnchanged only [N_letters_at, wf_check_prime, wVar, wC, wOp, wUn, wCl, wB, wTr, wAnd, wOr, wNot, wAndV, wOrV, wNotV, wIf, wCh, wNil, wCons, wTup, wLe, wSz, wFn, wFnJ, wFnB, wFnJB, wBNil, wBCons, wBOwn, rsvP, rsvJ, wNext, wRet, wRetN, wDrop, wIfS, wSet, wSetOwn, wNever, wAug, wOpO, wIxO, wOpR, wClO, wApp, wSetIt, wFrz, wFor, wRg1, wRg2, wSq, wEnum, wZip, wZipM, wZipS, wZipU, wgN, wgT, wgNil, wgCons, wYes, wAsgT, wgLs, wLenS, wIxS, wFnS, wFnJL, wFnX, wRaise, wRaiseF, wForFn, forFnW, wMet, hide, wIsi, wListOf, wRev, edP, edJ, enP, enJ, enS, NotOwn, Flat, List.map_cons, List.map_nil, List.length_cons, List.length_nil, List.replicate_succ, List.replicate_zero, List.cons_append, List.nil_append, List.append_nil, List.set_cons_zero, List.set_cons_succ, List.getElem?_cons_zero, List.getElem?_cons_succ, Nat.reduceAdd, Nat.reduceSub, Option.some.injEq, Sl.imm.injEq, Sl.own.injEq, Sl.scr.injEq, exists_eq_left, exists_eq_left', exists_eq_right, exists_eq, exists_eq', exists_and_left, and_assoc, and_true, true_and, ne_eq, not_false_eq_true, Nat.succ_ne_zero, or_true, true_or, true_implies, forall_eq', forall_eq, PyData.int.injEq, PyData.bool.injEq, PyData.list.injEq, PyData.tuple.injEq, List.cons.injEq, i_add, i_iadd, i_sub, i_mul, i_mod, i_fdiv, i_fdivG, i_pow, i_neg, i_le, i_ge, i_gt, i_lt, i_eq, i_ne, i_intI, i_intB, i_abs, i_max, i_min, i_lenL, i_lenT, i_ixL, i_ixT, i_tupL, i_tupT, i_truB, Bool.not_true, Bool.not_false, Bool.false_eq_true, if_true, if_false, reduceIte]
    exact ⟨fun z => (by rw [h] at z; cases z), fun _ => q⟩
  · unfold ws_letters_at
    (try dsimp only); rw [wSeq_eq]; simp -failIfUnchanged only [N_letters_at, wf_check_prime, wVar, wC, wOp, wUn, wCl, wB, wTr, wAnd, wOr, wNot, wAndV, wOrV, wNotV, wIf, wCh, wNil, wCons, wTup, wLe, wSz, wFn, wFnJ, wFnB, wFnJB, wBNil, wBCons, wBOwn, rsvP, rsvJ, wNext, wRet, wRetN, wDrop, wIfS, wSet, wSetOwn, wNever, wAug, wOpO, wIxO, wOpR, wClO, wApp, wSetIt, wFrz, wFor, wRg1, wRg2, wSq, wEnum, wZip, wZipM, wZipS, wZipU, wgN, wgT, wgNil, wgCons, wYes, wAsgT, wgLs, wLenS, wIxS, wFnS, wFnJL, wFnX, wRaise, wRaiseF, wForFn, forFnW, wMet, hide, wIsi, wListOf, wRev, edP, edJ, enP, enJ, enS, NotOwn, Flat, List.map_cons, List.map_nil, List.length_cons, List.length_nil, List.replicate_succ, List.replicate_zero, List.cons_append, List.nil_append, List.append_nil, List.set_cons_zero, List.set_cons_succ, List.getElem?_cons_zero, List.getElem?_cons_succ, Nat.reduceAdd, Nat.reduceSub, Option.some.injEq, Sl.imm.injEq, Sl.own.injEq, Sl.scr.injEq, exists_eq_left, exists_eq_left', exists_eq_right, exists_eq, exists_eq', exists_and_left, and_assoc, and_true, true_and, ne_eq, not_false_eq_true, Nat.succ_ne_zero, or_true, true_or, true_implies, forall_eq', forall_eq, PyData.int.injEq, PyData.bool.injEq, PyData.list.injEq, PyData.tuple.injEq, List.cons.injEq, i_add, i_iadd, i_sub, i_mul, i_mod, i_fdiv, i_fdivG, i_pow, i_neg, i_le, i_ge, i_gt, i_lt, i_eq, i_ne, i_intI, i_intB, i_abs, i_max, i_min, i_lenL, i_lenT, i_ixL, i_ixT, i_tupL, i_tupT, i_truB, Bool.not_true, Bool.not_false, Bool.false_eq_true, if_true, if_false, reduceIte]
    refine ⟨fun _ => ?_, fun z => (by rw [pd_int hp] at z; cases z)⟩
    (try dsimp only); rw [wSeq_eq]; simp -failIfUnchanged only [wf_check_between, wVar, wC, wOp, wUn, wCl, wB, wTr, wAnd, wOr, wNot, wAndV, wOrV, wNotV, wIf, wCh, wNil, wCons, wTup, wLe, wSz, wFn, wFnJ, wFnB, wFnJB, wBNil, wBCons, wBOwn, rsvP, rsvJ, wNext, wRet, wRetN, wDrop, wIfS, wSet, wSetOwn, wNever, wAug, wOpO, wIxO, wOpR, wClO, wApp, wSetIt, wFrz, wFor, wRg1, wRg2, wSq, wEnum, wZip, wZipM, wZipS, wZipU, wgN, wgT, wgNil, wgCons, wYes, wAsgT, wgLs, wLenS, wIxS, wFnS, wFnJL, wFnX, wRaise, wRaiseF, wForFn, forFnW, wMet, hide, wIsi, wListOf, wRev, edP, edJ, enP, enJ, enS, NotOwn, Flat, List.map_cons, List.map_nil, List.length_cons, List.length_nil, List.replicate_succ, List.replicate_zero, List.cons_append, List.nil_append, List.append_nil, List.set_cons_zero, List.set_cons_succ, List.getElem?_cons_zero, List.getElem?_cons_succ, Nat.reduceAdd, Nat.reduceSub, Option.some.injEq, Sl.imm.injEq, Sl.own.injEq, Sl.scr.injEq, exists_eq_left, exists_eq_left', exists_eq_right, exists_eq, exists_eq', exists_and_left, and_assoc, and_true, true_and, ne_eq, not_false_eq_true, Nat.succ_ne_zero, or_true, true_or, true_implies, forall_eq', forall_eq, PyData.int.injEq, PyData.bool.injEq, PyData.list.injEq, PyData.tuple.injEq, List.cons.injEq, i_add, i_iadd, i_sub, i_mul, i_mod, i_fdiv, i_fdivG, i_pow, i_neg, i_le, i_ge, i_gt, i_lt, i_eq, i_ne, i_intI, i_intB, i_abs, i_max, i_min, i_lenL, i_lenT, i_ixL, i_ixT, i_tupL, i_tupT, i_truB, Bool.not_true, Bool.not_false, Bool.false_eq_true, if_true, if_false, reduceIte]
    exact ⟨fun z => (by rw [h] at z; cases z), fun _ => q⟩
  · unfold ws_letters_at
    (try dsimp only); rw [wSeq_eq]; simp -failIfUnchanged only [N_letters_at, wf_check_prime, wVar, wC, wOp, wUn, wCl, wB, wTr, wAnd, wOr, wNot, wAndV, wOrV, wNotV, wIf, wCh, wNil, wCons, wTup, wLe, wSz, wFn, wFnJ, wFnB, wFnJB, wBNil, wBCons, wBOwn, rsvP, rsvJ, wNext, wRet, wRetN, wDrop, wIfS, wSet, wSetOwn, wNever, wAug, wOpO, wIxO, wOpR, wClO, wApp, wSetIt, wFrz, wFor, wRg1, wRg2, wSq, wEnum, wZip, wZipM, wZipS, wZipU, wgN, wgT, wgNil, wgCons, wYes, wAsgT, wgLs, wLenS, wIxS, wFnS, wFnJL, wFnX, wRaise, wRaiseF, wForFn, forFnW, wMet, hide, wIsi, wListOf, wRev, edP, edJ, enP, enJ, enS, NotOwn, Flat, List.map_cons, List.map_nil, List.length_cons, List.length_nil, List.replicate_succ, List.replicate_zero, List.cons_append, List.nil_append, List.append_nil, List.set_cons_zero, List.set_cons_succ, List.getElem?_cons_zero, List.getElem?_cons_succ, Nat.reduceAdd, Nat.reduceSub, Option.some.injEq, Sl.imm.injEq, Sl.own.injEq, Sl.scr.injEq, exists_eq_left, exists_eq_left', exists_eq_right, exists_eq, exists_eq', exists_and_left, and_assoc, and_true, true_and, ne_eq, not_false_eq_true, Nat.succ_ne_zero, or_true, true_or, true_implies, forall_eq', forall_eq, PyData.int.injEq, PyData.bool.injEq, PyData.list.injEq, PyData.tuple.injEq, List.cons.injEq, i_add, i_iadd, i_sub, i_mul, i_mod, i_fdiv, i_fdivG, i_pow, i_neg, i_le, i_ge, i_gt, i_lt, i_eq, i_ne, i_intI, i_intB, i_abs, i_max, i_min, i_lenL, i_lenT, i_ixL, i_ixT, i_tupL, i_tupT, i_truB, Bool.not_true, Bool.not_false, Bool.false_eq_true, if_true, if_false, reduceIte]
    refine ⟨fun _ => ?_, fun z => (by rw [pd_int hp] at z; cases z)⟩
    obtain ⟨p1, p2⟩ := isP_le hp
    (try dsimp only); rw [wSeq_eq]; simp -failIfUnchanged only [wf_check_between, wVar, wC, wOp, wUn, wCl, wB, wTr, wAnd, wOr, wNot, wAndV, wOrV, wNotV, wIf, wCh, wNil, wCons, wTup, wLe, wSz, wFn, wFnJ, wFnB, wFnJB, wBNil, wBCons, wBOwn, rsvP, rsvJ, wNext, wRet, wRetN, wDrop, wIfS, wSet, wSetOwn, wNever, wAug, wOpO, wIxO, wOpR, wClO, wApp, wSetIt, wFrz, wFor, wRg1, wRg2, wSq, wEnum, wZip, wZipM, wZipS, wZipU, wgN, wgT, wgNil, wgCons, wYes, wAsgT, wgLs, wLenS, wIxS, wFnS, wFnJL, wFnX, wRaise, wRaiseF, wForFn, forFnW, wMet, hide, wIsi, wListOf, wRev, edP, edJ, enP, enJ, enS, NotOwn, Flat, List.map_cons, List.map_nil, List.length_cons, List.length_nil, List.replicate_succ, List.replicate_zero, List.cons_append, List.nil_append, List.append_nil, List.set_cons_zero, List.set_cons_succ, List.getElem?_cons_zero, List.getElem?_cons_succ, Nat.reduceAdd, Nat.reduceSub, Option.some.injEq, Sl.imm.injEq, Sl.own.injEq, Sl.scr.injEq, exists_eq_left, exists_eq_left', exists_eq_right, exists_eq, exists_eq', exists_and_left, and_assoc, and_true, true_and, ne_eq, not_false_eq_true, Nat.succ_ne_zero, or_true, true_or, true_implies, forall_eq', forall_eq, PyData.int.injEq, PyData.bool.injEq, PyData.list.injEq, PyData.tuple.injEq, List.cons.injEq, i_add, i_iadd, i_sub, i_mul, i_mod, i_fdiv, i_fdivG, i_pow, i_neg, i_le, i_ge, i_gt, i_lt, i_eq, i_ne, i_intI, i_intB, i_abs, i_max, i_min, i_lenL, i_lenT, i_ixL, i_ixT, i_tupL, i_tupT, i_truB, Bool.not_true, Bool.not_false, Bool.false_eq_true, if_true, if_false, reduceIte]
    have hb : isBtw (.int (k : Int)) 0 100 = true := by rw [btw_int, decide_eq_true (by omega), decide_eq_true (by omega)]; rfl
    refine ⟨fun _ => ?_, fun z => (by rw [hb] at z; cases z)⟩
    (try dsimp only); rw [wSeq_eq]; simp -failIfUnchanged only [wf_is_whole, wVar, wC, wOp, wUn, wCl, wB, wTr, wAnd, wOr, wNot, wAndV, wOrV, wNotV, wIf, wCh, wNil, wCons, wTup, wLe, wSz, wFn, wFnJ, wFnB, wFnJB, wBNil, wBCons, wBOwn, rsvP, rsvJ, wNext, wRet, wRetN, wDrop, wIfS, wSet, wSetOwn, wNever, wAug, wOpO, wIxO, wOpR, wClO, wApp, wSetIt, wFrz, wFor, wRg1, wRg2, wSq, wEnum, wZip, wZipM, wZipS, wZipU, wgN, wgT, wgNil, wgCons, wYes, wAsgT, wgLs, wLenS, wIxS, wFnS, wFnJL, wFnX, wRaise, wRaiseF, wForFn, forFnW, wMet, hide, wIsi, wListOf, wRev, edP, edJ, enP, enJ, enS, NotOwn, Flat, List.map_cons, List.map_nil, List.length_cons, List.length_nil, List.replicate_succ, List.replicate_zero, List.cons_append, List.nil_append, List.append_nil, List.set_cons_zero, List.set_cons_succ, List.getElem?_cons_zero, List.getElem?_cons_succ, Nat.reduceAdd, Nat.reduceSub, Option.some.injEq, Sl.imm.injEq, Sl.own.injEq, Sl.scr.injEq, exists_eq_left, exists_eq_left', exists_eq_right, exists_eq, exists_eq', exists_and_left, and_assoc, and_true, true_and, ne_eq, not_false_eq_true, Nat.succ_ne_zero, or_true, true_or, true_implies, forall_eq', forall_eq, PyData.int.injEq, PyData.bool.injEq, PyData.list.injEq, PyData.tuple.injEq, List.cons.injEq, i_add, i_iadd, i_sub, i_mul, i_mod, i_fdiv, i_fdivG, i_pow, i_neg, i_le, i_ge, i_gt, i_lt, i_eq, i_ne, i_intI, i_intB, i_abs, i_max, i_min, i_lenL, i_lenT, i_ixL, i_ixT, i_tupL, i_tupT, i_truB, Bool.not_true, Bool.not_false, Bool.false_eq_true, if_true, if_false, reduceIte]
    rcases h with ⟨h, q⟩ | ⟨i, rfl, hi, h⟩
    · rw [h]
      exact q
    · rw [show isW (.int i) = true from rfl]
      simp -failIfUnchanged only [wVar, wC, wOp, wUn, wCl, wB, wTr, wAnd, wOr, wNot, wAndV, wOrV, wNotV, wIf, wCh, wNil, wCons, wTup, wLe, wSz, wFn, wFnJ, wFnB, wFnJB, wBNil, wBCons, wBOwn, rsvP, rsvJ, wNext, wRet, wRetN, wDrop, wIfS, wSet, wSetOwn, wNever, wAug, wOpO, wIxO, wOpR, wClO, wApp, wSetIt, wFrz, wFor, wRg1, wRg2, wSq, wEnum, wZip, wZipM, wZipS, wZipU, wgN, wgT, wgNil, wgCons, wYes, wAsgT, wgLs, wLenS, wIxS, wFnS, wFnJL, wFnX, wRaise, wRaiseF, wForFn, forFnW, wMet, hide, wIsi, wListOf, wRev, edP, edJ, enP, enJ, enS, NotOwn, Flat, List.map_cons, List.map_nil, List.length_cons, List.length_nil, List.replicate_succ, List.replicate_zero, List.cons_append, List.nil_append, List.append_nil, List.set_cons_zero, List.set_cons_succ, List.getElem?_cons_zero, List.getElem?_cons_succ, Nat.reduceAdd, Nat.reduceSub, Option.some.injEq, Sl.imm.injEq, Sl.own.injEq, Sl.scr.injEq, exists_eq_left, exists_eq_left', exists_eq_right, exists_eq, exists_eq', exists_and_left, and_assoc, and_true, true_and, ne_eq, not_false_eq_true, Nat.succ_ne_zero, or_true, true_or, true_implies, forall_eq', forall_eq, PyData.int.injEq, PyData.bool.injEq, PyData.list.injEq, PyData.tuple.injEq, List.cons.injEq, i_add, i_iadd, i_sub, i_mul, i_mod, i_fdiv, i_fdivG, i_pow, i_neg, i_le, i_ge, i_gt, i_lt, i_eq, i_ne, i_intI, i_intB, i_abs, i_max, i_min, i_lenL, i_lenT, i_ixL, i_ixT, i_tupL, i_tupT, i_truB, Bool.not_true, Bool.not_false, Bool.false_eq_true, if_true, if_false, reduceIte]
      rcases h with ⟨h, q⟩ | ⟨h0, h1, h2⟩
      · rw [if_pos (by simpa using h)]
        exact q
      · rw [if_neg (by simp; omega)]
        (try dsimp only); rw [wSeq_eq]; simp -failIfUnchanged only [wVar, wC, wOp, wUn, wCl, wB, wTr, wAnd, wOr, wNot, wAndV, wOrV, wNotV, wIf, wCh, wNil, wCons, wTup, wLe, wSz, wFn, wFnJ, wFnB, wFnJB, wBNil, wBCons, wBOwn, rsvP, rsvJ, wNext, wRet, wRetN, wDrop, wIfS, wSet, wSetOwn, wNever, wAug, wOpO, wIxO, wOpR, wClO, wApp, wSetIt, wFrz, wFor, wRg1, wRg2, wSq, wEnum, wZip, wZipM, wZipS, wZipU, wgN, wgT, wgNil, wgCons, wYes, wAsgT, wgLs, wLenS, wIxS, wFnS, wFnJL, wFnX, wRaise, wRaiseF, wForFn, forFnW, wMet, hide, wIsi, wListOf, wRev, edP, edJ, enP, enJ, enS, NotOwn, Flat, List.map_cons, List.map_nil, List.length_cons, List.length_nil, List.replicate_succ, List.replicate_zero, List.cons_append, List.nil_append, List.append_nil, List.set_cons_zero, List.set_cons_succ, List.getElem?_cons_zero, List.getElem?_cons_succ, Nat.reduceAdd, Nat.reduceSub, Option.some.injEq, Sl.imm.injEq, Sl.own.injEq, Sl.scr.injEq, exists_eq_left, exists_eq_left', exists_eq_right, exists_eq, exists_eq', exists_and_left, and_assoc, and_true, true_and, ne_eq, not_false_eq_true, Nat.succ_ne_zero, or_true, true_or, true_implies, forall_eq', forall_eq, PyData.int.injEq, PyData.bool.injEq, PyData.list.injEq, PyData.tuple.injEq, List.cons.injEq, i_add, i_iadd, i_sub, i_mul, i_mod, i_fdiv, i_fdivG, i_pow, i_neg, i_le, i_ge, i_gt, i_lt, i_eq, i_ne, i_intI, i_intB, i_abs, i_max, i_min, i_lenL, i_lenT, i_ixL, i_ixT, i_tupL, i_tupT, i_truB, Bool.not_true, Bool.not_false, Bool.false_eq_true, if_true, if_false, reduceIte]
        refine ⟨by decide, ?_⟩
        (try dsimp only); rw [wSeq_eq]; simp -failIfUnchanged only [wVar, wC, wOp, wUn, wCl, wB, wTr, wAnd, wOr, wNot, wAndV, wOrV, wNotV, wIf, wCh, wNil, wCons, wTup, wLe, wSz, wFn, wFnJ, wFnB, wFnJB, wBNil, wBCons, wBOwn, rsvP, rsvJ, wNext, wRet, wRetN, wDrop, wIfS, wSet, wSetOwn, wNever, wAug, wOpO, wIxO, wOpR, wClO, wApp, wSetIt, wFrz, wFor, wRg1, wRg2, wSq, wEnum, wZip, wZipM, wZipS, wZipU, wgN, wgT, wgNil, wgCons, wYes, wAsgT, wgLs, wLenS, wIxS, wFnS, wFnJL, wFnX, wRaise, wRaiseF, wForFn, forFnW, wMet, hide, wIsi, wListOf, wRev, edP, edJ, enP, enJ, enS, NotOwn, Flat, List.map_cons, List.map_nil, List.length_cons, List.length_nil, List.replicate_succ, List.replicate_zero, List.cons_append, List.nil_append, List.append_nil, List.set_cons_zero, List.set_cons_succ, List.getElem?_cons_zero, List.getElem?_cons_succ, Nat.reduceAdd, Nat.reduceSub, Option.some.injEq, Sl.imm.injEq, Sl.own.injEq, Sl.scr.injEq, exists_eq_left, exists_eq_left', exists_eq_right, exists_eq, exists_eq', exists_and_left, and_assoc, and_true, true_and, ne_eq, not_false_eq_true, Nat.succ_ne_zero, or_true, true_or, true_implies, forall_eq', forall_eq, PyData.int.injEq, PyData.bool.injEq, PyData.list.injEq, PyData.tuple.injEq, List.cons.injEq, i_add, i_iadd, i_sub, i_mul, i_mod, i_fdiv, i_fdivG, i_pow, i_neg, i_le, i_ge, i_gt, i_lt, i_eq, i_ne, i_intI, i_intB, i_abs, i_max, i_min, i_lenL, i_lenT, i_ixL, i_ixT, i_tupL, i_tupT, i_truB, Bool.not_true, Bool.not_false, Bool.false_eq_true, if_true, if_false, reduceIte]
        (try dsimp only); rw [wSeq_eq]; simp -failIfUnchanged only [wVar, wC, wOp, wUn, wCl, wB, wTr, wAnd, wOr, wNot, wAndV, wOrV, wNotV, wIf, wCh, wNil, wCons, wTup, wLe, wSz, wFn, wFnJ, wFnB, wFnJB, wBNil, wBCons, wBOwn, rsvP, rsvJ, wNext, wRet, wRetN, wDrop, wIfS, wSet, wSetOwn, wNever, wAug, wOpO, wIxO, wOpR, wClO, wApp, wSetIt, wFrz, wFor, wRg1, wRg2, wSq, wEnum, wZip, wZipM, wZipS, wZipU, wgN, wgT, wgNil, wgCons, wYes, wAsgT, wgLs, wLenS, wIxS, wFnS, wFnJL, wFnX, wRaise, wRaiseF, wForFn, forFnW, wMet, hide, wIsi, wListOf, wRev, edP, edJ, enP, enJ, enS, NotOwn, Flat, List.map_cons, List.map_nil, List.length_cons, List.length_nil, List.replicate_succ, List.replicate_zero, List.cons_append, List.nil_append, List.append_nil, List.set_cons_zero, List.set_cons_succ, List.getElem?_cons_zero, List.getElem?_cons_succ, Nat.reduceAdd, Nat.reduceSub, Option.some.injEq, Sl.imm.injEq, Sl.own.injEq, Sl.scr.injEq, exists_eq_left, exists_eq_left', exists_eq_right, exists_eq, exists_eq', exists_and_left, and_assoc, and_true, true_and, ne_eq, not_false_eq_true, Nat.succ_ne_zero, or_true, true_or, true_implies, forall_eq', forall_eq, PyData.int.injEq, PyData.bool.injEq, PyData.list.injEq, PyData.tuple.injEq, List.cons.injEq, i_add, i_iadd, i_sub, i_mul, i_mod, i_fdiv, i_fdivG, i_pow, i_neg, i_le, i_ge, i_gt, i_lt, i_eq, i_ne, i_intI, i_intB, i_abs, i_max, i_min, i_lenL, i_lenT, i_ixL, i_ixT, i_tupL, i_tupT, i_truB, Bool.not_true, Bool.not_false, Bool.false_eq_true, if_true, if_false, reduceIte]
        refine ⟨by omega, by omega, ?_⟩
        generalize hW : (wFrz 3 _ : WS) = rest_
        have key : ∀ (ds : List D) (xs : List D) (l : Int) (x : Sl), 0 ≤ l → xs.length + ds.length ≤ 200 → l / p ^ ds.length = i / p ^ k →
            forW (wgN 5) (wSeq (wApp 3 (wOp dMod (wVar 4) (wVar 0))) (wSet 4 (wOp dFdivG (wVar 4) (wVar 0)))) { nx := rest_ { nx := fun x => Q PyData.none, rt := fun d x => Q d }, rt := fun d x => Q d } ds [.imm (.int p), .imm (.int k), .imm (.int i), .own xs, .imm (.int l), x] := by
          intro ds
          induction ds with
          | nil =>
            intro xs l x hl hz hd
            rw [List.length_nil, Int.pow_zero, Int.ediv_one] at hd
            subst hd hW
            simp only [forW, wVar, wC, wOp, wUn, wCl, wB, wTr, wAnd, wOr, wNot, wAndV, wOrV, wNotV, wIf, wCh, wNil, wCons, wTup, wLe, wSz, wFn, wFnJ, wFnB, wFnJB, wBNil, wBCons, wBOwn, rsvP, rsvJ, wNext, wSeq, wRet, wRetN, wDrop, wIfS, wSet, wSetOwn, wNever, wAug, wOpO, wIxO, wOpR, wClO, wApp, wSetIt, wFrz, wFor, wRg1, wRg2, wSq, wEnum, wZip, wZipM, wZipS, wZipU, wgN, wgT, wgNil, wgCons, wYes, wAsgT, wgLs, wLenS, wIxS, wFnS, wFnJL, wFnX, wRaise, wRaiseF, wForFn, forFnW, wMet, hide, wIsi, wListOf, wRev, edP, edJ, enP, enJ, enS, NotOwn, Flat, List.map_cons, List.map_nil, List.length_cons, List.length_nil, List.replicate_succ, List.replicate_zero, List.cons_append, List.nil_append, List.append_nil, List.set_cons_zero, List.set_cons_succ, List.getElem?_cons_zero, List.getElem?_cons_succ, Nat.reduceAdd, Nat.reduceSub, Option.some.injEq, Sl.imm.injEq, Sl.own.injEq, Sl.scr.injEq, exists_eq_left, exists_eq_left', exists_eq_right, exists_eq, exists_eq', exists_and_left, and_assoc, and_true, true_and, ne_eq, not_false_eq_true, Nat.succ_ne_zero, or_true, true_or, true_implies, forall_eq', forall_eq, PyData.int.injEq, PyData.bool.injEq, PyData.list.injEq, PyData.tuple.injEq, List.cons.injEq, i_add, i_iadd, i_sub, i_mul, i_mod, i_fdiv, i_fdivG, i_pow, i_neg, i_le, i_ge, i_gt, i_lt, i_eq, i_ne, i_intI, i_intB, i_abs, i_max, i_min, i_lenL, i_lenT, i_ixL, i_ixT, i_tupL, i_tupT, i_truB, Bool.not_true, Bool.not_false, Bool.false_eq_true, if_true, if_false, reduceIte]
            by_cases hq : 0 < i / p ^ k
            · rw [if_pos (by simpa using hq)]
              exact h1 hq
            · rw [if_neg (by simpa using hq)]
              refine h2 ?_ _
              have : 0 ≤ i / p ^ k := hl
              omega
          | cons y ys ih =>
            intro xs l x hl hz hd
            simp only [forW, wVar, wC, wOp, wUn, wCl, wB, wTr, wAnd, wOr, wNot, wAndV, wOrV, wNotV, wIf, wCh, wNil, wCons, wTup, wLe, wSz, wFn, wFnJ, wFnB, wFnJB, wBNil, wBCons, wBOwn, rsvP, rsvJ, wNext, wSeq, wRet, wRetN, wDrop, wIfS, wSet, wSetOwn, wNever, wAug, wOpO, wIxO, wOpR, wClO, wApp, wSetIt, wFrz, wFor, wRg1, wRg2, wSq, wEnum, wZip, wZipM, wZipS, wZipU, wgN, wgT, wgNil, wgCons, wYes, wAsgT, wgLs, wLenS, wIxS, wFnS, wFnJL, wFnX, wRaise, wRaiseF, wForFn, forFnW, wMet, hide, wIsi, wListOf, wRev, edP, edJ, enP, enJ, enS, NotOwn, Flat, List.map_cons, List.map_nil, List.length_cons, List.length_nil, List.replicate_succ, List.replicate_zero, List.cons_append, List.nil_append, List.append_nil, List.set_cons_zero, List.set_cons_succ, List.getElem?_cons_zero, List.getElem?_cons_succ, Nat.reduceAdd, Nat.reduceSub, Option.some.injEq, Sl.imm.injEq, Sl.own.injEq, Sl.scr.injEq, exists_eq_left, exists_eq_left', exists_eq_right, exists_eq, exists_eq', exists_and_left, and_assoc, and_true, true_and, ne_eq, not_false_eq_true, Nat.succ_ne_zero, or_true, true_or, true_implies, forall_eq', forall_eq, PyData.int.injEq, PyData.bool.injEq, PyData.list.injEq, PyData.tuple.injEq, List.cons.injEq, i_add, i_iadd, i_sub, i_mul, i_mod, i_fdiv, i_fdivG, i_pow, i_neg, i_le, i_ge, i_gt, i_lt, i_eq, i_ne, i_intI, i_intB, i_abs, i_max, i_min, i_lenL, i_lenT, i_ixL, i_ixT, i_tupL, i_tupT, i_truB, Bool.not_true, Bool.not_false, Bool.false_eq_true, if_true, if_false, reduceIte]
            have hl' : (xs.length : Nat) + (ys.length + 1) ≤ 200 := hz
            refine ⟨by omega, Nat.lt_of_lt_of_le (by omega : xs.length < 200) (by decide), divG (by omega) (log_lt (by omega) (by omega)), ?_⟩
            rw [fdivN hl (by omega)]
            refine ih _ _ _ (Int.ediv_nonneg hl (by omega)) (by rw [List.length_append, List.length_singleton]; omega) ?_
            rw [Int.ediv_ediv_of_nonneg (by omega), ← hd, List.length_cons, Int.pow_succ, Int.mul_comm]
        refine key _ [] i _ h0 (by rw [rngD_len]; simp; omega) (by rw [rngD_len]; simp)
/-! ### what met tells -/
theorem exNN : exB "InvalidNumber" "InvalidNumber" = some true := by decide +kernel
theorem exRN : exB "InvalidRow" "InvalidNumber" = some false := by decide +kernel
theorem exRR : exB "InvalidRow" "InvalidRow" = some true := by decide +kernel
theorem exZN : exB "Refused" "InvalidNumber" = some false := by decide +kernel
theorem exZR : exB "Refused" "InvalidRow" = some false := by decide +kernel
theorem exZZ : exB "Refused" "Refused" = some true := by decide +kernel
def numD (d : D) : D := .tuple [.str "number", .str (PyData.shown d)]
theorem met_num {d : D} (h : repB d = true) {Q : D → Prop} (q : Q (numD d)) : clW exB 2 cl__law_met (errN d) Q := by
  refine ⟨true, exNN, ?_⟩
  rw [if_pos rfl]
  refine ⟨by simp [errN], fun a dx => ?_⟩
  simp only [edR, enU, wEF, errN, wVar, wC, wOp, wUn, wCl, wB, wTr, wAnd, wOr, wNot, wAndV, wOrV, wNotV, wIf, wCh, wNil, wCons, wTup, wLe, wSz, wFn, wFnJ, wFnB, wFnJB, wBNil, wBCons, wBOwn, rsvP, rsvJ, wNext, wSeq, wRet, wRetN, wDrop, wIfS, wSet, wSetOwn, wNever, wAug, wOpO, wIxO, wOpR, wClO, wApp, wSetIt, wFrz, wFor, wRg1, wRg2, wSq, wEnum, wZip, wZipM, wZipS, wZipU, wgN, wgT, wgNil, wgCons, wYes, wAsgT, wgLs, wLenS, wIxS, wFnS, wFnJL, wFnX, wRaise, wRaiseF, wForFn, forFnW, wMet, hide, wIsi, wListOf, wRev, edP, edJ, enP, enJ, enS, NotOwn, Flat, List.map_cons, List.map_nil, List.length_cons, List.length_nil, List.replicate_succ, List.replicate_zero, List.cons_append, List.nil_append, List.append_nil, List.set_cons_zero, List.set_cons_succ, List.getElem?_cons_zero, List.getElem?_cons_succ, Nat.reduceAdd, Nat.reduceSub, Option.some.injEq, Sl.imm.injEq, Sl.own.injEq, Sl.scr.injEq, exists_eq_left, exists_eq_left', exists_eq_right, exists_eq, exists_eq', exists_and_left, and_assoc, and_true, true_and, ne_eq, not_false_eq_true, Nat.succ_ne_zero, or_true, true_or, true_implies, forall_eq', forall_eq, PyData.int.injEq, PyData.bool.injEq, PyData.list.injEq, PyData.tuple.injEq, List.cons.injEq, i_add, i_iadd, i_sub, i_mul, i_mod, i_fdiv, i_fdivG, i_pow, i_neg, i_le, i_ge, i_gt, i_lt, i_eq, i_ne, i_intI, i_intB, i_abs, i_max, i_min, i_lenL, i_lenT, i_ixL, i_ixT, i_tupL, i_tupT, i_truB, Bool.not_true, Bool.not_false, Bool.false_eq_true, if_true, if_false, reduceIte]
  exact ⟨List.mem_cons_self, _, _, rfl, d, if_pos rfl, _, ⟨d, rfl, (repB_ok h).1, rfl⟩, by decide, q⟩
theorem met_row {Q : D → Prop} (q : Q (.str "row")) : clW exB 2 cl__law_met errR Q := by
  refine ⟨false, exRN, ?_⟩
  rw [if_neg (by simp)]
  refine ⟨true, exRR, ?_⟩
  rw [if_pos rfl]
  intro a dx
  simp only [edR, enU, wVar, wC, wOp, wUn, wCl, wB, wTr, wAnd, wOr, wNot, wAndV, wOrV, wNotV, wIf, wCh, wNil, wCons, wTup, wLe, wSz, wFn, wFnJ, wFnB, wFnJB, wBNil, wBCons, wBOwn, rsvP, rsvJ, wNext, wSeq, wRet, wRetN, wDrop, wIfS, wSet, wSetOwn, wNever, wAug, wOpO, wIxO, wOpR, wClO, wApp, wSetIt, wFrz, wFor, wRg1, wRg2, wSq, wEnum, wZip, wZipM, wZipS, wZipU, wgN, wgT, wgNil, wgCons, wYes, wAsgT, wgLs, wLenS, wIxS, wFnS, wFnJL, wFnX, wRaise, wRaiseF, wForFn, forFnW, wMet, hide, wIsi, wListOf, wRev, edP, edJ, enP, enJ, enS, NotOwn, Flat, List.map_cons, List.map_nil, List.length_cons, List.length_nil, List.replicate_succ, List.replicate_zero, List.cons_append, List.nil_append, List.append_nil, List.set_cons_zero, List.set_cons_succ, List.getElem?_cons_zero, List.getElem?_cons_succ, Nat.reduceAdd, Nat.reduceSub, Option.some.injEq, Sl.imm.injEq, Sl.own.injEq, Sl.scr.injEq, exists_eq_left, exists_eq_left', exists_eq_right, exists_eq, exists_eq', exists_and_left, and_assoc, and_true, true_and, ne_eq, not_false_eq_true, Nat.succ_ne_zero, or_true, true_or, true_implies, forall_eq', forall_eq, PyData.int.injEq, PyData.bool.injEq, PyData.list.injEq, PyData.tuple.injEq, List.cons.injEq, i_add, i_iadd, i_sub, i_mul, i_mod, i_fdiv, i_fdivG, i_pow, i_neg, i_le, i_ge, i_gt, i_lt, i_eq, i_ne, i_intI, i_intB, i_abs, i_max, i_min, i_lenL, i_lenT, i_ixL, i_ixT, i_tupL, i_tupT, i_truB, Bool.not_true, Bool.not_false, Bool.false_eq_true, if_true, if_false, reduceIte]
  exact q
theorem met_zero {Q : D → Prop} (q : Q (.tuple [.str "refused", .tuple [.str "zero"]])) : clW exB 2 cl__law_met errZ Q := by
  refine ⟨false, exZN, ?_⟩
  rw [if_neg (by simp)]
  refine ⟨false, exZR, ?_⟩
  rw [if_neg (by simp)]
  refine ⟨true, exZZ, ?_⟩
  rw [if_pos rfl]
  refine ⟨by simp [errZ], fun a dx => ?_⟩
  simp only [edR, enU, wEF, errZ, wVar, wC, wOp, wUn, wCl, wB, wTr, wAnd, wOr, wNot, wAndV, wOrV, wNotV, wIf, wCh, wNil, wCons, wTup, wLe, wSz, wFn, wFnJ, wFnB, wFnJB, wBNil, wBCons, wBOwn, rsvP, rsvJ, wNext, wSeq, wRet, wRetN, wDrop, wIfS, wSet, wSetOwn, wNever, wAug, wOpO, wIxO, wOpR, wClO, wApp, wSetIt, wFrz, wFor, wRg1, wRg2, wSq, wEnum, wZip, wZipM, wZipS, wZipU, wgN, wgT, wgNil, wgCons, wYes, wAsgT, wgLs, wLenS, wIxS, wFnS, wFnJL, wFnX, wRaise, wRaiseF, wForFn, forFnW, wMet, hide, wIsi, wListOf, wRev, edP, edJ, enP, enJ, enS, NotOwn, Flat, List.map_cons, List.map_nil, List.length_cons, List.length_nil, List.replicate_succ, List.replicate_zero, List.cons_append, List.nil_append, List.append_nil, List.set_cons_zero, List.set_cons_succ, List.getElem?_cons_zero, List.getElem?_cons_succ, Nat.reduceAdd, Nat.reduceSub, Option.some.injEq, Sl.imm.injEq, Sl.own.injEq, Sl.scr.injEq, exists_eq_left, exists_eq_left', exists_eq_right, exists_eq, exists_eq', exists_and_left, and_assoc, and_true, true_and, ne_eq, not_false_eq_true, Nat.succ_ne_zero, or_true, true_or, true_implies, forall_eq', forall_eq, PyData.int.injEq, PyData.bool.injEq, PyData.list.injEq, PyData.tuple.injEq, List.cons.injEq, i_add, i_iadd, i_sub, i_mul, i_mod, i_fdiv, i_fdivG, i_pow, i_neg, i_le, i_ge, i_gt, i_lt, i_eq, i_ne, i_intI, i_intB, i_abs, i_max, i_min, i_lenL, i_lenT, i_ixL, i_ixT, i_tupL, i_tupT, i_truB, Bool.not_true, Bool.not_false, Bool.false_eq_true, if_true, if_false, reduceIte]
  exact ⟨List.mem_cons_self, _, _, rfl, _, if_pos rfl, by decide, q⟩
theorem wl_fine {Q : D → Prop} (q : Q (.str "fine")) : wl__law_met (edR Q) (enU 2) := by
  unfold wl__law_met
  simp only [edR, enU, wVar, wC, wOp, wUn, wCl, wB, wTr, wAnd, wOr, wNot, wAndV, wOrV, wNotV, wIf, wCh, wNil, wCons, wTup, wLe, wSz, wFn, wFnJ, wFnB, wFnJB, wBNil, wBCons, wBOwn, rsvP, rsvJ, wNext, wSeq, wRet, wRetN, wDrop, wIfS, wSet, wSetOwn, wNever, wAug, wOpO, wIxO, wOpR, wClO, wApp, wSetIt, wFrz, wFor, wRg1, wRg2, wSq, wEnum, wZip, wZipM, wZipS, wZipU, wgN, wgT, wgNil, wgCons, wYes, wAsgT, wgLs, wLenS, wIxS, wFnS, wFnJL, wFnX, wRaise, wRaiseF, wForFn, forFnW, wMet, hide, wIsi, wListOf, wRev, edP, edJ, enP, enJ, enS, NotOwn, Flat, List.map_cons, List.map_nil, List.length_cons, List.length_nil, List.replicate_succ, List.replicate_zero, List.cons_append, List.nil_append, List.append_nil, List.set_cons_zero, List.set_cons_succ, List.getElem?_cons_zero, List.getElem?_cons_succ, Nat.reduceAdd, Nat.reduceSub, Option.some.injEq, Sl.imm.injEq, Sl.own.injEq, Sl.scr.injEq, exists_eq_left, exists_eq_left', exists_eq_right, exists_eq, exists_eq', exists_and_left, and_assoc, and_true, true_and, ne_eq, not_false_eq_true, Nat.succ_ne_zero, or_true, true_or, true_implies, forall_eq', forall_eq, PyData.int.injEq, PyData.bool.injEq, PyData.list.injEq, PyData.tuple.injEq, List.cons.injEq, i_add, i_iadd, i_sub, i_mul, i_mod, i_fdiv, i_fdivG, i_pow, i_neg, i_le, i_ge, i_gt, i_lt, i_eq, i_ne, i_intI, i_intB, i_abs, i_max, i_min, i_lenL, i_lenT, i_ixL, i_ixT, i_tupL, i_tupT, i_truB, Bool.not_true, Bool.not_false, Bool.false_eq_true, if_true, if_false, reduceIte]
  exact q
/-! ### the values -/
def Ls1 : List D := [.none, .bool true, .int 0, .int 1, .int 4, .int 9, .int (-7), .int 10007, .int 9975, .str "7", .tuple [.int 7], .list [.int 7], .dict [], .int (10 ^ 60)]
def Ls2 : List D := [.none, .bool true, .int (-1), .int 7, .int (10 ^ 60), .int (-(10 ^ 60)), .str "1", .tuple [.int 1], .list [], .int 12]
def Ls3 : List D := [.none, .list [.int 1, .int 2], .tuple [.int 1, .int 7], .tuple [.int 1, .bool true], .tuple [.int 1, .int (-1)], .tuple [.int 1, .str "2"], .int 5, .str "row", .tuple (List.replicate 101 [.int 0]).flatten, .dict [], .tuple [.tuple [.int 1]]]
def Ls4 : List D := [.none, .bool true, .int (-1), .int (10 ^ 9 + 1), .int (10 ^ 60), .str "2", .tuple [.int 2]]
def Ls5 : List D := [.none, .bool true, .int (-1), .int 101, .int (10 ^ 60), .str "2", .tuple [.int 2]]
def Ls6 : List D := [.none, .bool true, .int (-1), .int 16807, .str "0", .tuple [.int 0], .list [.int 0]]
theorem l1_ok : Ls1.all (fun d => repB d && !isPD d) = true := by decide +kernel
theorem l2_ok : Ls2.all (fun d => repB d && !isBtw d 0 6) = true := by decide +kernel
def szB : D → Bool
  | .tuple xs => decide (xs.length ≤ 150)
  | _ => true
theorem l3_ok : Ls3.all (fun d => !letB 7 0 100 d && szB d) = true := by decide +kernel
theorem l4_ok : Ls4.all (fun d => repB d && !isBtw d 0 1000000000) = true := by decide +kernel
theorem l5_ok : Ls5.all (fun d => repB d && !isBtw d 0 100) = true := by decide +kernel
theorem l6_ok : Ls6.all (fun d => repB d && (match d with | .int i => decide (i < 0 ∨ i = 16807) | _ => true)) = true := by decide +kernel
theorem p7 : isP 7 = true := by decide +kernel
theorem two {p : D → Bool} {q : D → Bool} {l : List D} (h : l.all (fun d => p d && q d) = true) : ∀ d ∈ l, p d = true ∧ q d = true := fun d hd => Bool.and_eq_true_iff.mp (List.all_eq_true.mp h d hd)
theorem noB {b : Bool} (h : (!b) = true) : b = false := by simpa using h
/-- letters_at(7, places, number) is refused -/
theorem let_bad {n : D} {k : Nat} {R : Exc → Prop} {Q : D → Prop} (hk : k < 5) (hn : n ∈ Ls6) (q : R (errN n)) : wf_letters_at [.int 7, .int (k : Int), n] Q R := by
  have h := (two l6_ok n hn).2
  refine ⟨_, _, _, rfl, Or.inr ⟨7, rfl, p7, Or.inr ⟨k, rfl, by omega, ?_⟩⟩⟩
  cases n with
  | int i =>
    have h' : i < 0 ∨ i = 16807 := of_decide_eq_true h
    refine Or.inr ⟨i, rfl, ?_, ?_⟩
    · rcases (by simpa [Ls6] using hn : i = -1 ∨ i = 16807) with rfl | rfl <;> decide +kernel
    · rcases h' with h' | rfl
      · exact Or.inl ⟨h', q⟩
      · have hz : ∀ k : Nat, k < 5 → ¬ ((16807 : Int) / 7 ^ k = 0) := by decide
        exact Or.inr ⟨by decide, fun _ => q, fun z => absurd z (hz k hk)⟩
  | _ => exact Or.inl ⟨rfl, q⟩
theorem inv_np {d l : D} {Q : D → Prop} {R : Exc → Prop} (h : isPD d = false) (q : R (errN d)) : wf_inverse [d, l] Q R := ⟨d, l, rfl, Or.inl ⟨h, q⟩⟩
theorem inv_nl {l : D} {Q : D → Prop} {R : Exc → Prop} (h : isBtw l 0 6 = false) (q : R (errN l)) : wf_inverse [.int 7, l] Q R := ⟨_, l, rfl, Or.inr ⟨7, rfl, p7, Or.inl ⟨h, q⟩⟩⟩
theorem num_np {d l : D} {Q : D → Prop} {R : Exc → Prop} (h : isPD d = false) (q : R (errN d)) : wf_number_at [d, l] Q R := ⟨d, l, rfl, Or.inl ⟨h, q⟩⟩
theorem pow_np {d l t : D} {Q : D → Prop} {R : Exc → Prop} (h : isPD d = false) (q : R (errN d)) : wf_power [d, l, t] Q R := ⟨d, l, t, rfl, Or.inl ⟨h, q⟩⟩
theorem pow_nl {l t : D} {Q : D → Prop} {R : Exc → Prop} (h : isBtw l 0 6 = false) (q : R (errN l)) : wf_power [.int 7, l, t] Q R := ⟨_, l, t, rfl, Or.inr ⟨7, rfl, p7, Or.inl ⟨h, q⟩⟩⟩
theorem pow_nt {t : D} {Q : D → Prop} {R : Exc → Prop} (h : isBtw t 0 1000000000 = false) (q : R (errN t)) : wf_power [.int 7, .int 3, t] Q R := ⟨_, _, t, rfl, Or.inr ⟨7, rfl, p7, Or.inr ⟨rfl, Or.inl ⟨h, q⟩⟩⟩⟩
theorem let_np {d m n : D} {Q : D → Prop} {R : Exc → Prop} (h : isPD d = false) (q : R (errN d)) : wf_letters_at [d, m, n] Q R := ⟨d, m, n, rfl, Or.inl ⟨h, q⟩⟩
theorem let_nm {m n : D} {Q : D → Prop} {R : Exc → Prop} (h : isBtw m 0 100 = false) (q : R (errN m)) : wf_letters_at [.int 7, m, n] Q R := ⟨_, m, n, rfl, Or.inr ⟨7, rfl, p7, Or.inl ⟨h, q⟩⟩⟩
theorem exp_np {d b l : D} {Q : D → Prop} {R : Exc → Prop} (h : isPD d = false) (q : R (errN d)) : wf_exponent_of [d, b, l] Q R := ⟨d, b, l, rfl, Or.inl ⟨h, q⟩⟩
theorem exp_nb {b l : D} {Q : D → Prop} {R : Exc → Prop} (h : isBtw b 0 6 = false) (q : R (errN b)) : wf_exponent_of [.int 7, b, l] Q R := ⟨_, b, l, rfl, Or.inr ⟨7, rfl, p7, Or.inl ⟨h, q⟩⟩⟩
theorem exp_nl {l : D} {Q : D → Prop} {R : Exc → Prop} (h : isBtw l 0 6 = false) (q : R (errN l)) : wf_exponent_of [.int 7, .int 3, l] Q R := ⟨_, _, l, rfl, Or.inr ⟨7, rfl, p7, Or.inr ⟨rfl, h, q⟩⟩⟩
theorem root_np {d : D} {Q : D → Prop} {R : Exc → Prop} (h : isPD d = false) (q : R (errN d)) : wf_root [d] Q R := ⟨d, rfl, h, q⟩
theorem num_nr {l : D} {Q : D → Prop} {R : Exc → Prop} (h : letB 7 0 100 l = false) (hz : szB l = true) (q : R errR) : wf_number_at [.int 7, l] Q R := ⟨_, l, rfl, Or.inr ⟨7, rfl, p7, by
  cases l with
  | tuple xs =>
    show xs.length ≤ 150
    exact of_decide_eq_true (show decide (xs.length ≤ 150) = true from hz)
  | _ => trivial, Or.inl ⟨h, q⟩⟩⟩
theorem rep_of {d : D} (h : repB d = true) {z : D} : dRepr [d] z ↔ z = .str (PyData.shown d) := ⟨fun ⟨e, h1, _, h3⟩ => by cases h1; exact h3, fun h1 => ⟨d, rfl, (repB_ok h).1, h1⟩⟩
theorem nt {d : D} (h : repB d = true) : Nc 1 (numD d) := by
  refine nc_tup (n := 0) ?_
  simp only [List.forall_mem_cons]
  exact ⟨nc_str (by decide +kernel), nc_str (repB_ok h).2.1, nofun⟩
theorem pu__law_right (dj ds Q) (hl : ds.length + 1 = 1) (h : wf__law_right dj ds Q) : ws__law_right (edJ Q) (enJ N__law_right dj ds) := by
  obtain ⟨g, m, c, rfl, rfl, q⟩ := h
  unfold ws__law_right
  (try dsimp only); rw [wSeq_eq]; simp -failIfUnchanged only [N__law_right, wf__law_sip, wDic, wVar, wC, wOp, wUn, wCl, wB, wTr, wAnd, wOr, wNot, wAndV, wOrV, wNotV, wIf, wCh, wNil, wCons, wTup, wLe, wSz, wFn, wFnJ, wFnB, wFnJB, wBNil, wBCons, wBOwn, rsvP, rsvJ, wNext, wRet, wRetN, wDrop, wIfS, wSet, wSetOwn, wNever, wAug, wOpO, wIxO, wOpR, wClO, wApp, wSetIt, wFrz, wFor, wRg1, wRg2, wSq, wEnum, wZip, wZipM, wZipS, wZipU, wgN, wgT, wgNil, wgCons, wYes, wAsgT, wgLs, wLenS, wIxS, wFnS, wFnJL, wFnX, wRaise, wRaiseF, wForFn, forFnW, wMet, hide, wIsi, wListOf, wRev, edP, edJ, enP, enJ, enS, NotOwn, Flat, List.map_cons, List.map_nil, List.length_cons, List.length_nil, List.replicate_succ, List.replicate_zero, List.cons_append, List.nil_append, List.append_nil, List.set_cons_zero, List.set_cons_succ, List.getElem?_cons_zero, List.getElem?_cons_succ, Nat.reduceAdd, Nat.reduceSub, Option.some.injEq, Sl.imm.injEq, Sl.own.injEq, Sl.scr.injEq, exists_eq_left, exists_eq_left', exists_eq_right, exists_eq, exists_eq', exists_and_left, and_assoc, and_true, true_and, ne_eq, not_false_eq_true, Nat.succ_ne_zero, or_true, true_or, true_implies, forall_eq', forall_eq, PyData.int.injEq, PyData.bool.injEq, PyData.list.injEq, PyData.tuple.injEq, List.cons.injEq, i_add, i_iadd, i_sub, i_mul, i_mod, i_fdiv, i_fdivG, i_pow, i_neg, i_le, i_ge, i_gt, i_lt, i_eq, i_ne, i_intI, i_intB, i_abs, i_max, i_min, i_lenL, i_lenT, i_ixL, i_ixT, i_tupL, i_tupT, i_truB, Bool.not_true, Bool.not_false, Bool.false_eq_true, if_true, if_false, reduceIte]
  refine ⟨by decide, by decide, pow_ok (by decide +kernel), by decide, by simp, by decide, fun none hn g m c => ?_⟩
  have hn : none ∈ Ls1 := hn
  (try dsimp only); rw [wSeq_eq]; simp -failIfUnchanged only [wf__law_sip, wVar, wC, wOp, wUn, wCl, wB, wTr, wAnd, wOr, wNot, wAndV, wOrV, wNotV, wIf, wCh, wNil, wCons, wTup, wLe, wSz, wFn, wFnJ, wFnB, wFnJB, wBNil, wBCons, wBOwn, rsvP, rsvJ, wNext, wRet, wRetN, wDrop, wIfS, wSet, wSetOwn, wNever, wAug, wOpO, wIxO, wOpR, wClO, wApp, wSetIt, wFrz, wFor, wRg1, wRg2, wSq, wEnum, wZip, wZipM, wZipS, wZipU, wgN, wgT, wgNil, wgCons, wYes, wAsgT, wgLs, wLenS, wIxS, wFnS, wFnJL, wFnX, wRaise, wRaiseF, wForFn, forFnW, wMet, hide, wIsi, wListOf, wRev, edP, edJ, enP, enJ, enS, NotOwn, Flat, List.map_cons, List.map_nil, List.length_cons, List.length_nil, List.replicate_succ, List.replicate_zero, List.cons_append, List.nil_append, List.append_nil, List.set_cons_zero, List.set_cons_succ, List.getElem?_cons_zero, List.getElem?_cons_succ, Nat.reduceAdd, Nat.reduceSub, Option.some.injEq, Sl.imm.injEq, Sl.own.injEq, Sl.scr.injEq, exists_eq_left, exists_eq_left', exists_eq_right, exists_eq, exists_eq', exists_and_left, and_assoc, and_true, true_and, ne_eq, not_false_eq_true, Nat.succ_ne_zero, or_true, true_or, true_implies, forall_eq', forall_eq, PyData.int.injEq, PyData.bool.injEq, PyData.list.injEq, PyData.tuple.injEq, List.cons.injEq, i_add, i_iadd, i_sub, i_mul, i_mod, i_fdiv, i_fdivG, i_pow, i_neg, i_le, i_ge, i_gt, i_lt, i_eq, i_ne, i_intI, i_intB, i_abs, i_max, i_min, i_lenL, i_lenT, i_ixL, i_ixT, i_tupL, i_tupT, i_truB, Bool.not_true, Bool.not_false, Bool.false_eq_true, if_true, if_false, reduceIte]
  refine ⟨pow_ok (by decide +kernel), pow_ok (by decide +kernel), by decide, by decide, by decide, by simp, by decide, fun odd ho g m c => ?_⟩
  have ho : odd ∈ Ls2 := ho
  (try dsimp only); rw [wSeq_eq]; simp -failIfUnchanged only [wf__law_sip, wDic, wVar, wC, wOp, wUn, wCl, wB, wTr, wAnd, wOr, wNot, wAndV, wOrV, wNotV, wIf, wCh, wNil, wCons, wTup, wLe, wSz, wFn, wFnJ, wFnB, wFnJB, wBNil, wBCons, wBOwn, rsvP, rsvJ, wNext, wRet, wRetN, wDrop, wIfS, wSet, wSetOwn, wNever, wAug, wOpO, wIxO, wOpR, wClO, wApp, wSetIt, wFrz, wFor, wRg1, wRg2, wSq, wEnum, wZip, wZipM, wZipS, wZipU, wgN, wgT, wgNil, wgCons, wYes, wAsgT, wgLs, wLenS, wIxS, wFnS, wFnJL, wFnX, wRaise, wRaiseF, wForFn, forFnW, wMet, hide, wIsi, wListOf, wRev, edP, edJ, enP, enJ, enS, NotOwn, Flat, List.map_cons, List.map_nil, List.length_cons, List.length_nil, List.replicate_succ, List.replicate_zero, List.cons_append, List.nil_append, List.append_nil, List.set_cons_zero, List.set_cons_succ, List.getElem?_cons_zero, List.getElem?_cons_succ, Nat.reduceAdd, Nat.reduceSub, Option.some.injEq, Sl.imm.injEq, Sl.own.injEq, Sl.scr.injEq, exists_eq_left, exists_eq_left', exists_eq_right, exists_eq, exists_eq', exists_and_left, and_assoc, and_true, true_and, ne_eq, not_false_eq_true, Nat.succ_ne_zero, or_true, true_or, true_implies, forall_eq', forall_eq, PyData.int.injEq, PyData.bool.injEq, PyData.list.injEq, PyData.tuple.injEq, List.cons.injEq, i_add, i_iadd, i_sub, i_mul, i_mod, i_fdiv, i_fdivG, i_pow, i_neg, i_le, i_ge, i_gt, i_lt, i_eq, i_ne, i_intI, i_intB, i_abs, i_max, i_min, i_lenL, i_lenT, i_ixL, i_ixT, i_tupL, i_tupT, i_truB, Bool.not_true, Bool.not_false, Bool.false_eq_true, if_true, if_false, reduceIte]
  refine ⟨by decide, by decide, by decide, by decide, by decide, by decide, _, Or.inr (Or.inl ⟨_, _, rfl, rfl, by simp, by decide, by decide, by decide, rfl⟩), by decide, by decide, by decide, by simp, by decide, fun row hr g m c => ?_⟩
  have hr : row ∈ Ls3 := hr
  (try dsimp only); rw [wSeq_eq]; simp -failIfUnchanged only [wf__law_sip, wVar, wC, wOp, wUn, wCl, wB, wTr, wAnd, wOr, wNot, wAndV, wOrV, wNotV, wIf, wCh, wNil, wCons, wTup, wLe, wSz, wFn, wFnJ, wFnB, wFnJB, wBNil, wBCons, wBOwn, rsvP, rsvJ, wNext, wRet, wRetN, wDrop, wIfS, wSet, wSetOwn, wNever, wAug, wOpO, wIxO, wOpR, wClO, wApp, wSetIt, wFrz, wFor, wRg1, wRg2, wSq, wEnum, wZip, wZipM, wZipS, wZipU, wgN, wgT, wgNil, wgCons, wYes, wAsgT, wgLs, wLenS, wIxS, wFnS, wFnJL, wFnX, wRaise, wRaiseF, wForFn, forFnW, wMet, hide, wIsi, wListOf, wRev, edP, edJ, enP, enJ, enS, NotOwn, Flat, List.map_cons, List.map_nil, List.length_cons, List.length_nil, List.replicate_succ, List.replicate_zero, List.cons_append, List.nil_append, List.append_nil, List.set_cons_zero, List.set_cons_succ, List.getElem?_cons_zero, List.getElem?_cons_succ, Nat.reduceAdd, Nat.reduceSub, Option.some.injEq, Sl.imm.injEq, Sl.own.injEq, Sl.scr.injEq, exists_eq_left, exists_eq_left', exists_eq_right, exists_eq, exists_eq', exists_and_left, and_assoc, and_true, true_and, ne_eq, not_false_eq_true, Nat.succ_ne_zero, or_true, true_or, true_implies, forall_eq', forall_eq, PyData.int.injEq, PyData.bool.injEq, PyData.list.injEq, PyData.tuple.injEq, List.cons.injEq, i_add, i_iadd, i_sub, i_mul, i_mod, i_fdiv, i_fdivG, i_pow, i_neg, i_le, i_ge, i_gt, i_lt, i_eq, i_ne, i_intI, i_intB, i_abs, i_max, i_min, i_lenL, i_lenT, i_ixL, i_ixT, i_tupL, i_tupT, i_truB, Bool.not_true, Bool.not_false, Bool.false_eq_true, if_true, if_false, reduceIte]
  refine ⟨pow_ok (by decide +kernel), pow_ok (by decide +kernel), by decide, by decide, by simp, by decide, fun times ht g m c => ?_⟩
  have ht : times ∈ Ls4 := ht
  (try dsimp only); rw [wSeq_eq]; simp -failIfUnchanged only [wf__law_sip, wVar, wC, wOp, wUn, wCl, wB, wTr, wAnd, wOr, wNot, wAndV, wOrV, wNotV, wIf, wCh, wNil, wCons, wTup, wLe, wSz, wFn, wFnJ, wFnB, wFnJB, wBNil, wBCons, wBOwn, rsvP, rsvJ, wNext, wRet, wRetN, wDrop, wIfS, wSet, wSetOwn, wNever, wAug, wOpO, wIxO, wOpR, wClO, wApp, wSetIt, wFrz, wFor, wRg1, wRg2, wSq, wEnum, wZip, wZipM, wZipS, wZipU, wgN, wgT, wgNil, wgCons, wYes, wAsgT, wgLs, wLenS, wIxS, wFnS, wFnJL, wFnX, wRaise, wRaiseF, wForFn, forFnW, wMet, hide, wIsi, wListOf, wRev, edP, edJ, enP, enJ, enS, NotOwn, Flat, List.map_cons, List.map_nil, List.length_cons, List.length_nil, List.replicate_succ, List.replicate_zero, List.cons_append, List.nil_append, List.append_nil, List.set_cons_zero, List.set_cons_succ, List.getElem?_cons_zero, List.getElem?_cons_succ, Nat.reduceAdd, Nat.reduceSub, Option.some.injEq, Sl.imm.injEq, Sl.own.injEq, Sl.scr.injEq, exists_eq_left, exists_eq_left', exists_eq_right, exists_eq, exists_eq', exists_and_left, and_assoc, and_true, true_and, ne_eq, not_false_eq_true, Nat.succ_ne_zero, or_true, true_or, true_implies, forall_eq', forall_eq, PyData.int.injEq, PyData.bool.injEq, PyData.list.injEq, PyData.tuple.injEq, List.cons.injEq, i_add, i_iadd, i_sub, i_mul, i_mod, i_fdiv, i_fdivG, i_pow, i_neg, i_le, i_ge, i_gt, i_lt, i_eq, i_ne, i_intI, i_intB, i_abs, i_max, i_min, i_lenL, i_lenT, i_ixL, i_ixT, i_tupL, i_tupT, i_truB, Bool.not_true, Bool.not_false, Bool.false_eq_true, if_true, if_false, reduceIte]
  refine ⟨pow_ok (by decide +kernel), by decide, by decide, by simp, by decide, fun many hm g m c => ?_⟩
  have hm : many ∈ Ls5 := hm
  obtain ⟨n1, n2⟩ := two l1_ok none hn
  obtain ⟨o1, o2⟩ := two l2_ok odd ho
  obtain ⟨r2, r1⟩ := two l3_ok row hr
  obtain ⟨t1, t2⟩ := two l4_ok times ht
  obtain ⟨m1, m2⟩ := two l5_ok many hm
  have n2 := noB n2
  have o2 := noB o2
  have r2 := noB r2
  have t2 := noB t2
  have m2 := noB m2
  (try dsimp only); rw [wSeq_eq]; simp -failIfUnchanged only [wParOO, wVar, wC, wOp, wUn, wCl, wB, wTr, wAnd, wOr, wNot, wAndV, wOrV, wNotV, wIf, wCh, wNil, wCons, wTup, wLe, wSz, wFn, wFnJ, wFnB, wFnJB, wBNil, wBCons, wBOwn, rsvP, rsvJ, wNext, wRet, wRetN, wDrop, wIfS, wSet, wSetOwn, wNever, wAug, wOpO, wIxO, wOpR, wClO, wApp, wSetIt, wFrz, wFor, wRg1, wRg2, wSq, wEnum, wZip, wZipM, wZipS, wZipU, wgN, wgT, wgNil, wgCons, wYes, wAsgT, wgLs, wLenS, wIxS, wFnS, wFnJL, wFnX, wRaise, wRaiseF, wForFn, forFnW, wMet, hide, wIsi, wListOf, wRev, edP, edJ, enP, enJ, enS, NotOwn, Flat, List.map_cons, List.map_nil, List.length_cons, List.length_nil, List.replicate_succ, List.replicate_zero, List.cons_append, List.nil_append, List.append_nil, List.set_cons_zero, List.set_cons_succ, List.getElem?_cons_zero, List.getElem?_cons_succ, Nat.reduceAdd, Nat.reduceSub, Option.some.injEq, Sl.imm.injEq, Sl.own.injEq, Sl.scr.injEq, exists_eq_left, exists_eq_left', exists_eq_right, exists_eq, exists_eq', exists_and_left, and_assoc, and_true, true_and, ne_eq, not_false_eq_true, Nat.succ_ne_zero, or_true, true_or, true_implies, forall_eq', forall_eq, PyData.int.injEq, PyData.bool.injEq, PyData.list.injEq, PyData.tuple.injEq, List.cons.injEq, i_add, i_iadd, i_sub, i_mul, i_mod, i_fdiv, i_fdivG, i_pow, i_neg, i_le, i_ge, i_gt, i_lt, i_eq, i_ne, i_intI, i_intB, i_abs, i_max, i_min, i_lenL, i_lenT, i_ixL, i_ixT, i_tupL, i_tupT, i_truB, Bool.not_true, Bool.not_false, Bool.false_eq_true, if_true, if_false, reduceIte]
  refine ⟨by decide, by decide, ?_⟩
  clear hn ho hr ht hm
  (try dsimp only); rw [wSeq_eq]; simp -failIfUnchanged only [wCallV, wVar, wC, wOp, wUn, wCl, wB, wTr, wAnd, wOr, wNot, wAndV, wOrV, wNotV, wIf, wCh, wNil, wCons, wTup, wLe, wSz, wFn, wFnJ, wFnB, wFnJB, wBNil, wBCons, wBOwn, rsvP, rsvJ, wNext, wRet, wRetN, wDrop, wIfS, wSet, wSetOwn, wNever, wAug, wOpO, wIxO, wOpR, wClO, wApp, wSetIt, wFrz, wFor, wRg1, wRg2, wSq, wEnum, wZip, wZipM, wZipS, wZipU, wgN, wgT, wgNil, wgCons, wYes, wAsgT, wgLs, wLenS, wIxS, wFnS, wFnJL, wFnX, wRaise, wRaiseF, wForFn, forFnW, wMet, hide, wIsi, wListOf, wRev, edP, edJ, enP, enJ, enS, NotOwn, Flat, List.map_cons, List.map_nil, List.length_cons, List.length_nil, List.replicate_succ, List.replicate_zero, List.cons_append, List.nil_append, List.append_nil, List.set_cons_zero, List.set_cons_succ, List.getElem?_cons_zero, List.getElem?_cons_succ, Nat.reduceAdd, Nat.reduceSub, Option.some.injEq, Sl.imm.injEq, Sl.own.injEq, Sl.scr.injEq, exists_eq_left, exists_eq_left', exists_eq_right, exists_eq, exists_eq', exists_and_left, and_assoc, and_true, true_and, ne_eq, not_false_eq_true, Nat.succ_ne_zero, or_true, true_or, true_implies, forall_eq', forall_eq, PyData.int.injEq, PyData.bool.injEq, PyData.list.injEq, PyData.tuple.injEq, List.cons.injEq, i_add, i_iadd, i_sub, i_mul, i_mod, i_fdiv, i_fdivG, i_pow, i_neg, i_le, i_ge, i_gt, i_lt, i_eq, i_ne, i_intI, i_intB, i_abs, i_max, i_min, i_lenL, i_lenT, i_ixL, i_ixT, i_tupL, i_tupT, i_truB, Bool.not_true, Bool.not_false, Bool.false_eq_true, if_true, if_false, reduceIte]
  refine ⟨_, rfl, _, List.mem_cons_self, inv_np n2 (met_num n1 ⟨by decide, _, rfl, _, .tail _ (.head _), num_np n2 (met_num n1 ⟨by decide, ?_⟩)⟩)⟩
  (try dsimp only); rw [wSeq_eq]; simp -failIfUnchanged only [wCallV, wVar, wC, wOp, wUn, wCl, wB, wTr, wAnd, wOr, wNot, wAndV, wOrV, wNotV, wIf, wCh, wNil, wCons, wTup, wLe, wSz, wFn, wFnJ, wFnB, wFnJB, wBNil, wBCons, wBOwn, rsvP, rsvJ, wNext, wRet, wRetN, wDrop, wIfS, wSet, wSetOwn, wNever, wAug, wOpO, wIxO, wOpR, wClO, wApp, wSetIt, wFrz, wFor, wRg1, wRg2, wSq, wEnum, wZip, wZipM, wZipS, wZipU, wgN, wgT, wgNil, wgCons, wYes, wAsgT, wgLs, wLenS, wIxS, wFnS, wFnJL, wFnX, wRaise, wRaiseF, wForFn, forFnW, wMet, hide, wIsi, wListOf, wRev, edP, edJ, enP, enJ, enS, NotOwn, Flat, List.map_cons, List.map_nil, List.length_cons, List.length_nil, List.replicate_succ, List.replicate_zero, List.cons_append, List.nil_append, List.append_nil, List.set_cons_zero, List.set_cons_succ, List.getElem?_cons_zero, List.getElem?_cons_succ, Nat.reduceAdd, Nat.reduceSub, Option.some.injEq, Sl.imm.injEq, Sl.own.injEq, Sl.scr.injEq, exists_eq_left, exists_eq_left', exists_eq_right, exists_eq, exists_eq', exists_and_left, and_assoc, and_true, true_and, ne_eq, not_false_eq_true, Nat.succ_ne_zero, or_true, true_or, true_implies, forall_eq', forall_eq, PyData.int.injEq, PyData.bool.injEq, PyData.list.injEq, PyData.tuple.injEq, List.cons.injEq, i_add, i_iadd, i_sub, i_mul, i_mod, i_fdiv, i_fdivG, i_pow, i_neg, i_le, i_ge, i_gt, i_lt, i_eq, i_ne, i_intI, i_intB, i_abs, i_max, i_min, i_lenL, i_lenT, i_ixL, i_ixT, i_tupL, i_tupT, i_truB, Bool.not_true, Bool.not_false, Bool.false_eq_true, if_true, if_false, reduceIte]
  refine ⟨_, rfl, _, .head _, pow_np n2 (met_num n1 ⟨by decide, _, rfl, _, .tail _ (.head _), let_np n2 (met_num n1 ⟨by decide, _, rfl, _, .tail _ (.tail _ (.head _)), exp_np n2 (met_num n1 ⟨by decide, ?_⟩)⟩)⟩)⟩
  (try dsimp only); rw [wSeq_eq]; simp -failIfUnchanged only [wVar, wC, wOp, wUn, wCl, wB, wTr, wAnd, wOr, wNot, wAndV, wOrV, wNotV, wIf, wCh, wNil, wCons, wTup, wLe, wSz, wFn, wFnJ, wFnB, wFnJB, wBNil, wBCons, wBOwn, rsvP, rsvJ, wNext, wRet, wRetN, wDrop, wIfS, wSet, wSetOwn, wNever, wAug, wOpO, wIxO, wOpR, wClO, wApp, wSetIt, wFrz, wFor, wRg1, wRg2, wSq, wEnum, wZip, wZipM, wZipS, wZipU, wgN, wgT, wgNil, wgCons, wYes, wAsgT, wgLs, wLenS, wIxS, wFnS, wFnJL, wFnX, wRaise, wRaiseF, wForFn, forFnW, wMet, hide, wIsi, wListOf, wRev, edP, edJ, enP, enJ, enS, NotOwn, Flat, List.map_cons, List.map_nil, List.length_cons, List.length_nil, List.replicate_succ, List.replicate_zero, List.cons_append, List.nil_append, List.append_nil, List.set_cons_zero, List.set_cons_succ, List.getElem?_cons_zero, List.getElem?_cons_succ, Nat.reduceAdd, Nat.reduceSub, Option.some.injEq, Sl.imm.injEq, Sl.own.injEq, Sl.scr.injEq, exists_eq_left, exists_eq_left', exists_eq_right, exists_eq, exists_eq', exists_and_left, and_assoc, and_true, true_and, ne_eq, not_false_eq_true, Nat.succ_ne_zero, or_true, true_or, true_implies, forall_eq', forall_eq, PyData.int.injEq, PyData.bool.injEq, PyData.list.injEq, PyData.tuple.injEq, List.cons.injEq, i_add, i_iadd, i_sub, i_mul, i_mod, i_fdiv, i_fdivG, i_pow, i_neg, i_le, i_ge, i_gt, i_lt, i_eq, i_ne, i_intI, i_intB, i_abs, i_max, i_min, i_lenL, i_lenT, i_ixL, i_ixT, i_tupL, i_tupT, i_truB, Bool.not_true, Bool.not_false, Bool.false_eq_true, if_true, if_false, reduceIte]
  refine root_np n2 (met_num n1 ⟨by decide, ?_⟩)
  (try dsimp only); rw [wSeq_eq]; simp -failIfUnchanged only [wCatO, rep_of n1, wVar, wC, wOp, wUn, wCl, wB, wTr, wAnd, wOr, wNot, wAndV, wOrV, wNotV, wIf, wCh, wNil, wCons, wTup, wLe, wSz, wFn, wFnJ, wFnB, wFnJB, wBNil, wBCons, wBOwn, rsvP, rsvJ, wNext, wRet, wRetN, wDrop, wIfS, wSet, wSetOwn, wNever, wAug, wOpO, wIxO, wOpR, wClO, wApp, wSetIt, wFrz, wFor, wRg1, wRg2, wSq, wEnum, wZip, wZipM, wZipS, wZipU, wgN, wgT, wgNil, wgCons, wYes, wAsgT, wgLs, wLenS, wIxS, wFnS, wFnJL, wFnX, wRaise, wRaiseF, wForFn, forFnW, wMet, hide, wIsi, wListOf, wRev, edP, edJ, enP, enJ, enS, NotOwn, Flat, List.map_cons, List.map_nil, List.length_cons, List.length_nil, List.replicate_succ, List.replicate_zero, List.cons_append, List.nil_append, List.append_nil, List.set_cons_zero, List.set_cons_succ, List.getElem?_cons_zero, List.getElem?_cons_succ, Nat.reduceAdd, Nat.reduceSub, Option.some.injEq, Sl.imm.injEq, Sl.own.injEq, Sl.scr.injEq, exists_eq_left, exists_eq_left', exists_eq_right, exists_eq, exists_eq', exists_and_left, and_assoc, and_true, true_and, ne_eq, not_false_eq_true, Nat.succ_ne_zero, or_true, true_or, true_implies, forall_eq', forall_eq, PyData.int.injEq, PyData.bool.injEq, PyData.list.injEq, PyData.tuple.injEq, List.cons.injEq, i_add, i_iadd, i_sub, i_mul, i_mod, i_fdiv, i_fdivG, i_pow, i_neg, i_le, i_ge, i_gt, i_lt, i_eq, i_ne, i_intI, i_intB, i_abs, i_max, i_min, i_lenL, i_lenT, i_ixL, i_ixT, i_tupL, i_tupT, i_truB, Bool.not_true, Bool.not_false, Bool.false_eq_true, if_true, if_false, reduceIte]
  refine ⟨by decide, by decide, _, rep_list (K' := 6) (by decide) (by show 1 ≤ 1000; decide), _, rfl, by show 6 ≤ sizeLine; decide, ?_⟩
  (try dsimp only); rw [wSeq_eq]; simp -failIfUnchanged only [wVar, wC, wOp, wUn, wCl, wB, wTr, wAnd, wOr, wNot, wAndV, wOrV, wNotV, wIf, wCh, wNil, wCons, wTup, wLe, wSz, wFn, wFnJ, wFnB, wFnJB, wBNil, wBCons, wBOwn, rsvP, rsvJ, wNext, wRet, wRetN, wDrop, wIfS, wSet, wSetOwn, wNever, wAug, wOpO, wIxO, wOpR, wClO, wApp, wSetIt, wFrz, wFor, wRg1, wRg2, wSq, wEnum, wZip, wZipM, wZipS, wZipU, wgN, wgT, wgNil, wgCons, wYes, wAsgT, wgLs, wLenS, wIxS, wFnS, wFnJL, wFnX, wRaise, wRaiseF, wForFn, forFnW, wMet, hide, wIsi, wListOf, wRev, edP, edJ, enP, enJ, enS, NotOwn, Flat, List.map_cons, List.map_nil, List.length_cons, List.length_nil, List.replicate_succ, List.replicate_zero, List.cons_append, List.nil_append, List.append_nil, List.set_cons_zero, List.set_cons_succ, List.getElem?_cons_zero, List.getElem?_cons_succ, Nat.reduceAdd, Nat.reduceSub, Option.some.injEq, Sl.imm.injEq, Sl.own.injEq, Sl.scr.injEq, exists_eq_left, exists_eq_left', exists_eq_right, exists_eq, exists_eq', exists_and_left, and_assoc, and_true, true_and, ne_eq, not_false_eq_true, Nat.succ_ne_zero, or_true, true_or, true_implies, forall_eq', forall_eq, PyData.int.injEq, PyData.bool.injEq, PyData.list.injEq, PyData.tuple.injEq, List.cons.injEq, i_add, i_iadd, i_sub, i_mul, i_mod, i_fdiv, i_fdivG, i_pow, i_neg, i_le, i_ge, i_gt, i_lt, i_eq, i_ne, i_intI, i_intB, i_abs, i_max, i_min, i_lenL, i_lenT, i_ixL, i_ixT, i_tupL, i_tupT, i_truB, Bool.not_true, Bool.not_false, Bool.false_eq_true, if_true, if_false, reduceIte]
  refine inv_nl o2 (met_num o1 ⟨by decide, ?_⟩)
  (try dsimp only); rw [wSeq_eq]; simp -failIfUnchanged only [wVar, wC, wOp, wUn, wCl, wB, wTr, wAnd, wOr, wNot, wAndV, wOrV, wNotV, wIf, wCh, wNil, wCons, wTup, wLe, wSz, wFn, wFnJ, wFnB, wFnJB, wBNil, wBCons, wBOwn, rsvP, rsvJ, wNext, wRet, wRetN, wDrop, wIfS, wSet, wSetOwn, wNever, wAug, wOpO, wIxO, wOpR, wClO, wApp, wSetIt, wFrz, wFor, wRg1, wRg2, wSq, wEnum, wZip, wZipM, wZipS, wZipU, wgN, wgT, wgNil, wgCons, wYes, wAsgT, wgLs, wLenS, wIxS, wFnS, wFnJL, wFnX, wRaise, wRaiseF, wForFn, forFnW, wMet, hide, wIsi, wListOf, wRev, edP, edJ, enP, enJ, enS, NotOwn, Flat, List.map_cons, List.map_nil, List.length_cons, List.length_nil, List.replicate_succ, List.replicate_zero, List.cons_append, List.nil_append, List.append_nil, List.set_cons_zero, List.set_cons_succ, List.getElem?_cons_zero, List.getElem?_cons_succ, Nat.reduceAdd, Nat.reduceSub, Option.some.injEq, Sl.imm.injEq, Sl.own.injEq, Sl.scr.injEq, exists_eq_left, exists_eq_left', exists_eq_right, exists_eq, exists_eq', exists_and_left, and_assoc, and_true, true_and, ne_eq, not_false_eq_true, Nat.succ_ne_zero, or_true, true_or, true_implies, forall_eq', forall_eq, PyData.int.injEq, PyData.bool.injEq, PyData.list.injEq, PyData.tuple.injEq, List.cons.injEq, i_add, i_iadd, i_sub, i_mul, i_mod, i_fdiv, i_fdivG, i_pow, i_neg, i_le, i_ge, i_gt, i_lt, i_eq, i_ne, i_intI, i_intB, i_abs, i_max, i_min, i_lenL, i_lenT, i_ixL, i_ixT, i_tupL, i_tupT, i_truB, Bool.not_true, Bool.not_false, Bool.false_eq_true, if_true, if_false, reduceIte]
  refine pow_nl o2 (met_num o1 ⟨by decide, ?_⟩)
  (try dsimp only); rw [wSeq_eq]; simp -failIfUnchanged only [wVar, wC, wOp, wUn, wCl, wB, wTr, wAnd, wOr, wNot, wAndV, wOrV, wNotV, wIf, wCh, wNil, wCons, wTup, wLe, wSz, wFn, wFnJ, wFnB, wFnJB, wBNil, wBCons, wBOwn, rsvP, rsvJ, wNext, wRet, wRetN, wDrop, wIfS, wSet, wSetOwn, wNever, wAug, wOpO, wIxO, wOpR, wClO, wApp, wSetIt, wFrz, wFor, wRg1, wRg2, wSq, wEnum, wZip, wZipM, wZipS, wZipU, wgN, wgT, wgNil, wgCons, wYes, wAsgT, wgLs, wLenS, wIxS, wFnS, wFnJL, wFnX, wRaise, wRaiseF, wForFn, forFnW, wMet, hide, wIsi, wListOf, wRev, edP, edJ, enP, enJ, enS, NotOwn, Flat, List.map_cons, List.map_nil, List.length_cons, List.length_nil, List.replicate_succ, List.replicate_zero, List.cons_append, List.nil_append, List.append_nil, List.set_cons_zero, List.set_cons_succ, List.getElem?_cons_zero, List.getElem?_cons_succ, Nat.reduceAdd, Nat.reduceSub, Option.some.injEq, Sl.imm.injEq, Sl.own.injEq, Sl.scr.injEq, exists_eq_left, exists_eq_left', exists_eq_right, exists_eq, exists_eq', exists_and_left, and_assoc, and_true, true_and, ne_eq, not_false_eq_true, Nat.succ_ne_zero, or_true, true_or, true_implies, forall_eq', forall_eq, PyData.int.injEq, PyData.bool.injEq, PyData.list.injEq, PyData.tuple.injEq, List.cons.injEq, i_add, i_iadd, i_sub, i_mul, i_mod, i_fdiv, i_fdivG, i_pow, i_neg, i_le, i_ge, i_gt, i_lt, i_eq, i_ne, i_intI, i_intB, i_abs, i_max, i_min, i_lenL, i_lenT, i_ixL, i_ixT, i_tupL, i_tupT, i_truB, Bool.not_true, Bool.not_false, Bool.false_eq_true, if_true, if_false, reduceIte]
  refine exp_nb o2 (met_num o1 ⟨by decide, ?_⟩)
  (try dsimp only); rw [wSeq_eq]; simp -failIfUnchanged only [wVar, wC, wOp, wUn, wCl, wB, wTr, wAnd, wOr, wNot, wAndV, wOrV, wNotV, wIf, wCh, wNil, wCons, wTup, wLe, wSz, wFn, wFnJ, wFnB, wFnJB, wBNil, wBCons, wBOwn, rsvP, rsvJ, wNext, wRet, wRetN, wDrop, wIfS, wSet, wSetOwn, wNever, wAug, wOpO, wIxO, wOpR, wClO, wApp, wSetIt, wFrz, wFor, wRg1, wRg2, wSq, wEnum, wZip, wZipM, wZipS, wZipU, wgN, wgT, wgNil, wgCons, wYes, wAsgT, wgLs, wLenS, wIxS, wFnS, wFnJL, wFnX, wRaise, wRaiseF, wForFn, forFnW, wMet, hide, wIsi, wListOf, wRev, edP, edJ, enP, enJ, enS, NotOwn, Flat, List.map_cons, List.map_nil, List.length_cons, List.length_nil, List.replicate_succ, List.replicate_zero, List.cons_append, List.nil_append, List.append_nil, List.set_cons_zero, List.set_cons_succ, List.getElem?_cons_zero, List.getElem?_cons_succ, Nat.reduceAdd, Nat.reduceSub, Option.some.injEq, Sl.imm.injEq, Sl.own.injEq, Sl.scr.injEq, exists_eq_left, exists_eq_left', exists_eq_right, exists_eq, exists_eq', exists_and_left, and_assoc, and_true, true_and, ne_eq, not_false_eq_true, Nat.succ_ne_zero, or_true, true_or, true_implies, forall_eq', forall_eq, PyData.int.injEq, PyData.bool.injEq, PyData.list.injEq, PyData.tuple.injEq, List.cons.injEq, i_add, i_iadd, i_sub, i_mul, i_mod, i_fdiv, i_fdivG, i_pow, i_neg, i_le, i_ge, i_gt, i_lt, i_eq, i_ne, i_intI, i_intB, i_abs, i_max, i_min, i_lenL, i_lenT, i_ixL, i_ixT, i_tupL, i_tupT, i_truB, Bool.not_true, Bool.not_false, Bool.false_eq_true, if_true, if_false, reduceIte]
  refine exp_nl o2 (met_num o1 ⟨by decide, ?_⟩)
  (try dsimp only); rw [wSeq_eq]; simp -failIfUnchanged only [wCatO, rep_of o1, wVar, wC, wOp, wUn, wCl, wB, wTr, wAnd, wOr, wNot, wAndV, wOrV, wNotV, wIf, wCh, wNil, wCons, wTup, wLe, wSz, wFn, wFnJ, wFnB, wFnJB, wBNil, wBCons, wBOwn, rsvP, rsvJ, wNext, wRet, wRetN, wDrop, wIfS, wSet, wSetOwn, wNever, wAug, wOpO, wIxO, wOpR, wClO, wApp, wSetIt, wFrz, wFor, wRg1, wRg2, wSq, wEnum, wZip, wZipM, wZipS, wZipU, wgN, wgT, wgNil, wgCons, wYes, wAsgT, wgLs, wLenS, wIxS, wFnS, wFnJL, wFnX, wRaise, wRaiseF, wForFn, forFnW, wMet, hide, wIsi, wListOf, wRev, edP, edJ, enP, enJ, enS, NotOwn, Flat, List.map_cons, List.map_nil, List.length_cons, List.length_nil, List.replicate_succ, List.replicate_zero, List.cons_append, List.nil_append, List.append_nil, List.set_cons_zero, List.set_cons_succ, List.getElem?_cons_zero, List.getElem?_cons_succ, Nat.reduceAdd, Nat.reduceSub, Option.some.injEq, Sl.imm.injEq, Sl.own.injEq, Sl.scr.injEq, exists_eq_left, exists_eq_left', exists_eq_right, exists_eq, exists_eq', exists_and_left, and_assoc, and_true, true_and, ne_eq, not_false_eq_true, Nat.succ_ne_zero, or_true, true_or, true_implies, forall_eq', forall_eq, PyData.int.injEq, PyData.bool.injEq, PyData.list.injEq, PyData.tuple.injEq, List.cons.injEq, i_add, i_iadd, i_sub, i_mul, i_mod, i_fdiv, i_fdivG, i_pow, i_neg, i_le, i_ge, i_gt, i_lt, i_eq, i_ne, i_intI, i_intB, i_abs, i_max, i_min, i_lenL, i_lenT, i_ixL, i_ixT, i_tupL, i_tupT, i_truB, Bool.not_true, Bool.not_false, Bool.false_eq_true, if_true, if_false, reduceIte]
  refine ⟨by decide, by decide, _, rep_list (K' := 4) (by decide) (by show 1 ≤ 1000; decide), _, rfl, by show 10 ≤ sizeLine; decide, ?_⟩
  (try dsimp only); rw [wSeq_eq]; simp -failIfUnchanged only [wVar, wC, wOp, wUn, wCl, wB, wTr, wAnd, wOr, wNot, wAndV, wOrV, wNotV, wIf, wCh, wNil, wCons, wTup, wLe, wSz, wFn, wFnJ, wFnB, wFnJB, wBNil, wBCons, wBOwn, rsvP, rsvJ, wNext, wRet, wRetN, wDrop, wIfS, wSet, wSetOwn, wNever, wAug, wOpO, wIxO, wOpR, wClO, wApp, wSetIt, wFrz, wFor, wRg1, wRg2, wSq, wEnum, wZip, wZipM, wZipS, wZipU, wgN, wgT, wgNil, wgCons, wYes, wAsgT, wgLs, wLenS, wIxS, wFnS, wFnJL, wFnX, wRaise, wRaiseF, wForFn, forFnW, wMet, hide, wIsi, wListOf, wRev, edP, edJ, enP, enJ, enS, NotOwn, Flat, List.map_cons, List.map_nil, List.length_cons, List.length_nil, List.replicate_succ, List.replicate_zero, List.cons_append, List.nil_append, List.append_nil, List.set_cons_zero, List.set_cons_succ, List.getElem?_cons_zero, List.getElem?_cons_succ, Nat.reduceAdd, Nat.reduceSub, Option.some.injEq, Sl.imm.injEq, Sl.own.injEq, Sl.scr.injEq, exists_eq_left, exists_eq_left', exists_eq_right, exists_eq, exists_eq', exists_and_left, and_assoc, and_true, true_and, ne_eq, not_false_eq_true, Nat.succ_ne_zero, or_true, true_or, true_implies, forall_eq', forall_eq, PyData.int.injEq, PyData.bool.injEq, PyData.list.injEq, PyData.tuple.injEq, List.cons.injEq, i_add, i_iadd, i_sub, i_mul, i_mod, i_fdiv, i_fdivG, i_pow, i_neg, i_le, i_ge, i_gt, i_lt, i_eq, i_ne, i_intI, i_intB, i_abs, i_max, i_min, i_lenL, i_lenT, i_ixL, i_ixT, i_tupL, i_tupT, i_truB, Bool.not_true, Bool.not_false, Bool.false_eq_true, if_true, if_false, reduceIte]
  refine pow_nt t2 (met_num t1 ⟨by decide, ?_⟩)
  (try dsimp only); rw [wSeq_eq]; simp -failIfUnchanged only [wVar, wC, wOp, wUn, wCl, wB, wTr, wAnd, wOr, wNot, wAndV, wOrV, wNotV, wIf, wCh, wNil, wCons, wTup, wLe, wSz, wFn, wFnJ, wFnB, wFnJB, wBNil, wBCons, wBOwn, rsvP, rsvJ, wNext, wRet, wRetN, wDrop, wIfS, wSet, wSetOwn, wNever, wAug, wOpO, wIxO, wOpR, wClO, wApp, wSetIt, wFrz, wFor, wRg1, wRg2, wSq, wEnum, wZip, wZipM, wZipS, wZipU, wgN, wgT, wgNil, wgCons, wYes, wAsgT, wgLs, wLenS, wIxS, wFnS, wFnJL, wFnX, wRaise, wRaiseF, wForFn, forFnW, wMet, hide, wIsi, wListOf, wRev, edP, edJ, enP, enJ, enS, NotOwn, Flat, List.map_cons, List.map_nil, List.length_cons, List.length_nil, List.replicate_succ, List.replicate_zero, List.cons_append, List.nil_append, List.append_nil, List.set_cons_zero, List.set_cons_succ, List.getElem?_cons_zero, List.getElem?_cons_succ, Nat.reduceAdd, Nat.reduceSub, Option.some.injEq, Sl.imm.injEq, Sl.own.injEq, Sl.scr.injEq, exists_eq_left, exists_eq_left', exists_eq_right, exists_eq, exists_eq', exists_and_left, and_assoc, and_true, true_and, ne_eq, not_false_eq_true, Nat.succ_ne_zero, or_true, true_or, true_implies, forall_eq', forall_eq, PyData.int.injEq, PyData.bool.injEq, PyData.list.injEq, PyData.tuple.injEq, List.cons.injEq, i_add, i_iadd, i_sub, i_mul, i_mod, i_fdiv, i_fdivG, i_pow, i_neg, i_le, i_ge, i_gt, i_lt, i_eq, i_ne, i_intI, i_intB, i_abs, i_max, i_min, i_lenL, i_lenT, i_ixL, i_ixT, i_tupL, i_tupT, i_truB, Bool.not_true, Bool.not_false, Bool.false_eq_true, if_true, if_false, reduceIte]
  refine let_nm m2 (met_num m1 ⟨by decide, ?_⟩)
  (try dsimp only); rw [wSeq_eq]; simp -failIfUnchanged only [wVar, wC, wOp, wUn, wCl, wB, wTr, wAnd, wOr, wNot, wAndV, wOrV, wNotV, wIf, wCh, wNil, wCons, wTup, wLe, wSz, wFn, wFnJ, wFnB, wFnJB, wBNil, wBCons, wBOwn, rsvP, rsvJ, wNext, wRet, wRetN, wDrop, wIfS, wSet, wSetOwn, wNever, wAug, wOpO, wIxO, wOpR, wClO, wApp, wSetIt, wFrz, wFor, wRg1, wRg2, wSq, wEnum, wZip, wZipM, wZipS, wZipU, wgN, wgT, wgNil, wgCons, wYes, wAsgT, wgLs, wLenS, wIxS, wFnS, wFnJL, wFnX, wRaise, wRaiseF, wForFn, forFnW, wMet, hide, wIsi, wListOf, wRev, edP, edJ, enP, enJ, enS, NotOwn, Flat, List.map_cons, List.map_nil, List.length_cons, List.length_nil, List.replicate_succ, List.replicate_zero, List.cons_append, List.nil_append, List.append_nil, List.set_cons_zero, List.set_cons_succ, List.getElem?_cons_zero, List.getElem?_cons_succ, Nat.reduceAdd, Nat.reduceSub, Option.some.injEq, Sl.imm.injEq, Sl.own.injEq, Sl.scr.injEq, exists_eq_left, exists_eq_left', exists_eq_right, exists_eq, exists_eq', exists_and_left, and_assoc, and_true, true_and, ne_eq, not_false_eq_true, Nat.succ_ne_zero, or_true, true_or, true_implies, forall_eq', forall_eq, PyData.int.injEq, PyData.bool.injEq, PyData.list.injEq, PyData.tuple.injEq, List.cons.injEq, i_add, i_iadd, i_sub, i_mul, i_mod, i_fdiv, i_fdivG, i_pow, i_neg, i_le, i_ge, i_gt, i_lt, i_eq, i_ne, i_intI, i_intB, i_abs, i_max, i_min, i_lenL, i_lenT, i_ixL, i_ixT, i_tupL, i_tupT, i_truB, Bool.not_true, Bool.not_false, Bool.false_eq_true, if_true, if_false, reduceIte]
  refine num_nr r2 r1 (met_row ⟨by decide, ?_⟩)
  (try dsimp only); rw [wSeq_eq]; simp -failIfUnchanged only [wCatO, rep_of t1, rep_of m1, wVar, wC, wOp, wUn, wCl, wB, wTr, wAnd, wOr, wNot, wAndV, wOrV, wNotV, wIf, wCh, wNil, wCons, wTup, wLe, wSz, wFn, wFnJ, wFnB, wFnJB, wBNil, wBCons, wBOwn, rsvP, rsvJ, wNext, wRet, wRetN, wDrop, wIfS, wSet, wSetOwn, wNever, wAug, wOpO, wIxO, wOpR, wClO, wApp, wSetIt, wFrz, wFor, wRg1, wRg2, wSq, wEnum, wZip, wZipM, wZipS, wZipU, wgN, wgT, wgNil, wgCons, wYes, wAsgT, wgLs, wLenS, wIxS, wFnS, wFnJL, wFnX, wRaise, wRaiseF, wForFn, forFnW, wMet, hide, wIsi, wListOf, wRev, edP, edJ, enP, enJ, enS, NotOwn, Flat, List.map_cons, List.map_nil, List.length_cons, List.length_nil, List.replicate_succ, List.replicate_zero, List.cons_append, List.nil_append, List.append_nil, List.set_cons_zero, List.set_cons_succ, List.getElem?_cons_zero, List.getElem?_cons_succ, Nat.reduceAdd, Nat.reduceSub, Option.some.injEq, Sl.imm.injEq, Sl.own.injEq, Sl.scr.injEq, exists_eq_left, exists_eq_left', exists_eq_right, exists_eq, exists_eq', exists_and_left, and_assoc, and_true, true_and, ne_eq, not_false_eq_true, Nat.succ_ne_zero, or_true, true_or, true_implies, forall_eq', forall_eq, PyData.int.injEq, PyData.bool.injEq, PyData.list.injEq, PyData.tuple.injEq, List.cons.injEq, i_add, i_iadd, i_sub, i_mul, i_mod, i_fdiv, i_fdivG, i_pow, i_neg, i_le, i_ge, i_gt, i_lt, i_eq, i_ne, i_intI, i_intB, i_abs, i_max, i_min, i_lenL, i_lenT, i_ixL, i_ixT, i_tupL, i_tupT, i_truB, Bool.not_true, Bool.not_false, Bool.false_eq_true, if_true, if_false, reduceIte]
  refine ⟨by decide, by decide, by decide, by show 13 ≤ sizeLine; decide, ?_⟩
  (try dsimp only); rw [wSeq_eq]; simp -failIfUnchanged only [wf__law_pour, wVar, wC, wOp, wUn, wCl, wB, wTr, wAnd, wOr, wNot, wAndV, wOrV, wNotV, wIf, wCh, wNil, wCons, wTup, wLe, wSz, wFn, wFnJ, wFnB, wFnJB, wBNil, wBCons, wBOwn, rsvP, rsvJ, wNext, wRet, wRetN, wDrop, wIfS, wSet, wSetOwn, wNever, wAug, wOpO, wIxO, wOpR, wClO, wApp, wSetIt, wFrz, wFor, wRg1, wRg2, wSq, wEnum, wZip, wZipM, wZipS, wZipU, wgN, wgT, wgNil, wgCons, wYes, wAsgT, wgLs, wLenS, wIxS, wFnS, wFnJL, wFnX, wRaise, wRaiseF, wForFn, forFnW, wMet, hide, wIsi, wListOf, wRev, edP, edJ, enP, enJ, enS, NotOwn, Flat, List.map_cons, List.map_nil, List.length_cons, List.length_nil, List.replicate_succ, List.replicate_zero, List.cons_append, List.nil_append, List.append_nil, List.set_cons_zero, List.set_cons_succ, List.getElem?_cons_zero, List.getElem?_cons_succ, Nat.reduceAdd, Nat.reduceSub, Option.some.injEq, Sl.imm.injEq, Sl.own.injEq, Sl.scr.injEq, exists_eq_left, exists_eq_left', exists_eq_right, exists_eq, exists_eq', exists_and_left, and_assoc, and_true, true_and, ne_eq, not_false_eq_true, Nat.succ_ne_zero, or_true, true_or, true_implies, forall_eq', forall_eq, PyData.int.injEq, PyData.bool.injEq, PyData.list.injEq, PyData.tuple.injEq, List.cons.injEq, i_add, i_iadd, i_sub, i_mul, i_mod, i_fdiv, i_fdivG, i_pow, i_neg, i_le, i_ge, i_gt, i_lt, i_eq, i_ne, i_intI, i_intB, i_abs, i_max, i_min, i_lenL, i_lenT, i_ixL, i_ixT, i_tupL, i_tupT, i_truB, Bool.not_true, Bool.not_false, Bool.false_eq_true, if_true, if_false, reduceIte]
  refine ⟨by decide, log_lt (by decide) (by decide), fun pl g m c p0 p5 => ?_⟩
  (try dsimp only); rw [wSeq_eq]; simp -failIfUnchanged only [wf__law_sip, wVar, wC, wOp, wUn, wCl, wB, wTr, wAnd, wOr, wNot, wAndV, wOrV, wNotV, wIf, wCh, wNil, wCons, wTup, wLe, wSz, wFn, wFnJ, wFnB, wFnJB, wBNil, wBCons, wBOwn, rsvP, rsvJ, wNext, wRet, wRetN, wDrop, wIfS, wSet, wSetOwn, wNever, wAug, wOpO, wIxO, wOpR, wClO, wApp, wSetIt, wFrz, wFor, wRg1, wRg2, wSq, wEnum, wZip, wZipM, wZipS, wZipU, wgN, wgT, wgNil, wgCons, wYes, wAsgT, wgLs, wLenS, wIxS, wFnS, wFnJL, wFnX, wRaise, wRaiseF, wForFn, forFnW, wMet, hide, wIsi, wListOf, wRev, edP, edJ, enP, enJ, enS, NotOwn, Flat, List.map_cons, List.map_nil, List.length_cons, List.length_nil, List.replicate_succ, List.replicate_zero, List.cons_append, List.nil_append, List.append_nil, List.set_cons_zero, List.set_cons_succ, List.getElem?_cons_zero, List.getElem?_cons_succ, Nat.reduceAdd, Nat.reduceSub, Option.some.injEq, Sl.imm.injEq, Sl.own.injEq, Sl.scr.injEq, exists_eq_left, exists_eq_left', exists_eq_right, exists_eq, exists_eq', exists_and_left, and_assoc, and_true, true_and, ne_eq, not_false_eq_true, Nat.succ_ne_zero, or_true, true_or, true_implies, forall_eq', forall_eq, PyData.int.injEq, PyData.bool.injEq, PyData.list.injEq, PyData.tuple.injEq, List.cons.injEq, i_add, i_iadd, i_sub, i_mul, i_mod, i_fdiv, i_fdivG, i_pow, i_neg, i_le, i_ge, i_gt, i_lt, i_eq, i_ne, i_intI, i_intB, i_abs, i_max, i_min, i_lenL, i_lenT, i_ixL, i_ixT, i_tupL, i_tupT, i_truB, Bool.not_true, Bool.not_false, Bool.false_eq_true, if_true, if_false, reduceIte]
  obtain ⟨k, rfl⟩ : ∃ k : Nat, pl = (k : Int) := ⟨pl.toNat, by omega⟩
  have hk : k < 5 := by omega
  refine ⟨small_l (by decide) (by decide), small_l (by decide) (by decide), small_l (by decide) (by decide), small_l (by decide) (by decide), by decide, by decide, by decide, by simp, by decide, fun number hN g m c => ?_⟩
  have hN : number ∈ Ls6 := hN
  (try dsimp only); rw [wSeq_eq]; simp -failIfUnchanged only [wVar, wC, wOp, wUn, wCl, wB, wTr, wAnd, wOr, wNot, wAndV, wOrV, wNotV, wIf, wCh, wNil, wCons, wTup, wLe, wSz, wFn, wFnJ, wFnB, wFnJB, wBNil, wBCons, wBOwn, rsvP, rsvJ, wNext, wRet, wRetN, wDrop, wIfS, wSet, wSetOwn, wNever, wAug, wOpO, wIxO, wOpR, wClO, wApp, wSetIt, wFrz, wFor, wRg1, wRg2, wSq, wEnum, wZip, wZipM, wZipS, wZipU, wgN, wgT, wgNil, wgCons, wYes, wAsgT, wgLs, wLenS, wIxS, wFnS, wFnJL, wFnX, wRaise, wRaiseF, wForFn, forFnW, wMet, hide, wIsi, wListOf, wRev, edP, edJ, enP, enJ, enS, NotOwn, Flat, List.map_cons, List.map_nil, List.length_cons, List.length_nil, List.replicate_succ, List.replicate_zero, List.cons_append, List.nil_append, List.append_nil, List.set_cons_zero, List.set_cons_succ, List.getElem?_cons_zero, List.getElem?_cons_succ, Nat.reduceAdd, Nat.reduceSub, Option.some.injEq, Sl.imm.injEq, Sl.own.injEq, Sl.scr.injEq, exists_eq_left, exists_eq_left', exists_eq_right, exists_eq, exists_eq', exists_and_left, and_assoc, and_true, true_and, ne_eq, not_false_eq_true, Nat.succ_ne_zero, or_true, true_or, true_implies, forall_eq', forall_eq, PyData.int.injEq, PyData.bool.injEq, PyData.list.injEq, PyData.tuple.injEq, List.cons.injEq, i_add, i_iadd, i_sub, i_mul, i_mod, i_fdiv, i_fdivG, i_pow, i_neg, i_le, i_ge, i_gt, i_lt, i_eq, i_ne, i_intI, i_intB, i_abs, i_max, i_min, i_lenL, i_lenT, i_ixL, i_ixT, i_tupL, i_tupT, i_truB, Bool.not_true, Bool.not_false, Bool.false_eq_true, if_true, if_false, reduceIte]
  have n6 : repB number = true := (two l6_ok number hN).1
  refine let_bad hk hN (met_num (d := number) n6 ⟨by decide, ?_⟩)
  clear hN
  (try dsimp only); rw [wSeq_eq]; simp -failIfUnchanged only [rep_of n6, wVar, wC, wOp, wUn, wCl, wB, wTr, wAnd, wOr, wNot, wAndV, wOrV, wNotV, wIf, wCh, wNil, wCons, wTup, wLe, wSz, wFn, wFnJ, wFnB, wFnJB, wBNil, wBCons, wBOwn, rsvP, rsvJ, wNext, wRet, wRetN, wDrop, wIfS, wSet, wSetOwn, wNever, wAug, wOpO, wIxO, wOpR, wClO, wApp, wSetIt, wFrz, wFor, wRg1, wRg2, wSq, wEnum, wZip, wZipM, wZipS, wZipU, wgN, wgT, wgNil, wgCons, wYes, wAsgT, wgLs, wLenS, wIxS, wFnS, wFnJL, wFnX, wRaise, wRaiseF, wForFn, forFnW, wMet, hide, wIsi, wListOf, wRev, edP, edJ, enP, enJ, enS, NotOwn, Flat, List.map_cons, List.map_nil, List.length_cons, List.length_nil, List.replicate_succ, List.replicate_zero, List.cons_append, List.nil_append, List.append_nil, List.set_cons_zero, List.set_cons_succ, List.getElem?_cons_zero, List.getElem?_cons_succ, Nat.reduceAdd, Nat.reduceSub, Option.some.injEq, Sl.imm.injEq, Sl.own.injEq, Sl.scr.injEq, exists_eq_left, exists_eq_left', exists_eq_right, exists_eq, exists_eq', exists_and_left, and_assoc, and_true, true_and, ne_eq, not_false_eq_true, Nat.succ_ne_zero, or_true, true_or, true_implies, forall_eq', forall_eq, PyData.int.injEq, PyData.bool.injEq, PyData.list.injEq, PyData.tuple.injEq, List.cons.injEq, i_add, i_iadd, i_sub, i_mul, i_mod, i_fdiv, i_fdivG, i_pow, i_neg, i_le, i_ge, i_gt, i_lt, i_eq, i_ne, i_intI, i_intB, i_abs, i_max, i_min, i_lenL, i_lenT, i_ixL, i_ixT, i_tupL, i_tupT, i_truB, Bool.not_true, Bool.not_false, Bool.false_eq_true, if_true, if_false, reduceIte]
  refine ⟨by decide, by show 13 < sizeLine; decide, _, eq_nc (n := 2) (nc_list (n := 1) ?_) (by decide), q _ _ _⟩
  have a1 := nt n1
  have a2 := nt o1
  simp only [List.forall_mem_cons]
  exact ⟨a1, a1, a1, a1, a1, a1, a2, a2, a2, a2, nt t1, nt m1, nc_str (by decide +kernel), nt n6, nofun⟩
end K03

set_option Elab.async false
set_option linter.all false
set_option maxRecDepth 100000
set_option maxHeartbeats 4000000
namespace K03
open PySem PySem.Spec PyProof.Rows L2 Pd
theorem rng_nat {n : Nat} : ∀ x ∈ rngD 0 n, ∃ i : Nat, x = .int i ∧ i < n := fun x hx => by
  obtain ⟨i, hi⟩ := List.getElem?_of_mem hx
  obtain ⟨e, h⟩ := rngD_get hi
  exact ⟨i, by rw [e, Int.zero_add], h⟩
theorem in_loop {ns : List Int} {s1 s4 s5 s6 : Sl} {R : Ed} : ∀ (xs : List D) (s3 : Sl) (g m c : Int), (∀ (s3 : Sl) (g m c : Int), R.nx [.scr ns, s1, .own [.int g, .int m, .int c], s3, s4, s5, s6]) →
    forW (wgN 3) (wIfS (wNot (wTr (wFnJ 2 1 wf__law_right wNil))) (wRet (wC (.bool false))) wNext) R xs [.scr ns, s1, .own [.int g, .int m, .int c], s3, s4, s5, s6]
  | [], s3, g, m, c, q => q s3 g m c
  | x :: xs, s3, g, m, c, q => by
    simp only [forW, wf__law_right, wVar, wC, wOp, wUn, wCl, wB, wTr, wAnd, wOr, wNot, wAndV, wOrV, wNotV, wIf, wCh, wNil, wCons, wTup, wLe, wSz, wFn, wFnJ, wFnB, wFnJB, wBNil, wBCons, wBOwn, rsvP, rsvJ, wNext, wSeq, wRet, wRetN, wDrop, wIfS, wSet, wSetOwn, wNever, wAug, wOpO, wIxO, wOpR, wClO, wApp, wSetIt, wFrz, wFor, wRg1, wRg2, wSq, wEnum, wZip, wZipM, wZipS, wZipU, wgN, wgT, wgNil, wgCons, wYes, wAsgT, wgLs, wLenS, wIxS, wFnS, wFnJL, wFnX, wRaise, wRaiseF, wForFn, forFnW, wMet, hide, wIsi, wListOf, wRev, edP, edJ, enP, enJ, enS, NotOwn, Flat, List.map_cons, List.map_nil, List.length_cons, List.length_nil, List.replicate_succ, List.replicate_zero, List.cons_append, List.nil_append, List.append_nil, List.set_cons_zero, List.set_cons_succ, List.getElem?_cons_zero, List.getElem?_cons_succ, Nat.reduceAdd, Nat.reduceSub, Option.some.injEq, Sl.imm.injEq, Sl.own.injEq, Sl.scr.injEq, exists_eq_left, exists_eq_left', exists_eq_right, exists_eq, exists_eq', exists_and_left, and_assoc, and_true, true_and, ne_eq, not_false_eq_true, Nat.succ_ne_zero, or_true, true_or, true_implies, forall_eq', forall_eq, PyData.int.injEq, PyData.bool.injEq, PyData.list.injEq, PyData.tuple.injEq, List.cons.injEq, i_add, i_iadd, i_sub, i_mul, i_mod, i_fdiv, i_fdivG, i_pow, i_neg, i_le, i_ge, i_gt, i_lt, i_eq, i_ne, i_intI, i_intB, i_abs, i_max, i_min, i_lenL, i_lenT, i_ixL, i_ixT, i_tupL, i_tupT, i_truB, Bool.not_true, Bool.not_false, Bool.false_eq_true, if_true, if_false, reduceIte]
    exact fun g m c => in_loop xs _ g m c q
theorem out_loop {ns : List Int} {s4 s5 s6 : Sl} {R : Ed} : ∀ (xs : List D), (∀ x ∈ xs, ∃ i : Nat, x = .int i) → ∀ (s1 s2 s3 : Sl), (∀ (s1 s2 s3 : Sl), R.nx [.scr ns, s1, s2, s3, s4, s5, s6]) →
    forW (wgN 1) (wSeq (wSetOwn 2 (wFnS 0 2 wf__law_jug (wCons (wVar 1) wNil))) (wFor (wRg1 (wCons (wC (.int 3)) wNil)) (wgN 3) (wIfS (wNot (wTr (wFnJ 2 1 wf__law_right wNil))) (wRet (wC (.bool false))) wNext))) R xs [.scr ns, s1, s2, s3, s4, s5, s6]
  | [], _, s1, s2, s3, q => q s1 s2 s3
  | x :: xs, hx, s1, s2, s3, q => by
    obtain ⟨i, rfl⟩ := hx x List.mem_cons_self
    unfold forW
    simp -failIfUnchanged only [wVar, wC, wOp, wUn, wCl, wB, wTr, wAnd, wOr, wNot, wAndV, wOrV, wNotV, wIf, wCh, wNil, wCons, wTup, wLe, wSz, wFn, wFnJ, wFnB, wFnJB, wBNil, wBCons, wBOwn, rsvP, rsvJ, wNext, wRet, wRetN, wDrop, wIfS, wSet, wSetOwn, wNever, wAug, wOpO, wIxO, wOpR, wClO, wApp, wSetIt, wFrz, wFor, wRg1, wRg2, wSq, wEnum, wZip, wZipM, wZipS, wZipU, wgN, wgT, wgNil, wgCons, wYes, wAsgT, wgLs, wLenS, wIxS, wFnS, wFnJL, wFnX, wRaise, wRaiseF, wForFn, forFnW, wMet, hide, wIsi, wListOf, wRev, edP, edJ, enP, enJ, enS, NotOwn, Flat, List.map_cons, List.map_nil, List.length_cons, List.length_nil, List.replicate_succ, List.replicate_zero, List.cons_append, List.nil_append, List.append_nil, List.set_cons_zero, List.set_cons_succ, List.getElem?_cons_zero, List.getElem?_cons_succ, Nat.reduceAdd, Nat.reduceSub, Option.some.injEq, Sl.imm.injEq, Sl.own.injEq, Sl.scr.injEq, exists_eq_left, exists_eq_left', exists_eq_right, exists_eq, exists_eq', exists_and_left, and_assoc, and_true, true_and, ne_eq, not_false_eq_true, Nat.succ_ne_zero, or_true, true_or, true_implies, forall_eq', forall_eq, PyData.int.injEq, PyData.bool.injEq, PyData.list.injEq, PyData.tuple.injEq, List.cons.injEq, i_add, i_iadd, i_sub, i_mul, i_mod, i_fdiv, i_fdivG, i_pow, i_neg, i_le, i_ge, i_gt, i_lt, i_eq, i_ne, i_intI, i_intB, i_abs, i_max, i_min, i_lenL, i_lenT, i_ixL, i_ixT, i_tupL, i_tupT, i_truB, Bool.not_true, Bool.not_false, Bool.false_eq_true, if_true, if_false, reduceIte]
    (try dsimp only); rw [wSeq_eq]; simp -failIfUnchanged only [wf__law_jug, wVar, wC, wOp, wUn, wCl, wB, wTr, wAnd, wOr, wNot, wAndV, wOrV, wNotV, wIf, wCh, wNil, wCons, wTup, wLe, wSz, wFn, wFnJ, wFnB, wFnJB, wBNil, wBCons, wBOwn, rsvP, rsvJ, wNext, wRet, wRetN, wDrop, wIfS, wSet, wSetOwn, wNever, wAug, wOpO, wIxO, wOpR, wClO, wApp, wSetIt, wFrz, wFor, wRg1, wRg2, wSq, wEnum, wZip, wZipM, wZipS, wZipU, wgN, wgT, wgNil, wgCons, wYes, wAsgT, wgLs, wLenS, wIxS, wFnS, wFnJL, wFnX, wRaise, wRaiseF, wForFn, forFnW, wMet, hide, wIsi, wListOf, wRev, edP, edJ, enP, enJ, enS, NotOwn, Flat, List.map_cons, List.map_nil, List.length_cons, List.length_nil, List.replicate_succ, List.replicate_zero, List.cons_append, List.nil_append, List.append_nil, List.set_cons_zero, List.set_cons_succ, List.getElem?_cons_zero, List.getElem?_cons_succ, Nat.reduceAdd, Nat.reduceSub, Option.some.injEq, Sl.imm.injEq, Sl.own.injEq, Sl.scr.injEq, exists_eq_left, exists_eq_left', exists_eq_right, exists_eq, exists_eq', exists_and_left, and_assoc, and_true, true_and, ne_eq, not_false_eq_true, Nat.succ_ne_zero, or_true, true_or, true_implies, forall_eq', forall_eq, PyData.int.injEq, PyData.bool.injEq, PyData.list.injEq, PyData.tuple.injEq, List.cons.injEq, i_add, i_iadd, i_sub, i_mul, i_mod, i_fdiv, i_fdivG, i_pow, i_neg, i_le, i_ge, i_gt, i_lt, i_eq, i_ne, i_intI, i_intB, i_abs, i_max, i_min, i_lenL, i_lenT, i_ixL, i_ixT, i_tupL, i_tupT, i_truB, Bool.not_true, Bool.not_false, Bool.false_eq_true, if_true, if_false, reduceIte]
    refine ⟨ns, [(i : Int)], rfl, rfl, rfl, i, rfl, fun g m c => ⟨[g, m, c], rfl, ?_⟩⟩
    simp -failIfUnchanged only [wVar, wC, wOp, wUn, wCl, wB, wTr, wAnd, wOr, wNot, wAndV, wOrV, wNotV, wIf, wCh, wNil, wCons, wTup, wLe, wSz, wFn, wFnJ, wFnB, wFnJB, wBNil, wBCons, wBOwn, rsvP, rsvJ, wNext, wRet, wRetN, wDrop, wIfS, wSet, wSetOwn, wNever, wAug, wOpO, wIxO, wOpR, wClO, wApp, wSetIt, wFrz, wFor, wRg1, wRg2, wSq, wEnum, wZip, wZipM, wZipS, wZipU, wgN, wgT, wgNil, wgCons, wYes, wAsgT, wgLs, wLenS, wIxS, wFnS, wFnJL, wFnX, wRaise, wRaiseF, wForFn, forFnW, wMet, hide, wIsi, wListOf, wRev, edP, edJ, enP, enJ, enS, NotOwn, Flat, List.map_cons, List.map_nil, List.length_cons, List.length_nil, List.replicate_succ, List.replicate_zero, List.cons_append, List.nil_append, List.append_nil, List.set_cons_zero, List.set_cons_succ, List.getElem?_cons_zero, List.getElem?_cons_succ, Nat.reduceAdd, Nat.reduceSub, Option.some.injEq, Sl.imm.injEq, Sl.own.injEq, Sl.scr.injEq, exists_eq_left, exists_eq_left', exists_eq_right, exists_eq, exists_eq', exists_and_left, and_assoc, and_true, true_and, ne_eq, not_false_eq_true, Nat.succ_ne_zero, or_true, true_or, true_implies, forall_eq', forall_eq, PyData.int.injEq, PyData.bool.injEq, PyData.list.injEq, PyData.tuple.injEq, List.cons.injEq, i_add, i_iadd, i_sub, i_mul, i_mod, i_fdiv, i_fdivG, i_pow, i_neg, i_le, i_ge, i_gt, i_lt, i_eq, i_ne, i_intI, i_intB, i_abs, i_max, i_min, i_lenL, i_lenT, i_ixL, i_ixT, i_tupL, i_tupT, i_truB, Bool.not_true, Bool.not_false, Bool.false_eq_true, if_true, if_false, reduceIte]
    refine ⟨by decide, by decide, ?_⟩
    exact in_loop _ _ g m c fun s3 g m c => out_loop xs (fun x hx' => hx x (List.mem_cons_of_mem _ hx')) _ _ _ q
theorem odd_loop {s0 s1 s2 s3 : Sl} {R : Ed} : ∀ (xs ts us : List D) (s6 : Sl), (∀ x ∈ xs, repB x = true ∧ isBtw x 0 9973 = false) → ts.length + xs.length ≤ 100 → us.length + xs.length ≤ 100 → (∀ s6 : Sl, R.nx [s0, s1, s2, s3, .own (ts ++ xs.map numD), .own (us ++ xs.map numD), s6]) →
    forW (wgN 6) (wSeq (wApp 4 (wMet exB 2 cl__law_met wl__law_met (fun R => (wFnX 1 wf_next_prime R (wCons (wVar 6) wNil))))) (wApp 5 (wTup (wCons (wC (.str "number")) (wCons (wCl dRepr (wCons (wVar 6) wNil)) wNil))))) R xs [s0, s1, s2, s3, .own ts, .own us, s6]
  | [], ts, us, s6, _, _, _, q => by
    have := q s6
    rw [List.map_nil, List.append_nil, List.append_nil] at this
    exact this
  | x :: xs, ts, us, s6, h, l1, l2, q => by
    obtain ⟨h1, h2⟩ := h x List.mem_cons_self
    rw [List.length_cons] at l1 l2
    simp only [forW, wVar, wC, wOp, wUn, wCl, wB, wTr, wAnd, wOr, wNot, wAndV, wOrV, wNotV, wIf, wCh, wNil, wCons, wTup, wLe, wSz, wFn, wFnJ, wFnB, wFnJB, wBNil, wBCons, wBOwn, rsvP, rsvJ, wNext, wSeq, wRet, wRetN, wDrop, wIfS, wSet, wSetOwn, wNever, wAug, wOpO, wIxO, wOpR, wClO, wApp, wSetIt, wFrz, wFor, wRg1, wRg2, wSq, wEnum, wZip, wZipM, wZipS, wZipU, wgN, wgT, wgNil, wgCons, wYes, wAsgT, wgLs, wLenS, wIxS, wFnS, wFnJL, wFnX, wRaise, wRaiseF, wForFn, forFnW, wMet, hide, wIsi, wListOf, wRev, edP, edJ, enP, enJ, enS, NotOwn, Flat, List.map_cons, List.map_nil, List.length_cons, List.length_nil, List.replicate_succ, List.replicate_zero, List.cons_append, List.nil_append, List.append_nil, List.set_cons_zero, List.set_cons_succ, List.getElem?_cons_zero, List.getElem?_cons_succ, Nat.reduceAdd, Nat.reduceSub, Option.some.injEq, Sl.imm.injEq, Sl.own.injEq, Sl.scr.injEq, exists_eq_left, exists_eq_left', exists_eq_right, exists_eq, exists_eq', exists_and_left, and_assoc, and_true, true_and, ne_eq, not_false_eq_true, Nat.succ_ne_zero, or_true, true_or, true_implies, forall_eq', forall_eq, PyData.int.injEq, PyData.bool.injEq, PyData.list.injEq, PyData.tuple.injEq, List.cons.injEq, i_add, i_iadd, i_sub, i_mul, i_mod, i_fdiv, i_fdivG, i_pow, i_neg, i_le, i_ge, i_gt, i_lt, i_eq, i_ne, i_intI, i_intB, i_abs, i_max, i_min, i_lenL, i_lenT, i_ixL, i_ixT, i_tupL, i_tupT, i_truB, Bool.not_true, Bool.not_false, Bool.false_eq_true, if_true, if_false, reduceIte]
    refine ⟨x, rfl, Or.inl ⟨h2, met_num h1 ⟨Nat.lt_of_lt_of_le (by omega : ts.length < 100) (by decide), ?_⟩⟩⟩
    simp only [rep_of h1, wVar, wC, wOp, wUn, wCl, wB, wTr, wAnd, wOr, wNot, wAndV, wOrV, wNotV, wIf, wCh, wNil, wCons, wTup, wLe, wSz, wFn, wFnJ, wFnB, wFnJB, wBNil, wBCons, wBOwn, rsvP, rsvJ, wNext, wSeq, wRet, wRetN, wDrop, wIfS, wSet, wSetOwn, wNever, wAug, wOpO, wIxO, wOpR, wClO, wApp, wSetIt, wFrz, wFor, wRg1, wRg2, wSq, wEnum, wZip, wZipM, wZipS, wZipU, wgN, wgT, wgNil, wgCons, wYes, wAsgT, wgLs, wLenS, wIxS, wFnS, wFnJL, wFnX, wRaise, wRaiseF, wForFn, forFnW, wMet, hide, wIsi, wListOf, wRev, edP, edJ, enP, enJ, enS, NotOwn, Flat, List.map_cons, List.map_nil, List.length_cons, List.length_nil, List.replicate_succ, List.replicate_zero, List.cons_append, List.nil_append, List.append_nil, List.set_cons_zero, List.set_cons_succ, List.getElem?_cons_zero, List.getElem?_cons_succ, Nat.reduceAdd, Nat.reduceSub, Option.some.injEq, Sl.imm.injEq, Sl.own.injEq, Sl.scr.injEq, exists_eq_left, exists_eq_left', exists_eq_right, exists_eq, exists_eq', exists_and_left, and_assoc, and_true, true_and, ne_eq, not_false_eq_true, Nat.succ_ne_zero, or_true, true_or, true_implies, forall_eq', forall_eq, PyData.int.injEq, PyData.bool.injEq, PyData.list.injEq, PyData.tuple.injEq, List.cons.injEq, i_add, i_iadd, i_sub, i_mul, i_mod, i_fdiv, i_fdivG, i_pow, i_neg, i_le, i_ge, i_gt, i_lt, i_eq, i_ne, i_intI, i_intB, i_abs, i_max, i_min, i_lenL, i_lenT, i_ixL, i_ixT, i_tupL, i_tupT, i_truB, Bool.not_true, Bool.not_false, Bool.false_eq_true, if_true, if_false, reduceIte]
    refine ⟨by decide, Nat.lt_of_lt_of_le (by omega : us.length < 100) (by decide), ?_⟩
    refine odd_loop xs _ _ _ (fun y hy => h y (List.mem_cons_of_mem _ hy)) (by rw [List.length_append, List.length_singleton]; omega) (by rw [List.length_append, List.length_singleton]; omega) fun s6 => ?_
    have := q s6
    rw [List.map_cons] at this
    rw [List.append_assoc, List.append_assoc]
    exact this
def Ls7 : List D := [.none, .bool true, .int (-1), .int 9974, .str "2", .tuple [.int 2], .int (10 ^ 60)]
theorem l7_ok : Ls7.all (fun d => repB d && !isBtw d 0 9973) = true := by decide +kernel
theorem sn9 : numD (.int 9) = .tuple [.str "number", .str "9"] := by
  show PyData.tuple [.str "number", .str (PyData.shown (.int 9))] = _
  rw [show PyData.shown (.int 9) = ("9" : Str) by decide +kernel]
theorem sn1 : numD (.int 1) = .tuple [.str "number", .str "1"] := by
  show PyData.tuple [.str "number", .str (PyData.shown (.int 1))] = _
  rw [show PyData.shown (.int 1) = ("1" : Str) by decide +kernel]
theorem let_many {p : Int} {k : Nat} {i : Int} {Q : D → Prop} {R : Exc → Prop} (hp : isP p = true) (hk : k ≤ 100) (hi : i.natAbs.log2 < 5000) (h0 : 0 ≤ i) (hl : 0 < i / p ^ k) (q : R (errN (.int i))) : wf_letters_at [.int p, .int (k : Int), .int i] Q R :=
  ⟨_, _, _, rfl, Or.inr ⟨p, rfl, hp, Or.inr ⟨k, rfl, hk, Or.inr ⟨i, rfl, hi, Or.inr ⟨h0, fun _ => q, fun z => by omega⟩⟩⟩⟩⟩
theorem let_fine {p : Int} {k : Nat} {i : Int} {Q : D → Prop} {R : Exc → Prop} (hp : isP p = true) (hk : k ≤ 100) (hi : i.natAbs.log2 < 5000) (h0 : 0 ≤ i) (hl : i / p ^ k = 0) (q : ∀ z, Q z) : wf_letters_at [.int p, .int (k : Int), .int i] Q R :=
  ⟨_, _, _, rfl, Or.inr ⟨p, rfl, hp, Or.inr ⟨k, rfl, hk, Or.inr ⟨i, rfl, hi, Or.inr ⟨h0, fun z => by omega, fun _ => q⟩⟩⟩⟩⟩
theorem pu_law (ns ds Q) (hl : ds.length + 1 = 1) (h : wf_law ns ds Q) : ws_law (edP Q) (enS N_law ns ds) := by
  obtain ⟨rfl, hn, q⟩ := h
  unfold ws_law
  (try dsimp only); rw [wSeq_eq]; simp -failIfUnchanged only [N_law, wVar, wC, wOp, wUn, wCl, wB, wTr, wAnd, wOr, wNot, wAndV, wOrV, wNotV, wIf, wCh, wNil, wCons, wTup, wLe, wSz, wFn, wFnJ, wFnB, wFnJB, wBNil, wBCons, wBOwn, rsvP, rsvJ, wNext, wRet, wRetN, wDrop, wIfS, wSet, wSetOwn, wNever, wAug, wOpO, wIxO, wOpR, wClO, wApp, wSetIt, wFrz, wFor, wRg1, wRg2, wSq, wEnum, wZip, wZipM, wZipS, wZipU, wgN, wgT, wgNil, wgCons, wYes, wAsgT, wgLs, wLenS, wIxS, wFnS, wFnJL, wFnX, wRaise, wRaiseF, wForFn, forFnW, wMet, hide, wIsi, wListOf, wRev, edP, edJ, enP, enJ, enS, NotOwn, Flat, List.map_cons, List.map_nil, List.length_cons, List.length_nil, List.replicate_succ, List.replicate_zero, List.cons_append, List.nil_append, List.append_nil, List.set_cons_zero, List.set_cons_succ, List.getElem?_cons_zero, List.getElem?_cons_succ, Nat.reduceAdd, Nat.reduceSub, Option.some.injEq, Sl.imm.injEq, Sl.own.injEq, Sl.scr.injEq, exists_eq_left, exists_eq_left', exists_eq_right, exists_eq, exists_eq', exists_and_left, and_assoc, and_true, true_and, ne_eq, not_false_eq_true, Nat.succ_ne_zero, or_true, true_or, true_implies, forall_eq', forall_eq, PyData.int.injEq, PyData.bool.injEq, PyData.list.injEq, PyData.tuple.injEq, List.cons.injEq, i_add, i_iadd, i_sub, i_mul, i_mod, i_fdiv, i_fdivG, i_pow, i_neg, i_le, i_ge, i_gt, i_lt, i_eq, i_ne, i_intI, i_intB, i_abs, i_max, i_min, i_lenL, i_lenT, i_ixL, i_ixT, i_tupL, i_tupT, i_truB, Bool.not_true, Bool.not_false, Bool.false_eq_true, if_true, if_false, reduceIte]
  refine ⟨by split <;> (try split) <;> omega, by split <;> (try split) <;> omega, ?_⟩
  refine out_loop _ (fun x hx => (rng_nat x hx).imp fun _ h => h.1) _ _ _ fun s1 s2 s3 => ?_
  (try dsimp only); rw [wSeq_eq]; simp -failIfUnchanged only [wVar, wC, wOp, wUn, wCl, wB, wTr, wAnd, wOr, wNot, wAndV, wOrV, wNotV, wIf, wCh, wNil, wCons, wTup, wLe, wSz, wFn, wFnJ, wFnB, wFnJB, wBNil, wBCons, wBOwn, rsvP, rsvJ, wNext, wRet, wRetN, wDrop, wIfS, wSet, wSetOwn, wNever, wAug, wOpO, wIxO, wOpR, wClO, wApp, wSetIt, wFrz, wFor, wRg1, wRg2, wSq, wEnum, wZip, wZipM, wZipS, wZipU, wgN, wgT, wgNil, wgCons, wYes, wAsgT, wgLs, wLenS, wIxS, wFnS, wFnJL, wFnX, wRaise, wRaiseF, wForFn, forFnW, wMet, hide, wIsi, wListOf, wRev, edP, edJ, enP, enJ, enS, NotOwn, Flat, List.map_cons, List.map_nil, List.length_cons, List.length_nil, List.replicate_succ, List.replicate_zero, List.cons_append, List.nil_append, List.append_nil, List.set_cons_zero, List.set_cons_succ, List.getElem?_cons_zero, List.getElem?_cons_succ, Nat.reduceAdd, Nat.reduceSub, Option.some.injEq, Sl.imm.injEq, Sl.own.injEq, Sl.scr.injEq, exists_eq_left, exists_eq_left', exists_eq_right, exists_eq, exists_eq', exists_and_left, and_assoc, and_true, true_and, ne_eq, not_false_eq_true, Nat.succ_ne_zero, or_true, true_or, true_implies, forall_eq', forall_eq, PyData.int.injEq, PyData.bool.injEq, PyData.list.injEq, PyData.tuple.injEq, List.cons.injEq, i_add, i_iadd, i_sub, i_mul, i_mod, i_fdiv, i_fdivG, i_pow, i_neg, i_le, i_ge, i_gt, i_lt, i_eq, i_ne, i_intI, i_intB, i_abs, i_max, i_min, i_lenL, i_lenT, i_ixL, i_ixT, i_tupL, i_tupT, i_truB, Bool.not_true, Bool.not_false, Bool.false_eq_true, if_true, if_false, reduceIte]
  have p5 : isP 5 = true := by decide +kernel
  have p3 : isP 3 = true := by decide +kernel
  have p2 : isP 2 = true := by decide +kernel
  refine ⟨_, _, rfl, Or.inr ⟨5, rfl, p5, Or.inr ⟨rfl, met_zero ⟨by decide, ?_⟩⟩⟩⟩
  (try dsimp only); rw [wSeq_eq]; simp -failIfUnchanged only [wVar, wC, wOp, wUn, wCl, wB, wTr, wAnd, wOr, wNot, wAndV, wOrV, wNotV, wIf, wCh, wNil, wCons, wTup, wLe, wSz, wFn, wFnJ, wFnB, wFnJB, wBNil, wBCons, wBOwn, rsvP, rsvJ, wNext, wRet, wRetN, wDrop, wIfS, wSet, wSetOwn, wNever, wAug, wOpO, wIxO, wOpR, wClO, wApp, wSetIt, wFrz, wFor, wRg1, wRg2, wSq, wEnum, wZip, wZipM, wZipS, wZipU, wgN, wgT, wgNil, wgCons, wYes, wAsgT, wgLs, wLenS, wIxS, wFnS, wFnJL, wFnX, wRaise, wRaiseF, wForFn, forFnW, wMet, hide, wIsi, wListOf, wRev, edP, edJ, enP, enJ, enS, NotOwn, Flat, List.map_cons, List.map_nil, List.length_cons, List.length_nil, List.replicate_succ, List.replicate_zero, List.cons_append, List.nil_append, List.append_nil, List.set_cons_zero, List.set_cons_succ, List.getElem?_cons_zero, List.getElem?_cons_succ, Nat.reduceAdd, Nat.reduceSub, Option.some.injEq, Sl.imm.injEq, Sl.own.injEq, Sl.scr.injEq, exists_eq_left, exists_eq_left', exists_eq_right, exists_eq, exists_eq', exists_and_left, and_assoc, and_true, true_and, ne_eq, not_false_eq_true, Nat.succ_ne_zero, or_true, true_or, true_implies, forall_eq', forall_eq, PyData.int.injEq, PyData.bool.injEq, PyData.list.injEq, PyData.tuple.injEq, List.cons.injEq, i_add, i_iadd, i_sub, i_mul, i_mod, i_fdiv, i_fdivG, i_pow, i_neg, i_le, i_ge, i_gt, i_lt, i_eq, i_ne, i_intI, i_intB, i_abs, i_max, i_min, i_lenL, i_lenT, i_ixL, i_ixT, i_tupL, i_tupT, i_truB, Bool.not_true, Bool.not_false, Bool.false_eq_true, if_true, if_false, reduceIte]
  refine let_many (k := 2) p3 (by decide) (by decide +kernel) (by decide) (by decide) (met_num (by decide +kernel) ⟨by decide, ?_⟩)
  (try dsimp only); rw [wSeq_eq]; simp -failIfUnchanged only [wVar, wC, wOp, wUn, wCl, wB, wTr, wAnd, wOr, wNot, wAndV, wOrV, wNotV, wIf, wCh, wNil, wCons, wTup, wLe, wSz, wFn, wFnJ, wFnB, wFnJB, wBNil, wBCons, wBOwn, rsvP, rsvJ, wNext, wRet, wRetN, wDrop, wIfS, wSet, wSetOwn, wNever, wAug, wOpO, wIxO, wOpR, wClO, wApp, wSetIt, wFrz, wFor, wRg1, wRg2, wSq, wEnum, wZip, wZipM, wZipS, wZipU, wgN, wgT, wgNil, wgCons, wYes, wAsgT, wgLs, wLenS, wIxS, wFnS, wFnJL, wFnX, wRaise, wRaiseF, wForFn, forFnW, wMet, hide, wIsi, wListOf, wRev, edP, edJ, enP, enJ, enS, NotOwn, Flat, List.map_cons, List.map_nil, List.length_cons, List.length_nil, List.replicate_succ, List.replicate_zero, List.cons_append, List.nil_append, List.append_nil, List.set_cons_zero, List.set_cons_succ, List.getElem?_cons_zero, List.getElem?_cons_succ, Nat.reduceAdd, Nat.reduceSub, Option.some.injEq, Sl.imm.injEq, Sl.own.injEq, Sl.scr.injEq, exists_eq_left, exists_eq_left', exists_eq_right, exists_eq, exists_eq', exists_and_left, and_assoc, and_true, true_and, ne_eq, not_false_eq_true, Nat.succ_ne_zero, or_true, true_or, true_implies, forall_eq', forall_eq, PyData.int.injEq, PyData.bool.injEq, PyData.list.injEq, PyData.tuple.injEq, List.cons.injEq, i_add, i_iadd, i_sub, i_mul, i_mod, i_fdiv, i_fdivG, i_pow, i_neg, i_le, i_ge, i_gt, i_lt, i_eq, i_ne, i_intI, i_intB, i_abs, i_max, i_min, i_lenL, i_lenT, i_ixL, i_ixT, i_tupL, i_tupT, i_truB, Bool.not_true, Bool.not_false, Bool.false_eq_true, if_true, if_false, reduceIte]
  refine let_fine (k := 2) p3 (by decide) (by decide +kernel) (by decide) (by decide) fun _ => wl_fine ⟨by decide, ?_⟩
  (try dsimp only); rw [wSeq_eq]; simp -failIfUnchanged only [wVar, wC, wOp, wUn, wCl, wB, wTr, wAnd, wOr, wNot, wAndV, wOrV, wNotV, wIf, wCh, wNil, wCons, wTup, wLe, wSz, wFn, wFnJ, wFnB, wFnJB, wBNil, wBCons, wBOwn, rsvP, rsvJ, wNext, wRet, wRetN, wDrop, wIfS, wSet, wSetOwn, wNever, wAug, wOpO, wIxO, wOpR, wClO, wApp, wSetIt, wFrz, wFor, wRg1, wRg2, wSq, wEnum, wZip, wZipM, wZipS, wZipU, wgN, wgT, wgNil, wgCons, wYes, wAsgT, wgLs, wLenS, wIxS, wFnS, wFnJL, wFnX, wRaise, wRaiseF, wForFn, forFnW, wMet, hide, wIsi, wListOf, wRev, edP, edJ, enP, enJ, enS, NotOwn, Flat, List.map_cons, List.map_nil, List.length_cons, List.length_nil, List.replicate_succ, List.replicate_zero, List.cons_append, List.nil_append, List.append_nil, List.set_cons_zero, List.set_cons_succ, List.getElem?_cons_zero, List.getElem?_cons_succ, Nat.reduceAdd, Nat.reduceSub, Option.some.injEq, Sl.imm.injEq, Sl.own.injEq, Sl.scr.injEq, exists_eq_left, exists_eq_left', exists_eq_right, exists_eq, exists_eq', exists_and_left, and_assoc, and_true, true_and, ne_eq, not_false_eq_true, Nat.succ_ne_zero, or_true, true_or, true_implies, forall_eq', forall_eq, PyData.int.injEq, PyData.bool.injEq, PyData.list.injEq, PyData.tuple.injEq, List.cons.injEq, i_add, i_iadd, i_sub, i_mul, i_mod, i_fdiv, i_fdivG, i_pow, i_neg, i_le, i_ge, i_gt, i_lt, i_eq, i_ne, i_intI, i_intB, i_abs, i_max, i_min, i_lenL, i_lenT, i_ixL, i_ixT, i_tupL, i_tupT, i_truB, Bool.not_true, Bool.not_false, Bool.false_eq_true, if_true, if_false, reduceIte]
  refine let_many (k := 0) p3 (by decide) (by decide +kernel) (by decide) (by decide) (met_num (by decide +kernel) ⟨by decide, ?_⟩)
  (try dsimp only); rw [wSeq_eq]; simp -failIfUnchanged only [wVar, wC, wOp, wUn, wCl, wB, wTr, wAnd, wOr, wNot, wAndV, wOrV, wNotV, wIf, wCh, wNil, wCons, wTup, wLe, wSz, wFn, wFnJ, wFnB, wFnJB, wBNil, wBCons, wBOwn, rsvP, rsvJ, wNext, wRet, wRetN, wDrop, wIfS, wSet, wSetOwn, wNever, wAug, wOpO, wIxO, wOpR, wClO, wApp, wSetIt, wFrz, wFor, wRg1, wRg2, wSq, wEnum, wZip, wZipM, wZipS, wZipU, wgN, wgT, wgNil, wgCons, wYes, wAsgT, wgLs, wLenS, wIxS, wFnS, wFnJL, wFnX, wRaise, wRaiseF, wForFn, forFnW, wMet, hide, wIsi, wListOf, wRev, edP, edJ, enP, enJ, enS, NotOwn, Flat, List.map_cons, List.map_nil, List.length_cons, List.length_nil, List.replicate_succ, List.replicate_zero, List.cons_append, List.nil_append, List.append_nil, List.set_cons_zero, List.set_cons_succ, List.getElem?_cons_zero, List.getElem?_cons_succ, Nat.reduceAdd, Nat.reduceSub, Option.some.injEq, Sl.imm.injEq, Sl.own.injEq, Sl.scr.injEq, exists_eq_left, exists_eq_left', exists_eq_right, exists_eq, exists_eq', exists_and_left, and_assoc, and_true, true_and, ne_eq, not_false_eq_true, Nat.succ_ne_zero, or_true, true_or, true_implies, forall_eq', forall_eq, PyData.int.injEq, PyData.bool.injEq, PyData.list.injEq, PyData.tuple.injEq, List.cons.injEq, i_add, i_iadd, i_sub, i_mul, i_mod, i_fdiv, i_fdivG, i_pow, i_neg, i_le, i_ge, i_gt, i_lt, i_eq, i_ne, i_intI, i_intB, i_abs, i_max, i_min, i_lenL, i_lenT, i_ixL, i_ixT, i_tupL, i_tupT, i_truB, Bool.not_true, Bool.not_false, Bool.false_eq_true, if_true, if_false, reduceIte]
  refine let_fine (k := 0) p3 (by decide) (by decide +kernel) (by decide) (by decide) fun _ => wl_fine ⟨by decide, ?_⟩
  (try dsimp only); rw [wSeq_eq]; simp -failIfUnchanged only [wVar, wC, wOp, wUn, wCl, wB, wTr, wAnd, wOr, wNot, wAndV, wOrV, wNotV, wIf, wCh, wNil, wCons, wTup, wLe, wSz, wFn, wFnJ, wFnB, wFnJB, wBNil, wBCons, wBOwn, rsvP, rsvJ, wNext, wRet, wRetN, wDrop, wIfS, wSet, wSetOwn, wNever, wAug, wOpO, wIxO, wOpR, wClO, wApp, wSetIt, wFrz, wFor, wRg1, wRg2, wSq, wEnum, wZip, wZipM, wZipS, wZipU, wgN, wgT, wgNil, wgCons, wYes, wAsgT, wgLs, wLenS, wIxS, wFnS, wFnJL, wFnX, wRaise, wRaiseF, wForFn, forFnW, wMet, hide, wIsi, wListOf, wRev, edP, edJ, enP, enJ, enS, NotOwn, Flat, List.map_cons, List.map_nil, List.length_cons, List.length_nil, List.replicate_succ, List.replicate_zero, List.cons_append, List.nil_append, List.append_nil, List.set_cons_zero, List.set_cons_succ, List.getElem?_cons_zero, List.getElem?_cons_succ, Nat.reduceAdd, Nat.reduceSub, Option.some.injEq, Sl.imm.injEq, Sl.own.injEq, Sl.scr.injEq, exists_eq_left, exists_eq_left', exists_eq_right, exists_eq, exists_eq', exists_and_left, and_assoc, and_true, true_and, ne_eq, not_false_eq_true, Nat.succ_ne_zero, or_true, true_or, true_implies, forall_eq', forall_eq, PyData.int.injEq, PyData.bool.injEq, PyData.list.injEq, PyData.tuple.injEq, List.cons.injEq, i_add, i_iadd, i_sub, i_mul, i_mod, i_fdiv, i_fdivG, i_pow, i_neg, i_le, i_ge, i_gt, i_lt, i_eq, i_ne, i_intI, i_intB, i_abs, i_max, i_min, i_lenL, i_lenT, i_ixL, i_ixT, i_tupL, i_tupT, i_truB, Bool.not_true, Bool.not_false, Bool.false_eq_true, if_true, if_false, reduceIte]
  refine ⟨pow_ok (by decide +kernel), _, _, _, rfl, Or.inr ⟨2, rfl, p2, Or.inr ⟨by decide +kernel, Or.inr ⟨by decide +kernel, fun _ => wl_fine ⟨by decide, ?_⟩⟩⟩⟩⟩
  (try dsimp only); rw [wSeq_eq]; simp -failIfUnchanged only [wVar, wC, wOp, wUn, wCl, wB, wTr, wAnd, wOr, wNot, wAndV, wOrV, wNotV, wIf, wCh, wNil, wCons, wTup, wLe, wSz, wFn, wFnJ, wFnB, wFnJB, wBNil, wBCons, wBOwn, rsvP, rsvJ, wNext, wRet, wRetN, wDrop, wIfS, wSet, wSetOwn, wNever, wAug, wOpO, wIxO, wOpR, wClO, wApp, wSetIt, wFrz, wFor, wRg1, wRg2, wSq, wEnum, wZip, wZipM, wZipS, wZipU, wgN, wgT, wgNil, wgCons, wYes, wAsgT, wgLs, wLenS, wIxS, wFnS, wFnJL, wFnX, wRaise, wRaiseF, wForFn, forFnW, wMet, hide, wIsi, wListOf, wRev, edP, edJ, enP, enJ, enS, NotOwn, Flat, List.map_cons, List.map_nil, List.length_cons, List.length_nil, List.replicate_succ, List.replicate_zero, List.cons_append, List.nil_append, List.append_nil, List.set_cons_zero, List.set_cons_succ, List.getElem?_cons_zero, List.getElem?_cons_succ, Nat.reduceAdd, Nat.reduceSub, Option.some.injEq, Sl.imm.injEq, Sl.own.injEq, Sl.scr.injEq, exists_eq_left, exists_eq_left', exists_eq_right, exists_eq, exists_eq', exists_and_left, and_assoc, and_true, true_and, ne_eq, not_false_eq_true, Nat.succ_ne_zero, or_true, true_or, true_implies, forall_eq', forall_eq, PyData.int.injEq, PyData.bool.injEq, PyData.list.injEq, PyData.tuple.injEq, List.cons.injEq, i_add, i_iadd, i_sub, i_mul, i_mod, i_fdiv, i_fdivG, i_pow, i_neg, i_le, i_ge, i_gt, i_lt, i_eq, i_ne, i_intI, i_intB, i_abs, i_max, i_min, i_lenL, i_lenT, i_ixL, i_ixT, i_tupL, i_tupT, i_truB, Bool.not_true, Bool.not_false, Bool.false_eq_true, if_true, if_false, reduceIte]
  refine ⟨by decide, _, Or.inr (Or.inl ⟨_, _, rfl, rfl, by simp, by decide, by decide, by decide, rfl⟩), ?_⟩
  refine ⟨_, _, rfl, Or.inr ⟨2, rfl, p2, by show (List.replicate _ _).flatten.length ≤ 150; decide +kernel, Or.inr ⟨by decide +kernel, fun _ => wl_fine ⟨by decide, ?_⟩⟩⟩⟩
  rw [sn9, sn1]
  (try dsimp only); rw [wSeq_eq]; simp -failIfUnchanged only [wVar, wC, wOp, wUn, wCl, wB, wTr, wAnd, wOr, wNot, wAndV, wOrV, wNotV, wIf, wCh, wNil, wCons, wTup, wLe, wSz, wFn, wFnJ, wFnB, wFnJB, wBNil, wBCons, wBOwn, rsvP, rsvJ, wNext, wRet, wRetN, wDrop, wIfS, wSet, wSetOwn, wNever, wAug, wOpO, wIxO, wOpR, wClO, wApp, wSetIt, wFrz, wFor, wRg1, wRg2, wSq, wEnum, wZip, wZipM, wZipS, wZipU, wgN, wgT, wgNil, wgCons, wYes, wAsgT, wgLs, wLenS, wIxS, wFnS, wFnJL, wFnX, wRaise, wRaiseF, wForFn, forFnW, wMet, hide, wIsi, wListOf, wRev, edP, edJ, enP, enJ, enS, NotOwn, Flat, List.map_cons, List.map_nil, List.length_cons, List.length_nil, List.replicate_succ, List.replicate_zero, List.cons_append, List.nil_append, List.append_nil, List.set_cons_zero, List.set_cons_succ, List.getElem?_cons_zero, List.getElem?_cons_succ, Nat.reduceAdd, Nat.reduceSub, Option.some.injEq, Sl.imm.injEq, Sl.own.injEq, Sl.scr.injEq, exists_eq_left, exists_eq_left', exists_eq_right, exists_eq, exists_eq', exists_and_left, and_assoc, and_true, true_and, ne_eq, not_false_eq_true, Nat.succ_ne_zero, or_true, true_or, true_implies, forall_eq', forall_eq, PyData.int.injEq, PyData.bool.injEq, PyData.list.injEq, PyData.tuple.injEq, List.cons.injEq, i_add, i_iadd, i_sub, i_mul, i_mod, i_fdiv, i_fdivG, i_pow, i_neg, i_le, i_ge, i_gt, i_lt, i_eq, i_ne, i_intI, i_intB, i_abs, i_max, i_min, i_lenL, i_lenT, i_ixL, i_ixT, i_tupL, i_tupT, i_truB, Bool.not_true, Bool.not_false, Bool.false_eq_true, if_true, if_false, reduceIte]
  refine ⟨by decide, by decide, by decide, by decide, by decide, ?_⟩
  (try dsimp only); rw [wSeq_eq]; simp -failIfUnchanged only [i_neg, wVar, wC, wOp, wUn, wCl, wB, wTr, wAnd, wOr, wNot, wAndV, wOrV, wNotV, wIf, wCh, wNil, wCons, wTup, wLe, wSz, wFn, wFnJ, wFnB, wFnJB, wBNil, wBCons, wBOwn, rsvP, rsvJ, wNext, wRet, wRetN, wDrop, wIfS, wSet, wSetOwn, wNever, wAug, wOpO, wIxO, wOpR, wClO, wApp, wSetIt, wFrz, wFor, wRg1, wRg2, wSq, wEnum, wZip, wZipM, wZipS, wZipU, wgN, wgT, wgNil, wgCons, wYes, wAsgT, wgLs, wLenS, wIxS, wFnS, wFnJL, wFnX, wRaise, wRaiseF, wForFn, forFnW, wMet, hide, wIsi, wListOf, wRev, edP, edJ, enP, enJ, enS, NotOwn, Flat, List.map_cons, List.map_nil, List.length_cons, List.length_nil, List.replicate_succ, List.replicate_zero, List.cons_append, List.nil_append, List.append_nil, List.set_cons_zero, List.set_cons_succ, List.getElem?_cons_zero, List.getElem?_cons_succ, Nat.reduceAdd, Nat.reduceSub, Option.some.injEq, Sl.imm.injEq, Sl.own.injEq, Sl.scr.injEq, exists_eq_left, exists_eq_left', exists_eq_right, exists_eq, exists_eq', exists_and_left, and_assoc, and_true, true_and, ne_eq, not_false_eq_true, Nat.succ_ne_zero, or_true, true_or, true_implies, forall_eq', forall_eq, PyData.int.injEq, PyData.bool.injEq, PyData.list.injEq, PyData.tuple.injEq, List.cons.injEq, i_add, i_iadd, i_sub, i_mul, i_mod, i_fdiv, i_fdivG, i_pow, i_neg, i_le, i_ge, i_gt, i_lt, i_eq, i_ne, i_intI, i_intB, i_abs, i_max, i_min, i_lenL, i_lenT, i_ixL, i_ixT, i_tupL, i_tupT, i_truB, Bool.not_true, Bool.not_false, Bool.false_eq_true, if_true, if_false, reduceIte]
  refine ⟨by decide, pow_ok (by decide +kernel), by decide, ?_⟩
  have hl7 : (Ls7.map numD).length = 7 := rfl
  have hc7 : ∀ x ∈ Ls7.map numD, Nc 1 x := fun x hx => by
    obtain ⟨y, hy, rfl⟩ := List.mem_map.mp hx
    exact nt (two l7_ok y hy).1
  refine ⟨_, Or.inr rfl, odd_loop Ls7 _ _ _ (fun x hx => ?_) (by decide) (by decide) fun s6 => ?_⟩
  · have := two l7_ok x hx
    exact ⟨this.1, noB this.2⟩
  generalize Ls7.map numD = tl at hl7 hc7
  simp -failIfUnchanged only [wVar, wC, wOp, wUn, wCl, wB, wTr, wAnd, wOr, wNot, wAndV, wOrV, wNotV, wIf, wCh, wNil, wCons, wTup, wLe, wSz, wFn, wFnJ, wFnB, wFnJB, wBNil, wBCons, wBOwn, rsvP, rsvJ, wNext, wRet, wRetN, wDrop, wIfS, wSet, wSetOwn, wNever, wAug, wOpO, wIxO, wOpR, wClO, wApp, wSetIt, wFrz, wFor, wRg1, wRg2, wSq, wEnum, wZip, wZipM, wZipS, wZipU, wgN, wgT, wgNil, wgCons, wYes, wAsgT, wgLs, wLenS, wIxS, wFnS, wFnJL, wFnX, wRaise, wRaiseF, wForFn, forFnW, wMet, hide, wIsi, wListOf, wRev, edP, edJ, enP, enJ, enS, NotOwn, Flat, List.map_cons, List.map_nil, List.length_cons, List.length_nil, List.replicate_succ, List.replicate_zero, List.cons_append, List.nil_append, List.append_nil, List.set_cons_zero, List.set_cons_succ, List.getElem?_cons_zero, List.getElem?_cons_succ, Nat.reduceAdd, Nat.reduceSub, Option.some.injEq, Sl.imm.injEq, Sl.own.injEq, Sl.scr.injEq, exists_eq_left, exists_eq_left', exists_eq_right, exists_eq, exists_eq', exists_and_left, and_assoc, and_true, true_and, ne_eq, not_false_eq_true, Nat.succ_ne_zero, or_true, true_or, true_implies, forall_eq', forall_eq, PyData.int.injEq, PyData.bool.injEq, PyData.list.injEq, PyData.tuple.injEq, List.cons.injEq, i_add, i_iadd, i_sub, i_mul, i_mod, i_fdiv, i_fdivG, i_pow, i_neg, i_le, i_ge, i_gt, i_lt, i_eq, i_ne, i_intI, i_intB, i_abs, i_max, i_min, i_lenL, i_lenT, i_ixL, i_ixT, i_tupL, i_tupT, i_truB, Bool.not_true, Bool.not_false, Bool.false_eq_true, if_true, if_false, reduceIte]
  (try dsimp only); rw [wSeq_eq]; simp -failIfUnchanged only [wVar, wC, wOp, wUn, wCl, wB, wTr, wAnd, wOr, wNot, wAndV, wOrV, wNotV, wIf, wCh, wNil, wCons, wTup, wLe, wSz, wFn, wFnJ, wFnB, wFnJB, wBNil, wBCons, wBOwn, rsvP, rsvJ, wNext, wRet, wRetN, wDrop, wIfS, wSet, wSetOwn, wNever, wAug, wOpO, wIxO, wOpR, wClO, wApp, wSetIt, wFrz, wFor, wRg1, wRg2, wSq, wEnum, wZip, wZipM, wZipS, wZipU, wgN, wgT, wgNil, wgCons, wYes, wAsgT, wgLs, wLenS, wIxS, wFnS, wFnJL, wFnX, wRaise, wRaiseF, wForFn, forFnW, wMet, hide, wIsi, wListOf, wRev, edP, edJ, enP, enJ, enS, NotOwn, Flat, List.map_cons, List.map_nil, List.length_cons, List.length_nil, List.replicate_succ, List.replicate_zero, List.cons_append, List.nil_append, List.append_nil, List.set_cons_zero, List.set_cons_succ, List.getElem?_cons_zero, List.getElem?_cons_succ, Nat.reduceAdd, Nat.reduceSub, Option.some.injEq, Sl.imm.injEq, Sl.own.injEq, Sl.scr.injEq, exists_eq_left, exists_eq_left', exists_eq_right, exists_eq, exists_eq', exists_and_left, and_assoc, and_true, true_and, ne_eq, not_false_eq_true, Nat.succ_ne_zero, or_true, true_or, true_implies, forall_eq', forall_eq, PyData.int.injEq, PyData.bool.injEq, PyData.list.injEq, PyData.tuple.injEq, List.cons.injEq, i_add, i_iadd, i_sub, i_mul, i_mod, i_fdiv, i_fdivG, i_pow, i_neg, i_le, i_ge, i_gt, i_lt, i_eq, i_ne, i_intI, i_intB, i_abs, i_max, i_min, i_lenL, i_lenT, i_ixL, i_ixT, i_tupL, i_tupT, i_truB, Bool.not_true, Bool.not_false, Bool.false_eq_true, if_true, if_false, reduceIte]
  refine ⟨_, rfl, Or.inr ⟨rfl, wl_fine ⟨?_, ?_⟩⟩⟩
  · simp only [List.length_append, List.length_cons, hl7]; decide
  simp -failIfUnchanged only [wVar, wC, wOp, wUn, wCl, wB, wTr, wAnd, wOr, wNot, wAndV, wOrV, wNotV, wIf, wCh, wNil, wCons, wTup, wLe, wSz, wFn, wFnJ, wFnB, wFnJB, wBNil, wBCons, wBOwn, rsvP, rsvJ, wNext, wRet, wRetN, wDrop, wIfS, wSet, wSetOwn, wNever, wAug, wOpO, wIxO, wOpR, wClO, wApp, wSetIt, wFrz, wFor, wRg1, wRg2, wSq, wEnum, wZip, wZipM, wZipS, wZipU, wgN, wgT, wgNil, wgCons, wYes, wAsgT, wgLs, wLenS, wIxS, wFnS, wFnJL, wFnX, wRaise, wRaiseF, wForFn, forFnW, wMet, hide, wIsi, wListOf, wRev, edP, edJ, enP, enJ, enS, NotOwn, Flat, List.map_cons, List.map_nil, List.length_cons, List.length_nil, List.replicate_succ, List.replicate_zero, List.cons_append, List.nil_append, List.append_nil, List.set_cons_zero, List.set_cons_succ, List.getElem?_cons_zero, List.getElem?_cons_succ, Nat.reduceAdd, Nat.reduceSub, Option.some.injEq, Sl.imm.injEq, Sl.own.injEq, Sl.scr.injEq, exists_eq_left, exists_eq_left', exists_eq_right, exists_eq, exists_eq', exists_and_left, and_assoc, and_true, true_and, ne_eq, not_false_eq_true, Nat.succ_ne_zero, or_true, true_or, true_implies, forall_eq', forall_eq, PyData.int.injEq, PyData.bool.injEq, PyData.list.injEq, PyData.tuple.injEq, List.cons.injEq, i_add, i_iadd, i_sub, i_mul, i_mod, i_fdiv, i_fdivG, i_pow, i_neg, i_le, i_ge, i_gt, i_lt, i_eq, i_ne, i_intI, i_intB, i_abs, i_max, i_min, i_lenL, i_lenT, i_ixL, i_ixT, i_tupL, i_tupT, i_truB, Bool.not_true, Bool.not_false, Bool.false_eq_true, if_true, if_false, reduceIte]
  have tf : Nc 1 (.str "fine") := nc_str (by decide +kernel)
  refine ⟨by decide, _, ⟨?_, rfl⟩, .bool true, eq_nc (n := 3) (nc_list (n := 2) ?_) (by decide), q⟩
  · simp only [List.length_append, List.length_cons, List.length_nil, hl7]; decide
  intro x hx
  simp only [List.mem_cons, List.mem_append, List.not_mem_nil, or_false] at hx
  rcases hx with rfl | rfl | rfl | rfl | rfl | rfl | rfl | hx | rfl
  · refine nc_tup (n := 1) ?_
    simp only [List.forall_mem_cons]
    refine ⟨nc_str (by decide +kernel), nc_tup (n := 0) ?_, nofun⟩
    simp only [List.forall_mem_cons]
    exact ⟨nc_str (by decide +kernel), nofun⟩
  · exact nc_mono (by rw [← sn9]; exact nt (by decide +kernel)) (m := 1) (by decide)
  · exact nc_mono tf (by decide)
  · exact nc_mono (by rw [← sn1]; exact nt (by decide +kernel)) (m := 1) (by decide)
  · exact nc_mono tf (by decide)
  · exact nc_mono tf (by decide)
  · exact nc_mono tf (by decide)
  · exact nc_mono (hc7 x hx) (by decide)
  · exact nc_mono tf (by decide)
end K03

set_option Elab.async false
set_option linter.all false
set_option maxRecDepth 100000
set_option maxHeartbeats 0
namespace K03
open PySem PySem.Spec PyProof.Rows L2 Pd
def dd (x : Str) (i : Nat) : He.DefD := ⟨(x, none), x, x, defArgs (top i), defBody (top i), defScope (top i), [], []⟩
def clsBody (s : Stmt) : List Stmt := match s with
  | .ClassDef _ _ _ b _ _ _ _ _ _ _ => b
  | _ => []
def mtop (i j : Nat) : Stmt := (clsBody (top i)).getD j (.Pass ⟨0, 0, 0, 0⟩)
def ddm (c m : Str) (i j : Nat) : He.DefD := ⟨(c, some m), m, c ++ "." ++ m, defArgs (mtop i j), defBody (mtop i j), defScope (mtop i j), [], []⟩
def fn : List He.DefD := ([dd "is_whole" 6, dd "is_between" 7, dd "check_between" 8, dd "least_divisor" 13, dd "is_prime" 14, dd "check_prime" 15, dd "check_letter" 16, dd "are_letters" 17, dd "next_prime" 18, dd "power_of" 19, dd "inverse_of" 20, dd "inverse" 21, dd "power" 22, dd "letters_at" 23, dd "number_at" 24, dd "prime_divisors" 25, dd "is_root" 26, dd "root" 27, dd "exponent_of" 28, dd "_law_jug" 30] : List He.DefD) ++ ([dd "_law_pour" 31, dd "_law_sip" 32, dd "_law_met" 33, dd "_law_right" 34, dd "law" 35, ddm "InvalidNumber" "__init__" 3 0, ddm "Refused" "__init__" 4 0] : List He.DefD)
def fa : List He.Fa := ([.glo "is_whole", .glo "is_between", .glo "check_between", .glo "least_divisor", .glo "is_prime", .glo "check_prime", .glo "check_letter", .glo "are_letters", .glo "next_prime", .glo "power_of", .glo "inverse_of", .glo "inverse", .glo "power", .glo "letters_at", .glo "number_at", .glo "prime_divisors", .glo "is_root", .glo "root", .glo "exponent_of", .glo "_law_jug", .glo "_law_pour", .glo "_law_sip", .glo "_law_met", .glo "_law_right", .glo "law", .int "MOST_LETTERS" 100, .int "MOST_PRIME" 9973, .int "MOST_TIMES" 1000000000, .free "abs", .free "all"] : List He.Fa) ++ ([.free "bool", .free "int", .free "isinstance", .free "len", .free "max", .free "min", .free "range", .free "repr", .free "tuple", .glo "InvalidNumber", .glo "InvalidRow", .glo "Refused", .exc "InvalidRow", .exm "InvalidNumber" "InvalidNumber" true, .exm "InvalidNumber" "InvalidRow" false, .exm "InvalidNumber" "Refused" false, .exm "InvalidRow" "InvalidNumber" false, .exm "InvalidRow" "InvalidRow" true, .exm "InvalidRow" "Refused" false, .exm "Refused" "InvalidNumber" false, .exm "Refused" "InvalidRow" false, .exm "Refused" "Refused" true] : List He.Fa)
def ys : List YF := [.oex "InvalidNumber" "IndexError" "given", .oex "Refused" "ArithmeticError" "reason", .fld "InvalidNumber" "given", .fld "Refused" "reason", .apart ("_law_right", none) ("law", none)]
theorem yfa {K : PySem.W.Frag} (c : (ys.all (YF.ok K)) = true) (i : Nat) {f : YF} (e : ys[i]? = some f) : f.ok K = true := List.all_eq_true.mp c f (List.mem_of_getElem? e)
def ex (K : PySem.W.Frag) : Bool := ys.all (YF.ok K)
abbrev tfD : List He.Defn := [("_law_right", none), ("law", none)]
abbrev R : PySem.W.OpenRow := PySem.W.OpenLaw.row RR
abbrev hk : PySem.W.Hook := He.hookX 6 fa fn [] tfD ex
def ob (s : PySem.W.SharedT) : He.AlX := He.obsX 6 fa fn [] tfD ex (HandSHeadRun.getT s)
theorem ob_eq (s : PySem.W.SharedT) : ob s = hk.obs s.abs := He.obsX_eq (HandSHeadRun.getT_eq s)
abbrev loose : List Str := (["FetchError", "InvalidRow", "InvalidNumber", "Refused", "is_whole", "is_between", "check_between", "MOST_PRIME", "MOST_TIMES", "MOST_LETTERS", "least_divisor", "is_prime", "check_prime", "check_letter", "are_letters"] : List Str) ++ (["next_prime", "power_of", "inverse_of", "inverse", "power", "letters_at", "number_at", "prime_divisors", "is_root", "root", "exponent_of", "_law_jug", "_law_pour", "_law_sip", "_law_met"] : List Str) ++ (["_law_right"] : List Str)
theorem run (w : World) : HandSHeadRun.RunEq R (PySem.W.view R.prog [35]) hk ob 9000 loose w := by
  intro os
  kernel_rfl
theorem bind0 {K : PySem.W.Frag} {fd : FuncData} {ps : List Str} (h : ∀ (s : Shared) (us : List Value), us.length = ps.length → BindsTo s fd ⟨us, []⟩ (ps.zip us)) : Binds K fd ps [] := fun s us _ hl => by
  rw [List.append_nil] at hl ⊢
  exact h s us hl
theorem facts {P : Program} {w : World} {K : PySem.W.Frag} {h h0 : Heap} {mg : Str → Option Value} {f : Addr} (X : K.In h) (G : h.Ns mainGlobals mg) (hfa : mg ("law" : Str) = some (.ref f)) (cb : He.SaysX fa fn [] tfD ex w h0 K) :
    ∃ fd : FuncData, (∀ (s : Shared) (v : Value), BindsTo s fd ⟨[v], []⟩ [("script", v)]) ∧ ∀ base : Heap, K.In base → base.Ns mainGlobals mg → TabsB K mg base tabF → FnG P w K mg base 9 f fd ["script"] (spST K (tabsT K tabF) 1 wf_law) := by
  have c := cb.t.d
  have T : Tb K mg := ⟨trivial, He.free_ok X G (c.fact 28 (f := He.Fa.free "abs") rfl), He.free_ok X G (c.fact 29 (f := He.Fa.free "all") rfl), He.free_ok X G (c.fact 30 (f := He.Fa.free "bool") rfl), He.free_ok X G (c.fact 31 (f := He.Fa.free "int") rfl), He.free_ok X G (c.fact 32 (f := He.Fa.free "isinstance") rfl), He.free_ok X G (c.fact 33 (f := He.Fa.free "len") rfl), He.free_ok X G (c.fact 34 (f := He.Fa.free "max") rfl), He.free_ok X G (c.fact 35 (f := He.Fa.free "min") rfl), He.free_ok X G (c.fact 36 (f := He.Fa.free "range") rfl), He.free_ok X G (c.fact 37 (f := He.Fa.free "repr") rfl), He.free_ok X G (c.fact 38 (f := He.Fa.free "tuple") rfl), exo_cls (c.fact 42 (f := He.Fa.exc "InvalidRow") rfl) (He.glo_ok X G (c.fact 40 (f := He.Fa.glo "InvalidRow") rfl)), (He.glo_ok X G (c.fact 39 (f := He.Fa.glo "InvalidNumber") rfl)), (He.glo_ok X G (c.fact 40 (f := He.Fa.glo "InvalidRow") rfl)), (He.glo_ok X G (c.fact 41 (f := He.Fa.glo "Refused") rfl)), exB_of (List.forall_mem_cons.mpr ⟨exm_ok (c.fact 43 (f := He.Fa.exm "InvalidNumber" "InvalidNumber" true) rfl), (List.forall_mem_cons.mpr ⟨exm_ok (c.fact 44 (f := He.Fa.exm "InvalidNumber" "InvalidRow" false) rfl), (List.forall_mem_cons.mpr ⟨exm_ok (c.fact 45 (f := He.Fa.exm "InvalidNumber" "Refused" false) rfl), (List.forall_mem_cons.mpr ⟨exm_ok (c.fact 46 (f := He.Fa.exm "InvalidRow" "InvalidNumber" false) rfl), (List.forall_mem_cons.mpr ⟨exm_ok (c.fact 47 (f := He.Fa.exm "InvalidRow" "InvalidRow" true) rfl), (List.forall_mem_cons.mpr ⟨exm_ok (c.fact 48 (f := He.Fa.exm "InvalidRow" "Refused" false) rfl), (List.forall_mem_cons.mpr ⟨exm_ok (c.fact 49 (f := He.Fa.exm "Refused" "InvalidNumber" false) rfl), (List.forall_mem_cons.mpr ⟨exm_ok (c.fact 50 (f := He.Fa.exm "Refused" "InvalidRow" false) rfl), (List.forall_mem_cons.mpr ⟨exm_ok (c.fact 51 (f := He.Fa.exm "Refused" "Refused" true) rfl), nofun⟩)⟩)⟩)⟩)⟩)⟩)⟩)⟩)⟩), (List.forall_mem_cons.mpr ⟨fld_ok (yfa cb.more 2 (f := YF.fld "InvalidNumber" "given") rfl), nofun⟩), (List.forall_mem_cons.mpr ⟨fld_ok (yfa cb.more 3 (f := YF.fld "Refused" "reason") rfl), nofun⟩), (He.glo_ok X G (c.fact 18 (f := He.Fa.glo "exponent_of") rfl)), (He.glo_ok X G (c.fact 11 (f := He.Fa.glo "inverse") rfl)), (He.glo_ok X G (c.fact 13 (f := He.Fa.glo "letters_at") rfl)), (He.glo_ok X G (c.fact 14 (f := He.Fa.glo "number_at") rfl)), (He.glo_ok X G (c.fact 12 (f := He.Fa.glo "power") rfl)), He.int_ok X G (c.fact 25 (f := He.Fa.int "MOST_LETTERS" 100) rfl), He.int_ok X G (c.fact 26 (f := He.Fa.int "MOST_PRIME" 9973) rfl), He.int_ok X G (c.fact 27 (f := He.Fa.int "MOST_TIMES" 1000000000) rfl)⟩
  obtain ⟨_, F_is_whole⟩ := c.def_ 0 (d := dd "is_whole" 6) rfl
  obtain ⟨_, F_is_between⟩ := c.def_ 1 (d := dd "is_between" 7) rfl
  obtain ⟨_, F_check_between⟩ := c.def_ 2 (d := dd "check_between" 8) rfl
  obtain ⟨_, F_least_divisor⟩ := c.def_ 3 (d := dd "least_divisor" 13) rfl
  obtain ⟨_, F_is_prime⟩ := c.def_ 4 (d := dd "is_prime" 14) rfl
  obtain ⟨_, F_check_prime⟩ := c.def_ 5 (d := dd "check_prime" 15) rfl
  obtain ⟨_, F_check_letter⟩ := c.def_ 6 (d := dd "check_letter" 16) rfl
  obtain ⟨_, F_are_letters⟩ := c.def_ 7 (d := dd "are_letters" 17) rfl
  obtain ⟨_, F_next_prime⟩ := c.def_ 8 (d := dd "next_prime" 18) rfl
  obtain ⟨_, F_power_of⟩ := c.def_ 9 (d := dd "power_of" 19) rfl
  obtain ⟨_, F_inverse_of⟩ := c.def_ 10 (d := dd "inverse_of" 20) rfl
  obtain ⟨_, F_inverse⟩ := c.def_ 11 (d := dd "inverse" 21) rfl
  obtain ⟨_, F_power⟩ := c.def_ 12 (d := dd "power" 22) rfl
  obtain ⟨_, F_letters_at⟩ := c.def_ 13 (d := dd "letters_at" 23) rfl
  obtain ⟨_, F_number_at⟩ := c.def_ 14 (d := dd "number_at" 24) rfl
  obtain ⟨_, F_prime_divisors⟩ := c.def_ 15 (d := dd "prime_divisors" 25) rfl
  obtain ⟨_, F_is_root⟩ := c.def_ 16 (d := dd "is_root" 26) rfl
  obtain ⟨_, F_root⟩ := c.def_ 17 (d := dd "root" 27) rfl
  obtain ⟨_, F_exponent_of⟩ := c.def_ 18 (d := dd "exponent_of" 28) rfl
  obtain ⟨_, F__law_jug⟩ := c.def_ 19 (d := dd "_law_jug" 30) rfl
  obtain ⟨_, F__law_pour⟩ := c.def_ 20 (d := dd "_law_pour" 31) rfl
  obtain ⟨_, F__law_sip⟩ := c.def_ 21 (d := dd "_law_sip" 32) rfl
  obtain ⟨_, F__law_met⟩ := c.def_ 22 (d := dd "_law_met" 33) rfl
  obtain ⟨_, F__law_right⟩ := c.def_ 23 (d := dd "_law_right" 34) rfl
  obtain ⟨_, F_InvalidNumber___init__⟩ := c.def_ 25 (d := ddm "InvalidNumber" "__init__" 3 0) rfl
  obtain ⟨_, F_Refused___init__⟩ := c.def_ 26 (d := ddm "Refused" "__init__" 4 0) rfl
  obtain ⟨fd, F⟩ := c.def_ 24 (d := dd "law" 35) rfl
  have e := hfa.symm.trans (He.glo_ok X G (c.fact 24 (f := He.Fa.glo "law") rfl))
  cases e
  have b := FunD.bindsA (ps := ["script"]) F fun _ _ _ _ _ _ us hl => match us, hl with | [_], _ => rfl
  have ap : Apart K tabF := (apart_cons (List.forall_mem_cons.mpr ⟨of_decide_eq_true (yfa cb.more 4 (f := YF.apart ("_law_right", none) ("law", none)) rfl), nofun⟩) (apart_cons nofun apart_nil))
  refine ⟨fd, fun s v => b s [v] rfl, fun base _ _ tb => ?_⟩
  have C_InvalidNumber___init__ : ExfC P w K mg base "InvalidNumber" "given" := oex_ok (yfa cb.more 0 (f := YF.oex "InvalidNumber" "IndexError" "given") rfl) (He.glo_ok X G (c.fact 39 (f := He.Fa.glo "InvalidNumber") rfl)) F_InvalidNumber___init__ (s := "self") (g := "given") ⟨rfl, rfl, rfl, by decide +kernel, rfl, by decide +kernel, by decide +kernel⟩ rfl (by first | exact .inl rfl | exact .inr (.inl rfl)) (by first | exact .inl rfl | exact .inr (.inl rfl)) (bind0 (FunD.bindsA (ps := ["self", "given"]) F_InvalidNumber___init__ fun _ _ _ _ _ _ us hl => match us, hl with | [_, _], _ => rfl))
  have C_Refused___init__ : ExfC P w K mg base "Refused" "reason" := oex_ok (yfa cb.more 1 (f := YF.oex "Refused" "ArithmeticError" "reason") rfl) (He.glo_ok X G (c.fact 41 (f := He.Fa.glo "Refused") rfl)) F_Refused___init__ (s := "self") (g := "reason") ⟨rfl, rfl, rfl, by decide +kernel, rfl, by decide +kernel, by decide +kernel⟩ rfl (by first | exact .inl rfl | exact .inr (.inl rfl)) (by first | exact .inl rfl | exact .inr (.inl rfl)) (bind0 (FunD.bindsA (ps := ["self", "reason"]) F_Refused___init__ fun _ _ _ _ _ _ us hl => match us, hl with | [_, _], _ => rfl))
  have m__law_met := He.glo_ok X G (c.fact 22 (f := He.Fa.glo "_law_met") rfl)
  have B__law_met := bind0 (K := K) (FunD.bindsA (ps := ["call"]) F__law_met fun _ _ _ _ _ _ us hl => match us, hl with | [_], _ => rfl)
  have C__law_jug : Cal P w K mg base 1 "_law_jug" ["script", "spot"] (spS K 2 wf__law_jug) := ok__law_jug T  F__law_jug (He.glo_ok X G (c.fact 19 (f := He.Fa.glo "_law_jug") rfl)) pu__law_jug
  have C__law_pour : Cal P w K mg base 1 "_law_pour" ["jug", "total"] (spJ K 2 wf__law_pour) := ok__law_pour T  F__law_pour (He.glo_ok X G (c.fact 20 (f := He.Fa.glo "_law_pour") rfl)) pu__law_pour
  have C__law_sip : Cal P w K mg base 2 "_law_sip" ["jug", "items"] (spJ K 2 wf__law_sip) := ok__law_sip T C__law_pour F__law_sip (He.glo_ok X G (c.fact 21 (f := He.Fa.glo "_law_sip") rfl)) pu__law_sip
  have C_least_divisor : Cal P w K mg base 1 "least_divisor" ["number"] (spP K 1 wf_least_divisor) := ok_least_divisor T  F_least_divisor (He.glo_ok X G (c.fact 3 (f := He.Fa.glo "least_divisor") rfl)) pu_least_divisor
  have C_is_whole : Cal P w K mg base 1 "is_whole" ["value"] (spP K 1 wf_is_whole) := ok_is_whole T  F_is_whole (He.glo_ok X G (c.fact 0 (f := He.Fa.glo "is_whole") rfl)) pu_is_whole
  have C_is_between : Cal P w K mg base 2 "is_between" ["value", "least", "most"] (spP K 3 wf_is_between) := ok_is_between T C_is_whole F_is_between (He.glo_ok X G (c.fact 1 (f := He.Fa.glo "is_between") rfl)) pu_is_between
  have C_is_prime : Cal P w K mg base 3 "is_prime" ["value"] (spP K 1 wf_is_prime) := ok_is_prime T C_least_divisor C_is_between F_is_prime (He.glo_ok X G (c.fact 4 (f := He.Fa.glo "is_prime") rfl)) pu_is_prime
  have C_check_prime : CalX P w K mg base 4 "check_prime" ["prime"] (spX K 1 wf_check_prime) := ok_check_prime T C_is_prime C_InvalidNumber___init__ F_check_prime (He.glo_ok X G (c.fact 5 (f := He.Fa.glo "check_prime") rfl)) pu_check_prime
  have C_check_between : CalX P w K mg base 3 "check_between" ["value", "least", "most"] (spX K 3 wf_check_between) := ok_check_between T C_is_between C_InvalidNumber___init__ F_check_between (He.glo_ok X G (c.fact 2 (f := He.Fa.glo "check_between") rfl)) pu_check_between
  have C_check_letter : CalX P w K mg base 4 "check_letter" ["prime", "letter"] (spX K 2 wf_check_letter) := ok_check_letter T C_check_between F_check_letter (He.glo_ok X G (c.fact 6 (f := He.Fa.glo "check_letter") rfl)) pu_check_letter
  have C_power_of : Cal P w K mg base 1 "power_of" ["prime", "letter", "times"] (spP K 3 wf_power_of) := ok_power_of T  F_power_of (He.glo_ok X G (c.fact 9 (f := He.Fa.glo "power_of") rfl)) pu_power_of
  have C_inverse_of : Cal P w K mg base 2 "inverse_of" ["prime", "letter"] (spP K 2 wf_inverse_of) := ok_inverse_of T C_power_of F_inverse_of (He.glo_ok X G (c.fact 10 (f := He.Fa.glo "inverse_of") rfl)) pu_inverse_of
  have C_inverse : CalX P w K mg base 5 "inverse" ["prime", "letter"] (spX K 2 wf_inverse) := ok_inverse T C_check_prime C_check_letter C_inverse_of C_Refused___init__ F_inverse (He.glo_ok X G (c.fact 11 (f := He.Fa.glo "inverse") rfl)) pu_inverse
  have C_are_letters : Cal P w K mg base 3 "are_letters" ["prime", "value", "least", "most"] (spP K 4 wf_are_letters) := ok_are_letters T C_is_between F_are_letters (He.glo_ok X G (c.fact 7 (f := He.Fa.glo "are_letters") rfl)) pu_are_letters
  have C_number_at : CalX P w K mg base 5 "number_at" ["prime", "letters"] (spX K 2 wf_number_at) := ok_number_at T C_check_prime C_are_letters F_number_at (He.glo_ok X G (c.fact 14 (f := He.Fa.glo "number_at") rfl)) pu_number_at
  have C_power : CalX P w K mg base 5 "power" ["prime", "letter", "times"] (spX K 3 wf_power) := ok_power T C_check_prime C_check_letter C_check_between C_power_of F_power (He.glo_ok X G (c.fact 12 (f := He.Fa.glo "power") rfl)) pu_power
  have C_letters_at : CalX P w K mg base 5 "letters_at" ["prime", "many", "number"] (spX K 3 wf_letters_at) := ok_letters_at T C_check_prime C_check_between C_is_whole C_InvalidNumber___init__ F_letters_at (He.glo_ok X G (c.fact 13 (f := He.Fa.glo "letters_at") rfl)) pu_letters_at
  have C_exponent_of : CalX P w K mg base 5 "exponent_of" ["prime", "base", "letter"] (spX K 3 wf_exponent_of) := ok_exponent_of T C_check_prime C_check_letter F_exponent_of (He.glo_ok X G (c.fact 18 (f := He.Fa.glo "exponent_of") rfl)) pu_exponent_of
  have C_prime_divisors : Cal P w K mg base 2 "prime_divisors" ["number"] (spP K 1 wf_prime_divisors) := ok_prime_divisors T C_least_divisor F_prime_divisors (He.glo_ok X G (c.fact 15 (f := He.Fa.glo "prime_divisors") rfl)) pu_prime_divisors
  have C_is_root : Cal P w K mg base 3 "is_root" ["prime", "letter"] (spP K 2 wf_is_root) := ok_is_root T C_prime_divisors C_power_of F_is_root (He.glo_ok X G (c.fact 16 (f := He.Fa.glo "is_root") rfl)) pu_is_root
  have C_root : CalX P w K mg base 5 "root" ["prime"] (spX K 1 wf_root) := ok_root T C_check_prime C_is_root F_root (He.glo_ok X G (c.fact 17 (f := He.Fa.glo "root") rfl)) pu_root
  have C__law_right : CalG P w K mg base 8 "_law_right" ["jug"] (spJT K (tabsT K tabF) 1 wf__law_right) := ok__law_right T C__law_sip C_inverse C_number_at C_power C_letters_at C_exponent_of C_root C__law_pour F__law_met m__law_met B__law_met ap tb F__law_right (He.glo_ok X G (c.fact 23 (f := He.Fa.glo "_law_right") rfl)) pu__law_right
  have C_next_prime : CalX P w K mg base 4 "next_prime" ["number"] (spX K 1 wf_next_prime) := ok_next_prime T C_check_between C_is_prime F_next_prime (He.glo_ok X G (c.fact 8 (f := He.Fa.glo "next_prime") rfl)) pu_next_prime
  exact ok_law T C__law_jug C__law_right C_inverse C_letters_at C_power C_number_at C_next_prime F__law_met m__law_met B__law_met ap tb F pu_law
end K03
open PySem PySem.W PySem.Calls PyProof.Rows
theorem PySem.Challenge.cw_fetchunseen_k03_errors_of_letters_holds : PySem.Challenge.rw_fetchunseen_k03_errors_of_letters.Holds := by
  w_on; o_law
  refine HandSHeadRun.head_any (r := OpenLaw.row K03.RR) (q := view (OpenLaw.row K03.RR).prog [35]) (H := K03.hk) (ob := K03.ob) (M := 9000) (loose := K03.loose) (d := HandSHeadRun.topDef (OpenLaw.row K03.RR).prog 35) (kwd := []) K03.ob_eq
    (by kernel_rfl) (fun s => by kernel_rfl) K03.run (by kernel_rfl) (by kernel_rfl) (by kernel_rfl) (by rfl) (by first | assumption | decide +kernel) (by decide +kernel) ⟨rfl, rfl, rfl, rfl, rfl, by decide +kernel⟩ ?hw ?hc
  case hw => w_witness2
  case hc =>
    refine Pd.walk_ofG (l := PySem.Challenge.rw_fetchunseen_k03_errors_of_letters) (n := 63) (k := 9) (x := "script") rfl (by decide) (by kernel_rfl) ⟨rfl, by decide, by decide⟩ ?F
    intro w mg fa h Y G hmg0
    obtain ⟨K, KX, c⟩ := Y
    have hmg : mg ("law" : PySem.Str) = some (.ref fa) := by
      have e : (HandSHeadRun.topDef (OpenLaw.row K03.RR).prog 35).name = ("law" : PySem.Str) := by kernel_rfl
      rw [← e]
      exact hmg0
    obtain ⟨fd, hb, hF⟩ := K03.facts (P := (PySem.Challenge.rw_fetchunseen_k03_errors_of_letters).prog) (w := w) KX G hmg c
    have mm : ∀ p ∈ K03.tabF.map (fun f => He.cT K (f, none)), ∃ q ∈ K03.tfD, p = He.cT K q := fun p hp => by
      obtain ⟨f, hf, rfl⟩ := List.mem_map.mp hp
      exact ⟨(f, none), (List.mem_map.mpr ⟨f, hf, rfl⟩ : ((f, none) : He.Defn) ∈ K03.tabF.map fun f => ((f, none) : He.Defn)), rfl⟩
    refine ⟨K, fd, K03.tabF.map (fun f => He.cT K (f, none)), Pd.spST K (Pd.tabsT K K03.tabF) 1 K03.wf_law, KX, fun p hp => ?_, fun p hp => ?_, fun p hp => ?_, hb, fun H a vs ns hl ho S => Pd.law_start hl (fun f hf => c.empty _ (List.mem_map.mpr ⟨f, hf, rfl⟩ : ((f, none) : He.Defn) ∈ K03.tabF.map fun f => ((f, none) : He.Defn))) ho S, fun base B N tb => hF base B N fun f hf => tb _ (List.mem_map.mpr ⟨f, hf, rfl⟩)⟩
    · obtain ⟨q, hq, rfl⟩ := mm p hp
      exact c.empty q hq
    · obtain ⟨q, hq, rfl⟩ := mm p hp
      exact c.out q hq
    · obtain ⟨q, hq, rfl⟩ := mm p hp
      exact PySem.W.codeHd_of_K KX (c.hd q hq)

