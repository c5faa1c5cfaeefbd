import PyProof.Rows.All
import Wide.All
import OpenK.AllK
import Wide.FinOn
import HandS.ForMost
import HandS.Evl
import HandS.Wide
import HandS.IsInst
import HandS.Gcd
import HandS.Zip
import HandS.HeadHook1
import HandS.Lambda
import HandS.TupAny
import HandS.TupMul
import HandS.Style
import HandS.Defaults
import HandS.WordsExc
import KE.GoesMore
import KE.GoesEnum
import HandS.HeadHook2
import HandS.HeadEnd
import HandS.Head2
import HandS.RaiseMore
import HandS.NoneIn
import HandS.Head3
import HandS.Dict
import HandS.SortInts
import HandS.TupSets
import HandS.NamedTupSort
import HandS.Conv
import KE.KTupSum
import HandS.SetFor
import HandS.Strs
import KE.GoesZip
import PyProof.ConsumeWalk
import PyProof.WalksMore
import KE.KDictZip
import HandS.Star
import PyProof.InstNe
import HandS.OwnEq
import HandS.FStr
import KE.KFmtOwn
import KE.KEqDict
import PyProof.NeKinds
import PyProof.EqKinds
import HandS.Exc
import HandS.ExcOwn
import HandS.TryMany
import HandS.ExcInit
import HandS.ExcField
import KE.KExcInit
import HandS.EndTab
import HandS.HeadHook4
import PyProof.ReprRoads
import PyProof.EnumStmt
import PyProof.EnumMake
import PyProof.TupleOfGen
import PyProof.CollectIter
import HandS.ExcValue
import KE.KIntText
import PyProof.StrOps2
import PySem.Challenge.RW_fetchunseen_k14_whole_powers_added
set_option Elab.async false
set_option linter.all false
set_option maxRecDepth 100000
set_option maxHeartbeats 4000000
/-! A pure reading over data: slots hold data or one's own lists, expressions and statements are read over these alone. -/
namespace Pd
open PySem PySem.Spec PyProof.Rows L2
abbrev D := PyData
abbrev Sg := List (Option V)
abbrev Ex (H H' : Hp) : Prop := ∀ a o, H a = some o → H' a = some o
theorem Ex.rf (H : Hp) : Ex H H := fun _ _ h => h
theorem Ex.tr {H H1 H2 : Hp} (a : Ex H H1) (b : Ex H1 H2) : Ex H H2 := fun x o h => b x o (a x o h)
theorem Ex.up {H : Hp} {p : Addr} {o : HO} (h : H p = none) : Ex H (upd H p o) := fun a u e => by
  rw [upd_ne (ne_of_none e h)]; exact e
theorem Ex.no {H H' : Hp} {p : Addr} (e : Ex H H') (h : H' p = none) : H p = none := by
  cases h1 : H p with
  | none => rfl
  | some o => rw [e p o h1] at h; cases h
/-- what the written part says of a class of the module, for its instances as data -/
structure ClsI (K : PySem.W.Frag) (nm : Str) : Prop where
  cl : Cls K (He.ga K nm)
  ha : PySem.W.findIn K (.ref (He.ga K nm)) "__class__" = some (some (.builtin "object.__class__"))
  hn : PySem.W.specialIn K (.builtin "object.__class__") "__get__" = some (some (.builtin "getset_descriptor.__get__"))
  ht : PySem.W.takesIn K (.builtin "object.__class__") = some true
  hm : PySem.W.mroIn K (He.ga K nm) (.type "object") = some true
  kit : ∀ T ∈ ["int", "bool", "tuple", "list", "str"], PySem.W.kitOne K (.ref (He.ga K nm)) (.type T) = some false
/-! a value stands for data: tracked lists, tuples of any kind -/
mutual
inductive Da (K : PySem.W.Frag) (H : Hp) : V → PyData → Prop
  | non : Da K H .non .none
  | bl (b : Bool) : Da K H (.bl b) (.bool b)
  | int (i : Int) : Da K H (.int i) (.int i)
  | str (x : Str) : Da K H (.str x) (.str x)
  | lst {a : Addr} {xs : List V} {ds : List PyData} : H a = some (.lst xs) → DaAll K H xs ds → Da K H (.ref a) (.list ds)
  | tup {a : Addr} {xs : List V} {ds : List PyData} : SqT K H a xs → DaAll K H xs ds → Da K H (.ref a) (.tuple ds)
  /-- {}, never written -/
  | dic {a : Addr} : H a = some (.dK []) → Da K H (.ref a) (.dict [])
  /-- {k: i}, never written -/
  | dic1 {a : Addr} {k i : Int} : H a = some (.dK [(.inl k, .int i)]) → Da K H (.ref a) (.dict [(.int k, .int i)])
  /-- an instance of the module's class nm, its fields in their sequence, never written -/
  | obj {a dx : Addr} {nm : Str} {ns : List Str} {vs : List V} {ds : List PyData} : ClsI K nm → H a = some (.ins (He.ga K nm) dx (ns.zip vs)) → ns.length = vs.length → DaAll K H vs ds → Da K H (.ref a) (.dict [(.tuple (.str nm :: ns.map .str), .tuple ds)])
inductive DaAll (K : PySem.W.Frag) (H : Hp) : List V → List PyData → Prop
  | nil : DaAll K H [] []
  | cons {v : V} {vs : List V} {d : PyData} {ds : List PyData} : Da K H v d → DaAll K H vs ds → DaAll K H (v :: vs) (d :: ds)
end
section
variable {K : PySem.W.Frag} {H H' : Hp}
theorem rd_ex {a : Addr} {u : HO} (e : Ex H H') (h : Rd H a u) : Rd H' a u := by
  rcases h with h | ⟨o, h⟩
  · exact Or.inl (e a _ h)
  · exact Or.inr ⟨o, e a _ h⟩
theorem sqt_ex {a : Addr} {xs : List V} (e : Ex H H') (h : SqT K H a xs) : SqT K H' a xs := by
  rcases h with h | h
  · exact Or.inl (rd_ex e h)
  · exact Or.inr h
mutual
theorem dp_ex (e : Ex H H') : ∀ {v : V} {d : D}, Da K H v d → Da K H' v d
  | _, _, .non => .non
  | _, _, .bl b => .bl b
  | _, _, .int i => .int i
  | _, _, .str x => .str x
  | _, _, .lst hs ha => .lst (e _ _ hs) (dpa_ex e ha)
  | _, _, .tup hs ha => .tup (sqt_ex e hs) (dpa_ex e ha)
  | _, _, .dic h => .dic (e _ _ h)
  | _, _, .dic1 h => .dic1 (e _ _ h)
  | _, _, .obj c h hl ha => .obj c (e _ _ h) hl (dpa_ex e ha)
theorem dpa_ex (e : Ex H H') : ∀ {vs : List V} {ds : List D}, DaAll K H vs ds → DaAll K H' vs ds
  | _, _, .nil => .nil
  | _, _, .cons h1 h2 => .cons (dp_ex e h1) (dpa_ex e h2)
end
theorem Da.up {v : V} {d : D} (h : Da K H v d) (e : Ex H H') : Da K H' v d := dp_ex e h
theorem DaAll.up {vs : List V} {ds : List D} (h : DaAll K H vs ds) (e : Ex H H') : DaAll K H' vs ds := dpa_ex e h
mutual
theorem da_dp : ∀ (d : D) (v : V), PyData.canLay0 d = true → Da K H v d → Dp K H v d
  | .none, _, _, h => by cases h; exact .non
  | .bool b, _, _, h => by cases h; exact .bl b
  | .int i, _, _, h => by cases h; exact .int i
  | .str x, _, _, h => by cases h; exact .str x
  | .list ds, _, c, h => by
    cases h with
    | lst hs ha => exact .lst (SqL.of hs) (daa_dp ds _ c ha)
  | .tuple ds, _, c, h => by
    cases h with
    | tup hs ha => exact .tup hs (daa_dp ds _ c ha)
  | .dict _, _, c, _ => by cases c
theorem daa_dp : ∀ (ds : List D) (vs : List V), PyData.canLayAll0 ds = true → DaAll K H vs ds → DpAll K H vs ds
  | [], _, _, h => by cases h; exact .nil
  | d :: ds, _, c, h => by
    have c' : (PyData.canLay0 d && PyData.canLayAll0 ds) = true := c
    rw [Bool.and_eq_true] at c'
    cases h with
    | cons h1 h2 => exact .cons (da_dp d _ c'.1 h1) (daa_dp ds _ c'.2 h2)
end
theorem Da.dp {v : V} {d : D} (h : Da K H v d) (c : SeqAt.shaped d = true) : Dp K H v d := da_dp d v (SeqAt.canLay_of_shaped c) h
theorem dpa_len : ∀ {vs : List V} {ds : List D}, DaAll K H vs ds → vs.length = ds.length
  | _, _, .nil => rfl
  | _, _, .cons _ t => congrArg (· + 1) (dpa_len t)
theorem dpa_get : ∀ {vs : List V} {ds : List D} {i : Nat} {d : D}, DaAll K H vs ds → ds[i]? = some d → ∃ v, vs[i]? = some v ∧ Da K H v d
  | _, _, _, _, .nil, h => by simp at h
  | _, _, 0, _, .cons a _, h => by simp at h; subst h; exact ⟨_, rfl, a⟩
  | _, _, i + 1, d, .cons _ t, h => by
    obtain ⟨v, h1, h2⟩ := dpa_get (i := i) (d := d) t (by simpa using h)
    exact ⟨v, by simpa using h1, h2⟩
theorem dpa_get' : ∀ {vs : List V} {ds : List D} {i : Nat} {v : V}, DaAll K H vs ds → vs[i]? = some v → ∃ d, ds[i]? = some d ∧ Da K H v d
  | _, _, _, _, .nil, h => by simp at h
  | _, _, 0, _, .cons a _, h => by simp at h; subst h; exact ⟨_, rfl, a⟩
  | _, _, i + 1, d, .cons _ t, h => by
    obtain ⟨v, h1, h2⟩ := dpa_get' (i := i) t (by simpa using h)
    exact ⟨v, by simpa using h1, h2⟩
theorem dpa_app : ∀ {vs us : List V} {ds es : List D}, DaAll K H vs ds → DaAll K H us es → DaAll K H (vs ++ us) (ds ++ es)
  | _, _, _, _, .nil, h => h
  | _, _, _, _, .cons a t, h => .cons a (dpa_app t h)
theorem dpa_take : ∀ {vs : List V} {ds : List D} (n : Nat), DaAll K H vs ds → DaAll K H (vs.take n) (ds.take n)
  | _, _, 0, _ => .nil
  | _, _, _ + 1, .nil => .nil
  | _, _, n + 1, .cons r t => .cons r (dpa_take n t)
theorem dpa_drop : ∀ {vs : List V} {ds : List D} (n : Nat), DaAll K H vs ds → DaAll K H (vs.drop n) (ds.drop n)
  | _, _, 0, h => h
  | _, _, _ + 1, .nil => .nil
  | _, _, n + 1, .cons _ t => dpa_drop n t
theorem dpa_set : ∀ {vs : List V} {ds : List D} {v : V} {d : D} (n : Nat), DaAll K H vs ds → Da K H v d → DaAll K H (vs.set n v) (ds.set n d)
  | _, _, _, _, _, .nil, _ => .nil
  | _, _, _, _, 0, .cons _ t, h => .cons h t
  | _, _, _, _, n + 1, .cons r t, h => .cons r (dpa_set n t h)
theorem dpa_ints : ∀ (ns : List Int), DaAll K H (ns.map V.int) (ns.map PyData.int)
  | [] => .nil
  | n :: ns => .cons (.int n) (dpa_ints ns)
theorem dpa_ints_inv : ∀ {vs : List V} (ns : List Int), DaAll K H vs (ns.map PyData.int) → vs = ns.map V.int
  | _, [], h => by cases h; rfl
  | _, n :: ns, h => by
    cases h with
    | cons a t => cases a; rw [dpa_ints_inv ns t]; rfl
theorem dpa_bls_inv : ∀ {vs : List V} (ns : List Bool), DaAll K H vs (ns.map PyData.bool) → vs = ns.map V.bl
  | _, [], h => by cases h; rfl
  | _, n :: ns, h => by
    cases h with
    | cons a t => cases a; rw [dpa_bls_inv ns t]; rfl
end

/-! ### slots -/
inductive Sl where
  /-- data -/
  | imm (d : D)
  /-- a list of one's own, which may change -/
  | own (ds : List D)
  /-- the law's own list of ints, never written -/
  | scr (ns : List Int)
  /-- an object that is being made -/
  | adr (a : Addr)
  /-- an exception in hand: its object, its dict, what it keeps -/
  | exc (a dx : Addr) (ns : List Str) (ds : List D)
  /-- a def of the module -/
  | fnv (nm : Str)
  /-- a lambda that captures nothing: its name, what is told of its object by its code object's place -/
  | lam (q : Str) (P : Addr → Obj → Prop)
  | un
abbrev En := List Sl
/-- a list that is never written: locked, or of the module -/
def SqS (K : PySem.W.Frag) (H : Hp) (a : Addr) (xs : List V) : Prop := (∃ o, H a = some (.frz o (.lst xs))) ∨ ∀ H', SqL K H' a xs
theorem SqS.l {K : PySem.W.Frag} {H : Hp} {a : Addr} {xs : List V} (h : SqS K H a xs) : SqL K H a xs := by
  rcases h with ⟨o, h⟩ | h
  · exact Or.inl (Or.inr ⟨o, h⟩)
  · exact h H
theorem sqs_ex {K : PySem.W.Frag} {H H' : Hp} {a : Addr} {xs : List V} (e : Ex H H') (h : SqS K H a xs) : SqS K H' a xs := by
  rcases h with ⟨o, h⟩ | h
  · exact Or.inl ⟨o, e _ _ h⟩
  · exact Or.inr h
/-- a function object, told of by P -/
def FnO (f : Addr) (P : Obj → Prop) : HO := .ext fun h => ∃ o, h.get? f = some o ∧ P o
def SlOk (K : PySem.W.Frag) (I H : Hp) (v : Option (Option V)) : Sl → Prop
  | .un => True
  | .imm d => ∃ x, v = some (some x) ∧ Da K I x d
  | .own ds => ∃ l vs, v = some (some (.ref l)) ∧ I l = none ∧ H l = some (.lst vs) ∧ DaAll K I vs ds
  | .scr ns => ∃ a, v = some (some (.ref a)) ∧ SqS K I a (ns.map V.int)
  | .adr a => v = some (some (.ref a))
  | .fnv nm => v = some (some (.ref (He.ga K nm)))
  | .lam q P => ∃ f c', v = some (some (.ref f)) ∧ I f = some (FnO f (P c')) ∧ H c' = some (LamX.CodeO c' q)
  | .exc a dx ns ds => v = some (some (.ref a)) ∧ ∃ vs, I dx = some (.xd (ns.zip vs)) ∧ ns.length = vs.length ∧ DaAll K I vs ds
structure Gh where
  He : Hp
  I0 : Hp
  J : Option Addr
  /-- objects of the code around, which stay as they are -/
  P : List (Addr × HO) := []
/-- tables of code objects (address, name), and what is wanted of the heaps when an exception leaves -/
structure Zt where
  T : List (Addr × Str) := []
  Z : Sg → En → Hp → Hp → Prop := fun _ _ _ _ => True
/-- no table, no exception -/
def ζ0 : Zt := ⟨[], fun _ _ _ _ => True⟩
def isTb (ζ : Zt) (a : Addr) : Prop := a ∈ ζ.T.map (·.1)
theorem isTb_Nil {z : Sg → En → Hp → Hp → Prop} {a : Addr} {p : Prop} (h : isTb ⟨[], z⟩ a) : p := by unfold isTb at h; cases h
theorem isTb0 {a : Addr} : ¬ isTb ζ0 a := by unfold isTb ζ0; simp
def NoT : HO → Prop
  | .tbl _ => False
  | .ext _ => False
  | _ => True
theorem Tabs_nil {H : Hp} : LamX.Tabs [] H := fun _ h => by cases h
theorem tabs_n {T : List (Addr × Str)} {H H' : Hp} (t : LamX.Tabs T H) (e : ∀ b o, ¬ NoT o → H b = some o → H' b = some o) : LamX.Tabs T H' := fun p hp => by
  obtain ⟨ps, h1, h2, h3⟩ := t p hp
  refine ⟨ps, e _ _ (fun z => z) h1, h2, fun pos cv hc => ?_⟩
  obtain ⟨c, e1, e2⟩ := h3 pos cv hc
  exact ⟨c, e1, e _ _ (fun z => z) e2⟩
theorem tabs_upd {T : List (Addr × Str)} {H : Hp} {l : Addr} {u w : HO} (t : LamX.Tabs T H) (h : H l = some u) (n : NoT u) : LamX.Tabs T (upd H l w) := tabs_n t fun b o no hb => by
  rw [upd_ne]
  · exact hb
  · intro e
    subst e
    rw [h] at hb
    cases hb
    exact no n
/-- slot i holds one's own list at l -/
def OwnAt (σ : Sg) (en : En) (i : Nat) (l : Addr) : Prop := σ[i]? = some (some (V.ref l)) ∧ ∃ ds, en[i]? = some (.own ds)
/-- what stays true, whatever is protected -/
structure Core (K : PySem.W.Frag) (ζ : Zt) (He I0 : Hp) (J : Option Addr) (σ : Sg) (en : En) (H I : Hp) : Prop where
  i0 : Ex I0 I
  iH : Ex I H
  nw : ∀ a, He a ≠ none → I0 a = none → I a = none
  fr : ∀ a o, He a = some o → J ≠ some a → ¬ isTb ζ a → H a = some o
  ln : σ.length = en.length
  sl : ∀ (i : Nat) (s : Sl), en[i]? = some s → SlOk K I H σ[i]? s
  ml : ∀ (i : Nat) (l : Addr), OwnAt σ en i l → J = some l ∨ He l = none
  ds : ∀ (i j : Nat) (l : Addr), OwnAt σ en i l → OwnAt σ en j l → i = j
  pj : ∀ l, J = some l → OwnAt σ en 0 l
  tt : LamX.Tabs ζ.T H
abbrev LK (K : PySem.W.Frag) (ζ : Zt) (G : Gh) : Prop := ∀ σ' en' H' I', Core K ζ G.He G.I0 G.J σ' en' H' I' → ζ.Z σ' en' H' I'
structure Ok (K : PySem.W.Frag) (ζ : Zt) (G : Gh) (σ : Sg) (en : En) (H I : Hp) : Prop where
  i0 : Ex G.I0 I
  iH : Ex I H
  nw : ∀ a, G.He a ≠ none → G.I0 a = none → I a = none
  fr : ∀ a o, G.He a = some o → G.J ≠ some a → ¬ isTb ζ a → H a = some o
  ln : σ.length = en.length
  sl : ∀ (i : Nat) (s : Sl), en[i]? = some s → SlOk K I H σ[i]? s
  ml : ∀ (i : Nat) (l : Addr), OwnAt σ en i l → G.J = some l ∨ G.He l = none
  ds : ∀ (i j : Nat) (l : Addr), OwnAt σ en i l → OwnAt σ en j l → i = j
  pj : ∀ l, G.J = some l → OwnAt σ en 0 l
  pr : ∀ p ∈ G.P, H p.1 = some p.2 ∧ I p.1 = none ∧ ∀ i, ¬ OwnAt σ en i p.1
  pn : ∀ p ∈ G.P, NoT p.2
  tg : ∀ a, isTb ζ a → I a = none
  tt : LamX.Tabs ζ.T H
  lk : LK K ζ G
section
variable {K : PySem.W.Frag} {ζ : Zt} {G : Gh} {σ : Sg} {en : En} {H I H' I' : Hp}
theorem Ok.own (o : Ok K ζ G σ en H I) {i : Nat} {ds : List D} (h : en[i]? = some (.own ds)) : ∃ l vs, σ[i]? = some (some (.ref l)) ∧ I l = none ∧ H l = some (.lst vs) ∧ DaAll K I vs ds := o.sl i _ h
theorem Ok.imm (o : Ok K ζ G σ en H I) {i : Nat} {d : D} (h : en[i]? = some (.imm d)) : ∃ x, σ[i]? = some (some x) ∧ Da K I x d := o.sl i _ h
theorem Ok.core (o : Ok K ζ G σ en H I) : Core K ζ G.He G.I0 G.J σ en H I := ⟨o.i0, o.iH, o.nw, o.fr, o.ln, o.sl, o.ml, o.ds, o.pj, o.tt⟩
theorem Ok.z (o : Ok K ζ G σ en H I) : ζ.Z σ en H I := o.lk σ en H I o.core
/-- what was there is there -/
theorem Ok.th (o : Ok K ζ G σ en H I) {a : Addr} {u : HO} (h : G.He a = some u) (hj : G.J ≠ some a) : ∃ v, H a = some v := by
  by_cases ht : isTb ζ a
  · obtain ⟨p, hp, e⟩ := List.mem_map.mp ht
    subst e
    obtain ⟨ps, h1, _⟩ := o.tt p hp
    exact ⟨_, h1⟩
  · exact ⟨u, o.fr a u h hj ht⟩
theorem Ok.tgn (o : Ok K ζ G σ en H I) {a : Addr} (ha : isTb ζ a) (n : ∀ a, I' a ≠ none → I a = none → H a = none) : I' a = none := by
  cases h : I' a with
  | none => rfl
  | some u =>
    have h1 := n a (by rw [h]; simp) (o.tg a ha)
    obtain ⟨p, hp, e⟩ := List.mem_map.mp ha
    subst e
    obtain ⟨ps, h2, _⟩ := o.tt p hp
    rw [h1] at h2
    cases h2
theorem Ok.ntb (o : Ok K ζ G σ en H I) {a : Addr} {u : HO} (h : H a = some u) (n : NoT u) : ¬ isTb ζ a := fun ht => by
  obtain ⟨p, hp, e⟩ := List.mem_map.mp ht
  subst e
  obtain ⟨ps, h1, _⟩ := o.tt p hp
  rw [h] at h1
  cases h1
  exact n
theorem Ok.ntc (o : Ok K ζ G σ en H I) {a : Addr} {q : Str} (h : H a = some (LamX.CodeO a q)) : ¬ isTb ζ a := fun ht => by
  obtain ⟨p, hp, e⟩ := List.mem_map.mp ht
  subst e
  obtain ⟨ps, h1, _⟩ := o.tt p hp
  rw [h] at h1
  unfold LamX.CodeO at h1
  cases h1
theorem code_ne {a b : Addr} {q : Str} {u : HO} (h : H a = some (LamX.CodeO a q)) (hb : H b = some u) (n : NoT u) : a ≠ b := fun e => by
  subst e
  rw [h] at hb
  cases hb
  exact n
/-- the heap grows by what is new -/
theorem Ok.grow (o : Ok K ζ G σ en H I) (e1 : Ex H H') (e2 : Ex I I') (e3 : Ex I' H') (n : ∀ a, I' a ≠ none → I a = none → H a = none) : Ok K ζ G σ en H' I' := by
  refine ⟨o.i0.tr e2, e3, fun a h1 h2 => ?_, fun a u h1 h2 h3 => e1 a u (o.fr a u h1 h2 h3), o.ln, fun i s h => ?_, o.ml, o.ds, o.pj, fun p hp => ?_, o.pn, fun a ha => o.tgn ha n, o.tt.ext e1, o.lk⟩
  · have h3 := o.nw a h1 h2
    by_cases h4 : I' a = none
    · exact h4
    · have h5 := n a h4 h3
      by_cases hj : G.J = some a
      · obtain ⟨q, ds, q2⟩ := o.pj a hj
        obtain ⟨l, vs, q3, _, q5, _⟩ := o.own q2
        rw [q] at q3
        have q4 : a = l := by injection q3 with q3; injection q3 with q3; injection q3
        rw [q4, q5] at h5
        cases h5
      · cases h6 : G.He a with
        | none => exact absurd h6 h1
        | some u => obtain ⟨v, hv⟩ := o.th h6 hj; rw [hv] at h5; cases h5
  · have q := o.sl i s h
    cases s with
    | un => trivial
    | scr ns => obtain ⟨a, q1, q2⟩ := q; exact ⟨a, q1, sqs_ex e2 q2⟩
    | adr a => exact q
    | fnv nm => exact q
    | lam q0 P0 => obtain ⟨f, c', q1, q2, q3⟩ := q; exact ⟨f, c', q1, e2 _ _ q2, e1 _ _ q3⟩
    | exc a dx ns ds => obtain ⟨q1, vs, q2, q3, q4⟩ := q; exact ⟨q1, vs, e2 _ _ q2, q3, q4.up e2⟩
    | imm d =>
      obtain ⟨x, q1, q2⟩ := q
      exact ⟨x, q1, q2.up e2⟩
    | own ds =>
      obtain ⟨l, vs, q1, q2, q3, q4⟩ := q
      refine ⟨l, vs, q1, ?_, e1 _ _ q3, q4.up e2⟩
      by_cases h4 : I' l = none
      · exact h4
      · have h5 := n l h4 q2
        rw [q3] at h5
        cases h5
  · obtain ⟨q1, q2, q3⟩ := o.pr p hp
    refine ⟨e1 _ _ q1, ?_, q3⟩
    by_cases h4 : I' p.1 = none
    · exact h4
    · have h5 := n p.1 h4 q2
      rw [q1] at h5
      cases h5
/-- one new object, known from now on -/
theorem Ok.new (o : Ok K ζ G σ en H I) {p : Addr} {u : HO} (hp : H p = none) : Ok K ζ G σ en (upd H p u) (upd I p u) ∧ Ex I (upd I p u) := by
  have hi : I p = none := o.iH.no hp
  refine ⟨o.grow (Ex.up hp) (Ex.up hi) (fun a v h => ?_) fun a h1 h2 => ?_, Ex.up hi⟩
  · by_cases e : a = p
    · subst e; rw [upd_same] at h ⊢; exact h
    · rw [upd_ne e] at h ⊢; exact o.iH a v h
  · by_cases e : a = p
    · subst e; exact hp
    · rw [upd_ne e] at h1; exact absurd h2 h1
end

/-! ### readings over data -/
abbrev WE := En → (D → En → Prop) → Prop
abbrev WT := En → (Bool → En → Prop) → Prop
abbrev WA := En → (List D → En → Prop) → Prop
structure Ed where
  nx : En → Prop
  rt : D → En → Prop
  bk : En → Prop := fun _ => False
  ct : En → Prop := fun _ => False
abbrev WS := Ed → En → Prop
section
variable (K : PySem.W.Frag) (ζ : Zt)
def lE (w : WE) : TE := fun σ H Q => ∃ (G : Gh) (en : En) (I : Hp) (Q' : D → En → Prop), Ok K ζ G σ en H I ∧ w en Q' ∧
  ∀ v H' I' en' d, Ok K ζ G σ en' H' I' → Ex I I' → Da K I' v d → Q' d en' → Q v H'
def lT (w : WT) : TT := fun σ H Q => ∃ (G : Gh) (en : En) (I : Hp) (Q' : Bool → En → Prop), Ok K ζ G σ en H I ∧ w en Q' ∧
  ∀ b H' I' en', Ok K ζ G σ en' H' I' → Ex I I' → Q' b en' → Q b H'
def lA (w : WA) : TA := fun σ H Q => ∃ (G : Gh) (en : En) (I : Hp) (Q' : List D → En → Prop), Ok K ζ G σ en H I ∧ w en Q' ∧
  ∀ vs H' I' en' ds, Ok K ζ G σ en' H' I' → Ex I I' → DaAll K I' vs ds → Q' ds en' → Q vs H'
def lS (w : WS) : TS := fun R σ H => ∃ (G : Gh) (en : En) (I : Hp) (R' : Ed), Ok K ζ G σ en H I ∧ w R' en ∧
  (∀ σ' H' I' en', Ok K ζ G σ' en' H' I' → R'.nx en' → R.nx σ' H') ∧
  (∀ v σ' H' I' en' d, Ok K ζ G σ' en' H' I' → Da K I' v d → R'.rt d en' → R.rt v H') ∧
  (∀ σ' H' I' en', Ok K ζ G σ' en' H' I' → R'.bk en' → R.bk σ' H') ∧
  (∀ σ' H' I' en', Ok K ζ G σ' en' H' I' → R'.ct en' → R.ct σ' H')
end
theorem _root_.L2.PE.mo {X : Cx} {e : Expr} {t t' : TE} (h : PE X e t) (m : ∀ σ H Q, t' σ H Q → t σ H Q) : PE X e t' := ⟨fun pins s σ H Q I q => h.run pins s σ H Q I (m σ H Q q)⟩
theorem _root_.L2.PT.mo {X : Cx} {e : Expr} {t t' : TT} (h : PT X e t) (m : ∀ σ H Q, t' σ H Q → t σ H Q) : PT X e t' := ⟨fun pins s σ H Q I q => h.run pins s σ H Q I (m σ H Q q)⟩
theorem _root_.L2.PW.mo {X : Cx} {e : Expr} {t t' : TT} (h : PW X e t) (m : ∀ σ H Q, t' σ H Q → t σ H Q) : PW X e t' := ⟨fun wh pins s σ H Q I q => h.run wh pins s σ H Q I (m σ H Q q)⟩
theorem _root_.L2.PA.mo {X : Cx} {e : List Expr} {t t' : TA} (h : PA X e t) (m : ∀ σ H Q, t' σ H Q → t σ H Q) : PA X e t' := ⟨fun pos pins s σ H Q I q => h.run pos pins s σ H Q I (m σ H Q q)⟩
theorem _root_.L2.PS.mo {X : Cx} {e : Stmt} {t t' : TS} (h : PS X e t) (m : ∀ D σ H, t' D σ H → t D σ H) : PS X e t' := ⟨fun pins s σ H D I q => h.run pins s σ H D I (m D σ H q)⟩
theorem _root_.L2.PSs.mo {X : Cx} {e : List Stmt} {t t' : TS} (h : PSs X e t) (m : ∀ D σ H, t' D σ H → t D σ H) : PSs X e t' := ⟨fun pins s σ H D I q => h.run pins s σ H D I (m D σ H q)⟩
end Pd

set_option Elab.async false
set_option linter.all false
set_option maxRecDepth 100000
set_option maxHeartbeats 4000000
namespace Pd
open PySem PySem.Spec PyProof.Rows L2
/-! ### names, constants -/
def wVar (i : Nat) : WE := fun en Q => ∃ d, en[i]? = some (.imm d) ∧ Q d en
def wC (d : D) : WE := fun en Q => Q d en
section
variable {X : Cx} {e a b c : Expr} {es : List Expr} {pos : Pos} {wa wb wc : WE}
theorem d_var {i : Nat} (h : PE X e (tVar i)) : PE X e (lE X.K ζ (wVar i)) := h.mo fun σ H Q ⟨G, en, I, Q', o, ⟨d, hd, q⟩, k⟩ => by
  obtain ⟨x, h1, h2⟩ := o.imm hd
  exact ⟨x, h1, k x H I en d o (Ex.rf I) h2 q⟩
theorem d_c {v : V} {d : D} (h : PE X e (tC v)) (hd : ∀ H, Da X.K H v d) : PE X e (lE X.K ζ (wC d)) := h.mo fun σ H Q ⟨G, en, I, Q', o, q, k⟩ => k v H I en d o (Ex.rf I) (hd I) q
theorem d_int {i j pos} : PE X (.Constant (.int i) j pos) (lE X.K ζ (wC (.int i))) := d_c pe_int fun _ => .int i
theorem d_bl {b j pos} : PE X (.Constant (.bool b) j pos) (lE X.K ζ (wC (.bool b))) := d_c pe_bl fun _ => .bl b
theorem d_non {j pos} : PE X (.Constant .none j pos) (lE X.K ζ (wC .none)) := d_c pe_non fun _ => .non
theorem d_str {x j pos} : PE X (.Constant (.str x) j pos) (lE X.K ζ (wC (.str x))) := d_c pe_str fun _ => .str x

/-! ### operators -/
/-- what comes of an operation: the heap grown by what is new -/
structure Gr (H I H' I' : Hp) : Prop where
  h : Ex H H'
  i : Ex I I'
  s : Ex I' H'
  n : ∀ a, I' a ≠ none → I a = none → H a = none
theorem Gr.rf {H I : Hp} (e : Ex I H) : Gr H I H I := ⟨Ex.rf _, Ex.rf _, e, fun a h1 h2 => absurd h2 h1⟩
theorem Gr.nw {H I : Hp} {p : Addr} {u : HO} (e : Ex I H) (hp : H p = none) : Gr H I (upd H p u) (upd I p u) := by
  have hi : I p = none := e.no hp
  refine ⟨Ex.up hp, Ex.up hi, fun a v h => ?_, fun a h1 h2 => ?_⟩
  · by_cases q : a = p
    · subst q; rw [upd_same] at h ⊢; exact h
    · rw [upd_ne q] at h ⊢; exact e a v h
  · by_cases q : a = p
    · subst q; exact hp
    · rw [upd_ne q] at h1; exact absurd h2 h1
theorem Ok.gr {K : PySem.W.Frag} {G : Gh} {σ : Sg} {en : En} {H I H' I' : Hp} (o : Ok K ζ G σ en H I) (g : Gr H I H' I') : Ok K ζ G σ en H' I' := o.grow g.h g.i g.s g.n
/-- r does on values what f tells of data -/
def SndOp (K : PySem.W.Frag) (r : R2) (f : D → D → D → Prop) : Prop := ∀ (H I : Hp) (x y : V) (d e z : D), Ex I H → Da K I x d → Da K I y e → f d e z → ∀ Q : VK, (∀ v H' I', Gr H I H' I' → Da K I' v z → Q v H') → r x y H Q
def SndUn (K : PySem.W.Frag) (r : V → Hp → VK → Prop) (f : D → D → Prop) : Prop := ∀ (H I : Hp) (x : V) (d z : D), Ex I H → Da K I x d → f d z → ∀ Q : VK, (∀ v H' I', Gr H I H' I' → Da K I' v z → Q v H') → r x H Q
def SndCl (K : PySem.W.Frag) (r : List V → Hp → VK → Prop) (f : List D → D → Prop) : Prop := ∀ (H I : Hp) (xs : List V) (ds : List D) (z : D), Ex I H → DaAll K I xs ds → f ds z → ∀ Q : VK, (∀ v H' I', Gr H I H' I' → Da K I' v z → Q v H') → r xs H Q
def wOp (f : D → D → D → Prop) (wa wb : WE) : WE := fun en Q => wa en fun x e1 => wb e1 fun y e2 => ∃ z, f x y z ∧ Q z e2
def wUn (f : D → D → Prop) (wa : WE) : WE := fun en Q => wa en fun x e1 => ∃ z, f x z ∧ Q z e1
def wCl (f : List D → D → Prop) (wa : WA) : WE := fun en Q => wa en fun xs e1 => ∃ z, f xs z ∧ Q z e1
theorem lop {r : R2} {f : D → D → D → Prop} (h : SndOp X.K r f) {σ : Sg} {H : Hp} {Q : VK} (q : lE X.K ζ (wOp f wa wb) σ H Q) : tOp r (lE X.K ζ wa) (lE X.K ζ wb) σ H Q := by
  obtain ⟨G, en, I, Q', o, q, k⟩ := q
  refine ⟨G, en, I, _, o, q, fun v H1 I1 e1 d o1 x1 dv q1 => ?_⟩
  refine ⟨G, e1, I1, _, o1, q1, fun u H2 I2 e2 d2 o2 x2 du q2 => ?_⟩
  obtain ⟨z, fz, q2⟩ := q2
  exact h H2 I2 v u d d2 z o2.iH (dv.up x2) du fz Q fun v' H3 I3 g dz => k v' H3 I3 e2 z (o2.gr g) ((x1.tr x2).tr g.i) dz q2
theorem d_op {op : Operator} {r : R2} {f : D → D → D → Prop} (ho : OpR X (binaryOp op) r) (hs : SndOp X.K r f) (ha : PE X a (lE X.K ζ wa)) (hb : PE X b (lE X.K ζ wb)) : PE X (.BinOp a op b pos) (lE X.K ζ (wOp f wa wb)) :=
  (pe_op ho ha hb).mo fun σ H Q q => lop hs q
theorem d_un {op : UnaryOp} {r : V → Hp → VK → Prop} {f : D → D → Prop} (ho : UnR X (unaryOp op) r) (hs : SndUn X.K r f) (ha : PE X a (lE X.K ζ wa)) : PE X (.UnaryOp op a pos) (lE X.K ζ (wUn f wa)) :=
  (pe_un ho ha).mo fun σ H Q ⟨G, en, I, Q', o, q, k⟩ => ⟨G, en, I, _, o, q, fun v H1 I1 e1 d o1 x1 dv ⟨z, fz, q1⟩ => hs H1 I1 v d z o1.iH dv fz Q fun v' H3 I3 g dz => k v' H3 I3 e1 z (o1.gr g) (x1.tr g.i) dz q1⟩
theorem d_cmp {op : CmpOp} {r : R2} {f : D → D → D → Prop} (ho : OpR X (compareOp op) r) (hs : SndOp X.K r f) (ha : PE X a (lE X.K ζ wa)) (hb : PE X b (lE X.K ζ wb)) (hm : behindInMarks op b = false) : PE X (.Compare a [op] [b] pos) (lE X.K ζ (wOp f wa wb)) :=
  (pe_cmpR ho ha hb hm).mo fun σ H Q q => lop hs q
/-! ### tests -/
/-- a bool -/
def wB (w : WE) : WT := fun en Q => w en fun d e1 => ∃ c, d = .bool c ∧ Q c e1
def Tru : D → Bool → Prop
  | .none, k => k = false
  | .bool b, k => k = b
  | .int i, k => k = (i != 0)
  | .str y, k => y.length ≤ sizeLine ∧ k = ((y.length : Int) != 0)
  | .list ds, k => k = !ds.isEmpty
  | .tuple ds, k => k = !ds.isEmpty
  | .dict _, _ => False
def wTr (w : WE) : WT := fun en Q => w en fun d e1 => ∃ c, Tru d c ∧ Q c e1
theorem dp_bl {K : PySem.W.Frag} {I : Hp} {v : V} {c : Bool} (h : Da K I v (.bool c)) : v = .bl c := by cases h; rfl
theorem dp_int {K : PySem.W.Frag} {I : Hp} {v : V} {c : Int} (h : Da K I v (.int c)) : v = .int c := by cases h; rfl
theorem dpa_emp {K : PySem.W.Frag} {I : Hp} {vs : List V} {ds : List D} (h : DaAll K I vs ds) : vs.isEmpty = ds.isEmpty := by cases h <;> rfl
theorem ltst {σ : Sg} {H : Hp} {Q : Bool → Hp → Prop} {w : WE} (q : lT X.K ζ (wB w) σ H Q) : lE X.K ζ w σ H fun x H' => ∃ k, x = .bl k ∧ Q k H' := by
  obtain ⟨G, en, I, Q', o, q, k⟩ := q
  refine ⟨G, en, I, _, o, q, fun v H1 I1 e1 d o1 x1 dv q1 => ?_⟩
  obtain ⟨c, rfl, q1⟩ := q1
  exact ⟨c, dp_bl dv, k c H1 I1 e1 o1 x1 q1⟩
theorem t_cmp {op : CmpOp} {r : R2} {f : D → D → D → Prop} (ho : OpR X (compareOp op) r) (hs : SndOp X.K r f) (ha : PE X a (lE X.K ζ wa)) (hb : PE X b (lE X.K ζ wb)) (hm : behindInMarks op b = false) : PT X (.Compare a [op] [b] pos) (lT X.K ζ (wB (wOp f wa wb))) :=
  (pt_cmpR ho ha hb hm).mo fun σ H Q q => by
    obtain ⟨G, en, I, Q2, o, q2, k⟩ := ltst q
    exact lop hs ⟨G, en, I, Q2, o, q2, k⟩
theorem t_tru {w : WE} (h : PE X e (lE X.K ζ w)) (he : ∀ whole, isTrue e X.env whole = (do let v ← whole; standAt e.pos; holding [v] (truthy v)) := by intro _; rfl) : PT X e (lT X.K ζ (wTr w)) :=
  (pt_truth h he).mo fun σ H Q ⟨G, en, I, Q', o, q, k⟩ => ⟨G, en, I, _, o, q, fun v H1 I1 e1 d o1 x1 dv ⟨c, hc, q1⟩ => ⟨c, by
    cases dv with
    | non => exact hc
    | bl b => exact hc
    | int i => exact hc
    | dic h => exact hc.elim
    | dic1 h => exact hc.elim
    | obj _ h _ _ => exact hc.elim
    | str x => exact hc
    | lst hs ha =>
      have h2 : c = !_ := hc
      exact Or.inl ⟨_, SqL.of (o1.iH _ _ hs), by rw [dpa_emp ha]; exact h2⟩
    | tup hs ha =>
      have h2 : c = !_ := hc
      exact Or.inr (Or.inl ⟨_, sqt_ex o1.iH hs, by rw [dpa_emp ha]; exact h2⟩), k c H1 I1 e1 o1 x1 q1⟩⟩
def wAnd (t u : WT) : WT := fun en Q => t en fun c e1 => if c = true then u e1 Q else Q false e1
def wOr (t u : WT) : WT := fun en Q => t en fun c e1 => if c = true then Q true e1 else u e1 Q
def wNot (t : WT) : WT := fun en Q => t en fun c e1 => Q (!c) e1
variable {t u : WT} {rest : List Expr}
theorem t_and1 (ha : PT X a (lT X.K ζ t)) : PW X (.BoolOp .And [a] pos) (lT X.K ζ t) := pw_and1 ha
theorem t_or1 (ha : PT X a (lT X.K ζ t)) : PW X (.BoolOp .Or [a] pos) (lT X.K ζ t) := pw_or1 ha
theorem t_and (ha : PT X a (lT X.K ζ t)) (hb : PW X (.BoolOp .And (b :: rest) pos) (lT X.K ζ u)) : PW X (.BoolOp .And (a :: b :: rest) pos) (lT X.K ζ (wAnd t u)) :=
  (pw_and ha hb).mo fun σ H Q ⟨G, en, I, Q', o, q, k⟩ => ⟨G, en, I, _, o, q, fun c H1 I1 e1 o1 x1 q1 => by
    cases c with
    | true => exact ⟨G, e1, I1, Q', o1, q1, fun b H2 I2 e2 o2 x2 q2 => k b H2 I2 e2 o2 (x1.tr x2) q2⟩
    | false => exact k false H1 I1 e1 o1 x1 q1⟩
theorem t_or (ha : PT X a (lT X.K ζ t)) (hb : PW X (.BoolOp .Or (b :: rest) pos) (lT X.K ζ u)) : PW X (.BoolOp .Or (a :: b :: rest) pos) (lT X.K ζ (wOr t u)) :=
  (pw_or ha hb).mo fun σ H Q ⟨G, en, I, Q', o, q, k⟩ => ⟨G, en, I, _, o, q, fun c H1 I1 e1 o1 x1 q1 => by
    cases c with
    | false => exact ⟨G, e1, I1, Q', o1, q1, fun b H2 I2 e2 o2 x2 q2 => k b H2 I2 e2 o2 (x1.tr x2) q2⟩
    | true => exact k true H1 I1 e1 o1 x1 q1⟩
theorem t_not (ha : PT X a (lT X.K ζ t)) : PT X (.UnaryOp .Not a pos) (lT X.K ζ (wNot t)) :=
  (pt_not ha).mo fun σ H Q ⟨G, en, I, Q', o, q, k⟩ => ⟨G, en, I, _, o, q, fun c H1 I1 e1 o1 x1 q1 => k (!c) H1 I1 e1 o1 x1 q1⟩
def wAndV (wa wb : WE) : WE := fun en Q => wa en fun d e1 => ∃ c, d = .bool c ∧ if c = true then wb e1 Q else Q (.bool false) e1
def wOrV (wa wb : WE) : WE := fun en Q => wa en fun d e1 => ∃ c, d = .bool c ∧ if c = true then Q (.bool true) e1 else wb e1 Q
def wNotV (wa : WE) : WE := fun en Q => wa en fun d e1 => ∃ c, d = .bool c ∧ Q (.bool (!c)) e1
theorem d_one {op} (h : PE X a (lE X.K ζ wa)) : PE X (.BoolOp op [a] pos) (lE X.K ζ wa) := pe_one h
theorem d_and (ha : PE X a (lE X.K ζ wa)) (hb : PE X (.BoolOp .And (b :: rest) pos) (lE X.K ζ wb)) : PE X (.BoolOp .And (a :: b :: rest) pos) (lE X.K ζ (wAndV wa wb)) :=
  (pe_and ha hb).mo fun σ H Q ⟨G, en, I, Q', o, q, k⟩ => ⟨G, en, I, _, o, q, fun v H1 I1 e1 d o1 x1 dv ⟨c, hc, q1⟩ => by
    subst hc
    refine ⟨c, dp_bl dv, ?_⟩
    cases c with
    | true => exact ⟨G, e1, I1, Q', o1, q1, fun v H2 I2 e2 d2 o2 x2 dv2 q2 => k v H2 I2 e2 d2 o2 (x1.tr x2) dv2 q2⟩
    | false => exact k (.bl false) H1 I1 e1 _ o1 x1 (.bl false) q1⟩
theorem d_or (ha : PE X a (lE X.K ζ wa)) (hb : PE X (.BoolOp .Or (b :: rest) pos) (lE X.K ζ wb)) : PE X (.BoolOp .Or (a :: b :: rest) pos) (lE X.K ζ (wOrV wa wb)) :=
  (pe_or ha hb).mo fun σ H Q ⟨G, en, I, Q', o, q, k⟩ => ⟨G, en, I, _, o, q, fun v H1 I1 e1 d o1 x1 dv ⟨c, hc, q1⟩ => by
    subst hc
    refine ⟨c, dp_bl dv, ?_⟩
    cases c with
    | false => exact ⟨G, e1, I1, Q', o1, q1, fun v H2 I2 e2 d2 o2 x2 dv2 q2 => k v H2 I2 e2 d2 o2 (x1.tr x2) dv2 q2⟩
    | true => exact k (.bl true) H1 I1 e1 _ o1 x1 (.bl true) q1⟩
theorem d_not (ha : PE X a (lE X.K ζ wa)) : PE X (.UnaryOp .Not a pos) (lE X.K ζ (wNotV wa)) :=
  (pe_not ha).mo fun σ H Q ⟨G, en, I, Q', o, q, k⟩ => ⟨G, en, I, _, o, q, fun v H1 I1 e1 d o1 x1 dv ⟨c, hc, q1⟩ => by
    subst hc
    exact ⟨c, dp_bl dv, k (.bl (!c)) H1 I1 e1 _ o1 x1 (.bl _) q1⟩⟩
def wIf (t : WT) (wa wb : WE) : WE := fun en Q => t en fun c e1 => if c = true then wa e1 Q else wb e1 Q
theorem d_if (hc : PT X c (lT X.K ζ t)) (ha : PE X a (lE X.K ζ wa)) (hb : PE X b (lE X.K ζ wb)) : PE X (.IfExp c a b pos) (lE X.K ζ (wIf t wa wb)) :=
  (pe_ifExp hc ha hb).mo fun σ H Q ⟨G, en, I, Q', o, q, k⟩ => ⟨G, en, I, _, o, q, fun c H1 I1 e1 o1 x1 q1 => by
    cases c with
    | true => exact ⟨G, e1, I1, Q', o1, q1, fun v H2 I2 e2 d2 o2 x2 dv2 q2 => k v H2 I2 e2 d2 o2 (x1.tr x2) dv2 q2⟩
    | false => exact ⟨G, e1, I1, Q', o1, q1, fun v H2 I2 e2 d2 o2 x2 dv2 q2 => k v H2 I2 e2 d2 o2 (x1.tr x2) dv2 q2⟩⟩
/-- a chain of two comparisons -/
def wCh (f g : D → D → D → Prop) (wa wb wc : WE) : WE := fun en Q => wa en fun x e1 => wb e1 fun y e2 => ∃ b, f x y (.bool b) ∧ if b = true then wc e2 fun z e3 => ∃ r, g y z r ∧ Q r e3 else Q (.bool false) e2
/-! ### argument lists, displays -/
def wNil : WA := fun en Q => Q [] en
def wCons (w : WE) (r : WA) : WA := fun en Q => w en fun d e1 => r e1 fun ds e2 => Q (d :: ds) e2
theorem a_nil : PA X [] (lA X.K ζ wNil) := pa_nil.mo fun σ H Q ⟨G, en, I, Q', o, q, k⟩ => k [] H I en [] o (Ex.rf I) .nil q
theorem a_cons {w : WE} {r : WA} (ha : PE X e (lE X.K ζ w)) (hr : PA X es (lA X.K ζ r)) (hs : starEach (e :: es) X.env = (false, eval e X.env) :: starEach es X.env := by rfl) : PA X (e :: es) (lA X.K ζ (wCons w r)) :=
  (pa_cons ha hr hs).mo fun σ H Q ⟨G, en, I, Q', o, q, k⟩ => ⟨G, en, I, _, o, q, fun v H1 I1 e1 d o1 x1 dv q1 => ⟨G, e1, I1, _, o1, q1, fun vs H2 I2 e2 ds o2 x2 dvs q2 => k (v :: vs) H2 I2 e2 (d :: ds) o2 (x1.tr x2) (.cons (dv.up x2) dvs) q2⟩⟩
def wTup (w : WA) : WE := fun en Q => w en fun ds e1 => ds.length ≤ sizeLine ∧ Q (.tuple ds) e1
theorem d_tup {x1} {w : WA} (h : PA X es (lA X.K ζ w)) : PE X (.Tuple es x1 pos) (lE X.K ζ (wTup w)) :=
  (pe_tup h).mo fun σ H Q ⟨G, en, I, Q', o, q, k⟩ => ⟨G, en, I, _, o, q, fun vs H1 I1 e1 ds o1 x1 dvs ⟨hl, q1⟩ => ⟨by rw [dpa_len dvs]; exact hl, fun p hp => by
    obtain ⟨o2, x2⟩ := o1.new (u := .tup vs) hp
    exact k (.ref p) _ _ e1 _ o2 (x1.tr x2) (.tup (SqT.of upd_same) (dvs.up x2)) q1⟩⟩
/-- a list of one's own: new, its items known -/
def lL (K : PySem.W.Frag) (ζ : Zt) (w : WA) : TE := fun σ H Q => ∃ (G : Gh) (en : En) (I : Hp) (Q' : List D → En → Prop), Ok K ζ G σ en H I ∧ w en Q' ∧
  ∀ p vs H' I' en' ds, Ok K ζ G σ en' H' I' → Ex I I' → H' p = none → DaAll K I' vs ds → Q' ds en' → Q (.ref p) (upd H' p (.lst vs))
def wLe (w : WA) : WE := fun en Q => w en fun ds e1 => Q (.list ds) e1
theorem d_lL {w : WA} (h : PE X e (lL X.K ζ w)) : PE X e (lE X.K ζ (wLe w)) := h.mo fun σ H Q ⟨G, en, I, Q', o, q, k⟩ => ⟨G, en, I, _, o, q, fun p vs H1 I1 e1 ds o1 x1 hp dvs q1 => by
  obtain ⟨o2, x2⟩ := o1.new (u := .lst vs) hp
  exact k (.ref p) _ _ e1 _ o2 (x1.tr x2) (.lst upd_same (dvs.up x2)) q1⟩
def wSz (w : WA) : WA := fun en Q => w en fun ds e1 => ds.length ≤ sizeLine ∧ Q ds e1
theorem l_lst {w : WA} (h : PA X es (lA X.K ζ w)) : PE X (.List es pos) (lL X.K ζ (wSz w)) :=
  (pe_lst h).mo fun σ H Q ⟨G, en, I, Q', o, q, k⟩ => ⟨G, en, I, _, o, q, fun vs H1 I1 e1 ds o1 x1 dvs ⟨hl, q1⟩ => ⟨by rw [dpa_len dvs]; exact hl, fun p hp => k p vs H1 I1 e1 ds o1 x1 hp dvs q1⟩⟩
/-- a call of a built-in by values -/
theorem lcl {r : List V → Hp → VK → Prop} {f : List D → D → Prop} {w : WA} (hs : SndCl X.K r f) {σ : Sg} {H : Hp} {Q : VK} (q : lE X.K ζ (wCl f w) σ H Q) : tCB r (lA X.K ζ w) σ H Q := by
  obtain ⟨G, en, I, Q', o, q, k⟩ := q
  exact ⟨G, en, I, _, o, q, fun vs H1 I1 e1 ds o1 x1 dvs ⟨z, fz, q1⟩ => hs H1 I1 vs ds z o1.iH dvs fz Q fun v' H3 I3 g dz => k v' H3 I3 e1 z (o1.gr g) (x1.tr g.i) dz q1⟩
end
end Pd

set_option Elab.async false
set_option linter.all false
set_option maxRecDepth 100000
set_option maxHeartbeats 4000000
namespace Pd
open PySem PySem.Spec PyProof.Rows L2
/-! ### what a def promises over data -/
abbrev WF := List D → (D → Prop) → Prop
abbrev WJ := List D → List D → (D → List D → Prop) → Prop
def spP (K : PySem.W.Frag) (n : Nat) (wf : WF) : Sp := fun vs H Q _ => ∃ (I : Hp) (ds : List D) (Q' : D → Prop), Ex I H ∧ DaAll K I vs ds ∧ ds.length = n ∧ wf ds Q' ∧
  ∀ v H' I' d, Gr H I H' I' → Da K I' v d → Q' d → Q v H'
def spJ (K : PySem.W.Frag) (n : Nat) (wf : WJ) : Sp := fun vs H Q _ => ∃ (j : Addr) (vj : List V) (dj : List D) (us : List V) (ds : List D) (I : Hp) (Q' : D → List D → Prop),
  vs = .ref j :: us ∧ I j = none ∧ H j = some (.lst vj) ∧ DaAll K I vj dj ∧ Ex I H ∧ DaAll K I us ds ∧ ds.length + 1 = n ∧ wf dj ds Q' ∧
  ∀ v H' I' d vj' dj', (∀ a o, a ≠ j → H a = some o → H' a = some o) → Ex I I' → Ex I' H' → (∀ a, I' a ≠ none → I a = none → H a = none) → H' j = some (.lst vj') → DaAll K I' vj' dj' → Da K I' v d → Q' d dj' → Q v H'
section
variable {K : PySem.W.Frag} {ζ : Zt} {G : Gh} {σ : Sg} {en : En} {H I H' I' : Hp}
theorem set_get {α : Type} {l : List α} {i j : Nat} {x y : α} (h : (l.set i x)[j]? = some y) : (i = j ∧ y = x) ∨ (i ≠ j ∧ l[j]? = some y) := by
  by_cases e : i = j
  · subst e
    rw [List.getElem?_set] at h
    simp only [if_true] at h
    split at h
    · injection h with h; exact Or.inl ⟨rfl, h.symm⟩
    · cases h
  · rw [List.getElem?_set_ne e] at h
    exact Or.inr ⟨e, h⟩
/-- one's own list at slot i has turned -/
theorem Ok.turnT (o : Ok K ζ G σ en H I) {i : Nat} {l : Addr} {vs : List V} {ds : List D} (hi : OwnAt σ en i l) (k : ∀ a u, a ≠ l → ¬ isTb ζ a → H a = some u → H' a = some u) (tt' : LamX.Tabs ζ.T H') (e2 : Ex I I') (e3 : Ex I' H') (n : ∀ a, I' a ≠ none → I a = none → H a = none)
    (hl : H' l = some (.lst vs)) (hd : DaAll K I' vs ds) : Ok K ζ G σ (en.set i (.own ds)) H' I' := by
  obtain ⟨h1, ds0, h2⟩ := hi
  have hi : OwnAt σ en i l := ⟨h1, ds0, h2⟩
  have Hl : ∃ u, H l = some u := by
    obtain ⟨l', vs', q1, q2, q3, q4⟩ := o.own h2
    rw [h1] at q1
    have q5 : l = l' := by injection q1 with q1; injection q1 with q1; injection q1
    rw [q5]; exact ⟨_, q3⟩
  have Il : I l = none := by
    obtain ⟨l', vs', q1, q2, q3, q4⟩ := o.own h2
    rw [h1] at q1
    have q5 : l = l' := by injection q1 with q1; injection q1 with q1; injection q1
    rw [q5]; exact q2
  have nIl : ∀ b u, H b = some u → I b = none → I' b = none := fun b u hb ib => by
    by_cases h4 : I' b = none
    · exact h4
    · have h5 := n b h4 ib
      rw [hb] at h5; cases h5
  have own' : ∀ j b, OwnAt σ (en.set i (.own ds)) j b → OwnAt σ en j b := fun j b ⟨q1, es, q2⟩ => by
    rcases set_get q2 with ⟨e, _⟩ | ⟨_, q3⟩
    · subst e; exact ⟨q1, ds0, h2⟩
    · exact ⟨q1, es, q3⟩
  refine ⟨o.i0.tr e2, e3, fun a q1 q2 => ?_, fun a u q1 q2 q3 => ?_, by rw [List.length_set]; exact o.ln, fun j s q => ?_, fun j b q => o.ml j b (own' j b q), fun a b c q1 q2 => o.ds a b c (own' a c q1) (own' b c q2), fun b q => ?_, fun p hp => ?_, o.pn, fun a ha => o.tgn ha n, tt', o.lk⟩
  · have q3 := o.nw a q1 q2
    cases q4 : G.He a with
    | none => exact absurd q4 q1
    | some u =>
      by_cases hj : G.J = some a
      · obtain ⟨r1, es, r2⟩ := o.pj a hj
        obtain ⟨l', vs', r3, r4, r5, r6⟩ := o.own r2
        rw [r1] at r3
        have q5 : a = l' := by injection r3 with r3; injection r3 with r3; injection r3
        rw [← q5] at r5
        exact nIl a _ r5 q3
      · obtain ⟨v, hv⟩ := o.th q4 hj
        exact nIl a v hv q3
  · have q4 := o.fr a u q1 q2 q3
    refine k a u (fun e => ?_) q3 q4
    subst e
    rcases o.ml i a hi with r | r
    · exact q2 r
    · rw [q1] at r; cases r
  · rcases set_get q with ⟨e, q2⟩ | ⟨ne, q2⟩
    · subst e q2
      exact ⟨l, vs, h1, nIl l _ Hl.choose_spec Il, hl, hd⟩
    · have r := o.sl j s q2
      cases s with
      | un => trivial
      | scr ns => obtain ⟨a, q1, q2⟩ := r; exact ⟨a, q1, sqs_ex e2 q2⟩
      | adr a => exact r
      | fnv nm => exact r
      | lam q0 P0 =>
        obtain ⟨f, c', r1, r2, r3⟩ := r
        obtain ⟨l', vs', z1, z2, z3, z4⟩ := o.own h2
        rw [h1] at z1
        have z5 : l = l' := by injection z1 with z1; injection z1 with z1; injection z1
        exact ⟨f, c', r1, e2 _ _ r2, k c' _ (fun e => code_ne r3 z3 trivial (e.trans z5)) (o.ntc r3) r3⟩
      | exc a dx ns ds => obtain ⟨q1, vs, q2, q3, q4⟩ := r; exact ⟨q1, vs, e2 _ _ q2, q3, q4.up e2⟩
      | imm d =>
        obtain ⟨x, r1, r2⟩ := r
        exact ⟨x, r1, r2.up e2⟩
      | own es =>
        obtain ⟨l', vs', r1, r2, r3, r4⟩ := r
        refine ⟨l', vs', r1, nIl l' _ r3 r2, k l' _ (fun e => ?_) (o.ntb r3 trivial) r3, r4.up e2⟩
        subst e
        exact ne (o.ds i j l' hi ⟨r1, es, q2⟩)
  · obtain ⟨r1, es, r2⟩ := o.pj b q
    refine ⟨r1, ?_⟩
    by_cases e : i = 0
    · subst e
      refine ⟨ds, ?_⟩
      rw [List.getElem?_set, if_pos rfl]
      have : 0 < en.length := (List.getElem?_eq_some_iff.mp r2).1
      simp [this]
    · exact ⟨es, by rw [List.getElem?_set_ne e]; exact r2⟩
  · obtain ⟨q1, q2, q3⟩ := o.pr p hp
    exact ⟨k _ _ (fun e => q3 i (by rw [e]; exact hi)) (o.ntb q1 (o.pn p hp)) q1, nIl _ _ q1 q2, fun j q => q3 j (own' j _ q)⟩
theorem Ok.turn (o : Ok K ζ G σ en H I) {i : Nat} {l : Addr} {vs : List V} {ds : List D} (hi : OwnAt σ en i l) (k : ∀ a u, a ≠ l → H a = some u → H' a = some u) (e2 : Ex I I') (e3 : Ex I' H') (n : ∀ a, I' a ≠ none → I a = none → H a = none)
    (hl : H' l = some (.lst vs)) (hd : DaAll K I' vs ds) : Ok K ζ G σ (en.set i (.own ds)) H' I' :=
  o.turnT hi (fun a u h1 _ h2 => k a u h1 h2) (tabs_n o.tt fun b u no hb => k b u (fun e => by
    subst e
    obtain ⟨h1, ds0, h2⟩ := hi
    obtain ⟨l', vs', q1, q2, q3, q4⟩ := o.own h2
    rw [h1] at q1
    have q5 : b = l' := by injection q1 with q1; injection q1 with q1; injection q1
    rw [← q5, hb] at q3
    cases q3
    exact no trivial) hb) e2 e3 n hl hd
/-- slot i gets data (it is not the one that the caller handed in) -/
theorem Ok.put (o : Ok K ζ G σ en H I) {i : Nat} {v : V} {d : D} (hd : Da K I v d) (hi : i ≠ 0 ∨ ∀ ds, en[i]? ≠ some (.own ds)) : Ok K ζ G (σ.set i (some v)) (en.set i (.imm d)) H I := by
  have own' : ∀ j b, OwnAt (σ.set i (some v)) (en.set i (.imm d)) j b → OwnAt σ en j b := fun j b ⟨q1, es, q2⟩ => by
    rcases set_get q2 with ⟨e, q⟩ | ⟨ne, q3⟩
    · cases q
    · rw [List.getElem?_set_ne ne] at q1
      exact ⟨q1, es, q3⟩
  refine ⟨o.i0, o.iH, o.nw, o.fr, by rw [List.length_set, List.length_set]; exact o.ln, fun j s q => ?_, fun j b q => o.ml j b (own' j b q), fun a b c q1 q2 => o.ds a b c (own' a c q1) (own' b c q2), fun b q => ?_, fun p hp => ⟨(o.pr p hp).1, (o.pr p hp).2.1, fun j q => (o.pr p hp).2.2 j (own' j _ q)⟩, o.pn, o.tg, o.tt, o.lk⟩
  · rcases set_get q with ⟨e, q2⟩ | ⟨ne, q2⟩
    · subst e q2
      refine ⟨v, ?_, hd⟩
      rw [List.getElem?_set, if_pos rfl]
      have : i < (en.set i (.imm d)).length := (List.getElem?_eq_some_iff.mp q).1
      rw [List.length_set] at this
      simp [o.ln, this]
    · rw [List.getElem?_set_ne ne]
      exact o.sl j s q2
  · obtain ⟨r1, es, r2⟩ := o.pj b q
    by_cases e : i = 0
    · subst e
      rcases hi with hi | hi
      · exact absurd rfl hi
      · exact absurd r2 (hi es)
    · exact ⟨by rw [List.getElem?_set_ne e]; exact r1, es, by rw [List.getElem?_set_ne e]; exact r2⟩
/-- slot i gets a new list of its own -/
theorem Ok.putOwn (o : Ok K ζ G σ en H I) {i : Nat} {p : Addr} {vs : List V} {ds : List D} (hp : H p = none) (hd : DaAll K I vs ds) (hi : i ≠ 0) : Ok K ζ G (σ.set i (some (.ref p))) (en.set i (.own ds)) (upd H p (.lst vs)) I := by
  have ip : I p = none := o.iH.no hp
  have hep : G.He p = none := by
    cases q : G.He p with
    | none => rfl
    | some u =>
      by_cases hj : G.J = some p
      · obtain ⟨r1, es, r2⟩ := o.pj p hj
        obtain ⟨l', vs', r3, r4, r5, r6⟩ := o.own r2
        rw [r1] at r3
        have q5 : p = l' := by injection r3 with r3; injection r3 with r3; injection r3
        rw [← q5, hp] at r5; cases r5
      · obtain ⟨v, hv⟩ := o.th q hj; rw [hv] at hp; cases hp
  have np : ∀ j, ¬ OwnAt σ en j p := fun j ⟨q1, es, q2⟩ => by
    obtain ⟨l', vs', r3, r4, r5, r6⟩ := o.own q2
    rw [q1] at r3
    have q5 : p = l' := by injection r3 with r3; injection r3 with r3; injection r3
    rw [← q5, hp] at r5; cases r5
  have own' : ∀ j b, OwnAt (σ.set i (some (.ref p))) (en.set i (.own ds)) j b → (i = j ∧ b = p) ∨ (i ≠ j ∧ OwnAt σ en j b) := fun j b ⟨q1, es, q2⟩ => by
    rcases set_get q1 with ⟨e, q⟩ | ⟨ne, q3⟩
    · injection q with q; injection q with q; exact Or.inl ⟨e, q⟩
    · rw [List.getElem?_set_ne ne] at q2
      exact Or.inr ⟨ne, q3, es, q2⟩
  refine ⟨o.i0, fun a u h => ?_, o.nw, fun a u h1 h2 h3 => ?_, by rw [List.length_set, List.length_set]; exact o.ln, fun j s q => ?_, fun j b q => ?_, fun a b c q1 q2 => ?_, fun b q => ?_, fun p' hp' => ?_, o.pn, o.tg, o.tt.ext fun b u hb => by rw [upd_ne (ne_of_none hb hp)]; exact hb, o.lk⟩
  · rw [upd_ne (ne_of_none h ip)]; exact o.iH a u h
  · have h4 := o.fr a u h1 h2 h3
    rw [upd_ne (ne_of_none h4 hp)]; exact h4
  · rcases set_get q with ⟨e, q2⟩ | ⟨ne, q2⟩
    · subst e q2
      refine ⟨p, vs, ?_, ip, upd_same, hd⟩
      rw [List.getElem?_set, if_pos rfl]
      have : i < (en.set i (.own ds)).length := (List.getElem?_eq_some_iff.mp q).1
      rw [List.length_set] at this
      simp [o.ln, this]
    · rw [List.getElem?_set_ne ne]
      have r := o.sl j s q2
      cases s with
      | un => trivial
      | scr ns => exact r
      | adr a => exact r
      | fnv nm => exact r
      | lam q0 P0 =>
        obtain ⟨f, c', r1, r2, r3⟩ := r
        exact ⟨f, c', r1, r2, by rw [upd_ne (ne_of_none r3 hp)]; exact r3⟩
      | exc a dx ns ds => exact r
      | imm d => exact r
      | own es =>
        obtain ⟨l', vs', r1, r2, r3, r4⟩ := r
        exact ⟨l', vs', r1, r2, by rw [upd_ne (ne_of_none r3 hp)]; exact r3, r4⟩
  · rcases own' j b q with ⟨_, e⟩ | ⟨_, q⟩
    · subst e; exact Or.inr hep
    · exact o.ml j b q
  · rcases own' a c q1 with ⟨e1, e2⟩ | ⟨e1, z1⟩
    · rcases own' b c q2 with ⟨e3, e4⟩ | ⟨e3, z2⟩
      · exact e1.symm.trans e3
      · exact absurd (e2 ▸ z2) (np b)
    · rcases own' b c q2 with ⟨e3, e4⟩ | ⟨e3, z2⟩
      · exact absurd (e4 ▸ z1) (np a)
      · exact o.ds a b c z1 z2
  · obtain ⟨r1, es, r2⟩ := o.pj b q
    exact ⟨by rw [List.getElem?_set_ne hi]; exact r1, es, by rw [List.getElem?_set_ne hi]; exact r2⟩
  · obtain ⟨q1, q2, q3⟩ := o.pr p' hp'
    refine ⟨by rw [upd_ne (ne_of_none q1 hp)]; exact q1, q2, fun j q => ?_⟩
    rcases own' j _ q with ⟨_, e⟩ | ⟨_, q⟩
    · rw [e, hp] at q1; cases q1
    · exact q3 j q
/-- slot i forgotten -/
theorem Ok.forget (o : Ok K ζ G σ en H I) {i : Nat} {v : Option V} (hi : i ≠ 0 ∨ ∀ ds, en[i]? ≠ some (.own ds)) : Ok K ζ G (σ.set i v) (en.set i .un) H I := by
  have own' : ∀ j b, OwnAt (σ.set i v) (en.set i .un) j b → OwnAt σ en j b := fun j b ⟨q1, es, q2⟩ => by
    rcases set_get q2 with ⟨e, q⟩ | ⟨ne, q3⟩
    · cases q
    · rw [List.getElem?_set_ne ne] at q1
      exact ⟨q1, es, q3⟩
  refine ⟨o.i0, o.iH, o.nw, o.fr, by rw [List.length_set, List.length_set]; exact o.ln, fun j s q => ?_, fun j b q => o.ml j b (own' j b q), fun a b c q1 q2 => o.ds a b c (own' a c q1) (own' b c q2), fun b q => ?_, fun p hp => ⟨(o.pr p hp).1, (o.pr p hp).2.1, fun j q => (o.pr p hp).2.2 j (own' j _ q)⟩, o.pn, o.tg, o.tt, o.lk⟩
  · rcases set_get q with ⟨e, q2⟩ | ⟨ne, q2⟩
    · subst e q2; trivial
    · rw [List.getElem?_set_ne ne]
      exact o.sl j s q2
  · obtain ⟨r1, es, r2⟩ := o.pj b q
    by_cases e : i = 0
    · subst e
      rcases hi with hi | hi
      · exact absurd rfl hi
      · exact absurd r2 (hi es)
    · exact ⟨by rw [List.getElem?_set_ne e]; exact r1, es, by rw [List.getElem?_set_ne e]; exact r2⟩
/-- a new object, protected from now on -/
theorem Ok.prot (o : Ok K ζ G σ en H I) {p : Addr} {u : HO} (hp : H p = none) (hu : NoT u := by trivial) : Ok K ζ { G with P := (p, u) :: G.P } σ en (upd H p u) I := by
  have ip : I p = none := o.iH.no hp
  have np : ∀ j, ¬ OwnAt σ en j p := fun j ⟨q1, es, q2⟩ => by
    obtain ⟨l', vs', r3, r4, r5, r6⟩ := o.own q2
    rw [q1] at r3
    have q5 : p = l' := by injection r3 with r3; injection r3 with r3; injection r3
    rw [← q5, hp] at r5; cases r5
  refine ⟨o.i0, fun a v h => by rw [upd_ne (ne_of_none h ip)]; exact o.iH a v h, o.nw, fun a v h1 h2 h3 => ?_, o.ln, fun j s q => ?_, o.ml, o.ds, o.pj, fun q hq => ?_, fun q hq => (List.mem_cons.mp hq).elim (fun e => by subst e; exact hu) (o.pn q), o.tg, o.tt.ext fun b u hb => by rw [upd_ne (ne_of_none hb hp)]; exact hb, o.lk⟩
  · have h4 := o.fr a v h1 h2 h3
    rw [upd_ne (ne_of_none h4 hp)]; exact h4
  · have r := o.sl j s q
    cases s with
    | un => trivial
    | scr ns => exact r
    | adr a => exact r
    | fnv nm => exact r
    | lam q0 P0 =>
      obtain ⟨f, c', r1, r2, r3⟩ := r
      exact ⟨f, c', r1, r2, by rw [upd_ne (ne_of_none r3 hp)]; exact r3⟩
    | exc a dx ns ds => exact r
    | imm d => exact r
    | own es =>
      obtain ⟨l', vs', r1, r2, r3, r4⟩ := r
      exact ⟨l', vs', r1, r2, by rw [upd_ne (ne_of_none r3 hp)]; exact r3, r4⟩
  · rcases List.mem_cons.mp hq with e | hq
    · subst e; exact ⟨upd_same, ip, np⟩
    · obtain ⟨q1, q2, q3⟩ := o.pr q hq
      exact ⟨by rw [upd_ne (ne_of_none q1 hp)]; exact q1, q2, q3⟩
/-- the protected object is written by the code around -/
theorem Ok.rewr {P : List (Addr × HO)} {p : Addr} {u w : HO} (o : Ok K ζ { G with P := (p, u) :: P } σ en H I) (hj : G.J ≠ some p) (he : G.He p = none) (hP : ∀ q ∈ P, q.1 ≠ p) (hu : NoT u := by trivial) (hw : NoT w := by trivial) : Ok K ζ { G with P := (p, w) :: P } σ en (upd H p w) I := by
  obtain ⟨h1, h2, h3⟩ := o.pr (p, u) List.mem_cons_self
  refine ⟨o.i0, fun a v h => ?_, o.nw, fun a v h1 h2 h3 => ?_, o.ln, fun j s q => ?_, o.ml, o.ds, o.pj, fun q hq => ?_, fun q hq => (List.mem_cons.mp hq).elim (fun e => by subst e; exact hw) fun hq => o.pn q (List.mem_cons_of_mem _ hq), o.tg, tabs_upd o.tt h1 hu, o.lk⟩
  · have : a ≠ p := fun e => by subst e; rw [h2] at h; cases h
    rw [upd_ne this]; exact o.iH a v h
  · have : a ≠ p := fun e => by subst e; rw [he] at h1; cases h1
    rw [upd_ne this]; exact o.fr a v h1 h2 h3
  · have r := o.sl j s q
    cases s with
    | un => trivial
    | scr ns => exact r
    | adr a => exact r
    | fnv nm => exact r
    | lam q0 P0 =>
      obtain ⟨f, c', r1, r2, r3⟩ := r
      exact ⟨f, c', r1, r2, by rw [upd_ne (code_ne r3 h1 hu)]; exact r3⟩
    | exc a dx ns ds => exact r
    | imm d => exact r
    | own es =>
      obtain ⟨l', vs', r1, r2, r3, r4⟩ := r
      have : l' ≠ p := fun e => by subst e; exact h3 j ⟨r1, es, q⟩
      exact ⟨l', vs', r1, r2, by rw [upd_ne this]; exact r3, r4⟩
  · rcases List.mem_cons.mp hq with e | hq
    · subst e; exact ⟨upd_same, h2, h3⟩
    · obtain ⟨q1, q2, q3⟩ := o.pr q (List.mem_cons_of_mem _ hq)
      exact ⟨by rw [upd_ne (hP q hq)]; exact q1, q2, q3⟩
end
end Pd

set_option Elab.async false
set_option linter.all false
set_option maxRecDepth 100000
set_option maxHeartbeats 4000000
namespace Pd
open PySem PySem.Spec PyProof.Rows L2
/-! ### calls -/
def wFn (n : Nat) (wf : WF) (w : WA) : WE := fun en Q => w en fun ds e1 => ds.length = n ∧ wf ds fun d => Q d e1
def wFnJ (i n : Nat) (wf : WJ) (w : WA) : WE := fun en Q => (∃ dj, en[i]? = some (.own dj)) ∧ w en fun ds e1 => ds.length + 1 = n ∧ ∃ dj, e1[i]? = some (.own dj) ∧ wf dj ds fun d dj' => Q d (e1.set i (.own dj'))
section
variable {X : Cx} {e : Expr} {es : List Expr} {pos p : Pos} {x : Str} {k n : Nat} {f : Addr} {fd : FuncData} {ps : List Str}
theorem d_call {wf : WF} {w : WA} (F : FnOk X.prog X.w X.K X.mg X.base CX0 k f fd ps (spP X.K n wf)) (hr : Room k X.A) (hm : X.mg x = some (.ref f)) (hk : PySem.W.keepIn X.K (.ref f) = true) (hb : Binds X.K fd ps []) (ha : PA X (e :: es) (lA X.K ζ w)) (hg : Gl X x := by rfl)
    (hdb : (x == ("__debug__" : Str)) = false := by decide) (he : starEach (e :: es) X.env = (false, eval e X.env) :: starEach es X.env := by rfl) (hpl : (backTo pos (starEach es X.env)).any (·.1) = false := by rfl) :
    PE X (.Call (.Name x p) (e :: es) [] pos) (lE X.K ζ (wFn n wf w)) :=
  (pe_call F hr hg hm hk hb .nil pass0 ha hdb he hpl).mo fun σ H Q ⟨G, en, I, Q', o, q, k⟩ => ⟨G, en, I, _, o, q, fun vs H1 I1 e1 ds o1 x1 dvs ⟨hn, q1⟩ => by
    refine ⟨I1, ds, _, o1.iH, by rw [List.append_nil]; exact dvs, hn, q1, fun v H2 I2 d g dv q2 => ?_⟩
    exact k v H2 I2 e1 d (o1.gr g) (x1.tr g.i) dv q2⟩
theorem d_callJ {wf : WJ} {w : WA} {i : Nat} (F : FnOk X.prog X.w X.K X.mg X.base CX0 k f fd ps (spJ X.K n wf)) (hr : Room k X.A) (hm : X.mg x = some (.ref f)) (hk : PySem.W.keepIn X.K (.ref f) = true) (hb : Binds X.K fd ps []) (h0 : PE X e (tVar i)) (ha : PA X es (lA X.K ζ w)) (hg : Gl X x := by rfl)
    (hdb : (x == ("__debug__" : Str)) = false := by decide) (he : starEach (e :: es) X.env = (false, eval e X.env) :: starEach es X.env := by rfl) (hpl : (backTo pos (starEach es X.env)).any (·.1) = false := by rfl) :
    PE X (.Call (.Name x p) (e :: es) [] pos) (lE X.K ζ (wFnJ i n wf w)) :=
  (pe_call F hr hg hm hk hb .nil pass0 (pa_cons h0 ha he) hdb he hpl).mo fun σ H Q ⟨G, en, I, Q', o, ⟨⟨dj0, hj0⟩, q⟩, k⟩ => by
    -- the slot's list is read ahead of the other arguments; it stands at its address behind them
    have key : ∀ (j : Addr), σ[i]? = some (some (.ref j)) → lA X.K ζ w σ H fun vs H1 => spJ X.K n wf ((V.ref j :: vs) ++ []) H1 Q E0 := fun j hj => by
      refine ⟨G, en, I, _, o, q, fun vs H1 I1 e1 ds o1 x1 dvs ⟨hn, dj, hd, q1⟩ => ?_⟩
      obtain ⟨l, vj, r1, r2, r3, r4⟩ := o1.own hd
      rw [hj] at r1
      have q5 : j = l := by injection r1 with r1; injection r1 with r1; injection r1
      subst q5
      refine ⟨j, vj, dj, vs, ds, I1, _, by rw [List.append_nil], r2, r3, r4, o1.iH, dvs, hn, q1, fun v H2 I2 d vj' dj' k1 k2 k3 k4 k5 k6 k7 k8 => ?_⟩
      exact k v H2 I2 _ d (o1.turn ⟨hj, dj, hd⟩ k1 k2 k3 k4 k5 k6) (x1.tr k2) k7 k8
    obtain ⟨j, _, hj, _⟩ := o.own hj0
    exact ⟨.ref j, hj, key j hj⟩
theorem d_cb {id : String} {r : List V → Hp → VK → Prop} {g : List D → D → Prop} {w : WA} (hc : CallR X (.builtin id) r) (hs : SndCl X.K r g) (hm : X.mg x = none) (hv : bootBuiltins x = some (.builtin id)) (ha : PA X (e :: es) (lA X.K ζ w)) (hg : Gl X x := by rfl)
    (hn : x ≠ "__name__" := by decide) (hdb : (x == ("__debug__" : Str)) = false := by decide)
    (he : starEach (e :: es) X.env = (false, eval e X.env) :: starEach es X.env := by rfl) (hpl : (backTo pos (starEach es X.env)).any (·.1) = false := by rfl) : PE X (.Call (.Name x p) (e :: es) [] pos) (lE X.K ζ (wCl g w)) :=
  (pe_callB hc hg hm hv ha hn hdb he hpl).mo fun σ H Q q => lcl hs q
theorem d_cty {T : String} {r : List V → Hp → VK → Prop} {g : List D → D → Prop} {w : WA} (hc : CallR X (.type T) r) (hs : SndCl X.K r g) (hm : X.mg x = none) (hv : bootBuiltins x = some (.type T)) (ha : PA X (e :: es) (lA X.K ζ w)) (hg : Gl X x := by rfl)
    (hn : x ≠ "__name__" := by decide) (hdb : (x == ("__debug__" : Str)) = false := by decide)
    (he : starEach (e :: es) X.env = (false, eval e X.env) :: starEach es X.env := by rfl) (hpl : (backTo pos (starEach es X.env)).any (·.1) = false := by rfl) : PE X (.Call (.Name x p) (e :: es) [] pos) (lE X.K ζ (wCl g w)) :=
  (pe_callTy hc hg hm hv ha hn hdb he hpl).mo fun σ H Q q => lcl hs q
end
/-! ### statements -/
def KS (K : PySem.W.Frag) (ζ : Zt) (G : Gh) (R' : Ed) (R : Ends) : Prop :=
  (∀ σ' H' I' en', Ok K ζ G σ' en' H' I' → R'.nx en' → R.nx σ' H') ∧
  (∀ v σ' H' I' en' d, Ok K ζ G σ' en' H' I' → Da K I' v d → R'.rt d en' → R.rt v H') ∧
  (∀ σ' H' I' en', Ok K ζ G σ' en' H' I' → R'.bk en' → R.bk σ' H') ∧
  (∀ σ' H' I' en', Ok K ζ G σ' en' H' I' → R'.ct en' → R.ct σ' H')
theorem lS_mk {K : PySem.W.Frag} {w : WS} {R : Ends} {σ : Sg} {H : Hp} {G : Gh} {en : En} {I : Hp} {R' : Ed} (o : Ok K ζ G σ en H I) (q : w R' en) (k : KS K ζ G R' R) : lS K ζ w R σ H := ⟨G, en, I, R', o, q, k⟩
def wNext : WS := fun R en => R.nx en
def wSeq (t u : WS) : WS := fun R en => t { R with nx := u R } en
def wRet (w : WE) : WS := fun R en => w en R.rt
def wRetN : WS := fun R en => R.rt .none en
def wDrop (w : WE) : WS := fun R en => w en fun _ e1 => R.nx e1
def wIfS (t : WT) (u v : WS) : WS := fun R en => t en fun c e1 => if c = true then u R e1 else v R e1
def NotOwn : Option Sl → Prop
  | some (.own _) => False
  | some (.lam _ _) => False
  | _ => True
theorem notOwn_ne {s : Option Sl} (h : NotOwn s) : ∀ ds, s ≠ some (.own ds) := fun ds e => by subst e; exact h
def wSet (i : Nat) (w : WE) : WS := fun R en => w en fun d e1 => (i ≠ 0 ∨ NotOwn e1[i]?) ∧ R.nx (e1.set i (.imm d))
def wSetOwn (i : Nat) (w : WA) : WS := fun R en => w en fun ds e1 => i ≠ 0 ∧ R.nx (e1.set i (.own ds))
def wNever : WS := fun _ _ => False
section
variable {X : Cx} {e : Expr} {st : Stmt} {sts rest : List Stmt} {pos : Pos} {t u v : WS} {w : WE} {x : Str} {i : Nat}
theorem s_nil : PSs X [] (lS X.K ζ wNext) := pss_nil.mo fun R σ H ⟨G, en, I, R', o, q, k⟩ => k.1 σ H I en o q
theorem s_cons (h1 : PS X st (lS X.K ζ t)) (h2 : PSs X rest (lS X.K ζ u)) : PSs X (st :: rest) (lS X.K ζ (wSeq t u)) :=
  (pss_cons h1 h2).mo fun R σ H ⟨G, en, I, R', o, q, k⟩ => ⟨G, en, I, _, o, q, fun σ1 H1 I1 e1 o1 q1 => lS_mk o1 q1 k, k.2.1, k.2.2.1, k.2.2.2⟩
theorem s_one (h1 : PS X st (lS X.K ζ t)) : PSs X [st] (lS X.K ζ t) := pss_one h1
theorem s_ret (h : PE X e (lE X.K ζ w)) : PS X (.Return (some e) pos) (lS X.K ζ (wRet w)) :=
  (ps_ret h).mo fun R σ H ⟨G, en, I, R', o, q, k⟩ => ⟨G, en, I, _, o, q, fun v H1 I1 e1 d o1 x1 dv q1 => k.2.1 v σ H1 I1 e1 d o1 dv q1⟩
theorem s_expr (h : PE X e (lE X.K ζ w)) (hs : swapsWith e none pos.line X.env = pure false := by rfl) : PS X (.Expr e pos) (lS X.K ζ (wDrop w)) :=
  (ps_expr h hs).mo fun R σ H ⟨G, en, I, R', o, q, k⟩ => ⟨G, en, I, _, o, q, fun v H1 I1 e1 d o1 x1 dv q1 => k.1 σ H1 I1 e1 o1 q1⟩
theorem s_if {c : Expr} {a b : List Stmt} {tc : WT} (hc : PT X c (lT X.K ζ tc)) (ha : PSs X a (lS X.K ζ t)) (hb : PSs X b (lS X.K ζ u)) : PS X (.If c a b pos) (lS X.K ζ (wIfS tc t u)) :=
  (ps_if hc ha hb).mo fun R σ H ⟨G, en, I, R', o, q, k⟩ => ⟨G, en, I, _, o, q, fun c H1 I1 e1 o1 x1 q1 => by
    cases c with
    | true => exact lS_mk o1 q1 k
    | false => exact lS_mk o1 q1 k⟩
theorem s_set {pos' : Pos} (hN : X.N.Nodup) (hi : X.N[i]? = some x) (hx : Loc X.env.scope x) (he : PE X e (lE X.K ζ w)) (hs : swapsWith e (some (.Name x pos')) pos.line X.env = pure false := by rfl) (hf : X.fn x = true ∨ X.env.scope.names.lookup x = some .local := by first | exact .inl rfl | exact .inr rfl | assumption) :
    PS X (.Assign [.Name x pos'] e pos) (lS X.K ζ (wSet i w)) :=
  (ps_set hN hi hx he hs hf).mo fun R σ H ⟨G, en, I, R', o, q, k⟩ => ⟨G, en, I, _, o, q, fun v H1 I1 e1 d o1 x1 dv ⟨hi, q1⟩ => k.1 _ H1 I1 _ (o1.put dv (hi.imp id notOwn_ne)) q1⟩
theorem s_setOwn {pos' : Pos} {w : WA} (hN : X.N.Nodup) (hi : X.N[i]? = some x) (hx : Loc X.env.scope x) (he : PE X e (lL X.K ζ w)) (hs : swapsWith e (some (.Name x pos')) pos.line X.env = pure false := by rfl) (hf : X.fn x = true ∨ X.env.scope.names.lookup x = some .local := by first | exact .inl rfl | exact .inr rfl | assumption) :
    PS X (.Assign [.Name x pos'] e pos) (lS X.K ζ (wSetOwn i w)) :=
  (ps_set hN hi hx he hs hf).mo fun R σ H ⟨G, en, I, R', o, q, k⟩ => ⟨G, en, I, _, o, q, fun p vs H1 I1 e1 ds o1 x1 hp dvs ⟨hi, q1⟩ => k.1 _ _ I1 _ (o1.putOwn hp dvs hi) q1⟩
/-- an augmented assignment to a name -/
def wAug (i : Nat) (f : D → D → D → Prop) (w : WE) : WS := fun R en => (∃ d0, en[i]? = some (.imm d0)) ∧ w en fun y e1 => ∃ d, e1[i]? = some (.imm d) ∧ (∀ d0, en[i]? = some (.imm d0) → d0 = d) ∧ ∃ z, f d y z ∧ R.nx (e1.set i (.imm z))
end
end Pd

set_option Elab.async false
set_option linter.all false
set_option maxRecDepth 100000
set_option maxHeartbeats 4000000
namespace Pd
open PySem PySem.Spec PyProof.Rows L2
theorem or_op {X : Cx} {f : Value → Value → Sem Value} {r1 r2 : R2} (h1 : OpR X f r1) (h2 : OpR X f r2) : OpR X f (fun x y H Q => r1 x y H Q ∨ r2 x y H Q) := fun pins s σ H x y v u Q I rx ry h => by
  rcases h with h | h
  · exact h1 pins s σ H x y v u Q I rx ry h
  · exact h2 pins s σ H x y v u Q I rx ry h
theorem fin_tup {K : PySem.W.Frag} {H I : Hp} {p : Addr} {vs : List V} {ds : List D} {Q : VK} (iH : Ex I H) (hp : H p = none) (a : DaAll K I vs ds) (k : ∀ v H' I', Gr H I H' I' → Da K I' v (.tuple ds) → Q v H') : Q (.ref p) (upd H p (.tup vs)) :=
  k _ _ _ (Gr.nw (u := .tup vs) iH hp) (.tup (SqT.of upd_same) (a.up (Gr.nw (u := .tup vs) iH hp).i))
theorem fin_lst {K : PySem.W.Frag} {H I : Hp} {p : Addr} {vs : List V} {ds : List D} {Q : VK} (iH : Ex I H) (hp : H p = none) (a : DaAll K I vs ds) (k : ∀ v H' I', Gr H I H' I' → Da K I' v (.list ds) → Q v H') : Q (.ref p) (upd H p (.lst vs)) :=
  k _ _ _ (Gr.nw (u := .lst vs) iH hp) (.lst upd_same (a.up (Gr.nw (u := .lst vs) iH hp).i))
section
variable {K : PySem.W.Frag} {X : Cx}
/-! ### + -/
def dAdd : D → D → D → Prop
  | .int i, .int j, z => z = .int (i + j)
  | .tuple xs, .tuple ys, z => xs.length + ys.length ≤ sizeLine ∧ z = .tuple (xs ++ ys)
  | .list xs, .list ys, z => xs.length + ys.length ≤ sizeLine ∧ z = .list (xs ++ ys)
  | .str a, .str b, z => a.length + b.length ≤ sizeLine ∧ z = .str (a ++ b)
  | _, _, _ => False
def rAddS : R2 := fun x y H Q => ∃ i j, x = .str i ∧ y = .str j ∧ i.length + j.length ≤ sizeLine ∧ Q (.str (i ++ j)) H
def rAddD (K : PySem.W.Frag) : R2 := fun x y H Q => (rI0 fun i j => .int (i + j)) x y H Q ∨ (rCatA K x y H Q ∨ (rCat x y H Q ∨ rAddS x y H Q))
theorem op_addD : OpR X (binaryOp .Add) (rAddD X.K) := or_op op_add (or_op op_catA (or_op op_cat op_add_str))
theorem snd_add : SndOp K (rAddD K) dAdd := by
  intro H I x y d e z iH hx hy hf Q k
  unfold dAdd at hf
  split at hf
  · subst hf; cases hx; cases hy
    exact Or.inl ⟨_, _, rfl, rfl, k _ H I (Gr.rf iH) (.int _)⟩
  · rename_i xs ys
    obtain ⟨hl, rfl⟩ := hf
    cases hx with
    | tup h1 a1 =>
      cases hy with
      | tup h2 a2 =>
        refine Or.inr (Or.inl ⟨_, _, _, _, rfl, rfl, sqt_ex iH h1, sqt_ex iH h2, by rw [dpa_len a1, dpa_len a2]; exact hl, fun q => ?_, fun _ q => ?_, fun _ _ p hp => ?_⟩)
        · subst q; cases a1
          exact k _ H I (Gr.rf iH) (.tup h2 a2)
        · subst q; cases a2
          exact k _ H I (Gr.rf iH) (by rw [List.append_nil]; exact .tup h1 a1)
        · exact fin_tup iH hp (dpa_app a1 a2) k
  · rename_i xs ys
    obtain ⟨hl, rfl⟩ := hf
    cases hx with
    | lst h1 a1 =>
      cases hy with
      | lst h2 a2 =>
        refine Or.inr (Or.inr (Or.inl ⟨_, _, _, _, rfl, rfl, iH _ _ h1, iH _ _ h2, by rw [dpa_len a1, dpa_len a2]; exact hl, fun p hp => ?_⟩))
        exact fin_lst iH hp (dpa_app a1 a2) k
  · obtain ⟨hl, rfl⟩ := hf
    cases hx; cases hy
    exact Or.inr (Or.inr (Or.inr ⟨_, _, rfl, rfl, hl, k _ H I (Gr.rf iH) (.str _)⟩))
  · exact hf.elim
/-! ### ints -/
def dInt (C : Int → Int → Prop) (g : Int → Int → D) : D → D → D → Prop := fun x y z => ∃ i j, x = .int i ∧ y = .int j ∧ C i j ∧ z = g i j
theorem snd_int {C : Int → Int → Prop} {g : Int → Int → Int} : SndOp K (rI C fun i j => .int (g i j)) (dInt C fun i j => .int (g i j)) := by
  rintro H I x y d e z iH hx hy ⟨i, j, rfl, rfl, hc, rfl⟩ Q k
  cases hx; cases hy
  exact ⟨i, j, rfl, rfl, hc, k _ H I (Gr.rf iH) (.int _)⟩
theorem snd_int0 {g : Int → Int → Int} : SndOp K (rI0 fun i j => .int (g i j)) (dInt (fun _ _ => True) fun i j => .int (g i j)) := by
  rintro H I x y d e z iH hx hy ⟨i, j, rfl, rfl, hc, rfl⟩ Q k
  cases hx; cases hy
  exact ⟨i, j, rfl, rfl, k _ H I (Gr.rf iH) (.int _)⟩
def dSub : D → D → D → Prop := dInt (fun _ _ => True) fun i j => .int (i - j)
theorem snd_sub : SndOp K (rI0 fun i j => .int (i - j)) dSub := snd_int0
/-- two factors, one of them small, or together below a million bits -/
def MulOk (i j : Int) : Prop := CMul i j ∨ CMulW i j
def dMulI : D → D → D → Prop := dInt MulOk fun i j => .int (i * j)
def dMul : D → D → D → Prop := fun x y z => dMulI x y z ∨ (∃ xs k, x = .tuple xs ∧ y = .int k ∧ xs ≠ [] ∧ 2 ≤ k ∧ k ≤ 1000 ∧ xs.length ≤ 1000 ∧ z = .tuple (List.replicate k.toNat xs).flatten) ∨
  (∃ xs k, x = .list xs ∧ y = .int k ∧ -(2 ^ 63) ≤ k ∧ k < 2 ^ 63 ∧ xs.length * k.toNat ≤ sizeLine ∧ z = .list (List.replicate k.toNat xs).flatten)
theorem op_mulA : OpR X (binaryOp .Mult) (rI MulOk fun i j => .int (i * j)) := fun pins s σ H x y v u Q I rx ry h => by
  obtain ⟨i, j, e1, e2, hc, q⟩ := h
  rcases hc with hc | hc
  · exact op_mul pins s σ H x y v u Q I rx ry ⟨i, j, e1, e2, hc, q⟩
  · exact op_mulW pins s σ H x y v u Q I rx ry ⟨i, j, e1, e2, hc, q⟩
def rMulD (K : PySem.W.Frag) : R2 := fun x y H Q => (rI MulOk fun i j => .int (i * j)) x y H Q ∨ (rRepT K x y H Q ∨ rRep x y H Q)
theorem op_mulD : OpR X (binaryOp .Mult) (rMulD X.K) := or_op op_mulA (or_op op_repT op_rep)
theorem dpa_rep {I : Hp} {vs : List V} {ds : List D} (h : DaAll K I vs ds) : ∀ n : Nat, DaAll K I (List.replicate n vs).flatten (List.replicate n ds).flatten
  | 0 => .nil
  | n + 1 => by
    rw [List.replicate_succ, List.replicate_succ, List.flatten_cons, List.flatten_cons]
    exact dpa_app h (dpa_rep h n)
theorem snd_mul : SndOp K (rMulD K) dMul := by
  rintro H I x y d e z iH hx hy hf Q k
  rcases hf with ⟨i, j, rfl, rfl, hc, rfl⟩ | ⟨xs, m, rfl, rfl, h1, h2, h3, h4, rfl⟩ | ⟨xs, m, rfl, rfl, h1, h2, h3, rfl⟩
  · cases hx; cases hy
    exact Or.inl ⟨i, j, rfl, rfl, hc, k _ H I (Gr.rf iH) (.int _)⟩
  · cases hy
    cases hx with
    | tup q1 a1 =>
      refine Or.inr (Or.inl ⟨_, m, _, rfl, rfl, sqt_ex iH q1, fun e => ?_, h2, h3, by rw [dpa_len a1]; exact h4, fun p hp => ?_⟩)
      · subst e; cases a1; exact h1 rfl
      · exact fin_tup iH hp (dpa_rep a1 _) k
  · cases hy
    cases hx with
    | lst q1 a1 =>
      refine Or.inr (Or.inr ⟨_, m, _, rfl, rfl, iH _ _ q1, h1, h2, by rw [dpa_len a1]; exact h3, fun p hp => ?_⟩)
      exact fin_lst iH hp (dpa_rep a1 _) k
/-- // by a positive divisor below 2 ^ 9000 -/
def dFdiv : D → D → D → Prop := dInt CDivW fun i j => .int (i / j)
def dMod : D → D → D → Prop := dInt (fun _ j => 0 < j) fun i j => .int (i % j)
theorem snd_mod : SndOp K (rI (fun _ j => 0 < j) fun i j => .int (i % j)) dMod := snd_int
def PowOk (i j : Int) : Prop := 0 ≤ j ∧ (Builtin.Int.intBits i : Int) * j ≤ 2 ^ 27
theorem op_powW : OpR X (binaryOp .Pow) (rI PowOk fun i j => .int (i ^ j.toNat)) := opI fun _ _ _ _ _ _ _ hc q => pow_int hc.1 hc.2 q
def dPow : D → D → D → Prop := dInt PowOk fun i j => .int (i ^ j.toNat)
theorem snd_pow : SndOp K (rI PowOk fun i j => .int (i ^ j.toNat)) dPow := snd_int
def dNeg : D → D → Prop := fun x z => ∃ i, x = .int i ∧ z = .int (-i)
theorem snd_neg : SndUn K (rU fun i => .int (-i)) dNeg := by
  rintro H I x d z iH hx ⟨i, rfl, rfl⟩ Q k
  cases hx
  exact ⟨i, rfl, k _ H I (Gr.rf iH) (.int _)⟩
/-! ### comparisons -/
def dEq : D → D → D → Prop := fun x y z => SeqAt.shaped x = true ∧ SeqAt.shaped y = true ∧ z = .bool (PyData.eqv x y)
def dNe : D → D → D → Prop := fun x y z => SeqAt.shaped x = true ∧ SeqAt.shaped y = true ∧ z = .bool (!PyData.eqv x y)
theorem snd_eq : SndOp K (rEqD K) dEq := by
  rintro H I x y d e z iH hx hy ⟨h1, h2, rfl⟩ Q k
  exact ⟨d, e, (hx.up iH).dp h1, (hy.up iH).dp h2, h1, h2, k _ H I (Gr.rf iH) (.bl _)⟩
theorem snd_ne : SndOp K (rNeD K) dNe := by
  rintro H I x y d e z iH hx hy ⟨h1, h2, rfl⟩ Q k
  exact ⟨d, e, (hx.up iH).dp h1, (hy.up iH).dp h2, h1, h2, k _ H I (Gr.rf iH) (.bl _)⟩
def dBoo (g : Int → Int → Bool) : D → D → D → Prop := fun x y z => ∃ i j, x = .int i ∧ y = .int j ∧ z = .bool (g i j)
theorem snd_boo {g : Int → Int → Bool} : SndOp K (rI0 fun i j => .bl (g i j)) (dBoo g) := by
  rintro H I x y d e z iH hx hy ⟨i, j, rfl, rfl, rfl⟩ Q k
  cases hx; cases hy
  exact ⟨i, j, rfl, rfl, k _ H I (Gr.rf iH) (.bl _)⟩
def dLe : D → D → D → Prop := dBoo fun i j => decide (i ≤ j)
def dGt : D → D → D → Prop := dBoo fun i j => decide (j < i)
def dGe : D → D → D → Prop := dBoo fun i j => decide (j ≤ i)
def dLtI : D → D → D → Prop := dBoo fun i j => decide (i < j)
def dLt : D → D → D → Prop := fun x y z => dLtI x y z ∨ ∃ ns ms : List Int, x = .tuple (ns.map .int) ∧ y = .tuple (ms.map .int) ∧ z = .bool (HT.lexLt ns ms)
def rLtD (K : PySem.W.Frag) : R2 := fun x y H Q => (rI0 fun i j => .bl (decide (i < j))) x y H Q ∨ rLtT K x y H Q
theorem op_ltD (hu : X.A.units < cLine) : OpR X (compareOp .Lt) (rLtD X.K) := or_op op_lt (op_ltT hu)
theorem snd_lt : SndOp K (rLtD K) dLt := by
  rintro H I x y d e z iH hx hy hf Q k
  rcases hf with hf | ⟨ns, ms, rfl, rfl, rfl⟩
  · exact Or.inl (snd_boo H I x y d e z iH hx hy hf Q k)
  · cases hx with
    | tup h1 a1 =>
      cases hy with
      | tup h2 a2 =>
        have e1 := dpa_ints_inv ns a1
        have e2 := dpa_ints_inv ms a2
        subst e1 e2
        exact Or.inr ⟨_, _, ns, ms, rfl, rfl, sqt_ex iH h1, sqt_ex iH h2, k _ H I (Gr.rf iH) (.bl _)⟩
theorem snd_le : SndOp K (rI0 fun i j => .bl (decide (i ≤ j))) dLe := snd_boo
theorem snd_gt : SndOp K (rI0 fun i j => .bl (decide (j < i))) dGt := snd_boo
/-- is None -/
def rIsN : R2 := fun x y H Q => y = .non ∧ Q (.bl (decide (x = .non))) H
def rNotN : R2 := fun x y H Q => y = .non ∧ Q (.bl (!decide (x = .non))) H
def isNone : D → Bool
  | .none => true
  | _ => false
def dIsN : D → D → D → Prop := fun x y z => y = .none ∧ z = .bool (isNone x)
def dNotN : D → D → D → Prop := fun x y z => y = .none ∧ z = .bool (!isNone x)
theorem isN_eq {I : Hp} {v : V} {d : D} (h : Da K I v d) : decide (v = .non) = isNone d := by
  cases h <;> simp [isNone]
theorem snd_isN : SndOp K rIsN dIsN := by
  rintro H I x y d e z iH hx hy ⟨rfl, rfl⟩ Q k
  cases hy
  exact ⟨rfl, k _ H I (Gr.rf iH) (by rw [isN_eq hx]; exact .bl _)⟩
theorem snd_notN : SndOp K rNotN dNotN := by
  rintro H I x y d e z iH hx hy ⟨rfl, rfl⟩ Q k
  cases hy
  exact ⟨rfl, k _ H I (Gr.rf iH) (by rw [isN_eq hx]; exact .bl _)⟩
/-! ### chains -/
variable {a b c : Expr} {pos : Pos} {wa wb wc : WE} {r r' : R2} {f g : D → D → D → Prop} {op op' : CmpOp}
theorem lch (hs : SndOp X.K r f) (hs' : SndOp X.K r' g) {σ : Sg} {H : Hp} {Q : VK} (q : lE X.K ζ (wCh f g wa wb wc) σ H Q) : tChain r r' (lE X.K ζ wa) (lE X.K ζ wb) (lE X.K ζ wc) σ H Q := by
  obtain ⟨G, en, I, Q', o, q, k⟩ := q
  refine ⟨G, en, I, _, o, q, fun v H1 I1 e1 d o1 x1 dv q1 => ⟨G, e1, I1, _, o1, q1, fun u H2 I2 e2 d2 o2 x2 du ⟨bb, fz, q2⟩ => ?_⟩⟩
  refine hs H2 I2 v u d d2 (.bool bb) o2.iH (dv.up x2) du fz _ fun v' H3 I3 gg dz => ?_
  refine ⟨bb, dp_bl dz, ?_⟩
  have o3 := o2.gr gg
  cases bb with
  | true =>
    refine ⟨G, e2, I3, _, o3, q2, fun t H4 I4 e4 d4 o4 x4 dt ⟨z, gz, q4⟩ => ?_⟩
    exact hs' H4 I4 u t d2 d4 z o4.iH ((du.up gg.i).up x4) dt gz Q fun v5 H5 I5 g5 d5 => k v5 H5 I5 e4 z (o4.gr g5) ((((x1.tr x2).tr gg.i).tr x4).tr g5.i) d5 q4
  | false => exact k (.bl false) H3 I3 e2 (.bool false) o3 ((x1.tr x2).tr gg.i) (.bl false) q2
theorem d_ch (ho : OpR X (compareOp op) r) (hs : SndOp X.K r f) (ho' : OpR X (compareOp op') r') (hs' : SndOp X.K r' g) (ha : PE X a (lE X.K ζ wa)) (hb : PE X b (lE X.K ζ wb)) (hc : PE X c (lE X.K ζ wc))
    (hm : lastMarks [op, op'] [b, c] = false := by with_unfolding_all rfl) : PE X (.Compare a [op, op'] [b, c] pos) (lE X.K ζ (wCh f g wa wb wc)) := (pe_chain ho ho' ha hb hc hm).mo fun σ H Q q => lch hs hs' q
theorem t_ch (ho : OpR X (compareOp op) r) (hs : SndOp X.K r f) (ho' : OpR X (compareOp op') r') (hs' : SndOp X.K r' g) (ha : PE X a (lE X.K ζ wa)) (hb : PE X b (lE X.K ζ wb)) (hc : PE X c (lE X.K ζ wc))
    (hm : lastMarks [op, op'] [b, c] = false := by with_unfolding_all rfl) : PT X (.Compare a [op, op'] [b, c] pos) (lT X.K ζ (wB (wCh f g wa wb wc))) := (pt_chain ho ho' ha hb hc hm).mo fun σ H Q q => by
  obtain ⟨G, en, I, Q2, o, q2, k⟩ := ltst q
  exact lch hs hs' ⟨G, en, I, Q2, o, q2, k⟩
/-! ### built-ins -/
def dLen : List D → D → Prop
  | [.list xs], z => z = .int xs.length
  | [.tuple xs], z => z = .int xs.length
  | [.str x], z => x.length ≤ sizeLine ∧ z = .int x.length
  | _, _ => False
def rLenD (K : PySem.W.Frag) : List V → Hp → VK → Prop := fun xs H Q => ∃ x n, xs = [x] ∧ LenV K x H n ∧ Q (.int n) H
theorem snd_len : SndCl K (rLenD K) dLen := by
  intro H I xs ds z iH hx hf Q k
  unfold dLen at hf
  split at hf
  · subst hf
    cases hx with
    | cons h t =>
      cases t; cases h with
      | lst h a => exact ⟨_, _, rfl, Or.inl ⟨_, SqL.of (iH _ _ h), (dpa_len a).symm⟩, k _ H I (Gr.rf iH) (.int _)⟩
  · subst hf
    cases hx with
    | cons h t =>
      cases t; cases h with
      | tup h a => exact ⟨_, _, rfl, Or.inr ⟨_, sqt_ex iH h, (dpa_len a).symm⟩, k _ H I (Gr.rf iH) (.int _)⟩
  · obtain ⟨hl, rfl⟩ := hf
    cases hx with
    | cons h t =>
      cases t; cases h
      exact ⟨_, _, rfl, ⟨hl, rfl⟩, k _ H I (Gr.rf iH) (.int _)⟩
  · exact hf.elim
def dIntOf : List D → D → Prop
  | [.int i], z => z = .int i
  | [.bool b], z => z = .int (if b then 1 else 0)
  | _, _ => False
def rIntD : List V → Hp → VK → Prop := fun xs H Q => (∃ i, xs = [.int i] ∧ Q (.int i) H) ∨ ∃ k, xs = [.bl k] ∧ Q (.int (if k then 1 else 0)) H
theorem snd_intOf : SndCl K rIntD dIntOf := by
  intro H I xs ds z iH hx hf Q k
  unfold dIntOf at hf
  split at hf
  · subst hf; cases hx with
    | cons h t => cases t; cases h; exact Or.inl ⟨_, rfl, k _ H I (Gr.rf iH) (.int _)⟩
  · subst hf; cases hx with
    | cons h t => cases t; cases h; exact Or.inr ⟨_, rfl, k _ H I (Gr.rf iH) (.int _)⟩
  · exact hf.elim
def dAbs : List D → D → Prop := fun xs z => ∃ i, xs = [.int i] ∧ z = .int (if i < 0 then -i else i)
theorem snd_abs : SndCl K (fun xs H Q => ∃ i, xs = [.int i] ∧ Q (.int (if i < 0 then -i else i)) H) dAbs := by
  rintro H I xs ds z iH hx ⟨i, rfl, rfl⟩ Q k
  cases hx with
  | cons h t => cases t; cases h; exact ⟨_, rfl, k _ H I (Gr.rf iH) (.int _)⟩
def dMax2 : List D → D → Prop := fun xs z => ∃ i j, xs = [.int i, .int j] ∧ z = .int (if j > i then j else i)
def dMin2 : List D → D → Prop := fun xs z => ∃ i j, xs = [.int i, .int j] ∧ z = .int (if j < i then j else i)
theorem snd_max2 : SndCl K (fun xs H Q => ∃ i j, xs = [.int i, .int j] ∧ Q (.int (if j > i then j else i)) H) dMax2 := by
  rintro H I xs ds z iH hx ⟨i, j, rfl, rfl⟩ Q k
  cases hx with
  | cons h t => cases t with
    | cons h2 t => cases t; cases h; cases h2; exact ⟨_, _, rfl, k _ H I (Gr.rf iH) (.int _)⟩
theorem snd_min2 : SndCl K (fun xs H Q => ∃ i j, xs = [.int i, .int j] ∧ Q (.int (if j < i then j else i)) H) dMin2 := by
  rintro H I xs ds z iH hx ⟨i, j, rfl, rfl⟩ Q k
  cases hx with
  | cons h t => cases t with
    | cons h2 t => cases t; cases h; cases h2; exact ⟨_, _, rfl, k _ H I (Gr.rf iH) (.int _)⟩
def dAll : List D → D → Prop := fun xs z => ∃ bs : List Bool, xs = [.list (bs.map .bool)] ∧ z = .bool (bs.all id)
def dAny : List D → D → Prop := fun xs z => ∃ bs : List Bool, xs = [.list (bs.map .bool)] ∧ z = .bool (bs.any id)
theorem snd_all : SndCl K (rAll K) dAll := by
  rintro H I xs ds z iH hx ⟨ns, rfl, rfl⟩ Q k
  cases hx with
  | cons h t => cases t; cases h with
    | lst h a =>
      have e := dpa_bls_inv ns a
      subst e
      exact ⟨_, ns, rfl, SqL.of (iH _ _ h), k _ H I (Gr.rf iH) (.bl _)⟩
theorem snd_any : SndCl K (rAny K) dAny := by
  rintro H I xs ds z iH hx ⟨ns, rfl, rfl⟩ Q k
  cases hx with
  | cons h t => cases t; cases h with
    | lst h a =>
      have e := dpa_bls_inv ns a
      subst e
      exact ⟨_, ns, rfl, SqL.of (iH _ _ h), k _ H I (Gr.rf iH) (.bl _)⟩
def dTupOf : List D → D → Prop
  | [.list xs], z => z = .tuple xs
  | [.tuple xs], z => z = .tuple xs
  | _, _ => False
def rTupD (K : PySem.W.Frag) : List V → Hp → VK → Prop := fun xs H Q => ∃ p ys, xs = [.ref p] ∧ ((SqL K H p ys ∧ ∀ l, H l = none → Q (.ref l) (upd H l (.tup ys))) ∨ (SqT K H p ys ∧ Q (.ref p) H))
theorem snd_tupOf : SndCl K (rTupD K) dTupOf := by
  intro H I xs ds z iH hx hf Q k
  unfold dTupOf at hf
  split at hf
  · subst hf; cases hx with
    | cons h t => cases t; cases h with
      | lst h a => exact ⟨_, _, rfl, Or.inl ⟨SqL.of (iH _ _ h), fun l hl => fin_tup iH hl a k⟩⟩
  · subst hf; cases hx with
    | cons h t => cases t; cases h with
      | tup h a => exact ⟨_, _, rfl, Or.inr ⟨sqt_ex iH h, k _ H I (Gr.rf iH) (.tup h a)⟩⟩
  · exact hf.elim
def dListOf : List D → List D → Prop
  | [.list xs], z => z = xs
  | [.tuple xs], z => z = xs
  | _, _ => False
/-- isinstance: x of the type T -/
def tyName : D → String
  | .none => "NoneType"
  | .bool _ => "bool"
  | .int _ => "int"
  | .str _ => "str"
  | .list _ => "list"
  | .tuple _ => "tuple"
  | .dict _ => "dict"
def dGcd : List D → D → Prop := fun xs z => ∃ i j : Int, xs = [.int i, .int j] ∧ z = .int ((Nat.gcd i.natAbs j.natAbs : Nat) : Int)
theorem snd_gcd : SndCl K rGcd dGcd := by
  rintro H I xs ds z iH hx ⟨i, j, rfl, rfl⟩ Q k
  cases hx with
  | cons h t => cases t with
    | cons h2 t => cases t; cases h; cases h2; exact ⟨_, _, rfl, k _ H I (Gr.rf iH) (.int _)⟩
end
end Pd

set_option Elab.async false
set_option linter.all false
set_option maxRecDepth 100000
set_option maxHeartbeats 4000000
namespace Pd
open PySem PySem.Spec PyProof.Rows L2
section
variable {K : PySem.W.Frag} {X : Cx} {a b c e : Expr} {es : List Expr} {pos p p2 : Pos} {x : Str} {wa wb wc : WE}
/-! ### subscripts -/
theorem dpa_at {I : Hp} {vs : List V} {ds : List D} {i : Int} {z : D} (h : DaAll K I vs ds) (hz : atI ds i = some z) : ∃ v, atI vs i = some v ∧ Da K I v z := by
  unfold atI at hz ⊢
  rw [dpa_len h]
  cases q : ixN ds.length i with
  | none => rw [q] at hz; cases hz
  | some j =>
    rw [q] at hz
    exact dpa_get h hz
def dIx : D → D → D → Prop
  | .list xs, .int i, z => atI xs i = some z
  | .tuple xs, .int i, z => atI xs i = some z
  | _, _, _ => False
theorem snd_ix : SndOp K (rIx K) dIx := by
  intro H I x y d e z iH hx hy hf Q k
  unfold dIx at hf
  split at hf
  · cases hy
    cases hx with
    | lst h a =>
      obtain ⟨v, h1, h2⟩ := dpa_at a hf
      exact Or.inl ⟨_, _, _, v, rfl, rfl, SqL.of (iH _ _ h), h1, k v H I (Gr.rf iH) h2⟩
  · cases hy
    cases hx with
    | tup h a =>
      obtain ⟨v, h1, h2⟩ := dpa_at a hf
      exact Or.inr (Or.inl ⟨_, _, _, v, rfl, rfl, sqt_ex iH h, h1, k v H I (Gr.rf iH) h2⟩)
  · exact hf.elim
theorem d_ix (ha : PE X a (lE X.K ζ wa)) (hb : PE X b (lE X.K ζ wb)) (hs : PlainIx b := by exact fun _ _ => rfl) : PE X (.Subscript a b pos) (lE X.K ζ (wOp dIx wa wb)) :=
  (pe_ix ix_seq ha hb hs).mo fun σ H Q q => lop snd_ix q
def cutA {α : Type} (xs : List α) (lo hi : Option Int) : List α := (xs.drop (HT.sIx xs.length 0 lo)).take (HT.sIx xs.length xs.length hi - HT.sIx xs.length 0 lo)
theorem dpa_cut {I : Hp} {vs : List V} {ds : List D} {lo hi : Option Int} (h : DaAll K I vs ds) : DaAll K I (cutV vs lo hi) (cutA ds lo hi) := by
  unfold cutV cutA
  rw [dpa_len h]
  exact dpa_take _ (dpa_drop _ h)
abbrev WO := En → (Option Int → En → Prop) → Prop
def lO (K : PySem.W.Frag) (ζ : Zt) (w : WO) : TO := fun σ H Q => ∃ (G : Gh) (en : En) (I : Hp) (Q' : Option Int → En → Prop), Ok K ζ G σ en H I ∧ w en Q' ∧
  ∀ o H' I' en', Ok K ζ G σ en' H' I' → Ex I I' → Q' o en' → Q o H'
def wNoP : WO := fun en Q => Q none en
def wPart (w : WE) : WO := fun en Q => w en fun d e1 => ∃ i, d = .int i ∧ Q (some i) e1
theorem o_none : PO X none (lO X.K ζ wNoP) := ⟨fun pins s σ H Q I h => po_none.run pins s σ H Q I (by obtain ⟨G, en, I, Q', o, q, k⟩ := h; exact k none H I en o (Ex.rf I) q)⟩
theorem o_some (h : PE X e (lE X.K ζ wa)) : PO X (some e) (lO X.K ζ (wPart wa)) := ⟨fun pins s σ H Q I h' => (po_some h).run pins s σ H Q I (by
  obtain ⟨G, en, I, Q', o, q, k⟩ := h'
  exact ⟨G, en, I, _, o, q, fun v H1 I1 e1 d o1 x1 dv ⟨i, hi, q1⟩ => ⟨i, by subst hi; exact dp_int dv, k (some i) H1 I1 e1 o1 x1 q1⟩⟩)⟩
def wSl (wa : WE) (wl wh : WO) : WE := fun en Q => wa en fun d e1 => wl e1 fun l e2 => wh e2 fun h e3 => (∃ xs, d = .list xs ∧ Q (.list (cutA xs l h)) e3) ∨ (∃ xs, d = .tuple xs ∧ Q (.tuple (cutA xs l h)) e3)
theorem d_sl {lo hi : Option Expr} {wl wh : WO} (ha : PE X a (lE X.K ζ wa)) (hl : PO X lo (lO X.K ζ wl)) (hh : PO X hi (lO X.K ζ wh)) : PE X (.Subscript a (.Slice lo hi none p2) pos) (lE X.K ζ (wSl wa wl wh)) :=
  (pe_slice (sl_list.or sl_tupA) ha hl hh).mo fun σ H Q ⟨G, en, I, Q', o, q, k⟩ => ⟨G, en, I, _, o, q, fun v H1 I1 e1 d o1 x1 dv q1 => ⟨G, e1, I1, _, o1, q1, fun l H2 I2 e2 o2 x2 q2 => ⟨G, e2, I2, _, o2, q2, fun h H3 I3 e3 o3 x3 q3 => by
    have dv3 := (dv.up x2).up x3
    have x := (x1.tr x2).tr x3
    rcases q3 with ⟨xs, rfl, q3⟩ | ⟨xs, rfl, q3⟩
    · cases dv3 with
      | lst hs ha => exact Or.inl ⟨_, _, rfl, SqL.of (o3.iH _ _ hs), fun p hp => fin_lst (ds := cutA xs l h) o3.iH hp (dpa_cut ha) fun v' H4 I4 g dz => k v' H4 I4 e3 _ (o3.gr g) (x.tr g.i) dz q3⟩
    · cases dv3 with
      | tup hs ha =>
        refine Or.inr ⟨_, _, rfl, sqt_ex o3.iH hs, fun hw => ?_, fun _ p hp => fin_tup (ds := cutA xs l h) o3.iH hp (dpa_cut ha) fun v' H4 I4 g dz => k v' H4 I4 e3 _ (o3.gr g) (x.tr g.i) dz q3⟩
        have e0 : cutA xs l h = xs := by
          unfold cutA
          rw [← dpa_len ha, hw.1, hw.2, List.drop_zero, Nat.sub_zero, dpa_len ha, List.take_length]
        rw [e0] at q3
        exact k _ H3 I3 e3 _ o3 x (.tup hs ha) q3⟩⟩⟩
/-- xs[::-1], a list -/
def wRev (wa : WE) : WA := fun en Q => wa en fun d e1 => ∃ xs, d = .list xs ∧ Q xs.reverse e1
def wListOf (w : WA) : WA := fun en Q => w en fun ds e1 => ∃ z, dListOf ds z ∧ Q z e1
/-! ### isinstance -/
def wIsi (T : String) (wa : WE) : WE := fun en Q => wa en fun d e1 => ∃ r, kitB (tyName d) T = some r ∧ Q (.bool r) e1
theorem da_kit {H I : Hp} {v : V} {d : D} {T : String} {r : Bool} (hk : kitB (tyName d) T = some r) (hT : T ∈ ["int", "bool", "tuple", "list", "str"]) (iH : Ex I H) (h : Da K I v d) : ∃ t, TyX K H v t ∧ PySem.W.kitOne K t (.type T) = some r := by
  have key : TyX K H v (.type (tyName d)) → ∃ t, TyX K H v t ∧ PySem.W.kitOne K t (.type T) = some r := fun h => ⟨_, h, kit_ty hk⟩
  cases h with
  | obj c h _ _ =>
    refine ⟨_, .base (.ins (iH _ _ h) c.cl c.ha c.hn c.ht c.hm), ?_⟩
    have hr : r = false := by
      simp only [List.mem_cons, List.not_mem_nil, or_false] at hT
      have hk' : kitB "dict" T = some r := hk
      rcases hT with rfl | rfl | rfl | rfl | rfl <;> exact (Option.some.inj hk').symm
    rw [hr]
    exact c.kit T hT
  | non => exact key (.base .non)
  | bl b => exact key (.base (.bl b))
  | int i => exact key (.base (.int i))
  | str x => exact key (.base (.str x))
  | lst h a => exact key (.base (.lst (iH _ _ h)))
  | dic h => exact key (.base (.dK (iH _ _ h)))
  | dic1 h => exact key (.base (.dK (iH _ _ h)))
  | tup h a =>
    refine key ?_
    rcases sqt_ex iH h with (h | ⟨o, h⟩) | ⟨o, its, n, h1, h2, h3, h4, h5⟩
    · exact .base (.tup h)
    · exact .fTuple h
    · exact .kTuple h1 h2
theorem d_isi {T : Str} {T' : String} (hm : X.mg "isinstance" = none) (hmT : X.mg T = none) (hT : bootBuiltins T = some (.type T')) (ha : PE X a (lE X.K ζ wa)) (hg : Gl X "isinstance" := by rfl) (hgT : Gl X T := by rfl) (hn : T ≠ "__name__" := by decide) (hdb : (T == ("__debug__" : Str)) = false := by decide)
    (he : starEach (a :: [.Name T p2]) X.env = (false, eval a X.env) :: starEach [.Name T p2] X.env := by rfl) (he2 : starEach (.Name T p2 :: []) X.env = (false, eval (.Name T p2) X.env) :: starEach [] X.env := by rfl) (hpl : (backTo pos (starEach [.Name T p2] X.env)).any (·.1) = false := by rfl) (hT' : T' ∈ ["int", "bool", "tuple", "list", "str"] := by decide) :
    PE X (.Call (.Name "isinstance" p) [a, .Name T p2] [] pos) (lE X.K ζ (wIsi T' wa)) :=
  (pe_callB call_isi hg hm (by decide +kernel) (pa_cons ha (pa_cons (pe_bltn (v := .ty T') hgT hmT hT rfl hn hdb) pa_nil he2) he) (by decide) (by decide) he hpl).mo fun σ H Q ⟨G, en, I, Q', o, q, k⟩ => ⟨G, en, I, _, o, q, fun v H1 I1 e1 d o1 x1 dv ⟨r, hr, q1⟩ => by
    obtain ⟨t, t1, t2⟩ := da_kit hr hT' o1.iH dv
    exact ⟨v, .ty T', t, .type T', r, rfl, .ty T', t1, t2, k (.bl r) H1 I1 e1 _ o1 x1 (.bl r) q1⟩⟩
/-! ### one's own list, read and written -/
def Flat : D → Prop
  | .none | .bool _ | .int _ | .str _ => True
  | _ => False
theorem flat_any {I J : Hp} {v : V} {d : D} (h : Da K I v d) (f : Flat d) : Da K J v d := by
  cases h with
  | non => exact .non
  | bl b => exact .bl b
  | int i => exact .int i
  | str x => exact .str x
  | lst h a => exact f.elim
  | tup h a => exact f.elim
  | dic h => exact f.elim
  | dic1 h => exact f.elim
  | obj _ h _ _ => exact f.elim
/-- the region with one's own list within -/
theorem Ok.withOwn {G : Gh} {σ : Sg} {en : En} {H I : Hp} (o : Ok K ζ G σ en H I) {i : Nat} {ds : List D} (h : en[i]? = some (.own ds)) : ∃ l vs, σ[i]? = some (some (.ref l)) ∧ H l = some (.lst vs) ∧ Ex I (upd I l (.lst vs)) ∧ Ex (upd I l (.lst vs)) H ∧ Da K (upd I l (.lst vs)) (.ref l) (.list ds) := by
  obtain ⟨l, vs, h1, h2, h3, h4⟩ := o.own h
  have e1 : Ex I (upd I l (.lst vs)) := Ex.up h2
  refine ⟨l, vs, h1, h3, e1, fun a u h => ?_, .lst upd_same (h4.up e1)⟩
  by_cases q : a = l
  · subst q; rw [upd_same] at h; rw [h3]; exact h
  · rw [upd_ne q] at h; exact o.iH a u h
def wOpO (i : Nat) (f : D → D → D → Prop) (wb : WE) : WE := fun en Q => (∃ ds, en[i]? = some (.own ds)) ∧ wb en fun y e1 => ∃ ds z, e1[i]? = some (.own ds) ∧ f (.list ds) y z ∧ Flat z ∧ Q z e1
def wOpR (i : Nat) (f : D → D → D → Prop) (wa : WE) : WE := fun en Q => wa en fun x e1 => ∃ ds z, e1[i]? = some (.own ds) ∧ f x (.list ds) z ∧ Flat z ∧ Q z e1
def wClO (i : Nat) (g : List D → D → Prop) : WE := fun en Q => ∃ ds z, en[i]? = some (.own ds) ∧ g [.list ds] z ∧ Flat z ∧ Q z en
theorem ok_same {G : Gh} {σ : Sg} {en : En} {H I H' I' J : Hp} (o : Ok K ζ G σ en H I) (g : Gr H J H' I') (e : Ex I J) : Ok K ζ G σ en H' I := o.grow g.h (Ex.rf I) (o.iH.tr g.h) fun a h1 h2 => absurd h2 h1
theorem lopO {r : R2} {f : D → D → D → Prop} {i : Nat} (h : SndOp X.K r f) {σ : Sg} {H : Hp} {Q : VK} (q : lE X.K ζ (wOpO i f wb) σ H Q) : tOp r (tVar i) (lE X.K ζ wb) σ H Q := by
  obtain ⟨G, en, I, Q', o, ⟨⟨ds0, hi⟩, q⟩, k⟩ := q
  obtain ⟨l, vs0, r1, _⟩ := o.own hi
  refine ⟨.ref l, r1, G, en, I, _, o, q, fun u H2 I2 e2 d2 o2 x2 du ⟨ds, z, hd, fz, fl, q2⟩ => ?_⟩
  obtain ⟨l', vs, s1, s2, s3, s4, s5⟩ := o2.withOwn hd
  rw [r1] at s1
  have q5 : l = l' := by injection s1 with s1; injection s1 with s1; injection s1
  subst q5
  exact h H2 _ (.ref l) u (.list ds) d2 z s4 s5 (du.up s3) fz Q fun v' H3 I3 g dz => k v' H3 I2 e2 z (ok_same o2 g s3) x2 (flat_any dz fl) q2
theorem d_ixO {i : Nat} (ha : PE X a (tVar i)) (hb : PE X b (lE X.K ζ wb)) (hs : PlainIx b := by exact fun _ _ => rfl) : PE X (.Subscript a b pos) (lE X.K ζ (wOpO i dIx wb)) :=
  (pe_ix ix_seq ha hb hs).mo fun σ H Q q => lopO snd_ix q
end
section
variable {X : Cx} {e o idx : Expr} {st : Stmt} {sts : List Stmt} {pos p1 p2 : Pos} {t u : WS} {w wi : WE} {x : Str} {i : Nat}
/-- xs.append(e) -/
def wApp (i : Nat) (w : WE) : WS := fun R en => (∃ ds, en[i]? = some (.own ds)) ∧ w en fun d e1 => ∃ ds, e1[i]? = some (.own ds) ∧ ds.length < sizeLine ∧ R.nx (e1.set i (.own (ds ++ [d])))
theorem s_app (ho : PE X o (tVar i)) (he : PE X e (lE X.K ζ w))
    (hs : swapsWith (.Call (.Attribute o "append" p1) [e] [] p2) none pos.line X.env = pure false := by rfl)
    (pe : PE X (.Call (.Attribute o "append" p1) [e] [] p2) (tBM X.K "list" rAppend (tVar i) (tCons (lE X.K ζ w) tNil)) := by exact (pe_bm PySem.F.plainAttrs_list PySem.F.slot_list_append PySem.F.type_list_append mt_append (by assumption) (pa_cons (by assumption) pa_nil))) :
    PS X (.Expr (.Call (.Attribute o "append" p1) [e] [] p2) pos) (lS X.K ζ (wApp i w)) :=
  (ps_expr pe hs).mo fun R σ H ⟨G, en, I, R', ok, ⟨⟨ds0, h0⟩, q⟩, k⟩ => by
    obtain ⟨l, vs0, r1, r2, r3, r4⟩ := ok.own h0
    refine ⟨.ref l, r1, Or.inl ⟨rfl, vs0, SqL.of r3⟩, G, en, I, _, ok, q, fun v H1 I1 e1 d o1 x1 dv ⟨ds, hd, hz, q1⟩ => ?_⟩
    obtain ⟨l', vs, s1, s2, s3, s4⟩ := o1.own hd
    rw [r1] at s1
    have q5 : l = l' := by injection s1 with s1; injection s1 with s1; injection s1
    subst q5
    refine ⟨l, vs, v, rfl, rfl, s3, by rw [dpa_len s4]; exact hz, ?_⟩
    refine k.1 σ _ I1 _ (o1.turn (H' := upd H1 l (.lst (vs ++ [v]))) (vs := vs ++ [v]) ⟨r1, ds, hd⟩ (fun a u ha h => by rw [upd_ne ha]; exact h) (Ex.rf I1) (fun a u h => ?_) (fun a h1 h2 => absurd h2 h1) upd_same (dpa_app s4 (.cons dv .nil))) q1
    have : a ≠ l := fun ea => by subst ea; rw [s2] at h; cases h
    rw [upd_ne this]; exact o1.iH a u h
/-- xs[k] = e -/
def wSetIt (i : Nat) (wi w : WE) : WS := fun R en => w en fun d e1 => (∃ ds, e1[i]? = some (.own ds)) ∧ wi e1 fun k e2 => ∃ ds m j, e2[i]? = some (.own ds) ∧ k = .int m ∧ ixN ds.length m = some j ∧ R.nx (e2.set i (.own (ds.set j d)))
theorem s_setIt (ps : PS X st (tAsg (lE X.K ζ w) (gSub (tVar i) (lE X.K ζ wi) rSetL))) : PS X st (lS X.K ζ (wSetIt i wi w)) :=
  ps.mo fun R σ H ⟨G, en, I, R', ok, q, k⟩ => ⟨G, en, I, _, ok, q, fun v H1 I1 e1 d o1 x1 dv ⟨⟨ds0, h0⟩, q1⟩ => by
    obtain ⟨l, vs0, r1, r2, r3, r4⟩ := o1.own h0
    refine ⟨.ref l, r1, G, e1, I1, _, o1, q1, fun m H2 I2 e2 dm o2 x2 dvm ⟨ds, mm, j, hd, hm, hj, q2⟩ => ?_⟩
    subst hm
    obtain ⟨l', vs, s1, s2, s3, s4⟩ := o2.own hd
    rw [r1] at s1
    have q5 : l = l' := by injection s1 with s1; injection s1 with s1; injection s1
    subst q5
    refine ⟨l, vs, mm, j, rfl, dp_int dvm, s3, by rw [dpa_len s4]; exact hj, ?_⟩
    refine k.1 σ _ I2 _ (o2.turn (H' := upd H2 l (.lst (vs.set j v))) (vs := vs.set j v) ⟨r1, ds, hd⟩ (fun a u ha h => by rw [upd_ne ha]; exact h) (Ex.rf I2) (fun a u h => ?_) (fun a h1 h2 => absurd h2 h1) upd_same (dpa_set j s4 (dv.up x2))) q2
    have : a ≠ l := fun ea => by subst ea; rw [s2] at h; cases h
    rw [upd_ne this]; exact o2.iH a u h⟩
/-- from here on slot i is data -/
def wFrz (i : Nat) (t : WS) : WS := fun R en => ∃ ds, en[i]? = some (.own ds) ∧ i ≠ 0 ∧ t R (en.set i (.imm (.list ds)))
theorem Ok.freeze {K : PySem.W.Frag} {G : Gh} {σ : Sg} {en : En} {H I : Hp} (o : Ok K ζ G σ en H I) {i : Nat} {ds : List D} (h : en[i]? = some (.own ds)) (hi : i ≠ 0) : ∃ I', Ok K ζ G σ (en.set i (.imm (.list ds))) H I' ∧ Ex I I' := by
  obtain ⟨l, vs, h1, h2, h3, h4⟩ := o.own h
  have ow : OwnAt σ en i l := ⟨h1, ds, h⟩
  have nj : G.J ≠ some l := fun e => hi (o.ds i 0 l ow (o.pj l e))
  have he : G.He l = none := (o.ml i l ow).resolve_left nj
  have e1 : Ex I (upd I l (.lst vs)) := Ex.up h2
  have own' : ∀ j b, OwnAt σ (en.set i (.imm (.list ds))) j b → i ≠ j ∧ OwnAt σ en j b := fun j b ⟨q1, es, q2⟩ => by
    rcases set_get q2 with ⟨e, q⟩ | ⟨ne, q3⟩
    · cases q
    · exact ⟨ne, q1, es, q3⟩
  refine ⟨upd I l (.lst vs), ⟨o.i0.tr e1, fun a u q => ?_, fun a q1 q2 => ?_, o.fr, by rw [List.length_set]; exact o.ln, fun j s q => ?_, fun j b q => o.ml j b (own' j b q).2, fun a b c q1 q2 => o.ds a b c (own' a c q1).2 (own' b c q2).2, fun b q => ?_, fun p hp => ?_, o.pn, fun a ha => by
    have : a ≠ l := fun e => by subst e; exact o.ntb h3 trivial ha
    rw [upd_ne this]; exact o.tg a ha, o.tt, o.lk⟩, e1⟩
  · by_cases e : a = l
    · subst e; rw [upd_same] at q; rw [h3]; exact q
    · rw [upd_ne e] at q; exact o.iH a u q
  · have : a ≠ l := fun e => by subst e; exact q1 he
    rw [upd_ne this]; exact o.nw a q1 q2
  · rcases set_get q with ⟨e, q2⟩ | ⟨ne, q2⟩
    · subst e q2
      exact ⟨_, h1, .lst upd_same (h4.up e1)⟩
    · have r := o.sl j s q2
      cases s with
      | un => trivial
      | scr ns => obtain ⟨a, q1, q2⟩ := r; exact ⟨a, q1, sqs_ex e1 q2⟩
      | adr a => exact r
      | fnv nm => exact r
      | lam q0 P0 => obtain ⟨f, c', r1, r2, r3⟩ := r; exact ⟨f, c', r1, e1 _ _ r2, r3⟩
      | exc a dx ns ds => obtain ⟨q1, vs, q2, q3, q4⟩ := r; exact ⟨q1, vs, e1 _ _ q2, q3, q4.up e1⟩
      | imm d =>
        obtain ⟨y, r1, r2⟩ := r
        exact ⟨y, r1, r2.up e1⟩
      | own es =>
        obtain ⟨l', vs', r1, r2, r3, r4⟩ := r
        have : l' ≠ l := fun e => by subst e; exact ne (o.ds i j l' ow ⟨r1, es, q2⟩)
        exact ⟨l', vs', r1, by rw [upd_ne this]; exact r2, r3, r4.up e1⟩
  · obtain ⟨r1, es, r2⟩ := o.pj b q
    exact ⟨r1, es, by rw [List.getElem?_set_ne hi]; exact r2⟩
  · obtain ⟨q1, q2, q3⟩ := o.pr p hp
    have : p.1 ≠ l := fun e => q3 i (by rw [e]; exact ow)
    exact ⟨q1, by rw [upd_ne this]; exact q2, fun j q => q3 j (own' j _ q).2⟩
theorem ss_frz (h : PSs X sts (lS X.K ζ t)) : PSs X sts (lS X.K ζ (wFrz i t)) := h.mo fun R σ H ⟨G, en, I, R', ok, ⟨ds, hd, hi, q⟩, k⟩ => by
  obtain ⟨I', o', e'⟩ := ok.freeze hd hi
  exact lS_mk o' q k
/-! ### while -/
def wWhile (tc : WT) (tb : WS) : WS := fun R en => ∃ W : Nat → En → Prop, (∃ m, W m en) ∧ ∀ m e, W m e → tc e fun b e1 => if b = true then tb { R with nx := fun e' => ∃ m', m' < m ∧ W m' e', ct := fun e' => ∃ m', m' < m ∧ W m' e', bk := R.nx } e1 else R.nx e1
theorem s_while {c : Expr} {body : List Stmt} {tc : WT} {tb : WS} (hp : PassesOwn (model X.prog X.w) X.A X.env X.xe) (hc : PT X c (lT X.K ζ tc)) (hb : PSs X body (lS X.K ζ tb)) : PS X (.While c body [] pos) (lS X.K ζ (wWhile tc tb)) :=
  (ps_while hp hc hb).mo fun R σ H ⟨G, en, I, R', ok, ⟨W, ⟨m0, w0⟩, turn⟩, k⟩ => by
    refine ⟨fun m σ H => ∃ en I, Ok X.K ζ G σ en H I ∧ W m en, ⟨m0, en, I, ok, w0⟩, fun m σ1 H1 ⟨e1, I1, o1, w1⟩ => ?_⟩
    refine ⟨G, e1, I1, _, o1, turn m e1 w1, fun b H2 I2 e2 o2 x2 q2 => ?_⟩
    cases b with
    | true =>
      refine ⟨fun σ H => ∃ m', m' < m ∧ ∃ en I, Ok X.K ζ G σ en H I ∧ W m' en, fun _ _ h => h, G, e2, I2, _, o2, q2, ?_⟩
      exact ⟨fun σ' H' I' en' o' ⟨m', hm, w'⟩ => ⟨m', hm, en', I', o', w'⟩, k.2.1, fun σ' H' I' en' o' q' => k.1 σ' H' I' en' o' q', fun σ' H' I' en' o' ⟨m', hm, w'⟩ => ⟨m', hm, en', I', o', w'⟩⟩
    | false => exact k.1 σ1 H2 I2 e2 o2 q2
end
end Pd

set_option Elab.async false
set_option linter.all false
set_option maxRecDepth 100000
set_option maxHeartbeats 4000000
namespace Pd
open PySem PySem.Spec PyProof.Rows L2
/-! ### what is walked -/
/-- the iterator yields these data, turn by turn -/
structure ItD (K : PySem.W.Frag) (J : It) (I0 : Hp) (xs : List D) : Prop where
  go : ∀ i H I, Ex I0 I → Ex I H → i < xs.length → J.go i H
  stop : ∀ H I, Ex I0 I → Ex I H → J.stop xs.length H
  yld : ∀ i H I v H' d, Ex I0 I → Ex I H → xs[i]? = some d → J.yld i H v H' → ∃ I', Gr H I H' I' ∧ Da K I' v d
def lI (K : PySem.W.Frag) (ζ : Zt) (w : WA) : TI := fun σ H R => ∃ (G : Gh) (en : En) (I : Hp) (Q' : List D → En → Prop), Ok K ζ G σ en H I ∧ w en Q' ∧
  ∀ J H' I' en' xs, Ok K ζ G σ en' H' I' → Ex I I' → ItD K J I' xs → Q' xs en' → R J H'
theorem _root_.L2.PI.mo {X : Cx} {tg e : Expr} {t t' : TI} (h : PI X tg e t) (m : ∀ σ H R, t' σ H R → t σ H R) : PI X tg e t' := ⟨fun pins s σ H Q I q => h.run pins s σ H Q I (m σ H Q q)⟩
section
variable {K : PySem.W.Frag} {X : Cx} {tg e a b : Expr} {es : List Expr} {pos p tpos : Pos} {w wb : WE} {wa : WA}
theorem itd_list {I : Hp} {a : Addr} {vs : List V} {ds : List D} (h : I a = some (.lst vs)) (hd : DaAll K I vs ds) : ItD K (Itl K a) I ds where
  go := fun i H I1 e1 e2 hi => by
    obtain ⟨v, hv, _⟩ := dpa_get hd (List.getElem?_eq_getElem hi)
    exact ⟨vs, v, SqL.of (e2 _ _ (e1 _ _ h)), hv⟩
  stop := fun H I1 e1 e2 => ⟨vs, SqL.of (e2 _ _ (e1 _ _ h)), by rw [dpa_len hd]; exact Nat.le_refl _⟩
  yld := fun i H I1 v H' d e1 e2 hd' ⟨eH, hv⟩ => by
    subst eH
    obtain ⟨v', hv', q⟩ := dpa_get hd hd'
    have := hv vs (SqL.of (e2 _ _ (e1 _ _ h)))
    rw [hv'] at this
    cases this
    exact ⟨I1, Gr.rf e2, q.up e1⟩
theorem itd_tup {I : Hp} {a : Addr} {vs : List V} {ds : List D} (h : SqT K I a vs) (hd : DaAll K I vs ds) : ItD K (Itt K a) I ds where
  go := fun i H I1 e1 e2 hi => by
    obtain ⟨v, hv, _⟩ := dpa_get hd (List.getElem?_eq_getElem hi)
    exact ⟨vs, v, sqt_ex (e1.tr e2) h, hv⟩
  stop := fun H I1 e1 e2 => ⟨vs, sqt_ex (e1.tr e2) h, by rw [dpa_len hd]; exact Nat.le_refl _⟩
  yld := fun i H I1 v H' d e1 e2 hd' ⟨eH, hv⟩ => by
    subst eH
    obtain ⟨v', hv', q⟩ := dpa_get hd hd'
    have := hv vs (sqt_ex (e1.tr e2) h)
    rw [hv'] at this
    cases this
    exact ⟨I1, Gr.rf e2, q.up e1⟩
def iSeq (K : PySem.W.Frag) (tl : TE) : TI := fun σ H R => tl σ H fun x H1 => ∃ a, x = .ref a ∧ (((∃ xs, SqL K H1 a xs) ∧ R (Itl K a) H1) ∨ ((∃ xs, SqT K H1 a xs) ∧ R (Itt K a) H1))
theorem pi_seq {l : Expr} {tl : TE} (hl : PE X l tl) : PI X tg l (iSeq X.K tl) := by
  refine ⟨fun pins s σ H R I h => ?_⟩
  refine thn (hl.run pins s σ H _ I h) fun v s1 ⟨x, H1, I1, r1, q1⟩ => ?_
  obtain ⟨a, e, q⟩ := q1
  subst e
  cases r1
  rcases q with ⟨⟨xs, hq⟩, q⟩ | ⟨⟨xs, hq⟩, q⟩
  · obtain ⟨its, rv, p, hz⟩ := I1.list hq
    refine wpAny_pyIter_list p.isList ?_
    refine ⟨s1.heap.objs.size, [s1.heap.objs.size], _, _, H1, rfl, I1.kept (t' := s1.toks) fun b o e => Heap.get?_push_of_some _ e, turn_list a _, ⟨_, Heap.get?_push_size _ rfl, rfl, rfl⟩, fun b hb => ?_, q⟩
    have e : b = s1.heap.objs.size := by simpa using hb
    subst e
    exact I1.fpOk (Nat.le_refl _) (I1.hok.fresh (Nat.le_refl _))
  · obtain ⟨its, rv, p, hz⟩ := I1.tuple hq
    refine wpAny_pyIter_tuple (show s1.heap.IsTuple a its.toArray from p) ?_
    refine ⟨s1.heap.objs.size, [s1.heap.objs.size], _, _, H1, rfl, I1.kept (t' := s1.toks) fun b o e => Heap.get?_push_of_some _ e, turn_tuple a _, ⟨_, Heap.get?_push_size _ rfl, rfl, rfl⟩, fun b hb => ?_, q⟩
    have e : b = s1.heap.objs.size := by simpa using hb
    subst e
    exact I1.fpOk (Nat.le_refl _) (I1.hok.fresh (Nat.le_refl _))
/-- over a list or a tuple -/
def wSq (w : WE) : WA := fun en Q => w en fun d e1 => ∃ xs, (d = .list xs ∨ d = .tuple xs) ∧ Q xs e1
theorem i_seq (h : PE X e (lE X.K ζ w)) : PI X tg e (lI X.K ζ (wSq w)) :=
  (pi_seq h).mo fun σ H R ⟨G, en, I, Q', o, q, k⟩ => ⟨G, en, I, _, o, q, fun v H1 I1 e1 d o1 x1 dv ⟨xs, hd, q1⟩ => by
    rcases hd with rfl | rfl
    · cases dv with
      | lst hs ha => exact ⟨_, rfl, Or.inl ⟨⟨_, SqL.of (o1.iH _ _ hs)⟩, k _ H1 I1 e1 xs o1 x1 (itd_list hs ha) q1⟩⟩
    · cases dv with
      | tup hs ha => exact ⟨_, rfl, Or.inr ⟨⟨_, sqt_ex o1.iH hs⟩, k _ H1 I1 e1 xs o1 x1 (itd_tup hs ha) q1⟩⟩⟩
/-- the ints lo, lo + 1, .., n of them -/
def rngD (lo : Int) (n : Nat) : List D := (List.range n).map fun i => PyData.int (lo + (i : Nat))
theorem rngD_len (lo : Int) (n : Nat) : (rngD lo n).length = n := by unfold rngD; rw [List.length_map, List.length_range]
theorem rngD_get {lo : Int} {n i : Nat} {d : D} (h : (rngD lo n)[i]? = some d) : d = .int (lo + (i : Nat)) ∧ i < n := by
  unfold rngD at h
  rw [List.getElem?_map] at h
  cases q : (List.range n)[i]? with
  | none => rw [q] at h; cases h
  | some j =>
    rw [q] at h
    obtain ⟨h1, h2⟩ := List.getElem?_eq_some_iff.mp q
    rw [List.getElem_range] at h2
    subst h2
    cases h
    exact ⟨rfl, by simpa using h1⟩
theorem itd_rng {I : Hp} {lo : Int} {n : Nat} : ItD K (Itr lo n) I (rngD lo n) where
  go := fun i H I1 e1 e2 hi => by rw [rngD_len] at hi; exact hi
  stop := fun H I1 e1 e2 => by rw [rngD_len]; exact Nat.le_refl _
  yld := fun i H I1 v H' d e1 e2 hd ⟨eH, hv⟩ => by
    subst eH hv
    obtain ⟨h1, h2⟩ := rngD_get hd
    subst h1
    exact ⟨I1, Gr.rf e2, .int _⟩
def wRg1 (w : WA) : WA := fun en Q => w en fun ds e1 => ∃ j : Int, ds = [.int j] ∧ -(2 ^ 62) ≤ j ∧ j < 2 ^ 62 ∧ Q (rngD 0 j.toNat) e1
def wRg2 (w : WA) : WA := fun en Q => w en fun ds e1 => ∃ i j : Int, ds = [.int i, .int j] ∧ (-(2 ^ 62) ≤ i ∧ i < 2 ^ 62 ∧ -(2 ^ 62) ≤ j ∧ j < 2 ^ 62) ∧ Q (rngD i (j - i).toNat) e1
theorem i_rng1 (hm : X.mg "range" = none) (ha : PA X [a] (lA X.K ζ wa)) (hg : Gl X "range" := by rfl) (hs : starEach [a] X.env = [(false, eval a X.env)] := by rfl) : PI X tg (.Call (.Name "range" p) [a] [] pos) (lI X.K ζ (wRg1 wa)) :=
  (pi_range1 hg hm ha hs).mo fun σ H R ⟨G, en, I, Q', o, q, k⟩ => ⟨G, en, I, _, o, q, fun vs H1 I1 e1 ds o1 x1 dvs ⟨j, hd, h1, h2, q1⟩ => by
    subst hd
    cases dvs with
    | cons h t => cases t; cases h; exact ⟨j, rfl, h1, h2, k _ H1 I1 e1 _ o1 x1 itd_rng q1⟩⟩
/-! ### targets -/
abbrev WG := D → En → (En → Prop) → Prop
/-- is: the slots that are stored -/
def lG (K : PySem.W.Frag) (ζ : Zt) (is : List Nat) (w : WG) : TG := fun v σ H Q => ∃ (G : Gh) (en : En) (I : Hp) (d : D) (Q' : En → Prop), Ok K ζ G σ en H I ∧ Da K I v d ∧ w d en Q' ∧
  ∀ σ' H' I' en', Ok K ζ G σ' en' H' I' → Ex I I' → σ'.length = σ.length → (∀ j, j ∉ is → σ'[j]? = σ[j]?) → Q' en' → Q σ' H'
theorem _root_.L2.PG.mo {X : Cx} {tg : Expr} {t t' : TG} (h : PG X tg t) (m : ∀ v σ H Q, t' v σ H Q → t v σ H Q) : PG X tg t' := ⟨fun pins s σ H v u Q I r q => h.run pins s σ H v u Q I r (m v σ H Q q)⟩
def wgN (i : Nat) : WG := fun d en Q => (i ≠ 0 ∨ NotOwn en[i]?) ∧ Q (en.set i (.imm d))
theorem g_name {i : Nat} {x : Str} (hN : X.N.Nodup) (hi : X.N[i]? = some x) (hx : Loc X.env.scope x) (hf : X.fn x = true ∨ X.env.scope.names.lookup x = some .local := by first | exact .inl rfl | exact .inr rfl | assumption) : PG X (.Name x pos) (lG X.K ζ [i] (wgN i)) :=
  (pg_name hN hi hx hf).mo fun v σ H Q ⟨G, en, I, d, Q', o, dv, ⟨hi, q⟩, k⟩ =>
    k _ H I _ (o.put dv (hi.imp id notOwn_ne)) (Ex.rf I) (by rw [List.length_set]) (fun j hj => by rw [List.getElem?_set_ne]; exact fun e => hj (by rw [e]; exact List.mem_singleton.mpr rfl)) q
abbrev WGs := List D → En → (En → Prop) → Prop
def lGs (K : PySem.W.Frag) (ζ : Zt) (is : List Nat) (w : WGs) : TGs := fun vs σ H Q => ∃ (G : Gh) (en : En) (I : Hp) (ds : List D) (Q' : En → Prop), Ok K ζ G σ en H I ∧ DaAll K I vs ds ∧ w ds en Q' ∧
  ∀ σ' H' I' en', Ok K ζ G σ' en' H' I' → Ex I I' → σ'.length = σ.length → (∀ j, j ∉ is → σ'[j]? = σ[j]?) → Q' en' → Q σ' H'
def wgNil : WGs := fun ds en Q => ds = [] ∧ Q en
def wgCons (g : WG) (r : WGs) : WGs := fun ds en Q => ∃ d t, ds = d :: t ∧ g d en fun e1 => r t e1 Q
theorem gs_nil : PGs X [] (lGs X.K ζ [] wgNil) := ⟨fun pins s σ H vs us Q I r h => pgs_nil.run pins s σ H vs us Q I r (by
  obtain ⟨G, en, I, ds, Q', o, dvs, ⟨hd, q⟩, k⟩ := h
  subst hd; cases dvs
  exact ⟨rfl, k σ H I en o (Ex.rf I) rfl (fun _ _ => rfl) q⟩)⟩
theorem gs_cons {is js : List Nat} {g : WG} {r : WGs} (h1 : PG X e (lG X.K ζ is g)) (h2 : PGs X es (lGs X.K ζ js r)) (hs : (assignEach (e :: es) X.env).map (·.2) = assign e X.env :: (assignEach es X.env).map (·.2) := by rfl) : PGs X (e :: es) (lGs X.K ζ (is ++ js) (wgCons g r)) := ⟨fun pins s σ H vs us Q I rr h => (pgs_cons h1 h2 hs).run pins s σ H vs us Q I rr (by
  obtain ⟨G, en, I, ds, Q', o, dvs, ⟨d, t, hd, q⟩, k⟩ := h
  subst hd
  cases dvs with
  | cons dv dvs =>
    refine ⟨_, _, rfl, G, en, I, d, _, o, dv, q, fun σ1 H1 I1 e1 o1 x1 l1 k1 q1 => ?_⟩
    refine ⟨G, e1, I1, t, _, o1, dvs.up x1, q1, fun σ2 H2 I2 e2 o2 x2 l2 k2 q2 => ?_⟩
    exact k σ2 H2 I2 e2 o2 (x1.tr x2) (l2.trans l1) (fun j hj => (k2 j fun h => hj (List.mem_append_right _ h)).trans (k1 j fun h => hj (List.mem_append_left _ h))) q2)⟩
def wgT (n : Nat) (r : WGs) : WG := fun d en Q => ∃ ds, d = .tuple ds ∧ ds.length = n ∧ r ds en Q
theorem g_tup {is : List Nat} {k n : Nat} {r : WGs} (hc : X.calm = true) (h : PGs X es (lGs X.K ζ is r)) (pg : PG X (.Tuple es k pos) (gTup X.K n (lGs X.K ζ is r))) : PG X (.Tuple es k pos) (lG X.K ζ is (wgT n r)) :=
  pg.mo fun v σ H Q ⟨G, en, I, d, Q', o, dv, ⟨ds, hd, hn, q⟩, kk⟩ => by
    subst hd
    cases dv with
    | tup hs ha => exact ⟨_, _, rfl, sqt_ex o.iH hs, by rw [dpa_len ha]; exact hn, G, en, I, ds, Q', o, ha, q, kk⟩
end
/-! ### for -/
def forW (g : WG) (b : WS) (R : Ed) : List D → En → Prop
  | [], en => R.nx en
  | x :: xs, en => g x en fun e1 => b { R with nx := forW g b R xs, ct := forW g b R xs, bk := R.nx } e1
def wFor (wi : WA) (g : WG) (b : WS) : WS := fun R en => wi en fun xs e1 => forW g b R xs e1
theorem Ok.base {K : PySem.W.Frag} {G : Gh} {σ σ1 : Sg} {en e1 : En} {H H1 I I1 : Hp} (o1 : Ok K ζ G σ1 e1 H1 I1) (o : Ok K ζ G σ en H I) (x : Ex I1 I) : Ok K ζ { G with I0 := I1 } σ en H I :=
  ⟨x, o.iH, fun a h1 h2 => o.nw a h1 (o1.i0.no h2), o.fr, o.ln, o.sl, o.ml, o.ds, o.pj, o.pr, o.pn, o.tg, o.tt, fun σ' en' H' I' c => o.lk σ' en' H' I' ⟨o1.i0.tr c.i0, c.iH, fun a h1 h2 => c.nw a h1 (o1.nw a h1 h2), c.fr, c.ln, c.sl, c.ml, c.ds, c.pj, c.tt⟩⟩
theorem Ok.back {K : PySem.W.Frag} {G : Gh} {σ σ1 : Sg} {en e1 : En} {H H1 I I1 : Hp} (o1 : Ok K ζ G σ1 e1 H1 I1) (o : Ok K ζ { G with I0 := I1 } σ en H I) : Ok K ζ G σ en H I ∧ Ex I1 I :=
  ⟨⟨o1.i0.tr o.i0, o.iH, fun a h1 h2 => o.nw a h1 (o1.nw a h1 h2), o.fr, o.ln, o.sl, o.ml, o.ds, o.pj, o.pr, o.pn, o.tg, o.tt, o1.lk⟩, o.i0⟩
theorem s_for {X : Cx} {tg iter : Expr} {body : List Stmt} {pos : Pos} {wi : WA} {is : List Nat} {g : WG} {b : WS} (hp : PassesOwn (model X.prog X.w) X.A X.env X.xe) (hc : X.calm = true) (hi : PI X tg iter (lI X.K ζ wi)) (hg : PG X tg (lG X.K ζ is g)) (hb : PSs X body (lS X.K ζ b))
    (hs : ∀ x, foldedSetIterable iter X.env x = pure x := by intro _; rfl) : PS X (.For tg iter body [] pos) (lS X.K ζ (wFor wi g b)) :=
  (ps_for hp hc hi hg hb hs).mo fun R σ H ⟨G, en, I, R', ok, q, k⟩ => ⟨G, en, I, _, ok, q, fun J H1 I1 e1 xs o1 x1 it q1 => by
    refine ⟨fun i m σ H => m = xs.length - i ∧ i ≤ xs.length ∧ ∃ en I, Ok X.K ζ { G with I0 := I1 } σ en H I ∧ forW g b R' (xs.drop i) en, ⟨xs.length, by omega, Nat.zero_le _, e1, I1, o1.base o1 (Ex.rf I1), q1⟩, ?_⟩
    rintro i m σ2 H2 ⟨hm, hi, e2, I2, o2, q2⟩
    by_cases hlt : i < xs.length
    · rw [List.drop_eq_getElem_cons hlt] at q2
      refine Or.inr ⟨it.go i H2 I2 o2.i0 o2.iH hlt, fun σ H => ∃ en I, Ok X.K ζ { G with I0 := I1 } σ en H I ∧ forW g b R' (xs.drop (i + 1)) en, fun σ' H' h => ⟨xs.length - (i + 1), by omega, rfl, hlt, h⟩, fun v H3 y3 => ?_⟩
      obtain ⟨I3, g3, d3⟩ := it.yld i H2 I2 v H3 _ o2.i0 o2.iH (List.getElem?_eq_getElem hlt) y3
      refine ⟨{ G with I0 := I1 }, e2, I3, xs[i], _, o2.gr g3, d3, q2, fun σ4 H4 I4 e4 o4 x4 _ _ q4 => ?_⟩
      refine ⟨{ G with I0 := I1 }, e4, I4, _, o4, q4, fun σ' H' I' en' o' h => ⟨en', I', o', h⟩, fun v σ' H' I' en' d o' dv h => ?_, fun σ' H' I' en' o' h => ?_, fun σ' H' I' en' o' h => ⟨en', I', o', h⟩⟩
      · exact k.2.1 v σ' H' I' en' d (o1.back o').1 dv h
      · exact k.1 σ' H' I' en' (o1.back o').1 h
    · have e : i = xs.length := by omega
      subst e
      rw [List.drop_length] at q2
      exact Or.inl ⟨it.stop H2 I2 o2.i0 o2.iH, k.1 σ2 H2 I2 e2 (o1.back o2).1 q2⟩⟩
/-! ### list comprehensions -/
theorem _root_.L2.PTs.mo {X : Cx} {ifs : List Expr} {t t' : TT} (h : PTs X ifs t) (m : ∀ σ H Q, t' σ H Q → t σ H Q) : PTs X ifs t' := ⟨fun pins s σ H Q I q => h.run pins s σ H Q I (m σ H Q q)⟩
def wYes : WT := fun en Q => Q true en
theorem ts_nil {X : Cx} : PTs X [] (lT X.K ζ wYes) := pts_nil.mo fun σ H Q ⟨G, en, I, Q', o, q, k⟩ => k true H I en o (Ex.rf I) q
theorem ts_one {X : Cx} {c : Expr} {t : WT} (h : PT X c (lT X.K ζ t)) : PTs X [c] (lT X.K ζ t) := pts_one h
/-- the slots vs forgotten -/
def wip : List Nat → En → En
  | [], en => en
  | v :: vs, en => (wip vs en).set v .un
theorem wip_get : ∀ {vs : List Nat} {en : En} {i : Nat} {s : Sl}, (wip vs en)[i]? = some s → (i ∈ vs ∧ s = .un) ∨ (i ∉ vs ∧ en[i]? = some s)
  | [], en, i, s, h => Or.inr ⟨by simp, h⟩
  | v :: vs, en, i, s, h => by
    rcases set_get h with ⟨e, q⟩ | ⟨ne, q⟩
    · exact Or.inl ⟨by rw [e]; exact List.mem_cons_self, q⟩
    · rcases wip_get q with ⟨h1, h2⟩ | ⟨h1, h2⟩
      · exact Or.inl ⟨List.mem_cons_of_mem _ h1, h2⟩
      · exact Or.inr ⟨fun h => (List.mem_cons.mp h).elim (fun e => ne e.symm) h1, h2⟩
/-- none of the slots vs holds the caller's list -/
def FreeS (en : En) (vs : List Nat) : Prop := ∀ v ∈ vs, v ≠ 0 ∨ NotOwn en[v]?
theorem Ok.wip {K : PySem.W.Frag} {G : Gh} {σ : Sg} {en : En} {H I : Hp} (o : Ok K ζ G σ en H I) : ∀ {vs : List Nat}, FreeS en vs → Ok K ζ G (wipe σ vs) (wip vs en) H I
  | [], _ => o
  | v :: vs, h => by
    have o1 := Ok.wip o (vs := vs) fun u hu => h u (List.mem_cons_of_mem _ hu)
    refine o1.forget ?_
    rcases h v List.mem_cons_self with q | q
    · exact Or.inl q
    · refine Or.inr fun ds e => ?_
      rcases wip_get e with ⟨_, e2⟩ | ⟨_, e2⟩
      · cases e2
      · rw [e2] at q; exact q
/-- the slots vs as they were -/
def bak (vs : List Nat) (en e : En) : En := (List.range e.length).map fun i => if i ∈ vs then en.getD i .un else e.getD i .un
def lcW (g : WG) (t : WT) (w : WE) (vs : List Nat) : List D → List D → En → (List D → En → Prop) → Prop
  | [], acc, e, Q => Q acc e
  | x :: xs, acc, e, Q => g x e fun e1 => t e1 fun b e2 => FreeS e2 vs ∧ if b = true then w e2 fun y e3 => FreeS e3 vs ∧ lcW g t w vs xs (acc ++ [y]) (wip vs e3) Q else lcW g t w vs xs acc (wip vs e2) Q
def wLc (wi : WA) (g : WG) (t : WT) (w : WE) (vs : List Nat) : WA := fun en Q => wi en fun xs e1 => FreeS e1 vs ∧ (∀ v ∈ vs, NotOwn e1[v]?) ∧ xs.length ≤ sizeLine ∧ lcW g t w vs xs [] (wip vs e1) fun ys e2 => Q ys (bak vs e1 e2)
theorem wipe_out {i : Nat} : ∀ {σ : Sg} {vs : List Nat}, i ∉ vs → (wipe σ vs)[i]? = σ[i]?
  | σ, [], _ => rfl
  | σ, v :: vs, hi => by
    show ((wipe σ vs).set v none)[i]? = σ[i]?
    rw [List.getElem?_set_ne fun e => hi (by rw [e]; exact List.mem_cons_self)]
    exact wipe_out fun q => hi (List.mem_cons_of_mem _ q)
theorem wipe_in {i : Nat} {σ : Sg} (hl : i < σ.length) : ∀ {vs : List Nat}, i ∈ vs → (wipe σ vs)[i]? = some none
  | [], h => by cases h
  | v :: vs, hi => by
    show ((wipe σ vs).set v none)[i]? = some none
    by_cases e : v = i
    · subst e; rw [List.getElem?_set_self]; rw [wipe_length]; exact hl
    · rw [List.getElem?_set_ne e]
      exact wipe_in hl ((List.mem_cons.mp hi).resolve_left fun q => e q.symm)
theorem wipe_of {σ σ' : Sg} (hl : σ'.length = σ.length) {vs : List Nat} (h : ∀ j, j ∉ vs → σ'[j]? = σ[j]?) : wipe σ' vs = wipe σ vs := by
  refine List.ext_getElem? fun i => ?_
  by_cases hi : i ∈ vs
  · by_cases hl2 : i < σ.length
    · rw [wipe_in (by omega) hi, wipe_in hl2 hi]
    · rw [List.getElem?_eq_none (by rw [wipe_length]; omega), List.getElem?_eq_none (by rw [wipe_length]; omega)]
  · rw [wipe_out hi, wipe_out hi, h i hi]
theorem bak_get {vs : List Nat} {en e : En} {i : Nat} {s : Sl} (h : (bak vs en e)[i]? = some s) : i < e.length ∧ ((i ∈ vs ∧ s = en.getD i .un) ∨ (i ∉ vs ∧ e[i]? = some s)) := by
  unfold bak at h
  rw [List.getElem?_map] at h
  cases q : (List.range e.length)[i]? with
  | none => rw [q] at h; cases h
  | some j =>
    rw [q] at h
    obtain ⟨h1, h2⟩ := List.getElem?_eq_some_iff.mp q
    rw [List.getElem_range] at h2
    subst h2
    rw [List.length_range] at h1
    refine ⟨h1, ?_⟩
    have h3 : (if i ∈ vs then en.getD i .un else e.getD i .un) = s := Option.some.inj h
    by_cases hi : i ∈ vs
    · rw [if_pos hi] at h3; exact Or.inl ⟨hi, h3.symm⟩
    · rw [if_neg hi] at h3
      refine Or.inr ⟨hi, ?_⟩
      rw [List.getElem?_eq_getElem h1]
      rw [List.getD_eq_getElem?_getD, List.getElem?_eq_getElem h1] at h3
      exact congrArg some h3
theorem Ok.bak {K : PySem.W.Frag} {G : Gh} {σ : Sg} {e1 e : En} {H1 I1 H I : Hp} {vs : List Nat} (o1 : Ok K ζ G σ e1 H1 I1) (n : ∀ v ∈ vs, NotOwn e1[v]?) (o : Ok K ζ G (wipe σ vs) e H I) (x : Ex I1 I) : Ok K ζ G σ (bak vs e1 e) H I := by
  have hl : σ.length = e.length := by rw [← o.ln, wipe_length]
  have own' : ∀ i b, OwnAt σ (Pd.bak vs e1 e) i b → OwnAt (wipe σ vs) e i b := fun i b ⟨q1, es, q2⟩ => by
    rcases (bak_get q2).2 with ⟨h1, h2⟩ | ⟨h1, h2⟩
    · have q := n i h1
      have h3 : e1[i]? = some (.own es) := by
        rw [List.getD_eq_getElem?_getD] at h2
        cases z : e1[i]? with
        | none => rw [z] at h2; cases h2
        | some y => rw [z] at h2; exact congrArg some h2.symm
      rw [h3] at q; exact q.elim
    · exact ⟨by rw [wipe_out h1]; exact q1, es, h2⟩
  refine ⟨o.i0, o.iH, o.nw, o.fr, by unfold Pd.bak; rw [List.length_map, List.length_range]; exact hl, fun i s q => ?_, fun i b q => o.ml i b (own' i b q), fun a b c q1 q2 => o.ds a b c (own' a c q1) (own' b c q2), fun b q => ?_, fun p hp => ⟨(o.pr p hp).1, (o.pr p hp).2.1, fun j q => (o.pr p hp).2.2 j (own' j _ q)⟩, o.pn, o.tg, o.tt, o.lk⟩
  · obtain ⟨hlt, q⟩ := bak_get q
    rcases q with ⟨h1, h2⟩ | ⟨h1, h2⟩
    · have q := n i h1
      rw [List.getD_eq_getElem?_getD] at h2
      cases z : e1[i]? with
      | none => rw [z] at h2; subst h2; trivial
      | some y =>
        rw [z] at h2 q
        have h3 : s = y := h2
        subst h3
        have r := o1.sl i s z
        cases s with
        | un => trivial
        | scr ns => obtain ⟨a, q1, q2⟩ := r; exact ⟨a, q1, sqs_ex x q2⟩
        | adr a => exact r
        | fnv nm => exact r
        | lam q0 P0 => exact q.elim
        | exc a dx ns ds => obtain ⟨q1, vs, q2, q3, q4⟩ := r; exact ⟨q1, vs, x _ _ q2, q3, q4.up x⟩
        | imm d =>
          obtain ⟨v, r1, r2⟩ := r
          exact ⟨v, r1, r2.up x⟩
        | own es => exact q.elim
    · have r := o.sl i s h2
      rw [wipe_out h1] at r
      exact r
  · obtain ⟨q1, es, q2⟩ := o.pj b q
    obtain ⟨q3, q4⟩ := wipe_some q1
    refine ⟨q3, es, ?_⟩
    have hlt : 0 < e.length := (List.getElem?_eq_some_iff.mp q2).1
    unfold Pd.bak
    rw [List.getElem?_map, List.getElem?_eq_getElem (by rw [List.length_range]; exact hlt), List.getElem_range]
    show some (if 0 ∈ vs then e1.getD 0 .un else e.getD 0 .un) = _
    rw [if_neg q4, List.getD_eq_getElem?_getD, q2]
    rfl
def hid (H : Hp) (p : Addr) : Hp := fun b => if b = p then none else H b
theorem hid_ne {H : Hp} {p a : Addr} (h : a ≠ p) : hid H p a = H a := if_neg h
theorem hid_at {H : Hp} {p : Addr} : hid H p p = none := if_pos rfl
/-- a protected object that is new since the entry is taken out of sight -/
theorem Ok.drop {K : PySem.W.Frag} {G : Gh} {σ : Sg} {en : En} {H I : Hp} {P : List (Addr × HO)} {p : Addr} {u : HO} (o : Ok K ζ { G with P := (p, u) :: P } σ en H I) (he : G.He p = none) (hP : ∀ q ∈ P, q.1 ≠ p) (hu : NoT u := by trivial) : Ok K ζ { G with P := P } σ en (hid H p) I ∧ H = upd (hid H p) p u := by
  obtain ⟨h1, h2, h3⟩ := o.pr (p, u) List.mem_cons_self
  refine ⟨⟨o.i0, fun a v h => ?_, o.nw, fun a v h1 h2 h3 => ?_, o.ln, fun j s q => ?_, o.ml, o.ds, o.pj, fun q hq => ?_, fun q hq => o.pn q (List.mem_cons_of_mem _ hq), o.tg, tabs_n o.tt fun b w no hb => by
    rw [hid_ne]
    · exact hb
    · intro e
      subst e
      rw [h1] at hb
      cases hb
      exact no hu, o.lk⟩, ?_⟩
  · have e : a ≠ p := fun e => by rw [e, h2] at h; cases h
    rw [hid_ne e]; exact o.iH a v h
  · have h1' : G.He a = some v := h1
    have e : a ≠ p := fun e => by rw [e, he] at h1'; cases h1'
    rw [hid_ne e]; exact o.fr a v h1 h2 h3
  · have r := o.sl j s q
    cases s with
    | un => trivial
    | scr ns => exact r
    | adr a => exact r
    | fnv nm => exact r
    | lam q0 P0 =>
      obtain ⟨f, c', r1, r2, r3⟩ := r
      exact ⟨f, c', r1, r2, by rw [hid_ne (code_ne r3 h1 hu)]; exact r3⟩
    | exc a dx ns ds => exact r
    | imm d => exact r
    | own es =>
      obtain ⟨l', vs', r1, r2, r3, r4⟩ := r
      have e : l' ≠ p := fun e => h3 j ⟨by rw [r1, e], es, q⟩
      exact ⟨l', vs', r1, r2, by rw [hid_ne e]; exact r3, r4⟩
  · obtain ⟨q1, q2, q3⟩ := o.pr q (List.mem_cons_of_mem _ hq)
    exact ⟨by rw [hid_ne (hP q hq)]; exact q1, q2, q3⟩
  · funext b
    by_cases e : b = p
    · rw [e, upd_same, h1]
    · rw [upd_ne e, hid_ne e]
theorem Ok.fresh {K : PySem.W.Frag} {G : Gh} {σ : Sg} {en : En} {H I : Hp} (o : Ok K ζ G σ en H I) {p : Addr} (hp : H p = none) : G.J ≠ some p ∧ G.He p = none ∧ ∀ q ∈ G.P, q.1 ≠ p := by
  have nj : G.J ≠ some p := fun hj => by
    obtain ⟨r1, es, r2⟩ := o.pj p hj
    obtain ⟨l', vs', r3, r4, r5, r6⟩ := o.own r2
    rw [r1] at r3
    have q5 : p = l' := by injection r3 with r3; injection r3 with r3; injection r3
    rw [← q5, hp] at r5; cases r5
  refine ⟨nj, ?_, fun q hq e => by rw [← e, (o.pr q hq).1] at hp; cases hp⟩
  cases q : G.He p with
  | none => rfl
  | some u => obtain ⟨v, hv⟩ := o.th q nj; rw [hv] at hp; cases hp
theorem lcm {K : PySem.W.Frag} {wi : WA} {is : List Nat} {g : WG} {t : WT} {w : WE} {vs : List Nat} {σ : Sg} {H : Hp} {Q : VK} (his : ∀ i ∈ is, i ∈ vs) (h : lL K ζ (wLc wi g t w vs) σ H Q) : tLc (lI K ζ wi) (lG K ζ is g) (lT K ζ t) (lE K ζ w) vs σ H Q := by
  obtain ⟨G, en, I, Q', o, q, k⟩ := h
  refine ⟨G, en, I, _, o, q, fun J H1 I1 e1 xs o1 x1 it ⟨fr1, no1, hz, q1⟩ => fun D hD => ?_⟩
  obtain ⟨nj, hn, hP⟩ := o1.fresh hD
  have id2 : wipe (wipe σ vs) vs = wipe σ vs := wipe_of (wipe_length σ vs) fun j hj => wipe_out hj
  refine ⟨fun i m H => m = xs.length - i ∧ i ≤ xs.length ∧ ∃ e I acc vacc, Ok K ζ { G with I0 := I1, P := (D, .lst vacc) :: G.P } (wipe σ vs) e H I ∧ DaAll K I vacc acc ∧ acc.length ≤ i ∧ lcW g t w vs (xs.drop i) acc e fun ys e2 => Q' ys (bak vs e1 e2),
    ⟨xs.length, by omega, Nat.zero_le _, wip vs e1, I1, [], [], ((o1.base o1 (Ex.rf I1)).wip fr1).prot hD, .nil, Nat.le_refl _, q1⟩, ?_⟩
  rintro i m H2 ⟨hm, hi, e2, I2, acc, vacc, o2, da2, hacc, q2⟩
  by_cases hlt : i < xs.length
  · rw [List.drop_eq_getElem_cons hlt] at q2
    refine Or.inr ⟨it.go i H2 I2 o2.i0 o2.iH hlt, fun H => ∃ e I acc vacc, Ok K ζ { G with I0 := I1, P := (D, .lst vacc) :: G.P } (wipe σ vs) e H I ∧ DaAll K I vacc acc ∧ acc.length ≤ i + 1 ∧ lcW g t w vs (xs.drop (i + 1)) acc e fun ys e2 => Q' ys (bak vs e1 e2),
      fun H' h => ⟨xs.length - (i + 1), by omega, rfl, hlt, h⟩, fun v H3 y3 => ?_⟩
    obtain ⟨I3, g3, d3⟩ := it.yld i H2 I2 v H3 _ o2.i0 o2.iH (List.getElem?_eq_getElem hlt) y3
    refine ⟨_, e2, I3, xs[i], _, o2.gr g3, d3, q2, fun σ4 H4 I4 e4 o4 x4 l4 k4 q4 => ?_⟩
    have e4' : wipe σ4 vs = wipe σ vs := (wipe_of l4 fun j hj => k4 j fun h => hj (his j h)).trans id2
    refine ⟨e4', _, e4, I4, _, o4, q4, fun b H5 I5 e5 o5 x5 ⟨f5, q5⟩ => ?_⟩
    cases b with
    | false =>
      have o5' := o5.wip f5
      rw [e4'] at o5'
      exact ⟨wip vs e5, I5, acc, vacc, o5', ((da2.up g3.i).up x4).up x5, by omega, q5⟩
    | true =>
      refine ⟨_, e5, I5, _, o5, q5, fun y H6 I6 e6 d6 o6 x6 dv6 ⟨f6, q6⟩ => ?_⟩
      have da6 := (((da2.up g3.i).up x4).up x5).up x6
      refine ⟨vacc, (o6.pr _ List.mem_cons_self).1, by rw [dpa_len da6]; omega, ?_⟩
      have o6' := o6.wip f6
      rw [e4'] at o6'
      exact ⟨wip vs e6, I6, acc ++ [d6], vacc ++ [y], Ok.rewr (G := { G with I0 := I1 }) o6' nj hn hP, dpa_app da6 (.cons dv6 .nil), by rw [List.length_append, List.length_singleton]; omega, q6⟩
  · have e : i = xs.length := by omega
    subst e
    rw [List.drop_length] at q2
    refine Or.inl ⟨it.stop H2 I2 o2.i0 o2.iH, ?_⟩
    obtain ⟨o3, eH⟩ := Ok.drop (G := { G with I0 := I1 }) o2 hn hP
    rw [eH]
    have o3' : Ok K ζ { G with I0 := I1 } (wipe σ vs) e2 (hid H2 D) I2 := o3
    obtain ⟨o4, x4⟩ := o1.back o3'
    exact k D vacc _ I2 _ acc (o1.bak no1 o4 x4) (x1.tr x4) hid_at da2 q2
theorem l_lc {X : Cx} {elt tg iter : Expr} {ifs : List Expr} {scope : Scope} {own : List (Str × Nat)} {pos : Pos} {wi : WA} {is : List Nat} {g : WG} {t : WT} {w : WE} (hc : X.calm = true) (hN : X.N.Nodup) (hi : PI X tg iter (lI X.K ζ wi)) (ok : BlkOk X.N X.env.scope scope own)
    (hg : ∀ (s : Shared) (H : Hp) (C : Addr) (cl : List (Str × Addr)) (fp : List Addr), PG (X.blk s H scope (compEnvC scope cl C X.env) fp) tg (lG X.K ζ is g)) (ht : ∀ (s : Shared) (H : Hp) (C : Addr) (cl : List (Str × Addr)) (fp : List Addr), PTs (X.blk s H scope (compEnvC scope cl C X.env) fp) ifs (lT X.K ζ t))
    (he : ∀ (s : Shared) (H : Hp) (C : Addr) (cl : List (Str × Addr)) (fp : List Addr), PE (X.blk s H scope (compEnvC scope cl C X.env) fp) elt (lE X.K ζ w)) (hs : ∀ x, foldedSetIterable iter X.env x = pure x := by intro _; rfl)
    (his : ∀ i ∈ is, i ∈ own.map (·.2) := by decide) :
    PE X (.ListComp elt [⟨tg, iter, ifs, 0⟩] scope pos) (lL X.K ζ (wLc wi g t w (own.map (·.2)))) :=
  (pe_lc hc hN hi ok hg ht he hs).mo fun σ H Q h => lcm his h
end Pd

set_option Elab.async false
set_option linter.all false
set_option maxRecDepth 100000
set_option maxHeartbeats 4000000
namespace Pd
open PySem PySem.Spec PyProof.Rows L2
section
variable {X : Cx}
/-- x = [..] on one line -/
theorem s_lc {i : Nat} {y : Str} {py : Pos} {elt tg iter : Expr} {ifs : List Expr} {scope : Scope} {own : List (Str × Nat)} {pos spos : Pos} {wi : WA} {is : List Nat} {g : WG} {t : WT} {w : WE} (hc : X.calm = true) (hN : X.N.Nodup) (hy : X.N[i]? = some y) (hyl : X.env.scope.names.lookup y = some .local)
    (hsw : swapsWith (.ListComp elt [⟨tg, iter, ifs, 0⟩] scope pos) (some (.Name y py)) spos.line X.env = pure true) (hi : PI X tg iter (lI X.K ζ wi)) (ok : BlkOk X.N X.env.scope scope own)
    (hg : ∀ (s : Shared) (H : Hp) (C : Addr) (cl : List (Str × Addr)) (fp : List Addr), PG (X.blk s H scope (compEnvC scope cl C X.env) fp) tg (lG X.K ζ is g)) (ht : ∀ (s : Shared) (H : Hp) (C : Addr) (cl : List (Str × Addr)) (fp : List Addr), PTs (X.blk s H scope (compEnvC scope cl C X.env) fp) ifs (lT X.K ζ t))
    (he : ∀ (s : Shared) (H : Hp) (C : Addr) (cl : List (Str × Addr)) (fp : List Addr), PE (X.blk s H scope (compEnvC scope cl C X.env) fp) elt (lE X.K ζ w)) (hs : ∀ x, foldedSetIterable iter X.env x = pure x := by intro _; rfl)
    (his : ∀ i ∈ is, i ∈ own.map (·.2) := by decide) :
    PS X (.Assign [.Name y py] (.ListComp elt [⟨tg, iter, ifs, 0⟩] scope pos) spos) (lS X.K ζ (wSet i (wLe (wLc wi g t w (own.map (·.2)))))) :=
  (ps_setLc hc hN hy hyl hsw hi ok hg ht he hs).mo fun R σ H ⟨G, en, I, R', o, q, k⟩ => lcm his ⟨G, en, I, _, o, q, fun p vs H1 I1 e1 ds o1 x1 hp dvs ⟨hi, q1⟩ => by
    obtain ⟨o2, x2⟩ := o1.new (u := .lst vs) hp
    exact k.1 _ _ _ _ (o2.put (.lst upd_same (dvs.up x2)) (hi.imp id notOwn_ne)) q1⟩
/-! ### a, b = e1, e2 -/
def wPar (i j : Nat) (wa wb : WE) : WS := fun R en => wa en fun x e1 => wb e1 fun y e2 => (i ≠ 0 ∨ NotOwn e2[i]?) ∧ (j ≠ 0 ∨ NotOwn (e2.set i (.imm x))[j]?) ∧ R.nx ((e2.set i (.imm x)).set j (.imm y))
variable {i j : Nat} {x y : Str} {a b : Expr} {px py pt pos pt2 : Pos} {kt k2 : Nat}
theorem s_par {wa wb : WE} (h : PS X (.Assign [.Tuple [.Name x px, .Name y py] kt pt] (.Tuple [a, b] k2 pt2) pos) (tPar i j (tCons (lE X.K ζ wa) (tCons (lE X.K ζ wb) tNil)))) :
    PS X (.Assign [.Tuple [.Name x px, .Name y py] kt pt] (.Tuple [a, b] k2 pt2) pos) (lS X.K ζ (wPar i j wa wb)) :=
  h.mo fun R σ H ⟨G, en, I, R', o, q, k⟩ => ⟨G, en, I, _, o, q, fun v H1 I1 e1 d o1 x1 dv q1 => ⟨G, e1, I1, _, o1, q1, fun u H2 I2 e2 d2 o2 x2 du ⟨h1, h2, q2⟩ => ⟨v, u, rfl, k.1 _ H2 I2 _ ((o2.put (dv.up x2) (h1.imp id notOwn_ne)).put du (h2.imp id notOwn_ne)) q2⟩⟩⟩
end
/-! ### a def of the text -/
section
variable {P : Program} {w : World} {K : PySem.W.Frag} {mg : Str → Option Value} {base : Heap} {x qual : Str} {params : Arguments} {body : List Stmt} {scope : Scope} {f : Addr} {fd : FuncData} {N ps : List Str} {k : Nat}
/-- what is wanted behind the body -/
def edP (Q' : D → Prop) : Ed := { nx := fun _ => Q' .none, rt := fun d _ => Q' d }
def edJ (Q' : D → List D → Prop) : Ed := { nx := fun en => ∀ dj, en[0]? = some (.own dj) → Q' .none dj, rt := fun d en => ∀ dj, en[0]? = some (.own dj) → Q' d dj }
def enP (N : List Str) (ds : List D) : En := ds.map .imm ++ List.replicate (N.length - ds.length) .un
def enJ (N : List Str) (dj ds : List D) : En := .own dj :: (ds.map .imm ++ List.replicate (N.length - (ds.length + 1)) .un)
theorem fnP {wf : WF} {ws : WS} (F : FunD K x qual params body scope [] [] f fd) (S : FnScope N ps scope)
    (hb : ∀ (cdv : Value) (A : Around) (outer : List Env) (s : Shared) (H : Hp) (E : XK), Room k (A.deeper (envOfC qual scope s.heap.objs.size f cdv)) → PSs (cxOf CX0 P w K mg base N qual scope f cdv A outer s H E).nox body (lS K ζ0 ws))
    (hp : ∀ ds Q', ds.length = ps.length → wf ds Q' → ws (edP Q') (enP N ds)) : FnOk P w K mg base CX0 (k + 1) f fd ps (spP K ps.length wf) := by
  refine F.ok S (fun vs H Q E h => ?_) (fun cdv A outer s H vs Q E hr h => ?_)
  · obtain ⟨I, ds, Q', _, h2, h3, _⟩ := h
    rw [dpa_len h2, h3]
  · obtain ⟨I, ds, Q', h1, h2, h3, h4, h5⟩ := h
    refine ⟨lS K ζ0 ws, PSs.nox (hb cdv A outer s H E hr), ?_⟩
    have hpl : ps.length ≤ N.length := by have := congrArg List.length S.pre; rw [List.length_take] at this; omega
    have hl : vs.length = ds.length := dpa_len h2
    have gsl : ∀ (i : Nat) (s : Sl), (enP N ds)[i]? = some s → SlOk K I H (L2.start N vs)[i]? s := fun i s hs => by
      unfold enP at hs
      by_cases hi : i < ds.length
      · rw [List.getElem?_append_left (by rw [List.length_map]; exact hi), List.getElem?_map] at hs
        cases q : ds[i]? with
        | none => rw [q] at hs; cases hs
        | some d =>
          rw [q] at hs
          cases hs
          obtain ⟨v, hv, dv⟩ := dpa_get h2 q
          refine ⟨v, ?_, dv⟩
          unfold L2.start
          rw [List.getElem?_append_left (by rw [List.length_map, hl]; exact hi), List.getElem?_map, hv]
          rfl
      · rw [List.getElem?_append_right (by rw [List.length_map]; omega), List.getElem?_replicate] at hs
        split at hs
        · cases hs; trivial
        · cases hs
    have nown : ∀ (i : Nat) (l : Addr), ¬ OwnAt (L2.start N vs) (enP N ds) i l := fun i l ⟨q1, es, q2⟩ => by
      unfold enP at q2
      by_cases hi : i < ds.length
      · rw [List.getElem?_append_left (by rw [List.length_map]; exact hi), List.getElem?_map] at q2
        cases q : ds[i]? with
        | none => rw [q] at q2; cases q2
        | some d => rw [q] at q2; cases q2
      · rw [List.getElem?_append_right (by rw [List.length_map]; omega), List.getElem?_replicate] at q2
        split at q2
        · cases q2
        · cases q2
    have o : Ok K ζ0 ⟨H, I, none, []⟩ (L2.start N vs) (enP N ds) H I :=
      ⟨Ex.rf I, h1, fun a _ h => h, fun a o h _ _ => h, by unfold L2.start enP; simp [hl], gsl, fun i l h => absurd h (nown i l), fun i j l h => absurd h (nown i l), fun l h => (by cases h), fun p hp => (by cases hp), fun p hp => (by cases hp), fun _ h => isTb_Nil h, Tabs_nil, fun _ _ _ _ _ => trivial⟩
    refine lS_mk o (hp ds Q' h3 h4) ⟨fun σ' H' I' en' o' q => ?_, fun v σ' H' I' en' d o' dv q => ?_, fun _ _ _ _ _ q => q.elim, fun _ _ _ _ _ q => q.elim⟩
    · exact h5 .non H' I' .none ⟨fun a u q => o'.fr a u q (by simp) isTb0, o'.i0, o'.iH, fun a h1 h2 => by
        cases q : H a with
        | none => rfl
        | some u => exact absurd (o'.nw a (show H a ≠ none by rw [q]; simp) h2) h1⟩ .non q
    · exact h5 v H' I' d ⟨fun a u q => o'.fr a u q (by simp) isTb0, o'.i0, o'.iH, fun a h1 h2 => by
        cases q : H a with
        | none => rfl
        | some u => exact absurd (o'.nw a (show H a ≠ none by rw [q]; simp) h2) h1⟩ dv q
theorem fnJ {wf : WJ} {ws : WS} {n : Nat} (F : FunD K x qual params body scope [] [] f fd) (S : FnScope N ps scope) (hn : ps.length = n)
    (hb : ∀ (cdv : Value) (A : Around) (outer : List Env) (s : Shared) (H : Hp) (E : XK), Room k (A.deeper (envOfC qual scope s.heap.objs.size f cdv)) → PSs (cxOf CX0 P w K mg base N qual scope f cdv A outer s H E).nox body (lS K ζ0 ws))
    (hp : ∀ dj ds Q', ds.length + 1 = n → wf dj ds Q' → ws (edJ Q') (enJ N dj ds)) : FnOk P w K mg base CX0 (k + 1) f fd ps (spJ K n wf) := by
  refine F.ok S (fun vs H Q E h => ?_) (fun cdv A outer s H vs Q E hr h => ?_)
  · obtain ⟨j, vj, dj, us, ds, I, Q', rfl, _, _, _, _, h6, h7, _⟩ := h
    rw [List.length_cons, dpa_len h6, h7, hn]
  · obtain ⟨j, vj, dj, us, ds, I, Q', rfl, g1, g2, g3, h1, h2, h3, h4, h5⟩ := h
    refine ⟨lS K ζ0 ws, PSs.nox (hb cdv A outer s H E hr), ?_⟩
    have hpl : ps.length ≤ N.length := by have := congrArg List.length S.pre; rw [List.length_take] at this; omega
    have hl : us.length = ds.length := dpa_len h2
    have get_ : ∀ (i : Nat) (s : Sl), (enJ N dj ds)[i]? = some s → (i = 0 ∧ s = .own dj) ∨ (∃ d v, ds[i - 1]? = some d ∧ us[i - 1]? = some v ∧ Da K I v d ∧ s = .imm d ∧ 1 ≤ i ∧ (L2.start N (V.ref j :: us))[i]? = some (some v)) ∨ s = .un := fun i s hs => by
      unfold enJ at hs
      cases i with
      | zero => exact Or.inl ⟨rfl, by simpa using hs.symm⟩
      | succ i =>
        rw [List.getElem?_cons_succ] at hs
        by_cases hi : i < ds.length
        · rw [List.getElem?_append_left (by rw [List.length_map]; exact hi), List.getElem?_map] at hs
          cases q : ds[i]? with
          | none => rw [q] at hs; cases hs
          | some d =>
            rw [q] at hs
            cases hs
            obtain ⟨v, hv, dv⟩ := dpa_get h2 q
            refine Or.inr (Or.inl ⟨d, v, q, hv, dv, rfl, by omega, ?_⟩)
            unfold L2.start
            rw [List.getElem?_append_left (by rw [List.length_map, List.length_cons, hl]; omega), List.getElem?_map, List.getElem?_cons_succ, hv]
            rfl
        · rw [List.getElem?_append_right (by rw [List.length_map]; omega), List.getElem?_replicate] at hs
          split at hs
          · cases hs; exact Or.inr (Or.inr rfl)
          · cases hs
    have s0 : (L2.start N (V.ref j :: us))[0]? = some (some (V.ref j)) := by unfold L2.start; simp
    have own0 : ∀ (i : Nat) (l : Addr), OwnAt (L2.start N (V.ref j :: us)) (enJ N dj ds) i l → i = 0 ∧ l = j := fun i l ⟨q1, es, q2⟩ => by
      rcases get_ i _ q2 with ⟨e, _⟩ | ⟨d, v, _, _, _, e, _⟩ | e
      · subst e
        rw [s0] at q1
        injection q1 with q1; injection q1 with q1; injection q1 with q1
        exact ⟨rfl, q1.symm⟩
      · cases e
      · cases e
    have o : Ok K ζ0 ⟨H, I, some j, []⟩ (L2.start N (V.ref j :: us)) (enJ N dj ds) H I := by
      refine ⟨Ex.rf I, h1, fun a _ h => h, fun a o h _ _ => h, ?_, fun i s hs => ?_, fun i l h => ?_, fun a b l h g => ?_, fun l h => ?_, fun p hp => (by cases hp), fun p hp => (by cases hp), fun _ h => isTb_Nil h, Tabs_nil, fun _ _ _ _ _ => trivial⟩
      · unfold L2.start enJ
        rw [List.length_append, List.length_map, List.length_replicate, List.length_cons, List.length_cons, List.length_append, List.length_map, List.length_replicate]
        omega
      · rcases get_ i s hs with ⟨e1, e2⟩ | ⟨d, v, q1, q2, q3, e, q4, q5⟩ | e
        · subst e1 e2
          exact ⟨j, vj, s0, g1, g2, g3⟩
        · subst e
          exact ⟨v, q5, q3⟩
        · subst e; trivial
      · obtain ⟨_, e⟩ := own0 i l h
        exact Or.inl (by rw [e])
      · rw [(own0 a l h).1, (own0 b l g).1]
      · have e : j = l := Option.some.inj h
        subst e
        exact ⟨s0, dj, rfl⟩
    have fin : ∀ {v σ' H' I' en' d}, Ok K ζ0 ⟨H, I, some j, []⟩ σ' en' H' I' → Da K I' v d → (∀ dj, en'[0]? = some (.own dj) → Q' d dj) → Q v H' := fun {v σ' H' I' en' d} o' dv q => by
      obtain ⟨p1, dj', p2⟩ := o'.pj j rfl
      obtain ⟨l, vs', r1, r2, r3, r4⟩ := o'.own p2
      rw [p1] at r1
      have e : j = l := by injection r1 with r1; injection r1 with r1; injection r1
      subst e
      refine h5 v H' I' d vs' dj' (fun a u ha q => o'.fr a u q (fun e => ha (Option.some.inj e).symm) isTb0) o'.i0 o'.iH (fun a h1 h2 => ?_) r3 r4 dv (q dj' p2)
      cases z : H a with
      | none => rfl
      | some u => exact absurd (o'.nw a (show H a ≠ none by rw [z]; simp) h2) h1
    exact lS_mk o (hp dj ds Q' h3 h4) ⟨fun σ' H' I' en' o' q => fin o' .non q, fun v σ' H' I' en' d o' dv q => fin o' dv q, fun _ _ _ _ _ q => q.elim, fun _ _ _ _ _ q => q.elim⟩
end
end Pd

set_option Elab.async false
set_option linter.all false
set_option maxRecDepth 100000
set_option maxHeartbeats 4000000
namespace Pd
open PySem PySem.Spec PyProof.Rows L2
section
variable {K : PySem.W.Frag} {X : Cx}
/-! ### in, not in, over flat items -/
def flatD : D → Bool
  | .none | .bool _ | .int _ | .str _ => true
  | _ => false
theorem flat_da {I : Hp} {v : V} {d : D} (h : Da K I v d) (f : flatD d = true) : flatV v = true := by
  cases h <;> first | rfl | exact absurd f (by simp [flatD])
theorem eqv_da {I J : Hp} {v u : V} {d e : D} (h : Da K I v d) (g : Da K J u e) (f : flatD d = true) (f2 : flatD e = true) : eqV v u = PyData.eqv d e := by
  cases h <;> cases g <;> first | rfl | (simp [flatD] at f; done) | (simp [flatD] at f2; done) | simp [eqV, PyData.eqv]
theorem all_da {I : Hp} : ∀ {vs : List V} {ds : List D}, DaAll K I vs ds → ds.all flatD = true → vs.all flatV = true
  | _, _, .nil, _ => rfl
  | _, _, .cons h t, f => by
    rw [List.all_cons, Bool.and_eq_true] at f ⊢
    exact ⟨flat_da h f.1, all_da t f.2⟩
theorem in_da {I J : Hp} {v : V} {d : D} (h : Da K J v d) (fd : flatD d = true) : ∀ {vs : List V} {ds : List D}, DaAll K I vs ds → ds.all flatD = true → inV v vs = ds.any fun y => PyData.eqv y d
  | _, _, .nil, _ => rfl
  | _, _, .cons (v := w) (vs := vs) a t, f => by
    rw [List.all_cons, Bool.and_eq_true] at f
    show (w :: vs).any (fun y => eqV y v) = _
    rw [List.any_cons, List.any_cons, eqv_da a h f.1 fd]
    have q := in_da h fd t f.2
    unfold inV at q
    rw [q]
def dIn (neg : Bool) : D → D → D → Prop := fun x y z => ∃ ys, (y = .list ys ∨ y = .tuple ys) ∧ flatD x = true ∧ ys.all flatD = true ∧ z = .bool (if neg then !(ys.any fun y => PyData.eqv y x) else ys.any fun y => PyData.eqv y x)
theorem snd_in {neg : Bool} : SndOp K (rIn K neg) (dIn neg) := by
  rintro H I x y d e z iH hx hy ⟨ys, hy', fx, fy, rfl⟩ Q k
  rcases hy' with rfl | rfl
  · cases hy with
    | lst h a => exact ⟨_, _, rfl, Or.inl (SqL.of (iH _ _ h)), flat_da hx fx, all_da a fy, by rw [in_da hx fx a fy]; exact k _ H I (Gr.rf iH) (.bl _)⟩
  · cases hy with
    | tup h a => exact ⟨_, _, rfl, Or.inr (sqt_ex iH h), flat_da hx fx, all_da a fy, by rw [in_da hx fx a fy]; exact k _ H I (Gr.rf iH) (.bl _)⟩
/-! ### list + list, list * int, as new lists of one's own -/
variable {a b e : Expr} {pos : Pos} {wa wb : WE} {wl : WA}
/-! ### calls by a bundle -/
def Cal (P : Program) (w : World) (K : PySem.W.Frag) (mg : Str → Option Value) (base : Heap) (k : Nat) (x : Str) (ps : List Str) (sp : Sp) : Prop :=
  ∃ (f : Addr) (fd : FuncData), FnOk P w K mg base CX0 k f fd ps sp ∧ mg x = some (.ref f) ∧ PySem.W.keepIn K (.ref f) = true ∧ Binds K fd ps []
variable {p : Pos} {x : Str} {k n : Nat} {ps : List Str} {es : List Expr}
theorem c_call {wf : WF} {w : WA} (C : Cal X.prog X.w X.K X.mg X.base k x ps (spP X.K n wf)) (hr : Room k X.A) (ha : PA X (e :: es) (lA X.K ζ w)) (hg : Gl X x := by rfl)
    (hdb : (x == ("__debug__" : Str)) = false := by decide) (he : starEach (e :: es) X.env = (false, eval e X.env) :: starEach es X.env := by rfl) (hpl : (backTo pos (starEach es X.env)).any (·.1) = false := by rfl) :
    PE X (.Call (.Name x p) (e :: es) [] pos) (lE X.K ζ (wFn n wf w)) := by
  obtain ⟨f, fd, F, hm, hk, hb⟩ := C
  exact d_call F hr hm hk hb ha hg hdb he hpl
theorem c_callJ {wf : WJ} {w : WA} {i : Nat} (C : Cal X.prog X.w X.K X.mg X.base k x ps (spJ X.K n wf)) (hr : Room k X.A) (h0 : PE X e (tVar i)) (ha : PA X es (lA X.K ζ w)) (hg : Gl X x := by rfl)
    (hdb : (x == ("__debug__" : Str)) = false := by decide) (he : starEach (e :: es) X.env = (false, eval e X.env) :: starEach es X.env := by rfl) (hpl : (backTo pos (starEach es X.env)).any (·.1) = false := by rfl) :
    PE X (.Call (.Name x p) (e :: es) [] pos) (lE X.K ζ (wFnJ i n wf w)) := by
  obtain ⟨f, fd, F, hm, hk, hb⟩ := C
  exact d_callJ F hr hm hk hb h0 ha hg hdb he hpl
/-- an int of the module -/
theorem d_gint {i : Int} (hm : ∃ t, X.mg x = some (.int i t)) (hg : Gl X x := by rfl) (hd : (x == ("__debug__" : Str)) = false := by decide) : PE X (.Name x pos) (lE X.K ζ (wC (.int i))) := by
  obtain ⟨t, hm⟩ := hm
  exact d_c (pe_glob (v := .int i) hg hm ⟨t, rfl⟩ hd) fun _ => .int i
/-! ### greater powers -/
end
end Pd

set_option Elab.async false
set_option linter.all false
set_option maxRecDepth 100000
set_option maxHeartbeats 4000000
namespace Pd
open PySem PySem.Spec PyProof.Rows L2
open AutoSeq1 (wpAny_loadPart')
/-! ### enumerate over a tuple -/
theorem meets_enum1 {v : Value} {o : Obj} {H : Heap → Prop} (B : Begins v o H) :
    Meets (Builtin.«enumerate.__new__» ⟨[.type "enumerate", v], []⟩) (fun _ R s => H s.heap ∧
      R (.ok (.ret (.ref (s.heap.push o).objs.size))) { s with heap := (s.heap.push o).push { cls := .type "enumerate", data := .fields #[.none, .bool false, .ref s.heap.objs.size, rawInt 0, .none, .none] } }) :=
  .of_wp fun prog w A R s h => by
    obtain ⟨hp, g, d, tk, os⟩ := s; obtain ⟨hl, h⟩ := h
    have hsub := sub_enumerate
    have hB := fun (A : Around) (E : Value → Shared → Prop) (Q : Value → Shared → Prop) (q : Q (.ref hp.objs.size) ⟨hp.push o, g, d, tk, os⟩) => B.iter prog w A E ⟨hp, g, d, tk, os⟩ Q hl q
    wp_walk
    refine wpAny_stack_any fun st => wpAny_pure ?_
    split
    · rename_i c _ _ _ _ _
      cases (c == Value.type "enumerate")
      · wp_walk using hB
        exact ⟨_, rfl, h⟩
      · wp_walk using hB
        exact ⟨_, rfl, h⟩
    · wp_walk using hB
      exact ⟨_, rfl, h⟩
theorem call_enum1 {prog : Program} {w : World} {A : Around} {E : Value → Shared → Prop} {s : Shared} {v : Value} {o : Obj} {H : Heap → Prop} (B : Begins v o H) {Q : Value → Shared → Prop} (h1 : H s.heap)
    (h : ∀ h', IsEnum h' (s.heap.objs.size + 1) s.heap.objs.size 0 .none → h'.get? s.heap.objs.size = some o → h'.objs.size = s.heap.objs.size + 2 →
      (∀ b o, s.heap.get? b = some o → h'.get? b = some o) → Q (.ref (s.heap.objs.size + 1)) { s with heap := h' }) :
    wpAny (model prog w) A (call (.type "enumerate") [v]) Q E s := by
  refine callType_new F.called_enumerate (by decide) (F.typeCall_enumerate_1 _) (F.newCall_enumerate_1 _) (fun obj => F.args_object_init_2 obj _) F.entry_enumerate_new
    (meets_enum1 B) ⟨h1, ?_⟩
  have hz : (s.heap.push o).objs.size = s.heap.objs.size + 1 := Heap.size_push ..
  show _ ∧ _
  rw [hz]
  have he : IsEnum ((s.heap.push o).push { cls := .type "enumerate", data := .fields #[.none, .bool false, .ref s.heap.objs.size, rawInt 0, .none, .none] }) (s.heap.objs.size + 1) s.heap.objs.size 0 .none := by
    have := Heap.get?_push_size (s.heap.push o) (o := { cls := .type "enumerate", data := .fields #[.none, .bool false, .ref s.heap.objs.size, rawInt 0, .none, .none] }) rfl
    rw [hz] at this; exact this
  refine ⟨⟨_, he, rfl⟩, h _ he (Heap.get?_push_of_some _ (Heap.get?_push_size _ B.free)) (by rw [Heap.size_push, hz]) fun b o x => Heap.get?_push_of_some _ (Heap.get?_push_of_some _ x)⟩
theorem enum_endT {prog : Program} {w : World} {A : Around} {E : Value → Shared → Prop} {s : Shared} {e it l : Addr} {i : Nat} {items : Array Value} {old : Value} {Q : Option Value → Shared → Prop} (hh : A.handled = none)
    (he : IsEnum s.heap e it i old) (hit : s.heap.IsTupleIter it l i) (hl : s.heap.IsTuple l items) (hx : items[i]? = none)
    (hQ : ∀ h', Heap.ExtBut it s.heap h' → Q none { s with heap := h' }) : wpAny (model prog w) A (pyNext (.ref e)) Q E s := by
  have hT : s.TypeIs (.ref e) "enumerate" := ⟨_, he, rfl⟩
  unfold pyNext
  refine wpAny_bind (wpAny_attempt (wpAny_callSpecial?_slot (name := Str.ofString "__next__") hT F.slot_enumerate_next
    (wpAny_call_entry F.slot_enumerate_next hT F.entry_enumerate_next ?_ (F.args_enumerate_next_1 _))))
  show wpAny _ _ (field (.ref e) 2 >>= _) _ _ _
  refine wpAny_bind (wpAny_field he rfl (x := .ref it) rfl ?_)
  refine wpAny_bind (wpAny_nextOf_tuple_end (show A.in1.handled = none from hh) hit hl hx fun h' x he' hx' => ?_)
  obtain ⟨o, ho, hc⟩ := hx'
  refine wpAny_bind (wpAny_isInstance (T := "StopIteration") (b := true) ⟨o, ho, hc⟩ isSubtype_stop ?_)
  exact wpAny_pure (hQ _ he')
/-- the tuple at a as it stands at each turn, each item in a new pair -/
def IteT (K : PySem.W.Frag) (a : Addr) : It :=
  ⟨fun i H => ∃ (xs : List V) (x : V), SqT K H a xs ∧ xs[i]? = some x, fun i H v H' => ∃ T x, v = .ref T ∧ H T = none ∧ H' = upd H T (.tup [.int (i : Nat), x]) ∧ ∀ xs, SqT K H a xs → xs[i]? = some x, fun i H => ∃ xs : List V, SqT K H a xs ∧ xs.length ≤ i⟩
theorem ne_tup {h : Heap} {e it a : Addr} {c : Int} {old : Value} {items : Array Value} (he : IsEnum h e it c old) (ht : h.IsTuple a items) : e ≠ a := fun z => by
  obtain ⟨o, ho, hc, _⟩ := ht
  subst z
  have he' : h.get? e = some _ := he
  rw [he'] at ho
  have e := Option.some.inj ho
  rw [← e] at hc
  have hc' : Value.type "enumerate" = Value.type "tuple" := hc
  injection hc' with hc'
  exact absurd hc' (by decide)
theorem turn_enumT {P : Program} {w : World} {K : PySem.W.Frag} {elts : List Expr} {kk : Nat} {tpos : Pos} (a e it : Addr) (hai : a ≠ it) :
    Turn P w K (.Tuple elts kk tpos) (IteT K a) [e, it] e (fun i h => (∃ old, IsEnum h e it ((i : Nat) : Int) old) ∧ h.IsTupleIter it a i ∧ e ≠ it) where
  mem := by simp
  obj := fun i h st b hb => by
    obtain ⟨⟨old, he⟩, ⟨o, ho, hc, hd⟩, _⟩ := st
    have e' : b = e ∨ b = it := by simpa using hb
    rcases e' with z | z
    · rw [z]; exact ⟨_, he, fun v q => nomatch q⟩
    · rw [z]; exact ⟨o, ho, fun v q => by rw [hd] at q; cases q⟩
  keep := fun i h h' st k => let ⟨⟨old, he⟩, hi, hne⟩ := st; ⟨⟨old, k e (by simp) _ he⟩, hi.at fun o q => k it (by simp) o q, hne⟩
  item := by
    intro X hP hw hK hc i pins s σ H E I hf st hg
    subst hP hw hK
    obtain ⟨⟨old, he⟩, hit, hne⟩ := st
    obtain ⟨xs, x, hq, hx⟩ := hg
    obtain ⟨its, rv, p, hz⟩ := I.tuple hq
    have p' : s.heap.IsTuple a its.toArray := p
    obtain ⟨u, hu, ru⟩ := rv.get hx
    have hlt : i < its.toArray.size := by
      rw [List.size_toArray]
      exact (List.getElem?_eq_some_iff.mp hu).1
    have hel : e < s.heap.objs.size := Heap.lt_size he
    have hil : it < s.heap.objs.size := by obtain ⟨_, q, _⟩ := hit; exact Heap.lt_size q
    refine wpAny_pyNext_enum_itemD (Draws.tuple (show X.A.in1.handled = none from I.ok.hd hc) it a hai its.toArray) he ⟨hit, p'⟩ hlt hne (by simp [hne, ne_tup he p']) fun y h' tk hy ho hit' hT hsz hk => ?_
    have ey : y = u := by
      have h1 : its[i]? = some y := by simpa using hy
      rw [hu] at h1
      exact (Option.some.inj h1).symm
    subst ey
    refine ⟨_, rfl, wpAny_letOwnedTupleGo_enum (s := { s with heap := h', toks := tk + 1 }) ho fun h'' he' sb => ?_⟩
    have hT2 : h''.get? s.heap.objs.size = some { cls := .type "tuple", data := .seq #[.int i tk, y] } := (sb.2 _ (Nat.ne_of_gt hel)).trans hT
    have new : ObjOk X.prog X.w (upd H s.heap.objs.size (.tup [.int (i : Nat), x])) h'' s.heap.objs.size (.tup [.int (i : Nat), x]) :=
      ⟨by show 2 ≤ sizeLine; decide, [.int i tk, y], .cons ⟨_, rfl⟩ (.cons ru .nil), ⟨_, hT2, rfl, _, rfl⟩⟩
    have I1 : Inv X pins σ (upd H s.heap.objs.size (.tup [.int (i : Nat), x])) { s with heap := h'', toks := tk + 1 } :=
      I.turnedNew (ch := [e, it]) (fun b ob hb q => (sb.2 b (fun z => hb (by simp [z]))).trans (hk b ob (fun z => hb (by simp [z])) (fun z => hb (by simp [z])) q)) hf (Nat.le_refl _) new
    refine ⟨.ref s.heap.objs.size, _, I1, rfl, ⟨_, x, rfl, I.hok.fresh (Nat.le_refl _), rfl, fun ys hy => by rw [I.tuple_inj hy hq]; exact hx⟩, ⟨⟨y, ?_⟩, hit'.1.at fun o q => (sb.2 it (Ne.symm hne)).trans q, hne⟩, fun b hb => ?_⟩
    · have e1 : ((i + 1 : Nat) : Int) = (i : Int) + 1 := by omega
      rw [e1]; exact he'
    · have hb' : b < s.heap.objs.size := by
        have e' : b = e ∨ b = it := by simpa using hb
        rcases e' with z | z
        · rw [z]; exact hel
        · rw [z]; exact hil
      rw [upd_ne (Nat.ne_of_lt hb')]
      exact (hf b hb).1
  done := by
    intro X hP hw hK hc i pins s σ H E I hf st hg
    subst hP hw hK
    obtain ⟨⟨old, he⟩, hit, hne⟩ := st
    obtain ⟨xs, hq, hx⟩ := hg
    obtain ⟨its, rv, p, hz⟩ := I.tuple hq
    have p' : s.heap.IsTuple a its.toArray := p
    obtain ⟨f0, f1, f2, f3, f4, f5⟩ := hf it (by simp)
    have hl := rv.length
    exact enum_endT (I.ok.hd hc) he hit p' (by simp; omega) fun h' eb => ⟨rfl, I.turned (t' := s.toks) (fun b o hb q => eb b o hb q) f0 f1 f3 f4 f5⟩
  self := fun A i s Q E st h => let ⟨⟨_, he⟩, _⟩ := st; wpAny_pyIter_enum he h
def iEnA (K : PySem.W.Frag) (ta : TA) : TI := fun σ H R => ta σ H fun vs H1 => ∃ a, vs = [.ref a] ∧ ((∃ xs, SqL K H1 a xs ∧ R (Ite K a) H1) ∨ (∃ xs, SqT K H1 a xs ∧ R (IteT K a) H1))
theorem pi_enA {X : Cx} {e : Expr} {ta : TA} {p pos tpos : Pos} {elts : List Expr} {kk : Nat} (hg : Gl X "enumerate") (hm : X.mg "enumerate" = none) (ha : PA X [e] ta) (hs : starEach [e] X.env = [(false, eval e X.env)] := by rfl) :
    PI X (.Tuple elts kk tpos) (.Call (.Name "enumerate" p) [e] [] pos) (iEnA X.K ta) := by
  refine ⟨fun pins s σ H R I h => ?_⟩
  refine Call_ (ld_blt I hg hm boot_enumerate (PyProof.Rows.callWith_type1 (thn (ha.run pos pins s σ H _ I h) fun us s1 ⟨vs, H1, I1, r1, q1⟩ => ?_) hs rfl))
  obtain ⟨a, ex, q1⟩ := q1
  subst ex
  cases r1 with
  | cons r rr =>
    cases rr
    cases r
    have tail : ∀ b ∈ [s1.heap.objs.size + 1, s1.heap.objs.size], FpOk X pins H1 b := fun b hb => by
      have e' : b = s1.heap.objs.size + 1 ∨ b = s1.heap.objs.size := by simpa using hb
      have hle : s1.heap.objs.size ≤ b := by
        rcases e' with z | z
        · rw [z]; exact Nat.le_add_right _ _
        · rw [z]; exact Nat.le_refl _
      exact I1.fpOk hle (I1.hok.fresh hle)
    rcases q1 with ⟨xs, hq, q⟩ | ⟨xs, hq, q⟩
    · obtain ⟨its, rv, p', hz⟩ := I1.list hq
      refine call_enumerate_list p'.isList fun h' he hit hsz hk => wpAny_pyIter_enum he ?_
      have I2 : Inv X pins σ H1 { s1 with heap := h' } := I1.kept (t' := s1.toks) hk
      exact ⟨s1.heap.objs.size + 1, [s1.heap.objs.size + 1, s1.heap.objs.size], _, _, H1, rfl, I2, turn_enum a (s1.heap.objs.size + 1) s1.heap.objs.size, ⟨⟨.none, he⟩, hit, Nat.succ_ne_self _⟩, tail, q⟩
    · obtain ⟨its, rv, p', hz⟩ := I1.tuple hq
      have al : a < s1.heap.objs.size := by obtain ⟨_, z, _⟩ := p'; exact Heap.lt_size z
      refine call_enum1 (begins_tuple a its.toArray) p' fun h' he hit hsz hk => wpAny_pyIter_enum he ?_
      have I2 : Inv X pins σ H1 { s1 with heap := h' } := I1.kept (t' := s1.toks) hk
      exact ⟨s1.heap.objs.size + 1, [s1.heap.objs.size + 1, s1.heap.objs.size], _, _, H1, rfl, I2, turn_enumT a (s1.heap.objs.size + 1) s1.heap.objs.size (Nat.ne_of_lt al), ⟨⟨.none, he⟩, ⟨_, hit, rfl, rfl⟩, Nat.succ_ne_self _⟩, tail, q⟩
/-- pairs of number and item -/
def enuD : Nat → List D → List D
  | _, [] => []
  | i, x :: xs => .tuple [.int (i : Nat), x] :: enuD (i + 1) xs
theorem enuD_len : ∀ (i : Nat) (xs : List D), (enuD i xs).length = xs.length
  | _, [] => rfl
  | i, x :: xs => congrArg (· + 1) (enuD_len (i + 1) xs)
theorem enuD_get : ∀ {j : Nat} {xs : List D} {i : Nat} {d : D}, (enuD j xs)[i]? = some d → ∃ x, xs[i]? = some x ∧ d = .tuple [.int ((j + i : Nat) : Int), x]
  | _, [], _, _, h => by simp [enuD] at h
  | j, x :: xs, 0, d, h => by
    have e : PyData.tuple [.int (j : Nat), x] = d := Option.some.inj h
    exact ⟨x, rfl, e.symm⟩
  | j, x :: xs, i + 1, d, h => by
    have h' : (enuD (j + 1) xs)[i]? = some d := h
    obtain ⟨y, h1, h2⟩ := enuD_get h'
    refine ⟨y, h1, ?_⟩
    rw [h2, show j + 1 + i = j + (i + 1) by omega]
def zipD : List D → List D → List D
  | x :: xs, y :: ys => .tuple [x, y] :: zipD xs ys
  | _, _ => []
theorem zipD_get : ∀ {xs ys : List D} {i : Nat} {d : D}, (zipD xs ys)[i]? = some d → ∃ x y, xs[i]? = some x ∧ ys[i]? = some y ∧ d = .tuple [x, y]
  | [], _, _, _, h => by simp [zipD] at h
  | _ :: _, [], _, _, h => by simp [zipD] at h
  | x :: xs, y :: ys, 0, d, h => by
    have e : PyData.tuple [x, y] = d := Option.some.inj h
    exact ⟨x, y, rfl, rfl, e.symm⟩
  | x :: xs, y :: ys, i + 1, d, h => by
    have h' : (zipD xs ys)[i]? = some d := h
    obtain ⟨a, b, h1, h2, h3⟩ := zipD_get h'
    exact ⟨a, b, h1, h2, h3⟩
theorem zipD_len : ∀ (xs ys : List D), (zipD xs ys).length = min xs.length ys.length
  | [], ys => by simp [zipD]
  | x :: xs, [] => by simp [zipD]
  | x :: xs, y :: ys => by simp [zipD, zipD_len xs ys]
section
variable {K : PySem.W.Frag} {X : Cx} {tg e a b : Expr} {es elts : List Expr} {kk : Nat} {pos p tpos : Pos} {w : WA}
theorem pair_gr {H I : Hp} {T : Addr} {x y : V} {d e : D} (iH : Ex I H) (hT : H T = none) (hx : Da K I x d) (hy : Da K I y e) : ∃ I', Gr H I (upd H T (.tup [x, y])) I' ∧ Da K I' (.ref T) (.tuple [d, e]) :=
  ⟨_, Gr.nw (u := .tup [x, y]) iH hT, .tup (SqT.of upd_same) ((DaAll.cons hx (.cons hy .nil)).up (Gr.nw (u := .tup [x, y]) iH hT).i)⟩
theorem itd_enL {I : Hp} {a : Addr} {vs : List V} {ds : List D} (h : I a = some (.lst vs)) (hd : DaAll K I vs ds) : ItD K (Ite K a) I (enuD 0 ds) where
  go := fun i H I1 e1 e2 hi => by
    rw [enuD_len] at hi
    obtain ⟨v, hv, _⟩ := dpa_get hd (List.getElem?_eq_getElem hi)
    exact ⟨vs, v, SqL.of (e2 _ _ (e1 _ _ h)), hv⟩
  stop := fun H I1 e1 e2 => ⟨vs, SqL.of (e2 _ _ (e1 _ _ h)), by rw [enuD_len, dpa_len hd]; exact Nat.le_refl _⟩
  yld := fun i H I1 v H' d e1 e2 hd' ⟨T, x, ev, hT, eH, hv⟩ => by
    subst ev eH
    obtain ⟨y, hy, ed⟩ := enuD_get hd'
    obtain ⟨v', hv', q⟩ := dpa_get hd hy
    have := hv vs (SqL.of (e2 _ _ (e1 _ _ h)))
    rw [hv'] at this
    cases this
    subst ed
    rw [Nat.zero_add]
    exact pair_gr e2 hT (.int _) (q.up e1)
theorem itd_enT {I : Hp} {a : Addr} {vs : List V} {ds : List D} (h : SqT K I a vs) (hd : DaAll K I vs ds) : ItD K (IteT K a) I (enuD 0 ds) where
  go := fun i H I1 e1 e2 hi => by
    rw [enuD_len] at hi
    obtain ⟨v, hv, _⟩ := dpa_get hd (List.getElem?_eq_getElem hi)
    exact ⟨vs, v, sqt_ex (e1.tr e2) h, hv⟩
  stop := fun H I1 e1 e2 => ⟨vs, sqt_ex (e1.tr e2) h, by rw [enuD_len, dpa_len hd]; exact Nat.le_refl _⟩
  yld := fun i H I1 v H' d e1 e2 hd' ⟨T, x, ev, hT, eH, hv⟩ => by
    subst ev eH
    obtain ⟨y, hy, ed⟩ := enuD_get hd'
    obtain ⟨v', hv', q⟩ := dpa_get hd hy
    have := hv vs (sqt_ex (e1.tr e2) h)
    rw [hv'] at this
    cases this
    subst ed
    rw [Nat.zero_add]
    exact pair_gr e2 hT (.int _) (q.up e1)
def wEnum (w : WA) : WA := fun en Q => w en fun ds e1 => ∃ xs, (ds = [.list xs] ∨ ds = [.tuple xs]) ∧ Q (enuD 0 xs) e1
theorem i_enum (hm : X.mg "enumerate" = none) (ha : PA X [e] (lA X.K ζ w)) (hg : Gl X "enumerate" := by rfl) (hs : starEach [e] X.env = [(false, eval e X.env)] := by rfl) : PI X (.Tuple elts kk tpos) (.Call (.Name "enumerate" p) [e] [] pos) (lI X.K ζ (wEnum w)) :=
  (pi_enA hg hm ha hs).mo fun σ H R ⟨G, en, I, Q', o, q, k⟩ => ⟨G, en, I, _, o, q, fun vs H1 I1 e1 ds o1 x1 dvs ⟨xs, hd, q1⟩ => by
    rcases hd with rfl | rfl
    · cases dvs with
      | cons h t => cases t; cases h with
        | lst hs ha => exact ⟨_, rfl, Or.inl ⟨_, SqL.of (o1.iH _ _ hs), k _ H1 I1 e1 _ o1 x1 (itd_enL hs ha) q1⟩⟩
    · cases dvs with
      | cons h t => cases t; cases h with
        | tup hs ha => exact ⟨_, rfl, Or.inr ⟨_, sqt_ex o1.iH hs, k _ H1 I1 e1 _ o1 x1 (itd_enT hs ha) q1⟩⟩⟩
theorem itd_zipL {I : Hp} {a b : Addr} {vs us : List V} {ds es : List D} (h : I a = some (.lst vs)) (hd : DaAll K I vs ds) (g : I b = some (.lst us)) (he : DaAll K I us es) : ItD K (Itz K a b) I (zipD ds es) where
  go := fun i H I1 e1 e2 hi => by
    rw [zipD_len] at hi
    obtain ⟨v, hv, _⟩ := dpa_get hd (List.getElem?_eq_getElem (i := i) (by omega))
    obtain ⟨u, hu, _⟩ := dpa_get he (List.getElem?_eq_getElem (i := i) (by omega))
    exact ⟨vs, us, v, u, SqL.of (e2 _ _ (e1 _ _ h)), SqL.of (e2 _ _ (e1 _ _ g)), hv, hu⟩
  stop := fun H I1 e1 e2 => ⟨vs, us, SqL.of (e2 _ _ (e1 _ _ h)), SqL.of (e2 _ _ (e1 _ _ g)), by rw [zipD_len, dpa_len hd, dpa_len he]; omega⟩
  yld := fun i H I1 v H' d e1 e2 hd' ⟨T, x, y, ev, hT, eH, hv, hu⟩ => by
    subst ev eH
    obtain ⟨x', y', hx, hy, ed⟩ := zipD_get hd'
    obtain ⟨v', hv', q⟩ := dpa_get hd hx
    obtain ⟨u', hu', q'⟩ := dpa_get he hy
    have t1 := hv vs (SqL.of (e2 _ _ (e1 _ _ h)))
    have t2 := hu us (SqL.of (e2 _ _ (e1 _ _ g)))
    rw [hv'] at t1
    rw [hu'] at t2
    cases t1; cases t2
    subst ed
    exact pair_gr e2 hT (q.up e1) (q'.up e1)
theorem itd_zipT {I : Hp} {a b : Addr} {vs us : List V} {ds es : List D} (h : SqT K I a vs) (hd : DaAll K I vs ds) (g : SqT K I b us) (he : DaAll K I us es) : ItD K (RZ.ItzT K a b) I (zipD ds es) where
  go := fun i H I1 e1 e2 hi => by
    rw [zipD_len] at hi
    obtain ⟨v, hv, _⟩ := dpa_get hd (List.getElem?_eq_getElem (i := i) (by omega))
    obtain ⟨u, hu, _⟩ := dpa_get he (List.getElem?_eq_getElem (i := i) (by omega))
    exact ⟨vs, us, v, u, sqt_ex (e1.tr e2) h, sqt_ex (e1.tr e2) g, hv, hu⟩
  stop := fun H I1 e1 e2 => ⟨vs, us, sqt_ex (e1.tr e2) h, sqt_ex (e1.tr e2) g, by rw [zipD_len, dpa_len hd, dpa_len he]; omega⟩
  yld := fun i H I1 v H' d e1 e2 hd' ⟨T, x, y, ev, hT, eH, hv, hu⟩ => by
    subst ev eH
    obtain ⟨x', y', hx, hy, ed⟩ := zipD_get hd'
    obtain ⟨v', hv', q⟩ := dpa_get hd hx
    obtain ⟨u', hu', q'⟩ := dpa_get he hy
    have t1 := hv vs (sqt_ex (e1.tr e2) h)
    have t2 := hu us (sqt_ex (e1.tr e2) g)
    rw [hv'] at t1
    rw [hu'] at t2
    cases t1; cases t2
    subst ed
    exact pair_gr e2 hT (q.up e1) (q'.up e1)
def wZip (w : WA) : WA := fun en Q => w en fun ds e1 => ∃ xs ys, (ds = [.list xs, .list ys] ∨ ds = [.tuple xs, .tuple ys]) ∧ Q (zipD xs ys) e1
theorem i_zip (hm : X.mg "zip" = none) (ha : PA X [a, b] (lA X.K ζ w)) (hg : Gl X "zip" := by rfl) (hs : starEach [a, b] X.env = (false, eval a X.env) :: starEach [b] X.env := by rfl) (hpl : (backTo pos (starEach [b] X.env)).any (·.1) = false := by rfl) :
    PI X (.Tuple elts kk tpos) (.Call (.Name "zip" p) [a, b] [] pos) (lI X.K ζ (wZip w)) :=
  (RZ.pi_zipA hg hm ha hs hpl).mo fun σ H R ⟨G, en, I, Q', o, q, k⟩ => ⟨G, en, I, _, o, q, fun vs H1 I1 e1 ds o1 x1 dvs ⟨xs, ys, hd, q1⟩ => by
    rcases hd with rfl | rfl
    · cases dvs with
      | cons h t => cases t with
        | cons h2 t => cases t; cases h with
          | lst hs ha => cases h2 with
            | lst hs2 ha2 => exact ⟨_, _, _, _, rfl, Or.inl ⟨SqL.of (o1.iH _ _ hs), SqL.of (o1.iH _ _ hs2), k _ H1 I1 e1 _ o1 x1 (itd_zipL hs ha hs2 ha2) q1⟩⟩
    · cases dvs with
      | cons h t => cases t with
        | cons h2 t => cases t; cases h with
          | tup hs ha => cases h2 with
            | tup hs2 ha2 => exact ⟨_, _, _, _, rfl, Or.inr ⟨sqt_ex o1.iH hs, sqt_ex o1.iH hs2, k _ H1 I1 e1 _ o1 x1 (itd_zipT hs ha hs2 ha2) q1⟩⟩⟩
end
end Pd

set_option Elab.async false
set_option linter.all false
set_option maxRecDepth 100000
set_option maxHeartbeats 4000000
namespace Pd
open PySem PySem.Spec PyProof.Rows L2
section
variable {K : PySem.W.Frag} {X : Cx} {e a b : Expr} {es : List Expr} {pos p : Pos} {wb : WE} {x : Str} {k n : Nat} {ps : List Str}
/-! ### the law's own list -/
def wLenS (i : Nat) : WE := fun en Q => ∃ ns, en[i]? = some (.scr ns) ∧ Q (.int (ns.length : Nat)) en
theorem d_lenS {i : Nat} (hm : X.mg "len" = none) (ha : PE X e (tVar i)) (hg : Gl X "len" := by rfl)
    (he : starEach (e :: []) X.env = (false, eval e X.env) :: starEach [] X.env := by rfl) (hpl : (backTo pos (starEach [] X.env)).any (·.1) = false := by rfl) : PE X (.Call (.Name "len" p) [e] [] pos) (lE X.K ζ (wLenS i)) :=
  (pe_callB call_len hg hm (by decide +kernel) (pa_cons ha pa_nil he) (by decide) (by decide) he hpl).mo fun σ H Q ⟨G, en, I, Q', o, ⟨ns, hd, q⟩, k⟩ => by
    obtain ⟨a, h1, h2⟩ := o.sl i _ hd
    exact ⟨.ref a, h1, _, ns.length, rfl, Or.inl ⟨_, (sqs_ex o.iH h2).l, by rw [List.length_map]⟩, k _ H I en _ o (Ex.rf I) (.int _) q⟩
def wIxS (i : Nat) (wb : WE) : WE := fun en Q => (∃ ns, en[i]? = some (.scr ns)) ∧ wb en fun y e1 => ∃ ns j m, e1[i]? = some (.scr ns) ∧ y = .int j ∧ atI ns j = some m ∧ Q (.int m) e1
theorem at_map {ns : List Int} {j m : Int} (h : atI ns j = some m) : atI (ns.map V.int) j = some (.int m) := by
  unfold atI at h ⊢
  rw [List.length_map]
  cases q : ixN ns.length j with
  | none => rw [q] at h; cases h
  | some t =>
    rw [q] at h
    have h' : ns[t]? = some m := h
    show (ns.map V.int)[t]? = _
    rw [List.getElem?_map, h']
    rfl
theorem d_ixS {i : Nat} (ha : PE X a (tVar i)) (hb : PE X b (lE X.K ζ wb)) (hs : PlainIx b := by exact fun _ _ => rfl) : PE X (.Subscript a b pos) (lE X.K ζ (wIxS i wb)) :=
  (pe_ix ix_seq ha hb hs).mo fun σ H Q ⟨G, en, I, Q', o, ⟨⟨ns0, hd0⟩, q⟩, k⟩ => by
    obtain ⟨l, h1, h2⟩ := o.sl i _ hd0
    refine ⟨.ref l, h1, G, en, I, _, o, q, fun u H1 I1 e1 d o1 x1 du ⟨ns, j, m, hd, hj, hm, q1⟩ => ?_⟩
    subst hj
    obtain ⟨l', h3, h4⟩ := o1.sl i _ hd
    rw [h1] at h3
    have q5 : l = l' := by injection h3 with h3; injection h3 with h3; injection h3
    subst q5
    exact Or.inl ⟨l, _, j, _, rfl, dp_int du, (sqs_ex o1.iH h4).l, at_map hm, k _ H1 I1 e1 _ o1 x1 (.int m) q1⟩
abbrev WSc := List Int → List D → (D → Prop) → Prop
/-- a def whose first argument is the law's list -/
def spS (K : PySem.W.Frag) (n : Nat) (wf : WSc) : Sp := fun vs H Q _ => ∃ (a : Addr) (ns : List Int) (us : List V) (ds : List D) (I : Hp) (Q' : D → Prop),
  vs = .ref a :: us ∧ Ex I H ∧ SqS K I a (ns.map V.int) ∧ DaAll K I us ds ∧ ds.length + 1 = n ∧ wf ns ds Q' ∧ ∀ v H' I' d, Gr H I H' I' → Da K I' v d → Q' d → Q v H'
/-- a call of such a def that hands back a new list of ints: one's own -/
def wFnS (i n : Nat) (wf : WSc) (w : WA) : WA := fun en Q => (∃ ns, en[i]? = some (.scr ns)) ∧ w en fun ds e1 => ∃ (ns js : List Int), ds = js.map PyData.int ∧ js.length + 1 = n ∧ e1[i]? = some (.scr ns) ∧ wf ns ds fun d => ∃ ms : List Int, d = .list (ms.map .int) ∧ Q (ms.map .int) e1
theorem c_callS {wf : WSc} {w : WA} {i : Nat} (C : Cal X.prog X.w X.K X.mg X.base k x ps (spS X.K n wf)) (hr : Room k X.A) (h0 : PE X e (tVar i)) (ha : PA X es (lA X.K ζ w)) (hg : Gl X x := by rfl)
    (hdb : (x == ("__debug__" : Str)) = false := by decide) (he : starEach (e :: es) X.env = (false, eval e X.env) :: starEach es X.env := by rfl) (hpl : (backTo pos (starEach es X.env)).any (·.1) = false := by rfl) :
    PE X (.Call (.Name x p) (e :: es) [] pos) (lL X.K ζ (wFnS i n wf w)) := by
  obtain ⟨f, fd, F, hm, hk, hb⟩ := C
  refine (pe_call F hr hg hm hk hb .nil pass0 (pa_cons h0 ha he) hdb he hpl).mo fun σ H Q ⟨G, en, I, Q', o, ⟨⟨ns0, hd0⟩, q⟩, k⟩ => ?_
  obtain ⟨l, h1, h2⟩ := o.sl i _ hd0
  refine ⟨.ref l, h1, G, en, I, _, o, q, fun vs H1 I1 e1 ds o1 x1 dvs ⟨ns, js, hjs, hn, hd, q1⟩ => ?_⟩
  obtain ⟨l', h3, h4⟩ := o1.sl i _ hd
  rw [h1] at h3
  have q5 : l = l' := by injection h3 with h3; injection h3 with h3; injection h3
  subst q5 hjs
  have evs := dpa_ints_inv js dvs
  subst evs
  -- the callee sees nothing but the law's list
  obtain ⟨J, jI, jl, jn⟩ : ∃ J : Hp, Ex J I1 ∧ SqS X.K J l (ns.map V.int) ∧ ∀ b xs, J b ≠ some (.lst xs) := by
    rcases h4 with ⟨w, h4⟩ | h4
    · refine ⟨fun b => if b = l then some (.frz w (.lst (ns.map V.int))) else none, fun b u hb => ?_, Or.inl ⟨w, if_pos rfl⟩, fun b xs hb => ?_⟩
      · by_cases eb : b = l
        · have hb' : (if b = l then some (HO.frz w (.lst (ns.map V.int))) else none) = some u := hb
          rw [if_pos eb] at hb'
          rw [eb, h4]; exact hb'
        · have hb' : (if b = l then some (HO.frz w (.lst (ns.map V.int))) else none) = some u := hb
          rw [if_neg eb] at hb'; cases hb'
      · have hb' : (if b = l then some (HO.frz w (.lst (ns.map V.int))) else none) = some (HO.lst xs) := hb
        split at hb' <;> cases hb'
    · exact ⟨fun _ => none, fun b u hb => (by cases hb), Or.inr h4, fun b xs hb => (by cases hb)⟩
  show spS X.K n wf ((V.ref l :: js.map V.int) ++ []) H1 Q E0
  rw [List.append_nil]
  refine ⟨l, ns, js.map V.int, js.map .int, J, _, rfl, jI.tr o1.iH, jl, dpa_ints js, by rw [List.length_map]; exact hn, q1, fun v H2 I2 d g dv ⟨ms, hms, q2⟩ => ?_⟩
  subst hms
  cases dv with
  | lst hp ha =>
    rename_i pp vs
    have ev := dpa_ints_inv ms ha
    subst ev
    have fresh : H1 pp = none := g.n pp (by rw [hp]; simp) (by
      cases z : J pp with
      | none => rfl
      | some u =>
        have z2 := g.i pp u z
        rw [hp] at z2
        cases z2
        exact absurd z (jn _ _))
    have e2 : Ex H1 (hid H2 pp) := fun b u hb => by
      have ne : b ≠ pp := fun e => by rw [e, fresh] at hb; cases hb
      rw [hid_ne ne]; exact g.h b u hb
    have eH : H2 = upd (hid H2 pp) pp (.lst (ms.map V.int)) := by
      funext b
      by_cases e : b = pp
      · rw [e, upd_same]; exact g.s _ _ hp
      · rw [upd_ne e, hid_ne e]
    rw [eH]
    exact k pp _ _ I1 e1 _ (o1.grow e2 (Ex.rf I1) (o1.iH.tr e2) fun a h1 h2 => absurd h2 h1) x1 hid_at (dpa_ints ms) q2
/-! ### the defs that take the law's list -/
def enS (N : List Str) (ns : List Int) (ds : List D) : En := .scr ns :: (ds.map .imm ++ List.replicate (N.length - (ds.length + 1)) .un)
end
section
variable {P : Program} {w : World} {K : PySem.W.Frag} {mg : Str → Option Value} {base : Heap} {x qual : Str} {params : Arguments} {body : List Stmt} {scope : Scope} {f : Addr} {fd : FuncData} {N ps : List Str} {k : Nat}
theorem fnS {wf : WSc} {ws : WS} {n : Nat} (F : FunD K x qual params body scope [] [] f fd) (S : FnScope N ps scope) (hn : ps.length = n)
    (hb : ∀ (cdv : Value) (A : Around) (outer : List Env) (s : Shared) (H : Hp) (E : XK), Room k (A.deeper (envOfC qual scope s.heap.objs.size f cdv)) → PSs (cxOf CX0 P w K mg base N qual scope f cdv A outer s H E).nox body (lS K ζ0 ws))
    (hp : ∀ ns ds Q', ds.length + 1 = n → wf ns ds Q' → ws (edP Q') (enS N ns ds)) : FnOk P w K mg base CX0 (k + 1) f fd ps (spS K n wf) := by
  refine F.ok S (fun vs H Q E h => ?_) (fun cdv A outer s H vs Q E hr h => ?_)
  · obtain ⟨a, ns, us, ds, I, Q', rfl, _, _, h6, h7, _⟩ := h
    rw [List.length_cons, dpa_len h6, h7, hn]
  · obtain ⟨a, ns, us, ds, I, Q', rfl, h1, h0, h2, h3, h4, h5⟩ := h
    refine ⟨lS K ζ0 ws, PSs.nox (hb cdv A outer s H E hr), ?_⟩
    have hpl : ps.length ≤ N.length := by have := congrArg List.length S.pre; rw [List.length_take] at this; omega
    have hl : us.length = ds.length := dpa_len h2
    have get_ : ∀ (i : Nat) (s : Sl), (enS N ns ds)[i]? = some s → (i = 0 ∧ s = .scr ns) ∨ (∃ d v, ds[i - 1]? = some d ∧ us[i - 1]? = some v ∧ Da K I v d ∧ s = .imm d ∧ 1 ≤ i ∧ (L2.start N (V.ref a :: us))[i]? = some (some v)) ∨ s = .un := fun i s hs => by
      unfold enS at hs
      cases i with
      | zero => exact Or.inl ⟨rfl, by simpa using hs.symm⟩
      | succ i =>
        rw [List.getElem?_cons_succ] at hs
        by_cases hi : i < ds.length
        · rw [List.getElem?_append_left (by rw [List.length_map]; exact hi), List.getElem?_map] at hs
          cases q : ds[i]? with
          | none => rw [q] at hs; cases hs
          | some d =>
            rw [q] at hs
            cases hs
            obtain ⟨v, hv, dv⟩ := dpa_get h2 q
            refine Or.inr (Or.inl ⟨d, v, q, hv, dv, rfl, by omega, ?_⟩)
            unfold L2.start
            rw [List.getElem?_append_left (by rw [List.length_map, List.length_cons, hl]; omega), List.getElem?_map, List.getElem?_cons_succ, hv]
            rfl
        · rw [List.getElem?_append_right (by rw [List.length_map]; omega), List.getElem?_replicate] at hs
          split at hs
          · cases hs; exact Or.inr (Or.inr rfl)
          · cases hs
    have s0 : (L2.start N (V.ref a :: us))[0]? = some (some (V.ref a)) := by unfold L2.start; simp
    have nown : ∀ (i : Nat) (l : Addr), ¬ OwnAt (L2.start N (V.ref a :: us)) (enS N ns ds) i l := fun i l ⟨q1, es, q2⟩ => by
      rcases get_ i _ q2 with ⟨e, e2⟩ | ⟨d, v, _, _, _, e, _⟩ | e
      · cases e2
      · cases e
      · cases e
    have o : Ok K ζ0 ⟨H, I, none, []⟩ (L2.start N (V.ref a :: us)) (enS N ns ds) H I := by
      refine ⟨Ex.rf I, h1, fun a _ h => h, fun a o h _ _ => h, ?_, fun i s hs => ?_, fun i l h => absurd h (nown i l), fun i j l h => absurd h (nown i l), fun l h => (by cases h), fun p hp => (by cases hp), fun p hp => (by cases hp), fun _ h => isTb_Nil h, Tabs_nil, fun _ _ _ _ _ => trivial⟩
      · unfold L2.start enS
        rw [List.length_append, List.length_map, List.length_replicate, List.length_cons, List.length_cons, List.length_append, List.length_map, List.length_replicate]
        omega
      · rcases get_ i s hs with ⟨e1, e2⟩ | ⟨d, v, q1, q2, q3, e, q4, q5⟩ | e
        · subst e1 e2
          exact ⟨a, s0, h0⟩
        · subst e
          exact ⟨v, q5, q3⟩
        · subst e; trivial
    have fin : ∀ {v σ' H' I' en' d}, Ok K ζ0 ⟨H, I, none, []⟩ σ' en' H' I' → Da K I' v d → Q' d → Q v H' := fun {v σ' H' I' en' d} o' dv q =>
      h5 v H' I' d ⟨fun a u q => o'.fr a u q (by simp) isTb0, o'.i0, o'.iH, fun a h1 h2 => by
        cases z : H a with
        | none => rfl
        | some u => exact absurd (o'.nw a (show H a ≠ none by rw [z]; simp) h2) h1⟩ dv q
    exact lS_mk o (hp ns ds Q' h3 h4) ⟨fun σ' H' I' en' o' q => fin o' .non q, fun v σ' H' I' en' d o' dv q => fin o' dv q, fun _ _ _ _ _ q => q.elim, fun _ _ _ _ _ q => q.elim⟩
/-- the law hands back True -/
def wfLaw (n : Nat) : WSc := fun ns ds Q => ds = [] ∧ ns.length ≤ n ∧ Q (.bool true)
end
end Pd

set_option Elab.async false
set_option linter.all false
set_option maxRecDepth 100000
set_option maxHeartbeats 4000000
namespace Pd
open PySem PySem.Spec PyProof.Rows L2
section
variable {K : PySem.W.Frag} {X : Cx}
def dIadd : D → D → D → Prop := dInt (fun _ _ => True) fun i j => .int (i + j)
/-- math.gcd by the module's name -/
theorem d_gcd {p pos : Pos} {x : Str} {e : Expr} {es : List Expr} {w : WA} (hm : X.mg x = some (.builtin "math.gcd")) (ha : PA X (e :: es) (lA X.K ζ w)) (hg : Gl X x := by rfl) (hdb : (x == ("__debug__" : Str)) = false := by decide)
    (he : starEach (e :: es) X.env = (false, eval e X.env) :: starEach es X.env := by rfl) (hpl : (backTo pos (starEach es X.env)).any (·.1) = false := by rfl) : PE X (.Call (.Name x p) (e :: es) [] pos) (lE X.K ζ (wCl dGcd w)) :=
  (pe_callBfun cr_gcd hg hm ha hdb he hpl).mo fun σ H Q q => lcl snd_gcd q
/-- a target takes a value -/
def wAsgT (w : WE) (g : WG) : WS := fun R en => w en fun d e1 => g d e1 R.nx
theorem s_asgT {st : Stmt} {is : List Nat} {w : WE} {g : WG} (h : PS X st (tAsg (lE X.K ζ w) (lG X.K ζ is g))) : PS X st (lS X.K ζ (wAsgT w g)) :=
  h.mo fun R σ H ⟨G, en, I, R', o, q, k⟩ => ⟨G, en, I, _, o, q, fun v H1 I1 e1 d o1 x1 dv q1 => ⟨G, e1, I1, d, R'.nx, o1, dv, q1, fun σ' H' I' en' o' x' l' k' q' => k.1 σ' H' I' en' o' q'⟩⟩
end
/-! ### readings of ints -/
theorem i_add {i j : Int} {z : D} : dAdd (.int i) (.int j) z ↔ z = .int (i + j) := Iff.rfl
theorem i_iadd {i j : Int} {z : D} : dIadd (.int i) (.int j) z ↔ z = .int (i + j) := ⟨fun ⟨_, _, rfl, rfl, _, h⟩ => h, fun h => ⟨_, _, rfl, rfl, trivial, h⟩⟩
theorem i_sub {i j : Int} {z : D} : dSub (.int i) (.int j) z ↔ z = .int (i - j) := ⟨fun ⟨_, _, rfl, rfl, _, h⟩ => h, fun h => ⟨_, _, rfl, rfl, trivial, h⟩⟩
theorem i_mul {i j : Int} {z : D} : dMul (.int i) (.int j) z ↔ MulOk i j ∧ z = .int (i * j) := by
  constructor
  · intro h
    rcases h with ⟨_, _, e1, e2, c, h⟩ | ⟨_, _, h, _⟩ | ⟨_, _, h, _⟩
    · cases e1; cases e2; exact ⟨c, h⟩
    · cases h
    · cases h
  · rintro ⟨c, h⟩
    exact Or.inl ⟨_, _, rfl, rfl, c, h⟩
theorem i_mod {i j : Int} {z : D} : dMod (.int i) (.int j) z ↔ 0 < j ∧ z = .int (i % j) := ⟨fun ⟨_, _, rfl, rfl, c, h⟩ => ⟨c, h⟩, fun ⟨c, h⟩ => ⟨_, _, rfl, rfl, c, h⟩⟩
theorem i_fdiv {i j : Int} {z : D} : dFdiv (.int i) (.int j) z ↔ CDivW i j ∧ z = .int (i / j) := ⟨fun ⟨_, _, rfl, rfl, c, h⟩ => ⟨c, h⟩, fun ⟨c, h⟩ => ⟨_, _, rfl, rfl, c, h⟩⟩
theorem i_pow {i j : Int} {z : D} : dPow (.int i) (.int j) z ↔ PowOk i j ∧ z = .int (i ^ j.toNat) := ⟨fun ⟨_, _, rfl, rfl, c, h⟩ => ⟨c, h⟩, fun ⟨c, h⟩ => ⟨_, _, rfl, rfl, c, h⟩⟩
theorem i_neg {i : Int} {z : D} : dNeg (.int i) z ↔ z = .int (-i) := ⟨fun ⟨_, rfl, h⟩ => h, fun h => ⟨_, rfl, h⟩⟩
theorem i_le {i j : Int} {z : D} : dLe (.int i) (.int j) z ↔ z = .bool (decide (i ≤ j)) := ⟨fun ⟨_, _, rfl, rfl, h⟩ => h, fun h => ⟨_, _, rfl, rfl, h⟩⟩
theorem i_ge {i j : Int} {z : D} : dGe (.int i) (.int j) z ↔ z = .bool (decide (j ≤ i)) := ⟨fun ⟨_, _, rfl, rfl, h⟩ => h, fun h => ⟨_, _, rfl, rfl, h⟩⟩
theorem i_gt {i j : Int} {z : D} : dGt (.int i) (.int j) z ↔ z = .bool (decide (j < i)) := ⟨fun ⟨_, _, rfl, rfl, h⟩ => h, fun h => ⟨_, _, rfl, rfl, h⟩⟩
theorem i_lt {i j : Int} {z : D} : dLt (.int i) (.int j) z ↔ z = .bool (decide (i < j)) := by
  constructor
  · intro h
    rcases h with ⟨_, _, e1, e2, h⟩ | ⟨_, _, e, _⟩
    · cases e1; cases e2; exact h
    · cases e
  · exact fun h => Or.inl ⟨_, _, rfl, rfl, h⟩
theorem ints_inj : ∀ {as bs : List Int}, as.map PyData.int = bs.map PyData.int → as = bs
  | [], [], _ => rfl
  | [], _ :: _, h => by cases h
  | _ :: _, [], h => by cases h
  | a :: as, b :: bs, h => by
    simp only [List.map_cons, List.cons.injEq, PyData.int.injEq] at h
    rw [h.1, ints_inj h.2]
theorem i_ltT {ns ms : List Int} {z : D} : dLt (.tuple (ns.map .int)) (.tuple (ms.map .int)) z ↔ z = .bool (HT.lexLt ns ms) := by
  constructor
  · intro h
    rcases h with ⟨_, _, e1, e2, h⟩ | ⟨ns', ms', e1, e2, h⟩
    · cases e1
    · simp only [PyData.tuple.injEq] at e1 e2
      rw [ints_inj e1, ints_inj e2]; exact h
  · exact fun h => Or.inr ⟨_, _, rfl, rfl, h⟩
theorem eqv_int {i j : Int} : PyData.eqv (.int i) (.int j) = decide (i = j) := by simp [PyData.eqv]; rfl
theorem i_eq {i j : Int} {z : D} : dEq (.int i) (.int j) z ↔ z = .bool (decide (i = j)) := by
  unfold dEq; rw [eqv_int]; exact ⟨fun h => h.2.2, fun h => ⟨rfl, rfl, h⟩⟩
theorem i_ne {i j : Int} {z : D} : dNe (.int i) (.int j) z ↔ z = .bool (decide (i ≠ j)) := by
  unfold dNe; rw [eqv_int, decide_not]; exact ⟨fun h => h.2.2, fun h => ⟨rfl, rfl, h⟩⟩
theorem i_intI {i : Int} {z : D} : dIntOf [.int i] z ↔ z = .int i := Iff.rfl
theorem i_intB {b : Bool} {z : D} : dIntOf [.bool b] z ↔ z = .int (if b then 1 else 0) := Iff.rfl
theorem i_abs {i : Int} {z : D} : dAbs [.int i] z ↔ z = .int (if i < 0 then -i else i) := ⟨fun ⟨_, e, h⟩ => by cases e; exact h, fun h => ⟨_, rfl, h⟩⟩
theorem i_max {i j : Int} {z : D} : dMax2 [.int i, .int j] z ↔ z = .int (if j > i then j else i) := ⟨fun ⟨_, _, e, h⟩ => by cases e; exact h, fun h => ⟨_, _, rfl, h⟩⟩
theorem i_min {i j : Int} {z : D} : dMin2 [.int i, .int j] z ↔ z = .int (if j < i then j else i) := ⟨fun ⟨_, _, e, h⟩ => by cases e; exact h, fun h => ⟨_, _, rfl, h⟩⟩
theorem i_lenL {xs : List D} {z : D} : dLen [.list xs] z ↔ z = .int xs.length := Iff.rfl
theorem i_lenT {xs : List D} {z : D} : dLen [.tuple xs] z ↔ z = .int xs.length := Iff.rfl
theorem i_ixL {xs : List D} {i : Int} {z : D} : dIx (.list xs) (.int i) z ↔ atI xs i = some z := Iff.rfl
theorem i_ixT {xs : List D} {i : Int} {z : D} : dIx (.tuple xs) (.int i) z ↔ atI xs i = some z := Iff.rfl
theorem i_tupL {xs : List D} {z : D} : dTupOf [.list xs] z ↔ z = .tuple xs := Iff.rfl
theorem i_tupT {xs : List D} {z : D} : dTupOf [.tuple xs] z ↔ z = .tuple xs := Iff.rfl
theorem i_truB {b c : Bool} : Tru (.bool b) c ↔ c = b := by unfold Tru; constructor <;> intro h <;> first | exact h | exact h.symm
end Pd

set_option Elab.async false
set_option linter.all false
set_option maxRecDepth 100000
set_option maxHeartbeats 4000000
namespace Pd
open PySem PySem.Spec PyProof.Rows L2
theorem small_l {i j : Int} (h : -(2 ^ 64) < i) (h2 : i < 2 ^ 64) : MulOk i j := Or.inl (Or.inl ⟨h, h2⟩)
theorem small_r {i j : Int} (h : -(2 ^ 64) < j) (h2 : j < 2 ^ 64) : MulOk i j := Or.inl (Or.inr ⟨h, h2⟩)
theorem pow_ok {i j : Int} (h : decide (0 ≤ j) && decide ((Builtin.Int.intBits i : Int) * j ≤ 2 ^ 27) = true) : PowOk i j := by
  simp only [Bool.and_eq_true, decide_eq_true_eq] at h
  exact h
theorem at0 {α : Type} {a : α} {l : List α} : atI (a :: l) 0 = some a := by
  unfold atI ixN; simp
theorem at_nat {α : Type} {l : List α} {i : Nat} (h : i < l.length) : atI l (i : Int) = some l[i] := by
  unfold atI ixN
  rw [if_pos (by omega), if_pos (by omega)]
  show l[(i : Int).toNat]? = _
  rw [show (i : Int).toNat = i by omega, List.getElem?_eq_getElem h]
theorem at_int {α : Type} {l : List α} {i : Int} (h0 : 0 ≤ i) (h : i < l.length) : ∃ x, atI l i = some x ∧ x ∈ l := by
  obtain ⟨k, rfl⟩ := Int.eq_ofNat_of_zero_le h0
  exact ⟨_, at_nat (by omega), List.getElem_mem _⟩
theorem at1 {α : Type} {a b : α} {l : List α} : atI (a :: b :: l) 1 = some b := at_nat (i := 1) (by simp)
theorem at2 {α : Type} {a b c : α} {l : List α} : atI (a :: b :: c :: l) 2 = some c := at_nat (i := 2) (by simp)
theorem ix30 : ixN 3 0 = some 0 := rfl
theorem ix32 : ixN 3 2 = some 2 := rfl
/-! ### comparisons of sequences of ints -/
theorem lay_ints : ∀ ls : List Int, PyData.canLayAll0 (ls.map .int) = true
  | [] => rfl
  | _ :: ls => lay_ints ls
theorem dep_ints : ∀ ls : List Int, PyData.depthAll (ls.map .int) = 0
  | [] => rfl
  | _ :: ls => by
    show max 0 (PyData.depthAll (ls.map .int)) = 0
    rw [dep_ints ls]; rfl
theorem shaped_tup (ls : List Int) : SeqAt.shaped (.tuple (ls.map .int)) = true := by
  show (PyData.canLayAll0 (ls.map .int) && decide (PyData.depthAll (ls.map .int) + 1 ≤ 64)) = true
  rw [lay_ints, dep_ints]; rfl
theorem eqv_ints : ∀ as bs : List Int, PyData.eqvAll (as.map .int) (bs.map .int) = decide (as = bs)
  | [], [] => rfl
  | [], _ :: _ => rfl
  | _ :: _, [] => rfl
  | a :: as, b :: bs => by
    show (PyData.eqv (.int a) (.int b) && PyData.eqvAll (as.map .int) (bs.map .int)) = _
    rw [eqv_int, eqv_ints as bs, ← Bool.decide_and]
    exact decide_eq_decide.mpr (by rw [List.cons.injEq])
theorem i_eqT {as bs : List Int} {z : D} : dEq (.tuple (as.map .int)) (.tuple (bs.map .int)) z ↔ z = .bool (decide (as = bs)) := by
  unfold dEq
  rw [show PyData.eqv (.tuple (as.map .int)) (.tuple (bs.map .int)) = decide (as = bs) from eqv_ints as bs]
  exact ⟨fun h => h.2.2, fun h => ⟨shaped_tup _, shaped_tup _, h⟩⟩
theorem i_neT {as bs : List Int} {z : D} : dNe (.tuple (as.map .int)) (.tuple (bs.map .int)) z ↔ z = .bool (decide (as ≠ bs)) := by
  unfold dNe
  rw [show PyData.eqv (.tuple (as.map .int)) (.tuple (bs.map .int)) = decide (as = bs) from eqv_ints as bs, decide_not]
  exact ⟨fun h => h.2.2, fun h => ⟨shaped_tup _, shaped_tup _, h⟩⟩
/-! ### comprehensions -/
theorem lc_pure {j : Nat} {f : D → D} {w : WE} {en : En} (hj : j ≠ 0) : ∀ {xs acc : List D} {Q : List D → En → Prop}, (∀ x ∈ xs, ∀ Q : D → En → Prop, Q (f x) (en.set j (.imm x)) → w (en.set j (.imm x)) Q) → Q (acc ++ xs.map f) (en.set j .un) → lcW (wgN j) wYes w [j] xs acc (en.set j .un) Q
  | [], acc, Q, _, q => by rw [List.map_nil, List.append_nil] at q; exact q
  | x :: xs, acc, Q, h, q => by
    refine ⟨Or.inl hj, ?_⟩
    show FreeS _ [j] ∧ _
    rw [List.set_set]
    refine ⟨fun v hv => Or.inl (by rw [List.mem_singleton] at hv; rw [hv]; exact hj), ?_⟩
    rw [if_pos rfl]
    refine h x List.mem_cons_self _ ⟨fun v hv => Or.inl (by rw [List.mem_singleton] at hv; rw [hv]; exact hj), ?_⟩
    show lcW _ _ _ _ _ _ ((en.set j (.imm x)).set j .un) _
    rw [List.set_set]
    refine lc_pure hj (fun y hy => h y (List.mem_cons_of_mem _ hy)) ?_
    rw [List.append_assoc]
    exact q
theorem bak_one {j : Nat} {en : En} : bak [j] en (en.set j .un) = en := by
  refine List.ext_getElem? fun i => ?_
  unfold bak
  rw [List.getElem?_map, List.length_set]
  by_cases hi : i < en.length
  · rw [List.getElem?_eq_getElem (by rw [List.length_range]; exact hi), List.getElem_range, List.getElem?_eq_getElem hi]
    show some (if i ∈ [j] then en.getD i .un else (en.set j .un).getD i .un) = _
    by_cases hm : i ∈ [j]
    · rw [if_pos hm, List.getD_eq_getElem?_getD, List.getElem?_eq_getElem hi]; rfl
    · rw [if_neg hm, List.getD_eq_getElem?_getD, List.getElem?_set_ne (fun e => hm (by rw [e]; exact List.mem_singleton.mpr rfl)), List.getElem?_eq_getElem hi]; rfl
  · rw [List.getElem?_eq_none (by rw [List.length_range]; omega), List.getElem?_eq_none (by omega)]; rfl
theorem free_one {j : Nat} {en : En} (hj : j ≠ 0) : FreeS en [j] := fun v hv => Or.inl (by rw [List.mem_singleton] at hv; rw [hv]; exact hj)
/-- a comprehension without a test over one name, of no change -/
theorem lc1 {wi : WA} {j : Nat} {f : D → D} {w : WE} {en e1 : En} {xs : List D} {Q : List D → En → Prop} (hj : j ≠ 0) (hi : ∀ Q : List D → En → Prop, Q xs e1 → wi en Q) (hn : NotOwn e1[j]?) (hl : xs.length ≤ sizeLine)
    (hw : ∀ x ∈ xs, ∀ Q : D → En → Prop, Q (f x) (e1.set j (.imm x)) → w (e1.set j (.imm x)) Q) (q : Q (xs.map f) e1) : wLc wi (wgN j) wYes w [j] en Q := by
  refine hi _ ⟨free_one hj, fun v hv => by rw [List.mem_singleton] at hv; rw [hv]; exact hn, hl, ?_⟩
  show lcW _ _ _ _ _ _ (e1.set j .un) _
  refine lc_pure hj hw ?_
  show Q ([] ++ xs.map f) (bak [j] e1 (e1.set j .un))
  rw [bak_one]; exact q
theorem log_lt {t : Int} (h0 : 0 < t) (h : t < 2 ^ 64) : t.natAbs.log2 < 9000 := by
  have h3 : t.natAbs.log2 < 64 := (Nat.log2_lt (by omega)).mpr (by omega)
  omega
end Pd

set_option Elab.async false
set_option linter.all false
set_option maxRecDepth 100000
set_option maxHeartbeats 4000000
namespace Pd
open PySem PySem.Spec PyProof.Rows L2
section
variable {K : PySem.W.Frag} {X : Cx} {e o : Expr} {w : WE}
/-! ### repr of a bool -/
/-! ### xs.pop(i), xs one's own -/
end
end Pd

set_option Elab.async false
set_option linter.all false
set_option maxRecDepth 100000
set_option maxHeartbeats 4000000
namespace Pd
open PySem PySem.Spec PyProof.Rows L2
/-! ### a head's facts, with the module's names of built-in functions -/
abbrev AlB : Type := He.AlD × Bool
def isBf (K : PySem.W.Frag) (b : Str × String) : Bool :=
  He.eqO (PySem.W.nsIn K mainGlobals b.1) (some (some (.builtin b.2)))
def obB (fa : List He.Fa) (fn : List He.DefD) (bs : List (Str × String)) (K : PySem.W.Frag) : AlB := ⟨He.obsD fa fn K, bs.all (isBf K)⟩
def SaysB (fa : List He.Fa) (fn : List He.DefD) (bs : List (Str × String)) (K : PySem.W.Frag) : Prop := obB fa fn bs K = ⟨He.valD fn, true⟩
section
variable {fa : List He.Fa} {fn : List He.DefD} {bs : List (Str × String)} {K : PySem.W.Frag} {h : Heap} {mg : Str → Option Value}
theorem SaysB.d (c : SaysB fa fn bs K) : He.SaysD fa fn K := congrArg Prod.fst c
theorem SaysB.bf (c : SaysB fa fn bs K) (X : K.In h) (G : h.Ns mainGlobals mg) (i : Nat) {b : Str × String} (e : bs[i]? = some b := by rfl) : mg b.1 = some (.builtin b.2) := by
  have q : bs.all (isBf K) = true := congrArg Prod.snd c
  exact PySem.W.mg_of X G (He.eqO_ok (List.all_eq_true.mp q b (List.mem_of_getElem? e)))
end
/-! ### // by any divisor but 0 -/
def CDivG (_ j : Int) : Prop := j ≠ 0 ∧ j.natAbs.log2 < 9000
theorem op_fdivG {X : Cx} : OpR X (binaryOp .FloorDiv) (rI CDivG fun i j => .int (i.fdiv j)) := opI fun i j _ _ _ _ _ hc q =>
  floordiv_int hc.1 q (.inl (PyProof.noPylong_of_log2 hc.2))
def dFdivG : D → D → D → Prop := dInt CDivG fun i j => .int (i.fdiv j)
theorem snd_fdivG {K : PySem.W.Frag} : SndOp K (rI CDivG fun i j => .int (i.fdiv j)) dFdivG := snd_int
theorem i_fdivG {i j : Int} {z : D} : dFdivG (.int i) (.int j) z ↔ CDivG i j ∧ z = .int (i.fdiv j) := ⟨fun ⟨_, _, rfl, rfl, c, h⟩ => ⟨c, h⟩, fun ⟨c, h⟩ => ⟨_, _, rfl, rfl, c, h⟩⟩
theorem divG {i t : Int} (h0 : 0 < t) (h : t.natAbs.log2 < 9000) : CDivG i t := ⟨by omega, h⟩
/-! ### a, b, c = a list -/
def wgLs (n : Nat) (r : WGs) : WG := fun d en Q => ∃ ds, d = .list ds ∧ ds.length = n ∧ r ds en Q
end Pd

set_option Elab.async false
set_option linter.all false
set_option maxRecDepth 100000
set_option maxHeartbeats 4000000
namespace Pd
open PySem PySem.Spec PyProof.Rows L2
/-! ### fractions -/
def BB : Nat := 2 ^ 4000
theorem bb_pos : 0 < BB := by unfold BB; exact Nat.pow_pos (by decide)
theorem bb_sq : BB * BB ≤ 2 ^ 9000 := by decide +kernel
theorem bb_le : BB ≤ BB * BB := Nat.le_mul_of_pos_left _ bb_pos
theorem log_bb {n : Nat} (h : n < BB * BB) : n.log2 < 9000 := by
  by_cases h0 : n = 0
  · rw [h0]; decide
  · exact (Nat.log2_lt h0).mpr (Nat.lt_of_lt_of_le h bb_sq)
theorem mul_bb {i j : Int} (h : i.natAbs < BB) (h2 : j.natAbs < BB) : MulOk i j := by
  have h3 := log_bb (Nat.lt_of_lt_of_le h bb_le)
  have h4 := log_bb (Nat.lt_of_lt_of_le h2 bb_le)
  refine Or.inr ?_
  show _ < 1000000
  omega
/-- a fraction, as the program has it -/
def fr (q : Rat) : D := .tuple [.int q.num, .int q.den]
/-- its parts are below b -/
def Sm (b : Nat) (q : Rat) : Prop := q.num.natAbs < b ∧ q.den < b
theorem gcd_pos {t b : Int} (hb : b ≠ 0) : 0 < Int.gcd t b := Int.gcd_pos_of_ne_zero_right t hb
theorem gcd_le {t b : Int} (hb : b ≠ 0) : Int.gcd t b ≤ b.natAbs := Nat.le_of_dvd (by omega) (Nat.gcd_dvd_right _ _)
theorem low_den {t b : Int} (hb : b ≠ 0) : ((Rat.divInt t b).den : Int) = (b.natAbs : Int) / (Int.gcd t b : Int) := by
  rw [Rat.den_divInt, if_neg hb, Int.gcd_comm]; rfl
theorem low_num {t b : Int} (hb : b ≠ 0) : (Rat.divInt t b).num = b.sign * t / (Int.gcd t b : Int) := by
  rw [Rat.num_divInt, Int.gcd_comm]
theorem low_pos {t b : Int} (hb : 0 < b) : .tuple [.int (t / (Int.gcd t b : Int)), .int (b / (Int.gcd t b : Int))] = fr (Rat.divInt t b) := by
  unfold fr
  rw [low_den (by omega), low_num (by omega), Int.sign_eq_one_of_pos hb, Int.one_mul, Int.natAbs_of_nonneg (by omega)]
theorem low_neg {t b : Int} (hb : b < 0) : .tuple [.int ((-t) / (Int.gcd t b : Int)), .int ((-b) / (Int.gcd t b : Int))] = fr (Rat.divInt t b) := by
  unfold fr
  rw [low_den (by omega), low_num (by omega), Int.sign_eq_neg_one_of_neg hb, Int.neg_mul, Int.one_mul, Int.ofNat_natAbs_of_nonpos (by omega)]
theorem fdiv_pos {a b : Int} (h : 0 < b) : a.fdiv b = a / b := Int.fdiv_eq_ediv_of_nonneg a (by omega)
theorem fdiv_neg' {a b : Int} (h : 0 < b) (hd : b ∣ a) : a.fdiv (-b) = (-a) / b := by
  rw [Int.fdiv_neg (by omega), if_pos hd, fdiv_pos h, Int.neg_ediv_of_dvd hd]
theorem gcd_dvd_l {t b : Int} : (Int.gcd t b : Int) ∣ t := Int.gcd_dvd_left t b
theorem gcd_dvd_r {t b : Int} : (Int.gcd t b : Int) ∣ b := Int.gcd_dvd_right t b
theorem fr_add (p q : Rat) : Rat.divInt (p.num * q.den + q.num * p.den) (p.den * q.den) = p + q := by
  have hp : (p.den : Int) ≠ 0 := by have := p.den_pos; omega
  have hq : (q.den : Int) ≠ 0 := by have := q.den_pos; omega
  conv => rhs; rw [← Rat.num_divInt_den p, ← Rat.num_divInt_den q]
  rw [Rat.divInt_add_divInt _ _ hp hq]
theorem fr_mul (p q : Rat) : Rat.divInt (p.num * q.num) (p.den * q.den) = p * q := by
  conv => rhs; rw [← Rat.num_divInt_den p, ← Rat.num_divInt_den q]
  rw [Rat.divInt_mul_divInt]
theorem num_le {t b : Int} : (Rat.divInt t b).num.natAbs ≤ t.natAbs := by
  by_cases hb : b = 0
  · subst hb; rw [Rat.divInt_zero]; exact Nat.zero_le _
  · rw [low_num hb]
    have h1 : (b.sign * t / (Int.gcd t b : Int)).natAbs ≤ (b.sign * t).natAbs := by
      rw [Int.natAbs_ediv_of_dvd (Int.dvd_mul_of_dvd_right gcd_dvd_l)]
      exact Nat.div_le_self _ _
    rw [Int.natAbs_mul] at h1
    have h2 : b.sign.natAbs = 1 := Int.natAbs_sign_of_ne_zero hb
    rw [h2, Nat.one_mul] at h1
    exact h1
theorem den_le {t b : Int} (hb : b ≠ 0) : (Rat.divInt t b).den ≤ b.natAbs := by
  rw [Rat.den_divInt, if_neg hb]
  exact Nat.div_le_self _ _
theorem Sm.up {q : Rat} {n b : Nat} (h : Sm n q) (hn : n ≤ b) : Sm b q := ⟨Nat.lt_of_lt_of_le h.1 hn, Nat.lt_of_lt_of_le h.2 hn⟩
theorem fr_inj {p q : Rat} (h : p.num = q.num) (h2 : (p.den : Int) = q.den) : p = q := Rat.ext h (by omega)
theorem fr_tup (q : Rat) : fr q = .tuple ([q.num, (q.den : Int)].map .int) := rfl
theorem i_neF {p q : Rat} {z : D} : dNe (fr p) (fr q) z ↔ z = .bool (decide (p ≠ q)) := by
  rw [fr_tup, fr_tup, i_neT]
  have e : ([p.num, (p.den : Int)] ≠ [q.num, (q.den : Int)]) = (p ≠ q) := propext ⟨fun h e => h (by rw [e]), fun h e => by
    simp only [List.cons.injEq, and_true] at e
    exact h (fr_inj e.1 e.2)⟩
  simp only [e]
theorem i_eqF {p q : Rat} {z : D} : dEq (fr p) (fr q) z ↔ z = .bool (decide (p = q)) := by
  rw [fr_tup, fr_tup, i_eqT]
  have e : ([p.num, (p.den : Int)] = [q.num, (q.den : Int)]) = (p = q) := propext ⟨fun e => by
    simp only [List.cons.injEq, and_true] at e
    exact fr_inj e.1 e.2, fun e => by rw [e]⟩
  simp only [e]
/-! ### any data beside itself -/
mutual
def plainD : D → Bool
  | .none | .bool _ | .int _ => true
  | .str _ => true
  | .list xs => plainA xs
  | .tuple xs => plainA xs
  | .dict _ => false
def plainA : List D → Bool
  | [] => true
  | x :: xs => plainD x && plainA xs
end
mutual
theorem eqv_rfl : ∀ d : D, plainD d = true → PyData.eqv d d = true
  | .none, _ => rfl
  | .bool b, _ => by show (b == b) = true; exact beq_self_eq_true b
  | .int i, _ => by show (i == i) = true; exact beq_self_eq_true i
  | .str x, _ => by show (x == x) = true; exact beq_self_eq_true x
  | .list xs, h => eqvA_rfl xs h
  | .tuple xs, h => eqvA_rfl xs h
  | .dict _, h => by cases h
theorem eqvA_rfl : ∀ ds : List D, plainA ds = true → PyData.eqvAll ds ds = true
  | [], _ => rfl
  | d :: ds, h => by
    have h' : (plainD d && plainA ds) = true := h
    rw [Bool.and_eq_true] at h'
    show (PyData.eqv d d && PyData.eqvAll ds ds) = true
    rw [eqv_rfl d h'.1, eqvA_rfl ds h'.2]; rfl
end
/-! ### small steps -/
theorem wSeq_eq {t u : WS} {R : Ed} {en : En} : wSeq t u R en = t { R with nx := u R } en := rfl
theorem no1 {en : En} {a : Nat} (h : NotOwn en[a]?) : ∀ v ∈ [a], NotOwn en[v]? := fun v hv => by
  rw [List.mem_singleton] at hv; rw [hv]; exact h
theorem no2 {en : En} {a b : Nat} (h : NotOwn en[a]?) (h2 : NotOwn en[b]?) : ∀ v ∈ [a, b], NotOwn en[v]? := fun v hv => by
  rcases List.mem_cons.mp hv with rfl | hv
  · exact h
  · exact no1 h2 v hv
theorem free_of {en : En} {vs : List Nat} (h : ∀ v ∈ vs, v ≠ 0) : FreeS en vs := fun v hv => Or.inl (h v hv)
/-! ### small sizes -/
theorem sz0 : (0 ≤ sizeLine) = True := eq_true (by decide)
theorem sz1 : (1 ≤ sizeLine) = True := eq_true (by decide)
theorem sz2 : (2 ≤ sizeLine) = True := eq_true (by decide)
theorem sz3 : (3 ≤ sizeLine) = True := eq_true (by decide)
theorem sz4 : (4 ≤ sizeLine) = True := eq_true (by decide)
theorem sz5 : (5 ≤ sizeLine) = True := eq_true (by decide)
theorem sz6 : (6 ≤ sizeLine) = True := eq_true (by decide)
theorem sz7 : (7 ≤ sizeLine) = True := eq_true (by decide)
theorem sz8 : (8 ≤ sizeLine) = True := eq_true (by decide)
theorem sz9 : (9 ≤ sizeLine) = True := eq_true (by decide)
theorem sz10 : (10 ≤ sizeLine) = True := eq_true (by decide)
theorem sz11 : (11 ≤ sizeLine) = True := eq_true (by decide)
theorem sz12 : (12 ≤ sizeLine) = True := eq_true (by decide)
theorem sz13 : (13 ≤ sizeLine) = True := eq_true (by decide)
theorem sz14 : (14 ≤ sizeLine) = True := eq_true (by decide)
theorem sz15 : (15 ≤ sizeLine) = True := eq_true (by decide)
theorem sz16 : (16 ≤ sizeLine) = True := eq_true (by decide)
theorem sz17 : (17 ≤ sizeLine) = True := eq_true (by decide)
theorem sz18 : (18 ≤ sizeLine) = True := eq_true (by decide)
theorem sz19 : (19 ≤ sizeLine) = True := eq_true (by decide)
theorem sz20 : (20 ≤ sizeLine) = True := eq_true (by decide)
theorem sz21 : (21 ≤ sizeLine) = True := eq_true (by decide)
theorem sz22 : (22 ≤ sizeLine) = True := eq_true (by decide)
theorem sz23 : (23 ≤ sizeLine) = True := eq_true (by decide)
theorem sz24 : (24 ≤ sizeLine) = True := eq_true (by decide)
theorem sz25 : (25 ≤ sizeLine) = True := eq_true (by decide)
theorem sz26 : (26 ≤ sizeLine) = True := eq_true (by decide)
theorem sz27 : (27 ≤ sizeLine) = True := eq_true (by decide)
theorem sz28 : (28 ≤ sizeLine) = True := eq_true (by decide)
theorem sz29 : (29 ≤ sizeLine) = True := eq_true (by decide)
theorem sz30 : (30 ≤ sizeLine) = True := eq_true (by decide)
theorem sz31 : (31 ≤ sizeLine) = True := eq_true (by decide)
theorem sz32 : (32 ≤ sizeLine) = True := eq_true (by decide)
theorem sz33 : (33 ≤ sizeLine) = True := eq_true (by decide)
theorem sz34 : (34 ≤ sizeLine) = True := eq_true (by decide)
theorem sz35 : (35 ≤ sizeLine) = True := eq_true (by decide)
theorem sz36 : (36 ≤ sizeLine) = True := eq_true (by decide)
theorem sz37 : (37 ≤ sizeLine) = True := eq_true (by decide)
theorem sz38 : (38 ≤ sizeLine) = True := eq_true (by decide)
theorem sz39 : (39 ≤ sizeLine) = True := eq_true (by decide)
theorem sz40 : (40 ≤ sizeLine) = True := eq_true (by decide)
theorem i_addL {xs ys : List D} {z : D} : dAdd (.list xs) (.list ys) z ↔ xs.length + ys.length ≤ sizeLine ∧ z = .list (xs ++ ys) := Iff.rfl
end Pd

set_option Elab.async false
set_option linter.all false
set_option maxRecDepth 100000
set_option maxHeartbeats 4000000
namespace Pd
open PySem PySem.Spec PyProof.Rows L2
theorem lc_gen {α : Type} {g : WG} {t : WT} {w : WE} {vs : List Nat} {W : En} {X f : α → D} {E : α → En} {c : α → Bool} (hv : ∀ v ∈ vs, v ≠ 0) (hE : ∀ x, wip vs (E x) = W) : ∀ {xs : List α} {acc : List D} {Q : List D → En → Prop},
    (∀ x ∈ xs, ∀ Q : En → Prop, Q (E x) → g (X x) W Q) → (∀ x ∈ xs, ∀ Q : Bool → En → Prop, Q (c x) (E x) → t (E x) Q) → (∀ x ∈ xs, c x = true → ∀ Q : D → En → Prop, Q (f x) (E x) → w (E x) Q) →
    Q (acc ++ (xs.filter c).map f) W → lcW g t w vs (xs.map X) acc W Q
  | [], acc, Q, _, _, _, q => by
    have q' : Q (acc ++ []) W := q
    rw [List.append_nil] at q'; exact q'
  | x :: xs, acc, Q, hg, ht, hw, q => by
    rw [List.map_cons]
    show g (X x) W _
    refine hg x List.mem_cons_self _ (ht x List.mem_cons_self _ ⟨free_of hv, ?_⟩)
    have next : ∀ acc, Q (acc ++ (xs.filter c).map f) W → lcW g t w vs (xs.map X) acc (wip vs (E x)) Q := fun acc q => by
      rw [hE]
      exact lc_gen hv hE (fun y hy => hg y (List.mem_cons_of_mem _ hy)) (fun y hy => ht y (List.mem_cons_of_mem _ hy)) (fun y hy => hw y (List.mem_cons_of_mem _ hy)) q
    cases hc : c x with
    | true =>
      rw [if_pos rfl]
      refine hw x List.mem_cons_self hc _ ⟨free_of hv, next _ ?_⟩
      rw [List.append_assoc]
      rw [List.filter_cons_of_pos hc, List.map_cons] at q
      exact q
    | false =>
      rw [if_neg (by decide)]
      refine next _ ?_
      rw [List.filter_cons_of_neg (by rw [hc]; decide)] at q
      exact q
theorem wip_len : ∀ (vs : List Nat) (e : En), (wip vs e).length = e.length
  | [], _ => rfl
  | v :: vs, e => by
    show ((wip vs e).set v .un).length = _
    rw [List.length_set, wip_len vs e]
theorem wip_out {i : Nat} : ∀ {vs : List Nat} {e : En}, i ∉ vs → (wip vs e)[i]? = e[i]?
  | [], _, _ => rfl
  | v :: vs, e, hi => by
    show ((wip vs e).set v .un)[i]? = _
    rw [List.getElem?_set_ne (fun h => hi (by rw [h]; exact List.mem_cons_self))]
    exact wip_out fun h => hi (List.mem_cons_of_mem _ h)
theorem bak_wip {vs : List Nat} {e : En} : bak vs e (wip vs e) = e := by
  refine List.ext_getElem? fun i => ?_
  unfold bak
  rw [List.getElem?_map, wip_len]
  by_cases hi : i < e.length
  · rw [List.getElem?_eq_getElem (by rw [List.length_range]; exact hi), List.getElem_range, List.getElem?_eq_getElem hi]
    show some (if i ∈ vs then e.getD i .un else (wip vs e).getD i .un) = _
    by_cases hm : i ∈ vs
    · rw [if_pos hm, List.getD_eq_getElem?_getD, List.getElem?_eq_getElem hi]; rfl
    · rw [if_neg hm, List.getD_eq_getElem?_getD, wip_out hm, List.getElem?_eq_getElem hi]; rfl
  · rw [List.getElem?_eq_none (by rw [List.length_range]; omega), List.getElem?_eq_none (by omega)]; rfl
/-- a comprehension that changes nothing: E x the slots at the turn x -/
theorem lcG {α : Type} {wi : WA} {g : WG} {t : WT} {w : WE} {vs : List Nat} {en e1 : En} {X f : α → D} (E : α → En) (c : α → Bool) {xs : List α} {Q : List D → En → Prop} (hv : ∀ v ∈ vs, v ≠ 0) (hi : ∀ Q : List D → En → Prop, Q (xs.map X) e1 → wi en Q)
    (hn : ∀ v ∈ vs, NotOwn e1[v]?) (hl : xs.length ≤ sizeLine) (hE : ∀ x, wip vs (E x) = wip vs e1) (hg : ∀ x ∈ xs, ∀ Q : En → Prop, Q (E x) → g (X x) (wip vs e1) Q) (ht : ∀ x ∈ xs, ∀ Q : Bool → En → Prop, Q (c x) (E x) → t (E x) Q)
    (hw : ∀ x ∈ xs, c x = true → ∀ Q : D → En → Prop, Q (f x) (E x) → w (E x) Q) (q : Q ((xs.filter c).map f) e1) : wLc wi g t w vs en Q := by
  refine hi _ ⟨free_of hv, hn, by rw [List.length_map]; exact hl, ?_⟩
  refine lc_gen hv hE hg ht hw ?_
  show Q ([] ++ (xs.filter c).map f) (bak vs e1 (wip vs e1))
  rw [bak_wip]
  exact q
theorem filter_all {α : Type} : ∀ xs : List α, xs.filter (fun _ => true) = xs
  | [] => rfl
  | x :: xs => by rw [List.filter_cons_of_pos rfl, filter_all xs]
/-- .. without a test -/
theorem lcY {α : Type} {wi : WA} {g : WG} {w : WE} {vs : List Nat} {en e1 : En} {X f : α → D} (E : α → En) {xs : List α} {Q : List D → En → Prop} (hv : ∀ v ∈ vs, v ≠ 0) (hi : ∀ Q : List D → En → Prop, Q (xs.map X) e1 → wi en Q)
    (hn : ∀ v ∈ vs, NotOwn e1[v]?) (hl : xs.length ≤ sizeLine) (hE : ∀ x, wip vs (E x) = wip vs e1) (hg : ∀ x ∈ xs, ∀ Q : En → Prop, Q (E x) → g (X x) (wip vs e1) Q)
    (hw : ∀ x ∈ xs, ∀ Q : D → En → Prop, Q (f x) (E x) → w (E x) Q) (q : Q (xs.map f) e1) : wLc wi g wYes w vs en Q :=
  lcG E (fun _ => true) hv hi hn hl hE hg (fun _ _ _ q => q) (fun x hx _ => hw x hx) (by rw [filter_all]; exact q)
end Pd

set_option Elab.async false
set_option linter.all false
set_option maxRecDepth 100000
set_option maxHeartbeats 4000000
namespace Pd
open PySem PySem.Spec PyProof.Rows L2
section
variable {K : PySem.W.Frag} {X : Cx} {e o : Expr} {w wb : WE}
/-! ### {} -/
/-! ### is of two bools -/
/-! ### xs.index(e), xs a list of flat items -/
def dIndex (xs : List D) (y : D) (j : Nat) : Prop := xs.all flatD = true ∧ flatD y = true ∧ (∃ z, xs[j]? = some z ∧ PyData.eqv z y = true) ∧ ∀ m z, m < j → xs[m]? = some z → PyData.eqv z y = false
def wIndex (wa wb : WE) : WE := fun en Q => wa en fun x e1 => (∃ xs, x = .list xs) ∧ wb e1 fun y e2 => ∃ xs j, x = .list xs ∧ dIndex xs y j ∧ Q (.int (j : Nat)) e2
theorem d_index {wa : WE} {p1 p2 : Pos} (pe : PE X (.Call (.Attribute o "index" p1) [e] [] p2) (tBM X.K "list" (rIndex X.K) (lE X.K ζ wa) (tCons (lE X.K ζ wb) tNil))) : PE X (.Call (.Attribute o "index" p1) [e] [] p2) (lE X.K ζ (wIndex wa wb)) :=
  pe.mo fun σ H Q ⟨G, en, I, Q', ok, q, k⟩ => ⟨G, en, I, _, ok, q, fun v H1 I1 e1 d o1 x1 dv ⟨⟨xs, hx⟩, q1⟩ => by
    subst hx
    cases dv with
    | lst hs ha =>
      rename_i l vs
      refine ⟨Or.inl ⟨rfl, _, SqL.of (o1.iH _ _ hs)⟩, G, e1, I1, _, o1, q1, fun u H2 I2 e2 y o2 x2 du ⟨ys, j, hy, ⟨f1, f2, ⟨z, hz, hzy⟩, hno⟩, q2⟩ => ?_⟩
      cases hy
      have ha2 := ha.up x2
      obtain ⟨vz, hvz, dz⟩ := dpa_get ha2 hz
      have fz : flatD z = true := List.all_eq_true.mp f1 z (List.mem_of_getElem? hz)
      refine ⟨l, vs, u, j, vz, rfl, rfl, SqL.of (o2.iH _ _ (x2 _ _ hs)), flat_da du f2, all_da ha2 f1, hvz, by rw [eqv_da dz du fz f2]; exact hzy, fun m z' hm hz' => ?_, k _ H2 I2 e2 _ o2 (x1.tr x2) (.int _) q2⟩
      obtain ⟨dm, hdm, hdz⟩ := dpa_get' ha2 hz'
      rw [eqv_da hdz du (List.all_eq_true.mp f1 dm (List.mem_of_getElem? hdm)) f2]
      exact hno m dm hm hdm⟩
/-! ### sorted(xs), xs a list of ints -/
/-! ### xs + e, xs one's own: a new list -/
variable {o' : Expr} {pos : Pos}
/-! ### xs.extend(e) -/
end
/-! ### a def that calls itself: the promise that is never asked -/
section
variable {P : Program} {w : World} {K : PySem.W.Frag} {mg : Str → Option Value} {base : Heap} {x qual : Str} {params : Arguments} {body : List Stmt} {scope : Scope} {f : Addr} {fd : FuncData} {N ps : List Str}
end
end Pd

set_option Elab.async false
set_option linter.all false
set_option maxRecDepth 100000
set_option maxHeartbeats 4000000
/-! sorted(xs), xs tuples of ints of any lengths, also () among them -/
namespace Pd
open PySem PySem.W PySem.Calls PyProof.Rows
section
variable {prog : Program} {w : World} {A : Around} {E : Value → Shared → Prop} {s : Shared}
/-- each of the values is a tuple of ints -/
def RowsIn (h : Heap) (vs : List Value) : Prop := ∀ u ∈ vs, ∃ ks, TS.TupInts h u ks
theorem RowsIn.keeps {h h' : Heap} {vs : List Value} (x : RowsIn h vs) (k : ∀ b o, h.get? b = some o → o.cls = .type "tuple" → h'.get? b = some o) : RowsIn h' vs := fun u hu => by
  obtain ⟨ks, t⟩ := x u hu; exact ⟨ks, t.keeps k⟩
end
end Pd

set_option Elab.async false
set_option linter.all false
set_option maxRecDepth 100000
set_option maxHeartbeats 4000000
namespace Pd
open PySem PySem.Spec PyProof.Rows L2
/-! ### sorted(xs), xs a list of rows -/
section
variable {X : Cx}
end
/-! ### over data -/
def rowD (ns : List Int) : D := .tuple (ns.map .int)
section
variable {K : PySem.W.Frag}
end
section
variable {X : Cx} {e : Expr} {w : WE}
/-- ascending, equal ones beside one another -/
def AscR (rs : List (List Int)) : Prop := rs.Pairwise fun a b => HT.lexLt b a = false
end
end Pd

set_option Elab.async false
set_option linter.all false
set_option maxRecDepth 100000
set_option maxHeartbeats 4000000
namespace Pd
open PySem PySem.Spec PyProof.Rows L2
/-! ### sorted(set(xs)), xs a list of rows -/
section
variable {P : Program} {w : World} {A : Around} {E : Value → Shared → Prop} {s : Shared}
end
section
variable {X : Cx}
end
/-- strictly ascending -/
def AscS (rs : List (List Int)) : Prop := rs.Pairwise fun a b => HT.lexLt a b = true
section
variable {X : Cx} {e : Expr} {w : WE}
end
end Pd

set_option Elab.async false
set_option linter.all false
set_option maxRecDepth 100000
set_option maxHeartbeats 4000000
namespace Pd
open PySem PySem.Spec PyProof.Rows L2
/-! ### sorted(t), t a tuple of ints -/
section
variable {prog : Program} {w : World} {A : Around} {E : Value → Shared → Prop} {s : Shared}
end
section
variable {X : Cx}
/-! ### sorted(x): ints of a list or a tuple, rows of a list -/
variable {e : Expr} {w : WE}
/-! ### list(range(..)), tuple(range(..)) -/
variable {a b : Expr} {wa wb : WE} {p p' pos pos' : Pos}
/-! ### t.index(x), t a tuple of flat data -/
end
end Pd

set_option Elab.async false
set_option linter.all false
set_option maxRecDepth 100000
set_option maxHeartbeats 4000000
namespace Pd
open PySem PySem.Spec PyProof.Rows L2
/-! ### set(t), t a tuple of rows -/
section
variable {P : Program} {w : World} {A : Around} {E : Value → Shared → Prop} {s : Shared}
end
section
variable {X : Cx}
end
end Pd

set_option Elab.async false
set_option linter.all false
set_option maxRecDepth 100000
set_option maxHeartbeats 4000000
namespace Pd
open PySem PySem.Spec PyProof.Rows L2
section
variable {X : Cx} {e : Expr} {w : WE}
end
end Pd

set_option Elab.async false
set_option linter.all false
set_option maxRecDepth 100000
set_option maxHeartbeats 4000000
namespace Pd
open PySem PySem.Spec PyProof.Rows L2
/-! ### t[::-1], t a tuple -/
section
variable {prog : Program} {w : World} {A : Around} {E : Value → Shared → Prop} {s : Shared}
end
section
variable {X : Cx} {a : Expr} {wa : WE}
/-! ### str(i) -/
end
end Pd

set_option Elab.async false
set_option linter.all false
set_option maxRecDepth 100000
set_option maxHeartbeats 4000000
namespace Pd
open PySem PySem.Spec PyProof.Rows L2
/-! ### values told by data, one to one -/
structure Enc {α : Type} [DecidableEq α] (f : α → D) (n : Nat) : Prop where
  eqv : ∀ a b, PyData.eqv (f a) (f b) = decide (a = b)
  lay : ∀ a, PyData.canLay0 (f a) = true
  dep : ∀ a, PyData.depth (f a) ≤ n
section
variable {α : Type} [DecidableEq α] {f : α → D} {n : Nat}
theorem Enc.eqvs (h : Enc f n) : ∀ as bs : List α, PyData.eqvAll (as.map f) (bs.map f) = decide (as = bs)
  | [], [] => rfl
  | [], _ :: _ => rfl
  | _ :: _, [] => rfl
  | a :: as, b :: bs => by
    show (PyData.eqv (f a) (f b) && PyData.eqvAll (as.map f) (bs.map f)) = _
    rw [h.eqv, h.eqvs as bs, ← Bool.decide_and]
    exact decide_eq_decide.mpr (by rw [List.cons.injEq])
theorem Enc.lays (h : Enc f n) : ∀ as : List α, PyData.canLayAll0 (as.map f) = true
  | [] => rfl
  | a :: as => by
    show (PyData.canLay0 (f a) && PyData.canLayAll0 (as.map f)) = true
    rw [h.lay, h.lays as]; rfl
theorem Enc.deps (h : Enc f n) : ∀ as : List α, PyData.depthAll (as.map f) ≤ n
  | [] => Nat.zero_le _
  | a :: as => by
    show max (PyData.depth (f a)) (PyData.depthAll (as.map f)) ≤ n
    have := h.dep a
    have := h.deps as
    omega
theorem Enc.tup (h : Enc f n) : Enc (fun as : List α => .tuple (as.map f)) (n + 1) := ⟨h.eqvs, h.lays, fun as => Nat.succ_le_succ (h.deps as)⟩
theorem Enc.lst (h : Enc f n) : Enc (fun as : List α => .list (as.map f)) (n + 1) := ⟨h.eqvs, h.lays, fun as => Nat.succ_le_succ (h.deps as)⟩
theorem Enc.shaped (h : Enc f n) (hn : n ≤ 64) (a : α) : SeqAt.shaped (f a) = true := by
  show (PyData.canLay0 (f a) && decide (PyData.depth (f a) ≤ 64)) = true
  rw [h.lay, decide_eq_true (Nat.le_trans (h.dep a) hn)]; rfl
theorem Enc.eq (h : Enc f n) (hn : n ≤ 64) {a b : α} {z : D} : dEq (f a) (f b) z ↔ z = .bool (decide (a = b)) := by
  unfold dEq
  rw [h.eqv]
  exact ⟨fun q => q.2.2, fun q => ⟨h.shaped hn a, h.shaped hn b, q⟩⟩
theorem Enc.ne (h : Enc f n) (hn : n ≤ 64) {a b : α} {z : D} : dNe (f a) (f b) z ↔ z = .bool (decide (a ≠ b)) := by
  unfold dNe
  rw [h.eqv, decide_not]
  exact ⟨fun q => q.2.2, fun q => ⟨h.shaped hn a, h.shaped hn b, q⟩⟩
end
theorem encI : Enc PyData.int 0 := ⟨fun _ _ => eqv_int, fun _ => rfl, fun _ => Nat.le_refl _⟩
theorem encR : Enc rowD 1 := encI.tup
theorem encRl : Enc (fun rs : List (List Int) => .list (rs.map rowD)) 2 := encR.lst
/-! ### all, any of what a list tells -/
theorem bools_inj : ∀ {as bs : List Bool}, as.map PyData.bool = bs.map PyData.bool → as = bs
  | [], [], _ => rfl
  | [], _ :: _, h => by cases h
  | _ :: _, [], h => by cases h
  | a :: as, b :: bs, h => by
    simp only [List.map_cons, List.cons.injEq, PyData.bool.injEq] at h
    rw [h.1, bools_inj h.2]
theorem all_map {α : Type} {xs : List α} {f : α → Bool} {z : D} : dAll [.list (xs.map fun x => .bool (f x))] z ↔ z = .bool (xs.all f) := by
  constructor
  · rintro ⟨bs, h, rfl⟩
    have h1 : (xs.map f).map PyData.bool = bs.map .bool := by
      injection h with h _
      injection h with h
      rw [List.map_map]; exact h
    rw [← bools_inj h1, List.all_map]; rfl
  · rintro rfl
    exact ⟨xs.map f, by rw [List.map_map]; rfl, by rw [List.all_map]; rfl⟩
theorem any_map {α : Type} {xs : List α} {f : α → Bool} {z : D} : dAny [.list (xs.map fun x => .bool (f x))] z ↔ z = .bool (xs.any f) := by
  constructor
  · rintro ⟨bs, h, rfl⟩
    have h1 : (xs.map f).map PyData.bool = bs.map .bool := by
      injection h with h _
      injection h with h
      rw [List.map_map]; exact h
    rw [← bools_inj h1, List.any_map]; rfl
  · rintro rfl
    exact ⟨xs.map f, by rw [List.map_map]; rfl, by rw [List.any_map]; rfl⟩
/-! ### slices -/
theorem cut_from {α : Type} {xs : List α} {k : Nat} : cutA xs (some (k : Int)) none = xs.drop k := by
  unfold cutA
  rw [HT.sIx_none, HT.sIx_nat]
  by_cases h : k ≤ xs.length
  · rw [Nat.min_eq_left h]
    exact List.take_of_length_le (by rw [List.length_drop]; omega)
  · rw [Nat.min_eq_right (by omega), List.drop_length, List.drop_of_length_le (by omega)]
    exact List.take_nil
/-! ### neighbours -/
theorem adj {α : Type} {R : α → α → Bool} (tr : ∀ a b c, R a b = true → R b c = true → R a c = true) : ∀ l : List α, ((l.zip (l.drop 1)).all fun p => R p.1 p.2) = true ↔ l.Pairwise fun a b => R a b = true
  | [] => by simp
  | [a] => by simp
  | a :: b :: l => by
    have ih := adj tr (b :: l)
    have e : ((a :: b :: l).zip ((a :: b :: l).drop 1)) = (a, b) :: ((b :: l).zip ((b :: l).drop 1)) := rfl
    rw [e, List.all_cons, Bool.and_eq_true, ih]
    constructor
    · rintro ⟨h, p⟩
      refine List.pairwise_cons.mpr ⟨fun c hc => ?_, p⟩
      rcases List.mem_cons.mp hc with rfl | hc
      · exact h
      · exact tr a b c h ((List.pairwise_cons.mp p).1 c hc)
    · intro q
      obtain ⟨h, p⟩ := List.pairwise_cons.mp q
      exact ⟨h b List.mem_cons_self, p⟩
theorem lex_trans' {a b c : List Int} (h1 : HT.lexLt a b = true) (h2 : HT.lexLt b c = true) : HT.lexLt a c = true := (NtL.swo_lexL (fun x : List Int => x)).ltle (x := a) (y := b) (z := c) h1 (NtL.lex_asym _ _ h2)
theorem zip_map2 {α : Type} {f : α → D} : ∀ (as bs : List α), zipD (as.map f) (bs.map f) = (as.zip bs).map fun p => .tuple [f p.1, f p.2]
  | [], bs => by cases bs <;> rfl
  | _ :: _, [] => rfl
  | a :: as, b :: bs => by
    show PyData.tuple [f a, f b] :: zipD (as.map f) (bs.map f) = _
    rw [zip_map2 as bs]; rfl
end Pd

set_option Elab.async false
set_option linter.all false
set_option maxRecDepth 100000
set_option maxHeartbeats 4000000
namespace Pd
open PySem PySem.Spec PyProof.Rows L2
/-! ### comprehensions that draw from the jug -/
abbrev jl (g m c : Int) : List D := [.int g, .int m, .int c]
end Pd

set_option Elab.async false
set_option linter.all false
set_option maxRecDepth 100000
set_option maxHeartbeats 4000000
namespace Pd
open PySem PySem.Spec PyProof.Rows L2
/-! ### lists of one's own as arguments: lent for the call -/
/-- data, or the slot of a list of one's own -/
inductive Arg where
  | d (x : D)
  | o (j : Nat)
inductive DB (K : PySem.W.Frag) (I : Hp) (σ : Sg) : List V → List Arg → Prop
  | nil : DB K I σ [] []
  | d {v : V} {x : D} {vs : List V} {as : List Arg} : Da K I v x → DB K I σ vs as → DB K I σ (v :: vs) (.d x :: as)
  | o {v : V} {j : Nat} {vs : List V} {as : List Arg} : σ[j]? = some (some v) → DB K I σ vs as → DB K I σ (v :: vs) (.o j :: as)
abbrev WB := En → (List Arg → En → Prop) → Prop
def lB (K : PySem.W.Frag) (ζ : Zt) (w : WB) : TA := fun σ H Q => ∃ (G : Gh) (en : En) (I : Hp) (Q' : List Arg → En → Prop), Ok K ζ G σ en H I ∧ w en Q' ∧
  ∀ vs H' I' en' as, Ok K ζ G σ en' H' I' → Ex I I' → DB K I' σ vs as → Q' as en' → Q vs H'
def wBNil : WB := fun en Q => Q [] en
def wBCons (w : WE) (r : WB) : WB := fun en Q => w en fun d e1 => r e1 fun as e2 => Q (.d d :: as) e2
def wBOwn (j : Nat) (r : WB) : WB := fun en Q => (∃ xs, en[j]? = some (.own xs)) ∧ r en fun as e2 => Q (.o j :: as) e2
section
variable {X : Cx} {e : Expr} {es : List Expr}
theorem b_nil : PA X [] (lB X.K ζ wBNil) := pa_nil.mo fun σ H Q ⟨G, en, I, Q', o, q, k⟩ => k [] H I en [] o (Ex.rf I) .nil q
theorem b_cons {w : WE} {r : WB} (ha : PE X e (lE X.K ζ w)) (hr : PA X es (lB X.K ζ r)) (hs : starEach (e :: es) X.env = (false, eval e X.env) :: starEach es X.env := by rfl) : PA X (e :: es) (lB X.K ζ (wBCons w r)) :=
  (pa_cons ha hr hs).mo fun σ H Q ⟨G, en, I, Q', o, q, k⟩ => ⟨G, en, I, _, o, q, fun v H1 I1 e1 d o1 x1 dv q1 => ⟨G, e1, I1, _, o1, q1, fun vs H2 I2 e2 as o2 x2 dvs q2 => k (v :: vs) H2 I2 e2 (.d d :: as) o2 (x1.tr x2) (.d (dv.up x2) dvs) q2⟩⟩
theorem b_own {j : Nat} {r : WB} (ha : PE X e (tVar j)) (hr : PA X es (lB X.K ζ r)) (hs : starEach (e :: es) X.env = (false, eval e X.env) :: starEach es X.env := by rfl) : PA X (e :: es) (lB X.K ζ (wBOwn j r)) :=
  (pa_cons ha hr hs).mo fun σ H Q ⟨G, en, I, Q', o, ⟨⟨xs, hx⟩, q⟩, k⟩ => by
    obtain ⟨l, _, hl, _⟩ := o.own hx
    exact ⟨.ref l, hl, G, en, I, _, o, q, fun vs H2 I2 e2 as o2 x2 dvs q2 => k (.ref l :: vs) H2 I2 e2 (.o j :: as) o2 x2 (.o hl dvs) q2⟩
end
mutual
def noL : D → Bool
  | .list _ => false
  | .tuple xs => noLs xs
  | .dict (_ :: _) => false
  | _ => true
def noLs : List D → Bool
  | [] => true
  | x :: xs => noL x && noLs xs
end
section
variable {K : PySem.W.Frag} {I' I2 : Hp}
mutual
theorem da_thaw (e : ∀ b o, I' b = some o → (∀ ys, o ≠ .lst ys) → I2 b = some o) : ∀ (d : D) (v : V), noL d = true → Da K I' v d → Da K I2 v d
  | .none, _, _, h => by cases h; exact .non
  | .bool b, _, _, h => by cases h; exact .bl b
  | .int i, _, _, h => by cases h; exact .int i
  | .str x, _, _, h => by cases h; exact .str x
  | .list ds, _, c, _ => by cases c
  | .tuple ds, _, c, h => by
    cases h with
    | tup hs ha =>
      refine .tup ?_ (daa_thaw e ds _ c ha)
      rcases hs with (hs | ⟨o, hs⟩) | hs
      · exact Or.inl (Or.inl (e _ _ hs fun _ z => by cases z))
      · exact Or.inl (Or.inr ⟨o, e _ _ hs fun _ z => by cases z⟩)
      · exact Or.inr hs
  | .dict _, _, c, h => by
    cases h with
    | dic h => exact .dic (e _ _ h fun _ z => by cases z)
    | dic1 h => cases c
    | obj _ h _ _ => cases c
theorem daa_thaw (e : ∀ b o, I' b = some o → (∀ ys, o ≠ .lst ys) → I2 b = some o) : ∀ (ds : List D) (vs : List V), noLs ds = true → DaAll K I' vs ds → DaAll K I2 vs ds
  | [], _, _, h => by cases h; exact .nil
  | d :: ds, _, c, h => by
    have c' : (noL d && noLs ds) = true := c
    rw [Bool.and_eq_true] at c'
    cases h with
    | cons h1 h2 => exact .cons (da_thaw e d _ c'.1 h1) (daa_thaw e ds _ c'.2 h2)
end
end
/-- the address of a list of one's own, but that at the slot i0 -/
def OwnBut (σ : Sg) (en : En) (i0 : Option Nat) (a : Addr) : Prop := ∃ i, i0 ≠ some i ∧ OwnAt σ en i a
open Classical in
noncomputable def lent (σ : Sg) (en : En) (H I : Hp) (i0 : Option Nat) : Hp := fun a => if OwnBut σ en i0 a then H a else I a
open Classical in
noncomputable def thaw (σ : Sg) (en : En) (I' : Hp) (i0 : Option Nat) : Hp := fun a => if OwnBut σ en i0 a then none else I' a
section
variable {K : PySem.W.Frag} {G : Gh} {σ : Sg} {en : En} {H I H' I' : Hp} {i0 : Option Nat}
theorem own_at (o : Ok K ζ G σ en H I) {i : Nat} {a : Addr} (h : OwnAt σ en i a) : ∃ vs, I a = none ∧ H a = some (.lst vs) := by
  obtain ⟨h1, ds, h2⟩ := h
  obtain ⟨l, vs, r1, r2, r3, _⟩ := o.own h2
  rw [h1] at r1
  injection r1 with r1
  injection r1 with r1
  injection r1 with r1
  subst r1
  exact ⟨vs, r2, r3⟩
theorem lent_up (o : Ok K ζ G σ en H I) : Ex I (lent σ en H I i0) := fun a u h => by
  have hno : ¬ OwnBut σ en i0 a := fun ⟨i, _, hi⟩ => by
    obtain ⟨vs, h1, _⟩ := own_at o hi
    rw [h1] at h; cases h
  unfold lent
  rw [if_neg hno]
  exact h
theorem lent_in (o : Ok K ζ G σ en H I) : Ex (lent σ en H I i0) H := fun a u h => by
  unfold lent at h
  split at h
  · exact h
  · exact o.iH a u h
theorem thaw_up (o : Ok K ζ G σ en H I) (e : Ex (lent σ en H I i0) I') : Ex I (thaw σ en I' i0) := fun a u h => by
  have h1 := e a u (lent_up o a u h)
  have hno : ¬ OwnBut σ en i0 a := fun ⟨i, _, hi⟩ => by
    obtain ⟨vs, h2, _⟩ := own_at o hi
    rw [h2] at h; cases h
  unfold thaw
  rw [if_neg hno]
  exact h1
theorem thaw_in (e : Ex I' H') : Ex (thaw σ en I' i0) H' := fun a u h => by
  unfold thaw at h
  split at h
  · cases h
  · exact e a u h
theorem thaw_n (n : ∀ a, I' a ≠ none → lent σ en H I i0 a = none → H a = none) : ∀ a, thaw σ en I' i0 a ≠ none → I a = none → H a = none := fun a h1 h2 => by
  unfold thaw at h1
  split at h1
  · exact absurd rfl h1
  · rename_i hn
    refine n a h1 ?_
    unfold lent
    rw [if_neg hn]; exact h2
theorem thaw_e (o : Ok K ζ G σ en H I) (e : Ex (lent σ en H I i0) I') : ∀ b u, I' b = some u → (∀ ys, u ≠ .lst ys) → thaw σ en I' i0 b = some u := fun b u h hn => by
  have hno : ¬ OwnBut σ en i0 b := fun z => by
    obtain ⟨i, hi0, hi⟩ := z
    obtain ⟨vs, h1, h2⟩ := own_at o hi
    have h3 : lent σ en H I i0 b = some (.lst vs) := by
      unfold lent
      rw [if_pos ⟨i, hi0, hi⟩]; exact h2
    rw [e b _ h3] at h
    injection h with h
    exact hn vs h.symm
  unfold thaw
  rw [if_neg hno]
  exact h
/-- the arguments, told by data -/
def rsvP (en : En) : List Arg → (List D → Prop) → Prop
  | [], P => P []
  | .d x :: as, P => rsvP en as fun ds => P (x :: ds)
  | .o j :: as, P => ∃ xs, en[j]? = some (.own xs) ∧ rsvP en as fun ds => P (.list xs :: ds)
def rsvJ (i : Nat) (en : En) : List Arg → (List D → Prop) → Prop
  | [], P => P []
  | .d x :: as, P => rsvJ i en as fun ds => P (x :: ds)
  | .o j :: as, P => j ≠ i ∧ ∃ xs, en[j]? = some (.own xs) ∧ rsvJ i en as fun ds => P (.list xs :: ds)
theorem lent_da (o : Ok K ζ G σ en H I) {j : Nat} {v : V} {xs : List D} (hj : i0 ≠ some j) (h : σ[j]? = some (some v)) (h2 : en[j]? = some (.own xs)) : Da K (lent σ en H I i0) v (.list xs) := by
  obtain ⟨l, vs, r1, r2, r3, r4⟩ := o.own h2
  rw [h] at r1
  injection r1 with r1
  injection r1 with r1
  subst r1
  refine .lst ?_ (r4.up (lent_up o))
  unfold lent
  rw [if_pos ⟨j, hj, h, xs, h2⟩]; exact r3
theorem rsvP_ok (o : Ok K ζ G σ en H I) : ∀ {as : List Arg} {vs : List V} {P : List D → Prop}, DB K I σ vs as → rsvP en as P → ∃ ds, DaAll K (lent σ en H I none) vs ds ∧ P ds
  | [], _, _, .nil, h => ⟨[], .nil, h⟩
  | .d x :: as, _, _, .d hv hs, h => by
    obtain ⟨ds, h1, h2⟩ := rsvP_ok o hs h
    exact ⟨_, .cons (hv.up (lent_up o)) h1, h2⟩
  | .o j :: as, _, _, .o hv hs, ⟨xs, hx, h⟩ => by
    obtain ⟨ds, h1, h2⟩ := rsvP_ok o hs h
    exact ⟨_, .cons (lent_da o (by intro z; cases z) hv hx) h1, h2⟩
end
def wFnB (n : Nat) (wf : WF) (w : WB) : WE := fun en Q => w en fun as e1 => rsvP e1 as fun ds => ds.length = n ∧ wf ds fun d => noL d = true ∧ Q d e1
def wFnJB (i n : Nat) (wf : WJ) (w : WB) : WE := fun en Q => (∃ dj, en[i]? = some (.own dj)) ∧ w en fun as e1 => rsvJ i e1 as fun ds => ds.length + 1 = n ∧ ∃ dj, e1[i]? = some (.own dj) ∧ wf dj ds fun d dj' => noL d = true ∧ noLs dj' = true ∧ Q d (e1.set i (.own dj'))
section
variable {X : Cx} {e : Expr} {es : List Expr} {pos p : Pos} {x : Str} {k n : Nat} {ps : List Str}
theorem c_callB {wf : WF} {w : WB} (C : Cal X.prog X.w X.K X.mg X.base k x ps (spP X.K n wf)) (hr : Room k X.A) (ha : PA X (e :: es) (lB X.K ζ w)) (hg : Gl X x := by rfl)
    (hdb : (x == ("__debug__" : Str)) = false := by decide) (he : starEach (e :: es) X.env = (false, eval e X.env) :: starEach es X.env := by rfl) (hpl : (backTo pos (starEach es X.env)).any (·.1) = false := by rfl) :
    PE X (.Call (.Name x p) (e :: es) [] pos) (lE X.K ζ (wFnB n wf w)) := by
  obtain ⟨f, fd, F, hm, hk, hb⟩ := C
  exact (pe_call F hr hg hm hk hb .nil pass0 ha hdb he hpl).mo fun σ H Q ⟨G, en, I, Q', o, q, k⟩ => ⟨G, en, I, _, o, q, fun vs H1 I1 e1 as o1 x1 dvs q1 => by
    obtain ⟨ds, d1, hn, q2⟩ := rsvP_ok o1 dvs q1
    refine ⟨lent σ e1 H1 I1 none, ds, _, lent_in o1, by rw [List.append_nil]; exact d1, hn, q2, fun v H2 I2 d g dv ⟨q3, q4⟩ => ?_⟩
    exact k v H2 (thaw σ e1 I2 none) e1 d (o1.grow g.h (thaw_up o1 g.i) (thaw_in g.s) (thaw_n g.n)) (x1.tr (thaw_up o1 g.i)) (da_thaw (thaw_e o1 g.i) d v q3 dv) q4⟩
end
end Pd

set_option Elab.async false
set_option linter.all false
set_option maxRecDepth 100000
set_option maxHeartbeats 4000000
namespace Pd
open PySem PySem.Spec PyProof.Rows L2
/-! ### zip of a list with a tuple -/
section
variable {K : PySem.W.Frag} {X : Cx} {a b : Expr} {elts : List Expr} {kk : Nat} {pos p tpos : Pos} {w : WA}
/-- zip(a list, a tuple) -/
def wZipM (w : WA) : WA := fun en Q => w en fun ds e1 => ∃ xs ys, ds = [.list xs, .tuple ys] ∧ Q (zipD xs ys) e1
end
end Pd

set_option Elab.async false
set_option linter.all false
set_option maxRecDepth 100000
set_option maxHeartbeats 4000000
namespace Pd
open PySem PySem.Spec PyProof.Rows L2
/-! ### any(t), t a tuple of ints -/
section
variable {X : Cx}
end
/-! ### a comprehension without a test that draws each item -/
end Pd

set_option Elab.async false
set_option linter.all false
set_option maxRecDepth 100000
set_option maxHeartbeats 4000000
namespace Pd
open PySem PySem.Spec PyProof.Rows L2
/-! ### comprehensions of two fors -/
section
variable {X : Cx} {elt tg iter tg1 iter1 : Expr} {ifs ifs1 : List Expr} {scope : Scope} {own : List (Str × Nat)} {vs1 : List Nat} {pos : Pos} {wi wi1 : WA} {is is1 : List Nat} {g g1 : WG} {t t1 : WT} {w : WE}
variable {i : Nat} {y : Str} {py spos : Pos}
end
end Pd

set_option Elab.async false
set_option linter.all false
set_option maxRecDepth 100000
set_option maxHeartbeats 4000000
namespace Pd
open PySem PySem.Spec PyProof.Rows L2
/-! ### a call of a def with a jug that hands back a new list: one's own -/
def wFnJL (i n : Nat) (wf : WJ) (w : WA) : WA := fun en Q => (∃ dj, en[i]? = some (.own dj)) ∧ w en fun ds e1 => noLs ds = true ∧ ds.length + 1 = n ∧ ∃ dj, e1[i]? = some (.own dj) ∧ noLs dj = true ∧ wf dj ds fun d dj' => ∃ xs, d = .list xs ∧ noLs xs = true ∧ noLs dj' = true ∧ Q xs (e1.set i (.own dj'))
section
variable {X : Cx} {e : Expr} {es : List Expr} {pos p : Pos} {x : Str} {k n : Nat} {ps : List Str}
open Classical in
end
end Pd

set_option Elab.async false
set_option linter.all false
set_option maxRecDepth 100000
set_option maxHeartbeats 4000000
namespace Pd
open PySem PySem.Spec PyProof.Rows L2
/-! ### sorted(set(l)), l a list of ints -/
section
variable {P : Program} {w : World} {A : Around} {E : Value → Shared → Prop} {s : Shared}
end
section
variable {X : Cx} {e : Expr} {w : WE}
end
end Pd

set_option Elab.async false
set_option linter.all false
set_option maxRecDepth 100000
set_option maxHeartbeats 4000000
/-! One's own list, at a place: any element. -/
namespace Pd
open PySem PySem.Spec PyProof.Rows L2
section
variable {X : Cx} {a b : Expr} {pos : Pos} {wb : WE}
def wIxO (i : Nat) (wb : WE) : WE := fun en Q => (∃ ds, en[i]? = some (.own ds)) ∧ wb en fun y e1 => ∃ ds m z, e1[i]? = some (.own ds) ∧ y = .int m ∧ atI ds m = some z ∧ Q z e1
end
end Pd

set_option Elab.async false
set_option linter.all false
set_option maxRecDepth 100000
set_option maxHeartbeats 4000000
/-! zip of any number of iterators of one length. -/
namespace Pd
open PySem PySem.Spec PyProof.Rows L2
open Sem (wp)
/-- a zip: its owned tuple's field, whether it is known to be out -/
abbrev IsZipG (h : Heap) (z TI TO : Addr) (a : Value) (b : Bool) : Prop :=
  h.get? z = some { cls := .type "zip", dict := none, data := .fields #[a, .bool b, .bool false, .ref TI, .ref TO], slots := #[] }
abbrev IsTupG (h : Heap) (T : Addr) (xs : Array Value) : Prop := h.get? T = some { cls := .type "tuple", data := .seq xs }
section
variable {prog : Program} {w : World} {A : Around} {E : Value → Shared → Prop} {s : Shared}
/-- iterators it 0 .. it (m - 1), each of n turns -/
structure ZipSepN (z TI TO : Addr) (m : Nat) (it : Nat → Addr) (fp : Nat → List Addr) : Prop where
  TIz : TI ≠ z
  TOz : TO ≠ z
  TITO : TI ≠ TO
  TIi : ∀ k, k < m → TI ≠ it k
  mem : ∀ k, k < m → it k ∈ fp k
  zf : ∀ k, k < m → z ∉ fp k
  Tf : ∀ k, k < m → TO ∉ fp k
  sep : ∀ j k, j < m → k < m → j ≠ k → it j ∉ fp k
def itsA (m : Nat) (it : Nat → Addr) : Array Value := ((List.range m).map fun k => Value.ref (it k)).toArray
variable {z TI TO : Addr} {m n i : Nat} {it : Nat → Addr} {fp : Nat → List Addr} {P : Nat → Nat → Value → Prop} {St : Nat → Nat → Heap → Prop}
/-- what stands behind k draws -/
structure Half (hp : Heap) (z TI TO : Addr) (m i k : Nat) (it : Nat → Addr) (P : Nat → Nat → Value → Prop) (St : Nat → Nat → Heap → Prop) (g : Heap) (xs : List Value) : Prop where
  len : xs.length = k
  le : k ≤ m
  at_ : ∀ j x, xs[j]? = some x → P j i x
  new : ∀ j, j < k → St j (i + 1) g
  old : ∀ j, k ≤ j → j < m → St j i g
  size : g.objs.size = hp.objs.size
  keep : ∀ c o, c ≠ z → c ≠ TO → (∀ k, k < m → c ≠ it k) → hp.get? c = some o → g.get? c = some o
end
end Pd

set_option Elab.async false
set_option linter.all false
set_option maxRecDepth 100000
set_option maxHeartbeats 4000000
/-! zip of any number of iterators: it begins. -/
namespace PySem
end PySem
namespace Pd
open PySem PySem.Spec PyProof.Rows L2
section
variable {prog : Program} {w : World} {A : Around} {E : Value → Shared → Prop} {s : Shared} {m : Nat}
/-- behind k iterators made -/
structure Made (hp : Heap) (k : Nat) (os : Nat → Obj) (g : Heap) : Prop where
  size : g.objs.size = hp.objs.size + k
  new : ∀ j, j < k → g.get? (hp.objs.size + j) = some (os j)
  keep : ∀ c o, hp.get? c = some o → g.get? c = some o
/-- a zip as it is made -/
structure ZipNew (hp : Heap) (m : Nat) (ob : Nat → Obj) (h : Heap) : Prop where
  z : IsZipG h (hp.objs.size + m + 2) (hp.objs.size + m) (hp.objs.size + m + 1) .none false
  TI : IsTupG h (hp.objs.size + m) (itsA m fun j => hp.objs.size + j)
  TO : ∃ ys : Array Value, ys.size = m ∧ IsTupG h (hp.objs.size + m + 1) ys
  new : ∀ j, j < m → h.get? (hp.objs.size + j) = some (ob j)
  keep : ∀ c o, hp.get? c = some o → h.get? c = some o
end
end Pd

set_option Elab.async false
set_option linter.all false
set_option maxRecDepth 100000
set_option maxHeartbeats 4000000
/-! zip( *rows), rows of one length, walked by one name. -/
namespace Pd
open PySem PySem.Spec PyProof.Rows L2
section
variable {prog : Program} {w : World} {A : Around}
end
end Pd

set_option Elab.async false
set_option linter.all false
set_option maxRecDepth 100000
set_option maxHeartbeats 4000000
/-! zip( *rows) over data. -/
namespace Pd
open PySem PySem.Spec PyProof.Rows L2
def rwX (r : Bool × List D) : D := if r.1 then .tuple r.2 else .list r.2
/-- the columns of rows of n -/
def colsD (n : Nat) (rs : List (Bool × List D)) : List D := (List.range n).map fun i => .tuple (rs.map fun r => r.2.getD i .none)
section
variable {K : PySem.W.Frag}
/-- zip( *e) -/
def wZipS (w : WE) : WA := fun en Q => w en fun d e1 => ∃ (rs : List (Bool × List D)) (n : Nat), (d = .tuple (rs.map rwX) ∨ d = .list (rs.map rwX)) ∧ rs ≠ [] ∧ rs.length ≤ 1000 ∧ (∀ r ∈ rs, r.2.length = n) ∧ Q (colsD n rs) e1
end
end Pd

set_option Elab.async false
set_option linter.all false
set_option maxRecDepth 100000
set_option maxHeartbeats 4000000
/-! zip( *rows), also of no rows. -/
namespace PySem
end PySem
namespace Pd
open PySem PySem.Spec PyProof.Rows L2
section
variable {prog : Program} {w : World} {A : Around} {E : Value → Shared → Prop} {s : Shared}
end
/-- zip( *e) -/
def wZipU (w : WE) : WA := fun en Q => w en fun d e1 => ∃ (rs : List (Bool × List D)) (n : Nat), (d = .tuple (rs.map rwX) ∨ d = .list (rs.map rwX)) ∧ (rs = [] → n = 0) ∧ rs.length ≤ 1000 ∧ (∀ r ∈ rs, r.2.length = n) ∧ Q (colsD n rs) e1
end Pd

set_option Elab.async false
set_option linter.all false
set_option maxRecDepth 100000
set_option maxHeartbeats 4000000
/-! A written tuple times an int, also times 1. -/
namespace L2
open PySem PySem.Spec PyProof.Rows
end L2
namespace Pd
open PySem PySem.Spec PyProof.Rows L2
end Pd

set_option Elab.async false
set_option linter.all false
set_option maxRecDepth 100000
set_option maxHeartbeats 4000000
/-! Instances of the module's own classes, as data. -/
namespace Pd
open PySem PySem.Spec PyProof.Rows L2
/-- an instance: its class's name, the names of its fields, the fields -/
abbrev obD (nm : Str) (ns : List Str) (ds : List D) : D := .dict [(.tuple (.str nm :: ns.map .str), .tuple ds)]
section
variable {K : PySem.W.Frag} {H I : Hp}
end
/-! ### e.f -/
/-- the name f is a field's at instances of these classes -/
def FldC (K : PySem.W.Frag) (nms : List Str) (f : Str) : Prop := ∀ nm ∈ nms, Cls K (He.ga K nm) ∧ NoAttr K (He.ga K nm) f
theorem FldC.nil {K : PySem.W.Frag} {f : Str} : FldC K [] f := fun _ h => by cases h
theorem FldC.cons {K : PySem.W.Frag} {nm f : Str} {nms : List Str} (c : Cls K (He.ga K nm)) (n : NoAttr K (He.ga K nm) f) (t : FldC K nms f) : FldC K (nm :: nms) f := fun m h => by
  rcases List.mem_cons.mp h with e | h
  · subst e; exact ⟨c, n⟩
  · exact t m h
section
variable {X : Cx} {e o : Expr} {es : List Expr} {pos apos p pos' pos2 : Pos} {f m : Str} {w wo : WE} {wa : WA} {nms : List Str} {nm x : Str} {k n : Nat} {ps : List Str}
/-! ### o.m(..) -/
/-! ### C(..) -/
end
end Pd

set_option Elab.async false
set_option linter.all false
set_option maxRecDepth 100000
set_option maxHeartbeats 4000000
/-! The body of __init__: checks, then the fields, one by one. -/
namespace Pd
open PySem PySem.Spec PyProof.Rows L2
abbrev WSI := (List (Str × D) → En → Prop) → List (Str × D) → En → Prop
section
variable {X : Cx} {G : Gh} {nm : Str} {x dx : Addr} {st : Stmt} {rest : List Stmt} {t u : WSI} {ts : WS} {e : Expr} {f s : Str} {p pos pos' : Pos} {w : WE}
end
section
variable {P : Program} {w : World} {K : PySem.W.Frag} {mg : Str → Option Value} {base : Heap} {x qual : Str} {params : Arguments} {body : List Stmt} {scope : Scope} {f : Addr} {fd : FuncData} {N ps : List Str} {k : Nat}
end
end Pd

set_option Elab.async false
set_option linter.all false
set_option maxRecDepth 100000
set_option maxHeartbeats 4000000
/-! A head's facts, with the module's names of built-in functions and with its classes' own. -/
namespace Pd
open PySem PySem.Spec PyProof.Rows L2
def fiveT : List String := ["int", "bool", "tuple", "list", "str"]
inductive XF where
  | bf (x : Str) (id : String)
  | isi (nm : Str)
  /-- what is no instance of it -/
  | sub (nm : Str)
  /-- whether an instance of the one is one of the other -/
  | subC (one nm : Str) (r : Bool)
  /-- no != of its own -/
  | ne (nm : Str)
def XF.ok (K : PySem.W.Frag) : XF → Bool
  | .bf x id => He.eqO (PySem.W.nsIn K mainGlobals x) (some (some (.builtin id)))
  | .isi nm => (Fa.cl nm).ok K && (He.eqO (PySem.W.findIn K (.ref (He.ga K nm)) "__class__") (some (some (.builtin "object.__class__"))) &&
      (decide (PySem.W.specialIn K (.builtin "object.__class__") "__get__" = some (some (.builtin "getset_descriptor.__get__"))) && (decide (PySem.W.takesIn K (.builtin "object.__class__") = some true) &&
      (decide (PySem.W.mroIn K (He.ga K nm) (.type "object") = some true) && fiveT.all fun T => decide (PySem.W.kitOne K (.ref (He.ga K nm)) (.type T) = some false)))))
  | .sub nm => ["NoneType", "bool", "int", "str", "list", "tuple", "dict"].all fun a => decide (PySem.W.kitOne K (.type a) (.ref (He.ga K nm)) = some false)
  | .subC one nm r => decide (PySem.W.kitOne K (.ref (He.ga K one)) (.ref (He.ga K nm)) = some r)
  | .ne nm => He.eqO (PySem.W.findIn K (.ref (He.ga K nm)) "__ne__") (some (some (.builtin "object.__ne__")))
where Fa.cl (nm : Str) : He.Fa := .cls nm
def obX (fa : List He.Fa) (fn : List He.DefD) (xs : List XF) (K : PySem.W.Frag) : AlB := ⟨He.obsD fa fn K, xs.all (XF.ok K)⟩
def SaysX (fa : List He.Fa) (fn : List He.DefD) (xs : List XF) (K : PySem.W.Frag) : Prop := obX fa fn xs K = ⟨He.valD fn, true⟩
section
variable {fa : List He.Fa} {fn : List He.DefD} {xs : List XF} {K : PySem.W.Frag} {h : Heap} {mg : Str → Option Value}
theorem SaysX.d (c : SaysX fa fn xs K) : He.SaysD fa fn K := congrArg Prod.fst c
theorem SaysX.x (c : SaysX fa fn xs K) (i : Nat) {f : XF} (e : xs[i]? = some f := by rfl) : f.ok K = true := by
  have q : xs.all (XF.ok K) = true := congrArg Prod.snd c
  exact List.all_eq_true.mp q f (List.mem_of_getElem? e)
theorem bf_ok (X : K.In h) (G : h.Ns mainGlobals mg) {x : Str} {id : String} (c : (XF.bf x id).ok K = true) : mg x = some (.builtin id) := PySem.W.mg_of X G (He.eqO_ok c)
end
end Pd

set_option Elab.async false
set_option linter.all false
set_option maxRecDepth 100000
set_option maxHeartbeats 4000000
namespace Pd
open PySem PySem.Spec PyProof.Rows L2
/-! ### zip of a tuple with a list -/
section
variable {K : PySem.W.Frag} {X : Cx} {a b : Expr} {elts : List Expr} {kk : Nat} {pos p tpos : Pos} {w : WA}
end
end Pd

set_option Elab.async false
set_option linter.all false
set_option maxRecDepth 100000
set_option maxHeartbeats 4000000
/-! == and != of instances by an own __eq__; isinstance of own classes. -/
namespace Pd
open PySem PySem.Spec PyProof.Rows L2
section
open PySem.W PySem.Calls Builtin
variable {prog : Program} {w : World} {A A₀ : Around} {E : Value → Shared → Prop} {s : Shared} {K : PySem.W.Frag} {x C L f : Addr} {h₀ : Heap} {m : Str → Option Value} {ox : Obj} {od : Option Obj} {name : Str} {b tb : Value}
end

/-! ### the reading -/
section
variable {X : Cx} {nm : Str} {k : Nat} {ps : List Str} {wf : WF}
end
end Pd

set_option Elab.async false
set_option linter.all false
set_option maxRecDepth 100000
set_option maxHeartbeats 4000000
/-! isinstance of own classes; str of instances with an own __str__; f-strings. -/
namespace Pd
open PySem PySem.Spec PyProof.Rows L2
section
variable {X : Cx} {a : Expr} {wa : WE} {p p2 pos : Pos} {nm : Str} {k : Nat} {ps : List Str} {wf : WF}
structure IsC (K : PySem.W.Frag) (nm : Str) : Prop where
  no : ∀ T ∈ ["NoneType", "bool", "int", "str", "list", "tuple", "dict"], PySem.W.kitOne K (.type T) (.ref (He.ga K nm)) = some false
  yes : PySem.W.kitOne K (.ref (He.ga K nm)) (.ref (He.ga K nm)) = some true
end
/-! ### str(x) -/
section
open PySem.W PySem.Calls Builtin Builtin.Str
end
section
variable {X : Cx} {a : Expr} {wa : WE} {p p2 pos : Pos} {nm : Str} {k : Nat} {ps : List Str} {wf : WF}
end
/-! ### f-strings -/
section
variable {X : Cx} {e : Expr} {wa : WE} {pos : Pos}
/-- the parts of an f-string -/
inductive PJD (X : Cx) (ζ : Zt) : List Expr → List WE → Prop where
  | nil : PJD X ζ [] []
  | cons {e : Expr} {w : WE} {es : List Expr} {ws : List WE} (h : PE X e (lE X.K ζ w)) (r : PJD X ζ es ws) : PJD X ζ (e :: es) (w :: ws)
theorem PJD.pj : ∀ {es : List Expr} {ws : List WE}, PJD X ζ es ws → PJ X es (ws.map (lE X.K ζ))
  | _, _, .nil => .nil
  | _, _, .cons h r => .cons h r.pj
end
end Pd

set_option Elab.async false
set_option linter.all false
set_option maxRecDepth 100000
set_option maxHeartbeats 4000000
/-! a, b, c = x, y, z. -/
namespace Pd
open PySem PySem.Spec PyProof.Rows L2
section
variable {X : Cx}
def wPar3 (i j l : Nat) (wa wb wc : WE) : WS := fun R en => wa en fun x e1 => wb e1 fun y e2 => wc e2 fun z e3 => i ≠ 0 ∧ j ≠ 0 ∧ l ≠ 0 ∧ R.nx (((e3.set i (.imm x)).set j (.imm y)).set l (.imm z))
theorem s_par3 {i j l : Nat} {wa wb wc : WE} {s : Stmt} (h : PS X s (tPar3 i j l (tCons (lE X.K ζ wa) (tCons (lE X.K ζ wb) (tCons (lE X.K ζ wc) tNil))))) : PS X s (lS X.K ζ (wPar3 i j l wa wb wc)) :=
  h.mo fun R σ H ⟨G, en, I, R', o, q, k⟩ => ⟨G, en, I, _, o, q, fun v H1 I1 e1 d o1 x1 dv q1 => ⟨G, e1, I1, _, o1, q1, fun u H2 I2 e2 d2 o2 x2 du q2 => ⟨G, e2, I2, _, o2, q2, fun t H3 I3 e3 d3 o3 x3 dt ⟨h1, h2, h3, q3⟩ =>
    ⟨v, u, t, rfl, k.1 _ H3 I3 _ (((o3.put ((dv.up x2).up x3) (Or.inl h1)).put (du.up x3) (Or.inl h2)).put dt (Or.inl h3)) q3⟩⟩⟩⟩
end
end Pd

set_option Elab.async false
set_option linter.all false
set_option maxRecDepth 100000
set_option maxHeartbeats 4000000
/-! is not, of two bools -/
namespace Pd
open PySem PySem.Spec PyProof.Rows L2
section
variable {K : PySem.W.Frag} {X : Cx}
end
section
variable {P : Program} {w : World} {K : PySem.W.Frag} {mg : Str → Option Value} {base : Heap} {x qual : Str} {params : Arguments} {body : List Stmt} {scope : Scope} {f : Addr} {fd : FuncData} {N ps : List Str} {n : Nat}
end
end Pd

set_option Elab.async false
set_option linter.all false
set_option maxRecDepth 100000
set_option maxHeartbeats 4000000
/-! t[:1:-1], t a tuple of four -/
namespace Pd
open PySem PySem.Spec PyProof.Rows L2
section
variable {prog : Program} {w : World} {A : Around} {E : Value → Shared → Prop} {s : Shared}
end
section
variable {X : Cx} {a : Expr} {wa : WE}
end
end Pd

set_option Elab.async false
set_option linter.all false
set_option maxRecDepth 100000
set_option maxHeartbeats 4000000
/-! x != s, x any data or an empty dict, s a str -/
namespace Pd
open PySem PySem.Spec PyProof.Rows L2 PySem.SeqAt MeetsSeq
section
variable {K : PySem.W.Frag} {X : Cx}
theorem str_ne_declines_dict (b : Str) (u : Tok) (l : Addr) (o : Obj) {es n} (hd : o.data = .dict es n) :
    Meets (Builtin.«str.__ne__» ⟨[.str b u, .ref l], []⟩) (fun _ R s => s.heap.get? l = some o ∧ R (.ok (.ret .notImplemented)) s) :=
  .of_wp fun prog w A R s h => by obtain ⟨hp, g, d, tk, os⟩ := s; obtain ⟨hl, h⟩ := h; obtain ⟨cls, dd, data, sl⟩ := o; cases hd; wp_walk using wpAny_loadPart' hl, wpAny_load hl; exact ⟨_, rfl, h⟩
theorem dict_ne_declines {prog : Program} {w : World} {A : Around} {E : Value → Shared → Prop} {Q : Value → Shared → Prop} {s : Shared} {L : Type} [DecidableEq L] {knd : KeyKind prog w L} {a : Addr} {ka : List (L × Value)} (b : Str) (u : Tok) (da : s.heap.DictOf knd a ka) (h : Q .notImplemented s) :
    wpAny (model prog w) A (call (.builtin "dict.__ne__") [.ref a, .str b u]) Q E s := by
  refine wpAny_call_entry PySem.F.slot_dict_ne da.typeIs PySem.F.entry_dict_ne ?_ (PySem.F.args_dict_ne_2 _ _)
  show wpAny _ _ (Builtin.Dict.dictSlotArgs "__ne__" ⟨[.ref a, .str b u], []⟩ >>= _) _ _ s
  refine wpAny_bind ?_
  unfold Builtin.Dict.dictSlotArgs
  refine wpAny_bind (wpAny_notOrdered_dict da.typeIs ?_)
  show wpAny _ _ (pure (Value.ref a, Value.str b u)) _ _ s
  refine wpAny_pure ?_
  refine wpAny_bind (wpAny_isInstance (T := "str") (typeIs_str s b u) PySem.F.sub_str_dict ?_)
  simp only [Bool.not_true, Bool.not_false, Bool.false_eq_true, if_false, if_true]
  first
    | exact wpAny_bind (wpAny_rule (wpAny_pure ⟨_, rfl, h⟩))
    | exact wpAny_bind (wpAny_pure (wpAny_pure ⟨_, rfl, h⟩))
    | (wp_walk; exact ⟨_, rfl, h⟩)
theorem RcNeAt.dict_str {prog : Program} {w : World} {A : Around} {E : Value → Shared → Prop} {Q : Value → Shared → Prop} {s : Shared} {L : Type} [DecidableEq L] {knd : KeyKind prog w L} {a : Addr} {ka : List (L × Value)} (b : Str) (u : Tok) (da : s.heap.DictOf knd a ka) (hu : A.units < cLine) (h : Q (.bool true) s) :
    wpAny (model prog w) A (compareOp .NotEq (.ref a) (.str b u)) Q E s := by
  obtain ⟨o, es, ep, ho, r⟩ := id da
  have hd : o.data = .dict es ep := r.2.1
  exact rc_ne_decline_or (k := false) da.typeIs (typeIs_str s b u) (by decide) PySem.F.sub_str_dict PySem.F.slot_dict_ne PySem.F.slot_str_ne_refl
    (fun _ hq => dict_ne_declines b u da hq)
    (fun _ hq => call_meets PySem.F.slot_str_ne_refl (typeIs_str s b u) PySem.F.entry_str_ne (PySem.F.args_str_ne_2 _ _) (str_ne_declines_dict b u a o hd) ⟨ho, hq⟩)
    (fun _ hq => wpAny_of_eq (rfl : isSame (.ref a) (.str b u) = pure false) hq) (.inr hu) h
end
end Pd

set_option Elab.async false
set_option linter.all false
set_option maxRecDepth 100000
set_option maxHeartbeats 4000000
/-! x == s, x any data or an empty dict, s a str -/
namespace Pd
open PySem PySem.Spec PyProof.Rows L2 PySem.SeqAt MeetsSeq
section
variable {K : PySem.W.Frag} {X : Cx}
theorem str_eq_declines_dict (b : Str) (u : Tok) (l : Addr) (o : Obj) {es n} (hd : o.data = .dict es n) :
    Meets (Builtin.«str.__eq__» ⟨[.str b u, .ref l], []⟩) (fun _ R s => s.heap.get? l = some o ∧ R (.ok (.ret .notImplemented)) s) :=
  .of_wp fun prog w A R s h => by obtain ⟨hp, g, d, tk, os⟩ := s; obtain ⟨hl, h⟩ := h; obtain ⟨cls, dd, data, sl⟩ := o; cases hd; wp_walk using wpAny_loadPart' hl, wpAny_load hl; exact ⟨_, rfl, h⟩
theorem dict_eq_declines {prog : Program} {w : World} {A : Around} {E : Value → Shared → Prop} {Q : Value → Shared → Prop} {s : Shared} {L : Type} [DecidableEq L] {knd : KeyKind prog w L} {a : Addr} {ka : List (L × Value)} (b : Str) (u : Tok) (da : s.heap.DictOf knd a ka) (h : Q .notImplemented s) :
    wpAny (model prog w) A (call (.builtin "dict.__eq__") [.ref a, .str b u]) Q E s := by
  refine wpAny_call_entry PySem.F.slot_dict_eq da.typeIs PySem.F.entry_dict_eq ?_ (PySem.F.args_dict_eq_2 _ _)
  show wpAny _ _ (Builtin.Dict.dictSlotArgs "__eq__" ⟨[.ref a, .str b u], []⟩ >>= _) _ _ s
  refine wpAny_bind ?_
  unfold Builtin.Dict.dictSlotArgs
  refine wpAny_bind (wpAny_notOrdered_dict da.typeIs ?_)
  show wpAny _ _ (pure (Value.ref a, Value.str b u)) _ _ s
  refine wpAny_pure ?_
  refine wpAny_bind (wpAny_isInstance (T := "str") (typeIs_str s b u) PySem.F.sub_str_dict ?_)
  simp only [Bool.not_true, Bool.not_false, Bool.false_eq_true, if_false, if_true]
  first
    | exact wpAny_bind (wpAny_rule (wpAny_pure ⟨_, rfl, h⟩))
    | exact wpAny_bind (wpAny_pure (wpAny_pure ⟨_, rfl, h⟩))
    | (wp_walk; exact ⟨_, rfl, h⟩)
theorem RcAt.dict_str {prog : Program} {w : World} {A : Around} {E : Value → Shared → Prop} {Q : Value → Shared → Prop} {s : Shared} {L : Type} [DecidableEq L] {knd : KeyKind prog w L} {a : Addr} {ka : List (L × Value)} (b : Str) (u : Tok) (da : s.heap.DictOf knd a ka) (hu : A.units < cLine) (h : Q (.bool false) s) :
    wpAny (model prog w) A (compareOp .Eq (.ref a) (.str b u)) Q E s := by
  obtain ⟨o, es, ep, ho, r⟩ := id da
  have hd : o.data = .dict es ep := r.2.1
  exact rc_eq_decline_or (k := false) da.typeIs (typeIs_str s b u) (by decide) PySem.F.sub_str_dict PySem.F.slot_dict_eq PySem.F.slot_str_eq_refl
    (fun _ hq => dict_eq_declines b u da hq)
    (fun _ hq => call_meets PySem.F.slot_str_eq_refl (typeIs_str s b u) PySem.F.entry_str_eq (PySem.F.args_str_eq_2 _ _) (str_eq_declines_dict b u a o hd) ⟨ho, hq⟩)
    (fun _ hq => wpAny_of_eq (rfl : isSame (.ref a) (.str b u) = pure false) hq) (.inr hu) h
def rEqStr : R2 := fun x y H Q => ∃ a s, x = .ref a ∧ y = .str s ∧ H a = some (.dK []) ∧ Q (.bl false) H
theorem op_eqStr (hu : X.A.units < cLine) : OpR X (compareOp .Eq) rEqStr := by
  intro pins s σ H x y v u Q I rx ry h
  obtain ⟨a, t, rfl, rfl, ea, q⟩ := h
  obtain rfl : v = Value.ref a := rx
  obtain ⟨tk, rfl⟩ : ∃ tk, u = Value.str t tk := ry
  obtain ⟨_, ya, va, ra, da⟩ := (show ObjOk X.prog X.w H s.heap a (.dK []) from I.hok a _ ea)
  exact RcAt.dict_str t tk da hu ⟨.bl false, H, I, rfl, q⟩
def rEqS (K : PySem.W.Frag) : R2 := fun x y H Q => rEqD K x y H Q ∨ rEqStr x y H Q
theorem op_eqS (hu : X.A.units + 64 < cLine) : OpR X (compareOp .Eq) (rEqS X.K) := (op_eqD hu).or (op_eqStr (by omega))
/-- x is laid, or {}; y a str -/
def dEqS : D → D → D → Prop := fun x y z => dEq x y z ∨ ∃ s, x = .dict [] ∧ y = .str s ∧ z = .bool false
theorem snd_eqS : SndOp K (rEqS K) dEqS := by
  rintro H I x y d e z iH hx hy h Q k
  rcases h with h | ⟨s, rfl, rfl, rfl⟩
  · exact Or.inl (snd_eq H I x y d e z iH hx hy h Q k)
  · cases hx
    cases hy
    rename_i a ha
    exact Or.inr ⟨a, s, rfl, rfl, iH a _ ha, k _ H I (Gr.rf iH) (.bl _)⟩
end
end Pd

set_option Elab.async false
set_option linter.all false
set_option maxRecDepth 100000
set_option maxHeartbeats 4000000
/-! not x as a value, by truth of any data -/
namespace Pd
open PySem PySem.Spec PyProof.Rows L2
section
variable {X : Cx} {a : Expr} {pos : Pos} {wa : WE}
end
end Pd

set_option Elab.async false
set_option linter.all false
set_option maxRecDepth 100000
set_option maxHeartbeats 4000000
/-! Exceptions over data: a def that raises, its calls, raise. -/
namespace Pd
open PySem PySem.Spec PyProof.Rows L2
/-- an exception: the name of its class, its fields -/
structure Exc where
  nm : Str
  ns : List Str := []
  ds : List D := []
def ExcD (K : PySem.W.Frag) (I : Hp) (cls : Value) (d : Option Addr) (e : Exc) : Prop := cls = .ref (He.ga K e.nm) ∧ ((e.ns = [] ∧ e.ds = []) ∨
  ∃ dx vs, d = some dx ∧ I dx = some (.xd (e.ns.zip vs)) ∧ e.ns.length = vs.length ∧ DaAll K I vs e.ds)
theorem ExcD.up {K : PySem.W.Frag} {I I' : Hp} {cls : Value} {d : Option Addr} {e : Exc} (h : ExcD K I cls d e) (x : Ex I I') : ExcD K I' cls d e := by
  obtain ⟨h1, h2⟩ := h
  refine ⟨h1, ?_⟩
  rcases h2 with h2 | ⟨dx, vs, h3, h4, h5, h6⟩
  · exact Or.inl h2
  · exact Or.inr ⟨dx, vs, h3, x _ _ h4, h5, h6.up x⟩
/-- what an exception that leaves has to be -/
def wxOf (K : PySem.W.Frag) (ζ : Zt) (R : Exc → En → Prop) : WX := fun cls d σ H' => ∃ en' I' e, ζ.Z σ en' H' I' ∧ ExcD K I' cls d e ∧ R e en'
abbrev WFX := List D → (D → Prop) → (Exc → Prop) → Prop
/-- behind a call: the heap grown by what is new -/
def spX (K : PySem.W.Frag) (n : Nat) (wf : WFX) : Sp := fun vs H Q E => ∃ (I : Hp) (ds : List D) (Q' : D → Prop) (R' : Exc → Prop), Ex I H ∧ DaAll K I vs ds ∧ ds.length = n ∧ wf ds Q' R' ∧
  (∀ v H' I' d, Gr H I H' I' → Da K I' v d → Q' d → Q v H') ∧ (∀ cls d H' I' e, Gr H I H' I' → ExcD K I' cls d e → R' e → E cls d H')
theorem Gr.core {K : PySem.W.Frag} {ζ : Zt} {σ : Sg} {en : En} {H I H' I' : Hp} (ht : ζ.T = []) (c : Core K ζ H I none σ en H' I') : Gr H I H' I' := by
  have nt : ∀ a, ¬ isTb ζ a := fun a h => by unfold isTb at h; rw [ht] at h; cases h
  refine ⟨fun a u q => c.fr a u q (by simp) (nt a), c.i0, c.iH, fun a h1 h2 => ?_⟩
  cases q : H a with
  | none => rfl
  | some u => exact absurd (c.nw a (by rw [q]; simp) h2) h1
section
variable {P : Program} {w : World} {K : PySem.W.Frag} {mg : Str → Option Value} {base : Heap} {x qual : Str} {params : Arguments} {body : List Stmt} {scope : Scope} {f : Addr} {fd : FuncData} {N ps : List Str} {k : Nat}
theorem enP_get {N : List Str} {vs : List V} {ds : List D} {I H : Hp} (h2 : DaAll K I vs ds) : ∀ (i : Nat) (s : Sl), (enP N ds)[i]? = some s → SlOk K I H (L2.start N vs)[i]? s := fun i s hs => by
  have hl : vs.length = ds.length := dpa_len h2
  unfold enP at hs
  by_cases hi : i < ds.length
  · rw [List.getElem?_append_left (by rw [List.length_map]; exact hi), List.getElem?_map] at hs
    cases q : ds[i]? with
    | none => rw [q] at hs; cases hs
    | some d =>
      rw [q] at hs
      cases hs
      obtain ⟨v, hv, dv⟩ := dpa_get h2 q
      refine ⟨v, ?_, dv⟩
      unfold L2.start
      rw [List.getElem?_append_left (by rw [List.length_map, hl]; exact hi), List.getElem?_map, hv]
      rfl
  · rw [List.getElem?_append_right (by rw [List.length_map]; omega), List.getElem?_replicate] at hs
    split at hs
    · cases hs; trivial
    · cases hs
theorem enP_no {N : List Str} {vs : List V} {ds : List D} : ∀ (i : Nat) (l : Addr), ¬ OwnAt (L2.start N vs) (enP N ds) i l := fun i l ⟨q1, es, q2⟩ => by
  unfold enP at q2
  by_cases hi : i < ds.length
  · rw [List.getElem?_append_left (by rw [List.length_map]; exact hi), List.getElem?_map] at q2
    cases q : ds[i]? with
    | none => rw [q] at q2; cases q2
    | some d => rw [q] at q2; cases q2
  · rw [List.getElem?_append_right (by rw [List.length_map]; omega), List.getElem?_replicate] at q2
    split at q2
    · cases q2
    · cases q2
/-- a def that may raise -/
theorem fnX {wf : WFX} {ws : (Exc → En → Prop) → WS} (F : FunD K x qual params body scope [] [] f fd) (S : FnScope N ps scope)
    (hb : ∀ (ζ : Zt) (R : Exc → En → Prop) (cdv : Value) (A : Around) (outer : List Env) (s : Shared) (H : Hp) (E : XK), Takes (cxOf (L2.CX P w) P w K mg base N qual scope f cdv A outer s H E) (wxOf K ζ R) → PassesOwn (model P w) (cxOf (L2.CX P w) P w K mg base N qual scope f cdv A outer s H E).A (cxOf (L2.CX P w) P w K mg base N qual scope f cdv A outer s H E).env (cxOf (L2.CX P w) P w K mg base N qual scope f cdv A outer s H E).xe → Room k (A.deeper (envOfC qual scope s.heap.objs.size f cdv)) → PSs (cxOf (L2.CX P w) P w K mg base N qual scope f cdv A outer s H E) body (lS K ζ (ws R)))
    (hp : ∀ ds Q' R', ds.length = ps.length → wf ds Q' R' → ws (fun e _ => R' e) (edP Q') (enP N ds)) : FnOk P w K mg base (L2.CX P w) (k + 1) f fd ps (spX K ps.length wf) := by
  refine F.ok (CX := L2.CX P w) S (fun vs H Q E h => ?_) (fun cdv A outer s H vs Q E hr h => ?_)
  · obtain ⟨I, ds, Q', _, _, h2, h3, _⟩ := h
    rw [dpa_len h2, h3]
  · obtain ⟨I, ds, Q', R', h1, h2, h3, h4, h5, h6⟩ := h
    refine ⟨lS K ⟨[], fun _ _ => Gr H I⟩ (ws fun e _ => R' e), hb _ (fun e _ => R' e) cdv A outer s H E (Takes.imp (takes_of rfl rfl rfl rfl) fun cls d σ H' ⟨_, I', e, g, de, r⟩ => h6 cls d H' I' e g de r) (passes_of (K := fun e s'' => L2.CX P w outer H s E e s'') rfl) hr, ?_⟩
    have hpl : ps.length ≤ N.length := by have := congrArg List.length S.pre; rw [List.length_take] at this; omega
    have hl : vs.length = ds.length := dpa_len h2
    have o : Ok K ⟨[], fun _ _ => Gr H I⟩ ⟨H, I, none, []⟩ (L2.start N vs) (enP N ds) H I :=
      ⟨Ex.rf I, h1, fun a _ h => h, fun a o h _ _ => h, by unfold L2.start enP; simp [hl], enP_get h2, fun i l h => absurd h (enP_no i l), fun i j l h => absurd h (enP_no i l), fun l h => (by cases h), fun p hp => (by cases hp), fun p hp => (by cases hp), fun _ h => isTb_Nil h, Tabs_nil, fun _ _ H' I' c => Gr.core rfl c⟩
    refine lS_mk o (hp ds Q' R' h3 h4) ⟨fun σ' H' I' en' o' q => ?_, fun v σ' H' I' en' d o' dv q => ?_, fun _ _ _ _ _ q => q.elim, fun _ _ _ _ _ q => q.elim⟩
    · exact h5 .non H' I' .none o'.z .non q
    · exact h5 v H' I' d o'.z dv q
def CalX (P : Program) (w : World) (K : PySem.W.Frag) (mg : Str → Option Value) (base : Heap) (k : Nat) (x : Str) (ps : List Str) (sp : Sp) : Prop :=
  ∃ (f : Addr) (fd : FuncData), FnOk P w K mg base (L2.CX P w) k f fd ps sp ∧ mg x = some (.ref f) ∧ PySem.W.keepIn K (.ref f) = true ∧ Binds K fd ps []
end
section
variable {X : Cx} {e : Expr} {es : List Expr} {pos p p2 : Pos} {x : Str} {k n : Nat} {ps : List Str} {R : Exc → En → Prop}
def wFnX (n : Nat) (wf : WFX) (R : Exc → En → Prop) (w : WA) : WE := fun en Q => w en fun ds e1 => ds.length = n ∧ wf ds (fun d => Q d e1) fun e => R e e1
theorem c_callX {wf : WFX} {w : WA} (C : CalX X.prog X.w X.K X.mg X.base k x ps (spX X.K n wf)) (tk : Takes X (wxOf X.K ζ R)) (hr : Room k X.A) (ha : PA X (e :: es) (lA X.K ζ w)) (hg : Gl X x := by rfl)
    (hdb : (x == ("__debug__" : Str)) = false := by decide) (he : starEach (e :: es) X.env = (false, eval e X.env) :: starEach es X.env := by rfl) (hpl : (backTo pos (starEach es X.env)).any (·.1) = false := by rfl) :
    PE X (.Call (.Name x p) (e :: es) [] pos) (lE X.K ζ (wFnX n wf R w)) := by
  obtain ⟨f, fd, F, hm, hk, hb⟩ := C
  refine (pe_callS (E := L2.WE (wxOf X.K ζ R)) F hr hg hm hk hb (fun σ => passAt tk σ) ha hdb he hpl).mo fun σ H Q ⟨G, en, I, Q', o, q, k⟩ => ⟨G, en, I, _, o, q, fun vs H1 I1 e1 ds o1 x1 dvs ⟨hn, q1⟩ => ?_⟩
  refine ⟨I1, ds, _, fun e => R e e1, o1.iH, dvs, hn, q1, fun v H2 I2 d g dv q2 => ?_, fun cls d H2 I2 e g de r => ⟨e1, I2, e, (o1.gr g).z, de, r⟩⟩
  exact k v H2 I2 e1 d (o1.gr g) (x1.tr g.i) dv q2
/-- such a def where it does not raise -/
theorem c_callXN {wf : WFX} {w : WA} (C : CalX X.prog X.w X.K X.mg X.base k x ps (spX X.K n wf)) (hr : Room k X.A) (ha : PA X (e :: es) (lA X.K ζ w)) (hg : Gl X x := by rfl)
    (hdb : (x == ("__debug__" : Str)) = false := by decide) (he : starEach (e :: es) X.env = (false, eval e X.env) :: starEach es X.env := by rfl) (hpl : (backTo pos (starEach es X.env)).any (·.1) = false := by rfl) :
    PE X (.Call (.Name x p) (e :: es) [] pos) (lE X.K ζ (wFnX n wf (fun _ _ => False) w)) := by
  obtain ⟨f, fd, F, hm, hk, hb⟩ := C
  refine (pe_call (E := E0) F hr hg hm hk hb .nil passL ha hdb he hpl).mo fun σ H Q ⟨G, en, I, Q', o, q, k⟩ => ⟨G, en, I, _, o, q, fun vs H1 I1 e1 ds o1 x1 dvs ⟨hn, q1⟩ => ?_⟩
  refine ⟨I1, ds, _, fun _ => False, o1.iH, by rw [List.append_nil]; exact dvs, hn, q1, fun v H2 I2 d g dv q2 => ?_, fun cls d H2 I2 e g de r => r.elim⟩
  exact k v H2 I2 e1 d (o1.gr g) (x1.tr g.i) dv q2
/-! ### raise -/
/-- an own class of exceptions that keeps nothing -/
structure ExoC (K : PySem.W.Frag) (mg : Str → Option Value) (nm : Str) : Prop where
  ex : ∃ (B newId initId : String) (bmB : List Value), ExcBaseFacts B newId initId bmB ∧ PySem.W.excIn K (He.ga K nm) bmB newId = true
  mg : mg nm = some (.ref (He.ga K nm))
  kp : PySem.W.keepIn K (.ref (He.ga K nm)) = true
  sb : PySem.W.subIn K (.ref (He.ga K nm)) (.type "BaseException") = some true
  ty : PySem.W.typeIn K (.ref (He.ga K nm)) = some (.type "type")
def wRaise (R : Exc → En → Prop) (nm : Str) (w : WE) : WS := fun _ en => w en fun _ e1 => R ⟨nm, [], []⟩ e1
theorem s_raise {w : WE} {nm : Str} (c : ExoC X.K X.mg nm) (hc : X.calm = true) (tk : Takes X (wxOf X.K ζ R)) (he : PE X e (lE X.K ζ w)) (hg : Gl X nm := by rfl) (hs : starEach [e] X.env = (false, eval e X.env) :: starEach [] X.env := by rfl) (hdb : (nm == ("__debug__" : Str)) = false := by decide) :
    PS X (.Raise (some (.Call (.Name nm p) [e] [] p2)) none pos) (lS X.K ζ (wRaise R nm w)) := by
  obtain ⟨⟨B, newId, initId, bmB, F, q⟩, hm, kp, sb, ty⟩ := c
  refine (ps_raise hc tk (SkE.pmk_own1 F q hm kp (raises_own sb ty) hg he hs hdb)).mo fun R' σ H ⟨G, en, I, Ed', o, q, k⟩ => ?_
  exact ⟨G, en, I, _, o, q, fun v H1 I1 e1 d o1 x1 dv q1 => ⟨e1, I1, _, o1.z, ⟨rfl, Or.inl ⟨rfl, rfl⟩⟩, q1⟩⟩
end
end Pd

set_option Elab.async false
set_option linter.all false
set_option maxRecDepth 100000
set_option maxHeartbeats 4000000
/-! Own exceptions that keep one value, over any built-in base: self.f = v in __init__. -/
namespace Pd
open PySem PySem.Spec PyProof.Rows L2
/-- own classes, then the tail tl -/
def refsT (tl : List Value) : List Value → Bool
  | .ref _ :: r => refsT tl r
  | l => l == tl
theorem refsT_cases {tl : List Value} : ∀ l : List Value, refsT tl l = true → (∃ c r, l = .ref c :: r ∧ refsT tl r = true) ∨ l = tl
  | [], e => .inr (beq_iff_eq.mp e)
  | .ref c :: r, e => .inl ⟨c, r, rfl, e⟩
  | .none :: _, e => .inr (beq_iff_eq.mp e)
  | .ellipsis :: _, e => .inr (beq_iff_eq.mp e)
  | .notImplemented :: _, e => .inr (beq_iff_eq.mp e)
  | .bool _ :: _, e => .inr (beq_iff_eq.mp e)
  | .int _ _ :: _, e => .inr (beq_iff_eq.mp e)
  | .float _ _ :: _, e => .inr (beq_iff_eq.mp e)
  | .str _ _ :: _, e => .inr (beq_iff_eq.mp e)
  | .bytes _ _ :: _, e => .inr (beq_iff_eq.mp e)
  | .type _ :: _, e => .inr (beq_iff_eq.mp e)
  | .builtin _ :: _, e => .inr (beq_iff_eq.mp e)
/-- what is known of a built-in base -/
structure TailF (B newId initId : String) (tl : List Value) : Prop where
  base : ExcBaseFacts B newId initId tl
  st : StoreFacts B tl "object.__setattr__" "object"
theorem TailF.ne {B newId initId : String} {tl : List Value} (t : TailF B newId initId tl) : tl ≠ [] := fun e => by
  have h := t.base.hasB
  rw [e] at h
  cases h
theorem refsT_pass {B newId initId : String} {tl : List Value} (t : TailF B newId initId tl) (self : Value) : ∀ l : List Value, refsT tl l = true → refuseLoop self "__setattr__" l = pure ()
  | [], e => absurd (beq_iff_eq.mp e).symm t.ne
  | a :: r, e => by
    rcases refsT_cases (a :: r) e with ⟨c, r', q, h⟩ | q
    · obtain ⟨rfl, rfl⟩ := List.cons.inj q
      rw [refuseLoop_ref]; exact refsT_pass t self r h
    · rw [q]; exact t.st.passes self
theorem refsT_contains {B newId initId : String} {tl : List Value} (t : TailF B newId initId tl) (X : String) : ∀ l : List Value, refsT tl l = true → l.contains (.type X) = tl.contains (.type X)
  | [], e => absurd (beq_iff_eq.mp e).symm t.ne
  | a :: r, e => by
    rcases refsT_cases (a :: r) e with ⟨c, r', q, h⟩ | q
    · obtain ⟨rfl, rfl⟩ := List.cons.inj q
      rw [List.contains_cons, refsT_contains t X r h]; rfl
    · rw [q]
theorem refsT_ne {B newId initId : String} {tl : List Value} (t : TailF B newId initId tl) {l : List Value} (e : refsT tl l = true) : l.isEmpty = false := by
  cases l with
  | nil => exact absurd (beq_iff_eq.mp e).symm t.ne
  | cons _ _ => rfl
end Pd
namespace Pd
open PySem PySem.Spec PyProof.Rows L2 PySem.HandSPX PySem.Builtin PySem.Builtin.ObjectAttr
section
variable {prog : Program} {w : World} {A : Around} {E : Value → Shared → Prop} {R : Result → Shared → Prop} {hp : Heap} {g : Array GenState} {d : Drawn} {t : Nat} {os : OsState}
theorem exc_osaT {B newId initId : String} {tl : List Value} (TF : TailF B newId initId tl) {K : PySem.W.Frag} {name : Str} {tk : Tok} {v : Value} {x C : Addr} {fv : Array Value} {cd : ClassData}
    (X : K.In hp) (hx : hp.get? x = some { cls := .ref C, data := .fields fv }) (hcd : PySem.W.clsIn K C = some cd) (hm : refsT tl cd.mro = true) (hh : cd.hasDict = true) (ha : PySem.W.findIn K (.ref C) name = some none)
    (hq : ∀ h' tk' dx, (∀ b o, b ≠ x → hp.get? b = some o → h'.get? b = some o) → hp.objs.size ≤ dx → dx ≠ x → h'.get? x = some { cls := .ref C, dict := some dx, data := .fields fv } →
      h'.Ns1 dx (fun y => if y = name then some v else none) → R (.ok (.ret .none)) ⟨h', g, d, tk', os⟩) :
    codeAny (model prog w) A (.call (.builtin "object.__setattr__") ⟨[.ref x, .str name tk, v], []⟩) R ⟨hp, g, d, t, os⟩ := by
  have I : PySem.W.InstAt hp x { cls := .ref C, data := .fields fv } C none := ⟨hx, rfl, rfl, trivial⟩
  have SF := F.store_object
  have ne := refsT_ne TF hm
  have hob : cd.mro.contains (.type "object") = true := (refsT_contains TF "object" _ hm).trans TF.st.hasOwner
  have hxs : x ≠ hp.objs.size := Nat.ne_of_lt (Heap.lt_size hx)
  have sub : PySem.W.Looks (model prog w) hp (isInstance (.ref x) (.type "object")) true := I.type.andThen (PySem.W.looks_mroIn X (by unfold PySem.W.mroIn; rw [hcd, Option.bind_some, if_neg (by rw [ne]; decide), hob]))
  refine codeAny_call_builtin SF.slot.plain SF.entry (@PySem.W.check_slot (model prog w) _ _ ⟨hp, g, d, t, os⟩ "object.__setattr__" "object" "__setattr__" (.ref x) [.str name tk, v] [] _ SF.kind SF.split sub (SF.args (.ref x) (.str name tk) v) ?_)
  have hmr : PySem.W.Looks (model prog w) hp (mroOf (.ref C)) cd.mro := (PySem.W.looks_clsIn X hcd).andThen .now
  have L3 : PySem.W.Looks (model prog w) hp (storeTaker? none) none := .now
  have hcls : PySem.W.Looks (model prog w) hp (classData C) cd := PySem.W.looks_clsIn X hcd
  rw [PySem.W.osa_eq, refuse_eq]
  refine wpAny_bind (wpAny_bind (I.type.at (wpAny_bind (hmr.at ?_))))
  rw [refsT_pass TF _ _ hm]
  refine wpAny_pure (wpAny_bind (I.type.at (wpAny_bind ((PySem.W.looks_findIn X ha).at (wpAny_bind (L3.at ?_))))))
  show wpAny _ _ (storeInOwnDict (.ref x) (.ref C) (.str name tk) name v false) _ _ _
  obtain ⟨nm, bs, mro, ns, qn, hd, sn, sb, ab, col, del⟩ := cd
  dsimp only at hh
  subst hh
  unfold storeInOwnDict ownDictForStores
  repeat (first | with_reducible refine store_in_new ?_ ?_ | with_reducible refine wpAny_loadPart_at hx ?_ | with_reducible refine hcls.at ?_ | wp_step)
  · exact ⟨_, #[], _, (Heap.get?_update_ne _ _ _ _ hxs.symm).trans (Heap.get?_push_at rfl rfl), rfl, fun e he => absurd he (by simp), fun _ => rfl⟩
  · intro h' tk' hn' hs
    have hx₁ : (hp.push { cls := .type "dict", data := .dict #[] }).get? x = some { cls := .ref C, data := .fields fv } := Heap.get?_push_of_some _ hx
    refine hq h' tk' hp.objs.size (fun b o hb ho => ?_) (Nat.le_refl _) hxs.symm ?_ hn'
    · exact (hs.2 b (Nat.ne_of_lt (Heap.lt_size ho))).trans ((Heap.get?_update_ne _ _ _ _ hb).trans (Heap.get?_push_of_some _ ho))
    · exact (hs.2 x hxs).trans (Heap.get?_update_self _ hx₁ rfl)
end
end Pd
namespace Pd
open PySem PySem.Spec PyProof.Rows L2
/-- what the written part says of such a class -/
structure OexG (K : PySem.W.Frag) (C : Addr) (newId : String) (tl : List Value) : Prop where
  cls : ∃ nm q N bs bm sn sub ab col dd k0 k1 k2 k3 k5, K.lookup C = some (excClassObj nm q C N bs bm true sn sub ab col dd k0 k1 k2 k3 k5 newId) ∧ refsT tl bm = true
  sa : PySem.W.findIn K (.ref C) "__setattr__" = some (some (.builtin "object.__setattr__"))
  exC : PySem.W.subIn K (.ref C) (.type "BaseException") = some true
  tyC : PySem.W.typeIn K (.ref C) = some (.type "type")
  kC : PySem.W.keepIn K (.ref C) = true
def oexB (K : PySem.W.Frag) (C : Addr) (newId : String) (tl : List Value) : Bool := match K.lookup C with
  | some ⟨.type "type", _, .cls cd, sl⟩ => (match cd.mro, sl.toList with
    | .ref C' :: bm, [_, _, _, _, some (.builtin n), _] => C' == C && n == newId && !cd.hasDel && cd.hasDict && refsT tl bm
    | _, _ => false)
  | _ => false
theorem oexB_ok {K : PySem.W.Frag} {C : Addr} {newId : String} {tl : List Value} (q : oexB K C newId tl = true) : ∃ nm q N bs bm sn sub ab col dd k0 k1 k2 k3 k5, K.lookup C = some (excClassObj nm q C N bs bm true sn sub ab col dd k0 k1 k2 k3 k5 newId) ∧ refsT tl bm = true := by
  unfold oexB at q
  split at q
  · rename_i dd cd sl ho
    split at q
    · rename_i C' bm k0 k1 k2 k3 n k5 hm hs
      simp only [Bool.and_eq_true, beq_iff_eq, Bool.not_eq_true'] at q
      obtain ⟨⟨⟨⟨rfl, rfl⟩, hdel⟩, hhd⟩, ht⟩ := q
      obtain ⟨nm, bs, mro, ns, qn, hd, sn, sub, ab, col, del⟩ := cd
      dsimp only at hm hdel hhd
      subst hm hdel hhd
      have hsl : sl = #[k0, k1, k2, k3, some (.builtin n), k5] := by
        obtain ⟨l⟩ := sl
        simp only at hs
        rw [hs]
      subst hsl
      exact ⟨nm, qn, ns, bs, bm, sn, sub, ab, col, dd, k0, k1, k2, k3, k5, ho, ht⟩
    · cases q
  · cases q
section
variable {X : Cx} {pins : List (Addr × Obj)} {σ : L2.St} {H : Hp} {s : Shared} {a C dx : Addr} {f : Str} {y : V} {u : Value} {Q : Unit → Shared → Prop} {E : Value → Shared → Prop} {A : Around} {B newId initId : String} {tl : List Value}
/-- self.f = y, the first one -/
theorem ost_newT (TF : TailF B newId initId tl) (T : OexG X.K C newId tl) (I : Inv X pins σ H s) (e : H a = some (exo a C none)) (hno : PySem.W.findIn X.K (.ref C) f = some none) (ry : RelV y u)
    (h : ∀ dx s', H dx = none → dx ≠ a → Inv X pins σ (upd (upd H dx (exd dx [(f, y)])) a (exo a C (some dx))) s' → Q () s') : wpAny (model X.prog X.w) A (setAttr (.ref a) f u) Q E s := by
  obtain ⟨nm, q, N, bs, bm, sn, sub, ab, col, dd, k0, k1, k2, k3, k5, hC, hbm⟩ := T.cls
  have hcl : PySem.W.clsIn X.K C = some { name := nm, bases := bs, mro := .ref C :: bm, ns := N, qualname := q, hasDict := true, slotNames := sn, subclasses := sub, abstract := ab, collection := col, hasDel := false } := by unfold PySem.W.clsIn; rw [hC] <;> rfl
  obtain ⟨t1, ho⟩ := exo_at I.hok e
  obtain ⟨hp, g, d, t, os⟩ := s
  refine PySem.W.set_plain I.kIn (ox := { cls := .ref C, dict := none, data := .fields #[.ref t1, .none, .none, .none, .bool false, .none] }) (od := none) ⟨ho, rfl, rfl, trivial⟩ T.sa ?_
  refine exc_osaT TF I.kIn ho hcl (show refsT tl (.ref C :: bm) = true from hbm) rfl hno (fun h' tk' dx k dn dne hx hn => ?_)
  have hnd : H dx = none := I.hok.fresh dn
  have nd : ∀ {b : Addr} {o : Obj}, hp.get? b = some o → b ≠ dx := fun {b o} q => Nat.ne_of_lt (Nat.lt_of_lt_of_le (Heap.lt_size q) dn)
  have na : ∀ {b : Addr}, H b = none → b ≠ a := fun {b} n z => by
    rw [z, e] at n
    cases n
  have Un1 : Un X.fs [] H (upd (upd H dx (exd dx [(f, y)])) a (exo a C (some dx))) hp h' := {
    keep := fun b o q n _ _ => k b o (na n) q
    slot := fun b o q n _ _ => ⟨o.slots, k b o (na n) q⟩
    free := fun b o q n _ => by rw [upd_ne (na n), upd_ne (nd q)]; exact n
    there := fun b o q _ => by
      by_cases hb : b = a
      · exact ⟨_, by rw [hb]; exact hx⟩
      · exact ⟨o, k b o hb q⟩
    tups := fun b xs q => by rw [upd_ne (at_ne e q exo_tup), upd_ne (ne_of_none q hnd)]; exact q
    frzs := fun b o v q => by rw [upd_ne (at_ne e q exo_frz), upd_ne (ne_of_none q hnd)]; exact q
    tbls := fun b ps q => ⟨#[], by rw [upd_ne (at_ne e q exo_tbl), upd_ne (ne_of_none q hnd), q]; simp⟩ }
  refine h dx _ hnd dne (I.un (t' := tk') Un1 fun b o q => ?_)
  by_cases hb : b = a
  · subst hb
    rw [upd_same] at q
    cases q
    exact exo_ok hx
  · rw [upd_ne hb] at q
    by_cases hd : b = dx
    · subst hd
      rw [upd_same] at q
      cases q
      exact exd_ok hn (relO_put (fs := []) ry fun g => True.intro)
    · rw [upd_ne hd] at q
      exact (I.hok b o q).stay (fun c v hc z => k c v (by
          rcases hc with hc | hc
          · rw [hc]
            exact hb
          · exact at_ne e hc exo_own) z)
        (fun c hc => by rw [upd_ne (at_ne e hc exo_own), upd_ne (ne_of_none hc hnd)]; exact hc) (fun c xs hc => by rw [upd_ne (at_ne e hc exo_tup), upd_ne (ne_of_none hc hnd)]; exact hc)
end
/-- self.f = v, where self is new -/
def spIni (C : Addr) (f : Str) : Sp := fun vs H Q _ => ∃ a v, vs = [.ref a, v] ∧ H a = some (exo a C none) ∧ ∀ dx, H dx = none → dx ≠ a → Q .non (upd (upd H dx (exd dx [(f, v)])) a (exo a C (some dx)))
def tOstT (C : Addr) (f : Str) (to te : TE) : TS := fun D σ H => te σ H fun y H1 => to σ H1 fun x H2 => ∃ a : Addr, x = .ref a ∧ H2 a = some (exo a C none) ∧ ∀ dx, H2 dx = none → dx ≠ a → D.nx σ (upd (upd H2 dx (exd dx [(f, y)])) a (exo a C (some dx)))
section
variable {X : Cx} {o e : Expr} {es : List Expr} {to te : TE} {f : Str} {p p' p1 p2 p3 pos : Pos} {C : Addr} {B newId initId : String} {tl : List Value}
theorem ps_ostT (TF : TailF B newId initId tl) (T : OexG X.K C newId tl) (hno : PySem.W.findIn X.K (.ref C) f = some none) (ho : PE X o to) (he : PE X e te) (hs : swapsWith e (some (.Attribute o f p')) pos.line X.env = pure false := by rfl) :
    PS X (.Assign [.Attribute o f p'] e pos) (tOstT C f to te) := by
  refine ⟨fun pins s σ H D I h => ?_⟩
  refine plainObj_wpAny_Assign_Attribute (thn (he.run pins s σ H _ I h) fun v s1 ⟨y, H1, I1, r1, q1⟩ => thn (ho.run pins s1 σ H1 _ I1 q1) fun u s2 ⟨x, H2, I2, r2, a, ex, ea, q⟩ => ?_) hs
  subst ex
  obtain rfl : u = Value.ref a := r2
  exact ost_newT TF T I2 ea hno r1 fun dx s' n ne J => ⟨σ, _, J, q dx n ne⟩
end
section
variable {P : Program} {w : World} {K : PySem.W.Frag} {mg : Str → Option Value} {base : Heap} {x qual : Str} {params : Arguments} {body : List Stmt} {scope : Scope} {fI : Addr} {fd : FuncData} {C : Addr} {B newId initId : String} {tl : List Value} {s g f : Str} {p1 p2 p3 p4 : Pos}
/-- def __init__(self, g): self.f = g -/
theorem ok_ini (F : FunD K x qual params body scope [] [] fI fd) (S : FnScope [s, g] [s, g] scope) (TF : TailF B newId initId tl) (T : OexG K C newId tl) (hno : PySem.W.findIn K (.ref C) f = some none)
    (hb : body = [.Assign [.Attribute (.Name s p1) f p2] (.Name g p3) p4]) (vs : Vis scope s) (vg : Vis scope g) (d1 : (s == ("__debug__" : Str)) = false := by decide) (d2 : (s == ("__classdict__" : Str)) = false := by decide) (d3 : (g == ("__debug__" : Str)) = false := by decide) (d4 : (g == ("__classdict__" : Str)) = false := by decide) :
    FnOk P w K mg base CX0 1 fI fd [s, g] (spIni C f) := by
  refine F.ok (CX := CX0) S (fun vs H Q E h => ?_) (fun cdv A outer s' H vs' Q E hr h => ⟨tOstT C f (tVar 0) (tVar 1), ?_, ?_⟩)
  · obtain ⟨a, v, rfl, _⟩ := h
    rfl
  · rw [hb]
    exact pss_one (ps_ostT (X := cxOf CX0 P w K mg base [s, g] qual scope fI cdv A outer s' H E) TF T hno (pe_var rfl vs d1 d2) (pe_var rfl vg d3 d4))
  · obtain ⟨a, v, rfl, ea, q⟩ := h
    exact ⟨v, rfl, .ref a, rfl, a, rfl, ea, q⟩
end
section
variable {X : Cx} {e : Expr} {es : List Expr} {ta : TA} {p pos : Pos} {B newId initId : String} {tl : List Value}
theorem pmk_oexT {CX : CXT} {x : Str} {C fI : Addr} {k : Nat} {fd : FuncData} {ps : List Str} {sp : Sp} {ds : List Value} {dvs : List V} (TF : TailF B newId initId tl) (T : OexG X.K C newId tl) (iC : PySem.W.findIn X.K (.ref C) "__init__" = some (some (.ref fI))) (tI : PySem.W.typeIn X.K (.ref fI) = some (.type "function"))
    (F1 : FnOk X.prog X.w X.K X.mg X.base CX k fI fd ps sp) (hr : Room (k + 1) X.A) (hb : Binds X.K fd ps ds) (hd : Vals dvs ds) (hx : Passes CX X (fun _ _ _ => False)) (hg : Gl X x) (hm : X.mg x = some (.ref C)) (ha : PA X (e :: es) ta)
    (hdb : (x == ("__debug__" : Str)) = false := by decide) (he : starEach (e :: es) X.env = (false, eval e X.env) :: starEach es X.env := by rfl) (hpl : (backTo pos (starEach es X.env)).any (·.1) = false := by rfl) :
    PMk X (.Call (.Name x p) (e :: es) [] pos) (tMkO C sp dvs ta) := by
  intro pins s σ H Q I h
  obtain ⟨nm, q, N, bs, bm, sn, sub, ab, col, dd, k0, k1, k2, k3, k5, hC, hbm⟩ := T.cls
  refine wpAny_Call_Name_kw (ld_glob I hg hm ?_ hdb)
  refine PySem.W.callWith_K (h₀ := X.base) I.ok.mod.kin T.kC (thn (ha.run pos pins s σ H _ I h) fun us s1 ⟨vs, H1, I1, r1, hz, q1⟩ => ⟨I1.kIn, ?_⟩) he hpl
  show wpAny _ _ (call (.ref C) us) _ _ _
  obtain ⟨hp, g, dr, tk, os⟩ := s1
  have hsz : hp.objs.size ≤ hp.objs.size + 1 := Nat.le_succ _
  have hn : H1 (hp.objs.size + 1) = none := I1.hok.fresh hsz
  have hq := q1 (hp.objs.size + 1) hn
  have kk : ∀ b o, hp.get? b = some o → ((hp.push (PySem.W.kdv_tup us)).push (PySem.HandSPX.excO C hp.objs.size)).get? b = some o := fun b o e => Heap.get?_push_of_some _ (Heap.get?_push_of_some _ e)
  have hget : ((hp.push (PySem.W.kdv_tup us)).push (PySem.HandSPX.excO C hp.objs.size)).get? (hp.objs.size + 1) = some (PySem.HandSPX.excO C hp.objs.size) := by heap_get
  have I2 : Inv X pins σ (upd H1 (hp.objs.size + 1) (exo (hp.objs.size + 1) C none)) ⟨(hp.push (PySem.W.kdv_tup us)).push (PySem.HandSPX.excO C hp.objs.size), g, dr, tk, os⟩ :=
    I1.laid (t' := tk) (a := hp.objs.size + 1) (o := exo (hp.objs.size + 1) C none) (h' := (hp.push (PySem.W.kdv_tup us)).push (PySem.HandSPX.excO C hp.objs.size)) kk hsz (exo_ok hget)
  have r2 : Vals (V.ref (hp.objs.size + 1) :: (vs ++ dvs)) (Value.ref (hp.objs.size + 1) :: (us ++ ds)) := .cons rfl (r1.append hd)
  have hl : (Value.ref (hp.objs.size + 1) :: us ++ ds).length = ps.length := by
    have e := r2.length
    rw [F1.len _ _ _ _ hq] at e
    exact e.symm
  have hus : us.length ≤ sizeLine := by
    rw [← Paired.length r1, sizeLine_eq]
    omega
  refine wpAny_call (PySem.HandSPX.call_own TF.base (fun Y => refsT_contains TF Y bm hbm) (I1.kIn _ _ hC) (PySem.W.looks_findIn I1.kIn iC) (fun self => PySem.W.bind_fn I1.kIn self tI) hus
    (codeAny_mono (F1.run _ X.stack _ _ ⟨Value.ref (hp.objs.size + 1) :: us, []⟩ (Value.ref (hp.objs.size + 1) :: (us ++ ds)) _ _ (fun _ _ _ => False) (hr.make C us []) (I2.env0.make C us []) (hb _ (Value.ref (hp.objs.size + 1) :: us) I2.kIn hl) r2 hq) fun r s' hq' => ?_))
  cases r with
  | error er => exact hx pins σ _ _ er s' I2 hq'
  | ok fl =>
    cases fl with
    | ret u =>
      obtain ⟨v, H2, os2, bare2, un2, hok2, rv, ev, d, fs, ea, ed, hd1, q2⟩ := hq'
      subst ev
      obtain ⟨h2, g2, d2, t2, os'⟩ := s'
      exact ⟨rv, mk_end (raises_own T.exC T.tyC) I1 hsz kk un2 hok2 os2 bare2 ea ed hd1 q2⟩
    | next => exact False.elim hq'
    | brk => exact False.elim hq'
    | cont => exact False.elim hq'
end
/-- an own class of exceptions that keeps one value in f -/
structure ExfC (P : Program) (w : World) (K : PySem.W.Frag) (mg : Str → Option Value) (base : Heap) (nm f : Str) : Prop where
  oe : ∃ (B newId initId : String) (tl : List Value) (fI : Addr) (fd : FuncData) (ps : List Str), TailF B newId initId tl ∧ OexG K (He.ga K nm) newId tl ∧ PySem.W.findIn K (.ref (He.ga K nm)) "__init__" = some (some (.ref fI)) ∧ PySem.W.typeIn K (.ref fI) = some (.type "function") ∧
    FnOk P w K mg base CX0 1 fI fd ps (spIni (He.ga K nm) f) ∧ Binds K fd ps []
  mg : mg nm = some (.ref (He.ga K nm))
section
variable {X : Cx} {e : Expr} {p p2 pos : Pos} {R : Exc → En → Prop} {nm f : Str}
def wRaiseF (R : Exc → En → Prop) (nm f : Str) (w : WE) : WS := fun _ en => w en fun d e1 => R ⟨nm, [f], [d]⟩ e1
theorem s_raiseF {w : WE} (c : ExfC X.prog X.w X.K X.mg X.base nm f) (hc : X.calm = true) (hr : Room 2 X.A) (tk : Takes X (wxOf X.K ζ R)) (he : PE X e (lE X.K ζ w)) (hg : Gl X nm := by rfl)
    (hs : starEach (e :: []) X.env = (false, eval e X.env) :: starEach [] X.env := by rfl) (hpl : (backTo p2 (starEach [] X.env)).any (·.1) = false := by rfl) (hdb : (nm == ("__debug__" : Str)) = false := by decide) :
    PS X (.Raise (some (.Call (.Name nm p) [e] [] p2)) none pos) (lS X.K ζ (wRaiseF R nm f w)) := by
  obtain ⟨⟨B, newId, initId, tl, fI, fd, ps, TF, T, iC, tI, F1, hb⟩, hm⟩ := c
  refine (ps_raise hc tk (pmk_oexT TF T iC tI F1 hr hb .nil pass0 hg hm (pa_cons he pa_nil hs) hdb hs hpl)).mo fun R' σ H ⟨G, en, I, Ed', o, q, k⟩ => ?_
  refine ⟨G, en, I, _, o, q, fun v H1 I1 e1 d o1 x1 dv q1 => ⟨by show 1 ≤ 1000; decide, fun a ha => ?_⟩⟩
  refine ⟨a, v, rfl, upd_same, fun dx hdx hne => ⟨rfl, dx, [(f, v)], upd_same, by rw [upd_ne hne, upd_same], ?_, ?_⟩⟩
  · rw [upd_ne hne] at hdx; exact hdx
  · rw [upd_ne hne] at hdx
    have eH : upd (del (upd (upd (upd H1 a (exo a (He.ga X.K nm) none)) dx (exd dx [(f, v)])) a (exo a (He.ga X.K nm) (some dx))) a) dx (.xd [(f, v)]) = upd H1 dx (.xd [(f, v)]) := by
      funext b
      by_cases h1 : b = dx
      · rw [h1, upd_same, upd_same]
      · rw [upd_ne h1, upd_ne h1]
        by_cases h2 : b = a
        · rw [h2, del_same, ha]
        · rw [del_ne h2, upd_ne h2, upd_ne h1, upd_ne h2]
    rw [eH]
    have g := Gr.nw (u := .xd [(f, v)]) o1.iH hdx
    exact ⟨e1, _, _, (o1.gr g).z, ⟨rfl, Or.inr ⟨dx, [v], rfl, upd_same, rfl, .cons (dv.up g.i) .nil⟩⟩, q1⟩
end
end Pd

set_option Elab.async false
set_option linter.all false
set_option maxRecDepth 100000
set_option maxHeartbeats 4000000
/-! A lambda without parameters handed to a def, over data. -/
namespace Pd
open PySem PySem.Spec PyProof.Rows L2 LamX
/-- nothing was written but a table of T, and a code object laid -/
def TabW (T : List (Addr × Str)) (H H1 : Hp) : Prop := H1 = H ∨ ∃ (P : Addr) (ps : Array Value) (c : Addr) (q : Str), P ∈ T.map (·.1) ∧ H c = none ∧ H1 = upd (upd H P (.tbl ps)) c (CodeO c q)
section
variable {X : Cx} {pins : List (Addr × Obj)} {σ : L2.St} {H : Hp} {s : Shared}
end
section
variable {X : Cx}
end
/-- the state behind the making of a lambda -/
theorem Ok.tab {K : PySem.W.Frag} {G : Gh} {σ : Sg} {en : En} {H I H1 : Hp} (o : Ok K ζ G σ en H I) (w : TabW ζ.T H H1) (t : Tabs ζ.T H1) : Ok K ζ G σ en H1 I := by
  rcases w with rfl | ⟨P, ps, c, q, hP, nC, rfl⟩
  · exact o
  · have at_ : ∀ {a : Addr} {u : HO}, H a = some u → ¬ isTb ζ a → upd (upd H P (.tbl ps)) c (CodeO c q) a = some u := fun {a u} h n => by
      rw [upd_ne (ne_of_none h nC), upd_ne fun e => n (by rw [e]; exact hP)]
      exact h
    have inI : ∀ {a : Addr} {u : HO}, I a = some u → ¬ isTb ζ a := fun {a u} h n => by rw [o.tg a n] at h; cases h
    refine ⟨o.i0, fun a u h => at_ (o.iH a u h) (inI h), o.nw, fun a u h1 h2 h3 => at_ (o.fr a u h1 h2 h3) h3, o.ln, fun i s h => ?_, o.ml, o.ds, o.pj, fun p hp => ?_, o.pn, o.tg, t, o.lk⟩
    · have r := o.sl i s h
      cases s with
      | un => trivial
      | scr ns => exact r
      | adr a => exact r
      | fnv nm => exact r
      | lam q0 P0 => obtain ⟨f, c', r1, r2, r3⟩ := r; exact ⟨f, c', r1, r2, at_ r3 (o.ntc r3)⟩
      | exc a dx ns ds => exact r
      | imm d => exact r
      | own es =>
        obtain ⟨l, vs, r1, r2, r3, r4⟩ := r
        exact ⟨l, vs, r1, r2, at_ r3 (o.ntb r3 trivial), r4⟩
    · obtain ⟨r1, r2, r3⟩ := o.pr p hp
      exact ⟨at_ r1 (o.ntb r1 (o.pn p hp)), r2, r3⟩
theorem Gr.tr {H I H1 I1 H2 I2 : Hp} (a : Gr H I H1 I1) (b : Gr H1 I1 H2 I2) : Gr H I H2 I2 := ⟨a.h.tr b.h, a.i.tr b.i, b.s, fun x h1 h2 => by
  cases h : I1 x with
  | none => exact Ex.no a.h (b.n x h1 h)
  | some u => exact a.n x (by rw [h]; simp) h2⟩
/-- one's own lists out of sight -/
def hide (en : En) : En := en.map fun s => match s with
  | .own _ => .un
  | s => s
end Pd

set_option Elab.async false
set_option linter.all false
set_option maxRecDepth 100000
set_option maxHeartbeats 4000000
/-! try with any number of clauses, with a name or without. -/
namespace Pd
open PySem PySem.Spec PyProof.Rows L2
abbrev Sui := Addr → Value → Option Addr → TS
/-- a clause: its class, the slot of its name, its suite -/
abbrev Cla := Value × Option Nat × Sui
inductive ClaOk (X : Cx) : List ExceptHandler → List Cla → Prop
  | nil : ClaOk X [] []
  | plain {x : Str} {c : Value} {ts : Sui} {b₀ : Stmt} {suite : List Stmt} {np pos' : Pos} {hds : List ExceptHandler} {l : List Cla} (hc : Names X x c)
      (hsu : ∀ (a : Addr) (oe : Obj) (cls : Value) (d : Option Addr) (pn : List (Addr × Obj)), Zc cls d oe → (∃ vs, oe.data = .fields vs) → PSs (X.suite a ((a, oe) :: pn)) (b₀ :: suite) (ts a cls d)) (r : ClaOk X hds l) :
      ClaOk X (.ExceptHandler (some (.Name x np)) none (b₀ :: suite) pos' :: hds) ((c, none, ts) :: l)
  | named {x n : Str} {i : Nat} {c : Value} {ts : Sui} {b₀ : Stmt} {suite : List Stmt} {np pos' : Pos} {hds : List ExceptHandler} {l : List Cla} (hN : X.N.Nodup) (hi : X.N[i]? = some n) (hl : X.env.kindOf n = some .local) (hc : Names X x c)
      (hsu : ∀ (a : Addr) (oe : Obj) (cls : Value) (d : Option Addr) (pn : List (Addr × Obj)), Zc cls d oe → (∃ vs, oe.data = .fields vs) → PSs (X.suite a ((a, oe) :: pn)) (b₀ :: suite) (ts a cls d)) (r : ClaOk X hds l) :
      ClaOk X (.ExceptHandler (some (.Name x np)) (some n) (b₀ :: suite) pos' :: hds) ((c, some i, ts) :: l)
section
variable {X : Cx} {body : List Stmt} {h₀ : ExceptHandler} {hds : List ExceptHandler} {l : List Cla} {pos : Pos} {tb : WX → TS} {Wout : WX}
end
end Pd

set_option Elab.async false
set_option linter.all false
set_option maxRecDepth 100000
set_option maxHeartbeats 4000000
/-! def met(call): try: call() except .. : return ..; return ..: over data. -/
namespace Pd
open PySem PySem.Spec PyProof.Rows L2 LamX
/-- a clause over data: the class's name, the slot of its name, its suite (the exception's object, its dict) -/
abbrev ClaD := Str × Option Nat × (Addr → Addr → Str → WS)
def enU (n : Nat) : En := List.replicate n .un
/-- the suite hands back -/
def edR (Q : D → Prop) : Ed := { nx := fun _ => False, rt := fun d _ => Q d }
def clW (exB : Str → Str → Option Bool) (n : Nat) : List ClaD → Exc → (D → Prop) → Prop
  | [], _, _ => False
  | (c, none, ws) :: r, e, Q => ∃ b, exB e.nm c = some b ∧ if b = true then ∀ a dx, ws a dx e.nm (edR Q) (enU n) else clW exB n r e Q
  | (c, some i, ws) :: r, e, Q => ∃ b, exB e.nm c = some b ∧ if b = true then e.ns ≠ [] ∧ ∀ a dx, ws a dx e.nm (edR Q) ((enU n).set i (.exc a dx e.ns e.ds)) else clW exB n r e Q
section
variable {X : Cx} {x a : Str} {g : Addr} {cdg : Value} {sg : Scope} {Ng : List Str} {q : Str} {hds : List ExceptHandler} {h₀ : ExceptHandler} {last : List Stmt} {cl : List ClaD} {wl : WS} {exB : Str → Str → Option Bool} {p1 p2 p3 p4 : Pos} {n : Nat}
end
end Pd

set_option Elab.async false
set_option linter.all false
set_option maxRecDepth 100000
set_option maxHeartbeats 4000000
/-! met(lambda: ..) at its call; clauses' parts; error.f. -/
namespace Pd
open PySem PySem.Spec PyProof.Rows L2 LamX
theorem hide_get {en : En} {i : Nat} {s : Sl} (h : (hide en)[i]? = some s) : (s = .un) ∨ (en[i]? = some s ∧ ∀ ds, s ≠ .own ds) := by
  unfold hide at h
  rw [List.getElem?_map] at h
  cases q : en[i]? with
  | none => rw [q] at h; cases h
  | some t =>
    rw [q] at h
    cases t with
    | own ds => cases h; exact Or.inl rfl
    | _ => cases h; exact Or.inr ⟨rfl, fun ds e => by cases e⟩
theorem Ok.hid {K : PySem.W.Frag} {G : Gh} {σ : Sg} {en : En} {H I : Hp} (o : Ok K ζ G σ en H I) : Ok K ⟨[], fun _ _ => Gr H I⟩ ⟨H, I, none, []⟩ σ (hide en) H I := by
  have no : ∀ (i : Nat) (l : Addr), ¬ OwnAt σ (hide en) i l := fun i l ⟨_, ds, h⟩ => by
    rcases hide_get h with e | ⟨_, e⟩
    · cases e
    · exact e ds rfl
  refine ⟨Ex.rf I, o.iH, fun a _ h => h, fun a u h _ _ => h, by unfold hide; rw [List.length_map]; exact o.ln, fun i s h => ?_, fun i l h => absurd h (no i l), fun i j l h => absurd h (no i l), fun l h => (by cases h), fun p hp => (by cases hp), fun p hp => (by cases hp), fun _ h => isTb_Nil h, Tabs_nil, fun _ _ _ _ c => Gr.core rfl c⟩
  rcases hide_get h with e | ⟨e, _⟩
  · rw [e]; trivial
  · exact o.sl i s e
def wMet (exB : Str → Str → Option Bool) (n : Nat) (cl : List ClaD) (wl : WS) (wb : (Exc → En → Prop) → WE) : WE := fun en Q => wb (fun e _ => clW exB n cl e fun z => Q z en) (hide en) fun _ _ => wl (edR fun z => Q z en) (enU n)
section
variable {X : Cx} {x a : Str} {g c P : Addr} {fd : FuncData} {k n : Nat} {pg : Arguments} {bg : List Stmt} {sg : Scope} {Ng : List Str} {params : Arguments} {body : Expr} {scope : Scope} {p lpos pos : Pos} {exB : Str → Str → Option Bool} {cl : List ClaD} {wl : WS} {wb : (Exc → En → Prop) → WE}
/-! ### clauses -/
/-! ### error.f -/
end
/-! ### repr -/
end Pd

set_option Elab.async false
set_option linter.all false
set_option maxRecDepth 100000
set_option maxHeartbeats 4000000
/-! Defs around which nothing is shown (no guard), tables; the law's end. -/
namespace Pd
open PySem PySem.Spec PyProof.Rows L2 LamX
structure FnG (P : Program) (w : World) (K : PySem.W.Frag) (mg : Str → Option Value) (base : Heap) (k : Nat) (f : Addr) (fd : FuncData) (ps : List Str) (sp : Sp) : Prop where
  len : ∀ vs H Q E, sp vs H Q E → vs.length = ps.length
  run : ∀ (A : Around) (outer : List Env) (s : Shared) (H : Hp) (args : Args) (us : List Value) (vs : List V) (Q : VK), A.guards = some [] → Room k A → Env0 P w K mg base A outer s H → BindsTo s fd args (ps.zip us) → Vals vs us → sp vs H Q E0 →
    codeAny (model P w) A (.call (.ref f) args) (CR CX0 outer P w H s Q E0) s
section
variable {P : Program} {w : World} {K : PySem.W.Frag} {mg : Str → Option Value} {base : Heap} {x qual : Str} {params : Arguments} {body : List Stmt} {scope : Scope} {fd : FuncData} {N ps : List Str} {k : Nat}
theorem fun_g {p : He.Defn} {sp : Sp} (F : FunD K x qual params body scope [] [] (He.fAd K p) fd) (S : FnScope N ps scope) (len : ∀ vs H Q E, sp vs H Q E → vs.length = ps.length)
    (hb : ∀ (A : Around) (outer : List Env) (s : Shared) (H : Hp) (vs : List V) (Q : VK), A.guards = some [] → Room k (A.deeper (envOfC qual scope s.heap.objs.size (He.fAd K p) (.ref (He.codeOf K p)))) → sp vs H Q E0 →
      ∃ t, PSs (cxOf CX0 P w K mg base N qual scope (He.fAd K p) (.ref (He.codeOf K p)) A outer s H E0) body t ∧ t { nx := fun _ H' => Q .non H', rt := Q } (L2.start N vs) H) : FnG P w K mg base (k + 1) (He.fAd K p) fd ps sp := by
  obtain ⟨oc, od, dV, kV, doc, pm, an, cdv, ct, osl, rfl, lk, hcd, _, _⟩ := F.ex
  obtain ⟨c, rfl⟩ := He.codeIn_ref hcd
  have e : He.codeOf K p = c := He.codeOf_eq lk rfl
  subst e
  exact ⟨len, fun A outer s H args us vs Q hg hr e0 hbd r hs => run_ofS lk hcd S hr e0 hbd r (len _ _ _ _ hs) fun hr' => hb A outer s H vs Q hg hr' hs⟩
end
def spST (K : PySem.W.Frag) (T : List (Addr × Str)) (n : Nat) (wf : WSc) : Sp := fun vs H Q _ => ∃ (a : Addr) (ns : List Int) (us : List V) (ds : List D) (I : Hp) (Q' : D → Prop),
  vs = .ref a :: us ∧ Ex I H ∧ SqS K I a (ns.map V.int) ∧ DaAll K I us ds ∧ ds.length + 1 = n ∧ Tabs T H ∧ (∀ a ∈ T.map (·.1), I a = none) ∧ wf ns ds Q' ∧ ∀ v H' I' d, Da K I' v d → Q' d → Q v H'
/-- with tables T -/
abbrev ζT (T : List (Addr × Str)) : Zt := ⟨T, fun _ _ _ _ => True⟩
section
variable {P : Program} {w : World} {K : PySem.W.Frag} {mg : Str → Option Value} {base : Heap} {x qual : Str} {params : Arguments} {body : List Stmt} {scope : Scope} {fd : FuncData} {N ps : List Str} {k : Nat} {T : List (Addr × Str)}
end
section
variable {X : Cx} {e : Expr} {es : List Expr} {pos p : Pos} {x : Str} {k n : Nat} {ps : List Str} {f : Addr} {fd : FuncData} {sp : Sp} {t : TA}
end
end Pd

set_option Elab.async false
set_option linter.all false
set_option maxRecDepth 100000
set_option maxHeartbeats 4000000
/-! The law's own def with tables, and the row's end. -/
namespace Pd
open PySem PySem.Spec PyProof.Rows L2 LamX
theorem enS_get {K : PySem.W.Frag} {N : List Str} {a : Addr} {us : List V} {ns : List Int} {ds : List D} {I : Hp} (h2 : DaAll K I us ds) : ∀ (i : Nat) (s : Sl), (enS N ns ds)[i]? = some s → (i = 0 ∧ s = .scr ns) ∨ (∃ d v, Da K I v d ∧ s = .imm d ∧ (L2.start N (V.ref a :: us))[i]? = some (some v)) ∨ s = .un := fun i s hs => by
  have hl : us.length = ds.length := dpa_len h2
  unfold enS at hs
  cases i with
  | zero => exact Or.inl ⟨rfl, by simpa using hs.symm⟩
  | succ i =>
    rw [List.getElem?_cons_succ] at hs
    by_cases hi : i < ds.length
    · rw [List.getElem?_append_left (by rw [List.length_map]; exact hi), List.getElem?_map] at hs
      cases q : ds[i]? with
      | none => rw [q] at hs; cases hs
      | some d =>
        rw [q] at hs
        cases hs
        obtain ⟨v, hv, dv⟩ := dpa_get h2 q
        refine Or.inr (Or.inl ⟨d, v, dv, rfl, ?_⟩)
        unfold L2.start
        rw [List.getElem?_append_left (by rw [List.length_map, List.length_cons, hl]; omega), List.getElem?_map, List.getElem?_cons_succ, hv]
        rfl
    · rw [List.getElem?_append_right (by rw [List.length_map]; omega), List.getElem?_replicate] at hs
      split at hs
      · cases hs; exact Or.inr (Or.inr rfl)
      · cases hs
section
variable {P : Program} {w : World} {K : PySem.W.Frag} {mg : Str → Option Value} {base : Heap} {x qual : Str} {params : Arguments} {body : List Stmt} {scope : Scope} {fd : FuncData} {N ps : List Str} {k : Nat} {T : List (Addr × Str)}
theorem fnST {p : He.Defn} {wf : WSc} {ws : WS} {n : Nat} (F : FunD K x qual params body scope [] [] (He.fAd K p) fd) (S : FnScope N ps scope) (hn : ps.length = n)
    (hb : ∀ (A : Around) (outer : List Env) (s : Shared) (H : Hp), A.guards = some [] → Room k (A.deeper (envOfC qual scope s.heap.objs.size (He.fAd K p) (.ref (He.codeOf K p)))) → PSs (cxOf CX0 P w K mg base N qual scope (He.fAd K p) (.ref (He.codeOf K p)) A outer s H E0).nox body (lS K (ζT T) ws))
    (hp : ∀ ns ds Q', ds.length + 1 = n → wf ns ds Q' → ws (edP Q') (enS N ns ds)) : FnG P w K mg base (k + 1) (He.fAd K p) fd ps (spST K T n wf) := by
  refine fun_g F S (fun vs H Q E h => ?_) fun A outer s H vs Q hg hr h => ?_
  · obtain ⟨a, ns, us, ds, I, Q', rfl, _, _, h6, h7, _⟩ := h
    rw [List.length_cons, dpa_len h6, h7, hn]
  · obtain ⟨a, ns, us, ds, I, Q', rfl, h1, h0, h2, h3, ht, hi, h4, h5⟩ := h
    refine ⟨lS K (ζT T) ws, PSs.nox (hb A outer s H hg hr), ?_⟩
    have hl : us.length = ds.length := dpa_len h2
    have get_ := fun i s => enS_get (N := N) (a := a) (ns := ns) h2 i s
    have s0 : (L2.start N (V.ref a :: us))[0]? = some (some (V.ref a)) := by unfold L2.start; simp
    have no : ∀ (i : Nat) (l : Addr), ¬ OwnAt (L2.start N (V.ref a :: us)) (enS N ns ds) i l := fun i l ⟨_, es, q2⟩ => by
      rcases get_ i _ q2 with ⟨_, e⟩ | ⟨_, _, _, e, _⟩ | e <;> cases e
    have o : Ok K (ζT T) ⟨H, I, none, []⟩ (L2.start N (V.ref a :: us)) (enS N ns ds) H I := by
      refine ⟨Ex.rf I, h1, fun a _ h => h, fun a o h _ _ => h, ?_, fun i s hs => ?_, fun i l h => absurd h (no i l), fun i j l h => absurd h (no i l), fun l h => (by cases h), fun p hp => (by cases hp), fun p hp => (by cases hp), hi, ht, fun _ _ _ _ _ => trivial⟩
      · unfold L2.start enS
        rw [List.length_append, List.length_map, List.length_replicate, List.length_cons, List.length_cons, List.length_append, List.length_map, List.length_replicate]
        omega
      · rcases get_ i s hs with ⟨e1, e2⟩ | ⟨d, v, q3, e, q5⟩ | e
        · subst e1 e2
          exact ⟨a, s0, h0⟩
        · subst e
          exact ⟨v, q5, q3⟩
        · subst e; trivial
    exact lS_mk o (hp ns ds Q' h3 h4) ⟨fun σ' H' I' en' o' q => h5 .non H' I' .none .non q, fun v σ' H' I' en' d o' dv q => h5 v H' I' d dv q, fun _ _ _ _ _ q => q.elim, fun _ _ _ _ _ q => q.elim⟩
end
/-- the law hands back True -/
theorem law_spT {K : PySem.W.Frag} {n : Nat} {H : Hp} {a : Addr} {ns : List Int} {T : List (Addr × Str)} (hn : ns.length ≤ n) (ht : Tabs T H) (hS : (∃ o, H a = some (.frz o (.lst (ns.map V.int)))) ∨ ∀ H', SqL K H' a (ns.map V.int)) (haT : a ∉ T.map (·.1)) : spST K T 1 (wfLaw n) [.ref a] H (fun v _ => v = .bl true) E0 := by
  refine ⟨a, ns, [], [], fun b => if b = a then H a else none, fun d => d = .bool true, rfl, fun b u h => ?_, ?_, .nil, rfl, ht, fun b hb => if_neg fun e => haT (by rw [← e]; exact hb), ⟨rfl, hn, rfl⟩, fun v H' I' d dv hd => by subst hd; exact dp_bl dv⟩
  · have h : (if b = a then H a else none) = some u := h
    by_cases e : b = a
    · rw [if_pos e] at h; rw [e]; exact h
    · rw [if_neg e] at h; cases h
  · rcases hS with ⟨o, h⟩ | h
    · exact Or.inl ⟨o, (if_pos rfl).trans h⟩
    · exact Or.inr h
/-- the tables cs and the script, as they stand at the law's call -/
structure Start (K : PySem.W.Frag) (h : Heap) (H : Hp) (a : Addr) (vs : List Value) (ns : List Int) (cs : List (Addr × Addr)) : Prop where
  tb : ∀ p ∈ cs, H p.2 = some (.tbl #[])
  only : ∀ b u, H b = some u → (b = a ∧ u = .frz { cls := .type "list", data := .seq vs.toArray } (.lst (ns.map V.int)) ∧ K.lookup a = none) ∨ (∃ p ∈ cs, b = p.2 ∧ u = .tbl #[])
  sq : (∃ o, H a = some (.frz o (.lst (ns.map V.int)))) ∨ ∀ H', SqL K H' a (ns.map V.int)
theorem start_ex {K : PySem.W.Frag} {h : Heap} {a : Addr} {vs : List Value} {ns : List Int} {cs : List (Addr × Addr)} (KX : K.In h) (hT : ∀ p ∈ cs, h.get? p.2 = some { cls := .none, data := .fields #[] }) (ha : h.get? a = some { cls := .type "list", data := .seq vs.toArray }) (hi : IntsAre vs ns) (hl : ns.length ≤ sizeLine) :
    ∃ H, Start K h H a vs ns cs := by
  have aT : ∀ p ∈ cs, p.2 ≠ a := fun p hp e => by
    have q := hT p hp
    rw [e, ha] at q
    cases q
  have tb1 : ∀ p ∈ cs, p.2 ∈ cs.map (·.2) := fun p hp => List.mem_map.mpr ⟨p, hp, rfl⟩
  cases hk : K.lookup a with
  | some o =>
    have e := KX a o hk
    rw [ha] at e
    cases e
    refine ⟨fun b => if b ∈ cs.map (·.2) then some (.tbl #[]) else none, fun p hp => if_pos (tb1 p hp), fun b u hu => ?_, Or.inr fun H' => Or.inr ⟨_, vs.toArray, _, hk, rfl, rfl, rfl, by rw [List.size_toArray, hi.length]; exact hl, by simpa using vals_ints hi⟩⟩
    by_cases hb : b ∈ cs.map (·.2)
    · have hu' := (if_pos hb).symm.trans hu
      obtain ⟨p, hp, e⟩ := List.mem_map.mp hb
      exact Or.inr ⟨p, hp, e.symm, (Option.some.inj hu').symm⟩
    · have hu' := (if_neg hb).symm.trans hu
      cases hu'
  | none =>
    refine ⟨fun b => if b = a then some (.frz { cls := .type "list", data := .seq vs.toArray } (.lst (ns.map V.int))) else if b ∈ cs.map (·.2) then some (.tbl #[]) else none, fun p hp => (if_neg (aT p hp)).trans (if_pos (tb1 p hp)), fun b u hu => ?_, Or.inl ⟨_, if_pos rfl⟩⟩
    by_cases hba : b = a
    · have hu' := (if_pos hba).symm.trans hu
      exact Or.inl ⟨hba, (Option.some.inj hu').symm, hk⟩
    · have hu1 := (if_neg hba).symm.trans hu
      by_cases hb : b ∈ cs.map (·.2)
      · have hu' := (if_pos hb).symm.trans hu1
        obtain ⟨p, hp, e⟩ := List.mem_map.mp hb
        exact Or.inr ⟨p, hp, e.symm, (Option.some.inj hu').symm⟩
      · have hu' := (if_neg hb).symm.trans hu1
        cases hu'
section
variable {P : Program} {w : World} {K : PySem.W.Frag} {mg mb : Str → Option Value} {k : Nat} {fa a : Addr} {cs : List (Addr × Addr)} {fd : FuncData} {x : Str} {sp : Sp} {s₁ : Shared} {vs : List Value} {ns : List Int}
/-- the law's call, in a heap of which the script and the tables are known -/
theorem law_callG (KX : K.In s₁.heap) (hns : s₁.heap.Ns mainGlobals mg) (hb : s₁.heap.Ns builtinsNs mb) (hbb : ∀ x : Str, x ≠ "__name__" → mb x = bootBuiltins x) (hlim : s₁.heap.NoLimit) (hg : s₁.gens = #[])
    (hT : ∀ p ∈ cs, s₁.heap.get? p.2 = some { cls := .none, data := .fields #[] }) (nT : ∀ p ∈ cs, K.lookup p.2 = none) (C : ∀ p ∈ cs, PySem.W.CodeHd s₁.heap p.1 p.2)
    (hbm : ∃ (bm : Addr) (ob : Obj), mg "__builtins__" = some (.ref bm) ∧ bm ≠ builtinsNs ∧ s₁.heap.get? bm = some ob ∧ ob.cls = .type "module" ∧ ob.dict = some builtinsNs ∧ ob.data = .plain)
    (ha : s₁.heap.get? a = some { cls := .type "list", data := .seq vs.toArray }) (hi : IntsAre vs ns) (hl : ns.length ≤ sizeLine) (hr : Room k callerA)
    (F : ∀ base : Heap, K.In base → base.Ns mainGlobals mg → (∀ p ∈ cs, TabB base mg p.1 p.2) → FnG P w K mg base k fa fd [x] sp) (hbind : ∀ (s : Shared) (u : Value), BindsTo s fd ⟨[u], []⟩ [(x, u)])
    (hsp : ∀ H : Hp, Start K s₁.heap H a vs ns cs → sp [.ref a] H (fun v _ => v = .bl true) E0) :
    codeAny (model P w) callerA (.call (.ref fa) ⟨[.ref a], []⟩) (fun r s' => r = .ok (.ret (.bool true)) ∧ OldK s₁.heap s'.heap ∧ s'.os = s₁.os ∧ AllBare s'.gens) s₁ := by
  obtain ⟨H, S⟩ := start_ex KX hT ha hi hl
  -- what is tracked is a list or an empty record
  have kinds : ∀ {b : Addr} {u : HO} {o : Obj}, H b = some u → s₁.heap.get? b = some o → (∃ vs n, o.data = .seq vs n) ∨ o = { cls := .none, data := .fields #[] } := fun {b u o} h e => by
    rcases S.only b u h with ⟨rfl, _, _⟩ | ⟨p, hp, rfl, _⟩
    · rw [ha] at e; cases e; exact Or.inl ⟨_, _, rfl⟩
    · rw [hT p hp] at e; cases e; exact Or.inr rfl
  have free : ∀ {b : Addr} {o : Obj}, s₁.heap.get? b = some o → (∀ vs n, o.data ≠ .seq vs n) → o.data ≠ .fields #[] → H b = none := fun {b o} e h1 h2 => by
    cases q : H b with
    | none => rfl
    | some u =>
      rcases kinds q e with ⟨vs, n, z⟩ | z
      · exact absurd z (h1 vs n)
      · exact absurd (by rw [z]) h2
  have low : ∀ {b : Addr} {o : Obj}, s₁.heap.get? b = some o → (∀ vs n, o.data ≠ .seq vs n) → o.data ≠ .fields #[] → (hidT s₁.heap H).get? b = some o := fun e h1 h2 => hidT_get e (free e h1 h2)
  have spaces : ∀ {b : Addr} {m : Str → Option Value}, s₁.heap.Ns b m → (hidT s₁.heap H).Ns b m := fun {b m} ⟨o, es, ep, e, d, r⟩ => ⟨o, es, ep, low e (fun _ _ z => by rw [d] at z; cases z) (fun z => by rw [d] at z; cases z), d, r⟩
  have KB : K.In (hidT s₁.heap H) := fun b o e => hidT_get (KX b o e) (by
    cases q : H b with
    | none => rfl
    | some u =>
      rcases S.only b u q with ⟨rfl, _, z⟩ | ⟨p, hp, rfl, _⟩
      · rw [z] at e; cases e
      · rw [nT p hp] at e; cases e)
  have hM : L2.Mod K mg (hidT s₁.heap H) := ⟨KB, spaces hns, ⟨mb, spaces hb, hbb⟩, let ⟨mc, h1, h2⟩ := hlim; ⟨mc, spaces h1, h2⟩⟩
  have TB : ∀ p ∈ cs, TabB (hidT s₁.heap H) mg p.1 p.2 := fun p hp => by
    refine ⟨?_, ?_, fun z => ?_⟩
    · obtain ⟨o, us, file, tf, flags, tg, inF, text, tt, e1, r1, r2, r3, rest⟩ := C p hp
      exact ⟨o, us, file, tf, flags, tg, inF, text, tt, low e1 (fun _ _ z => by rw [r2] at z; cases z) (fun z => by rw [r2] at z; cases z; simp at r3), r1, r2, r3, rest⟩
    · obtain ⟨bm, ob, b1, b2, b3, b4, b5, b6⟩ := hbm
      refine ⟨bm, ob, b1, b2, fun q => ?_, fun q => ?_, low b3 (fun _ _ z => by rw [b6] at z; cases z) (fun z => by rw [b6] at z; cases z), b4, b5, b6⟩
      · obtain ⟨o, es, ep, e, d, _⟩ := hns
        rw [q, e] at b3
        cases b3
        rw [d] at b6
        cases b6
      · rw [q, hT p hp] at b3
        cases b3
        cases b6
    · obtain ⟨o, es, ep, e, d, _⟩ := hns
      rw [z, hT p hp] at e
      cases e
      cases d
  have hok : HOk P w H s₁.heap := fun b u h => by
    rcases S.only b u h with ⟨rfl, rfl, _⟩ | ⟨p, hp, rfl, rfl⟩
    · exact ⟨ha, by rw [List.length_map]; exact hl, vs, _, vals_ints hi, ha⟩
    · exact hT p hp
  have e0 : Env0 P w K mg (hidT s₁.heap H) callerA [] s₁ H := ⟨rfl, hM, fun b o e => of_hidT e, Nat.le_of_eq (hidT_size _ _), trivial, fun b hb => absurd (show b ∈ ([] : List Addr) from hb) (by simp), hok, .of_eq hg⟩
  refine codeAny_mono ((F _ KB (spaces hns) TB).run callerA [] s₁ H ⟨[.ref a], []⟩ [.ref a] [.ref a] _ rfl hr e0 (hbind s₁ (.ref a)) (.cons rfl .nil) (hsp H S)) fun r s' h => ?_
  match r, h with
  | .error e, h => exact (show False from h).elim
  | .ok .next, h => exact False.elim h
  | .ok .brk, h => exact False.elim h
  | .ok .cont, h => exact False.elim h
  | .ok (.ret u), ⟨v, H', os, bare, un, hok', r', q⟩ =>
    have q' : v = .bl true := q
    subst q'
    obtain rfl : u = Value.bool true := r'
    have same : ∀ b o, (∀ p ∈ cs, b ≠ p.2) → s₁.heap.get? b = some o → s'.heap.get? b = some o := fun b o nb e => by
      cases q : H b with
      | none => exact un.keep b o e q (fun z => absurd (show b ∈ ([] : List Addr) from z) (by simp)) (by simp)
      | some u =>
        rcases S.only b u q with ⟨e2, rfl, _⟩ | ⟨p, hp, e2, _⟩
        · obtain ⟨e3, _⟩ := hok' b _ (un.frzs b _ _ q)
          rw [e2, ha] at e
          cases e
          exact e3
        · exact absurd e2 (nb p hp)
    have more : ∀ p ∈ cs, ∃ ms : Array Value, s'.heap.get? p.2 = some { cls := .none, data := .fields ms } := fun p hp => by
      obtain ⟨ms, z⟩ := un.tbls p.2 #[] (S.tb p hp)
      exact ⟨_, hok' p.2 _ z⟩
    refine ⟨rfl, ⟨fun b o e => ?_, fun b o e => ?_⟩, os, bare⟩
    · by_cases hc : ∀ p ∈ cs, b ≠ p.2
      · exact .inl (same b o hc e)
      · obtain ⟨p, hp, hn⟩ : ∃ p ∈ cs, b = p.2 := by
          refine Classical.byContradiction fun z => hc fun p hp e => z ⟨p, hp, e⟩
        subst hn
        obtain ⟨ms, hm⟩ := more p hp
        rw [hT p hp] at e
        cases e
        exact .inr (.inl ⟨((C p hp).tab (hT p hp)).isCodeTable, rfl, #[], ms, rfl, by rw [Array.empty_append]; exact hm⟩)
    · by_cases hc : ∀ p ∈ cs, b ≠ p.2
      · exact ⟨o, same b o hc e⟩
      · obtain ⟨p, hp, hn⟩ : ∃ p ∈ cs, b = p.2 := by
          refine Classical.byContradiction fun z => hc fun p hp e => z ⟨p, hp, e⟩
        subst hn
        obtain ⟨ms, hm⟩ := more p hp
        exact ⟨_, hm⟩
end
/-- a law row's end -/
theorem walk_ofG {l : PySem.W.OpenLaw} {n k : Nat} {q : Program} {loose : List Str} {XP : (Str → Option Value) → Heap → Prop} {YP : World → Heap → Prop} {d : DefRec} {x : Str} (hn : l.most = some n) (hn2 : n ≤ sizeLine) (hdf : d.params.defaults = []) (hr : Room k callerA)
    (F : ∀ (w : World) (mg : Str → Option Value) (fa : Addr) (h : Heap), YP w h → h.Ns mainGlobals mg → mg d.name = some (.ref fa) → ∃ (K : PySem.W.Frag) (fd : FuncData) (cs : List (Addr × Addr)) (sp : Sp), K.In h ∧ (∀ p ∈ cs, h.get? p.2 = some { cls := .none, data := .fields #[] }) ∧ (∀ p ∈ cs, K.lookup p.2 = none) ∧
      (∀ p ∈ cs, PySem.W.CodeHd h p.1 p.2) ∧ (∀ (s : Shared) (u : Value), BindsTo s fd ⟨[u], []⟩ [(x, u)]) ∧ (∀ (H : Hp) (a : Addr) (vs : List Value) (ns : List Int), ns.length ≤ n → h.get? a = some { cls := .type "list", data := .seq vs.toArray } → Start K h H a vs ns cs → sp [.ref a] H (fun v _ => v = .bl true) E0) ∧
      ∀ base : Heap, K.In base → base.Ns mainGlobals mg → (∀ p ∈ cs, TabB base mg p.1 p.2) → FnG l.prog w K mg base k fa fd [x] sp) :
    PySem.W.WalkO q loose XP YP l.row.toRowW d [] (fun f vs => PySem.call f vs) := by
  refine Att.attach_callB hn hdf fun w s₀ s₁ mg mb fa o pm cd doc a vs ns G Y ho hd hcd hmg hobj hints hlen hbits hg => ?_
  obtain ⟨K, fd, cs, sp, KX, hT, nT, C, hb, hsp, hF⟩ := F w mg fa _ Y G.T.g hmg
  exact law_callG KX G.T.g G.T.b G.T.builtins G.T.nolimit hg hT nT C G.T.bmain hobj hints (Nat.le_trans hlen hn2) hr hF hb fun H S => hsp H a vs ns hlen hobj S
end Pd

set_option Elab.async false
set_option linter.all false
set_option maxRecDepth 100000
set_option maxHeartbeats 4000000
/-! A name that holds a def of the module: loops over such, calls. -/
namespace Pd
open PySem PySem.Spec PyProof.Rows L2
section
variable {X : Cx} {e : Expr} {es : List Expr} {pos p : Pos}
end
def forFnW (i : Nat) (b : WS) (R : Ed) : List Str → En → Prop
  | [], en => R.nx en
  | nm :: r, en => (i ≠ 0 ∨ NotOwn en[i]?) ∧ b { R with nx := forFnW i b R r, ct := forFnW i b R r, bk := R.nx } (en.set i (.fnv nm))
def wForFn (i : Nat) (nms : List Str) (b : WS) : WS := fun R en => forFnW i b R nms en
/-! ### y(..), y a name that holds a def -/
theorem CalX.mono {P : Program} {w : World} {K : PySem.W.Frag} {mg : Str → Option Value} {base : Heap} {j k : Nat} {x : Str} {ps : List Str} {sp : Sp} (C : CalX P w K mg base j x ps sp) (h : j ≤ k) : CalX P w K mg base k x ps sp := by
  obtain ⟨f, fd, F, r⟩ := C
  exact ⟨f, fd, F.mono h, r⟩
section
variable {X : Cx} {e : Expr} {es : List Expr} {pos p : Pos} {y : Str} {k n i : Nat} {R : Exc → En → Prop} {tab : List (Str × WFX)} {w : WA}
end
/-! ### what a head tells -/
/-- a built-in class of exceptions: what makes it, its classes -/
structure Bas where
  newId : String
  tl : List Value
def basOf (B : String) : Bas := if B = "IndexError" then ⟨"IndexError.__new__", [.type "IndexError", .type "LookupError", .type "Exception", .type "BaseException", .type "object"]⟩
  else if B = "OverflowError" then ⟨"OverflowError.__new__", [.type "OverflowError", .type "ArithmeticError", .type "Exception", .type "BaseException", .type "object"]⟩
  else if B = "ArithmeticError" then ⟨"ArithmeticError.__new__", [.type "ArithmeticError", .type "Exception", .type "BaseException", .type "object"]⟩
  else if B = "LookupError" then ⟨"LookupError.__new__", [.type "LookupError", .type "Exception", .type "BaseException", .type "object"]⟩
  else ⟨"ValueError.__new__", He.veBase⟩
theorem tail_of (B : String) : ∃ B' initId, TailF B' (basOf B).newId initId (basOf B).tl := by
  unfold basOf
  split
  · exact ⟨_, _, F.excBase_IndexError, F.store_IndexError⟩
  split
  · exact ⟨_, _, F.excBase_OverflowError, F.store_OverflowError⟩
  split
  · exact ⟨_, _, F.excBase_ArithmeticError, F.store_ArithmeticError⟩
  split
  · exact ⟨_, _, F.excBase_LookupError, F.store_LookupError⟩
  · exact ⟨_, _, F.excBase_ValueError, F.store_ValueError⟩
inductive YF where
  | x (f : XF)
  /-- an own class of exceptions over B that keeps f -/
  | oex (nm B f : Str)
  /-- e.f of its instances -/
  | fld (nm f : Str)
  /-- the module's name of a built-in class -/
  | tyn (x : Str) (T : String)
  /-- the module's name of a tuple of ints -/
  | gtup (x : Str) (ns : List Int)
  /-- two defs' tables stand apart -/
  | apart (p q : He.Defn)
def strOf (s : Str) : String := if s = ("IndexError" : Str) then "IndexError" else if s = ("OverflowError" : Str) then "OverflowError" else if s = ("ArithmeticError" : Str) then "ArithmeticError" else if s = ("LookupError" : Str) then "LookupError" else "ValueError"
def YF.ok (K : PySem.W.Frag) : YF → Bool
  | .x f => f.ok K
  | .oex nm B f => oexB K (He.ga K nm) (basOf (strOf B)).newId (basOf (strOf B)).tl && (He.eqO (PySem.W.findIn K (.ref (He.ga K nm)) "__setattr__") (some (some (.builtin "object.__setattr__"))) && (decide (PySem.W.subIn K (.ref (He.ga K nm)) (.type "BaseException") = some true) &&
      (decide (PySem.W.typeIn K (.ref (He.ga K nm)) = some (.type "type")) && (PySem.W.keepIn K (.ref (He.ga K nm)) && (He.eqO (PySem.W.findIn K (.ref (He.ga K nm)) "__init__") (some (some (.ref (He.ma K (He.ga K nm) "__init__")))) &&
      (decide (PySem.W.typeIn K (.ref (He.ma K (He.ga K nm) "__init__")) = some (.type "function")) && (He.eqO (PySem.W.findIn K (.ref (He.ga K nm)) f) (some none) && decide (He.ma K (He.ga K nm) "__init__" = He.fAd K (nm, some "__init__")))))))))
  | .fld nm f => xfB K (He.ga K nm) && He.eqO (PySem.W.findIn K (.ref (He.ga K nm)) f) (some none)
  | .tyn b T => He.eqO (PySem.W.nsIn K mainGlobals b) (some (some (.type T)))
  | .gtup y ns => He.eqO (PySem.W.nsIn K mainGlobals y) (some (some (.ref (He.ga K y)))) && He.tupB K y (ns.map He.Dv.int)
  | .apart p q => decide ((He.cT K p).2 ≠ (He.cT K q).2)
section
variable {P : Program} {w : World} {K : PySem.W.Frag} {mg : Str → Option Value} {base : Heap} {nm B f s g : Str} {params : Arguments} {body : List Stmt} {scope : Scope} {qual : Str} {fd : FuncData} {p1 p2 p3 p4 : Pos}
theorem oex_ok (c : (YF.oex nm B f).ok K = true) (hm : mg nm = some (.ref (He.ga K nm))) (F : FunD K "__init__" qual params body scope [] [] (He.fAd K (nm, some "__init__")) fd) (S : FnScope [s, g] [s, g] scope)
    (hb : body = [.Assign [.Attribute (.Name s p1) f p2] (.Name g p3) p4]) (vs : Vis scope s) (vg : Vis scope g) (bd : Binds K fd [s, g] []) (d1 : (s == ("__debug__" : Str)) = false := by decide) (d2 : (s == ("__classdict__" : Str)) = false := by decide) (d3 : (g == ("__debug__" : Str)) = false := by decide) (d4 : (g == ("__classdict__" : Str)) = false := by decide) : ExfC P w K mg base nm f := by
  obtain ⟨c1, c⟩ := He.ba c
  obtain ⟨c2, c⟩ := He.ba c
  obtain ⟨c3, c⟩ := He.ba c
  obtain ⟨c4, c⟩ := He.ba c
  obtain ⟨c5, c⟩ := He.ba c
  obtain ⟨c6, c⟩ := He.ba c
  obtain ⟨c7, c⟩ := He.ba c
  obtain ⟨c8, c9⟩ := He.ba c
  obtain ⟨B', initId, TF⟩ := tail_of (strOf B)
  have T : OexG K (He.ga K nm) (basOf (strOf B)).newId (basOf (strOf B)).tl := ⟨oexB_ok c1, He.eqO_ok c2, of_decide_eq_true c3, of_decide_eq_true c4, c5⟩
  have e := of_decide_eq_true c9
  exact ⟨⟨B', _, initId, _, He.fAd K (nm, some "__init__"), fd, [s, g], TF, T, by rw [← e]; exact He.eqO_ok c6, by rw [← e]; exact of_decide_eq_true c7, ok_ini F S TF T (He.eqO_ok c8) hb vs vg d1 d2 d3 d4, bd⟩, hm⟩
theorem exo_cls (c : (He.Fa.exc nm).ok K = true) (hm : mg nm = some (.ref (He.ga K nm))) : ExoC K mg nm := by
  obtain ⟨c1, c⟩ := He.ba c
  obtain ⟨c2, c⟩ := He.ba c
  obtain ⟨c3, c4⟩ := He.ba c
  exact ⟨⟨_, _, _, _, F.excBase_ValueError, c1⟩, hm, c2, of_decide_eq_true c3, of_decide_eq_true c4⟩
def GTup (K : PySem.W.Frag) (mg : Str → Option Value) (x : Str) (ns : List Int) : Prop := mg x = some (.ref (He.ga K x)) ∧ ∀ H : Hp, SqT K H (He.ga K x) (ns.map V.int)
theorem gtup_ok {h : Heap} (X : K.In h) (G : h.Ns mainGlobals mg) {x : Str} {ns : List Int} (c : (YF.gtup x ns).ok K = true) : GTup K mg x ns := by
  obtain ⟨h1, h2⟩ := He.ba c
  refine ⟨PySem.W.mg_of X G (He.eqO_ok h1), fun H => ?_⟩
  have := He.tupB_ok h2 H
  rw [List.map_map] at this
  exact this
end
end Pd

set_option Elab.async false
set_option linter.all false
set_option maxRecDepth 100000
set_option maxHeartbeats 4000000
/-! Small help for texts that are printed. -/
namespace Pd
open PySem PySem.Spec PyProof.Rows L2 LamX
def tabsT (K : PySem.W.Frag) (fs : List Str) : List (Addr × Str) := fs.map fun f => ((He.cT K (f, none)).2, (f ++ ".<locals>.") ++ "<lambda>")
def Apart (K : PySem.W.Frag) (fs : List Str) : Prop := ∀ f ∈ fs, ∀ g ∈ fs, (He.cT K (f, none)).2 = (He.cT K (g, none)).2 → f = g
def TabsB (K : PySem.W.Frag) (mg : Str → Option Value) (base : Heap) (fs : List Str) : Prop := ∀ f ∈ fs, TabB base mg (He.cT K (f, none)).1 (He.cT K (f, none)).2
theorem apart_nil {K : PySem.W.Frag} : Apart K [] := fun f h => by cases h
section
variable {X : Cx} {x a f : Str} {g : Addr} {fd : FuncData} {k n : Nat} {pg : Arguments} {bg : List Stmt} {sg : Scope} {Ng : List Str} {params : Arguments} {body : Expr} {scope : Scope} {p lpos pos : Pos} {exB : Str → Str → Option Bool} {cl : List ClaD} {wl : WS} {wb : (Exc → En → Prop) → WE} {fs : List Str}
end
/-- the law's call, by the tables -/
theorem law_start {K : PySem.W.Frag} {h : Heap} {H : Hp} {a : Addr} {vs : List Value} {ns : List Int} {fs : List Str} {n : Nat} (hn : ns.length ≤ n) (he : ∀ f ∈ fs, h.get? (He.cT K (f, none)).2 = some { cls := .none, data := .fields #[] }) (ha : h.get? a = some { cls := .type "list", data := .seq vs.toArray })
    (S : Start K h H a vs ns (fs.map fun f => He.cT K (f, none))) : spST K (tabsT K fs) 1 (wfLaw n) [.ref a] H (fun v _ => v = .bl true) E0 := by
  refine law_spT hn (fun p hp => ?_) S.sq fun hm => ?_
  · obtain ⟨f, hf, rfl⟩ := List.mem_map.mp hp
    exact TabS.nil (S.tb _ (List.mem_map.mpr ⟨f, hf, rfl⟩))
  · obtain ⟨p, hp, e⟩ := List.mem_map.mp hm
    obtain ⟨f, hf, rfl⟩ := List.mem_map.mp hp
    have q := he f hf
    rw [show (He.cT K (f, none)).2 = a from e, ha] at q
    cases q
end Pd

set_option Elab.async false
set_option linter.all false
set_option maxRecDepth 100000
set_option maxHeartbeats 4000000
/-! Help for laws of errors: values that have a text, lists of answers. -/
namespace Pd
open PySem PySem.Spec PyProof.Rows L2
end Pd

set_option Elab.async false
set_option linter.all false
set_option maxRecDepth 100000
set_option maxHeartbeats 4000000
/-! Defs over data within which lambdas are made. -/
namespace Pd
open PySem PySem.Spec PyProof.Rows L2 LamX
section
variable {K : PySem.W.Frag} {ζ : Zt} {G : Gh} {σ : Sg} {en : En} {H I H' I' : Hp}
end
section
variable {P : Program} {w : World} {K : PySem.W.Frag} {mg : Str → Option Value} {base : Heap} {x qual : Str} {params : Arguments} {body : List Stmt} {scope : Scope} {fd : FuncData} {N ps : List Str} {k : Nat} {T : List (Addr × Str)}
end
section
variable {X : Cx} {ζ : Zt} {e : Expr} {es : List Expr} {pos p : Pos} {x : Str} {k n : Nat} {ps : List Str} {f : Addr} {fd : FuncData} {sp : Sp} {t : TA}
end
end Pd

set_option Elab.async false
set_option linter.all false
set_option maxRecDepth 100000
set_option maxHeartbeats 4000000
/-! Loops over tuples that begin with a def: for call, a, b in ((f, x, y), (g, u, v)). -/
namespace Pd
open PySem PySem.Spec PyProof.Rows L2
abbrev WPr := En → (List (Str × List D) → En → Prop) → Prop
def wPNil : WPr := fun en Q => Q [] en
def wPCons (nm : Str) (wa : WA) (r : WPr) : WPr := fun en Q => wa en fun ds e1 => ds.length + 1 ≤ sizeLine ∧ r e1 fun prs e2 => Q ((nm, ds) :: prs) e2
section
variable {X : Cx} {ζ : Zt} {es rs : List Expr} {pos p : Pos}
end
def forPrW (i n : Nat) (g : WGs) (b : WS) (R : Ed) : List (Str × List D) → En → Prop
  | [], en => R.nx en
  | pr :: r, en => (i ≠ 0 ∨ NotOwn en[i]?) ∧ pr.2.length + 1 = n ∧ g pr.2 (en.set i (.fnv pr.1)) fun e1 => b { R with nx := forPrW i n g b R r, ct := forPrW i n g b R r, bk := R.nx } e1
def wForPr (i n : Nat) (g : WGs) (wp : WPr) (b : WS) : WS := fun R en => wp en fun prs e1 => prs.length ≤ 1000 ∧ forPrW i n g b R prs e1
end Pd

set_option Elab.async false
set_option linter.all false
set_option maxRecDepth 100000
set_option maxHeartbeats 4000000
/-! Methods that may raise. -/
namespace Pd
open PySem PySem.Spec PyProof.Rows L2
def wMtX (nm m : Str) (n : Nat) (wf : WFX) (R : Exc → En → Prop) (wo : WE) (wa : WA) : WE := fun en Q => wo en fun d e1 => ∃ ns ds, d = obD nm ns ds ∧ m ∉ ns ∧ wa e1 fun xs e2 => xs.length + 1 = n ∧ wf (d :: xs) (fun z => Q z e2) fun e => R e e2
section
variable {X : Cx} {ζ : Zt} {e o : Expr} {es : List Expr} {pos apos : Pos} {nm m : Str} {k n : Nat} {ps : List Str} {R : Exc → En → Prop}
end
end Pd

set_option Elab.async false
set_option linter.all false
set_option maxRecDepth 100000
set_option maxHeartbeats 4000000
/-! An own `__init__` that may raise; {k: i}. -/
namespace Pd
open PySem PySem.Spec PyProof.Rows L2
/-- behind a body that builds the object at a: all else is left, data has grown -/
def GrA (a : Addr) (H I H' I' : Hp) : Prop := (∀ b o, b ≠ a → H b = some o → H' b = some o) ∧ Ex I I' ∧ Ex I' H' ∧ ∀ b, b ≠ a → I' b ≠ none → I b = none → H b = none
abbrev WIX := List D → (List Str → List D → Prop) → (Exc → Prop) → Prop
def wMkX (nm : Str) (n : Nat) (wm : WIX) (R : Exc → En → Prop) (wa : WA) : WE := fun en Q => wa en fun ds e1 => ds.length + 1 = n ∧ wm ds (fun ns fds => Q (obD nm ns fds) e1) fun e => R e e1
/-- from the object's own heap to the heap before it was made -/
theorem GrA.gr {C x dx : Addr} {fs : List (Str × V)} {H I H' I' : Hp} (hx : H x = none) (hd : H dx = none) (g : GrA x (upd (upd H dx (.own x)) x (.ins C dx fs)) I H' I') : Gr H I H' I' := by
  obtain ⟨g1, g2, g3, g4⟩ := g
  refine ⟨fun b o h => g1 b o (ne_of_none h hx) ?_, g2, g3, fun b h1 h2 => ?_⟩
  · rw [upd_ne (ne_of_none h hx), upd_ne (ne_of_none h hd)]; exact h
  · by_cases e : b = x
    · rw [e]; exact hx
    · have g5 := g4 b e h1 h2
      rw [upd_ne e] at g5
      by_cases e' : b = dx
      · rw [e']; exact hd
      · rw [upd_ne e'] at g5; exact g5
section
variable {X : Cx} {ζ : Zt} {e : Expr} {es : List Expr} {pos p : Pos} {nm : Str} {k n : Nat} {ps : List Str} {R : Exc → En → Prop}
end
section
variable {P : Program} {w : World} {K : PySem.W.Frag} {mg : Str → Option Value} {base : Heap} {x qual : Str} {params : Arguments} {body : List Stmt} {scope : Scope} {f : Addr} {fd : FuncData} {N ps : List Str} {k : Nat}
end
/-! ### {k: i} -/
def wDic1 (k i : Int) : WE := fun en Q => Q (.dict [(.int k, .int i)]) en
end Pd

set_option Elab.async false
set_option linter.all false
set_option maxRecDepth 100000
set_option maxHeartbeats 4000000
/-! try with clauses in a def over data: what happens behind an exception goes on with the slots as they are. -/
namespace Pd
open PySem PySem.Spec PyProof.Rows L2
section
variable {K : PySem.W.Frag} {ζ : Zt} {G : Gh} {σ : Sg} {en : En} {H I : Hp}
open Classical in
end
section
variable {X : Cx} {ζ : Zt} {exB : Str → Str → Option Bool}
end
end Pd

set_option Elab.async false
set_option linter.all false
set_option maxRecDepth 100000
set_option maxHeartbeats 4000000
/-! x != (), x any tuple, whatever it holds. -/
namespace Pd
open PySem PySem.Spec PyProof.Rows L2 PySem.SeqAt MeetsSeq
section
variable {K : PySem.W.Frag} {X : Cx}
end
end Pd

set_option Elab.async false
set_option linter.all false
set_option maxRecDepth 100000
set_option maxHeartbeats 4000000
/-! Lambdas with parameters that capture nothing: made, held by a loop's name, called. -/
namespace Pd
open PySem PySem.Spec PyProof.Rows L2 LamX
/-- what is told of a lambda's function object -/
def LamO (q : Str) (params : Arguments) (body : Expr) (scope : Scope) (c' : Addr) (o : Obj) : Prop := ∃ pm ctv, o = PySem.W.kla_obj "<lambda>" q params body scope [] pm c' ctv
section
variable {X : Cx} {pins : List (Addr × Obj)} {σ : L2.St} {H : Hp} {s : Shared}
end
section
variable {P : Program} {w : World} {K : PySem.W.Frag} {mg : Str → Option Value} {base : Heap} {q : Str} {params : Arguments} {body : Expr} {scope : Scope} {N ps : List Str} {k n : Nat}
/-- a lambda's call -/
def LamC (P : Program) (w : World) (K : PySem.W.Frag) (mg : Str → Option Value) (base : Heap) (k n : Nat) (q : Str) (params : Arguments) (body : Expr) (scope : Scope) (wf : WFX) : Prop :=
  ∀ (A : Around) (outer : List Env) (s : Shared) (H : Hp) (f c' : Addr) (pm ctv : Value) (us : List Value) (vs : List V) (Q : VK) (E : XK), Room k A → Env0 P w K mg base A outer s H → s.heap.get? f = some (PySem.W.kla_obj "<lambda>" q params body scope [] pm c' ctv) →
    s.heap.CodeRec (.ref c') q → Vals vs us → spX K n wf vs H Q E → codeAny (model P w) A (.call (.ref f) ⟨us, []⟩) (CR (L2.CX P w) outer P w H s Q E) s
theorem LamC.mono {j : Nat} {wf : WFX} (C : LamC P w K mg base j n q params body scope wf) (h : j ≤ k) : LamC P w K mg base k n q params body scope wf := fun A outer s H f c' pm ctv us vs Q E hr => C A outer s H f c' pm ctv us vs Q E (hr.mono h)
end
/-! ### the code objects that are there stay -/
/-! ### a name that holds a def or a lambda -/
section
variable {X : Cx} {ζ : Zt} {e : Expr} {es : List Expr} {pos p lpos : Pos}
end
def forFvW (i : Nat) (b : WS) (R : Ed) : List Sl → En → Prop
  | [], en => R.nx en
  | s :: r, en => b { R with nx := forFvW i b R r, ct := forFvW i b R r, bk := R.nx } (en.set i s)
def wForFv (i : Nat) (ss : List Sl) (b : WS) : WS := fun R en => forFvW i b R ss en
/-! ### y(..), y a name that holds a def or a lambda -/
def CWok (X : Cx) (k n : Nat) : Sl → WFX → Prop
  | .fnv nm, wf => ∃ ps, CalX X.prog X.w X.K X.mg X.base k nm ps (spX X.K n wf) ∧ X.mg nm = some (.ref (He.ga X.K nm))
  | .lam q P, wf => ∃ params body scope, P = LamO q params body scope ∧ LamC X.prog X.w X.K X.mg X.base k n q params body scope wf
  | _, _ => False
def CW (X : Cx) (k n : Nat) (tab : List (Sl × WFX)) : Prop := ∀ p ∈ tab, CWok X k n p.1 p.2
theorem cw_nil {X : Cx} {k n : Nat} : CW X k n [] := fun q h => by cases h
theorem cw_def {X : Cx} {j k n : Nat} {x : Str} {ps : List Str} {wf : WFX} {tab : List (Sl × WFX)} (C : CalX X.prog X.w X.K X.mg X.base j x ps (spX X.K n wf)) (hm : X.mg x = some (.ref (He.ga X.K x))) (r : CW X k n tab) (h : j ≤ k := by decide) : CW X k n ((.fnv x, wf) :: tab) := fun q hq => by
  rcases List.mem_cons.mp hq with e | hq
  · subst e; exact ⟨ps, C.mono h, hm⟩
  · exact r q hq
theorem cw_lam {X : Cx} {j k n : Nat} {q : Str} {params : Arguments} {body : Expr} {scope : Scope} {wf : WFX} {tab : List (Sl × WFX)} (C : LamC X.prog X.w X.K X.mg X.base j n q params body scope wf) (r : CW X k n tab) (h : j ≤ k := by decide) : CW X k n ((.lam q (LamO q params body scope), wf) :: tab) := fun p hp => by
  rcases List.mem_cons.mp hp with e | hp
  · subst e; exact ⟨params, body, scope, rfl, C.mono h⟩
  · exact r p hp
def wCallW (i n : Nat) (tab : List (Sl × WFX)) (R : Exc → En → Prop) (w : WA) : WE := fun en Q => ∃ s wf, en[i]? = some s ∧ (s, wf) ∈ tab ∧ w en fun ds e1 => ds.length = n ∧ wf ds (fun d => Q d e1) fun e => R e e1
section
variable {X : Cx} {ζ : Zt} {e : Expr} {es : List Expr} {pos p : Pos} {y : Str} {k n i : Nat} {R : Exc → En → Prop} {tab : List (Sl × WFX)} {w : WA}
end
end Pd
namespace Pd
open PySem PySem.Spec PyProof.Rows L2
/-! ### a lambda among the items of a loop's tuple -/
end Pd

set_option Elab.async false
set_option linter.all false
set_option maxRecDepth 100000
set_option maxHeartbeats 4000000
/-! tuple(combinations(range(n), r)): facts of the model. -/
namespace Pd.Cb
open PySem PySem.Spec PySem.W
open Sem (wp)
end Pd.Cb

set_option Elab.async false
set_option linter.all false
set_option maxRecDepth 100000
set_option maxHeartbeats 4000000
namespace Pd.Cb
open PySem PySem.Spec PySem.W PySem.Builtin PySem.Builtin.Itertools
open Sem (wp)
def nxt (n : Nat) (ix : List Nat) : Option (List Nat) :=
  let r := ix.length
  match (List.range r).reverse.find? fun i => ix.getD i 0 != i + n - r with
  | none => none
  | some i => some (ix.take i ++ (List.range (r - i)).map (ix.getD i 0 + 1 + ·))
abbrev cbF (p : Addr) (st : Int) (old : Value) (ix : List Nat) : Array Value := (Value.ref p :: rawInt st :: old :: ix.map fun (i : Nat) => rawInt i).toArray
abbrev IsCb (h : Heap) (c p : Addr) (st : Int) (old : Value) (ix : List Nat) : Prop := h.get? c = some { cls := .type "itertools.combinations", dict := none, data := .fields (cbF p st old ix), slots := #[] }
abbrev IsPool (h : Heap) (p : Addr) (items : Array Value) : Prop := h.get? p = some { cls := .type "tuple", data := .seq items }
section
variable {prog : Program} {w : World} {A : Around} {E : Value → Shared → Prop} {s : Shared} {c p : Addr} {st : Int} {old : Value} {ix ix' : List Nat} {items : Array Value}
/-- C: what comes, one after another -/
structure Cbs (n r : Nat) (C : List (List Nat)) : Prop where
  none : n < r → C = []
  first : r ≤ n → C[0]? = some (List.range r)
  step : ∀ i (h : i < C.length), nxt n C[i] = C[i + 1]?
  len : ∀ x ∈ C, x.length ≤ 1000
  rng : ∀ x ∈ C, ∀ k ∈ x, k < n
/-- the record ahead of the i-th item -/
def St (n r : Nat) (C : List (List Nat)) (c p : Addr) (items : Array Value) (i : Nat) (h : Heap) : Prop :=
  IsPool h p items ∧ ((i = 0 ∧ IsCb h c p (if r > n then 2 else 0) .none (List.range r)) ∨ ∃ j old, i = j + 1 ∧ ∃ hj : j < C.length, IsCb h c p 1 old C[j])
/-- the tuples that have come -/
def Tups (items : Array Value) (C : List (List Nat)) (lo : Nat) (ex : Addr → Prop) (acc : Array Value) (i : Nat) (h : Heap) : Prop :=
  acc.size = i ∧ (∀ j, j < i → ∃ (T : Addr) (x : List Nat), C[j]? = some x ∧ acc[j]? = some (.ref T) ∧ lo ≤ T ∧ ¬ ex T ∧ IsPool h T (x.map fun k => items.getD k .none).toArray) ∧
    ∀ (j j' : Nat) (T T' : Addr), j < j' → acc[j]? = some (.ref T) → acc[j']? = some (.ref T') → T < T'
theorem Tups.stay {C : List (List Nat)} {lo i : Nat} {ex : Addr → Prop} {acc : Array Value} {h h' : Heap} (t : Tups items C lo ex acc i h) (k : ∀ b o, ¬ ex b → h.get? b = some o → h'.get? b = some o) : Tups items C lo ex acc i h' :=
  ⟨t.1, fun j hj => by
    obtain ⟨T, x, a, b, c, d, e⟩ := t.2.1 j hj
    exact ⟨T, x, a, b, c, d, k T _ d e⟩, t.2.2⟩
open AutoSeq1 (wpAny_loadPart') in
/-! ### combinations(range, r) -/
end
end Pd.Cb

set_option Elab.async false
set_option linter.all false
set_option maxRecDepth 100000
set_option maxHeartbeats 4000000
namespace Pd.Cb
open PySem PySem.Spec PySem.W PySem.Builtin PySem.Builtin.Itertools
open Sem (wp)
section
variable {prog : Program} {w : World} {A : Around} {E : Value → Shared → Prop} {s : Shared} {c p : Addr} {st : Int} {old : Value} {ix ix' : List Nat} {items : Array Value}
end
end Pd.Cb

set_option Elab.async false
set_option linter.all false
set_option maxRecDepth 100000
set_option maxHeartbeats 4000000
/-! tuple(combinations(range(n), r)), over data. -/
namespace Pd
open PySem PySem.Spec PyProof.Rows L2
section
variable {X : Cx} {pins : List (Addr × Obj)} {σ : L2.St} {H : Hp} {s : Shared}
/-! ### over data -/
end
/-! ### small ones by computation -/
end Pd

set_option Elab.async false
set_option linter.all false
set_option maxRecDepth 100000
set_option maxHeartbeats 4000000
/-! try with clauses, with a name or without, in a def over data. -/
namespace Pd
open PySem PySem.Spec PyProof.Rows L2
section
variable {X : Cx} {ζ : Zt} {exB : Str → Str → Option Bool}
end
end Pd

set_option Elab.async false
set_option linter.all false
set_option maxRecDepth 100000
set_option maxHeartbeats 4000000
/-! combinations(range(n), r) walked by a loop; a name of the module that holds a tuple of ints. -/
namespace Pd
open PySem PySem.Spec PyProof.Rows L2
section
variable {X : Cx} {tg a b : Expr} {p2 p3 q2 q3 : Pos}
/-! ### over data -/
theorem ints_da {K : PySem.W.Frag} {I : Hp} : ∀ ns : List Int, DaAll K I (ns.map V.int) (ns.map PyData.int)
  | [] => .nil
  | i :: ns => .cons (.int i) (ints_da ns)
/-- a name of the module that holds a tuple of ints -/
theorem d_gtup {ζ : Zt} {x : Str} {ns : List Int} {p : Pos} (h : GTup X.K X.mg x ns) (hg : Gl X x := by rfl) (hd : (x == ("__debug__" : Str)) = false := by decide) : PE X (.Name x p) (lE X.K ζ (wC (.tuple (ns.map .int)))) :=
  (pe_glob (v := .ref (He.ga X.K x)) hg h.1 rfl hd).mo fun σ H Q ⟨G, en, I, Q', ok, q, k⟩ => k _ H I en _ ok (Ex.rf I) (.tup (h.2 I) (ints_da ns)) q
end
end Pd

set_option Elab.async false
set_option linter.all false
set_option maxRecDepth 100000
set_option maxHeartbeats 4000000
/-! A text times an int; int(text). -/
namespace Pd
open PySem PySem.Spec PyProof.Rows L2
def repS (x : Str) (k : Nat) : Str := ⟨(List.replicate k x.cps).foldl (· ++ ·) #[]⟩
def rMulS : R2 := fun x y H Q => ∃ (z : Str) (k : Int), x = .str z ∧ y = .int k ∧ z.length = 1 ∧ 2 ≤ k ∧ k ≤ 1000 ∧ (repS z k.toNat).length ≤ sizeLine ∧ Q (.str (repS z k.toNat)) H
theorem op_mulS {X : Cx} : OpR X (binaryOp .Mult) rMulS := by
  intro pins s σ H x y v u Q I rx ry h
  obtain ⟨z, k, rfl, rfl, hz, h1, h2, hl, q⟩ := h
  obtain ⟨t, rfl⟩ := rx
  obtain ⟨t', rfl⟩ := ry
  refine P.mul_str (by rw [decide_eq_false (by omega), decide_eq_false (by omega)]; rfl) (fun _ _ => ?_) (fun _ _ => ?_) ?_
  · rw [hz]
    have h3 : (1 : Int) ≤ (2 ^ 63 - 1) / k := by
      rw [Int.le_ediv_iff_mul_le (by omega)]
      omega
    omega
  · rw [hz, Nat.one_mul]
    exact decide_eq_false (by rw [sizeLine_eq]; omega)
  · rw [if_neg (by omega), if_neg (by rw [hz]; simp; omega)]
    exact ⟨hl, ⟨.str (repS z k.toNat), H, I.tok _, ⟨_, rfl⟩, q⟩⟩
def dMulS : D → D → D → Prop := fun x y z => ∃ (s : Str) (k : Int), x = .str s ∧ y = .int k ∧ s.length = 1 ∧ 2 ≤ k ∧ k ≤ 1000 ∧ (repS s k.toNat).length ≤ sizeLine ∧ z = .str (repS s k.toNat)
theorem snd_mulS {K : PySem.W.Frag} : SndOp K rMulS dMulS := by
  rintro H I x y d e z iH hx hy ⟨s, k, rfl, rfl, h1, h2, h3, h4, rfl⟩ Q kk
  cases hx; cases hy
  exact ⟨s, k, rfl, rfl, h1, h2, h3, h4, kk _ H I (Gr.rf iH) (.str _)⟩
def rIntT : List V → Hp → VK → Prop := fun xs H Q => ∃ (z : Str) (n : Int), xs = [.str z] ∧ z.length ≤ 640 ∧ PySem.intText? z = some n ∧ Q (.int n) H
theorem call_intT {X : Cx} : CallR X (.type "int") rIntT := by
  intro pins s σ H xs us Q I r h
  obtain ⟨z, n, rfl, hz, hn, q⟩ := h
  obtain ⟨u, rfl, t, rfl⟩ := vals1 r
  exact PySem.W.KIN.call_text hn hz ⟨.int n, H, I.tok _, ⟨_, rfl⟩, q⟩
def dIntT : List D → D → Prop := fun xs z => ∃ (s : Str) (n : Int), xs = [.str s] ∧ s.length ≤ 640 ∧ PySem.intText? s = some n ∧ z = .int n
theorem snd_intT {K : PySem.W.Frag} : SndCl K rIntT dIntT := by
  rintro H I xs ds z iH hx ⟨s, n, rfl, h1, h2, rfl⟩ Q k
  cases hx with
  | cons h t => cases t; cases h; exact ⟨s, n, rfl, h1, h2, k _ H I (Gr.rf iH) (.int _)⟩
end Pd

set_option Elab.async false
set_option linter.all false
set_option maxRecDepth 100000
set_option maxHeartbeats 4000000
namespace K14
open PySem PySem.Spec PyProof.Rows L2 Pd
abbrev RR : PySem.W.OpenLaw := PySem.Challenge.rw_fetchunseen_k14_whole_powers_added
abbrev PP : Program := RR.prog
def top (i : Nat) : Stmt := PP.main.body.getD i (.Pass ⟨0, 0, 0, 0⟩)
namespace Hd
def dd (x : Str) (i : Nat) : He.DefD := ⟨(x, none), x, x, defArgs (top i), defBody (top i), defScope (top i), [], []⟩
def clsBody (s : Stmt) : List Stmt := match s with
  | .ClassDef _ _ _ b _ _ _ _ _ _ _ => b
  | _ => []
def mtop (i j : Nat) : Stmt := (clsBody (top i)).getD j (.Pass ⟨0, 0, 0, 0⟩)
def ddm (c m : Str) (i j : Nat) : He.DefD := ⟨(c, some m), m, c ++ "." ++ m, defArgs (mtop i j), defBody (mtop i j), defScope (mtop i j), [], []⟩
def fn : List He.DefD := ([dd "is_whole" 9, dd "is_integer" 10, dd "is_between" 11, dd "check_between" 12, dd "is_ascending" 13, dd "is_fraction" 16, dd "check_fraction" 17, dd "check_two" 18, dd "lowest" 19, dd "sum_of_two" 20, dd "product_of_two" 21, dd "order_of_two" 22, dd "plus" 23, dd "less" 24, dd "over" 25, dd "compared" 26, dd "powers_added" 27, dd "check_houses" 32, dd "are_lots" 33, dd "check_lots" 34] : List He.DefD) ++ ([dd "check_housed" 35, dd "is_within" 36, dd "is_within_any" 37, dd "free_in" 38, dd "first_table" 40, dd "entering" 41, dd "is_sooner" 42, dd "leaving" 43, dd "cleared_row" 44, dd "exchanged" 45, dd "held_number" 46, dd "solved" 47, dd "weights_answer" 49, dd "check_counted" 54, dd "check_long" 55, dd "check_not_all" 56, dd "scale_of" 57, dd "turned" 58, dd "least_for_one" 59, dd "shared_for_one" 60] : List He.DefD) ++ ([dd "gap_of" 61, dd "scale" 62, dd "least_mean" 63, dd "gap" 64, dd "_law_jug" 66, dd "_law_pour" 67, dd "_law_sip" 68, dd "_law_fu_shared" 69, dd "_law_fu_part" 70, dd "_law_fu_plus" 71, dd "_law_fu_times" 72, dd "_law_ta_fraction" 73, dd "_law_added" 74, dd "_law_right" 75, dd "_law_bounds_right" 76, dd "law" 77, ddm "InvalidNumber" "__init__" 5 0, ddm "Refused" "__init__" 6 0] : List He.DefD)
def fa : List He.Fa := ([.glo "is_whole", .glo "is_integer", .glo "is_between", .glo "check_between", .glo "is_ascending", .glo "is_fraction", .glo "check_fraction", .glo "check_two", .glo "lowest", .glo "sum_of_two", .glo "product_of_two", .glo "order_of_two", .glo "plus", .glo "less", .glo "over", .glo "compared", .glo "powers_added", .glo "check_houses", .glo "are_lots", .glo "check_lots", .glo "check_housed", .glo "is_within", .glo "is_within_any", .glo "free_in", .glo "first_table", .glo "entering", .glo "is_sooner", .glo "leaving", .glo "cleared_row", .glo "exchanged"] : List He.Fa) ++ ([.glo "held_number", .glo "solved", .glo "weights_answer", .glo "check_counted", .glo "check_long", .glo "check_not_all", .glo "scale_of", .glo "turned", .glo "least_for_one", .glo "shared_for_one", .glo "gap_of", .glo "scale", .glo "least_mean", .glo "gap", .glo "_law_jug", .glo "_law_pour", .glo "_law_sip", .glo "_law_fu_shared", .glo "_law_fu_part", .glo "_law_fu_plus", .glo "_law_fu_times", .glo "_law_ta_fraction", .glo "_law_added", .glo "_law_right", .glo "_law_bounds_right", .glo "law", .int "MOST_BOOKS" 20, .int "MOST_HOUSES" 6, .int "MOST_LOTS" 12, .int "MOST_POWERS" 100] : List He.Fa) ++ ([.int "MOST_WIDTH" 100, .int "TOO_LONG" 1000000000000000000000000000000000000000000000000000000000000, .free "abs", .free "all", .free "any", .free "bool", .free "enumerate", .free "int", .free "isinstance", .free "len", .free "max", .free "min", .free "range", .free "tuple", .free "zip", .glo "InvalidFraction", .glo "InvalidLots", .glo "InvalidNumber", .glo "Refused", .exc "InvalidFraction", .exc "InvalidLots"] : List He.Fa)
def ys : List YF := [.x (.bf "gcd" "math.gcd"), .oex "InvalidNumber" "IndexError" "given", .oex "Refused" "ArithmeticError" "reason", .gtup "NONE" [0, 1], .gtup "WHOLE" [1, 1]]
theorem yfa {K : PySem.W.Frag} (c : (ys.all (YF.ok K)) = true) (i : Nat) {f : YF} (e : ys[i]? = some f) : f.ok K = true := List.all_eq_true.mp c f (List.mem_of_getElem? e)
def ex (K : PySem.W.Frag) : Bool := ys.all (YF.ok K)
abbrev tfD : List He.Defn := []
abbrev R : PySem.W.OpenRow := PySem.W.OpenLaw.row RR
abbrev hk : PySem.W.Hook := He.hookX 6 fa fn [] tfD ex
def ob (s : PySem.W.SharedT) : He.AlX := He.obsX 6 fa fn [] tfD ex (HandSHeadRun.getT s)
theorem ob_eq (s : PySem.W.SharedT) : ob s = hk.obs s.abs := He.obsX_eq (HandSHeadRun.getT_eq s)
abbrev loose : List Str := (["FetchError", "InvalidFraction", "InvalidLots", "InvalidNumber", "Refused", "TOO_LONG", "is_whole", "is_integer", "is_between", "check_between", "is_ascending", "MOST_POWERS", "is_fraction", "check_fraction", "check_two"] : List Str) ++ (["lowest", "sum_of_two", "product_of_two", "order_of_two", "plus", "less", "over", "compared", "powers_added", "MOST_WIDTH", "MOST_HOUSES", "MOST_LOTS", "check_houses", "are_lots", "check_lots"] : List Str) ++ (["check_housed", "is_within", "is_within_any", "free_in", "first_table", "entering", "is_sooner", "leaving", "cleared_row", "exchanged", "held_number", "solved", "weights_answer", "MOST_BOOKS", "NONE"] : List Str) ++ (["WHOLE", "check_counted", "check_long", "check_not_all", "scale_of", "turned", "least_for_one", "shared_for_one", "gap_of", "scale", "least_mean", "gap", "_law_jug", "_law_pour", "_law_sip"] : List Str) ++ (["_law_fu_shared", "_law_fu_part", "_law_fu_plus", "_law_fu_times", "_law_ta_fraction", "_law_added", "_law_right", "_law_bounds_right"] : List Str)
set_option maxHeartbeats 0 in
theorem run (w : World) : HandSHeadRun.RunEqI R (PySem.W.view R.prog [0, 77]) hk ob 9000 loose w := by
  unfold HandSHeadRun.RunEqI
  kernel_rfl
end Hd
/-! ### lots -/
/-- ascending, each of them from 0 to m - 1 -/
def IsLot (m : Int) (ns : List Int) : Prop := (∀ k ∈ ns, 0 ≤ k ∧ k < m) ∧ ns.Pairwise (· < ·)
def IsLotD (m : Int) (d : D) : Prop := ∃ ns, d = rowD ns ∧ IsLot m ns
def IsLots (m : Int) (rs : List (List Int)) : Prop := rs.length ≤ 12 ∧ (∀ r ∈ rs, IsLot m r) ∧ AscS rs
def rowsD (rs : List (List Int)) : D := .tuple (rs.map rowD)
def IsLotsD (m : Int) (d : D) : Prop := ∃ rs, d = rowsD rs ∧ IsLots m rs
noncomputable instance {m : Int} {d : D} : Decidable (IsLotD m d) := Classical.propDecidable _
noncomputable instance {m : Int} {d : D} : Decidable (IsLotsD m d) := Classical.propDecidable _
instance {rs : List (List Int)} : Decidable (AscS rs) := inferInstanceAs (Decidable (List.Pairwise (fun a b => HT.lexLt a b = true) rs))
noncomputable def lotB (m : Int) (d : D) : Bool := decide (IsLotD m d)
noncomputable def lotsB (m : Int) (d : D) : Bool := decide (IsLotsD m d)
def subB (a b : List Int) : Bool := a.all fun x => b.contains x
def intsTo (n : Int) : List Int := (List.range n.toNat).map fun i => ((i : Nat) : Int)
def free (n : Int) (rs : List (List Int)) : List Int := (intsTo n).filter fun x => !rs.any fun r => r.contains x
def isW : D → Bool
  | .int _ => true
  | _ => false
def inB (lo hi : Int) : D → Bool
  | .int i => decide (lo ≤ i) && decide (i ≤ hi)
  | _ => false
/-- not too long -/
def Sz : D → Prop
  | .tuple xs => xs.length ≤ 50
  | _ => True
def Sz2 : D → Prop
  | .tuple xs => xs.length ≤ 50 ∧ ∀ x ∈ xs, Sz x
  | _ => True
def errN (d : D) : Exc := ⟨"InvalidNumber", ["given"], [d]⟩
def errL : Exc := ⟨"InvalidLots", [], []⟩
/-- houses and lots: the first wrong one -/
def HC (h l : D) (R : Exc → Prop) (K : Int → Prop) : Prop := (inB 1 6 h = false ∧ R (errN h)) ∨ ∃ H : Int, h = .int H ∧ 1 ≤ H ∧ H ≤ 6 ∧ Sz2 l ∧ ((lotsB H l = false ∧ R errL) ∨ (lotsB H l = true ∧ K H))
/-! ### what each def does -/
def wf_is_whole : WF := fun ds Q => ∃ d, ds = [d] ∧ Q (.bool (isW d))
def wf_is_between : WF := fun ds Q => ∃ d lo hi, ds = [d, .int lo, .int hi] ∧ Q (.bool (inB lo hi d))
def wf_is_within : WF := fun ds Q => ∃ a b : List Int, ds = [rowD a, rowD b] ∧ a.length ≤ 100 ∧ Q (.bool (subB a b))
def wf_is_within_any : WF := fun ds Q => ∃ (a : List Int) (rs : List (List Int)) (d : D), ds = [rowD a, d] ∧ (d = .tuple (rs.map rowD) ∨ d = .list (rs.map rowD)) ∧ a.length ≤ 100 ∧ rs.length ≤ 100 ∧ Q (.bool (rs.any fun b => subB a b))
def wf_free_in : WF := fun ds Q => ∃ (h : Int) (rs : List (List Int)), ds = [.int h, rowsD rs] ∧ 1 ≤ h ∧ h ≤ 6 ∧ rs.length ≤ 100 ∧ Q (rowD (free h rs))
def wf__law_jug : WSc := fun ns ds Q => ∃ s : Nat, ds = [.int s] ∧ ∀ g m c : Int, Q (.list [.int g, .int m, .int c])
def wf__law_pour : WJ := fun dj ds Q => ∃ g m c t : Int, dj = [.int g, .int m, .int c] ∧ ds = [.int t] ∧ 0 < t ∧ t.natAbs.log2 < 9000 ∧ ∀ r g m c : Int, 0 ≤ r → r < t → Q (.int r) [.int g, .int m, .int c]
def wf_check_between : WFX := fun ds Q R => ∃ d a b, ds = [d, .int a, .int b] ∧ (inB a b d = true → Q .none) ∧ (inB a b d = false → R (errN d))
def wf_is_ascending : WF := fun ds Q => ∃ d m, ds = [d, .int m] ∧ Sz d ∧ Q (.bool (lotB m d))
def wf_check_houses : WFX := fun ds Q R => ∃ d, ds = [d] ∧ (inB 1 6 d = true → Q .none) ∧ (inB 1 6 d = false → R (errN d))
def wf_are_lots : WF := fun ds Q => ∃ (h : Int) (d : D), ds = [.int h, d] ∧ Sz2 d ∧ Q (.bool (lotsB h d))
def wf_check_lots : WFX := fun ds Q R => ∃ (h : Int) (d : D), ds = [.int h, d] ∧ Sz2 d ∧ (lotsB h d = true → Q .none) ∧ (lotsB h d = false → R errL)
def wf_check_housed : WFX := fun ds Q R => ∃ h l, ds = [h, l] ∧ HC h l R fun _ => Q .none
abbrev TL : Int := 1000000000000000000000000000000000000000000000000000000000000
def isI : D → Bool
  | .int i => decide (-TL < i) && decide (i < TL)
  | _ => false
def isF2 : D → D → Bool
  | .int a, .int b => (isI (.int a) && isI (.int b)) && (decide (0 < b) && decide (Int.gcd a b = 1))
  | _, _ => false
def isF : D → Bool
  | .tuple [x, y] => isF2 x y
  | _ => false
def errF : Exc := ⟨"InvalidFraction", [], []⟩
def TN : Nat := 10 ^ 60
def wf_is_integer : WF := fun ds Q => ∃ d, ds = [d] ∧ Q (.bool (isI d))
def wf_is_fraction : WF := fun ds Q => ∃ d, ds = [d] ∧ Q (.bool (isF d))
def wf_check_fraction : WFX := fun ds Q R => ∃ d, ds = [d] ∧ (isF d = true → Q .none) ∧ (isF d = false → R errF)
def wf_lowest : WF := fun ds Q => ∃ t b : Int, ds = [.int t, .int b] ∧ b ≠ 0 ∧ b.natAbs < BB * BB ∧ Q (fr (Rat.divInt t b))
def wf_sum_of_two : WF := fun ds Q => ∃ p q : Rat, ds = [fr p, fr q] ∧ Sm BB p ∧ Sm BB q ∧ Q (fr (p + q))
def wf_product_of_two : WF := fun ds Q => ∃ p q : Rat, ds = [fr p, fr q] ∧ Sm BB p ∧ Sm BB q ∧ Q (fr (p * q))
def wf__law_fu_shared : WF := fun ds Q => ∃ a b : Int, ds = [.int a, .int b] ∧ Q (.int (Int.gcd a b))
def wf__law_fu_part : WF := fun ds Q => ∃ t b : Int, ds = [.int t, .int b] ∧ b ≠ 0 ∧ b.natAbs < BB * BB ∧ Q (fr (Rat.divInt t b))
/-- 1 + q * m, again and again, each small enough -/
def Pws (q : Rat) : Nat → Rat → Prop
  | 0, _ => True
  | n + 1, m => Sm BB m ∧ Sm BB (q * m) ∧ Pws q n (1 + q * m)
def wf__law_fu_plus : WF := fun ds Q => ∃ p q : Rat, ds = [fr p, fr q] ∧ Sm BB p ∧ Sm BB q ∧ Q (fr (p + q))
/-! ### counted -/
def wf_check_counted : WFX := fun ds Q R => ∃ d, ds = [d] ∧ inB 1 20 d = true ∧ Q .none
def wf_check_long : WFX := fun ds Q R => ∃ d, ds = [d] ∧ inB 1 100 d = true ∧ Q .none
/-! ### the table that is solved -/
abbrev Tbl := List (List Int)
def lstI (ns : List Int) : D := .list (ns.map .int)
def llI (T : Tbl) : D := .list (T.map lstI)
def optN : Option Nat → D
  | none => .none
  | some n => .int n
def one0 (b : Bool) : Int := if b then 1 else 0
def frow (h : Nat) (rs : List (List Int)) (i : Nat) : List Int := ((intsTo h).map fun x => one0 ((rs.getD i []).contains x)) ++ ((List.range rs.length).map fun j => one0 (decide (j = i))) ++ [1]
def ftab (h : Nat) (rs : List (List Int)) : Tbl := (List.range rs.length).map (frow h rs) ++ [List.replicate h (-1) ++ List.replicate (rs.length + 1) 0]
def entF (T : Tbl) : Option Nat := (T.getLastD []).dropLast.findIdx? fun x => decide (x < 0)
def lastI (r : List Int) : Int := r.getLastD 0
def sooner (T : Tbl) (hd : List Int) (c r b : Nat) : Bool :=
  decide (lastI (T.getD r []) * (T.getD b []).getD c 0 < lastI (T.getD b []) * (T.getD r []).getD c 0) || (decide (lastI (T.getD r []) * (T.getD b []).getD c 0 = lastI (T.getD b []) * (T.getD r []).getD c 0) && decide (hd.getD r 0 < hd.getD b 0))
def lvS (T : Tbl) (hd : List Int) (c : Nat) (b : Option Nat) (r : Nat) : Option Nat :=
  if (decide (0 < (T.getD r []).getD c 0) && (match b with
    | none => true
    | some b => sooner T hd c r b)) = true then some r else b
def lvF (T : Tbl) (hd : List Int) (c : Nat) : Option Nat := (List.range hd.length).foldl (lvS T hd c) none
def clrI (lead row : List Int) (c : Nat) (b : Int) : List Int := List.zipWith (fun own by_ => (lead.getD c 0 * own - row.getD c 0 * by_).fdiv b) row lead
def exch (T : Tbl) (r c : Nat) (b : Int) : Tbl := (List.range T.length).map fun i => if i = r then T.getD r [] else clrI (T.getD r []) (T.getD i []) c b
def hdN (T : Tbl) (hd : List Int) (c : Int) : Int := match hd.findIdx? (fun x => decide (x = c)) with
  | some i => lastI (T.getD i [])
  | none => 0
def Lt9 (x : Int) : Prop := -1000000000 < x ∧ x < 1000000000
instance {x : Int} : Decidable (Lt9 x) := by unfold Lt9; exact inferInstance
structure Shp (m n : Nat) (T : Tbl) : Prop where
  m1 : m ≤ 12
  n1 : 1 ≤ n
  n2 : n ≤ 50
  len : T.length = m + 1
  rows : ∀ r ∈ T, r.length = n
  sml : ∀ r ∈ T, ∀ x ∈ r, Lt9 x
def shpB (m n : Nat) (T : Tbl) : Bool := (decide (m ≤ 12) && (decide (1 ≤ n) && decide (n ≤ 50))) && (decide (T.length = m + 1) && T.all fun r => decide (r.length = n) && r.all fun x => decide (Lt9 x))
abbrev SS := Tbl × List Int × Int × Option Nat
def okS (m n : Nat) : SS → Bool
  | (T, hd, b, col) => shpB m n T && (decide (hd.length = m) && (decide (b ≠ 0) && (decide (Lt9 b) && (match col with
    | none => true
    | some c => decide (c < n)))))
def stp (m : Nat) : SS → Option SS
  | (T, hd, b, some c) => match lvF T hd c with
    | none => none
    | some r => if r < m then some (exch T r c b, hd.set r (c : Int), (T.getD r []).getD c 0, entF (exch T r c b)) else none
  | _ => none
def runS (m n : Nat) : Nat → SS → Option SS
  | 0, _ => none
  | f + 1, s => if okS m n s = true then (if s.2.2.2 = none then some s else (stp m s).bind (runS m n f)) else none
def iniS (h : Nat) (rs : List (List Int)) : SS := (ftab h rs, (List.range rs.length).map fun i => (h : Int) + ((i : Nat) : Int), 1, entF (ftab h rs))
def solS (h : Nat) (rs : List (List Int)) : Option SS := runS rs.length (h + rs.length + 1) 40 (iniS h rs)
def topS (s : SS) : Int := lastI (s.1.getLastD [])
def wtsS (h : Nat) (s : SS) : List Int := (intsTo h).map (hdN s.1 s.2.1)
def cvrS (h : Nat) (s : SS) : List Int := ((s.1.getLastD []).drop h).dropLast
def InS (h : Nat) (rs : List (List Int)) : Prop := 1 ≤ h ∧ h ≤ 6 ∧ IsLots h rs
def wf_first_table : WF := fun ds Q => ∃ (h : Nat) (rs : List (List Int)), ds = [.int h, rowsD rs] ∧ InS h rs ∧ Q (llI (ftab h rs))
def wf_entering : WF := fun ds Q => ∃ (m n : Nat) (T : Tbl), ds = [llI T] ∧ Shp m n T ∧ Q (optN (entF T))
def wf_is_sooner : WF := fun ds Q => ∃ (m n : Nat) (T : Tbl) (hd : List Int) (c r b : Nat), ds = [llI T, lstI hd, .int c, .int r, .int b] ∧ Shp m n T ∧ hd.length = m ∧ c < n ∧ r < m ∧ b < m ∧ Q (.bool (sooner T hd c r b))
def wf_leaving : WF := fun ds Q => ∃ (m n : Nat) (T : Tbl) (hd : List Int) (c : Nat), ds = [llI T, lstI hd, .int c] ∧ Shp m n T ∧ hd.length = m ∧ c < n ∧ Q (optN (lvF T hd c))
def wf_cleared_row : WF := fun ds Q => ∃ (row lead : List Int) (c : Nat) (b : Int), ds = [lstI row, lstI lead, .int c, .int b] ∧ row.length = lead.length ∧ c < row.length ∧ row.length ≤ 50 ∧ (∀ x ∈ row, Lt9 x) ∧ (∀ x ∈ lead, Lt9 x) ∧ b ≠ 0 ∧ Lt9 b ∧ Q (lstI (clrI lead row c b))
def wf_exchanged : WF := fun ds Q => ∃ (m n : Nat) (T : Tbl) (r c : Nat) (b : Int), ds = [llI T, .int r, .int c, .int b] ∧ Shp m n T ∧ r < m ∧ c < n ∧ b ≠ 0 ∧ Lt9 b ∧ Q (llI (exch T r c b))
def wf_held_number : WF := fun ds Q => ∃ (m n : Nat) (T : Tbl) (hd : List Int) (c : Int), ds = [llI T, lstI hd, .int c] ∧ Shp m n T ∧ hd.length = m ∧ Q (.int (hdN T hd c))
def wf_solved : WF := fun ds Q => ∃ (h : Nat) (rs : List (List Int)) (s : SS), ds = [.int h, rowsD rs] ∧ InS h rs ∧ solS h rs = some s ∧ Q (.tuple [.int (topS s), lstI (wtsS h s), lstI (cvrS h s), .int s.2.2.1])
def frs (ns : List Int) (b : Int) : D := .tuple (ns.map fun x => fr (Rat.divInt x b))
def wf_weights_answer : WFX := fun ds Q R => ∃ (h : Nat) (rs : List (List Int)) (s : SS), ds = [.int h, rowsD rs] ∧ InS h rs ∧ free h rs = [] ∧ solS h rs = some s ∧ Q (.tuple [.str "weights", fr (Rat.divInt (topS s) s.2.2.1), frs (wtsS h s) s.2.2.1, frs (cvrS h s) s.2.2.1])
def wf_scale_of : WFX := fun ds Q R => ∃ (h : Nat) (rs : List (List Int)) (s : SS), ds = [.int h, rowsD rs] ∧ InS h rs ∧ free h rs = [] ∧ solS h rs = some s ∧ Q (fr (Rat.divInt (topS s) s.2.2.1))
def pwA (q : Rat) : Nat → Rat → Rat
  | 0, m => m
  | n + 1, m => pwA q n (1 + q * m)
def wf_powers_added : WFX := fun ds Q R => ∃ (q : Rat) (n : Nat), ds = [fr q, .int n] ∧ 1 ≤ n ∧ n ≤ 100 ∧ Sm TN q ∧ Pws q (n - 1) 1 ∧ Q (fr (pwA q (n - 1) 1))
def wf_turned : WF := fun ds Q => ∃ q : Rat, ds = [fr q] ∧ Q (.tuple [.int q.den, .int q.num])
def OkI (q p : Rat) (n : Nat) : Prop := p.num = (q.den : Int) ∧ ((p.den : Nat) : Int) = q.num ∧ Sm TN p ∧ Pws p (n - 1) 1 ∧ Sm BB (pwA p (n - 1) 1)
def wf_least_for_one : WFX := fun ds Q R => ∃ (q p : Rat) (n : Nat), ds = [fr q, .int n] ∧ 1 ≤ n ∧ n ≤ 20 ∧ OkI q p n ∧ Q (fr (pwA p (n - 1) 1))
def wf_least_mean : WFX := fun ds Q R => ∃ (h : Nat) (rs : List (List Int)) (s : SS) (p : Rat) (n : Nat) (l : Int), ds = [.int h, rowsD rs, .int n, .int l] ∧ InS h rs ∧ free h rs = [] ∧ solS h rs = some s ∧ 1 ≤ n ∧ n ≤ 20 ∧ 1 ≤ l ∧ l ≤ 100 ∧ OkI (Rat.divInt (topS s) s.2.2.1) p n ∧ Q (fr ((l : Rat) * pwA p (n - 1) 1))
def wf_check_two : WFX := fun ds Q R => ∃ d e, ds = [d, e] ∧ (isF d = true → isF e = true → Q .none) ∧ ((isF d && isF e) = false → R errF)
def ordI (p q : Rat) : Int := (if q < p then 1 else 0) - (if p < q then 1 else 0)
def wf_order_of_two : WF := fun ds Q => ∃ p q : Rat, ds = [fr p, fr q] ∧ Sm BB p ∧ Sm BB q ∧ Q (.int (ordI p q))
def wf__law_sip : WJ := fun dj ds Q => ∃ (g m c : Int) (xs : List D), dj = [.int g, .int m, .int c] ∧ ds = [.list xs] ∧ xs ≠ [] ∧ xs.length ≤ 100 ∧ ∀ x ∈ xs, ∀ g m c : Int, Q x [.int g, .int m, .int c]
def wf__law_ta_fraction : WJ := fun dj ds Q => ∃ g m c n : Int, dj = [.int g, .int m, .int c] ∧ ds = [.int n] ∧ 0 < n ∧ n ≤ 10 ^ 40 ∧ ∀ (q : Rat) (g m c : Int), q.num.natAbs ≤ n → q.den ≤ n → Q (fr q) [.int g, .int m, .int c]
def wf__law_fu_times : WF := fun ds Q => ∃ p q : Rat, ds = [fr p, fr q] ∧ Sm BB p ∧ Sm BB q ∧ Q (fr (p * q))
def wf_plus : WFX := fun ds Q R => ∃ p q : Rat, ds = [fr p, fr q] ∧ Sm TN p ∧ Sm TN q ∧ Q (fr (p + q))
def wf_less : WFX := fun ds Q R => ∃ p q : Rat, ds = [fr p, fr q] ∧ Sm TN p ∧ Sm TN q ∧ Q (fr (p + -q))
def wf_compared : WFX := fun ds Q R => ∃ p q : Rat, ds = [fr p, fr q] ∧ Sm TN p ∧ Sm TN q ∧ Q (.int (ordI p q))
def ovr (p q : Rat) : Rat := Rat.divInt (p.num * q.den) (p.den * q.num)
def wf_over : WFX := fun ds Q R => ∃ p q : Rat, ds = [fr p, fr q] ∧ Sm TN p ∧ Sm TN q ∧ q.num ≠ 0 ∧ Q (fr (ovr p q))
def wf_check_not_all : WFX := fun ds Q R => ∃ q : Rat, ds = [fr q] ∧ q ≠ 1 ∧ Q .none
def wf_shared_for_one : WF := fun ds Q => ∃ q r : Rat, ds = [fr q] ∧ Sm BB q ∧ r.num = ((q + -1).den : Int) ∧ (r.den : Int) = (q + -1).num ∧ Q (fr r)
def gpA (p : Rat) : Nat → Rat → Rat
  | 0, m => m
  | n + 1, m => gpA p n (m * p)
def gpB (p : Rat) : Nat → Rat → Bool
  | 0, m => decide (m.num.natAbs < BB) && decide (m.den < BB)
  | n + 1, m => (decide (m.num.natAbs < BB) && decide (m.den < BB)) && gpB p n (m * p)
/-- q, turned; q less one, turned -/
def OkG (q p r : Rat) (n : Nat) (l : Int) : Prop := q ≠ 1 ∧ Sm BB q ∧ p.num = (q.den : Int) ∧ (p.den : Int) = q.num ∧ Sm BB p ∧ r.num = ((q + -1).den : Int) ∧ (r.den : Int) = (q + -1).num ∧ Sm BB r ∧ gpB p (n - 1) ((l : Rat) * r) = true
def wf_gap_of : WF := fun ds Q => ∃ (q p r : Rat) (n : Nat) (l : Int), ds = [fr q, .int n, .int l] ∧ 1 ≤ n ∧ n ≤ 20 ∧ 1 ≤ l ∧ l ≤ 100 ∧ OkG q p r n l ∧ Q (fr (gpA p (n - 1) ((l : Rat) * r)))
def wf_scale : WFX := wf_scale_of
def wf_gap : WFX := fun ds Q R => ∃ (h : Nat) (rs : List (List Int)) (s : SS) (p r : Rat) (n : Nat) (l : Int), ds = [.int h, rowsD rs, .int n, .int l] ∧ InS h rs ∧ free h rs = [] ∧ solS h rs = some s ∧ 1 ≤ n ∧ n ≤ 20 ∧ 1 ≤ l ∧ l ≤ 100 ∧ OkG (Rat.divInt (topS s) s.2.2.1) p r n l ∧ Q (fr (gpA p (n - 1) ((l : Rat) * r)))
def adA (q : Rat) : Nat → Rat × Rat → Rat × Rat
  | 0, m => m
  | n + 1, m => adA q n (m.1 + m.2, m.2 * q)
def adB (q : Rat) : Nat → Rat × Rat → Prop
  | 0, _ => True
  | n + 1, m => Sm BB m.1 ∧ Sm BB m.2 ∧ adB q n (m.1 + m.2, m.2 * q)
def wf__law_added : WF := fun ds Q => ∃ (q : Rat) (n : Nat), ds = [fr q, .int n] ∧ n ≤ 50 ∧ Sm BB q ∧ adB q n (0, 1) ∧ Q (.tuple [fr (adA q n (0, 1)).1, fr (adA q n (0, 1)).2])
def wf__law_right : WJ := fun dj ds Q => ∃ g m c : Int, dj = [.int g, .int m, .int c] ∧ ds = [] ∧ ∀ g m c : Int, Q (.bool true) [.int g, .int m, .int c]
def wf__law_bounds_right : WJ := fun dj ds Q => ∃ g m c : Int, dj = [.int g, .int m, .int c] ∧ ds = [] ∧ ∀ g m c : Int, Q (.bool true) [.int g, .int m, .int c]
abbrev wf_law : WSc := wfLaw 63
end K14

set_option Elab.async false
set_option linter.all false
set_option maxRecDepth 100000
set_option maxHeartbeats 4000000
namespace K14
open PySem PySem.Spec PyProof.Rows L2 Pd
abbrev tabF : List Str := []
/-- what the module's names are -/
structure Tb (K : PySem.W.Frag) (mg : Str → Option Value) : Prop where
  un : True
  b_abs : mg "abs" = none
  b_all : mg "all" = none
  b_any : mg "any" = none
  b_bool : mg "bool" = none
  b_enumerate : mg "enumerate" = none
  b_int : mg "int" = none
  b_isinstance : mg "isinstance" = none
  b_len : mg "len" = none
  b_max : mg "max" = none
  b_min : mg "min" = none
  b_range : mg "range" = none
  b_tuple : mg "tuple" = none
  b_zip : mg "zip" = none
  x_InvalidFraction : ExoC K mg "InvalidFraction"
  x_InvalidLots : ExoC K mg "InvalidLots"
  c_MOST_BOOKS : ∃ t, mg "MOST_BOOKS" = some (.int 20 t)
  c_MOST_HOUSES : ∃ t, mg "MOST_HOUSES" = some (.int 6 t)
  c_MOST_LOTS : ∃ t, mg "MOST_LOTS" = some (.int 12 t)
  c_MOST_POWERS : ∃ t, mg "MOST_POWERS" = some (.int 100 t)
  c_MOST_WIDTH : ∃ t, mg "MOST_WIDTH" = some (.int 100 t)
  c_TOO_LONG : ∃ t, mg "TOO_LONG" = some (.int 1000000000000000000000000000000000000000000000000000000000000 t)
  u_NONE : GTup K mg "NONE" [0, 1]
  u_WHOLE : GTup K mg "WHOLE" [1, 1]
  g_gcd : mg "gcd" = some (.builtin "math.gcd")
section
variable {P : Program} {w : World} {K : PySem.W.Frag} {mg : Str → Option Value} {base : Heap}
/-! ### _law_jug -/
abbrev N__law_jug : List Str := ["script", "spot", "cell", "great", "mixed"]
theorem sc__law_jug : FnScope N__law_jug ["script", "spot"] (defScope (top 66)) := ⟨rfl, rfl, rfl, by decide +kernel, rfl, by decide +kernel, by decide +kernel⟩
def ws__law_jug : WS := (wSeq (wSet 2 (wIf (wB (wOp dLt (wVar 1) (wLenS 0))) (wCl dIntOf (wCons (wIxS 0 (wVar 1)) wNil)) (wOp dAdd (wOp dMul (wC (.int 449)) (wVar 1)) (wC (.int 67))))) (wSeq (wSet 3 (wOp dMod (wCl dIntOf (wCons (wCl dAbs (wCons (wVar 2) wNil)) wNil)) (wOp dPow (wOp dPow (wC (.int 10)) (wC (.int 55))) (wC (.int 6))))) (wSeq (wSet 4 (wOp dAdd (wOp dAdd (wOp dAdd (wOp dMul (wOp dMod (wCl dIntOf (wCons (wVar 3) wNil)) (wC (.int 2305843009213693669))) (wC (.int 83))) (wOp dMul (wC (.int 1013)) (wVar 1))) (wOp dMul (wC (.int 47)) (wCl dIntOf (wCons (wOp dLt (wVar 2) (wC (.int 0))) wNil)))) (wC (.int 29)))) (wRet (wLe (wSz (wCons (wCl dMax2 (wCons (wC (.int 0)) (wCons (wOp dSub (wVar 3) (wOp dPow (wC (.int 10)) (wC (.int 16)))) wNil))) (wCons (wVar 4) (wCons (wC (.int 0)) wNil)))))))))
theorem der__law_jug (T : Tb K mg)  (f : Addr) (cdv : Value) (A : Around) (outer : List Env) (s : Shared) (H : Hp) (E : XK) (hr : Room 0 (A.deeper (envOfC "_law_jug" (defScope (top 66)) s.heap.objs.size f cdv))) : PSs (cxOf CX0 P w K mg base N__law_jug "_law_jug" (defScope (top 66)) f cdv A outer s H E).nox (defBody (top 66)) (lS K ζ ws__law_jug) :=
  (s_cons (s_set (i := 2) sc__law_jug.nd rfl (by first | exact Or.inl rfl | exact Or.inr rfl) (d_if (t_cmp (op_ltD hr.units0) snd_lt (d_var (pv 1)) (d_lenS (i := 0) T.b_len (pv 0)) (nomark _)) (d_cty call_int1 snd_intOf T.b_int (by decide +kernel) (a_cons (d_ixS (i := 0) (pv 0) (d_var (pv 1))) a_nil)) (d_op op_addD snd_add (d_op op_mulD snd_mul d_int (d_var (pv 1))) d_int))) (s_cons (s_set (i := 3) sc__law_jug.nd rfl (by first | exact Or.inl rfl | exact Or.inr rfl) (d_op op_mod snd_mod (d_cty call_int1 snd_intOf T.b_int (by decide +kernel) (a_cons (d_cb call_abs snd_abs T.b_abs (by decide +kernel) (a_cons (d_var (pv 2)) a_nil)) a_nil)) (d_op op_powW snd_pow (d_op op_powW snd_pow d_int d_int) d_int))) (s_cons (s_set (i := 4) sc__law_jug.nd rfl (by first | exact Or.inl rfl | exact Or.inr rfl) (d_op op_addD snd_add (d_op op_addD snd_add (d_op op_addD snd_add (d_op op_mulD snd_mul (d_op op_mod snd_mod (d_cty call_int1 snd_intOf T.b_int (by decide +kernel) (a_cons (d_var (pv 3)) a_nil)) d_int) d_int) (d_op op_mulD snd_mul d_int (d_var (pv 1)))) (d_op op_mulD snd_mul d_int (d_cty call_int1 snd_intOf T.b_int (by decide +kernel) (a_cons (d_cmp (op_ltD hr.units0) snd_lt (d_var (pv 2)) d_int (nomark _)) a_nil)))) d_int)) (s_one (s_ret (d_lL (l_lst (a_cons (d_cb (call_max2 rfl) snd_max2 T.b_max (by decide +kernel) (a_cons d_int (a_cons (d_op op_sub snd_sub (d_var (pv 3)) (d_op op_powW snd_pow d_int d_int)) a_nil))) (a_cons (d_var (pv 4)) (a_cons d_int a_nil))))))))))
theorem ok__law_jug (T : Tb K mg)  {f : Addr} {fd : FuncData} (F : FunD K "_law_jug" "_law_jug" (defArgs (top 66)) (defBody (top 66)) (defScope (top 66)) [] [] f fd) (hm : mg "_law_jug" = some (.ref f)) (pu : ∀ ns ds Q', ds.length + 1 = 2 → wf__law_jug ns ds Q' → ws__law_jug (edP Q') (enS N__law_jug ns ds)) : Cal P w K mg base 1 "_law_jug" ["script", "spot"] (spS K 2 wf__law_jug) :=
  ⟨f, fd, fnS F sc__law_jug rfl (fun cdv A outer s H E hr => der__law_jug T  f cdv A outer s H E hr) pu, hm, F.kp, F.bindsN (ps := ["script", "spot"]) fun _ _ _ _ _ _ us hl => match us, hl with | [_, _], _ => rfl⟩
/-! ### _law_pour -/
abbrev N__law_pour : List Str := ["jug", "total", "found", "one", "two"]
theorem sc__law_pour : FnScope N__law_pour ["jug", "total"] (defScope (top 67)) := ⟨rfl, rfl, rfl, by decide +kernel, rfl, by decide +kernel, by decide +kernel⟩
def ws__law_pour : WS := (wSeq (wIfS (wB (wOp dGt (wOpO 0 dIx (wC (.int 0))) (wC (.int 0)))) (wSeq (wSet 2 (wOp dMod (wCl dIntOf (wCons (wOpO 0 dIx (wC (.int 0))) wNil)) (wVar 1))) (wSeq (wSetIt 0 (wC (.int 0)) (wOp dFdivG (wOpO 0 dIx (wC (.int 0))) (wVar 1))) (wRet (wVar 2)))) wNext) (wSeq (wSetIt 0 (wC (.int 2)) (wOp dAdd (wOpO 0 dIx (wC (.int 2))) (wC (.int 1)))) (wSeq (wSet 3 (wOp dMod (wCl dIntOf (wCons (wOp dAdd (wOpO 0 dIx (wC (.int 1))) (wOp dMul (wC (.int 49979687)) (wOpO 0 dIx (wC (.int 2))))) wNil)) (wC (.int 2305843009213693951)))) (wSeq (wSet 4 (wOp dAdd (wOp dMul (wOp dMod (wCl dIntOf (wCons (wOp dAdd (wOp dMul (wVar 3) (wVar 3)) (wOp dMul (wC (.int 131)) (wOpO 0 dIx (wC (.int 2))))) wNil)) (wC (.int 2305843009213693921))) (wC (.int 32452843))) (wVar 3))) (wRet (wOp dMod (wCl dIntOf (wCons (wOp dFdivG (wVar 4) (wC (.int 65539))) wNil)) (wVar 1)))))))
theorem der__law_pour (T : Tb K mg)  (f : Addr) (cdv : Value) (A : Around) (outer : List Env) (s : Shared) (H : Hp) (E : XK) (hr : Room 0 (A.deeper (envOfC "_law_pour" (defScope (top 67)) s.heap.objs.size f cdv))) : PSs (cxOf CX0 P w K mg base N__law_pour "_law_pour" (defScope (top 67)) f cdv A outer s H E).nox (defBody (top 67)) (lS K ζ ws__law_pour) :=
  (s_cons (s_if (t_cmp op_gt snd_gt (d_ixO (pv 0) d_int) d_int (nomark _)) (s_cons (s_set (i := 2) sc__law_pour.nd rfl (by first | exact Or.inl rfl | exact Or.inr rfl) (d_op op_mod snd_mod (d_cty call_int1 snd_intOf T.b_int (by decide +kernel) (a_cons (d_ixO (pv 0) d_int) a_nil)) (d_var (pv 1)))) (s_cons (s_setIt (i := 0) (ps_asg (d_op op_fdivG snd_fdivG (d_ixO (pv 0) d_int) (d_var (pv 1))) (pg_sub (pv 0) d_int set_list))) (s_one (s_ret (d_var (pv 2)))))) s_nil) (s_cons (s_setIt (i := 0) (ps_asg (d_op op_addD snd_add (d_ixO (pv 0) d_int) d_int) (pg_sub (pv 0) d_int set_list))) (s_cons (s_set (i := 3) sc__law_pour.nd rfl (by first | exact Or.inl rfl | exact Or.inr rfl) (d_op op_mod snd_mod (d_cty call_int1 snd_intOf T.b_int (by decide +kernel) (a_cons (d_op op_addD snd_add (d_ixO (pv 0) d_int) (d_op op_mulD snd_mul d_int (d_ixO (pv 0) d_int))) a_nil)) d_int)) (s_cons (s_set (i := 4) sc__law_pour.nd rfl (by first | exact Or.inl rfl | exact Or.inr rfl) (d_op op_addD snd_add (d_op op_mulD snd_mul (d_op op_mod snd_mod (d_cty call_int1 snd_intOf T.b_int (by decide +kernel) (a_cons (d_op op_addD snd_add (d_op op_mulD snd_mul (d_var (pv 3)) (d_var (pv 3))) (d_op op_mulD snd_mul d_int (d_ixO (pv 0) d_int))) a_nil)) d_int) d_int) (d_var (pv 3)))) (s_one (s_ret (d_op op_mod snd_mod (d_cty call_int1 snd_intOf T.b_int (by decide +kernel) (a_cons (d_op op_fdivG snd_fdivG (d_var (pv 4)) d_int) a_nil)) (d_var (pv 1)))))))))
theorem ok__law_pour (T : Tb K mg)  {f : Addr} {fd : FuncData} (F : FunD K "_law_pour" "_law_pour" (defArgs (top 67)) (defBody (top 67)) (defScope (top 67)) [] [] f fd) (hm : mg "_law_pour" = some (.ref f)) (pu : ∀ dj ds Q', ds.length + 1 = 2 → wf__law_pour dj ds Q' → ws__law_pour (edJ Q') (enJ N__law_pour dj ds)) : Cal P w K mg base 1 "_law_pour" ["jug", "total"] (spJ K 2 wf__law_pour) :=
  ⟨f, fd, fnJ F sc__law_pour rfl (fun cdv A outer s H E hr => der__law_pour T  f cdv A outer s H E hr) pu, hm, F.kp, F.bindsN (ps := ["jug", "total"]) fun _ _ _ _ _ _ us hl => match us, hl with | [_, _], _ => rfl⟩
/-! ### is_whole -/
abbrev N_is_whole : List Str := ["value"]
theorem sc_is_whole : FnScope N_is_whole ["value"] (defScope (top 9)) := ⟨rfl, rfl, rfl, by decide +kernel, rfl, by decide +kernel, by decide +kernel⟩
def ws_is_whole : WS := (wRet (wAndV (wIsi "int" (wVar 0)) (wNotV (wIsi "bool" (wVar 0)))))
theorem der_is_whole (T : Tb K mg)  (f : Addr) (cdv : Value) (A : Around) (outer : List Env) (s : Shared) (H : Hp) (E : XK) (hr : Room 0 (A.deeper (envOfC "is_whole" (defScope (top 9)) s.heap.objs.size f cdv))) : PSs (cxOf CX0 P w K mg base N_is_whole "is_whole" (defScope (top 9)) f cdv A outer s H E).nox (defBody (top 9)) (lS K ζ ws_is_whole) :=
  (s_one (s_ret (d_and (d_isi (T' := "int") T.b_isinstance T.b_int (by decide +kernel) (d_var (pv 0))) (d_one (d_not (d_isi (T' := "bool") T.b_isinstance T.b_bool (by decide +kernel) (d_var (pv 0))))))))
theorem ok_is_whole (T : Tb K mg)  {f : Addr} {fd : FuncData} (F : FunD K "is_whole" "is_whole" (defArgs (top 9)) (defBody (top 9)) (defScope (top 9)) [] [] f fd) (hm : mg "is_whole" = some (.ref f)) (pu : ∀ ds Q', ds.length = 1 → wf_is_whole ds Q' → ws_is_whole (edP Q') (enP N_is_whole ds)) : Cal P w K mg base 1 "is_whole" ["value"] (spP K 1 wf_is_whole) :=
  ⟨f, fd, fnP F sc_is_whole (fun cdv A outer s H E hr => der_is_whole T  f cdv A outer s H E hr) pu, hm, F.kp, F.bindsN (ps := ["value"]) fun _ _ _ _ _ _ us hl => match us, hl with | [_], _ => rfl⟩
/-! ### is_between -/
abbrev N_is_between : List Str := ["value", "least", "most"]
theorem sc_is_between : FnScope N_is_between ["value", "least", "most"] (defScope (top 11)) := ⟨rfl, rfl, rfl, by decide +kernel, rfl, by decide +kernel, by decide +kernel⟩
def ws_is_between : WS := (wRet (wAndV (wFn 1 wf_is_whole (wCons (wVar 0) wNil)) (wCh dLe dLe (wVar 1) (wVar 0) (wVar 2))))
theorem der_is_between (T : Tb K mg) (C_is_whole : Cal P w K mg base 1 "is_whole" ["value"] (spP K 1 wf_is_whole)) (f : Addr) (cdv : Value) (A : Around) (outer : List Env) (s : Shared) (H : Hp) (E : XK) (hr : Room 1 (A.deeper (envOfC "is_between" (defScope (top 11)) s.heap.objs.size f cdv))) : PSs (cxOf CX0 P w K mg base N_is_between "is_between" (defScope (top 11)) f cdv A outer s H E).nox (defBody (top 11)) (lS K ζ ws_is_between) :=
  (s_one (s_ret (d_and (c_call C_is_whole (hr.mono (by decide)) (a_cons (d_var (pv 0)) a_nil)) (d_one (d_ch op_le snd_le op_le snd_le (d_var (pv 1)) (d_var (pv 0)) (d_var (pv 2)))))))
theorem ok_is_between (T : Tb K mg) (C_is_whole : Cal P w K mg base 1 "is_whole" ["value"] (spP K 1 wf_is_whole)) {f : Addr} {fd : FuncData} (F : FunD K "is_between" "is_between" (defArgs (top 11)) (defBody (top 11)) (defScope (top 11)) [] [] f fd) (hm : mg "is_between" = some (.ref f)) (pu : ∀ ds Q', ds.length = 3 → wf_is_between ds Q' → ws_is_between (edP Q') (enP N_is_between ds)) : Cal P w K mg base 2 "is_between" ["value", "least", "most"] (spP K 3 wf_is_between) :=
  ⟨f, fd, fnP F sc_is_between (fun cdv A outer s H E hr => der_is_between T C_is_whole f cdv A outer s H E hr) pu, hm, F.kp, F.bindsN (ps := ["value", "least", "most"]) fun _ _ _ _ _ _ us hl => match us, hl with | [_, _, _], _ => rfl⟩
/-! ### check_between -/
abbrev N_check_between : List Str := ["value", "least", "most"]
theorem sc_check_between : FnScope N_check_between ["value", "least", "most"] (defScope (top 12)) := ⟨rfl, rfl, rfl, by decide +kernel, rfl, by decide +kernel, by decide +kernel⟩
def ws_check_between (R : Exc → En → Prop) : WS := (wIfS (wNot (wTr (wFn 3 wf_is_between (wCons (wVar 0) (wCons (wVar 1) (wCons (wVar 2) wNil)))))) (wRaiseF R "InvalidNumber" "given" (wVar 0)) wNext)
theorem der_check_between {R : Exc → En → Prop} (T : Tb K mg) (C_is_between : Cal P w K mg base 2 "is_between" ["value", "least", "most"] (spP K 3 wf_is_between)) (C_InvalidNumber___init__ : ExfC P w K mg base "InvalidNumber" "given") (f : Addr) (cdv : Value) (A : Around) (outer : List Env) (s : Shared) (H : Hp) (E : XK) (tk : Takes (cxOf (L2.CX P w) P w K mg base N_check_between "check_between" (defScope (top 12)) f cdv A outer s H E) (wxOf K ζ R)) (hpo : PassesOwn (model P w) (cxOf (L2.CX P w) P w K mg base N_check_between "check_between" (defScope (top 12)) f cdv A outer s H E).A (cxOf (L2.CX P w) P w K mg base N_check_between "check_between" (defScope (top 12)) f cdv A outer s H E).env (cxOf (L2.CX P w) P w K mg base N_check_between "check_between" (defScope (top 12)) f cdv A outer s H E).xe) (hr : Room 2 (A.deeper (envOfC "check_between" (defScope (top 12)) s.heap.objs.size f cdv))) : PSs (cxOf (L2.CX P w) P w K mg base N_check_between "check_between" (defScope (top 12)) f cdv A outer s H E) (defBody (top 12)) (lS K ζ (ws_check_between R)) :=
  (s_one (s_if (t_not (t_tru (c_call C_is_between (hr.mono (by decide)) (a_cons (d_var (pv 0)) (a_cons (d_var (pv 1)) (a_cons (d_var (pv 2)) a_nil)))))) (s_one (s_raiseF C_InvalidNumber___init__ rfl (hr.mono (by decide)) tk (d_var (pv 0)))) s_nil))
theorem ok_check_between (T : Tb K mg) (C_is_between : Cal P w K mg base 2 "is_between" ["value", "least", "most"] (spP K 3 wf_is_between)) (C_InvalidNumber___init__ : ExfC P w K mg base "InvalidNumber" "given") {f : Addr} {fd : FuncData} (F : FunD K "check_between" "check_between" (defArgs (top 12)) (defBody (top 12)) (defScope (top 12)) [] [] f fd) (hm : mg "check_between" = some (.ref f)) (pu : ∀ ds Q' R', ds.length = 3 → wf_check_between ds Q' R' → ws_check_between (fun e _ => R' e) (edP Q') (enP N_check_between ds)) : CalX P w K mg base 3 "check_between" ["value", "least", "most"] (spX K 3 wf_check_between) :=
  ⟨f, fd, fnX F sc_check_between (fun ζ R cdv A outer s H E tk hpo hr => der_check_between T C_is_between C_InvalidNumber___init__ f cdv A outer s H E tk hpo hr) pu, hm, F.kp, F.bindsN (ps := ["value", "least", "most"]) fun _ _ _ _ _ _ us hl => match us, hl with | [_, _, _], _ => rfl⟩
/-! ### check_houses -/
abbrev N_check_houses : List Str := ["houses"]
theorem sc_check_houses : FnScope N_check_houses ["houses"] (defScope (top 32)) := ⟨rfl, rfl, rfl, by decide +kernel, rfl, by decide +kernel, by decide +kernel⟩
def ws_check_houses (R : Exc → En → Prop) : WS := (wDrop (wFnX 3 wf_check_between R (wCons (wVar 0) (wCons (wC (.int 1)) (wCons (wC (.int 6)) wNil)))))
theorem der_check_houses {R : Exc → En → Prop} (T : Tb K mg) (C_check_between : CalX P w K mg base 3 "check_between" ["value", "least", "most"] (spX K 3 wf_check_between)) (f : Addr) (cdv : Value) (A : Around) (outer : List Env) (s : Shared) (H : Hp) (E : XK) (tk : Takes (cxOf (L2.CX P w) P w K mg base N_check_houses "check_houses" (defScope (top 32)) f cdv A outer s H E) (wxOf K ζ R)) (hpo : PassesOwn (model P w) (cxOf (L2.CX P w) P w K mg base N_check_houses "check_houses" (defScope (top 32)) f cdv A outer s H E).A (cxOf (L2.CX P w) P w K mg base N_check_houses "check_houses" (defScope (top 32)) f cdv A outer s H E).env (cxOf (L2.CX P w) P w K mg base N_check_houses "check_houses" (defScope (top 32)) f cdv A outer s H E).xe) (hr : Room 3 (A.deeper (envOfC "check_houses" (defScope (top 32)) s.heap.objs.size f cdv))) : PSs (cxOf (L2.CX P w) P w K mg base N_check_houses "check_houses" (defScope (top 32)) f cdv A outer s H E) (defBody (top 32)) (lS K ζ (ws_check_houses R)) :=
  (s_one (s_expr (c_callX C_check_between tk (hr.mono (by decide)) (a_cons (d_var (pv 0)) (a_cons d_int (a_cons (d_gint T.c_MOST_HOUSES) a_nil))))))
theorem ok_check_houses (T : Tb K mg) (C_check_between : CalX P w K mg base 3 "check_between" ["value", "least", "most"] (spX K 3 wf_check_between)) {f : Addr} {fd : FuncData} (F : FunD K "check_houses" "check_houses" (defArgs (top 32)) (defBody (top 32)) (defScope (top 32)) [] [] f fd) (hm : mg "check_houses" = some (.ref f)) (pu : ∀ ds Q' R', ds.length = 1 → wf_check_houses ds Q' R' → ws_check_houses (fun e _ => R' e) (edP Q') (enP N_check_houses ds)) : CalX P w K mg base 4 "check_houses" ["houses"] (spX K 1 wf_check_houses) :=
  ⟨f, fd, fnX F sc_check_houses (fun ζ R cdv A outer s H E tk hpo hr => der_check_houses T C_check_between f cdv A outer s H E tk hpo hr) pu, hm, F.kp, F.bindsN (ps := ["houses"]) fun _ _ _ _ _ _ us hl => match us, hl with | [_], _ => rfl⟩
/-! ### is_ascending -/
abbrev N_is_ascending : List Str := ["value", "many", "one", "other", "number"]
theorem sc_is_ascending : FnScope N_is_ascending ["value", "many"] (defScope (top 13)) := ⟨rfl, rfl, rfl, by decide +kernel, rfl, by decide +kernel, by decide +kernel⟩
def ws_is_ascending : WS := (wSeq (wIfS (wNot (wTr (wIsi "tuple" (wVar 0)))) (wRet (wC (.bool false))) wNext) (wSeq (wIfS (wNot (wTr (wCl dAll (wCons (wLe (wLc (wSq (wVar 0)) (wgN 4) wYes (wFn 3 wf_is_between (wCons (wVar 4) (wCons (wC (.int 0)) (wCons (wOp dSub (wVar 1) (wC (.int 1))) wNil)))) [4])) wNil)))) (wRet (wC (.bool false))) wNext) (wRet (wCl dAll (wCons (wLe (wLc (wZip (wCons (wVar 0) (wCons (wSl (wVar 0) (wPart (wC (.int 1))) wNoP) wNil))) (wgT 2 (wgCons (wgN 2) (wgCons (wgN 3) wgNil))) wYes (wOp dLt (wVar 2) (wVar 3)) [2, 3])) wNil)))))
theorem der_is_ascending (T : Tb K mg) (C_is_between : Cal P w K mg base 2 "is_between" ["value", "least", "most"] (spP K 3 wf_is_between)) (f : Addr) (cdv : Value) (A : Around) (outer : List Env) (s : Shared) (H : Hp) (E : XK) (hr : Room 2 (A.deeper (envOfC "is_ascending" (defScope (top 13)) s.heap.objs.size f cdv))) : PSs (cxOf CX0 P w K mg base N_is_ascending "is_ascending" (defScope (top 13)) f cdv A outer s H E).nox (defBody (top 13)) (lS K ζ ws_is_ascending) :=
  (s_cons (s_if (t_not (t_tru (d_isi (T' := "tuple") T.b_isinstance T.b_tuple (by decide +kernel) (d_var (pv 0))))) (s_one (s_ret d_bl)) s_nil) (s_cons (s_if (t_not (t_tru (d_cb (cr_all rfl) snd_all T.b_all (by decide +kernel) (a_cons (d_lL (l_lc (own := [("number", 4)]) rfl sc_is_ascending.nd (i_seq (d_var (pv 0))) (blkOk_by (N := N_is_ascending) (sc := (defScope (top 13))) (by decide +kernel)) (fun _ _ _ _ _ => (g_name (i := 4) sc_is_ascending.nd rfl (by first | exact Or.inl rfl | exact Or.inr rfl))) (fun _ _ _ _ _ => ts_nil) (fun _ _ _ _ _ => (c_call C_is_between (hr.mono (by decide)) (a_cons (d_var (pv 4)) (a_cons d_int (a_cons (d_op op_sub snd_sub (d_var (pv 1)) d_int) a_nil))))))) a_nil)))) (s_one (s_ret d_bl)) s_nil) (s_one (s_ret (d_cb (cr_all rfl) snd_all T.b_all (by decide +kernel) (a_cons (d_lL (l_lc (own := [("one", 2), ("other", 3)]) rfl sc_is_ascending.nd (i_zip T.b_zip (a_cons (d_var (pv 0)) (a_cons (d_sl (d_var (pv 0)) (o_some d_int) o_none) a_nil))) (blkOk_by (N := N_is_ascending) (sc := (defScope (top 13))) (by decide +kernel)) (fun _ _ _ _ _ => (g_tup (n := 2) rfl (gs_cons (g_name (i := 2) sc_is_ascending.nd rfl (by first | exact Or.inl rfl | exact Or.inr rfl)) (gs_cons (g_name (i := 3) sc_is_ascending.nd rfl (by first | exact Or.inl rfl | exact Or.inr rfl)) gs_nil)) (pg_tup rfl (gs_cons (g_name (i := 2) sc_is_ascending.nd rfl (by first | exact Or.inl rfl | exact Or.inr rfl)) (gs_cons (g_name (i := 3) sc_is_ascending.nd rfl (by first | exact Or.inl rfl | exact Or.inr rfl)) gs_nil))))) (fun _ _ _ _ _ => ts_nil) (fun _ _ _ _ _ => (d_cmp (op_ltD hr.units0) snd_lt (d_var (pv 2)) (d_var (pv 3)) (nomark _))))) a_nil))))))
theorem ok_is_ascending (T : Tb K mg) (C_is_between : Cal P w K mg base 2 "is_between" ["value", "least", "most"] (spP K 3 wf_is_between)) {f : Addr} {fd : FuncData} (F : FunD K "is_ascending" "is_ascending" (defArgs (top 13)) (defBody (top 13)) (defScope (top 13)) [] [] f fd) (hm : mg "is_ascending" = some (.ref f)) (pu : ∀ ds Q', ds.length = 2 → wf_is_ascending ds Q' → ws_is_ascending (edP Q') (enP N_is_ascending ds)) : Cal P w K mg base 3 "is_ascending" ["value", "many"] (spP K 2 wf_is_ascending) :=
  ⟨f, fd, fnP F sc_is_ascending (fun cdv A outer s H E hr => der_is_ascending T C_is_between f cdv A outer s H E hr) pu, hm, F.kp, F.bindsN (ps := ["value", "many"]) fun _ _ _ _ _ _ us hl => match us, hl with | [_, _], _ => rfl⟩
/-! ### are_lots -/
abbrev N_are_lots : List Str := ["houses", "value", "one", "other", "lot"]
theorem sc_are_lots : FnScope N_are_lots ["houses", "value"] (defScope (top 33)) := ⟨rfl, rfl, rfl, by decide +kernel, rfl, by decide +kernel, by decide +kernel⟩
def ws_are_lots : WS := (wSeq (wIfS (wOr (wNot (wTr (wIsi "tuple" (wVar 1)))) (wB (wOp dGt (wCl dLen (wCons (wVar 1) wNil)) (wC (.int 12))))) (wRet (wC (.bool false))) wNext) (wSeq (wIfS (wNot (wTr (wCl dAll (wCons (wLe (wLc (wSq (wVar 1)) (wgN 4) wYes (wFn 2 wf_is_ascending (wCons (wVar 4) (wCons (wVar 0) wNil))) [4])) wNil)))) (wRet (wC (.bool false))) wNext) (wRet (wCl dAll (wCons (wLe (wLc (wZip (wCons (wVar 1) (wCons (wSl (wVar 1) (wPart (wC (.int 1))) wNoP) wNil))) (wgT 2 (wgCons (wgN 2) (wgCons (wgN 3) wgNil))) wYes (wOp dLt (wVar 2) (wVar 3)) [2, 3])) wNil)))))
theorem der_are_lots (T : Tb K mg) (C_is_ascending : Cal P w K mg base 3 "is_ascending" ["value", "many"] (spP K 2 wf_is_ascending)) (f : Addr) (cdv : Value) (A : Around) (outer : List Env) (s : Shared) (H : Hp) (E : XK) (hr : Room 3 (A.deeper (envOfC "are_lots" (defScope (top 33)) s.heap.objs.size f cdv))) : PSs (cxOf CX0 P w K mg base N_are_lots "are_lots" (defScope (top 33)) f cdv A outer s H E).nox (defBody (top 33)) (lS K ζ ws_are_lots) :=
  (s_cons (s_if (PW.pt (t_or (t_not (t_tru (d_isi (T' := "tuple") T.b_isinstance T.b_tuple (by decide +kernel) (d_var (pv 1))))) (t_or1 (t_cmp op_gt snd_gt (d_cb call_len snd_len T.b_len (by decide +kernel) (a_cons (d_var (pv 1)) a_nil)) (d_gint T.c_MOST_LOTS) (nomark _))))) (s_one (s_ret d_bl)) s_nil) (s_cons (s_if (t_not (t_tru (d_cb (cr_all rfl) snd_all T.b_all (by decide +kernel) (a_cons (d_lL (l_lc (own := [("lot", 4)]) rfl sc_are_lots.nd (i_seq (d_var (pv 1))) (blkOk_by (N := N_are_lots) (sc := (defScope (top 33))) (by decide +kernel)) (fun _ _ _ _ _ => (g_name (i := 4) sc_are_lots.nd rfl (by first | exact Or.inl rfl | exact Or.inr rfl))) (fun _ _ _ _ _ => ts_nil) (fun _ _ _ _ _ => (c_call C_is_ascending (hr.mono (by decide)) (a_cons (d_var (pv 4)) (a_cons (d_var (pv 0)) a_nil)))))) a_nil)))) (s_one (s_ret d_bl)) s_nil) (s_one (s_ret (d_cb (cr_all rfl) snd_all T.b_all (by decide +kernel) (a_cons (d_lL (l_lc (own := [("one", 2), ("other", 3)]) rfl sc_are_lots.nd (i_zip T.b_zip (a_cons (d_var (pv 1)) (a_cons (d_sl (d_var (pv 1)) (o_some d_int) o_none) a_nil))) (blkOk_by (N := N_are_lots) (sc := (defScope (top 33))) (by decide +kernel)) (fun _ _ _ _ _ => (g_tup (n := 2) rfl (gs_cons (g_name (i := 2) sc_are_lots.nd rfl (by first | exact Or.inl rfl | exact Or.inr rfl)) (gs_cons (g_name (i := 3) sc_are_lots.nd rfl (by first | exact Or.inl rfl | exact Or.inr rfl)) gs_nil)) (pg_tup rfl (gs_cons (g_name (i := 2) sc_are_lots.nd rfl (by first | exact Or.inl rfl | exact Or.inr rfl)) (gs_cons (g_name (i := 3) sc_are_lots.nd rfl (by first | exact Or.inl rfl | exact Or.inr rfl)) gs_nil))))) (fun _ _ _ _ _ => ts_nil) (fun _ _ _ _ _ => (d_cmp (op_ltD hr.units0) snd_lt (d_var (pv 2)) (d_var (pv 3)) (nomark _))))) a_nil))))))
theorem ok_are_lots (T : Tb K mg) (C_is_ascending : Cal P w K mg base 3 "is_ascending" ["value", "many"] (spP K 2 wf_is_ascending)) {f : Addr} {fd : FuncData} (F : FunD K "are_lots" "are_lots" (defArgs (top 33)) (defBody (top 33)) (defScope (top 33)) [] [] f fd) (hm : mg "are_lots" = some (.ref f)) (pu : ∀ ds Q', ds.length = 2 → wf_are_lots ds Q' → ws_are_lots (edP Q') (enP N_are_lots ds)) : Cal P w K mg base 4 "are_lots" ["houses", "value"] (spP K 2 wf_are_lots) :=
  ⟨f, fd, fnP F sc_are_lots (fun cdv A outer s H E hr => der_are_lots T C_is_ascending f cdv A outer s H E hr) pu, hm, F.kp, F.bindsN (ps := ["houses", "value"]) fun _ _ _ _ _ _ us hl => match us, hl with | [_, _], _ => rfl⟩
/-! ### check_lots -/
abbrev N_check_lots : List Str := ["houses", "lots"]
theorem sc_check_lots : FnScope N_check_lots ["houses", "lots"] (defScope (top 34)) := ⟨rfl, rfl, rfl, by decide +kernel, rfl, by decide +kernel, by decide +kernel⟩
def ws_check_lots (R : Exc → En → Prop) : WS := (wIfS (wNot (wTr (wFn 2 wf_are_lots (wCons (wVar 0) (wCons (wVar 1) wNil))))) (wRaise R "InvalidLots" (wC (.str "at most 12 ascending lots are wanted"))) wNext)
theorem der_check_lots {R : Exc → En → Prop} (T : Tb K mg) (C_are_lots : Cal P w K mg base 4 "are_lots" ["houses", "value"] (spP K 2 wf_are_lots)) (f : Addr) (cdv : Value) (A : Around) (outer : List Env) (s : Shared) (H : Hp) (E : XK) (tk : Takes (cxOf (L2.CX P w) P w K mg base N_check_lots "check_lots" (defScope (top 34)) f cdv A outer s H E) (wxOf K ζ R)) (hpo : PassesOwn (model P w) (cxOf (L2.CX P w) P w K mg base N_check_lots "check_lots" (defScope (top 34)) f cdv A outer s H E).A (cxOf (L2.CX P w) P w K mg base N_check_lots "check_lots" (defScope (top 34)) f cdv A outer s H E).env (cxOf (L2.CX P w) P w K mg base N_check_lots "check_lots" (defScope (top 34)) f cdv A outer s H E).xe) (hr : Room 4 (A.deeper (envOfC "check_lots" (defScope (top 34)) s.heap.objs.size f cdv))) : PSs (cxOf (L2.CX P w) P w K mg base N_check_lots "check_lots" (defScope (top 34)) f cdv A outer s H E) (defBody (top 34)) (lS K ζ (ws_check_lots R)) :=
  (s_one (s_if (t_not (t_tru (c_call C_are_lots (hr.mono (by decide)) (a_cons (d_var (pv 0)) (a_cons (d_var (pv 1)) a_nil))))) (s_one (s_raise T.x_InvalidLots rfl tk d_str)) s_nil))
theorem ok_check_lots (T : Tb K mg) (C_are_lots : Cal P w K mg base 4 "are_lots" ["houses", "value"] (spP K 2 wf_are_lots)) {f : Addr} {fd : FuncData} (F : FunD K "check_lots" "check_lots" (defArgs (top 34)) (defBody (top 34)) (defScope (top 34)) [] [] f fd) (hm : mg "check_lots" = some (.ref f)) (pu : ∀ ds Q' R', ds.length = 2 → wf_check_lots ds Q' R' → ws_check_lots (fun e _ => R' e) (edP Q') (enP N_check_lots ds)) : CalX P w K mg base 5 "check_lots" ["houses", "lots"] (spX K 2 wf_check_lots) :=
  ⟨f, fd, fnX F sc_check_lots (fun ζ R cdv A outer s H E tk hpo hr => der_check_lots T C_are_lots f cdv A outer s H E tk hpo hr) pu, hm, F.kp, F.bindsN (ps := ["houses", "lots"]) fun _ _ _ _ _ _ us hl => match us, hl with | [_, _], _ => rfl⟩
/-! ### check_housed -/
abbrev N_check_housed : List Str := ["houses", "lots"]
theorem sc_check_housed : FnScope N_check_housed ["houses", "lots"] (defScope (top 35)) := ⟨rfl, rfl, rfl, by decide +kernel, rfl, by decide +kernel, by decide +kernel⟩
def ws_check_housed (R : Exc → En → Prop) : WS := (wSeq (wDrop (wFnX 1 wf_check_houses R (wCons (wVar 0) wNil))) (wDrop (wFnX 2 wf_check_lots R (wCons (wVar 0) (wCons (wVar 1) wNil)))))
theorem der_check_housed {R : Exc → En → Prop} (T : Tb K mg) (C_check_houses : CalX P w K mg base 4 "check_houses" ["houses"] (spX K 1 wf_check_houses)) (C_check_lots : CalX P w K mg base 5 "check_lots" ["houses", "lots"] (spX K 2 wf_check_lots)) (f : Addr) (cdv : Value) (A : Around) (outer : List Env) (s : Shared) (H : Hp) (E : XK) (tk : Takes (cxOf (L2.CX P w) P w K mg base N_check_housed "check_housed" (defScope (top 35)) f cdv A outer s H E) (wxOf K ζ R)) (hpo : PassesOwn (model P w) (cxOf (L2.CX P w) P w K mg base N_check_housed "check_housed" (defScope (top 35)) f cdv A outer s H E).A (cxOf (L2.CX P w) P w K mg base N_check_housed "check_housed" (defScope (top 35)) f cdv A outer s H E).env (cxOf (L2.CX P w) P w K mg base N_check_housed "check_housed" (defScope (top 35)) f cdv A outer s H E).xe) (hr : Room 5 (A.deeper (envOfC "check_housed" (defScope (top 35)) s.heap.objs.size f cdv))) : PSs (cxOf (L2.CX P w) P w K mg base N_check_housed "check_housed" (defScope (top 35)) f cdv A outer s H E) (defBody (top 35)) (lS K ζ (ws_check_housed R)) :=
  (s_cons (s_expr (c_callX C_check_houses tk (hr.mono (by decide)) (a_cons (d_var (pv 0)) a_nil))) (s_one (s_expr (c_callX C_check_lots tk (hr.mono (by decide)) (a_cons (d_var (pv 0)) (a_cons (d_var (pv 1)) a_nil))))))
theorem ok_check_housed (T : Tb K mg) (C_check_houses : CalX P w K mg base 4 "check_houses" ["houses"] (spX K 1 wf_check_houses)) (C_check_lots : CalX P w K mg base 5 "check_lots" ["houses", "lots"] (spX K 2 wf_check_lots)) {f : Addr} {fd : FuncData} (F : FunD K "check_housed" "check_housed" (defArgs (top 35)) (defBody (top 35)) (defScope (top 35)) [] [] f fd) (hm : mg "check_housed" = some (.ref f)) (pu : ∀ ds Q' R', ds.length = 2 → wf_check_housed ds Q' R' → ws_check_housed (fun e _ => R' e) (edP Q') (enP N_check_housed ds)) : CalX P w K mg base 6 "check_housed" ["houses", "lots"] (spX K 2 wf_check_housed) :=
  ⟨f, fd, fnX F sc_check_housed (fun ζ R cdv A outer s H E tk hpo hr => der_check_housed T C_check_houses C_check_lots f cdv A outer s H E tk hpo hr) pu, hm, F.kp, F.bindsN (ps := ["houses", "lots"]) fun _ _ _ _ _ _ us hl => match us, hl with | [_, _], _ => rfl⟩
/-! ### is_within -/
abbrev N_is_within : List Str := ["lot", "other", "house"]
theorem sc_is_within : FnScope N_is_within ["lot", "other"] (defScope (top 36)) := ⟨rfl, rfl, rfl, by decide +kernel, rfl, by decide +kernel, by decide +kernel⟩
def ws_is_within : WS := (wRet (wCl dAll (wCons (wLe (wLc (wSq (wVar 0)) (wgN 2) wYes (wOp (dIn false) (wVar 2) (wVar 1)) [2])) wNil)))
theorem der_is_within (T : Tb K mg)  (f : Addr) (cdv : Value) (A : Around) (outer : List Env) (s : Shared) (H : Hp) (E : XK) (hr : Room 0 (A.deeper (envOfC "is_within" (defScope (top 36)) s.heap.objs.size f cdv))) : PSs (cxOf CX0 P w K mg base N_is_within "is_within" (defScope (top 36)) f cdv A outer s H E).nox (defBody (top 36)) (lS K ζ ws_is_within) :=
  (s_one (s_ret (d_cb (cr_all rfl) snd_all T.b_all (by decide +kernel) (a_cons (d_lL (l_lc (own := [("house", 2)]) rfl sc_is_within.nd (i_seq (d_var (pv 0))) (blkOk_by (N := N_is_within) (sc := (defScope (top 36))) (by decide +kernel)) (fun _ _ _ _ _ => (g_name (i := 2) sc_is_within.nd rfl (by first | exact Or.inl rfl | exact Or.inr rfl))) (fun _ _ _ _ _ => ts_nil) (fun _ _ _ _ _ => (d_cmp op_in_seq snd_in (d_var (pv 2)) (d_var (pv 1)) (by rfl))))) a_nil))))
theorem ok_is_within (T : Tb K mg)  {f : Addr} {fd : FuncData} (F : FunD K "is_within" "is_within" (defArgs (top 36)) (defBody (top 36)) (defScope (top 36)) [] [] f fd) (hm : mg "is_within" = some (.ref f)) (pu : ∀ ds Q', ds.length = 2 → wf_is_within ds Q' → ws_is_within (edP Q') (enP N_is_within ds)) : Cal P w K mg base 1 "is_within" ["lot", "other"] (spP K 2 wf_is_within) :=
  ⟨f, fd, fnP F sc_is_within (fun cdv A outer s H E hr => der_is_within T  f cdv A outer s H E hr) pu, hm, F.kp, F.bindsN (ps := ["lot", "other"]) fun _ _ _ _ _ _ us hl => match us, hl with | [_, _], _ => rfl⟩
/-! ### is_within_any -/
abbrev N_is_within_any : List Str := ["lot", "others", "other"]
theorem sc_is_within_any : FnScope N_is_within_any ["lot", "others"] (defScope (top 37)) := ⟨rfl, rfl, rfl, by decide +kernel, rfl, by decide +kernel, by decide +kernel⟩
def ws_is_within_any : WS := (wRet (wCl dAny (wCons (wLe (wLc (wSq (wVar 1)) (wgN 2) wYes (wFn 2 wf_is_within (wCons (wVar 0) (wCons (wVar 2) wNil))) [2])) wNil)))
theorem der_is_within_any (T : Tb K mg) (C_is_within : Cal P w K mg base 1 "is_within" ["lot", "other"] (spP K 2 wf_is_within)) (f : Addr) (cdv : Value) (A : Around) (outer : List Env) (s : Shared) (H : Hp) (E : XK) (hr : Room 1 (A.deeper (envOfC "is_within_any" (defScope (top 37)) s.heap.objs.size f cdv))) : PSs (cxOf CX0 P w K mg base N_is_within_any "is_within_any" (defScope (top 37)) f cdv A outer s H E).nox (defBody (top 37)) (lS K ζ ws_is_within_any) :=
  (s_one (s_ret (d_cb (cr_any rfl) snd_any T.b_any (by decide +kernel) (a_cons (d_lL (l_lc (own := [("other", 2)]) rfl sc_is_within_any.nd (i_seq (d_var (pv 1))) (blkOk_by (N := N_is_within_any) (sc := (defScope (top 37))) (by decide +kernel)) (fun _ _ _ _ _ => (g_name (i := 2) sc_is_within_any.nd rfl (by first | exact Or.inl rfl | exact Or.inr rfl))) (fun _ _ _ _ _ => ts_nil) (fun _ _ _ _ _ => (c_call C_is_within (hr.mono (by decide)) (a_cons (d_var (pv 0)) (a_cons (d_var (pv 2)) a_nil)))))) a_nil))))
theorem ok_is_within_any (T : Tb K mg) (C_is_within : Cal P w K mg base 1 "is_within" ["lot", "other"] (spP K 2 wf_is_within)) {f : Addr} {fd : FuncData} (F : FunD K "is_within_any" "is_within_any" (defArgs (top 37)) (defBody (top 37)) (defScope (top 37)) [] [] f fd) (hm : mg "is_within_any" = some (.ref f)) (pu : ∀ ds Q', ds.length = 2 → wf_is_within_any ds Q' → ws_is_within_any (edP Q') (enP N_is_within_any ds)) : Cal P w K mg base 2 "is_within_any" ["lot", "others"] (spP K 2 wf_is_within_any) :=
  ⟨f, fd, fnP F sc_is_within_any (fun cdv A outer s H E hr => der_is_within_any T C_is_within f cdv A outer s H E hr) pu, hm, F.kp, F.bindsN (ps := ["lot", "others"]) fun _ _ _ _ _ _ us hl => match us, hl with | [_, _], _ => rfl⟩
/-! ### free_in -/
abbrev N_free_in : List Str := ["houses", "lots", "house"]
theorem sc_free_in : FnScope N_free_in ["houses", "lots"] (defScope (top 38)) := ⟨rfl, rfl, rfl, by decide +kernel, rfl, by decide +kernel, by decide +kernel⟩
def ws_free_in : WS := (wRet (wCl dTupOf (wCons (wLe (wLc (wRg1 (wCons (wVar 0) wNil)) (wgN 2) (wNot (wTr (wFn 2 wf_is_within_any (wCons (wTup (wCons (wVar 2) wNil)) (wCons (wVar 1) wNil))))) (wVar 2) [2])) wNil)))
theorem der_free_in (T : Tb K mg) (C_is_within_any : Cal P w K mg base 2 "is_within_any" ["lot", "others"] (spP K 2 wf_is_within_any)) (f : Addr) (cdv : Value) (A : Around) (outer : List Env) (s : Shared) (H : Hp) (E : XK) (hr : Room 2 (A.deeper (envOfC "free_in" (defScope (top 38)) s.heap.objs.size f cdv))) : PSs (cxOf CX0 P w K mg base N_free_in "free_in" (defScope (top 38)) f cdv A outer s H E).nox (defBody (top 38)) (lS K ζ ws_free_in) :=
  (s_one (s_ret (d_cty call_tuple_of snd_tupOf T.b_tuple (by decide +kernel) (a_cons (d_lL (l_lc (own := [("house", 2)]) rfl sc_free_in.nd (i_rng1 T.b_range (a_cons (d_var (pv 0)) a_nil)) (blkOk_by (N := N_free_in) (sc := (defScope (top 38))) (by decide +kernel)) (fun _ _ _ _ _ => (g_name (i := 2) sc_free_in.nd rfl (by first | exact Or.inl rfl | exact Or.inr rfl))) (fun _ _ _ _ _ => (ts_one (t_not (t_tru (c_call C_is_within_any (hr.mono (by decide)) (a_cons (d_tup (a_cons (d_var (pv 2)) a_nil)) (a_cons (d_var (pv 1)) a_nil))))))) (fun _ _ _ _ _ => (d_var (pv 2))))) a_nil))))
theorem ok_free_in (T : Tb K mg) (C_is_within_any : Cal P w K mg base 2 "is_within_any" ["lot", "others"] (spP K 2 wf_is_within_any)) {f : Addr} {fd : FuncData} (F : FunD K "free_in" "free_in" (defArgs (top 38)) (defBody (top 38)) (defScope (top 38)) [] [] f fd) (hm : mg "free_in" = some (.ref f)) (pu : ∀ ds Q', ds.length = 2 → wf_free_in ds Q' → ws_free_in (edP Q') (enP N_free_in ds)) : Cal P w K mg base 3 "free_in" ["houses", "lots"] (spP K 2 wf_free_in) :=
  ⟨f, fd, fnP F sc_free_in (fun cdv A outer s H E hr => der_free_in T C_is_within_any f cdv A outer s H E hr) pu, hm, F.kp, F.bindsN (ps := ["houses", "lots"]) fun _ _ _ _ _ _ us hl => match us, hl with | [_, _], _ => rfl⟩
/-! ### first_table -/
abbrev N_first_table : List Str := ["houses", "lots", "rows", "at", "borne", "slack", "house", "other"]
theorem sc_first_table : FnScope N_first_table ["houses", "lots"] (defScope (top 40)) := ⟨rfl, rfl, rfl, by decide +kernel, rfl, by decide +kernel, by decide +kernel⟩
def ws_first_table : WS := (wSeq (wSetOwn 2 (wSz wNil)) (wSeq (wFor (wRg1 (wCons (wCl dLen (wCons (wVar 1) wNil)) wNil)) (wgN 3) (wSeq (wSet 4 (wLe (wLc (wRg1 (wCons (wVar 0) wNil)) (wgN 6) wYes (wCl dIntOf (wCons (wOp (dIn false) (wVar 6) (wOp dIx (wVar 1) (wVar 3))) wNil)) [6]))) (wSeq (wSet 5 (wLe (wLc (wRg1 (wCons (wCl dLen (wCons (wVar 1) wNil)) wNil)) (wgN 7) wYes (wCl dIntOf (wCons (wOp dEq (wVar 7) (wVar 3)) wNil)) [7]))) (wApp 2 (wOp dAdd (wOp dAdd (wVar 4) (wVar 5)) (wLe (wSz (wCons (wC (.int 1)) wNil)))))))) (wSeq (wApp 2 (wOp dAdd (wOp dMul (wLe (wSz (wCons (wUn dNeg (wC (.int 1))) wNil))) (wVar 0)) (wOp dMul (wLe (wSz (wCons (wC (.int 0)) wNil))) (wOp dAdd (wCl dLen (wCons (wVar 1) wNil)) (wC (.int 1)))))) (wFrz 2 (wRet (wVar 2))))))
theorem der_first_table (T : Tb K mg)  (f : Addr) (cdv : Value) (A : Around) (outer : List Env) (s : Shared) (H : Hp) (E : XK) (hr : Room 0 (A.deeper (envOfC "first_table" (defScope (top 40)) s.heap.objs.size f cdv))) : PSs (cxOf CX0 P w K mg base N_first_table "first_table" (defScope (top 40)) f cdv A outer s H E).nox (defBody (top 40)) (lS K ζ ws_first_table) :=
  (s_cons (s_setOwn (i := 2) sc_first_table.nd rfl (by first | exact Or.inl rfl | exact Or.inr rfl) (l_lst a_nil)) (s_cons (s_for PassesOwn.never rfl (i_rng1 T.b_range (a_cons (d_cb call_len snd_len T.b_len (by decide +kernel) (a_cons (d_var (pv 1)) a_nil)) a_nil)) (g_name (i := 3) sc_first_table.nd rfl (by first | exact Or.inl rfl | exact Or.inr rfl)) (s_cons (s_lc (i := 4) (own := [("house", 6)]) rfl sc_first_table.nd rfl rfl (sw_true rfl rfl rfl (by decide +kernel)) (i_rng1 T.b_range (a_cons (d_var (pv 0)) a_nil)) (blkOk_by (N := N_first_table) (sc := (defScope (top 40))) (by decide +kernel)) (fun _ _ _ _ _ => (g_name (i := 6) sc_first_table.nd rfl (by first | exact Or.inl rfl | exact Or.inr rfl))) (fun _ _ _ _ _ => ts_nil) (fun _ _ _ _ _ => (d_cty call_int1 snd_intOf T.b_int (by decide +kernel) (a_cons (d_cmp op_in_seq snd_in (d_var (pv 6)) (d_ix (d_var (pv 1)) (d_var (pv 3))) (by rfl)) a_nil)))) (s_cons (s_lc (i := 5) (own := [("other", 7)]) rfl sc_first_table.nd rfl rfl (sw_true rfl rfl rfl (by decide +kernel)) (i_rng1 T.b_range (a_cons (d_cb call_len snd_len T.b_len (by decide +kernel) (a_cons (d_var (pv 1)) a_nil)) a_nil)) (blkOk_by (N := N_first_table) (sc := (defScope (top 40))) (by decide +kernel)) (fun _ _ _ _ _ => (g_name (i := 7) sc_first_table.nd rfl (by first | exact Or.inl rfl | exact Or.inr rfl))) (fun _ _ _ _ _ => ts_nil) (fun _ _ _ _ _ => (d_cty call_int1 snd_intOf T.b_int (by decide +kernel) (a_cons (d_cmp (op_eqD hr.units) snd_eq (d_var (pv 7)) (d_var (pv 3)) (nomark _)) a_nil)))) (s_one (s_app (i := 2) (pv 2) (d_op op_addD snd_add (d_op op_addD snd_add (d_var (pv 4)) (d_var (pv 5))) (d_lL (l_lst (a_cons d_int a_nil)))) rfl (pe_bm PySem.F.plainAttrs_list PySem.F.slot_list_append PySem.F.type_list_append mt_append (pv 2) (pa_cons (d_op op_addD snd_add (d_op op_addD snd_add (d_var (pv 4)) (d_var (pv 5))) (d_lL (l_lst (a_cons d_int a_nil)))) pa_nil))))))) (s_cons (s_app (i := 2) (pv 2) (d_op op_addD snd_add (d_op op_mulD snd_mul (d_lL (l_lst (a_cons (d_un un_neg snd_neg d_int) a_nil))) (d_var (pv 0))) (d_op op_mulD snd_mul (d_lL (l_lst (a_cons d_int a_nil))) (d_op op_addD snd_add (d_cb call_len snd_len T.b_len (by decide +kernel) (a_cons (d_var (pv 1)) a_nil)) d_int))) rfl (pe_bm PySem.F.plainAttrs_list PySem.F.slot_list_append PySem.F.type_list_append mt_append (pv 2) (pa_cons (d_op op_addD snd_add (d_op op_mulD snd_mul (d_lL (l_lst (a_cons (d_un un_neg snd_neg d_int) a_nil))) (d_var (pv 0))) (d_op op_mulD snd_mul (d_lL (l_lst (a_cons d_int a_nil))) (d_op op_addD snd_add (d_cb call_len snd_len T.b_len (by decide +kernel) (a_cons (d_var (pv 1)) a_nil)) d_int))) pa_nil))) (ss_frz (i := 2) (s_one (s_ret (d_var (pv 2))))))))
theorem ok_first_table (T : Tb K mg)  {f : Addr} {fd : FuncData} (F : FunD K "first_table" "first_table" (defArgs (top 40)) (defBody (top 40)) (defScope (top 40)) [] [] f fd) (hm : mg "first_table" = some (.ref f)) (pu : ∀ ds Q', ds.length = 2 → wf_first_table ds Q' → ws_first_table (edP Q') (enP N_first_table ds)) : Cal P w K mg base 1 "first_table" ["houses", "lots"] (spP K 2 wf_first_table) :=
  ⟨f, fd, fnP F sc_first_table (fun cdv A outer s H E hr => der_first_table T  f cdv A outer s H E hr) pu, hm, F.kp, F.bindsN (ps := ["houses", "lots"]) fun _ _ _ _ _ _ us hl => match us, hl with | [_, _], _ => rfl⟩
/-! ### entering -/
abbrev N_entering : List Str := ["table", "column", "number"]
theorem sc_entering : FnScope N_entering ["table"] (defScope (top 41)) := ⟨rfl, rfl, rfl, by decide +kernel, rfl, by decide +kernel, by decide +kernel⟩
def ws_entering : WS := (wSeq (wFor (wEnum (wCons (wSl (wOp dIx (wVar 0) (wUn dNeg (wC (.int 1)))) wNoP (wPart (wUn dNeg (wC (.int 1))))) wNil)) (wgT 2 (wgCons (wgN 1) (wgCons (wgN 2) wgNil))) (wIfS (wB (wOp dLt (wVar 2) (wC (.int 0)))) (wRet (wVar 1)) wNext)) (wRet (wC .none)))
theorem der_entering (T : Tb K mg)  (f : Addr) (cdv : Value) (A : Around) (outer : List Env) (s : Shared) (H : Hp) (E : XK) (hr : Room 0 (A.deeper (envOfC "entering" (defScope (top 41)) s.heap.objs.size f cdv))) : PSs (cxOf CX0 P w K mg base N_entering "entering" (defScope (top 41)) f cdv A outer s H E).nox (defBody (top 41)) (lS K ζ ws_entering) :=
  (s_cons (s_for PassesOwn.never rfl (i_enum T.b_enumerate (a_cons (d_sl (d_ix (d_var (pv 0)) (d_un un_neg snd_neg d_int)) o_none (o_some (d_un un_neg snd_neg d_int))) a_nil)) (g_tup (n := 2) rfl (gs_cons (g_name (i := 1) sc_entering.nd rfl (by first | exact Or.inl rfl | exact Or.inr rfl)) (gs_cons (g_name (i := 2) sc_entering.nd rfl (by first | exact Or.inl rfl | exact Or.inr rfl)) gs_nil)) (pg_tup rfl (gs_cons (g_name (i := 1) sc_entering.nd rfl (by first | exact Or.inl rfl | exact Or.inr rfl)) (gs_cons (g_name (i := 2) sc_entering.nd rfl (by first | exact Or.inl rfl | exact Or.inr rfl)) gs_nil)))) (s_one (s_if (t_cmp (op_ltD hr.units0) snd_lt (d_var (pv 2)) d_int (nomark _)) (s_one (s_ret (d_var (pv 1)))) s_nil))) (s_one (s_ret d_non)))
theorem ok_entering (T : Tb K mg)  {f : Addr} {fd : FuncData} (F : FunD K "entering" "entering" (defArgs (top 41)) (defBody (top 41)) (defScope (top 41)) [] [] f fd) (hm : mg "entering" = some (.ref f)) (pu : ∀ ds Q', ds.length = 1 → wf_entering ds Q' → ws_entering (edP Q') (enP N_entering ds)) : Cal P w K mg base 1 "entering" ["table"] (spP K 1 wf_entering) :=
  ⟨f, fd, fnP F sc_entering (fun cdv A outer s H E hr => der_entering T  f cdv A outer s H E hr) pu, hm, F.kp, F.bindsN (ps := ["table"]) fun _ _ _ _ _ _ us hl => match us, hl with | [_], _ => rfl⟩
/-! ### is_sooner -/
abbrev N_is_sooner : List Str := ["table", "held", "column", "row", "best", "left", "right"]
theorem sc_is_sooner : FnScope N_is_sooner ["table", "held", "column", "row", "best"] (defScope (top 42)) := ⟨rfl, rfl, rfl, by decide +kernel, rfl, by decide +kernel, by decide +kernel⟩
def ws_is_sooner : WS := (wSeq (wSet 5 (wOp dMul (wOp dIx (wOp dIx (wVar 0) (wVar 3)) (wUn dNeg (wC (.int 1)))) (wOp dIx (wOp dIx (wVar 0) (wVar 4)) (wVar 2)))) (wSeq (wSet 6 (wOp dMul (wOp dIx (wOp dIx (wVar 0) (wVar 4)) (wUn dNeg (wC (.int 1)))) (wOp dIx (wOp dIx (wVar 0) (wVar 3)) (wVar 2)))) (wRet (wOrV (wOp dLt (wVar 5) (wVar 6)) (wAndV (wOp dEq (wVar 5) (wVar 6)) (wOp dLt (wOp dIx (wVar 1) (wVar 3)) (wOp dIx (wVar 1) (wVar 4))))))))
theorem der_is_sooner (T : Tb K mg)  (f : Addr) (cdv : Value) (A : Around) (outer : List Env) (s : Shared) (H : Hp) (E : XK) (hr : Room 0 (A.deeper (envOfC "is_sooner" (defScope (top 42)) s.heap.objs.size f cdv))) : PSs (cxOf CX0 P w K mg base N_is_sooner "is_sooner" (defScope (top 42)) f cdv A outer s H E).nox (defBody (top 42)) (lS K ζ ws_is_sooner) :=
  (s_cons (s_set (i := 5) sc_is_sooner.nd rfl (by first | exact Or.inl rfl | exact Or.inr rfl) (d_op op_mulD snd_mul (d_ix (d_ix (d_var (pv 0)) (d_var (pv 3))) (d_un un_neg snd_neg d_int)) (d_ix (d_ix (d_var (pv 0)) (d_var (pv 4))) (d_var (pv 2))))) (s_cons (s_set (i := 6) sc_is_sooner.nd rfl (by first | exact Or.inl rfl | exact Or.inr rfl) (d_op op_mulD snd_mul (d_ix (d_ix (d_var (pv 0)) (d_var (pv 4))) (d_un un_neg snd_neg d_int)) (d_ix (d_ix (d_var (pv 0)) (d_var (pv 3))) (d_var (pv 2))))) (s_one (s_ret (d_or (d_cmp (op_ltD hr.units0) snd_lt (d_var (pv 5)) (d_var (pv 6)) (nomark _)) (d_one (d_and (d_cmp (op_eqD hr.units) snd_eq (d_var (pv 5)) (d_var (pv 6)) (nomark _)) (d_one (d_cmp (op_ltD hr.units0) snd_lt (d_ix (d_var (pv 1)) (d_var (pv 3))) (d_ix (d_var (pv 1)) (d_var (pv 4))) (nomark _))))))))))
theorem ok_is_sooner (T : Tb K mg)  {f : Addr} {fd : FuncData} (F : FunD K "is_sooner" "is_sooner" (defArgs (top 42)) (defBody (top 42)) (defScope (top 42)) [] [] f fd) (hm : mg "is_sooner" = some (.ref f)) (pu : ∀ ds Q', ds.length = 5 → wf_is_sooner ds Q' → ws_is_sooner (edP Q') (enP N_is_sooner ds)) : Cal P w K mg base 1 "is_sooner" ["table", "held", "column", "row", "best"] (spP K 5 wf_is_sooner) :=
  ⟨f, fd, fnP F sc_is_sooner (fun cdv A outer s H E hr => der_is_sooner T  f cdv A outer s H E hr) pu, hm, F.kp, F.bindsN (ps := ["table", "held", "column", "row", "best"]) fun _ _ _ _ _ _ us hl => match us, hl with | [_, _, _, _, _], _ => rfl⟩
/-! ### leaving -/
abbrev N_leaving : List Str := ["table", "held", "column", "best", "row"]
theorem sc_leaving : FnScope N_leaving ["table", "held", "column"] (defScope (top 43)) := ⟨rfl, rfl, rfl, by decide +kernel, rfl, by decide +kernel, by decide +kernel⟩
def ws_leaving : WS := (wSeq (wSet 3 (wC .none)) (wSeq (wFor (wRg1 (wCons (wCl dLen (wCons (wVar 1) wNil)) wNil)) (wgN 4) (wIfS (wAnd (wB (wOp dGt (wOp dIx (wOp dIx (wVar 0) (wVar 4)) (wVar 2)) (wC (.int 0)))) (wOr (wB (wOp dIsN (wVar 3) (wC .none))) (wTr (wFn 5 wf_is_sooner (wCons (wVar 0) (wCons (wVar 1) (wCons (wVar 2) (wCons (wVar 4) (wCons (wVar 3) wNil))))))))) (wSet 3 (wVar 4)) wNext)) (wRet (wVar 3))))
theorem der_leaving (T : Tb K mg) (C_is_sooner : Cal P w K mg base 1 "is_sooner" ["table", "held", "column", "row", "best"] (spP K 5 wf_is_sooner)) (f : Addr) (cdv : Value) (A : Around) (outer : List Env) (s : Shared) (H : Hp) (E : XK) (hr : Room 1 (A.deeper (envOfC "leaving" (defScope (top 43)) s.heap.objs.size f cdv))) : PSs (cxOf CX0 P w K mg base N_leaving "leaving" (defScope (top 43)) f cdv A outer s H E).nox (defBody (top 43)) (lS K ζ ws_leaving) :=
  (s_cons (s_set (i := 3) sc_leaving.nd rfl (by first | exact Or.inl rfl | exact Or.inr rfl) d_non) (s_cons (s_for PassesOwn.never rfl (i_rng1 T.b_range (a_cons (d_cb call_len snd_len T.b_len (by decide +kernel) (a_cons (d_var (pv 1)) a_nil)) a_nil)) (g_name (i := 4) sc_leaving.nd rfl (by first | exact Or.inl rfl | exact Or.inr rfl)) (s_one (s_if (PW.pt (t_and (t_cmp op_gt snd_gt (d_ix (d_ix (d_var (pv 0)) (d_var (pv 4))) (d_var (pv 2))) d_int (nomark _)) (t_and1 (PW.pt (t_or (t_cmp op_isN snd_isN (d_var (pv 3)) d_non (nomark _)) (t_or1 (t_tru (c_call C_is_sooner (hr.mono (by decide)) (a_cons (d_var (pv 0)) (a_cons (d_var (pv 1)) (a_cons (d_var (pv 2)) (a_cons (d_var (pv 4)) (a_cons (d_var (pv 3)) a_nil))))))))))))) (s_one (s_set (i := 3) sc_leaving.nd rfl (by first | exact Or.inl rfl | exact Or.inr rfl) (d_var (pv 4)))) s_nil))) (s_one (s_ret (d_var (pv 3))))))
theorem ok_leaving (T : Tb K mg) (C_is_sooner : Cal P w K mg base 1 "is_sooner" ["table", "held", "column", "row", "best"] (spP K 5 wf_is_sooner)) {f : Addr} {fd : FuncData} (F : FunD K "leaving" "leaving" (defArgs (top 43)) (defBody (top 43)) (defScope (top 43)) [] [] f fd) (hm : mg "leaving" = some (.ref f)) (pu : ∀ ds Q', ds.length = 3 → wf_leaving ds Q' → ws_leaving (edP Q') (enP N_leaving ds)) : Cal P w K mg base 2 "leaving" ["table", "held", "column"] (spP K 3 wf_leaving) :=
  ⟨f, fd, fnP F sc_leaving (fun cdv A outer s H E hr => der_leaving T C_is_sooner f cdv A outer s H E hr) pu, hm, F.kp, F.bindsN (ps := ["table", "held", "column"]) fun _ _ _ _ _ _ us hl => match us, hl with | [_, _, _], _ => rfl⟩
/-! ### cleared_row -/
abbrev N_cleared_row : List Str := ["row", "lead", "column", "bottom", "own", "by"]
theorem sc_cleared_row : FnScope N_cleared_row ["row", "lead", "column", "bottom"] (defScope (top 44)) := ⟨rfl, rfl, rfl, by decide +kernel, rfl, by decide +kernel, by decide +kernel⟩
def ws_cleared_row : WS := (wRet (wLe (wLc (wZip (wCons (wVar 0) (wCons (wVar 1) wNil))) (wgT 2 (wgCons (wgN 4) (wgCons (wgN 5) wgNil))) wYes (wOp dFdivG (wOp dSub (wOp dMul (wOp dIx (wVar 1) (wVar 2)) (wVar 4)) (wOp dMul (wOp dIx (wVar 0) (wVar 2)) (wVar 5))) (wVar 3)) [4, 5])))
theorem der_cleared_row (T : Tb K mg)  (f : Addr) (cdv : Value) (A : Around) (outer : List Env) (s : Shared) (H : Hp) (E : XK) (hr : Room 0 (A.deeper (envOfC "cleared_row" (defScope (top 44)) s.heap.objs.size f cdv))) : PSs (cxOf CX0 P w K mg base N_cleared_row "cleared_row" (defScope (top 44)) f cdv A outer s H E).nox (defBody (top 44)) (lS K ζ ws_cleared_row) :=
  (s_one (s_ret (d_lL (l_lc (own := [("own", 4), ("by", 5)]) rfl sc_cleared_row.nd (i_zip T.b_zip (a_cons (d_var (pv 0)) (a_cons (d_var (pv 1)) a_nil))) (blkOk_by (N := N_cleared_row) (sc := (defScope (top 44))) (by decide +kernel)) (fun _ _ _ _ _ => (g_tup (n := 2) rfl (gs_cons (g_name (i := 4) sc_cleared_row.nd rfl (by first | exact Or.inl rfl | exact Or.inr rfl)) (gs_cons (g_name (i := 5) sc_cleared_row.nd rfl (by first | exact Or.inl rfl | exact Or.inr rfl)) gs_nil)) (pg_tup rfl (gs_cons (g_name (i := 4) sc_cleared_row.nd rfl (by first | exact Or.inl rfl | exact Or.inr rfl)) (gs_cons (g_name (i := 5) sc_cleared_row.nd rfl (by first | exact Or.inl rfl | exact Or.inr rfl)) gs_nil))))) (fun _ _ _ _ _ => ts_nil) (fun _ _ _ _ _ => (d_op op_fdivG snd_fdivG (d_op op_sub snd_sub (d_op op_mulD snd_mul (d_ix (d_var (pv 1)) (d_var (pv 2))) (d_var (pv 4))) (d_op op_mulD snd_mul (d_ix (d_var (pv 0)) (d_var (pv 2))) (d_var (pv 5)))) (d_var (pv 3))))))))
theorem ok_cleared_row (T : Tb K mg)  {f : Addr} {fd : FuncData} (F : FunD K "cleared_row" "cleared_row" (defArgs (top 44)) (defBody (top 44)) (defScope (top 44)) [] [] f fd) (hm : mg "cleared_row" = some (.ref f)) (pu : ∀ ds Q', ds.length = 4 → wf_cleared_row ds Q' → ws_cleared_row (edP Q') (enP N_cleared_row ds)) : Cal P w K mg base 1 "cleared_row" ["row", "lead", "column", "bottom"] (spP K 4 wf_cleared_row) :=
  ⟨f, fd, fnP F sc_cleared_row (fun cdv A outer s H E hr => der_cleared_row T  f cdv A outer s H E hr) pu, hm, F.kp, F.bindsN (ps := ["row", "lead", "column", "bottom"]) fun _ _ _ _ _ _ us hl => match us, hl with | [_, _, _, _], _ => rfl⟩
/-! ### exchanged -/
abbrev N_exchanged : List Str := ["table", "row", "column", "bottom", "lead", "at", "own"]
theorem sc_exchanged : FnScope N_exchanged ["table", "row", "column", "bottom"] (defScope (top 45)) := ⟨rfl, rfl, rfl, by decide +kernel, rfl, by decide +kernel, by decide +kernel⟩
def ws_exchanged : WS := (wSeq (wSet 4 (wOp dIx (wVar 0) (wVar 1))) (wRet (wLe (wLc (wEnum (wCons (wVar 0) wNil)) (wgT 2 (wgCons (wgN 5) (wgCons (wgN 6) wgNil))) wYes (wIf (wB (wOp dEq (wVar 5) (wVar 1))) (wVar 4) (wFn 4 wf_cleared_row (wCons (wVar 6) (wCons (wVar 4) (wCons (wVar 2) (wCons (wVar 3) wNil)))))) [5, 6]))))
theorem der_exchanged (T : Tb K mg) (C_cleared_row : Cal P w K mg base 1 "cleared_row" ["row", "lead", "column", "bottom"] (spP K 4 wf_cleared_row)) (f : Addr) (cdv : Value) (A : Around) (outer : List Env) (s : Shared) (H : Hp) (E : XK) (hr : Room 1 (A.deeper (envOfC "exchanged" (defScope (top 45)) s.heap.objs.size f cdv))) : PSs (cxOf CX0 P w K mg base N_exchanged "exchanged" (defScope (top 45)) f cdv A outer s H E).nox (defBody (top 45)) (lS K ζ ws_exchanged) :=
  (s_cons (s_set (i := 4) sc_exchanged.nd rfl (by first | exact Or.inl rfl | exact Or.inr rfl) (d_ix (d_var (pv 0)) (d_var (pv 1)))) (s_one (s_ret (d_lL (l_lc (own := [("at", 5), ("own", 6)]) rfl sc_exchanged.nd (i_enum T.b_enumerate (a_cons (d_var (pv 0)) a_nil)) (blkOk_by (N := N_exchanged) (sc := (defScope (top 45))) (by decide +kernel)) (fun _ _ _ _ _ => (g_tup (n := 2) rfl (gs_cons (g_name (i := 5) sc_exchanged.nd rfl (by first | exact Or.inl rfl | exact Or.inr rfl)) (gs_cons (g_name (i := 6) sc_exchanged.nd rfl (by first | exact Or.inl rfl | exact Or.inr rfl)) gs_nil)) (pg_tup rfl (gs_cons (g_name (i := 5) sc_exchanged.nd rfl (by first | exact Or.inl rfl | exact Or.inr rfl)) (gs_cons (g_name (i := 6) sc_exchanged.nd rfl (by first | exact Or.inl rfl | exact Or.inr rfl)) gs_nil))))) (fun _ _ _ _ _ => ts_nil) (fun _ _ _ _ _ => (d_if (t_cmp (op_eqD hr.units) snd_eq (d_var (pv 5)) (d_var (pv 1)) (nomark _)) (d_var (pv 4)) (c_call C_cleared_row (hr.mono (by decide)) (a_cons (d_var (pv 6)) (a_cons (d_var (pv 4)) (a_cons (d_var (pv 2)) (a_cons (d_var (pv 3)) a_nil))))))))))))
theorem ok_exchanged (T : Tb K mg) (C_cleared_row : Cal P w K mg base 1 "cleared_row" ["row", "lead", "column", "bottom"] (spP K 4 wf_cleared_row)) {f : Addr} {fd : FuncData} (F : FunD K "exchanged" "exchanged" (defArgs (top 45)) (defBody (top 45)) (defScope (top 45)) [] [] f fd) (hm : mg "exchanged" = some (.ref f)) (pu : ∀ ds Q', ds.length = 4 → wf_exchanged ds Q' → ws_exchanged (edP Q') (enP N_exchanged ds)) : Cal P w K mg base 2 "exchanged" ["table", "row", "column", "bottom"] (spP K 4 wf_exchanged) :=
  ⟨f, fd, fnP F sc_exchanged (fun cdv A outer s H E hr => der_exchanged T C_cleared_row f cdv A outer s H E hr) pu, hm, F.kp, F.bindsN (ps := ["table", "row", "column", "bottom"]) fun _ _ _ _ _ _ us hl => match us, hl with | [_, _, _, _], _ => rfl⟩
/-! ### held_number -/
abbrev N_held_number : List Str := ["table", "held", "column"]
theorem sc_held_number : FnScope N_held_number ["table", "held", "column"] (defScope (top 46)) := ⟨rfl, rfl, rfl, by decide +kernel, rfl, by decide +kernel, by decide +kernel⟩
def ws_held_number : WS := (wRet (wIf (wB (wOp (dIn false) (wVar 2) (wVar 1))) (wOp dIx (wOp dIx (wVar 0) (wIndex (wVar 1) (wVar 2))) (wUn dNeg (wC (.int 1)))) (wC (.int 0))))
theorem der_held_number (T : Tb K mg)  (f : Addr) (cdv : Value) (A : Around) (outer : List Env) (s : Shared) (H : Hp) (E : XK) (hr : Room 0 (A.deeper (envOfC "held_number" (defScope (top 46)) s.heap.objs.size f cdv))) : PSs (cxOf CX0 P w K mg base N_held_number "held_number" (defScope (top 46)) f cdv A outer s H E).nox (defBody (top 46)) (lS K ζ ws_held_number) :=
  (s_one (s_ret (d_if (t_cmp op_in_seq snd_in (d_var (pv 2)) (d_var (pv 1)) (by rfl)) (d_ix (d_ix (d_var (pv 0)) (d_index (pe_bm PySem.F.plainAttrs_list PySem.F.slot_list_index PySem.F.type_list_index mt_index (d_var (pv 1)) (pa_cons (d_var (pv 2)) pa_nil)))) (d_un un_neg snd_neg d_int)) d_int)))
theorem ok_held_number (T : Tb K mg)  {f : Addr} {fd : FuncData} (F : FunD K "held_number" "held_number" (defArgs (top 46)) (defBody (top 46)) (defScope (top 46)) [] [] f fd) (hm : mg "held_number" = some (.ref f)) (pu : ∀ ds Q', ds.length = 3 → wf_held_number ds Q' → ws_held_number (edP Q') (enP N_held_number ds)) : Cal P w K mg base 1 "held_number" ["table", "held", "column"] (spP K 3 wf_held_number) :=
  ⟨f, fd, fnP F sc_held_number (fun cdv A outer s H E hr => der_held_number T  f cdv A outer s H E hr) pu, hm, F.kp, F.bindsN (ps := ["table", "held", "column"]) fun _ _ _ _ _ _ us hl => match us, hl with | [_, _, _], _ => rfl⟩
/-! ### solved -/
abbrev N_solved : List Str := ["houses", "lots", "table", "held", "bottom", "column", "row", "pivot", "weights", "at", "house"]
theorem sc_solved : FnScope N_solved ["houses", "lots"] (defScope (top 47)) := ⟨rfl, rfl, rfl, by decide +kernel, rfl, by decide +kernel, by decide +kernel⟩
def ws_solved : WS := (wSeq (wSet 2 (wFn 2 wf_first_table (wCons (wVar 0) (wCons (wVar 1) wNil)))) (wSeq (wSetOwn 3 (wLc (wRg1 (wCons (wCl dLen (wCons (wVar 1) wNil)) wNil)) (wgN 9) wYes (wOp dAdd (wVar 0) (wVar 9)) [9])) (wSeq (wSet 4 (wC (.int 1))) (wSeq (wSet 5 (wFn 1 wf_entering (wCons (wVar 2) wNil))) (wSeq (wWhile (wB (wOp dNotN (wVar 5) (wC .none))) (wSeq (wSet 6 (wFnB 3 wf_leaving (wBCons (wVar 2) (wBOwn 3 (wBCons (wVar 5) wBNil))))) (wSeq (wSet 7 (wOp dIx (wOp dIx (wVar 2) (wVar 6)) (wVar 5))) (wSeq (wSet 2 (wFn 4 wf_exchanged (wCons (wVar 2) (wCons (wVar 6) (wCons (wVar 5) (wCons (wVar 4) wNil)))))) (wSeq (wSetIt 3 (wVar 6) (wVar 5)) (wSeq (wSet 4 (wVar 7)) (wSet 5 (wFn 1 wf_entering (wCons (wVar 2) wNil))))))))) (wFrz 3 (wSeq (wSet 8 (wLe (wLc (wRg1 (wCons (wVar 0) wNil)) (wgN 10) wYes (wFn 3 wf_held_number (wCons (wVar 2) (wCons (wVar 3) (wCons (wVar 10) wNil)))) [10]))) (wRet (wTup (wCons (wOp dIx (wOp dIx (wVar 2) (wUn dNeg (wC (.int 1)))) (wUn dNeg (wC (.int 1)))) (wCons (wVar 8) (wCons (wSl (wOp dIx (wVar 2) (wUn dNeg (wC (.int 1)))) (wPart (wVar 0)) (wPart (wUn dNeg (wC (.int 1))))) (wCons (wVar 4) wNil)))))))))))))
theorem der_solved (T : Tb K mg) (C_first_table : Cal P w K mg base 1 "first_table" ["houses", "lots"] (spP K 2 wf_first_table)) (C_entering : Cal P w K mg base 1 "entering" ["table"] (spP K 1 wf_entering)) (C_leaving : Cal P w K mg base 2 "leaving" ["table", "held", "column"] (spP K 3 wf_leaving)) (C_exchanged : Cal P w K mg base 2 "exchanged" ["table", "row", "column", "bottom"] (spP K 4 wf_exchanged)) (C_held_number : Cal P w K mg base 1 "held_number" ["table", "held", "column"] (spP K 3 wf_held_number)) (f : Addr) (cdv : Value) (A : Around) (outer : List Env) (s : Shared) (H : Hp) (E : XK) (hr : Room 2 (A.deeper (envOfC "solved" (defScope (top 47)) s.heap.objs.size f cdv))) : PSs (cxOf CX0 P w K mg base N_solved "solved" (defScope (top 47)) f cdv A outer s H E).nox (defBody (top 47)) (lS K ζ ws_solved) :=
  (s_cons (s_set (i := 2) sc_solved.nd rfl (by first | exact Or.inl rfl | exact Or.inr rfl) (c_call C_first_table (hr.mono (by decide)) (a_cons (d_var (pv 0)) (a_cons (d_var (pv 1)) a_nil)))) (s_cons (s_setOwn (i := 3) sc_solved.nd rfl (by first | exact Or.inl rfl | exact Or.inr rfl) (l_lc (own := [("at", 9)]) rfl sc_solved.nd (i_rng1 T.b_range (a_cons (d_cb call_len snd_len T.b_len (by decide +kernel) (a_cons (d_var (pv 1)) a_nil)) a_nil)) (blkOk_by (N := N_solved) (sc := (defScope (top 47))) (by decide +kernel)) (fun _ _ _ _ _ => (g_name (i := 9) sc_solved.nd rfl (by first | exact Or.inl rfl | exact Or.inr rfl))) (fun _ _ _ _ _ => ts_nil) (fun _ _ _ _ _ => (d_op op_addD snd_add (d_var (pv 0)) (d_var (pv 9)))))) (s_cons (s_set (i := 4) sc_solved.nd rfl (by first | exact Or.inl rfl | exact Or.inr rfl) d_int) (s_cons (s_set (i := 5) sc_solved.nd rfl (by first | exact Or.inl rfl | exact Or.inr rfl) (c_call C_entering (hr.mono (by decide)) (a_cons (d_var (pv 2)) a_nil))) (s_cons (s_while PassesOwn.never (t_cmp op_notN snd_notN (d_var (pv 5)) d_non (nomark _)) (s_cons (s_set (i := 6) sc_solved.nd rfl (by first | exact Or.inl rfl | exact Or.inr rfl) (c_callB C_leaving (hr.mono (by decide)) (b_cons (d_var (pv 2)) (b_own (j := 3) (pv 3) (b_cons (d_var (pv 5)) b_nil))))) (s_cons (s_set (i := 7) sc_solved.nd rfl (by first | exact Or.inl rfl | exact Or.inr rfl) (d_ix (d_ix (d_var (pv 2)) (d_var (pv 6))) (d_var (pv 5)))) (s_cons (s_set (i := 2) sc_solved.nd rfl (by first | exact Or.inl rfl | exact Or.inr rfl) (c_call C_exchanged (hr.mono (by decide)) (a_cons (d_var (pv 2)) (a_cons (d_var (pv 6)) (a_cons (d_var (pv 5)) (a_cons (d_var (pv 4)) a_nil)))))) (s_cons (s_setIt (i := 3) (ps_asg (d_var (pv 5)) (pg_sub (pv 3) (d_var (pv 6)) set_list))) (s_cons (s_set (i := 4) sc_solved.nd rfl (by first | exact Or.inl rfl | exact Or.inr rfl) (d_var (pv 7))) (s_one (s_set (i := 5) sc_solved.nd rfl (by first | exact Or.inl rfl | exact Or.inr rfl) (c_call C_entering (hr.mono (by decide)) (a_cons (d_var (pv 2)) a_nil)))))))))) (ss_frz (i := 3) (s_cons (s_lc (i := 8) (own := [("house", 10)]) rfl sc_solved.nd rfl rfl (sw_true rfl rfl rfl (by decide +kernel)) (i_rng1 T.b_range (a_cons (d_var (pv 0)) a_nil)) (blkOk_by (N := N_solved) (sc := (defScope (top 47))) (by decide +kernel)) (fun _ _ _ _ _ => (g_name (i := 10) sc_solved.nd rfl (by first | exact Or.inl rfl | exact Or.inr rfl))) (fun _ _ _ _ _ => ts_nil) (fun _ _ _ _ _ => (c_call C_held_number (hr.mono (by decide)) (a_cons (d_var (pv 2)) (a_cons (d_var (pv 3)) (a_cons (d_var (pv 10)) a_nil)))))) (s_one (s_ret (d_tup (a_cons (d_ix (d_ix (d_var (pv 2)) (d_un un_neg snd_neg d_int)) (d_un un_neg snd_neg d_int)) (a_cons (d_var (pv 8)) (a_cons (d_sl (d_ix (d_var (pv 2)) (d_un un_neg snd_neg d_int)) (o_some (d_var (pv 0))) (o_some (d_un un_neg snd_neg d_int))) (a_cons (d_var (pv 4)) a_nil))))))))))))))
theorem ok_solved (T : Tb K mg) (C_first_table : Cal P w K mg base 1 "first_table" ["houses", "lots"] (spP K 2 wf_first_table)) (C_entering : Cal P w K mg base 1 "entering" ["table"] (spP K 1 wf_entering)) (C_leaving : Cal P w K mg base 2 "leaving" ["table", "held", "column"] (spP K 3 wf_leaving)) (C_exchanged : Cal P w K mg base 2 "exchanged" ["table", "row", "column", "bottom"] (spP K 4 wf_exchanged)) (C_held_number : Cal P w K mg base 1 "held_number" ["table", "held", "column"] (spP K 3 wf_held_number)) {f : Addr} {fd : FuncData} (F : FunD K "solved" "solved" (defArgs (top 47)) (defBody (top 47)) (defScope (top 47)) [] [] f fd) (hm : mg "solved" = some (.ref f)) (pu : ∀ ds Q', ds.length = 2 → wf_solved ds Q' → ws_solved (edP Q') (enP N_solved ds)) : Cal P w K mg base 3 "solved" ["houses", "lots"] (spP K 2 wf_solved) :=
  ⟨f, fd, fnP F sc_solved (fun cdv A outer s H E hr => der_solved T C_first_table C_entering C_leaving C_exchanged C_held_number f cdv A outer s H E hr) pu, hm, F.kp, F.bindsN (ps := ["houses", "lots"]) fun _ _ _ _ _ _ us hl => match us, hl with | [_, _], _ => rfl⟩
/-! ### lowest -/
abbrev N_lowest : List Str := ["top", "bottom", "common"]
theorem sc_lowest : FnScope N_lowest ["top", "bottom"] (defScope (top 19)) := ⟨rfl, rfl, rfl, by decide +kernel, rfl, by decide +kernel, by decide +kernel⟩
def ws_lowest : WS := (wSeq (wSet 2 (wCl dGcd (wCons (wVar 0) (wCons (wVar 1) wNil)))) (wSeq (wIfS (wB (wOp dLt (wVar 1) (wC (.int 0)))) (wSet 2 (wUn dNeg (wVar 2))) wNext) (wRet (wTup (wCons (wOp dFdivG (wVar 0) (wVar 2)) (wCons (wOp dFdivG (wVar 1) (wVar 2)) wNil))))))
theorem der_lowest (T : Tb K mg)  (f : Addr) (cdv : Value) (A : Around) (outer : List Env) (s : Shared) (H : Hp) (E : XK) (hr : Room 0 (A.deeper (envOfC "lowest" (defScope (top 19)) s.heap.objs.size f cdv))) : PSs (cxOf CX0 P w K mg base N_lowest "lowest" (defScope (top 19)) f cdv A outer s H E).nox (defBody (top 19)) (lS K ζ ws_lowest) :=
  (s_cons (s_set (i := 2) sc_lowest.nd rfl (by first | exact Or.inl rfl | exact Or.inr rfl) (d_gcd T.g_gcd (a_cons (d_var (pv 0)) (a_cons (d_var (pv 1)) a_nil)))) (s_cons (s_if (t_cmp (op_ltD hr.units0) snd_lt (d_var (pv 1)) d_int (nomark _)) (s_one (s_set (i := 2) sc_lowest.nd rfl (by first | exact Or.inl rfl | exact Or.inr rfl) (d_un un_neg snd_neg (d_var (pv 2))))) s_nil) (s_one (s_ret (d_tup (a_cons (d_op op_fdivG snd_fdivG (d_var (pv 0)) (d_var (pv 2))) (a_cons (d_op op_fdivG snd_fdivG (d_var (pv 1)) (d_var (pv 2))) a_nil)))))))
theorem ok_lowest (T : Tb K mg)  {f : Addr} {fd : FuncData} (F : FunD K "lowest" "lowest" (defArgs (top 19)) (defBody (top 19)) (defScope (top 19)) [] [] f fd) (hm : mg "lowest" = some (.ref f)) (pu : ∀ ds Q', ds.length = 2 → wf_lowest ds Q' → ws_lowest (edP Q') (enP N_lowest ds)) : Cal P w K mg base 1 "lowest" ["top", "bottom"] (spP K 2 wf_lowest) :=
  ⟨f, fd, fnP F sc_lowest (fun cdv A outer s H E hr => der_lowest T  f cdv A outer s H E hr) pu, hm, F.kp, F.bindsN (ps := ["top", "bottom"]) fun _ _ _ _ _ _ us hl => match us, hl with | [_, _], _ => rfl⟩
/-! ### weights_answer -/
abbrev N_weights_answer : List Str := ["houses", "lots", "free", "told", "weight_tops", "cover_tops", "bottom", "weights", "cover", "top"]
theorem sc_weights_answer : FnScope N_weights_answer ["houses", "lots"] (defScope (top 49)) := ⟨rfl, rfl, rfl, by decide +kernel, rfl, by decide +kernel, by decide +kernel⟩
def ws_weights_answer (R : Exc → En → Prop) : WS := (wSeq (wDrop (wFnX 2 wf_check_housed R (wCons (wVar 0) (wCons (wVar 1) wNil)))) (wSeq (wSet 2 (wFn 2 wf_free_in (wCons (wVar 0) (wCons (wVar 1) wNil)))) (wSeq (wIfS (wTr (wVar 2)) (wRet (wTup (wCons (wC (.str "free")) (wCons (wOp dIx (wVar 2) (wC (.int 0))) wNil)))) wNext) (wSeq (wAsgT (wFn 2 wf_solved (wCons (wVar 0) (wCons (wVar 1) wNil))) (wgT 4 (wgCons (wgN 3) (wgCons (wgN 4) (wgCons (wgN 5) (wgCons (wgN 6) wgNil)))))) (wSeq (wSet 7 (wCl dTupOf (wCons (wLe (wLc (wSq (wVar 4)) (wgN 9) wYes (wFn 2 wf_lowest (wCons (wVar 9) (wCons (wVar 6) wNil))) [9])) wNil))) (wSeq (wSet 8 (wCl dTupOf (wCons (wLe (wLc (wSq (wVar 5)) (wgN 9) wYes (wFn 2 wf_lowest (wCons (wVar 9) (wCons (wVar 6) wNil))) [9])) wNil))) (wRet (wTup (wCons (wC (.str "weights")) (wCons (wFn 2 wf_lowest (wCons (wVar 3) (wCons (wVar 6) wNil))) (wCons (wVar 7) (wCons (wVar 8) wNil))))))))))))
theorem der_weights_answer {R : Exc → En → Prop} (T : Tb K mg) (C_check_housed : CalX P w K mg base 6 "check_housed" ["houses", "lots"] (spX K 2 wf_check_housed)) (C_free_in : Cal P w K mg base 3 "free_in" ["houses", "lots"] (spP K 2 wf_free_in)) (C_solved : Cal P w K mg base 3 "solved" ["houses", "lots"] (spP K 2 wf_solved)) (C_lowest : Cal P w K mg base 1 "lowest" ["top", "bottom"] (spP K 2 wf_lowest)) (f : Addr) (cdv : Value) (A : Around) (outer : List Env) (s : Shared) (H : Hp) (E : XK) (tk : Takes (cxOf (L2.CX P w) P w K mg base N_weights_answer "weights_answer" (defScope (top 49)) f cdv A outer s H E) (wxOf K ζ R)) (hpo : PassesOwn (model P w) (cxOf (L2.CX P w) P w K mg base N_weights_answer "weights_answer" (defScope (top 49)) f cdv A outer s H E).A (cxOf (L2.CX P w) P w K mg base N_weights_answer "weights_answer" (defScope (top 49)) f cdv A outer s H E).env (cxOf (L2.CX P w) P w K mg base N_weights_answer "weights_answer" (defScope (top 49)) f cdv A outer s H E).xe) (hr : Room 6 (A.deeper (envOfC "weights_answer" (defScope (top 49)) s.heap.objs.size f cdv))) : PSs (cxOf (L2.CX P w) P w K mg base N_weights_answer "weights_answer" (defScope (top 49)) f cdv A outer s H E) (defBody (top 49)) (lS K ζ (ws_weights_answer R)) :=
  (s_cons (s_expr (c_callX C_check_housed tk (hr.mono (by decide)) (a_cons (d_var (pv 0)) (a_cons (d_var (pv 1)) a_nil)))) (s_cons (s_set (i := 2) sc_weights_answer.nd rfl (by first | exact Or.inl rfl | exact Or.inr rfl) (c_call C_free_in (hr.mono (by decide)) (a_cons (d_var (pv 0)) (a_cons (d_var (pv 1)) a_nil)))) (s_cons (s_if (t_tru (d_var (pv 2))) (s_one (s_ret (d_tup (a_cons d_str (a_cons (d_ix (d_var (pv 2)) d_int) a_nil))))) s_nil) (s_cons (s_asgT (ps_asg (c_call C_solved (hr.mono (by decide)) (a_cons (d_var (pv 0)) (a_cons (d_var (pv 1)) a_nil))) (g_tup (n := 4) rfl (gs_cons (g_name (i := 3) sc_weights_answer.nd rfl (by first | exact Or.inl rfl | exact Or.inr rfl)) (gs_cons (g_name (i := 4) sc_weights_answer.nd rfl (by first | exact Or.inl rfl | exact Or.inr rfl)) (gs_cons (g_name (i := 5) sc_weights_answer.nd rfl (by first | exact Or.inl rfl | exact Or.inr rfl)) (gs_cons (g_name (i := 6) sc_weights_answer.nd rfl (by first | exact Or.inl rfl | exact Or.inr rfl)) gs_nil)))) (pg_tup rfl (gs_cons (g_name (i := 3) sc_weights_answer.nd rfl (by first | exact Or.inl rfl | exact Or.inr rfl)) (gs_cons (g_name (i := 4) sc_weights_answer.nd rfl (by first | exact Or.inl rfl | exact Or.inr rfl)) (gs_cons (g_name (i := 5) sc_weights_answer.nd rfl (by first | exact Or.inl rfl | exact Or.inr rfl)) (gs_cons (g_name (i := 6) sc_weights_answer.nd rfl (by first | exact Or.inl rfl | exact Or.inr rfl)) gs_nil)))))))) (s_cons (s_set (i := 7) sc_weights_answer.nd rfl (by first | exact Or.inl rfl | exact Or.inr rfl) (d_cty call_tuple_of snd_tupOf T.b_tuple (by decide +kernel) (a_cons (d_lL (l_lc (own := [("top", 9)]) rfl sc_weights_answer.nd (i_seq (d_var (pv 4))) (blkOk_by (N := N_weights_answer) (sc := (defScope (top 49))) (by decide +kernel)) (fun _ _ _ _ _ => (g_name (i := 9) sc_weights_answer.nd rfl (by first | exact Or.inl rfl | exact Or.inr rfl))) (fun _ _ _ _ _ => ts_nil) (fun _ _ _ _ _ => (c_call C_lowest (hr.mono (by decide)) (a_cons (d_var (pv 9)) (a_cons (d_var (pv 6)) a_nil)))))) a_nil))) (s_cons (s_set (i := 8) sc_weights_answer.nd rfl (by first | exact Or.inl rfl | exact Or.inr rfl) (d_cty call_tuple_of snd_tupOf T.b_tuple (by decide +kernel) (a_cons (d_lL (l_lc (own := [("top", 9)]) rfl sc_weights_answer.nd (i_seq (d_var (pv 5))) (blkOk_by (N := N_weights_answer) (sc := (defScope (top 49))) (by decide +kernel)) (fun _ _ _ _ _ => (g_name (i := 9) sc_weights_answer.nd rfl (by first | exact Or.inl rfl | exact Or.inr rfl))) (fun _ _ _ _ _ => ts_nil) (fun _ _ _ _ _ => (c_call C_lowest (hr.mono (by decide)) (a_cons (d_var (pv 9)) (a_cons (d_var (pv 6)) a_nil)))))) a_nil))) (s_one (s_ret (d_tup (a_cons d_str (a_cons (c_call C_lowest (hr.mono (by decide)) (a_cons (d_var (pv 3)) (a_cons (d_var (pv 6)) a_nil))) (a_cons (d_var (pv 7)) (a_cons (d_var (pv 8)) a_nil)))))))))))))
theorem ok_weights_answer (T : Tb K mg) (C_check_housed : CalX P w K mg base 6 "check_housed" ["houses", "lots"] (spX K 2 wf_check_housed)) (C_free_in : Cal P w K mg base 3 "free_in" ["houses", "lots"] (spP K 2 wf_free_in)) (C_solved : Cal P w K mg base 3 "solved" ["houses", "lots"] (spP K 2 wf_solved)) (C_lowest : Cal P w K mg base 1 "lowest" ["top", "bottom"] (spP K 2 wf_lowest)) {f : Addr} {fd : FuncData} (F : FunD K "weights_answer" "weights_answer" (defArgs (top 49)) (defBody (top 49)) (defScope (top 49)) [] [] f fd) (hm : mg "weights_answer" = some (.ref f)) (pu : ∀ ds Q' R', ds.length = 2 → wf_weights_answer ds Q' R' → ws_weights_answer (fun e _ => R' e) (edP Q') (enP N_weights_answer ds)) : CalX P w K mg base 7 "weights_answer" ["houses", "lots"] (spX K 2 wf_weights_answer) :=
  ⟨f, fd, fnX F sc_weights_answer (fun ζ R cdv A outer s H E tk hpo hr => der_weights_answer T C_check_housed C_free_in C_solved C_lowest f cdv A outer s H E tk hpo hr) pu, hm, F.kp, F.bindsN (ps := ["houses", "lots"]) fun _ _ _ _ _ _ us hl => match us, hl with | [_, _], _ => rfl⟩
/-! ### scale_of -/
abbrev N_scale_of : List Str := ["houses", "lots", "answer"]
theorem sc_scale_of : FnScope N_scale_of ["houses", "lots"] (defScope (top 57)) := ⟨rfl, rfl, rfl, by decide +kernel, rfl, by decide +kernel, by decide +kernel⟩
def ws_scale_of (R : Exc → En → Prop) : WS := (wSeq (wSet 2 (wFnX 2 wf_weights_answer R (wCons (wVar 0) (wCons (wVar 1) wNil)))) (wRet (wIf (wB (wOp dEqS (wOp dIx (wVar 2) (wC (.int 0))) (wC (.str "free")))) (wC .none) (wOp dIx (wVar 2) (wC (.int 1))))))
theorem der_scale_of {R : Exc → En → Prop} (T : Tb K mg) (C_weights_answer : CalX P w K mg base 7 "weights_answer" ["houses", "lots"] (spX K 2 wf_weights_answer)) (f : Addr) (cdv : Value) (A : Around) (outer : List Env) (s : Shared) (H : Hp) (E : XK) (tk : Takes (cxOf (L2.CX P w) P w K mg base N_scale_of "scale_of" (defScope (top 57)) f cdv A outer s H E) (wxOf K ζ R)) (hpo : PassesOwn (model P w) (cxOf (L2.CX P w) P w K mg base N_scale_of "scale_of" (defScope (top 57)) f cdv A outer s H E).A (cxOf (L2.CX P w) P w K mg base N_scale_of "scale_of" (defScope (top 57)) f cdv A outer s H E).env (cxOf (L2.CX P w) P w K mg base N_scale_of "scale_of" (defScope (top 57)) f cdv A outer s H E).xe) (hr : Room 7 (A.deeper (envOfC "scale_of" (defScope (top 57)) s.heap.objs.size f cdv))) : PSs (cxOf (L2.CX P w) P w K mg base N_scale_of "scale_of" (defScope (top 57)) f cdv A outer s H E) (defBody (top 57)) (lS K ζ (ws_scale_of R)) :=
  (s_cons (s_set (i := 2) sc_scale_of.nd rfl (by first | exact Or.inl rfl | exact Or.inr rfl) (c_callX C_weights_answer tk (hr.mono (by decide)) (a_cons (d_var (pv 0)) (a_cons (d_var (pv 1)) a_nil)))) (s_one (s_ret (d_if (t_cmp (op_eqS hr.units) snd_eqS (d_ix (d_var (pv 2)) d_int) d_str (nomark _)) d_non (d_ix (d_var (pv 2)) d_int)))))
theorem ok_scale_of (T : Tb K mg) (C_weights_answer : CalX P w K mg base 7 "weights_answer" ["houses", "lots"] (spX K 2 wf_weights_answer)) {f : Addr} {fd : FuncData} (F : FunD K "scale_of" "scale_of" (defArgs (top 57)) (defBody (top 57)) (defScope (top 57)) [] [] f fd) (hm : mg "scale_of" = some (.ref f)) (pu : ∀ ds Q' R', ds.length = 2 → wf_scale_of ds Q' R' → ws_scale_of (fun e _ => R' e) (edP Q') (enP N_scale_of ds)) : CalX P w K mg base 8 "scale_of" ["houses", "lots"] (spX K 2 wf_scale_of) :=
  ⟨f, fd, fnX F sc_scale_of (fun ζ R cdv A outer s H E tk hpo hr => der_scale_of T C_weights_answer f cdv A outer s H E tk hpo hr) pu, hm, F.kp, F.bindsN (ps := ["houses", "lots"]) fun _ _ _ _ _ _ us hl => match us, hl with | [_, _], _ => rfl⟩
/-! ### scale -/
abbrev N_scale : List Str := ["houses", "lots"]
theorem sc_scale : FnScope N_scale ["houses", "lots"] (defScope (top 62)) := ⟨rfl, rfl, rfl, by decide +kernel, rfl, by decide +kernel, by decide +kernel⟩
def ws_scale (R : Exc → En → Prop) : WS := (wSeq (wDrop (wFnX 2 wf_check_housed R (wCons (wVar 0) (wCons (wVar 1) wNil)))) (wRet (wFnX 2 wf_scale_of R (wCons (wVar 0) (wCons (wVar 1) wNil)))))
theorem der_scale {R : Exc → En → Prop} (T : Tb K mg) (C_check_housed : CalX P w K mg base 6 "check_housed" ["houses", "lots"] (spX K 2 wf_check_housed)) (C_scale_of : CalX P w K mg base 8 "scale_of" ["houses", "lots"] (spX K 2 wf_scale_of)) (f : Addr) (cdv : Value) (A : Around) (outer : List Env) (s : Shared) (H : Hp) (E : XK) (tk : Takes (cxOf (L2.CX P w) P w K mg base N_scale "scale" (defScope (top 62)) f cdv A outer s H E) (wxOf K ζ R)) (hpo : PassesOwn (model P w) (cxOf (L2.CX P w) P w K mg base N_scale "scale" (defScope (top 62)) f cdv A outer s H E).A (cxOf (L2.CX P w) P w K mg base N_scale "scale" (defScope (top 62)) f cdv A outer s H E).env (cxOf (L2.CX P w) P w K mg base N_scale "scale" (defScope (top 62)) f cdv A outer s H E).xe) (hr : Room 8 (A.deeper (envOfC "scale" (defScope (top 62)) s.heap.objs.size f cdv))) : PSs (cxOf (L2.CX P w) P w K mg base N_scale "scale" (defScope (top 62)) f cdv A outer s H E) (defBody (top 62)) (lS K ζ (ws_scale R)) :=
  (s_cons (s_expr (c_callX C_check_housed tk (hr.mono (by decide)) (a_cons (d_var (pv 0)) (a_cons (d_var (pv 1)) a_nil)))) (s_one (s_ret (c_callX C_scale_of tk (hr.mono (by decide)) (a_cons (d_var (pv 0)) (a_cons (d_var (pv 1)) a_nil))))))
theorem ok_scale (T : Tb K mg) (C_check_housed : CalX P w K mg base 6 "check_housed" ["houses", "lots"] (spX K 2 wf_check_housed)) (C_scale_of : CalX P w K mg base 8 "scale_of" ["houses", "lots"] (spX K 2 wf_scale_of)) {f : Addr} {fd : FuncData} (F : FunD K "scale" "scale" (defArgs (top 62)) (defBody (top 62)) (defScope (top 62)) [] [] f fd) (hm : mg "scale" = some (.ref f)) (pu : ∀ ds Q' R', ds.length = 2 → wf_scale ds Q' R' → ws_scale (fun e _ => R' e) (edP Q') (enP N_scale ds)) : CalX P w K mg base 9 "scale" ["houses", "lots"] (spX K 2 wf_scale) :=
  ⟨f, fd, fnX F sc_scale (fun ζ R cdv A outer s H E tk hpo hr => der_scale T C_check_housed C_scale_of f cdv A outer s H E tk hpo hr) pu, hm, F.kp, F.bindsN (ps := ["houses", "lots"]) fun _ _ _ _ _ _ us hl => match us, hl with | [_, _], _ => rfl⟩
/-! ### is_integer -/
abbrev N_is_integer : List Str := ["value"]
theorem sc_is_integer : FnScope N_is_integer ["value"] (defScope (top 10)) := ⟨rfl, rfl, rfl, by decide +kernel, rfl, by decide +kernel, by decide +kernel⟩
def ws_is_integer : WS := (wRet (wAndV (wFn 1 wf_is_whole (wCons (wVar 0) wNil)) (wCh dLt dLt (wUn dNeg (wC (.int 1000000000000000000000000000000000000000000000000000000000000))) (wVar 0) (wC (.int 1000000000000000000000000000000000000000000000000000000000000)))))
theorem der_is_integer (T : Tb K mg) (C_is_whole : Cal P w K mg base 1 "is_whole" ["value"] (spP K 1 wf_is_whole)) (f : Addr) (cdv : Value) (A : Around) (outer : List Env) (s : Shared) (H : Hp) (E : XK) (hr : Room 1 (A.deeper (envOfC "is_integer" (defScope (top 10)) s.heap.objs.size f cdv))) : PSs (cxOf CX0 P w K mg base N_is_integer "is_integer" (defScope (top 10)) f cdv A outer s H E).nox (defBody (top 10)) (lS K ζ ws_is_integer) :=
  (s_one (s_ret (d_and (c_call C_is_whole (hr.mono (by decide)) (a_cons (d_var (pv 0)) a_nil)) (d_one (d_ch (op_ltD hr.units0) snd_lt (op_ltD hr.units0) snd_lt (d_un un_neg snd_neg (d_gint T.c_TOO_LONG)) (d_var (pv 0)) (d_gint T.c_TOO_LONG))))))
theorem ok_is_integer (T : Tb K mg) (C_is_whole : Cal P w K mg base 1 "is_whole" ["value"] (spP K 1 wf_is_whole)) {f : Addr} {fd : FuncData} (F : FunD K "is_integer" "is_integer" (defArgs (top 10)) (defBody (top 10)) (defScope (top 10)) [] [] f fd) (hm : mg "is_integer" = some (.ref f)) (pu : ∀ ds Q', ds.length = 1 → wf_is_integer ds Q' → ws_is_integer (edP Q') (enP N_is_integer ds)) : Cal P w K mg base 2 "is_integer" ["value"] (spP K 1 wf_is_integer) :=
  ⟨f, fd, fnP F sc_is_integer (fun cdv A outer s H E hr => der_is_integer T C_is_whole f cdv A outer s H E hr) pu, hm, F.kp, F.bindsN (ps := ["value"]) fun _ _ _ _ _ _ us hl => match us, hl with | [_], _ => rfl⟩
/-! ### is_fraction -/
abbrev N_is_fraction : List Str := ["value", "number"]
theorem sc_is_fraction : FnScope N_is_fraction ["value"] (defScope (top 16)) := ⟨rfl, rfl, rfl, by decide +kernel, rfl, by decide +kernel, by decide +kernel⟩
def ws_is_fraction : WS := (wSeq (wIfS (wOr (wNot (wTr (wIsi "tuple" (wVar 0)))) (wB (wOp dNe (wCl dLen (wCons (wVar 0) wNil)) (wC (.int 2))))) (wRet (wC (.bool false))) wNext) (wSeq (wIfS (wNot (wTr (wCl dAll (wCons (wLe (wLc (wSq (wVar 0)) (wgN 1) wYes (wFn 1 wf_is_integer (wCons (wVar 1) wNil)) [1])) wNil)))) (wRet (wC (.bool false))) wNext) (wRet (wAndV (wOp dGt (wOp dIx (wVar 0) (wC (.int 1))) (wC (.int 0))) (wOp dEq (wCl dGcd (wCons (wOp dIx (wVar 0) (wC (.int 0))) (wCons (wOp dIx (wVar 0) (wC (.int 1))) wNil))) (wC (.int 1)))))))
theorem der_is_fraction (T : Tb K mg) (C_is_integer : Cal P w K mg base 2 "is_integer" ["value"] (spP K 1 wf_is_integer)) (f : Addr) (cdv : Value) (A : Around) (outer : List Env) (s : Shared) (H : Hp) (E : XK) (hr : Room 2 (A.deeper (envOfC "is_fraction" (defScope (top 16)) s.heap.objs.size f cdv))) : PSs (cxOf CX0 P w K mg base N_is_fraction "is_fraction" (defScope (top 16)) f cdv A outer s H E).nox (defBody (top 16)) (lS K ζ ws_is_fraction) :=
  (s_cons (s_if (PW.pt (t_or (t_not (t_tru (d_isi (T' := "tuple") T.b_isinstance T.b_tuple (by decide +kernel) (d_var (pv 0))))) (t_or1 (t_cmp (op_neD hr.units) snd_ne (d_cb call_len snd_len T.b_len (by decide +kernel) (a_cons (d_var (pv 0)) a_nil)) d_int (nomark _))))) (s_one (s_ret d_bl)) s_nil) (s_cons (s_if (t_not (t_tru (d_cb (cr_all rfl) snd_all T.b_all (by decide +kernel) (a_cons (d_lL (l_lc (own := [("number", 1)]) rfl sc_is_fraction.nd (i_seq (d_var (pv 0))) (blkOk_by (N := N_is_fraction) (sc := (defScope (top 16))) (by decide +kernel)) (fun _ _ _ _ _ => (g_name (i := 1) sc_is_fraction.nd rfl (by first | exact Or.inl rfl | exact Or.inr rfl))) (fun _ _ _ _ _ => ts_nil) (fun _ _ _ _ _ => (c_call C_is_integer (hr.mono (by decide)) (a_cons (d_var (pv 1)) a_nil))))) a_nil)))) (s_one (s_ret d_bl)) s_nil) (s_one (s_ret (d_and (d_cmp op_gt snd_gt (d_ix (d_var (pv 0)) d_int) d_int (nomark _)) (d_one (d_cmp (op_eqD hr.units) snd_eq (d_gcd T.g_gcd (a_cons (d_ix (d_var (pv 0)) d_int) (a_cons (d_ix (d_var (pv 0)) d_int) a_nil))) d_int (nomark _))))))))
theorem ok_is_fraction (T : Tb K mg) (C_is_integer : Cal P w K mg base 2 "is_integer" ["value"] (spP K 1 wf_is_integer)) {f : Addr} {fd : FuncData} (F : FunD K "is_fraction" "is_fraction" (defArgs (top 16)) (defBody (top 16)) (defScope (top 16)) [] [] f fd) (hm : mg "is_fraction" = some (.ref f)) (pu : ∀ ds Q', ds.length = 1 → wf_is_fraction ds Q' → ws_is_fraction (edP Q') (enP N_is_fraction ds)) : Cal P w K mg base 3 "is_fraction" ["value"] (spP K 1 wf_is_fraction) :=
  ⟨f, fd, fnP F sc_is_fraction (fun cdv A outer s H E hr => der_is_fraction T C_is_integer f cdv A outer s H E hr) pu, hm, F.kp, F.bindsN (ps := ["value"]) fun _ _ _ _ _ _ us hl => match us, hl with | [_], _ => rfl⟩
/-! ### check_fraction -/
abbrev N_check_fraction : List Str := ["value"]
theorem sc_check_fraction : FnScope N_check_fraction ["value"] (defScope (top 17)) := ⟨rfl, rfl, rfl, by decide +kernel, rfl, by decide +kernel, by decide +kernel⟩
def ws_check_fraction (R : Exc → En → Prop) : WS := (wIfS (wNot (wTr (wFn 1 wf_is_fraction (wCons (wVar 0) wNil)))) (wRaise R "InvalidFraction" (wC (.str "a fraction is wanted"))) wNext)
theorem der_check_fraction {R : Exc → En → Prop} (T : Tb K mg) (C_is_fraction : Cal P w K mg base 3 "is_fraction" ["value"] (spP K 1 wf_is_fraction)) (f : Addr) (cdv : Value) (A : Around) (outer : List Env) (s : Shared) (H : Hp) (E : XK) (tk : Takes (cxOf (L2.CX P w) P w K mg base N_check_fraction "check_fraction" (defScope (top 17)) f cdv A outer s H E) (wxOf K ζ R)) (hpo : PassesOwn (model P w) (cxOf (L2.CX P w) P w K mg base N_check_fraction "check_fraction" (defScope (top 17)) f cdv A outer s H E).A (cxOf (L2.CX P w) P w K mg base N_check_fraction "check_fraction" (defScope (top 17)) f cdv A outer s H E).env (cxOf (L2.CX P w) P w K mg base N_check_fraction "check_fraction" (defScope (top 17)) f cdv A outer s H E).xe) (hr : Room 3 (A.deeper (envOfC "check_fraction" (defScope (top 17)) s.heap.objs.size f cdv))) : PSs (cxOf (L2.CX P w) P w K mg base N_check_fraction "check_fraction" (defScope (top 17)) f cdv A outer s H E) (defBody (top 17)) (lS K ζ (ws_check_fraction R)) :=
  (s_one (s_if (t_not (t_tru (c_call C_is_fraction (hr.mono (by decide)) (a_cons (d_var (pv 0)) a_nil)))) (s_one (s_raise T.x_InvalidFraction rfl tk d_str)) s_nil))
theorem ok_check_fraction (T : Tb K mg) (C_is_fraction : Cal P w K mg base 3 "is_fraction" ["value"] (spP K 1 wf_is_fraction)) {f : Addr} {fd : FuncData} (F : FunD K "check_fraction" "check_fraction" (defArgs (top 17)) (defBody (top 17)) (defScope (top 17)) [] [] f fd) (hm : mg "check_fraction" = some (.ref f)) (pu : ∀ ds Q' R', ds.length = 1 → wf_check_fraction ds Q' R' → ws_check_fraction (fun e _ => R' e) (edP Q') (enP N_check_fraction ds)) : CalX P w K mg base 4 "check_fraction" ["value"] (spX K 1 wf_check_fraction) :=
  ⟨f, fd, fnX F sc_check_fraction (fun ζ R cdv A outer s H E tk hpo hr => der_check_fraction T C_is_fraction f cdv A outer s H E tk hpo hr) pu, hm, F.kp, F.bindsN (ps := ["value"]) fun _ _ _ _ _ _ us hl => match us, hl with | [_], _ => rfl⟩
/-! ### check_two -/
abbrev N_check_two : List Str := ["one", "other"]
theorem sc_check_two : FnScope N_check_two ["one", "other"] (defScope (top 18)) := ⟨rfl, rfl, rfl, by decide +kernel, rfl, by decide +kernel, by decide +kernel⟩
def ws_check_two (R : Exc → En → Prop) : WS := (wSeq (wDrop (wFnX 1 wf_check_fraction R (wCons (wVar 0) wNil))) (wDrop (wFnX 1 wf_check_fraction R (wCons (wVar 1) wNil))))
theorem der_check_two {R : Exc → En → Prop} (T : Tb K mg) (C_check_fraction : CalX P w K mg base 4 "check_fraction" ["value"] (spX K 1 wf_check_fraction)) (f : Addr) (cdv : Value) (A : Around) (outer : List Env) (s : Shared) (H : Hp) (E : XK) (tk : Takes (cxOf (L2.CX P w) P w K mg base N_check_two "check_two" (defScope (top 18)) f cdv A outer s H E) (wxOf K ζ R)) (hpo : PassesOwn (model P w) (cxOf (L2.CX P w) P w K mg base N_check_two "check_two" (defScope (top 18)) f cdv A outer s H E).A (cxOf (L2.CX P w) P w K mg base N_check_two "check_two" (defScope (top 18)) f cdv A outer s H E).env (cxOf (L2.CX P w) P w K mg base N_check_two "check_two" (defScope (top 18)) f cdv A outer s H E).xe) (hr : Room 4 (A.deeper (envOfC "check_two" (defScope (top 18)) s.heap.objs.size f cdv))) : PSs (cxOf (L2.CX P w) P w K mg base N_check_two "check_two" (defScope (top 18)) f cdv A outer s H E) (defBody (top 18)) (lS K ζ (ws_check_two R)) :=
  (s_cons (s_expr (c_callX C_check_fraction tk (hr.mono (by decide)) (a_cons (d_var (pv 0)) a_nil))) (s_one (s_expr (c_callX C_check_fraction tk (hr.mono (by decide)) (a_cons (d_var (pv 1)) a_nil)))))
theorem ok_check_two (T : Tb K mg) (C_check_fraction : CalX P w K mg base 4 "check_fraction" ["value"] (spX K 1 wf_check_fraction)) {f : Addr} {fd : FuncData} (F : FunD K "check_two" "check_two" (defArgs (top 18)) (defBody (top 18)) (defScope (top 18)) [] [] f fd) (hm : mg "check_two" = some (.ref f)) (pu : ∀ ds Q' R', ds.length = 2 → wf_check_two ds Q' R' → ws_check_two (fun e _ => R' e) (edP Q') (enP N_check_two ds)) : CalX P w K mg base 5 "check_two" ["one", "other"] (spX K 2 wf_check_two) :=
  ⟨f, fd, fnX F sc_check_two (fun ζ R cdv A outer s H E tk hpo hr => der_check_two T C_check_fraction f cdv A outer s H E tk hpo hr) pu, hm, F.kp, F.bindsN (ps := ["one", "other"]) fun _ _ _ _ _ _ us hl => match us, hl with | [_, _], _ => rfl⟩
/-! ### over -/
abbrev N_over : List Str := ["one", "other"]
theorem sc_over : FnScope N_over ["one", "other"] (defScope (top 25)) := ⟨rfl, rfl, rfl, by decide +kernel, rfl, by decide +kernel, by decide +kernel⟩
def ws_over (R : Exc → En → Prop) : WS := (wSeq (wDrop (wFnX 2 wf_check_two R (wCons (wVar 0) (wCons (wVar 1) wNil)))) (wSeq (wIfS (wB (wOp dEq (wOp dIx (wVar 1) (wC (.int 0))) (wC (.int 0)))) (wRaiseF R "Refused" "reason" (wTup (wCons (wC (.str "zero")) wNil))) wNext) (wRet (wFn 2 wf_lowest (wCons (wOp dMul (wOp dIx (wVar 0) (wC (.int 0))) (wOp dIx (wVar 1) (wC (.int 1)))) (wCons (wOp dMul (wOp dIx (wVar 0) (wC (.int 1))) (wOp dIx (wVar 1) (wC (.int 0)))) wNil))))))
theorem der_over {R : Exc → En → Prop} (T : Tb K mg) (C_check_two : CalX P w K mg base 5 "check_two" ["one", "other"] (spX K 2 wf_check_two)) (C_lowest : Cal P w K mg base 1 "lowest" ["top", "bottom"] (spP K 2 wf_lowest)) (C_Refused___init__ : ExfC P w K mg base "Refused" "reason") (f : Addr) (cdv : Value) (A : Around) (outer : List Env) (s : Shared) (H : Hp) (E : XK) (tk : Takes (cxOf (L2.CX P w) P w K mg base N_over "over" (defScope (top 25)) f cdv A outer s H E) (wxOf K ζ R)) (hpo : PassesOwn (model P w) (cxOf (L2.CX P w) P w K mg base N_over "over" (defScope (top 25)) f cdv A outer s H E).A (cxOf (L2.CX P w) P w K mg base N_over "over" (defScope (top 25)) f cdv A outer s H E).env (cxOf (L2.CX P w) P w K mg base N_over "over" (defScope (top 25)) f cdv A outer s H E).xe) (hr : Room 5 (A.deeper (envOfC "over" (defScope (top 25)) s.heap.objs.size f cdv))) : PSs (cxOf (L2.CX P w) P w K mg base N_over "over" (defScope (top 25)) f cdv A outer s H E) (defBody (top 25)) (lS K ζ (ws_over R)) :=
  (s_cons (s_expr (c_callX C_check_two tk (hr.mono (by decide)) (a_cons (d_var (pv 0)) (a_cons (d_var (pv 1)) a_nil)))) (s_cons (s_if (t_cmp (op_eqD hr.units) snd_eq (d_ix (d_var (pv 1)) d_int) d_int (nomark _)) (s_one (s_raiseF C_Refused___init__ rfl (hr.mono (by decide)) tk (d_tup (a_cons d_str a_nil)))) s_nil) (s_one (s_ret (c_call C_lowest (hr.mono (by decide)) (a_cons (d_op op_mulD snd_mul (d_ix (d_var (pv 0)) d_int) (d_ix (d_var (pv 1)) d_int)) (a_cons (d_op op_mulD snd_mul (d_ix (d_var (pv 0)) d_int) (d_ix (d_var (pv 1)) d_int)) a_nil)))))))
theorem ok_over (T : Tb K mg) (C_check_two : CalX P w K mg base 5 "check_two" ["one", "other"] (spX K 2 wf_check_two)) (C_lowest : Cal P w K mg base 1 "lowest" ["top", "bottom"] (spP K 2 wf_lowest)) (C_Refused___init__ : ExfC P w K mg base "Refused" "reason") {f : Addr} {fd : FuncData} (F : FunD K "over" "over" (defArgs (top 25)) (defBody (top 25)) (defScope (top 25)) [] [] f fd) (hm : mg "over" = some (.ref f)) (pu : ∀ ds Q' R', ds.length = 2 → wf_over ds Q' R' → ws_over (fun e _ => R' e) (edP Q') (enP N_over ds)) : CalX P w K mg base 6 "over" ["one", "other"] (spX K 2 wf_over) :=
  ⟨f, fd, fnX F sc_over (fun ζ R cdv A outer s H E tk hpo hr => der_over T C_check_two C_lowest C_Refused___init__ f cdv A outer s H E tk hpo hr) pu, hm, F.kp, F.bindsN (ps := ["one", "other"]) fun _ _ _ _ _ _ us hl => match us, hl with | [_, _], _ => rfl⟩
/-! ### _law_fu_shared -/
abbrev N__law_fu_shared : List Str := ["one", "other"]
theorem sc__law_fu_shared : FnScope N__law_fu_shared ["one", "other"] (defScope (top 69)) := ⟨rfl, rfl, rfl, by decide +kernel, rfl, by decide +kernel, by decide +kernel⟩
def ws__law_fu_shared : WS := (wSeq (wPar 0 1 (wCl dAbs (wCons (wVar 0) wNil)) (wCl dAbs (wCons (wVar 1) wNil))) (wSeq (wWhile (wB (wOp dGt (wVar 1) (wC (.int 0)))) (wPar 0 1 (wVar 1) (wOp dMod (wVar 0) (wVar 1)))) (wRet (wVar 0))))
theorem der__law_fu_shared (T : Tb K mg)  (f : Addr) (cdv : Value) (A : Around) (outer : List Env) (s : Shared) (H : Hp) (E : XK) (hr : Room 0 (A.deeper (envOfC "_law_fu_shared" (defScope (top 69)) s.heap.objs.size f cdv))) : PSs (cxOf CX0 P w K mg base N__law_fu_shared "_law_fu_shared" (defScope (top 69)) f cdv A outer s H E).nox (defBody (top 69)) (lS K ζ ws__law_fu_shared) :=
  (s_cons (s_par (ps_par (i := 0) (j := 1) rfl sc__law_fu_shared.nd rfl rfl (by decide) rfl rfl (pa_cons (d_cb call_abs snd_abs T.b_abs (by decide +kernel) (a_cons (d_var (pv 0)) a_nil)) (pa_cons (d_cb call_abs snd_abs T.b_abs (by decide +kernel) (a_cons (d_var (pv 1)) a_nil)) pa_nil)) (by rfl))) (s_cons (s_while PassesOwn.never (t_cmp op_gt snd_gt (d_var (pv 1)) d_int (nomark _)) (s_one (s_par (ps_par (i := 0) (j := 1) rfl sc__law_fu_shared.nd rfl rfl (by decide) rfl rfl (pa_cons (d_var (pv 1)) (pa_cons (d_op op_mod snd_mod (d_var (pv 0)) (d_var (pv 1))) pa_nil)) (by rfl))))) (s_one (s_ret (d_var (pv 0))))))
theorem ok__law_fu_shared (T : Tb K mg)  {f : Addr} {fd : FuncData} (F : FunD K "_law_fu_shared" "_law_fu_shared" (defArgs (top 69)) (defBody (top 69)) (defScope (top 69)) [] [] f fd) (hm : mg "_law_fu_shared" = some (.ref f)) (pu : ∀ ds Q', ds.length = 2 → wf__law_fu_shared ds Q' → ws__law_fu_shared (edP Q') (enP N__law_fu_shared ds)) : Cal P w K mg base 1 "_law_fu_shared" ["one", "other"] (spP K 2 wf__law_fu_shared) :=
  ⟨f, fd, fnP F sc__law_fu_shared (fun cdv A outer s H E hr => der__law_fu_shared T  f cdv A outer s H E hr) pu, hm, F.kp, F.bindsN (ps := ["one", "other"]) fun _ _ _ _ _ _ us hl => match us, hl with | [_, _], _ => rfl⟩
/-! ### _law_fu_part -/
abbrev N__law_fu_part : List Str := ["top", "bottom", "shared", "sign"]
theorem sc__law_fu_part : FnScope N__law_fu_part ["top", "bottom"] (defScope (top 70)) := ⟨rfl, rfl, rfl, by decide +kernel, rfl, by decide +kernel, by decide +kernel⟩
def ws__law_fu_part : WS := (wSeq (wSet 2 (wFn 2 wf__law_fu_shared (wCons (wVar 0) (wCons (wVar 1) wNil)))) (wSeq (wSet 3 (wIf (wB (wOp dGt (wVar 1) (wC (.int 0)))) (wC (.int 1)) (wUn dNeg (wC (.int 1))))) (wRet (wTup (wCons (wOp dFdivG (wOp dMul (wVar 3) (wVar 0)) (wVar 2)) (wCons (wOp dFdivG (wOp dMul (wVar 3) (wVar 1)) (wVar 2)) wNil))))))
theorem der__law_fu_part (T : Tb K mg) (C__law_fu_shared : Cal P w K mg base 1 "_law_fu_shared" ["one", "other"] (spP K 2 wf__law_fu_shared)) (f : Addr) (cdv : Value) (A : Around) (outer : List Env) (s : Shared) (H : Hp) (E : XK) (hr : Room 1 (A.deeper (envOfC "_law_fu_part" (defScope (top 70)) s.heap.objs.size f cdv))) : PSs (cxOf CX0 P w K mg base N__law_fu_part "_law_fu_part" (defScope (top 70)) f cdv A outer s H E).nox (defBody (top 70)) (lS K ζ ws__law_fu_part) :=
  (s_cons (s_set (i := 2) sc__law_fu_part.nd rfl (by first | exact Or.inl rfl | exact Or.inr rfl) (c_call C__law_fu_shared (hr.mono (by decide)) (a_cons (d_var (pv 0)) (a_cons (d_var (pv 1)) a_nil)))) (s_cons (s_set (i := 3) sc__law_fu_part.nd rfl (by first | exact Or.inl rfl | exact Or.inr rfl) (d_if (t_cmp op_gt snd_gt (d_var (pv 1)) d_int (nomark _)) d_int (d_un un_neg snd_neg d_int))) (s_one (s_ret (d_tup (a_cons (d_op op_fdivG snd_fdivG (d_op op_mulD snd_mul (d_var (pv 3)) (d_var (pv 0))) (d_var (pv 2))) (a_cons (d_op op_fdivG snd_fdivG (d_op op_mulD snd_mul (d_var (pv 3)) (d_var (pv 1))) (d_var (pv 2))) a_nil)))))))
theorem ok__law_fu_part (T : Tb K mg) (C__law_fu_shared : Cal P w K mg base 1 "_law_fu_shared" ["one", "other"] (spP K 2 wf__law_fu_shared)) {f : Addr} {fd : FuncData} (F : FunD K "_law_fu_part" "_law_fu_part" (defArgs (top 70)) (defBody (top 70)) (defScope (top 70)) [] [] f fd) (hm : mg "_law_fu_part" = some (.ref f)) (pu : ∀ ds Q', ds.length = 2 → wf__law_fu_part ds Q' → ws__law_fu_part (edP Q') (enP N__law_fu_part ds)) : Cal P w K mg base 2 "_law_fu_part" ["top", "bottom"] (spP K 2 wf__law_fu_part) :=
  ⟨f, fd, fnP F sc__law_fu_part (fun cdv A outer s H E hr => der__law_fu_part T C__law_fu_shared f cdv A outer s H E hr) pu, hm, F.kp, F.bindsN (ps := ["top", "bottom"]) fun _ _ _ _ _ _ us hl => match us, hl with | [_, _], _ => rfl⟩
/-! ### _law_fu_times -/
abbrev N__law_fu_times : List Str := ["one", "other"]
theorem sc__law_fu_times : FnScope N__law_fu_times ["one", "other"] (defScope (top 72)) := ⟨rfl, rfl, rfl, by decide +kernel, rfl, by decide +kernel, by decide +kernel⟩
def ws__law_fu_times : WS := (wRet (wFn 2 wf__law_fu_part (wCons (wOp dMul (wOp dIx (wVar 0) (wC (.int 0))) (wOp dIx (wVar 1) (wC (.int 0)))) (wCons (wOp dMul (wOp dIx (wVar 0) (wC (.int 1))) (wOp dIx (wVar 1) (wC (.int 1)))) wNil))))
theorem der__law_fu_times (T : Tb K mg) (C__law_fu_part : Cal P w K mg base 2 "_law_fu_part" ["top", "bottom"] (spP K 2 wf__law_fu_part)) (f : Addr) (cdv : Value) (A : Around) (outer : List Env) (s : Shared) (H : Hp) (E : XK) (hr : Room 2 (A.deeper (envOfC "_law_fu_times" (defScope (top 72)) s.heap.objs.size f cdv))) : PSs (cxOf CX0 P w K mg base N__law_fu_times "_law_fu_times" (defScope (top 72)) f cdv A outer s H E).nox (defBody (top 72)) (lS K ζ ws__law_fu_times) :=
  (s_one (s_ret (c_call C__law_fu_part (hr.mono (by decide)) (a_cons (d_op op_mulD snd_mul (d_ix (d_var (pv 0)) d_int) (d_ix (d_var (pv 1)) d_int)) (a_cons (d_op op_mulD snd_mul (d_ix (d_var (pv 0)) d_int) (d_ix (d_var (pv 1)) d_int)) a_nil)))))
theorem ok__law_fu_times (T : Tb K mg) (C__law_fu_part : Cal P w K mg base 2 "_law_fu_part" ["top", "bottom"] (spP K 2 wf__law_fu_part)) {f : Addr} {fd : FuncData} (F : FunD K "_law_fu_times" "_law_fu_times" (defArgs (top 72)) (defBody (top 72)) (defScope (top 72)) [] [] f fd) (hm : mg "_law_fu_times" = some (.ref f)) (pu : ∀ ds Q', ds.length = 2 → wf__law_fu_times ds Q' → ws__law_fu_times (edP Q') (enP N__law_fu_times ds)) : Cal P w K mg base 3 "_law_fu_times" ["one", "other"] (spP K 2 wf__law_fu_times) :=
  ⟨f, fd, fnP F sc__law_fu_times (fun cdv A outer s H E hr => der__law_fu_times T C__law_fu_part f cdv A outer s H E hr) pu, hm, F.kp, F.bindsN (ps := ["one", "other"]) fun _ _ _ _ _ _ us hl => match us, hl with | [_, _], _ => rfl⟩
/-! ### sum_of_two -/
abbrev N_sum_of_two : List Str := ["one", "other"]
theorem sc_sum_of_two : FnScope N_sum_of_two ["one", "other"] (defScope (top 20)) := ⟨rfl, rfl, rfl, by decide +kernel, rfl, by decide +kernel, by decide +kernel⟩
def ws_sum_of_two : WS := (wRet (wFn 2 wf_lowest (wCons (wOp dAdd (wOp dMul (wOp dIx (wVar 0) (wC (.int 0))) (wOp dIx (wVar 1) (wC (.int 1)))) (wOp dMul (wOp dIx (wVar 1) (wC (.int 0))) (wOp dIx (wVar 0) (wC (.int 1))))) (wCons (wOp dMul (wOp dIx (wVar 0) (wC (.int 1))) (wOp dIx (wVar 1) (wC (.int 1)))) wNil))))
theorem der_sum_of_two (T : Tb K mg) (C_lowest : Cal P w K mg base 1 "lowest" ["top", "bottom"] (spP K 2 wf_lowest)) (f : Addr) (cdv : Value) (A : Around) (outer : List Env) (s : Shared) (H : Hp) (E : XK) (hr : Room 1 (A.deeper (envOfC "sum_of_two" (defScope (top 20)) s.heap.objs.size f cdv))) : PSs (cxOf CX0 P w K mg base N_sum_of_two "sum_of_two" (defScope (top 20)) f cdv A outer s H E).nox (defBody (top 20)) (lS K ζ ws_sum_of_two) :=
  (s_one (s_ret (c_call C_lowest (hr.mono (by decide)) (a_cons (d_op op_addD snd_add (d_op op_mulD snd_mul (d_ix (d_var (pv 0)) d_int) (d_ix (d_var (pv 1)) d_int)) (d_op op_mulD snd_mul (d_ix (d_var (pv 1)) d_int) (d_ix (d_var (pv 0)) d_int))) (a_cons (d_op op_mulD snd_mul (d_ix (d_var (pv 0)) d_int) (d_ix (d_var (pv 1)) d_int)) a_nil)))))
theorem ok_sum_of_two (T : Tb K mg) (C_lowest : Cal P w K mg base 1 "lowest" ["top", "bottom"] (spP K 2 wf_lowest)) {f : Addr} {fd : FuncData} (F : FunD K "sum_of_two" "sum_of_two" (defArgs (top 20)) (defBody (top 20)) (defScope (top 20)) [] [] f fd) (hm : mg "sum_of_two" = some (.ref f)) (pu : ∀ ds Q', ds.length = 2 → wf_sum_of_two ds Q' → ws_sum_of_two (edP Q') (enP N_sum_of_two ds)) : Cal P w K mg base 2 "sum_of_two" ["one", "other"] (spP K 2 wf_sum_of_two) :=
  ⟨f, fd, fnP F sc_sum_of_two (fun cdv A outer s H E hr => der_sum_of_two T C_lowest f cdv A outer s H E hr) pu, hm, F.kp, F.bindsN (ps := ["one", "other"]) fun _ _ _ _ _ _ us hl => match us, hl with | [_, _], _ => rfl⟩
/-! ### product_of_two -/
abbrev N_product_of_two : List Str := ["one", "other"]
theorem sc_product_of_two : FnScope N_product_of_two ["one", "other"] (defScope (top 21)) := ⟨rfl, rfl, rfl, by decide +kernel, rfl, by decide +kernel, by decide +kernel⟩
def ws_product_of_two : WS := (wRet (wFn 2 wf_lowest (wCons (wOp dMul (wOp dIx (wVar 0) (wC (.int 0))) (wOp dIx (wVar 1) (wC (.int 0)))) (wCons (wOp dMul (wOp dIx (wVar 0) (wC (.int 1))) (wOp dIx (wVar 1) (wC (.int 1)))) wNil))))
theorem der_product_of_two (T : Tb K mg) (C_lowest : Cal P w K mg base 1 "lowest" ["top", "bottom"] (spP K 2 wf_lowest)) (f : Addr) (cdv : Value) (A : Around) (outer : List Env) (s : Shared) (H : Hp) (E : XK) (hr : Room 1 (A.deeper (envOfC "product_of_two" (defScope (top 21)) s.heap.objs.size f cdv))) : PSs (cxOf CX0 P w K mg base N_product_of_two "product_of_two" (defScope (top 21)) f cdv A outer s H E).nox (defBody (top 21)) (lS K ζ ws_product_of_two) :=
  (s_one (s_ret (c_call C_lowest (hr.mono (by decide)) (a_cons (d_op op_mulD snd_mul (d_ix (d_var (pv 0)) d_int) (d_ix (d_var (pv 1)) d_int)) (a_cons (d_op op_mulD snd_mul (d_ix (d_var (pv 0)) d_int) (d_ix (d_var (pv 1)) d_int)) a_nil)))))
theorem ok_product_of_two (T : Tb K mg) (C_lowest : Cal P w K mg base 1 "lowest" ["top", "bottom"] (spP K 2 wf_lowest)) {f : Addr} {fd : FuncData} (F : FunD K "product_of_two" "product_of_two" (defArgs (top 21)) (defBody (top 21)) (defScope (top 21)) [] [] f fd) (hm : mg "product_of_two" = some (.ref f)) (pu : ∀ ds Q', ds.length = 2 → wf_product_of_two ds Q' → ws_product_of_two (edP Q') (enP N_product_of_two ds)) : Cal P w K mg base 2 "product_of_two" ["one", "other"] (spP K 2 wf_product_of_two) :=
  ⟨f, fd, fnP F sc_product_of_two (fun cdv A outer s H E hr => der_product_of_two T C_lowest f cdv A outer s H E hr) pu, hm, F.kp, F.bindsN (ps := ["one", "other"]) fun _ _ _ _ _ _ us hl => match us, hl with | [_, _], _ => rfl⟩
/-! ### powers_added -/
abbrev N_powers_added : List Str := ["one", "many", "made", "_"]
theorem sc_powers_added : FnScope N_powers_added ["one", "many"] (defScope (top 27)) := ⟨rfl, rfl, rfl, by decide +kernel, rfl, by decide +kernel, by decide +kernel⟩
def ws_powers_added (R : Exc → En → Prop) : WS := (wSeq (wDrop (wFnX 1 wf_check_fraction R (wCons (wVar 0) wNil))) (wSeq (wDrop (wFnX 3 wf_check_between R (wCons (wVar 1) (wCons (wC (.int 1)) (wCons (wC (.int 100)) wNil))))) (wSeq (wSet 2 (wTup (wCons (wC (.int 1)) (wCons (wC (.int 1)) wNil)))) (wSeq (wFor (wRg1 (wCons (wOp dSub (wVar 1) (wC (.int 1))) wNil)) (wgN 3) (wSet 2 (wFn 2 wf_sum_of_two (wCons (wTup (wCons (wC (.int 1)) (wCons (wC (.int 1)) wNil))) (wCons (wFn 2 wf_product_of_two (wCons (wVar 0) (wCons (wVar 2) wNil))) wNil))))) (wRet (wVar 2))))))
theorem der_powers_added {R : Exc → En → Prop} (T : Tb K mg) (C_check_fraction : CalX P w K mg base 4 "check_fraction" ["value"] (spX K 1 wf_check_fraction)) (C_check_between : CalX P w K mg base 3 "check_between" ["value", "least", "most"] (spX K 3 wf_check_between)) (C_sum_of_two : Cal P w K mg base 2 "sum_of_two" ["one", "other"] (spP K 2 wf_sum_of_two)) (C_product_of_two : Cal P w K mg base 2 "product_of_two" ["one", "other"] (spP K 2 wf_product_of_two)) (f : Addr) (cdv : Value) (A : Around) (outer : List Env) (s : Shared) (H : Hp) (E : XK) (tk : Takes (cxOf (L2.CX P w) P w K mg base N_powers_added "powers_added" (defScope (top 27)) f cdv A outer s H E) (wxOf K ζ R)) (hpo : PassesOwn (model P w) (cxOf (L2.CX P w) P w K mg base N_powers_added "powers_added" (defScope (top 27)) f cdv A outer s H E).A (cxOf (L2.CX P w) P w K mg base N_powers_added "powers_added" (defScope (top 27)) f cdv A outer s H E).env (cxOf (L2.CX P w) P w K mg base N_powers_added "powers_added" (defScope (top 27)) f cdv A outer s H E).xe) (hr : Room 4 (A.deeper (envOfC "powers_added" (defScope (top 27)) s.heap.objs.size f cdv))) : PSs (cxOf (L2.CX P w) P w K mg base N_powers_added "powers_added" (defScope (top 27)) f cdv A outer s H E) (defBody (top 27)) (lS K ζ (ws_powers_added R)) :=
  (s_cons (s_expr (c_callX C_check_fraction tk (hr.mono (by decide)) (a_cons (d_var (pv 0)) a_nil))) (s_cons (s_expr (c_callX C_check_between tk (hr.mono (by decide)) (a_cons (d_var (pv 1)) (a_cons d_int (a_cons (d_gint T.c_MOST_POWERS) a_nil))))) (s_cons (s_set (i := 2) sc_powers_added.nd rfl (by first | exact Or.inl rfl | exact Or.inr rfl) (d_tup (a_cons d_int (a_cons d_int a_nil)))) (s_cons (s_for hpo rfl (i_rng1 T.b_range (a_cons (d_op op_sub snd_sub (d_var (pv 1)) d_int) a_nil)) (g_name (i := 3) sc_powers_added.nd rfl (by first | exact Or.inl rfl | exact Or.inr rfl)) (s_one (s_set (i := 2) sc_powers_added.nd rfl (by first | exact Or.inl rfl | exact Or.inr rfl) (c_call C_sum_of_two (hr.mono (by decide)) (a_cons (d_tup (a_cons d_int (a_cons d_int a_nil))) (a_cons (c_call C_product_of_two (hr.mono (by decide)) (a_cons (d_var (pv 0)) (a_cons (d_var (pv 2)) a_nil))) a_nil)))))) (s_one (s_ret (d_var (pv 2))))))))
theorem ok_powers_added (T : Tb K mg) (C_check_fraction : CalX P w K mg base 4 "check_fraction" ["value"] (spX K 1 wf_check_fraction)) (C_check_between : CalX P w K mg base 3 "check_between" ["value", "least", "most"] (spX K 3 wf_check_between)) (C_sum_of_two : Cal P w K mg base 2 "sum_of_two" ["one", "other"] (spP K 2 wf_sum_of_two)) (C_product_of_two : Cal P w K mg base 2 "product_of_two" ["one", "other"] (spP K 2 wf_product_of_two)) {f : Addr} {fd : FuncData} (F : FunD K "powers_added" "powers_added" (defArgs (top 27)) (defBody (top 27)) (defScope (top 27)) [] [] f fd) (hm : mg "powers_added" = some (.ref f)) (pu : ∀ ds Q' R', ds.length = 2 → wf_powers_added ds Q' R' → ws_powers_added (fun e _ => R' e) (edP Q') (enP N_powers_added ds)) : CalX P w K mg base 5 "powers_added" ["one", "many"] (spX K 2 wf_powers_added) :=
  ⟨f, fd, fnX F sc_powers_added (fun ζ R cdv A outer s H E tk hpo hr => der_powers_added T C_check_fraction C_check_between C_sum_of_two C_product_of_two f cdv A outer s H E tk hpo hr) pu, hm, F.kp, F.bindsN (ps := ["one", "many"]) fun _ _ _ _ _ _ us hl => match us, hl with | [_, _], _ => rfl⟩
/-! ### check_counted -/
abbrev N_check_counted : List Str := ["books"]
theorem sc_check_counted : FnScope N_check_counted ["books"] (defScope (top 54)) := ⟨rfl, rfl, rfl, by decide +kernel, rfl, by decide +kernel, by decide +kernel⟩
def ws_check_counted (R : Exc → En → Prop) : WS := (wDrop (wFnX 3 wf_check_between R (wCons (wVar 0) (wCons (wC (.int 1)) (wCons (wC (.int 20)) wNil)))))
theorem der_check_counted {R : Exc → En → Prop} (T : Tb K mg) (C_check_between : CalX P w K mg base 3 "check_between" ["value", "least", "most"] (spX K 3 wf_check_between)) (f : Addr) (cdv : Value) (A : Around) (outer : List Env) (s : Shared) (H : Hp) (E : XK) (tk : Takes (cxOf (L2.CX P w) P w K mg base N_check_counted "check_counted" (defScope (top 54)) f cdv A outer s H E) (wxOf K ζ R)) (hpo : PassesOwn (model P w) (cxOf (L2.CX P w) P w K mg base N_check_counted "check_counted" (defScope (top 54)) f cdv A outer s H E).A (cxOf (L2.CX P w) P w K mg base N_check_counted "check_counted" (defScope (top 54)) f cdv A outer s H E).env (cxOf (L2.CX P w) P w K mg base N_check_counted "check_counted" (defScope (top 54)) f cdv A outer s H E).xe) (hr : Room 3 (A.deeper (envOfC "check_counted" (defScope (top 54)) s.heap.objs.size f cdv))) : PSs (cxOf (L2.CX P w) P w K mg base N_check_counted "check_counted" (defScope (top 54)) f cdv A outer s H E) (defBody (top 54)) (lS K ζ (ws_check_counted R)) :=
  (s_one (s_expr (c_callX C_check_between tk (hr.mono (by decide)) (a_cons (d_var (pv 0)) (a_cons d_int (a_cons (d_gint T.c_MOST_BOOKS) a_nil))))))
theorem ok_check_counted (T : Tb K mg) (C_check_between : CalX P w K mg base 3 "check_between" ["value", "least", "most"] (spX K 3 wf_check_between)) {f : Addr} {fd : FuncData} (F : FunD K "check_counted" "check_counted" (defArgs (top 54)) (defBody (top 54)) (defScope (top 54)) [] [] f fd) (hm : mg "check_counted" = some (.ref f)) (pu : ∀ ds Q' R', ds.length = 1 → wf_check_counted ds Q' R' → ws_check_counted (fun e _ => R' e) (edP Q') (enP N_check_counted ds)) : CalX P w K mg base 4 "check_counted" ["books"] (spX K 1 wf_check_counted) :=
  ⟨f, fd, fnX F sc_check_counted (fun ζ R cdv A outer s H E tk hpo hr => der_check_counted T C_check_between f cdv A outer s H E tk hpo hr) pu, hm, F.kp, F.bindsN (ps := ["books"]) fun _ _ _ _ _ _ us hl => match us, hl with | [_], _ => rfl⟩
/-! ### check_long -/
abbrev N_check_long : List Str := ["length"]
theorem sc_check_long : FnScope N_check_long ["length"] (defScope (top 55)) := ⟨rfl, rfl, rfl, by decide +kernel, rfl, by decide +kernel, by decide +kernel⟩
def ws_check_long (R : Exc → En → Prop) : WS := (wDrop (wFnX 3 wf_check_between R (wCons (wVar 0) (wCons (wC (.int 1)) (wCons (wC (.int 100)) wNil)))))
theorem der_check_long {R : Exc → En → Prop} (T : Tb K mg) (C_check_between : CalX P w K mg base 3 "check_between" ["value", "least", "most"] (spX K 3 wf_check_between)) (f : Addr) (cdv : Value) (A : Around) (outer : List Env) (s : Shared) (H : Hp) (E : XK) (tk : Takes (cxOf (L2.CX P w) P w K mg base N_check_long "check_long" (defScope (top 55)) f cdv A outer s H E) (wxOf K ζ R)) (hpo : PassesOwn (model P w) (cxOf (L2.CX P w) P w K mg base N_check_long "check_long" (defScope (top 55)) f cdv A outer s H E).A (cxOf (L2.CX P w) P w K mg base N_check_long "check_long" (defScope (top 55)) f cdv A outer s H E).env (cxOf (L2.CX P w) P w K mg base N_check_long "check_long" (defScope (top 55)) f cdv A outer s H E).xe) (hr : Room 3 (A.deeper (envOfC "check_long" (defScope (top 55)) s.heap.objs.size f cdv))) : PSs (cxOf (L2.CX P w) P w K mg base N_check_long "check_long" (defScope (top 55)) f cdv A outer s H E) (defBody (top 55)) (lS K ζ (ws_check_long R)) :=
  (s_one (s_expr (c_callX C_check_between tk (hr.mono (by decide)) (a_cons (d_var (pv 0)) (a_cons d_int (a_cons (d_gint T.c_MOST_WIDTH) a_nil))))))
theorem ok_check_long (T : Tb K mg) (C_check_between : CalX P w K mg base 3 "check_between" ["value", "least", "most"] (spX K 3 wf_check_between)) {f : Addr} {fd : FuncData} (F : FunD K "check_long" "check_long" (defArgs (top 55)) (defBody (top 55)) (defScope (top 55)) [] [] f fd) (hm : mg "check_long" = some (.ref f)) (pu : ∀ ds Q' R', ds.length = 1 → wf_check_long ds Q' R' → ws_check_long (fun e _ => R' e) (edP Q') (enP N_check_long ds)) : CalX P w K mg base 4 "check_long" ["length"] (spX K 1 wf_check_long) :=
  ⟨f, fd, fnX F sc_check_long (fun ζ R cdv A outer s H E tk hpo hr => der_check_long T C_check_between f cdv A outer s H E tk hpo hr) pu, hm, F.kp, F.bindsN (ps := ["length"]) fun _ _ _ _ _ _ us hl => match us, hl with | [_], _ => rfl⟩
/-! ### turned -/
abbrev N_turned : List Str := ["some"]
theorem sc_turned : FnScope N_turned ["some"] (defScope (top 58)) := ⟨rfl, rfl, rfl, by decide +kernel, rfl, by decide +kernel, by decide +kernel⟩
def ws_turned : WS := (wRet (wTup (wCons (wOp dIx (wVar 0) (wC (.int 1))) (wCons (wOp dIx (wVar 0) (wC (.int 0))) wNil))))
theorem der_turned (T : Tb K mg)  (f : Addr) (cdv : Value) (A : Around) (outer : List Env) (s : Shared) (H : Hp) (E : XK) (hr : Room 0 (A.deeper (envOfC "turned" (defScope (top 58)) s.heap.objs.size f cdv))) : PSs (cxOf CX0 P w K mg base N_turned "turned" (defScope (top 58)) f cdv A outer s H E).nox (defBody (top 58)) (lS K ζ ws_turned) :=
  (s_one (s_ret (d_tup (a_cons (d_ix (d_var (pv 0)) d_int) (a_cons (d_ix (d_var (pv 0)) d_int) a_nil)))))
theorem ok_turned (T : Tb K mg)  {f : Addr} {fd : FuncData} (F : FunD K "turned" "turned" (defArgs (top 58)) (defBody (top 58)) (defScope (top 58)) [] [] f fd) (hm : mg "turned" = some (.ref f)) (pu : ∀ ds Q', ds.length = 1 → wf_turned ds Q' → ws_turned (edP Q') (enP N_turned ds)) : Cal P w K mg base 1 "turned" ["some"] (spP K 1 wf_turned) :=
  ⟨f, fd, fnP F sc_turned (fun cdv A outer s H E hr => der_turned T  f cdv A outer s H E hr) pu, hm, F.kp, F.bindsN (ps := ["some"]) fun _ _ _ _ _ _ us hl => match us, hl with | [_], _ => rfl⟩
/-! ### least_for_one -/
abbrev N_least_for_one : List Str := ["s", "books"]
theorem sc_least_for_one : FnScope N_least_for_one ["s", "books"] (defScope (top 59)) := ⟨rfl, rfl, rfl, by decide +kernel, rfl, by decide +kernel, by decide +kernel⟩
def ws_least_for_one (R : Exc → En → Prop) : WS := (wRet (wIf (wB (wOp dIsN (wVar 0) (wC .none))) (wC (.tuple (([1, 1] : List Int).map .int))) (wFnX 2 wf_powers_added R (wCons (wFn 1 wf_turned (wCons (wVar 0) wNil)) (wCons (wVar 1) wNil)))))
theorem der_least_for_one {R : Exc → En → Prop} (T : Tb K mg) (C_powers_added : CalX P w K mg base 5 "powers_added" ["one", "many"] (spX K 2 wf_powers_added)) (C_turned : Cal P w K mg base 1 "turned" ["some"] (spP K 1 wf_turned)) (f : Addr) (cdv : Value) (A : Around) (outer : List Env) (s : Shared) (H : Hp) (E : XK) (tk : Takes (cxOf (L2.CX P w) P w K mg base N_least_for_one "least_for_one" (defScope (top 59)) f cdv A outer s H E) (wxOf K ζ R)) (hpo : PassesOwn (model P w) (cxOf (L2.CX P w) P w K mg base N_least_for_one "least_for_one" (defScope (top 59)) f cdv A outer s H E).A (cxOf (L2.CX P w) P w K mg base N_least_for_one "least_for_one" (defScope (top 59)) f cdv A outer s H E).env (cxOf (L2.CX P w) P w K mg base N_least_for_one "least_for_one" (defScope (top 59)) f cdv A outer s H E).xe) (hr : Room 5 (A.deeper (envOfC "least_for_one" (defScope (top 59)) s.heap.objs.size f cdv))) : PSs (cxOf (L2.CX P w) P w K mg base N_least_for_one "least_for_one" (defScope (top 59)) f cdv A outer s H E) (defBody (top 59)) (lS K ζ (ws_least_for_one R)) :=
  (s_one (s_ret (d_if (t_cmp op_isN snd_isN (d_var (pv 0)) d_non (nomark _)) (d_gtup T.u_WHOLE) (c_callX C_powers_added tk (hr.mono (by decide)) (a_cons (c_call C_turned (hr.mono (by decide)) (a_cons (d_var (pv 0)) a_nil)) (a_cons (d_var (pv 1)) a_nil))))))
theorem ok_least_for_one (T : Tb K mg) (C_powers_added : CalX P w K mg base 5 "powers_added" ["one", "many"] (spX K 2 wf_powers_added)) (C_turned : Cal P w K mg base 1 "turned" ["some"] (spP K 1 wf_turned)) {f : Addr} {fd : FuncData} (F : FunD K "least_for_one" "least_for_one" (defArgs (top 59)) (defBody (top 59)) (defScope (top 59)) [] [] f fd) (hm : mg "least_for_one" = some (.ref f)) (pu : ∀ ds Q' R', ds.length = 2 → wf_least_for_one ds Q' R' → ws_least_for_one (fun e _ => R' e) (edP Q') (enP N_least_for_one ds)) : CalX P w K mg base 6 "least_for_one" ["s", "books"] (spX K 2 wf_least_for_one) :=
  ⟨f, fd, fnX F sc_least_for_one (fun ζ R cdv A outer s H E tk hpo hr => der_least_for_one T C_powers_added C_turned f cdv A outer s H E tk hpo hr) pu, hm, F.kp, F.bindsN (ps := ["s", "books"]) fun _ _ _ _ _ _ us hl => match us, hl with | [_, _], _ => rfl⟩
/-! ### least_mean -/
abbrev N_least_mean : List Str := ["houses", "lots", "books", "length"]
theorem sc_least_mean : FnScope N_least_mean ["houses", "lots", "books", "length"] (defScope (top 63)) := ⟨rfl, rfl, rfl, by decide +kernel, rfl, by decide +kernel, by decide +kernel⟩
def ws_least_mean (R : Exc → En → Prop) : WS := (wSeq (wDrop (wFnX 2 wf_check_housed R (wCons (wVar 0) (wCons (wVar 1) wNil)))) (wSeq (wDrop (wFnX 1 wf_check_counted R (wCons (wVar 2) wNil))) (wSeq (wDrop (wFnX 1 wf_check_long R (wCons (wVar 3) wNil))) (wRet (wFn 2 wf_product_of_two (wCons (wTup (wCons (wVar 3) (wCons (wC (.int 1)) wNil))) (wCons (wFnX 2 wf_least_for_one R (wCons (wFnX 2 wf_scale_of R (wCons (wVar 0) (wCons (wVar 1) wNil))) (wCons (wVar 2) wNil))) wNil)))))))
theorem der_least_mean {R : Exc → En → Prop} (T : Tb K mg) (C_check_housed : CalX P w K mg base 6 "check_housed" ["houses", "lots"] (spX K 2 wf_check_housed)) (C_check_counted : CalX P w K mg base 4 "check_counted" ["books"] (spX K 1 wf_check_counted)) (C_check_long : CalX P w K mg base 4 "check_long" ["length"] (spX K 1 wf_check_long)) (C_product_of_two : Cal P w K mg base 2 "product_of_two" ["one", "other"] (spP K 2 wf_product_of_two)) (C_least_for_one : CalX P w K mg base 6 "least_for_one" ["s", "books"] (spX K 2 wf_least_for_one)) (C_scale_of : CalX P w K mg base 8 "scale_of" ["houses", "lots"] (spX K 2 wf_scale_of)) (f : Addr) (cdv : Value) (A : Around) (outer : List Env) (s : Shared) (H : Hp) (E : XK) (tk : Takes (cxOf (L2.CX P w) P w K mg base N_least_mean "least_mean" (defScope (top 63)) f cdv A outer s H E) (wxOf K ζ R)) (hpo : PassesOwn (model P w) (cxOf (L2.CX P w) P w K mg base N_least_mean "least_mean" (defScope (top 63)) f cdv A outer s H E).A (cxOf (L2.CX P w) P w K mg base N_least_mean "least_mean" (defScope (top 63)) f cdv A outer s H E).env (cxOf (L2.CX P w) P w K mg base N_least_mean "least_mean" (defScope (top 63)) f cdv A outer s H E).xe) (hr : Room 8 (A.deeper (envOfC "least_mean" (defScope (top 63)) s.heap.objs.size f cdv))) : PSs (cxOf (L2.CX P w) P w K mg base N_least_mean "least_mean" (defScope (top 63)) f cdv A outer s H E) (defBody (top 63)) (lS K ζ (ws_least_mean R)) :=
  (s_cons (s_expr (c_callX C_check_housed tk (hr.mono (by decide)) (a_cons (d_var (pv 0)) (a_cons (d_var (pv 1)) a_nil)))) (s_cons (s_expr (c_callX C_check_counted tk (hr.mono (by decide)) (a_cons (d_var (pv 2)) a_nil))) (s_cons (s_expr (c_callX C_check_long tk (hr.mono (by decide)) (a_cons (d_var (pv 3)) a_nil))) (s_one (s_ret (c_call C_product_of_two (hr.mono (by decide)) (a_cons (d_tup (a_cons (d_var (pv 3)) (a_cons d_int a_nil))) (a_cons (c_callX C_least_for_one tk (hr.mono (by decide)) (a_cons (c_callX C_scale_of tk (hr.mono (by decide)) (a_cons (d_var (pv 0)) (a_cons (d_var (pv 1)) a_nil))) (a_cons (d_var (pv 2)) a_nil))) a_nil))))))))
theorem ok_least_mean (T : Tb K mg) (C_check_housed : CalX P w K mg base 6 "check_housed" ["houses", "lots"] (spX K 2 wf_check_housed)) (C_check_counted : CalX P w K mg base 4 "check_counted" ["books"] (spX K 1 wf_check_counted)) (C_check_long : CalX P w K mg base 4 "check_long" ["length"] (spX K 1 wf_check_long)) (C_product_of_two : Cal P w K mg base 2 "product_of_two" ["one", "other"] (spP K 2 wf_product_of_two)) (C_least_for_one : CalX P w K mg base 6 "least_for_one" ["s", "books"] (spX K 2 wf_least_for_one)) (C_scale_of : CalX P w K mg base 8 "scale_of" ["houses", "lots"] (spX K 2 wf_scale_of)) {f : Addr} {fd : FuncData} (F : FunD K "least_mean" "least_mean" (defArgs (top 63)) (defBody (top 63)) (defScope (top 63)) [] [] f fd) (hm : mg "least_mean" = some (.ref f)) (pu : ∀ ds Q' R', ds.length = 4 → wf_least_mean ds Q' R' → ws_least_mean (fun e _ => R' e) (edP Q') (enP N_least_mean ds)) : CalX P w K mg base 9 "least_mean" ["houses", "lots", "books", "length"] (spX K 4 wf_least_mean) :=
  ⟨f, fd, fnX F sc_least_mean (fun ζ R cdv A outer s H E tk hpo hr => der_least_mean T C_check_housed C_check_counted C_check_long C_product_of_two C_least_for_one C_scale_of f cdv A outer s H E tk hpo hr) pu, hm, F.kp, F.bindsN (ps := ["houses", "lots", "books", "length"]) fun _ _ _ _ _ _ us hl => match us, hl with | [_, _, _, _], _ => rfl⟩
/-! ### less -/
abbrev N_less : List Str := ["one", "other"]
theorem sc_less : FnScope N_less ["one", "other"] (defScope (top 24)) := ⟨rfl, rfl, rfl, by decide +kernel, rfl, by decide +kernel, by decide +kernel⟩
def ws_less (R : Exc → En → Prop) : WS := (wSeq (wDrop (wFnX 2 wf_check_two R (wCons (wVar 0) (wCons (wVar 1) wNil)))) (wRet (wFn 2 wf_sum_of_two (wCons (wVar 0) (wCons (wTup (wCons (wUn dNeg (wOp dIx (wVar 1) (wC (.int 0)))) (wCons (wOp dIx (wVar 1) (wC (.int 1))) wNil))) wNil)))))
theorem der_less {R : Exc → En → Prop} (T : Tb K mg) (C_check_two : CalX P w K mg base 5 "check_two" ["one", "other"] (spX K 2 wf_check_two)) (C_sum_of_two : Cal P w K mg base 2 "sum_of_two" ["one", "other"] (spP K 2 wf_sum_of_two)) (f : Addr) (cdv : Value) (A : Around) (outer : List Env) (s : Shared) (H : Hp) (E : XK) (tk : Takes (cxOf (L2.CX P w) P w K mg base N_less "less" (defScope (top 24)) f cdv A outer s H E) (wxOf K ζ R)) (hpo : PassesOwn (model P w) (cxOf (L2.CX P w) P w K mg base N_less "less" (defScope (top 24)) f cdv A outer s H E).A (cxOf (L2.CX P w) P w K mg base N_less "less" (defScope (top 24)) f cdv A outer s H E).env (cxOf (L2.CX P w) P w K mg base N_less "less" (defScope (top 24)) f cdv A outer s H E).xe) (hr : Room 5 (A.deeper (envOfC "less" (defScope (top 24)) s.heap.objs.size f cdv))) : PSs (cxOf (L2.CX P w) P w K mg base N_less "less" (defScope (top 24)) f cdv A outer s H E) (defBody (top 24)) (lS K ζ (ws_less R)) :=
  (s_cons (s_expr (c_callX C_check_two tk (hr.mono (by decide)) (a_cons (d_var (pv 0)) (a_cons (d_var (pv 1)) a_nil)))) (s_one (s_ret (c_call C_sum_of_two (hr.mono (by decide)) (a_cons (d_var (pv 0)) (a_cons (d_tup (a_cons (d_un un_neg snd_neg (d_ix (d_var (pv 1)) d_int)) (a_cons (d_ix (d_var (pv 1)) d_int) a_nil))) a_nil))))))
theorem ok_less (T : Tb K mg) (C_check_two : CalX P w K mg base 5 "check_two" ["one", "other"] (spX K 2 wf_check_two)) (C_sum_of_two : Cal P w K mg base 2 "sum_of_two" ["one", "other"] (spP K 2 wf_sum_of_two)) {f : Addr} {fd : FuncData} (F : FunD K "less" "less" (defArgs (top 24)) (defBody (top 24)) (defScope (top 24)) [] [] f fd) (hm : mg "less" = some (.ref f)) (pu : ∀ ds Q' R', ds.length = 2 → wf_less ds Q' R' → ws_less (fun e _ => R' e) (edP Q') (enP N_less ds)) : CalX P w K mg base 6 "less" ["one", "other"] (spX K 2 wf_less) :=
  ⟨f, fd, fnX F sc_less (fun ζ R cdv A outer s H E tk hpo hr => der_less T C_check_two C_sum_of_two f cdv A outer s H E tk hpo hr) pu, hm, F.kp, F.bindsN (ps := ["one", "other"]) fun _ _ _ _ _ _ us hl => match us, hl with | [_, _], _ => rfl⟩
/-! ### plus -/
abbrev N_plus : List Str := ["one", "other"]
theorem sc_plus : FnScope N_plus ["one", "other"] (defScope (top 23)) := ⟨rfl, rfl, rfl, by decide +kernel, rfl, by decide +kernel, by decide +kernel⟩
def ws_plus (R : Exc → En → Prop) : WS := (wSeq (wDrop (wFnX 2 wf_check_two R (wCons (wVar 0) (wCons (wVar 1) wNil)))) (wRet (wFn 2 wf_sum_of_two (wCons (wVar 0) (wCons (wVar 1) wNil)))))
theorem der_plus {R : Exc → En → Prop} (T : Tb K mg) (C_check_two : CalX P w K mg base 5 "check_two" ["one", "other"] (spX K 2 wf_check_two)) (C_sum_of_two : Cal P w K mg base 2 "sum_of_two" ["one", "other"] (spP K 2 wf_sum_of_two)) (f : Addr) (cdv : Value) (A : Around) (outer : List Env) (s : Shared) (H : Hp) (E : XK) (tk : Takes (cxOf (L2.CX P w) P w K mg base N_plus "plus" (defScope (top 23)) f cdv A outer s H E) (wxOf K ζ R)) (hpo : PassesOwn (model P w) (cxOf (L2.CX P w) P w K mg base N_plus "plus" (defScope (top 23)) f cdv A outer s H E).A (cxOf (L2.CX P w) P w K mg base N_plus "plus" (defScope (top 23)) f cdv A outer s H E).env (cxOf (L2.CX P w) P w K mg base N_plus "plus" (defScope (top 23)) f cdv A outer s H E).xe) (hr : Room 5 (A.deeper (envOfC "plus" (defScope (top 23)) s.heap.objs.size f cdv))) : PSs (cxOf (L2.CX P w) P w K mg base N_plus "plus" (defScope (top 23)) f cdv A outer s H E) (defBody (top 23)) (lS K ζ (ws_plus R)) :=
  (s_cons (s_expr (c_callX C_check_two tk (hr.mono (by decide)) (a_cons (d_var (pv 0)) (a_cons (d_var (pv 1)) a_nil)))) (s_one (s_ret (c_call C_sum_of_two (hr.mono (by decide)) (a_cons (d_var (pv 0)) (a_cons (d_var (pv 1)) a_nil))))))
theorem ok_plus (T : Tb K mg) (C_check_two : CalX P w K mg base 5 "check_two" ["one", "other"] (spX K 2 wf_check_two)) (C_sum_of_two : Cal P w K mg base 2 "sum_of_two" ["one", "other"] (spP K 2 wf_sum_of_two)) {f : Addr} {fd : FuncData} (F : FunD K "plus" "plus" (defArgs (top 23)) (defBody (top 23)) (defScope (top 23)) [] [] f fd) (hm : mg "plus" = some (.ref f)) (pu : ∀ ds Q' R', ds.length = 2 → wf_plus ds Q' R' → ws_plus (fun e _ => R' e) (edP Q') (enP N_plus ds)) : CalX P w K mg base 6 "plus" ["one", "other"] (spX K 2 wf_plus) :=
  ⟨f, fd, fnX F sc_plus (fun ζ R cdv A outer s H E tk hpo hr => der_plus T C_check_two C_sum_of_two f cdv A outer s H E tk hpo hr) pu, hm, F.kp, F.bindsN (ps := ["one", "other"]) fun _ _ _ _ _ _ us hl => match us, hl with | [_, _], _ => rfl⟩
/-! ### check_not_all -/
abbrev N_check_not_all : List Str := ["s"]
theorem sc_check_not_all : FnScope N_check_not_all ["s"] (defScope (top 56)) := ⟨rfl, rfl, rfl, by decide +kernel, rfl, by decide +kernel, by decide +kernel⟩
def ws_check_not_all (R : Exc → En → Prop) : WS := (wIfS (wB (wOp dEq (wVar 0) (wC (.tuple (([1, 1] : List Int).map .int))))) (wRaiseF R "Refused" "reason" (wTup (wCons (wC (.str "all")) wNil))) wNext)
theorem der_check_not_all {R : Exc → En → Prop} (T : Tb K mg) (C_Refused___init__ : ExfC P w K mg base "Refused" "reason") (f : Addr) (cdv : Value) (A : Around) (outer : List Env) (s : Shared) (H : Hp) (E : XK) (tk : Takes (cxOf (L2.CX P w) P w K mg base N_check_not_all "check_not_all" (defScope (top 56)) f cdv A outer s H E) (wxOf K ζ R)) (hpo : PassesOwn (model P w) (cxOf (L2.CX P w) P w K mg base N_check_not_all "check_not_all" (defScope (top 56)) f cdv A outer s H E).A (cxOf (L2.CX P w) P w K mg base N_check_not_all "check_not_all" (defScope (top 56)) f cdv A outer s H E).env (cxOf (L2.CX P w) P w K mg base N_check_not_all "check_not_all" (defScope (top 56)) f cdv A outer s H E).xe) (hr : Room 2 (A.deeper (envOfC "check_not_all" (defScope (top 56)) s.heap.objs.size f cdv))) : PSs (cxOf (L2.CX P w) P w K mg base N_check_not_all "check_not_all" (defScope (top 56)) f cdv A outer s H E) (defBody (top 56)) (lS K ζ (ws_check_not_all R)) :=
  (s_one (s_if (t_cmp (op_eqD hr.units) snd_eq (d_var (pv 0)) (d_gtup T.u_WHOLE) (nomark _)) (s_one (s_raiseF C_Refused___init__ rfl (hr.mono (by decide)) tk (d_tup (a_cons d_str a_nil)))) s_nil))
theorem ok_check_not_all (T : Tb K mg) (C_Refused___init__ : ExfC P w K mg base "Refused" "reason") {f : Addr} {fd : FuncData} (F : FunD K "check_not_all" "check_not_all" (defArgs (top 56)) (defBody (top 56)) (defScope (top 56)) [] [] f fd) (hm : mg "check_not_all" = some (.ref f)) (pu : ∀ ds Q' R', ds.length = 1 → wf_check_not_all ds Q' R' → ws_check_not_all (fun e _ => R' e) (edP Q') (enP N_check_not_all ds)) : CalX P w K mg base 3 "check_not_all" ["s"] (spX K 1 wf_check_not_all) :=
  ⟨f, fd, fnX F sc_check_not_all (fun ζ R cdv A outer s H E tk hpo hr => der_check_not_all T C_Refused___init__ f cdv A outer s H E tk hpo hr) pu, hm, F.kp, F.bindsN (ps := ["s"]) fun _ _ _ _ _ _ us hl => match us, hl with | [_], _ => rfl⟩
/-! ### shared_for_one -/
abbrev N_shared_for_one : List Str := ["s"]
theorem sc_shared_for_one : FnScope N_shared_for_one ["s"] (defScope (top 60)) := ⟨rfl, rfl, rfl, by decide +kernel, rfl, by decide +kernel, by decide +kernel⟩
def ws_shared_for_one : WS := (wRet (wFn 1 wf_turned (wCons (wFn 2 wf_sum_of_two (wCons (wVar 0) (wCons (wTup (wCons (wUn dNeg (wC (.int 1))) (wCons (wC (.int 1)) wNil))) wNil))) wNil)))
theorem der_shared_for_one (T : Tb K mg) (C_turned : Cal P w K mg base 1 "turned" ["some"] (spP K 1 wf_turned)) (C_sum_of_two : Cal P w K mg base 2 "sum_of_two" ["one", "other"] (spP K 2 wf_sum_of_two)) (f : Addr) (cdv : Value) (A : Around) (outer : List Env) (s : Shared) (H : Hp) (E : XK) (hr : Room 2 (A.deeper (envOfC "shared_for_one" (defScope (top 60)) s.heap.objs.size f cdv))) : PSs (cxOf CX0 P w K mg base N_shared_for_one "shared_for_one" (defScope (top 60)) f cdv A outer s H E).nox (defBody (top 60)) (lS K ζ ws_shared_for_one) :=
  (s_one (s_ret (c_call C_turned (hr.mono (by decide)) (a_cons (c_call C_sum_of_two (hr.mono (by decide)) (a_cons (d_var (pv 0)) (a_cons (d_tup (a_cons (d_un un_neg snd_neg d_int) (a_cons d_int a_nil))) a_nil))) a_nil))))
theorem ok_shared_for_one (T : Tb K mg) (C_turned : Cal P w K mg base 1 "turned" ["some"] (spP K 1 wf_turned)) (C_sum_of_two : Cal P w K mg base 2 "sum_of_two" ["one", "other"] (spP K 2 wf_sum_of_two)) {f : Addr} {fd : FuncData} (F : FunD K "shared_for_one" "shared_for_one" (defArgs (top 60)) (defBody (top 60)) (defScope (top 60)) [] [] f fd) (hm : mg "shared_for_one" = some (.ref f)) (pu : ∀ ds Q', ds.length = 1 → wf_shared_for_one ds Q' → ws_shared_for_one (edP Q') (enP N_shared_for_one ds)) : Cal P w K mg base 3 "shared_for_one" ["s"] (spP K 1 wf_shared_for_one) :=
  ⟨f, fd, fnP F sc_shared_for_one (fun cdv A outer s H E hr => der_shared_for_one T C_turned C_sum_of_two f cdv A outer s H E hr) pu, hm, F.kp, F.bindsN (ps := ["s"]) fun _ _ _ _ _ _ us hl => match us, hl with | [_], _ => rfl⟩
/-! ### gap_of -/
abbrev N_gap_of : List Str := ["s", "books", "length", "left", "_"]
theorem sc_gap_of : FnScope N_gap_of ["s", "books", "length"] (defScope (top 61)) := ⟨rfl, rfl, rfl, by decide +kernel, rfl, by decide +kernel, by decide +kernel⟩
def ws_gap_of : WS := (wSeq (wIfS (wB (wOp dIsN (wVar 0) (wC .none))) (wRet (wC (.tuple (([0, 1] : List Int).map .int)))) wNext) (wSeq (wSet 3 (wFn 2 wf_product_of_two (wCons (wTup (wCons (wVar 2) (wCons (wC (.int 1)) wNil))) (wCons (wFn 1 wf_shared_for_one (wCons (wVar 0) wNil)) wNil)))) (wSeq (wFor (wRg1 (wCons (wOp dSub (wVar 1) (wC (.int 1))) wNil)) (wgN 4) (wSet 3 (wFn 2 wf_product_of_two (wCons (wVar 3) (wCons (wFn 1 wf_turned (wCons (wVar 0) wNil)) wNil))))) (wRet (wVar 3)))))
theorem der_gap_of (T : Tb K mg) (C_product_of_two : Cal P w K mg base 2 "product_of_two" ["one", "other"] (spP K 2 wf_product_of_two)) (C_shared_for_one : Cal P w K mg base 3 "shared_for_one" ["s"] (spP K 1 wf_shared_for_one)) (C_turned : Cal P w K mg base 1 "turned" ["some"] (spP K 1 wf_turned)) (f : Addr) (cdv : Value) (A : Around) (outer : List Env) (s : Shared) (H : Hp) (E : XK) (hr : Room 3 (A.deeper (envOfC "gap_of" (defScope (top 61)) s.heap.objs.size f cdv))) : PSs (cxOf CX0 P w K mg base N_gap_of "gap_of" (defScope (top 61)) f cdv A outer s H E).nox (defBody (top 61)) (lS K ζ ws_gap_of) :=
  (s_cons (s_if (t_cmp op_isN snd_isN (d_var (pv 0)) d_non (nomark _)) (s_one (s_ret (d_gtup T.u_NONE))) s_nil) (s_cons (s_set (i := 3) sc_gap_of.nd rfl (by first | exact Or.inl rfl | exact Or.inr rfl) (c_call C_product_of_two (hr.mono (by decide)) (a_cons (d_tup (a_cons (d_var (pv 2)) (a_cons d_int a_nil))) (a_cons (c_call C_shared_for_one (hr.mono (by decide)) (a_cons (d_var (pv 0)) a_nil)) a_nil)))) (s_cons (s_for PassesOwn.never rfl (i_rng1 T.b_range (a_cons (d_op op_sub snd_sub (d_var (pv 1)) d_int) a_nil)) (g_name (i := 4) sc_gap_of.nd rfl (by first | exact Or.inl rfl | exact Or.inr rfl)) (s_one (s_set (i := 3) sc_gap_of.nd rfl (by first | exact Or.inl rfl | exact Or.inr rfl) (c_call C_product_of_two (hr.mono (by decide)) (a_cons (d_var (pv 3)) (a_cons (c_call C_turned (hr.mono (by decide)) (a_cons (d_var (pv 0)) a_nil)) a_nil)))))) (s_one (s_ret (d_var (pv 3)))))))
theorem ok_gap_of (T : Tb K mg) (C_product_of_two : Cal P w K mg base 2 "product_of_two" ["one", "other"] (spP K 2 wf_product_of_two)) (C_shared_for_one : Cal P w K mg base 3 "shared_for_one" ["s"] (spP K 1 wf_shared_for_one)) (C_turned : Cal P w K mg base 1 "turned" ["some"] (spP K 1 wf_turned)) {f : Addr} {fd : FuncData} (F : FunD K "gap_of" "gap_of" (defArgs (top 61)) (defBody (top 61)) (defScope (top 61)) [] [] f fd) (hm : mg "gap_of" = some (.ref f)) (pu : ∀ ds Q', ds.length = 3 → wf_gap_of ds Q' → ws_gap_of (edP Q') (enP N_gap_of ds)) : Cal P w K mg base 4 "gap_of" ["s", "books", "length"] (spP K 3 wf_gap_of) :=
  ⟨f, fd, fnP F sc_gap_of (fun cdv A outer s H E hr => der_gap_of T C_product_of_two C_shared_for_one C_turned f cdv A outer s H E hr) pu, hm, F.kp, F.bindsN (ps := ["s", "books", "length"]) fun _ _ _ _ _ _ us hl => match us, hl with | [_, _, _], _ => rfl⟩
/-! ### gap -/
abbrev N_gap : List Str := ["houses", "lots", "books", "length", "s"]
theorem sc_gap : FnScope N_gap ["houses", "lots", "books", "length"] (defScope (top 64)) := ⟨rfl, rfl, rfl, by decide +kernel, rfl, by decide +kernel, by decide +kernel⟩
def ws_gap (R : Exc → En → Prop) : WS := (wSeq (wDrop (wFnX 2 wf_check_housed R (wCons (wVar 0) (wCons (wVar 1) wNil)))) (wSeq (wDrop (wFnX 1 wf_check_counted R (wCons (wVar 2) wNil))) (wSeq (wDrop (wFnX 1 wf_check_long R (wCons (wVar 3) wNil))) (wSeq (wSet 4 (wFnX 2 wf_scale_of R (wCons (wVar 0) (wCons (wVar 1) wNil)))) (wSeq (wDrop (wFnX 1 wf_check_not_all R (wCons (wVar 4) wNil))) (wRet (wFn 3 wf_gap_of (wCons (wVar 4) (wCons (wVar 2) (wCons (wVar 3) wNil))))))))))
theorem der_gap {R : Exc → En → Prop} (T : Tb K mg) (C_check_housed : CalX P w K mg base 6 "check_housed" ["houses", "lots"] (spX K 2 wf_check_housed)) (C_check_counted : CalX P w K mg base 4 "check_counted" ["books"] (spX K 1 wf_check_counted)) (C_check_long : CalX P w K mg base 4 "check_long" ["length"] (spX K 1 wf_check_long)) (C_scale_of : CalX P w K mg base 8 "scale_of" ["houses", "lots"] (spX K 2 wf_scale_of)) (C_check_not_all : CalX P w K mg base 3 "check_not_all" ["s"] (spX K 1 wf_check_not_all)) (C_gap_of : Cal P w K mg base 4 "gap_of" ["s", "books", "length"] (spP K 3 wf_gap_of)) (f : Addr) (cdv : Value) (A : Around) (outer : List Env) (s : Shared) (H : Hp) (E : XK) (tk : Takes (cxOf (L2.CX P w) P w K mg base N_gap "gap" (defScope (top 64)) f cdv A outer s H E) (wxOf K ζ R)) (hpo : PassesOwn (model P w) (cxOf (L2.CX P w) P w K mg base N_gap "gap" (defScope (top 64)) f cdv A outer s H E).A (cxOf (L2.CX P w) P w K mg base N_gap "gap" (defScope (top 64)) f cdv A outer s H E).env (cxOf (L2.CX P w) P w K mg base N_gap "gap" (defScope (top 64)) f cdv A outer s H E).xe) (hr : Room 8 (A.deeper (envOfC "gap" (defScope (top 64)) s.heap.objs.size f cdv))) : PSs (cxOf (L2.CX P w) P w K mg base N_gap "gap" (defScope (top 64)) f cdv A outer s H E) (defBody (top 64)) (lS K ζ (ws_gap R)) :=
  (s_cons (s_expr (c_callX C_check_housed tk (hr.mono (by decide)) (a_cons (d_var (pv 0)) (a_cons (d_var (pv 1)) a_nil)))) (s_cons (s_expr (c_callX C_check_counted tk (hr.mono (by decide)) (a_cons (d_var (pv 2)) a_nil))) (s_cons (s_expr (c_callX C_check_long tk (hr.mono (by decide)) (a_cons (d_var (pv 3)) a_nil))) (s_cons (s_set (i := 4) sc_gap.nd rfl (by first | exact Or.inl rfl | exact Or.inr rfl) (c_callX C_scale_of tk (hr.mono (by decide)) (a_cons (d_var (pv 0)) (a_cons (d_var (pv 1)) a_nil)))) (s_cons (s_expr (c_callX C_check_not_all tk (hr.mono (by decide)) (a_cons (d_var (pv 4)) a_nil))) (s_one (s_ret (c_call C_gap_of (hr.mono (by decide)) (a_cons (d_var (pv 4)) (a_cons (d_var (pv 2)) (a_cons (d_var (pv 3)) a_nil)))))))))))
theorem ok_gap (T : Tb K mg) (C_check_housed : CalX P w K mg base 6 "check_housed" ["houses", "lots"] (spX K 2 wf_check_housed)) (C_check_counted : CalX P w K mg base 4 "check_counted" ["books"] (spX K 1 wf_check_counted)) (C_check_long : CalX P w K mg base 4 "check_long" ["length"] (spX K 1 wf_check_long)) (C_scale_of : CalX P w K mg base 8 "scale_of" ["houses", "lots"] (spX K 2 wf_scale_of)) (C_check_not_all : CalX P w K mg base 3 "check_not_all" ["s"] (spX K 1 wf_check_not_all)) (C_gap_of : Cal P w K mg base 4 "gap_of" ["s", "books", "length"] (spP K 3 wf_gap_of)) {f : Addr} {fd : FuncData} (F : FunD K "gap" "gap" (defArgs (top 64)) (defBody (top 64)) (defScope (top 64)) [] [] f fd) (hm : mg "gap" = some (.ref f)) (pu : ∀ ds Q' R', ds.length = 4 → wf_gap ds Q' R' → ws_gap (fun e _ => R' e) (edP Q') (enP N_gap ds)) : CalX P w K mg base 9 "gap" ["houses", "lots", "books", "length"] (spX K 4 wf_gap) :=
  ⟨f, fd, fnX F sc_gap (fun ζ R cdv A outer s H E tk hpo hr => der_gap T C_check_housed C_check_counted C_check_long C_scale_of C_check_not_all C_gap_of f cdv A outer s H E tk hpo hr) pu, hm, F.kp, F.bindsN (ps := ["houses", "lots", "books", "length"]) fun _ _ _ _ _ _ us hl => match us, hl with | [_, _, _, _], _ => rfl⟩
/-! ### _law_bounds_right -/
abbrev N__law_bounds_right : List Str := ["jug", "houses", "books", "length", "lots", "told", "shrunk", "due", "whole", "house"]
theorem sc__law_bounds_right : FnScope N__law_bounds_right ["jug"] (defScope (top 76)) := ⟨rfl, rfl, rfl, by decide +kernel, rfl, by decide +kernel, by decide +kernel⟩
def ws__law_bounds_right : WS := (wSeq (wPar3 1 2 3 (wOp dAdd (wC (.int 2)) (wFnJ 0 2 wf__law_pour (wCons (wC (.int 5)) wNil))) (wOp dAdd (wC (.int 1)) (wFnJ 0 2 wf__law_pour (wCons (wC (.int 6)) wNil))) (wOp dAdd (wC (.int 1)) (wFnJ 0 2 wf__law_pour (wCons (wC (.int 20)) wNil)))) (wSeq (wSet 4 (wCl dTupOf (wCons (wLe (wLc (wRg1 (wCons (wVar 1) wNil)) (wgN 9) wYes (wTup (wCons (wVar 9) wNil)) [9])) wNil))) (wSeq (wSet 5 (wFnX 2 wf_scale (fun _ _ => False) (wCons (wVar 1) (wCons (wVar 4) wNil)))) (wSeq (wSet 6 (wFnX 2 wf_over (fun _ _ => False) (wCons (wTup (wCons (wC (.int 1)) (wCons (wC (.int 1)) wNil))) (wCons (wVar 5) wNil)))) (wSeq (wSet 7 (wFn 2 wf__law_fu_times (wCons (wTup (wCons (wVar 3) (wCons (wC (.int 1)) wNil))) (wCons (wFnX 2 wf_powers_added (fun _ _ => False) (wCons (wVar 6) (wCons (wVar 2) wNil))) wNil)))) (wSeq (wIfS (wOr (wB (wOp dNe (wVar 5) (wTup (wCons (wVar 1) (wCons (wC (.int 1)) wNil))))) (wB (wOp dNe (wFnX 4 wf_least_mean (fun _ _ => False) (wCons (wVar 1) (wCons (wVar 4) (wCons (wVar 2) (wCons (wVar 3) wNil))))) (wVar 7)))) (wRet (wC (.bool false))) wNext) (wSeq (wSet 8 (wFnX 2 wf_over (fun _ _ => False) (wCons (wTup (wCons (wVar 3) (wCons (wC (.int 1)) wNil))) (wCons (wFnX 2 wf_less (fun _ _ => False) (wCons (wTup (wCons (wC (.int 1)) (wCons (wC (.int 1)) wNil))) (wCons (wVar 6) wNil))) wNil)))) (wRet (wOp dEq (wFnX 2 wf_plus (fun _ _ => False) (wCons (wFnX 4 wf_least_mean (fun _ _ => False) (wCons (wVar 1) (wCons (wVar 4) (wCons (wVar 2) (wCons (wVar 3) wNil))))) (wCons (wFnX 4 wf_gap (fun _ _ => False) (wCons (wVar 1) (wCons (wVar 4) (wCons (wVar 2) (wCons (wVar 3) wNil))))) wNil))) (wVar 8))))))))))
theorem der__law_bounds_right (T : Tb K mg) (C__law_pour : Cal P w K mg base 1 "_law_pour" ["jug", "total"] (spJ K 2 wf__law_pour)) (C_scale : CalX P w K mg base 9 "scale" ["houses", "lots"] (spX K 2 wf_scale)) (C_over : CalX P w K mg base 6 "over" ["one", "other"] (spX K 2 wf_over)) (C__law_fu_times : Cal P w K mg base 3 "_law_fu_times" ["one", "other"] (spP K 2 wf__law_fu_times)) (C_powers_added : CalX P w K mg base 5 "powers_added" ["one", "many"] (spX K 2 wf_powers_added)) (C_least_mean : CalX P w K mg base 9 "least_mean" ["houses", "lots", "books", "length"] (spX K 4 wf_least_mean)) (C_less : CalX P w K mg base 6 "less" ["one", "other"] (spX K 2 wf_less)) (C_plus : CalX P w K mg base 6 "plus" ["one", "other"] (spX K 2 wf_plus)) (C_gap : CalX P w K mg base 9 "gap" ["houses", "lots", "books", "length"] (spX K 4 wf_gap)) (f : Addr) (cdv : Value) (A : Around) (outer : List Env) (s : Shared) (H : Hp) (E : XK) (hr : Room 9 (A.deeper (envOfC "_law_bounds_right" (defScope (top 76)) s.heap.objs.size f cdv))) : PSs (cxOf CX0 P w K mg base N__law_bounds_right "_law_bounds_right" (defScope (top 76)) f cdv A outer s H E).nox (defBody (top 76)) (lS K ζ ws__law_bounds_right) :=
  (s_cons (s_par3 (ps_par3 (i := 1) (j := 2) (l := 3) rfl sc__law_bounds_right.nd rfl rfl rfl (by decide) (by decide) (by decide) rfl rfl rfl (pa_cons (d_op op_addD snd_add d_int (c_callJ (i := 0) C__law_pour (hr.mono (by decide)) (pv 0) (a_cons d_int a_nil))) (pa_cons (d_op op_addD snd_add d_int (c_callJ (i := 0) C__law_pour (hr.mono (by decide)) (pv 0) (a_cons d_int a_nil))) (pa_cons (d_op op_addD snd_add d_int (c_callJ (i := 0) C__law_pour (hr.mono (by decide)) (pv 0) (a_cons d_int a_nil))) pa_nil))) (by rfl))) (s_cons (s_set (i := 4) sc__law_bounds_right.nd rfl (by first | exact Or.inl rfl | exact Or.inr rfl) (d_cty call_tuple_of snd_tupOf T.b_tuple (by decide +kernel) (a_cons (d_lL (l_lc (own := [("house", 9)]) rfl sc__law_bounds_right.nd (i_rng1 T.b_range (a_cons (d_var (pv 1)) a_nil)) (blkOk_by (N := N__law_bounds_right) (sc := (defScope (top 76))) (by decide +kernel)) (fun _ _ _ _ _ => (g_name (i := 9) sc__law_bounds_right.nd rfl (by first | exact Or.inl rfl | exact Or.inr rfl))) (fun _ _ _ _ _ => ts_nil) (fun _ _ _ _ _ => (d_tup (a_cons (d_var (pv 9)) a_nil))))) a_nil))) (s_cons (s_set (i := 5) sc__law_bounds_right.nd rfl (by first | exact Or.inl rfl | exact Or.inr rfl) (c_callXN C_scale (hr.mono (by decide)) (a_cons (d_var (pv 1)) (a_cons (d_var (pv 4)) a_nil)))) (s_cons (s_set (i := 6) sc__law_bounds_right.nd rfl (by first | exact Or.inl rfl | exact Or.inr rfl) (c_callXN C_over (hr.mono (by decide)) (a_cons (d_tup (a_cons d_int (a_cons d_int a_nil))) (a_cons (d_var (pv 5)) a_nil)))) (s_cons (s_set (i := 7) sc__law_bounds_right.nd rfl (by first | exact Or.inl rfl | exact Or.inr rfl) (c_call C__law_fu_times (hr.mono (by decide)) (a_cons (d_tup (a_cons (d_var (pv 3)) (a_cons d_int a_nil))) (a_cons (c_callXN C_powers_added (hr.mono (by decide)) (a_cons (d_var (pv 6)) (a_cons (d_var (pv 2)) a_nil))) a_nil)))) (s_cons (s_if (PW.pt (t_or (t_cmp (op_neD hr.units) snd_ne (d_var (pv 5)) (d_tup (a_cons (d_var (pv 1)) (a_cons d_int a_nil))) (nomark _)) (t_or1 (t_cmp (op_neD hr.units) snd_ne (c_callXN C_least_mean (hr.mono (by decide)) (a_cons (d_var (pv 1)) (a_cons (d_var (pv 4)) (a_cons (d_var (pv 2)) (a_cons (d_var (pv 3)) a_nil))))) (d_var (pv 7)) (nomark _))))) (s_one (s_ret d_bl)) s_nil) (s_cons (s_set (i := 8) sc__law_bounds_right.nd rfl (by first | exact Or.inl rfl | exact Or.inr rfl) (c_callXN C_over (hr.mono (by decide)) (a_cons (d_tup (a_cons (d_var (pv 3)) (a_cons d_int a_nil))) (a_cons (c_callXN C_less (hr.mono (by decide)) (a_cons (d_tup (a_cons d_int (a_cons d_int a_nil))) (a_cons (d_var (pv 6)) a_nil))) a_nil)))) (s_one (s_ret (d_cmp (op_eqD hr.units) snd_eq (c_callXN C_plus (hr.mono (by decide)) (a_cons (c_callXN C_least_mean (hr.mono (by decide)) (a_cons (d_var (pv 1)) (a_cons (d_var (pv 4)) (a_cons (d_var (pv 2)) (a_cons (d_var (pv 3)) a_nil))))) (a_cons (c_callXN C_gap (hr.mono (by decide)) (a_cons (d_var (pv 1)) (a_cons (d_var (pv 4)) (a_cons (d_var (pv 2)) (a_cons (d_var (pv 3)) a_nil))))) a_nil))) (d_var (pv 8)) (nomark _)))))))))))
theorem ok__law_bounds_right (T : Tb K mg) (C__law_pour : Cal P w K mg base 1 "_law_pour" ["jug", "total"] (spJ K 2 wf__law_pour)) (C_scale : CalX P w K mg base 9 "scale" ["houses", "lots"] (spX K 2 wf_scale)) (C_over : CalX P w K mg base 6 "over" ["one", "other"] (spX K 2 wf_over)) (C__law_fu_times : Cal P w K mg base 3 "_law_fu_times" ["one", "other"] (spP K 2 wf__law_fu_times)) (C_powers_added : CalX P w K mg base 5 "powers_added" ["one", "many"] (spX K 2 wf_powers_added)) (C_least_mean : CalX P w K mg base 9 "least_mean" ["houses", "lots", "books", "length"] (spX K 4 wf_least_mean)) (C_less : CalX P w K mg base 6 "less" ["one", "other"] (spX K 2 wf_less)) (C_plus : CalX P w K mg base 6 "plus" ["one", "other"] (spX K 2 wf_plus)) (C_gap : CalX P w K mg base 9 "gap" ["houses", "lots", "books", "length"] (spX K 4 wf_gap)) {f : Addr} {fd : FuncData} (F : FunD K "_law_bounds_right" "_law_bounds_right" (defArgs (top 76)) (defBody (top 76)) (defScope (top 76)) [] [] f fd) (hm : mg "_law_bounds_right" = some (.ref f)) (pu : ∀ dj ds Q', ds.length + 1 = 1 → wf__law_bounds_right dj ds Q' → ws__law_bounds_right (edJ Q') (enJ N__law_bounds_right dj ds)) : Cal P w K mg base 10 "_law_bounds_right" ["jug"] (spJ K 1 wf__law_bounds_right) :=
  ⟨f, fd, fnJ F sc__law_bounds_right rfl (fun cdv A outer s H E hr => der__law_bounds_right T C__law_pour C_scale C_over C__law_fu_times C_powers_added C_least_mean C_less C_plus C_gap f cdv A outer s H E hr) pu, hm, F.kp, F.bindsN (ps := ["jug"]) fun _ _ _ _ _ _ us hl => match us, hl with | [_], _ => rfl⟩
/-! ### _law_sip -/
abbrev N__law_sip : List Str := ["jug", "items"]
theorem sc__law_sip : FnScope N__law_sip ["jug", "items"] (defScope (top 68)) := ⟨rfl, rfl, rfl, by decide +kernel, rfl, by decide +kernel, by decide +kernel⟩
def ws__law_sip : WS := (wRet (wOp dIx (wVar 1) (wFnJ 0 2 wf__law_pour (wCons (wCl dLen (wCons (wVar 1) wNil)) wNil))))
theorem der__law_sip (T : Tb K mg) (C__law_pour : Cal P w K mg base 1 "_law_pour" ["jug", "total"] (spJ K 2 wf__law_pour)) (f : Addr) (cdv : Value) (A : Around) (outer : List Env) (s : Shared) (H : Hp) (E : XK) (hr : Room 1 (A.deeper (envOfC "_law_sip" (defScope (top 68)) s.heap.objs.size f cdv))) : PSs (cxOf CX0 P w K mg base N__law_sip "_law_sip" (defScope (top 68)) f cdv A outer s H E).nox (defBody (top 68)) (lS K ζ ws__law_sip) :=
  (s_one (s_ret (d_ix (d_var (pv 1)) (c_callJ (i := 0) C__law_pour (hr.mono (by decide)) (pv 0) (a_cons (d_cb call_len snd_len T.b_len (by decide +kernel) (a_cons (d_var (pv 1)) a_nil)) a_nil)))))
theorem ok__law_sip (T : Tb K mg) (C__law_pour : Cal P w K mg base 1 "_law_pour" ["jug", "total"] (spJ K 2 wf__law_pour)) {f : Addr} {fd : FuncData} (F : FunD K "_law_sip" "_law_sip" (defArgs (top 68)) (defBody (top 68)) (defScope (top 68)) [] [] f fd) (hm : mg "_law_sip" = some (.ref f)) (pu : ∀ dj ds Q', ds.length + 1 = 2 → wf__law_sip dj ds Q' → ws__law_sip (edJ Q') (enJ N__law_sip dj ds)) : Cal P w K mg base 2 "_law_sip" ["jug", "items"] (spJ K 2 wf__law_sip) :=
  ⟨f, fd, fnJ F sc__law_sip rfl (fun cdv A outer s H E hr => der__law_sip T C__law_pour f cdv A outer s H E hr) pu, hm, F.kp, F.bindsN (ps := ["jug", "items"]) fun _ _ _ _ _ _ us hl => match us, hl with | [_, _], _ => rfl⟩
/-! ### _law_ta_fraction -/
abbrev N__law_ta_fraction : List Str := ["jug", "size"]
theorem sc__law_ta_fraction : FnScope N__law_ta_fraction ["jug", "size"] (defScope (top 73)) := ⟨rfl, rfl, rfl, by decide +kernel, rfl, by decide +kernel, by decide +kernel⟩
def ws__law_ta_fraction : WS := (wRet (wFn 2 wf__law_fu_part (wCons (wOp dSub (wFnJ 0 2 wf__law_pour (wCons (wOp dAdd (wOp dMul (wC (.int 2)) (wVar 1)) (wC (.int 1))) wNil)) (wVar 1)) (wCons (wOp dAdd (wC (.int 1)) (wFnJ 0 2 wf__law_pour (wCons (wVar 1) wNil))) wNil))))
theorem der__law_ta_fraction (T : Tb K mg) (C__law_fu_part : Cal P w K mg base 2 "_law_fu_part" ["top", "bottom"] (spP K 2 wf__law_fu_part)) (C__law_pour : Cal P w K mg base 1 "_law_pour" ["jug", "total"] (spJ K 2 wf__law_pour)) (f : Addr) (cdv : Value) (A : Around) (outer : List Env) (s : Shared) (H : Hp) (E : XK) (hr : Room 2 (A.deeper (envOfC "_law_ta_fraction" (defScope (top 73)) s.heap.objs.size f cdv))) : PSs (cxOf CX0 P w K mg base N__law_ta_fraction "_law_ta_fraction" (defScope (top 73)) f cdv A outer s H E).nox (defBody (top 73)) (lS K ζ ws__law_ta_fraction) :=
  (s_one (s_ret (c_call C__law_fu_part (hr.mono (by decide)) (a_cons (d_op op_sub snd_sub (c_callJ (i := 0) C__law_pour (hr.mono (by decide)) (pv 0) (a_cons (d_op op_addD snd_add (d_op op_mulD snd_mul d_int (d_var (pv 1))) d_int) a_nil)) (d_var (pv 1))) (a_cons (d_op op_addD snd_add d_int (c_callJ (i := 0) C__law_pour (hr.mono (by decide)) (pv 0) (a_cons (d_var (pv 1)) a_nil))) a_nil)))))
theorem ok__law_ta_fraction (T : Tb K mg) (C__law_fu_part : Cal P w K mg base 2 "_law_fu_part" ["top", "bottom"] (spP K 2 wf__law_fu_part)) (C__law_pour : Cal P w K mg base 1 "_law_pour" ["jug", "total"] (spJ K 2 wf__law_pour)) {f : Addr} {fd : FuncData} (F : FunD K "_law_ta_fraction" "_law_ta_fraction" (defArgs (top 73)) (defBody (top 73)) (defScope (top 73)) [] [] f fd) (hm : mg "_law_ta_fraction" = some (.ref f)) (pu : ∀ dj ds Q', ds.length + 1 = 2 → wf__law_ta_fraction dj ds Q' → ws__law_ta_fraction (edJ Q') (enJ N__law_ta_fraction dj ds)) : Cal P w K mg base 3 "_law_ta_fraction" ["jug", "size"] (spJ K 2 wf__law_ta_fraction) :=
  ⟨f, fd, fnJ F sc__law_ta_fraction rfl (fun cdv A outer s H E hr => der__law_ta_fraction T C__law_fu_part C__law_pour f cdv A outer s H E hr) pu, hm, F.kp, F.bindsN (ps := ["jug", "size"]) fun _ _ _ _ _ _ us hl => match us, hl with | [_, _], _ => rfl⟩
/-! ### _law_fu_plus -/
abbrev N__law_fu_plus : List Str := ["one", "other"]
theorem sc__law_fu_plus : FnScope N__law_fu_plus ["one", "other"] (defScope (top 71)) := ⟨rfl, rfl, rfl, by decide +kernel, rfl, by decide +kernel, by decide +kernel⟩
def ws__law_fu_plus : WS := (wRet (wFn 2 wf__law_fu_part (wCons (wOp dAdd (wOp dMul (wOp dIx (wVar 0) (wC (.int 0))) (wOp dIx (wVar 1) (wC (.int 1)))) (wOp dMul (wOp dIx (wVar 1) (wC (.int 0))) (wOp dIx (wVar 0) (wC (.int 1))))) (wCons (wOp dMul (wOp dIx (wVar 0) (wC (.int 1))) (wOp dIx (wVar 1) (wC (.int 1)))) wNil))))
theorem der__law_fu_plus (T : Tb K mg) (C__law_fu_part : Cal P w K mg base 2 "_law_fu_part" ["top", "bottom"] (spP K 2 wf__law_fu_part)) (f : Addr) (cdv : Value) (A : Around) (outer : List Env) (s : Shared) (H : Hp) (E : XK) (hr : Room 2 (A.deeper (envOfC "_law_fu_plus" (defScope (top 71)) s.heap.objs.size f cdv))) : PSs (cxOf CX0 P w K mg base N__law_fu_plus "_law_fu_plus" (defScope (top 71)) f cdv A outer s H E).nox (defBody (top 71)) (lS K ζ ws__law_fu_plus) :=
  (s_one (s_ret (c_call C__law_fu_part (hr.mono (by decide)) (a_cons (d_op op_addD snd_add (d_op op_mulD snd_mul (d_ix (d_var (pv 0)) d_int) (d_ix (d_var (pv 1)) d_int)) (d_op op_mulD snd_mul (d_ix (d_var (pv 1)) d_int) (d_ix (d_var (pv 0)) d_int))) (a_cons (d_op op_mulD snd_mul (d_ix (d_var (pv 0)) d_int) (d_ix (d_var (pv 1)) d_int)) a_nil)))))
theorem ok__law_fu_plus (T : Tb K mg) (C__law_fu_part : Cal P w K mg base 2 "_law_fu_part" ["top", "bottom"] (spP K 2 wf__law_fu_part)) {f : Addr} {fd : FuncData} (F : FunD K "_law_fu_plus" "_law_fu_plus" (defArgs (top 71)) (defBody (top 71)) (defScope (top 71)) [] [] f fd) (hm : mg "_law_fu_plus" = some (.ref f)) (pu : ∀ ds Q', ds.length = 2 → wf__law_fu_plus ds Q' → ws__law_fu_plus (edP Q') (enP N__law_fu_plus ds)) : Cal P w K mg base 3 "_law_fu_plus" ["one", "other"] (spP K 2 wf__law_fu_plus) :=
  ⟨f, fd, fnP F sc__law_fu_plus (fun cdv A outer s H E hr => der__law_fu_plus T C__law_fu_part f cdv A outer s H E hr) pu, hm, F.kp, F.bindsN (ps := ["one", "other"]) fun _ _ _ _ _ _ us hl => match us, hl with | [_, _], _ => rfl⟩
/-! ### _law_added -/
abbrev N__law_added : List Str := ["one", "many", "found", "power", "turn"]
theorem sc__law_added : FnScope N__law_added ["one", "many"] (defScope (top 74)) := ⟨rfl, rfl, rfl, by decide +kernel, rfl, by decide +kernel, by decide +kernel⟩
def ws__law_added : WS := (wSeq (wAsgT (wTup (wCons (wTup (wCons (wC (.int 0)) (wCons (wC (.int 1)) wNil))) (wCons (wTup (wCons (wC (.int 1)) (wCons (wC (.int 1)) wNil))) wNil))) (wgT 2 (wgCons (wgN 2) (wgCons (wgN 3) wgNil)))) (wSeq (wFor (wRg1 (wCons (wVar 1) wNil)) (wgN 4) (wPar 2 3 (wFn 2 wf__law_fu_plus (wCons (wVar 2) (wCons (wVar 3) wNil))) (wFn 2 wf__law_fu_times (wCons (wVar 3) (wCons (wVar 0) wNil))))) (wRet (wTup (wCons (wVar 2) (wCons (wVar 3) wNil))))))
theorem der__law_added (T : Tb K mg) (C__law_fu_plus : Cal P w K mg base 3 "_law_fu_plus" ["one", "other"] (spP K 2 wf__law_fu_plus)) (C__law_fu_times : Cal P w K mg base 3 "_law_fu_times" ["one", "other"] (spP K 2 wf__law_fu_times)) (f : Addr) (cdv : Value) (A : Around) (outer : List Env) (s : Shared) (H : Hp) (E : XK) (hr : Room 3 (A.deeper (envOfC "_law_added" (defScope (top 74)) s.heap.objs.size f cdv))) : PSs (cxOf CX0 P w K mg base N__law_added "_law_added" (defScope (top 74)) f cdv A outer s H E).nox (defBody (top 74)) (lS K ζ ws__law_added) :=
  (s_cons (s_asgT (ps_asg (d_tup (a_cons (d_tup (a_cons d_int (a_cons d_int a_nil))) (a_cons (d_tup (a_cons d_int (a_cons d_int a_nil))) a_nil))) (g_tup (n := 2) rfl (gs_cons (g_name (i := 2) sc__law_added.nd rfl (by first | exact Or.inl rfl | exact Or.inr rfl)) (gs_cons (g_name (i := 3) sc__law_added.nd rfl (by first | exact Or.inl rfl | exact Or.inr rfl)) gs_nil)) (pg_tup rfl (gs_cons (g_name (i := 2) sc__law_added.nd rfl (by first | exact Or.inl rfl | exact Or.inr rfl)) (gs_cons (g_name (i := 3) sc__law_added.nd rfl (by first | exact Or.inl rfl | exact Or.inr rfl)) gs_nil)))))) (s_cons (s_for PassesOwn.never rfl (i_rng1 T.b_range (a_cons (d_var (pv 1)) a_nil)) (g_name (i := 4) sc__law_added.nd rfl (by first | exact Or.inl rfl | exact Or.inr rfl)) (s_one (s_par (ps_par (i := 2) (j := 3) rfl sc__law_added.nd rfl rfl (by decide) rfl rfl (pa_cons (c_call C__law_fu_plus (hr.mono (by decide)) (a_cons (d_var (pv 2)) (a_cons (d_var (pv 3)) a_nil))) (pa_cons (c_call C__law_fu_times (hr.mono (by decide)) (a_cons (d_var (pv 3)) (a_cons (d_var (pv 0)) a_nil))) pa_nil)) (by rfl))))) (s_one (s_ret (d_tup (a_cons (d_var (pv 2)) (a_cons (d_var (pv 3)) a_nil)))))))
theorem ok__law_added (T : Tb K mg) (C__law_fu_plus : Cal P w K mg base 3 "_law_fu_plus" ["one", "other"] (spP K 2 wf__law_fu_plus)) (C__law_fu_times : Cal P w K mg base 3 "_law_fu_times" ["one", "other"] (spP K 2 wf__law_fu_times)) {f : Addr} {fd : FuncData} (F : FunD K "_law_added" "_law_added" (defArgs (top 74)) (defBody (top 74)) (defScope (top 74)) [] [] f fd) (hm : mg "_law_added" = some (.ref f)) (pu : ∀ ds Q', ds.length = 2 → wf__law_added ds Q' → ws__law_added (edP Q') (enP N__law_added ds)) : Cal P w K mg base 4 "_law_added" ["one", "many"] (spP K 2 wf__law_added) :=
  ⟨f, fd, fnP F sc__law_added (fun cdv A outer s H E hr => der__law_added T C__law_fu_plus C__law_fu_times f cdv A outer s H E hr) pu, hm, F.kp, F.bindsN (ps := ["one", "many"]) fun _ _ _ _ _ _ us hl => match us, hl with | [_, _], _ => rfl⟩
/-! ### order_of_two -/
abbrev N_order_of_two : List Str := ["one", "other", "left", "right"]
theorem sc_order_of_two : FnScope N_order_of_two ["one", "other"] (defScope (top 22)) := ⟨rfl, rfl, rfl, by decide +kernel, rfl, by decide +kernel, by decide +kernel⟩
def ws_order_of_two : WS := (wSeq (wSet 2 (wOp dMul (wOp dIx (wVar 0) (wC (.int 0))) (wOp dIx (wVar 1) (wC (.int 1))))) (wSeq (wSet 3 (wOp dMul (wOp dIx (wVar 1) (wC (.int 0))) (wOp dIx (wVar 0) (wC (.int 1))))) (wRet (wOp dSub (wCl dIntOf (wCons (wOp dGt (wVar 2) (wVar 3)) wNil)) (wCl dIntOf (wCons (wOp dLt (wVar 2) (wVar 3)) wNil))))))
theorem der_order_of_two (T : Tb K mg)  (f : Addr) (cdv : Value) (A : Around) (outer : List Env) (s : Shared) (H : Hp) (E : XK) (hr : Room 0 (A.deeper (envOfC "order_of_two" (defScope (top 22)) s.heap.objs.size f cdv))) : PSs (cxOf CX0 P w K mg base N_order_of_two "order_of_two" (defScope (top 22)) f cdv A outer s H E).nox (defBody (top 22)) (lS K ζ ws_order_of_two) :=
  (s_cons (s_set (i := 2) sc_order_of_two.nd rfl (by first | exact Or.inl rfl | exact Or.inr rfl) (d_op op_mulD snd_mul (d_ix (d_var (pv 0)) d_int) (d_ix (d_var (pv 1)) d_int))) (s_cons (s_set (i := 3) sc_order_of_two.nd rfl (by first | exact Or.inl rfl | exact Or.inr rfl) (d_op op_mulD snd_mul (d_ix (d_var (pv 1)) d_int) (d_ix (d_var (pv 0)) d_int))) (s_one (s_ret (d_op op_sub snd_sub (d_cty call_int1 snd_intOf T.b_int (by decide +kernel) (a_cons (d_cmp op_gt snd_gt (d_var (pv 2)) (d_var (pv 3)) (nomark _)) a_nil)) (d_cty call_int1 snd_intOf T.b_int (by decide +kernel) (a_cons (d_cmp (op_ltD hr.units0) snd_lt (d_var (pv 2)) (d_var (pv 3)) (nomark _)) a_nil)))))))
theorem ok_order_of_two (T : Tb K mg)  {f : Addr} {fd : FuncData} (F : FunD K "order_of_two" "order_of_two" (defArgs (top 22)) (defBody (top 22)) (defScope (top 22)) [] [] f fd) (hm : mg "order_of_two" = some (.ref f)) (pu : ∀ ds Q', ds.length = 2 → wf_order_of_two ds Q' → ws_order_of_two (edP Q') (enP N_order_of_two ds)) : Cal P w K mg base 1 "order_of_two" ["one", "other"] (spP K 2 wf_order_of_two) :=
  ⟨f, fd, fnP F sc_order_of_two (fun cdv A outer s H E hr => der_order_of_two T  f cdv A outer s H E hr) pu, hm, F.kp, F.bindsN (ps := ["one", "other"]) fun _ _ _ _ _ _ us hl => match us, hl with | [_, _], _ => rfl⟩
/-! ### compared -/
abbrev N_compared : List Str := ["one", "other"]
theorem sc_compared : FnScope N_compared ["one", "other"] (defScope (top 26)) := ⟨rfl, rfl, rfl, by decide +kernel, rfl, by decide +kernel, by decide +kernel⟩
def ws_compared (R : Exc → En → Prop) : WS := (wSeq (wDrop (wFnX 2 wf_check_two R (wCons (wVar 0) (wCons (wVar 1) wNil)))) (wRet (wFn 2 wf_order_of_two (wCons (wVar 0) (wCons (wVar 1) wNil)))))
theorem der_compared {R : Exc → En → Prop} (T : Tb K mg) (C_check_two : CalX P w K mg base 5 "check_two" ["one", "other"] (spX K 2 wf_check_two)) (C_order_of_two : Cal P w K mg base 1 "order_of_two" ["one", "other"] (spP K 2 wf_order_of_two)) (f : Addr) (cdv : Value) (A : Around) (outer : List Env) (s : Shared) (H : Hp) (E : XK) (tk : Takes (cxOf (L2.CX P w) P w K mg base N_compared "compared" (defScope (top 26)) f cdv A outer s H E) (wxOf K ζ R)) (hpo : PassesOwn (model P w) (cxOf (L2.CX P w) P w K mg base N_compared "compared" (defScope (top 26)) f cdv A outer s H E).A (cxOf (L2.CX P w) P w K mg base N_compared "compared" (defScope (top 26)) f cdv A outer s H E).env (cxOf (L2.CX P w) P w K mg base N_compared "compared" (defScope (top 26)) f cdv A outer s H E).xe) (hr : Room 5 (A.deeper (envOfC "compared" (defScope (top 26)) s.heap.objs.size f cdv))) : PSs (cxOf (L2.CX P w) P w K mg base N_compared "compared" (defScope (top 26)) f cdv A outer s H E) (defBody (top 26)) (lS K ζ (ws_compared R)) :=
  (s_cons (s_expr (c_callX C_check_two tk (hr.mono (by decide)) (a_cons (d_var (pv 0)) (a_cons (d_var (pv 1)) a_nil)))) (s_one (s_ret (c_call C_order_of_two (hr.mono (by decide)) (a_cons (d_var (pv 0)) (a_cons (d_var (pv 1)) a_nil))))))
theorem ok_compared (T : Tb K mg) (C_check_two : CalX P w K mg base 5 "check_two" ["one", "other"] (spX K 2 wf_check_two)) (C_order_of_two : Cal P w K mg base 1 "order_of_two" ["one", "other"] (spP K 2 wf_order_of_two)) {f : Addr} {fd : FuncData} (F : FunD K "compared" "compared" (defArgs (top 26)) (defBody (top 26)) (defScope (top 26)) [] [] f fd) (hm : mg "compared" = some (.ref f)) (pu : ∀ ds Q' R', ds.length = 2 → wf_compared ds Q' R' → ws_compared (fun e _ => R' e) (edP Q') (enP N_compared ds)) : CalX P w K mg base 6 "compared" ["one", "other"] (spX K 2 wf_compared) :=
  ⟨f, fd, fnX F sc_compared (fun ζ R cdv A outer s H E tk hpo hr => der_compared T C_check_two C_order_of_two f cdv A outer s H E tk hpo hr) pu, hm, F.kp, F.bindsN (ps := ["one", "other"]) fun _ _ _ _ _ _ us hl => match us, hl with | [_, _], _ => rfl⟩
/-! ### _law_right -/
abbrev N__law_right : List Str := ["jug", "size", "one", "many", "told", "due", "power", "rest", "whole", "lack"]
theorem sc__law_right : FnScope N__law_right ["jug"] (defScope (top 75)) := ⟨rfl, rfl, rfl, by decide +kernel, rfl, by decide +kernel, by decide +kernel⟩
def ws__law_right : WS := (wSeq (wSet 1 (wFnJ 0 2 wf__law_sip (wCons (wLe (wSz (wCons (wC (.int 1)) (wCons (wC (.int 3)) (wCons (wC (.int 9)) (wCons (wC (.int 9)) wNil)))))) wNil))) (wSeq (wPar 2 3 (wFnJ 0 2 wf__law_ta_fraction (wCons (wVar 1) wNil)) (wOp dAdd (wC (.int 1)) (wFnJ 0 2 wf__law_pour (wCons (wFnJ 0 2 wf__law_sip (wCons (wLe (wSz (wCons (wC (.int 3)) (wCons (wC (.int 8)) (wCons (wC (.int 30)) wNil))))) wNil)) wNil)))) (wSeq (wAsgT (wTup (wCons (wFnX 2 wf_powers_added (fun _ _ => False) (wCons (wVar 2) (wCons (wVar 3) wNil))) (wCons (wFn 2 wf__law_added (wCons (wVar 2) (wCons (wVar 3) wNil))) wNil))) (wgT 2 (wgCons (wgN 4) (wgCons (wgT 2 (wgCons (wgN 5) (wgCons (wgN 6) wgNil))) wgNil)))) (wSeq (wIfS (wOr (wB (wOp dNe (wVar 4) (wVar 5))) (wB (wOp dNe (wFnX 2 wf_powers_added (fun _ _ => False) (wCons (wVar 2) (wCons (wC (.int 1)) wNil))) (wTup (wCons (wC (.int 1)) (wCons (wC (.int 1)) wNil)))))) (wRet (wC (.bool false))) wNext) (wSeq (wIfS (wB (wOp dEq (wVar 2) (wTup (wCons (wC (.int 1)) (wCons (wC (.int 1)) wNil))))) (wRet (wOp dEq (wVar 4) (wTup (wCons (wVar 3) (wCons (wC (.int 1)) wNil))))) wNext) (wSeq (wSet 7 (wFn 2 wf__law_fu_plus (wCons (wTup (wCons (wC (.int 1)) (wCons (wC (.int 1)) wNil))) (wCons (wFn 2 wf__law_fu_times (wCons (wVar 2) (wCons (wTup (wCons (wUn dNeg (wC (.int 1))) (wCons (wC (.int 1)) wNil))) wNil))) wNil)))) (wSeq (wIfS (wB (wOp dNe (wFn 2 wf__law_fu_times (wCons (wVar 4) (wCons (wVar 7) wNil))) (wFn 2 wf__law_fu_plus (wCons (wTup (wCons (wC (.int 1)) (wCons (wC (.int 1)) wNil))) (wCons (wFn 2 wf__law_fu_times (wCons (wVar 6) (wCons (wTup (wCons (wUn dNeg (wC (.int 1))) (wCons (wC (.int 1)) wNil))) wNil))) wNil))))) (wRet (wC (.bool false))) wNext) (wSeq (wIfS (wB (wOp dNe (wFnX 2 wf_powers_added (fun _ _ => False) (wCons (wVar 2) (wCons (wOp dAdd (wVar 3) (wC (.int 1))) wNil))) (wFn 2 wf__law_fu_plus (wCons (wTup (wCons (wC (.int 1)) (wCons (wC (.int 1)) wNil))) (wCons (wFn 2 wf__law_fu_times (wCons (wVar 2) (wCons (wVar 4) wNil))) wNil))))) (wRet (wC (.bool false))) wNext) (wSeq (wIfS (wAnd (wB (wOp dGt (wOp dIx (wVar 2) (wC (.int 0))) (wC (.int 0)))) (wB (wOp dNe (wFnX 2 wf_compared (fun _ _ => False) (wCons (wFnX 2 wf_powers_added (fun _ _ => False) (wCons (wVar 2) (wCons (wOp dAdd (wVar 3) (wC (.int 1))) wNil))) (wCons (wVar 4) wNil))) (wC (.int 1))))) (wRet (wC (.bool false))) wNext) (wSeq (wIfS (wB (wCh dLt dLt (wC (.int 0)) (wOp dIx (wVar 2) (wC (.int 0))) (wOp dIx (wVar 2) (wC (.int 1))))) (wSeq (wSet 8 (wFnX 2 wf_over (fun _ _ => False) (wCons (wTup (wCons (wC (.int 1)) (wCons (wC (.int 1)) wNil))) (wCons (wFnX 2 wf_less (fun _ _ => False) (wCons (wTup (wCons (wC (.int 1)) (wCons (wC (.int 1)) wNil))) (wCons (wVar 2) wNil))) wNil)))) (wSeq (wSet 9 (wFnX 2 wf_less (fun _ _ => False) (wCons (wVar 8) (wCons (wVar 4) wNil)))) (wRet (wAndV (wOp dGt (wOp dIx (wVar 9) (wC (.int 0))) (wC (.int 0))) (wOp dEq (wFn 2 wf__law_fu_times (wCons (wVar 9) (wCons (wVar 2) wNil))) (wFnX 2 wf_less (fun _ _ => False) (wCons (wVar 8) (wCons (wFnX 2 wf_powers_added (fun _ _ => False) (wCons (wVar 2) (wCons (wOp dAdd (wVar 3) (wC (.int 1))) wNil))) wNil)))))))) wNext) (wRet (wC (.bool true)))))))))))))
theorem der__law_right (T : Tb K mg) (C__law_sip : Cal P w K mg base 2 "_law_sip" ["jug", "items"] (spJ K 2 wf__law_sip)) (C__law_ta_fraction : Cal P w K mg base 3 "_law_ta_fraction" ["jug", "size"] (spJ K 2 wf__law_ta_fraction)) (C__law_pour : Cal P w K mg base 1 "_law_pour" ["jug", "total"] (spJ K 2 wf__law_pour)) (C__law_added : Cal P w K mg base 4 "_law_added" ["one", "many"] (spP K 2 wf__law_added)) (C_powers_added : CalX P w K mg base 5 "powers_added" ["one", "many"] (spX K 2 wf_powers_added)) (C__law_fu_plus : Cal P w K mg base 3 "_law_fu_plus" ["one", "other"] (spP K 2 wf__law_fu_plus)) (C__law_fu_times : Cal P w K mg base 3 "_law_fu_times" ["one", "other"] (spP K 2 wf__law_fu_times)) (C_compared : CalX P w K mg base 6 "compared" ["one", "other"] (spX K 2 wf_compared)) (C_over : CalX P w K mg base 6 "over" ["one", "other"] (spX K 2 wf_over)) (C_less : CalX P w K mg base 6 "less" ["one", "other"] (spX K 2 wf_less)) (f : Addr) (cdv : Value) (A : Around) (outer : List Env) (s : Shared) (H : Hp) (E : XK) (hr : Room 6 (A.deeper (envOfC "_law_right" (defScope (top 75)) s.heap.objs.size f cdv))) : PSs (cxOf CX0 P w K mg base N__law_right "_law_right" (defScope (top 75)) f cdv A outer s H E).nox (defBody (top 75)) (lS K ζ ws__law_right) :=
  (s_cons (s_set (i := 1) sc__law_right.nd rfl (by first | exact Or.inl rfl | exact Or.inr rfl) (c_callJ (i := 0) C__law_sip (hr.mono (by decide)) (pv 0) (a_cons (d_lL (l_lst (a_cons d_int (a_cons d_int (a_cons d_int (a_cons d_int a_nil)))))) a_nil))) (s_cons (s_par (ps_par (i := 2) (j := 3) rfl sc__law_right.nd rfl rfl (by decide) rfl rfl (pa_cons (c_callJ (i := 0) C__law_ta_fraction (hr.mono (by decide)) (pv 0) (a_cons (d_var (pv 1)) a_nil)) (pa_cons (d_op op_addD snd_add d_int (c_callJ (i := 0) C__law_pour (hr.mono (by decide)) (pv 0) (a_cons (c_callJ (i := 0) C__law_sip (hr.mono (by decide)) (pv 0) (a_cons (d_lL (l_lst (a_cons d_int (a_cons d_int (a_cons d_int a_nil))))) a_nil)) a_nil))) pa_nil)) (by rfl))) (s_cons (s_asgT (ps_asg (d_tup (a_cons (c_callXN C_powers_added (hr.mono (by decide)) (a_cons (d_var (pv 2)) (a_cons (d_var (pv 3)) a_nil))) (a_cons (c_call C__law_added (hr.mono (by decide)) (a_cons (d_var (pv 2)) (a_cons (d_var (pv 3)) a_nil))) a_nil))) (g_tup (n := 2) rfl (gs_cons (g_name (i := 4) sc__law_right.nd rfl (by first | exact Or.inl rfl | exact Or.inr rfl)) (gs_cons (g_tup (n := 2) rfl (gs_cons (g_name (i := 5) sc__law_right.nd rfl (by first | exact Or.inl rfl | exact Or.inr rfl)) (gs_cons (g_name (i := 6) sc__law_right.nd rfl (by first | exact Or.inl rfl | exact Or.inr rfl)) gs_nil)) (pg_tup rfl (gs_cons (g_name (i := 5) sc__law_right.nd rfl (by first | exact Or.inl rfl | exact Or.inr rfl)) (gs_cons (g_name (i := 6) sc__law_right.nd rfl (by first | exact Or.inl rfl | exact Or.inr rfl)) gs_nil)))) gs_nil)) (pg_tup rfl (gs_cons (g_name (i := 4) sc__law_right.nd rfl (by first | exact Or.inl rfl | exact Or.inr rfl)) (gs_cons (g_tup (n := 2) rfl (gs_cons (g_name (i := 5) sc__law_right.nd rfl (by first | exact Or.inl rfl | exact Or.inr rfl)) (gs_cons (g_name (i := 6) sc__law_right.nd rfl (by first | exact Or.inl rfl | exact Or.inr rfl)) gs_nil)) (pg_tup rfl (gs_cons (g_name (i := 5) sc__law_right.nd rfl (by first | exact Or.inl rfl | exact Or.inr rfl)) (gs_cons (g_name (i := 6) sc__law_right.nd rfl (by first | exact Or.inl rfl | exact Or.inr rfl)) gs_nil)))) gs_nil)))))) (s_cons (s_if (PW.pt (t_or (t_cmp (op_neD hr.units) snd_ne (d_var (pv 4)) (d_var (pv 5)) (nomark _)) (t_or1 (t_cmp (op_neD hr.units) snd_ne (c_callXN C_powers_added (hr.mono (by decide)) (a_cons (d_var (pv 2)) (a_cons d_int a_nil))) (d_tup (a_cons d_int (a_cons d_int a_nil))) (nomark _))))) (s_one (s_ret d_bl)) s_nil) (s_cons (s_if (t_cmp (op_eqD hr.units) snd_eq (d_var (pv 2)) (d_tup (a_cons d_int (a_cons d_int a_nil))) (nomark _)) (s_one (s_ret (d_cmp (op_eqD hr.units) snd_eq (d_var (pv 4)) (d_tup (a_cons (d_var (pv 3)) (a_cons d_int a_nil))) (nomark _)))) s_nil) (s_cons (s_set (i := 7) sc__law_right.nd rfl (by first | exact Or.inl rfl | exact Or.inr rfl) (c_call C__law_fu_plus (hr.mono (by decide)) (a_cons (d_tup (a_cons d_int (a_cons d_int a_nil))) (a_cons (c_call C__law_fu_times (hr.mono (by decide)) (a_cons (d_var (pv 2)) (a_cons (d_tup (a_cons (d_un un_neg snd_neg d_int) (a_cons d_int a_nil))) a_nil))) a_nil)))) (s_cons (s_if (t_cmp (op_neD hr.units) snd_ne (c_call C__law_fu_times (hr.mono (by decide)) (a_cons (d_var (pv 4)) (a_cons (d_var (pv 7)) a_nil))) (c_call C__law_fu_plus (hr.mono (by decide)) (a_cons (d_tup (a_cons d_int (a_cons d_int a_nil))) (a_cons (c_call C__law_fu_times (hr.mono (by decide)) (a_cons (d_var (pv 6)) (a_cons (d_tup (a_cons (d_un un_neg snd_neg d_int) (a_cons d_int a_nil))) a_nil))) a_nil))) (nomark _)) (s_one (s_ret d_bl)) s_nil) (s_cons (s_if (t_cmp (op_neD hr.units) snd_ne (c_callXN C_powers_added (hr.mono (by decide)) (a_cons (d_var (pv 2)) (a_cons (d_op op_addD snd_add (d_var (pv 3)) d_int) a_nil))) (c_call C__law_fu_plus (hr.mono (by decide)) (a_cons (d_tup (a_cons d_int (a_cons d_int a_nil))) (a_cons (c_call C__law_fu_times (hr.mono (by decide)) (a_cons (d_var (pv 2)) (a_cons (d_var (pv 4)) a_nil))) a_nil))) (nomark _)) (s_one (s_ret d_bl)) s_nil) (s_cons (s_if (PW.pt (t_and (t_cmp op_gt snd_gt (d_ix (d_var (pv 2)) d_int) d_int (nomark _)) (t_and1 (t_cmp (op_neD hr.units) snd_ne (c_callXN C_compared (hr.mono (by decide)) (a_cons (c_callXN C_powers_added (hr.mono (by decide)) (a_cons (d_var (pv 2)) (a_cons (d_op op_addD snd_add (d_var (pv 3)) d_int) a_nil))) (a_cons (d_var (pv 4)) a_nil))) d_int (nomark _))))) (s_one (s_ret d_bl)) s_nil) (s_cons (s_if (t_ch (op_ltD hr.units0) snd_lt (op_ltD hr.units0) snd_lt d_int (d_ix (d_var (pv 2)) d_int) (d_ix (d_var (pv 2)) d_int)) (s_cons (s_set (i := 8) sc__law_right.nd rfl (by first | exact Or.inl rfl | exact Or.inr rfl) (c_callXN C_over (hr.mono (by decide)) (a_cons (d_tup (a_cons d_int (a_cons d_int a_nil))) (a_cons (c_callXN C_less (hr.mono (by decide)) (a_cons (d_tup (a_cons d_int (a_cons d_int a_nil))) (a_cons (d_var (pv 2)) a_nil))) a_nil)))) (s_cons (s_set (i := 9) sc__law_right.nd rfl (by first | exact Or.inl rfl | exact Or.inr rfl) (c_callXN C_less (hr.mono (by decide)) (a_cons (d_var (pv 8)) (a_cons (d_var (pv 4)) a_nil)))) (s_one (s_ret (d_and (d_cmp op_gt snd_gt (d_ix (d_var (pv 9)) d_int) d_int (nomark _)) (d_one (d_cmp (op_eqD hr.units) snd_eq (c_call C__law_fu_times (hr.mono (by decide)) (a_cons (d_var (pv 9)) (a_cons (d_var (pv 2)) a_nil))) (c_callXN C_less (hr.mono (by decide)) (a_cons (d_var (pv 8)) (a_cons (c_callXN C_powers_added (hr.mono (by decide)) (a_cons (d_var (pv 2)) (a_cons (d_op op_addD snd_add (d_var (pv 3)) d_int) a_nil))) a_nil))) (nomark _)))))))) s_nil) (s_one (s_ret d_bl))))))))))))
theorem ok__law_right (T : Tb K mg) (C__law_sip : Cal P w K mg base 2 "_law_sip" ["jug", "items"] (spJ K 2 wf__law_sip)) (C__law_ta_fraction : Cal P w K mg base 3 "_law_ta_fraction" ["jug", "size"] (spJ K 2 wf__law_ta_fraction)) (C__law_pour : Cal P w K mg base 1 "_law_pour" ["jug", "total"] (spJ K 2 wf__law_pour)) (C__law_added : Cal P w K mg base 4 "_law_added" ["one", "many"] (spP K 2 wf__law_added)) (C_powers_added : CalX P w K mg base 5 "powers_added" ["one", "many"] (spX K 2 wf_powers_added)) (C__law_fu_plus : Cal P w K mg base 3 "_law_fu_plus" ["one", "other"] (spP K 2 wf__law_fu_plus)) (C__law_fu_times : Cal P w K mg base 3 "_law_fu_times" ["one", "other"] (spP K 2 wf__law_fu_times)) (C_compared : CalX P w K mg base 6 "compared" ["one", "other"] (spX K 2 wf_compared)) (C_over : CalX P w K mg base 6 "over" ["one", "other"] (spX K 2 wf_over)) (C_less : CalX P w K mg base 6 "less" ["one", "other"] (spX K 2 wf_less)) {f : Addr} {fd : FuncData} (F : FunD K "_law_right" "_law_right" (defArgs (top 75)) (defBody (top 75)) (defScope (top 75)) [] [] f fd) (hm : mg "_law_right" = some (.ref f)) (pu : ∀ dj ds Q', ds.length + 1 = 1 → wf__law_right dj ds Q' → ws__law_right (edJ Q') (enJ N__law_right dj ds)) : Cal P w K mg base 7 "_law_right" ["jug"] (spJ K 1 wf__law_right) :=
  ⟨f, fd, fnJ F sc__law_right rfl (fun cdv A outer s H E hr => der__law_right T C__law_sip C__law_ta_fraction C__law_pour C__law_added C_powers_added C__law_fu_plus C__law_fu_times C_compared C_over C_less f cdv A outer s H E hr) pu, hm, F.kp, F.bindsN (ps := ["jug"]) fun _ _ _ _ _ _ us hl => match us, hl with | [_], _ => rfl⟩
/-! ### law -/
abbrev N_law : List Str := ["script", "spot", "jug", "turn", "told"]
theorem sc_law : FnScope N_law ["script"] (defScope (top 77)) := ⟨rfl, rfl, rfl, by decide +kernel, rfl, by decide +kernel, by decide +kernel⟩
def ws_law : WS := (wSeq (wFor (wRg1 (wCons (wCl dMax2 (wCons (wC (.int 1)) (wCons (wCl dMin2 (wCons (wC (.int 3)) (wCons (wLenS 0) wNil))) wNil))) wNil)) (wgN 1) (wSeq (wSetOwn 2 (wFnS 0 2 wf__law_jug (wCons (wVar 1) wNil))) (wFor (wRg1 (wCons (wC (.int 5)) wNil)) (wgN 3) (wIfS (wOr (wNot (wTr (wFnJ 2 1 wf__law_right wNil))) (wNot (wTr (wFnJ 2 1 wf__law_bounds_right wNil)))) (wRet (wC (.bool false))) wNext)))) (wSeq (wSet 4 (wLe (wSz (wCons (wFnX 2 wf_powers_added (fun _ _ => False) (wCons (wTup (wCons (wC (.int 2)) (wCons (wC (.int 3)) wNil))) (wCons (wC (.int 3)) wNil))) (wCons (wFnX 2 wf_powers_added (fun _ _ => False) (wCons (wTup (wCons (wC (.int 1)) (wCons (wC (.int 1)) wNil))) (wCons (wC (.int 100)) wNil))) (wCons (wFnX 2 wf_powers_added (fun _ _ => False) (wCons (wTup (wCons (wC (.int 1)) (wCons (wC (.int 2)) wNil))) (wCons (wC (.int 10)) wNil))) (wCons (wFnX 2 wf_powers_added (fun _ _ => False) (wCons (wTup (wCons (wUn dNeg (wC (.int 1))) (wCons (wC (.int 1)) wNil))) (wCons (wC (.int 4)) wNil))) wNil))))))) (wSeq (wIfS (wB (wOp dNe (wOp dAdd (wVar 4) (wLe (wSz (wCons (wFnX 2 wf_powers_added (fun _ _ => False) (wCons (wTup (wCons (wC (.int 0)) (wCons (wC (.int 1)) wNil))) (wCons (wC (.int 7)) wNil))) wNil)))) (wLe (wSz (wCons (wTup (wCons (wC (.int 19)) (wCons (wC (.int 9)) wNil))) (wCons (wTup (wCons (wC (.int 100)) (wCons (wC (.int 1)) wNil))) (wCons (wTup (wCons (wC (.int 1023)) (wCons (wC (.int 512)) wNil))) (wCons (wTup (wCons (wC (.int 0)) (wCons (wC (.int 1)) wNil))) (wCons (wTup (wCons (wC (.int 1)) (wCons (wC (.int 1)) wNil))) wNil))))))))) (wRet (wC (.bool false))) wNext) (wRet (wOp dEq (wFnX 2 wf_powers_added (fun _ _ => False) (wCons (wTup (wCons (wC (.int 10)) (wCons (wC (.int 1)) wNil))) (wCons (wC (.int 100)) wNil))) (wTup (wCons (wCl dIntT (wCons (wOp dMulS (wC (.str "1")) (wC (.int 100))) wNil)) (wCons (wC (.int 1)) wNil))))))))
theorem der_law (T : Tb K mg) (C__law_jug : Cal P w K mg base 1 "_law_jug" ["script", "spot"] (spS K 2 wf__law_jug)) (C__law_bounds_right : Cal P w K mg base 10 "_law_bounds_right" ["jug"] (spJ K 1 wf__law_bounds_right)) (C__law_right : Cal P w K mg base 7 "_law_right" ["jug"] (spJ K 1 wf__law_right)) (C_powers_added : CalX P w K mg base 5 "powers_added" ["one", "many"] (spX K 2 wf_powers_added))  (ap : Apart K tabF) (tb : TabsB K mg base tabF) (A : Around) (outer : List Env) (s : Shared) (H : Hp) (hg : A.guards = some []) (hr : Room 10 (A.deeper (envOfC "law" (defScope (top 77)) s.heap.objs.size (He.fAd K ("law", none)) (.ref (He.codeOf K ("law", none)))))) : PSs (cxOf CX0 P w K mg base N_law "law" (defScope (top 77)) (He.fAd K ("law", none)) (.ref (He.codeOf K ("law", none))) A outer s H E0).nox (defBody (top 77)) (lS K (ζT (tabsT K tabF)) ws_law) :=
  (s_cons (s_for PassesOwn.never rfl (i_rng1 T.b_range (a_cons (d_cb (call_max2 rfl) snd_max2 T.b_max (by decide +kernel) (a_cons d_int (a_cons (d_cb (call_min2 rfl) snd_min2 T.b_min (by decide +kernel) (a_cons d_int (a_cons (d_lenS (i := 0) T.b_len (pv 0)) a_nil))) a_nil))) a_nil)) (g_name (i := 1) sc_law.nd rfl (by first | exact Or.inl rfl | exact Or.inr rfl)) (s_cons (s_setOwn (i := 2) sc_law.nd rfl (by first | exact Or.inl rfl | exact Or.inr rfl) (c_callS (i := 0) C__law_jug (hr.mono (by decide)) (pv 0) (a_cons (d_var (pv 1)) a_nil))) (s_one (s_for PassesOwn.never rfl (i_rng1 T.b_range (a_cons d_int a_nil)) (g_name (i := 3) sc_law.nd rfl (by first | exact Or.inl rfl | exact Or.inr rfl)) (s_one (s_if (PW.pt (t_or (t_not (t_tru (c_callJ (i := 2) C__law_right (hr.mono (by decide)) (pv 2) a_nil))) (t_or1 (t_not (t_tru (c_callJ (i := 2) C__law_bounds_right (hr.mono (by decide)) (pv 2) a_nil)))))) (s_one (s_ret d_bl)) s_nil)))))) (s_cons (s_set (i := 4) sc_law.nd rfl (by first | exact Or.inl rfl | exact Or.inr rfl) (d_lL (l_lst (a_cons (c_callXN C_powers_added (hr.mono (by decide)) (a_cons (d_tup (a_cons d_int (a_cons d_int a_nil))) (a_cons d_int a_nil))) (a_cons (c_callXN C_powers_added (hr.mono (by decide)) (a_cons (d_tup (a_cons d_int (a_cons d_int a_nil))) (a_cons d_int a_nil))) (a_cons (c_callXN C_powers_added (hr.mono (by decide)) (a_cons (d_tup (a_cons d_int (a_cons d_int a_nil))) (a_cons d_int a_nil))) (a_cons (c_callXN C_powers_added (hr.mono (by decide)) (a_cons (d_tup (a_cons (d_un un_neg snd_neg d_int) (a_cons d_int a_nil))) (a_cons d_int a_nil))) a_nil))))))) (s_cons (s_if (t_cmp (op_neD hr.units) snd_ne (d_op op_addD snd_add (d_var (pv 4)) (d_lL (l_lst (a_cons (c_callXN C_powers_added (hr.mono (by decide)) (a_cons (d_tup (a_cons d_int (a_cons d_int a_nil))) (a_cons d_int a_nil))) a_nil)))) (d_lL (l_lst (a_cons (d_tup (a_cons d_int (a_cons d_int a_nil))) (a_cons (d_tup (a_cons d_int (a_cons d_int a_nil))) (a_cons (d_tup (a_cons d_int (a_cons d_int a_nil))) (a_cons (d_tup (a_cons d_int (a_cons d_int a_nil))) (a_cons (d_tup (a_cons d_int (a_cons d_int a_nil))) a_nil))))))) (nomark _)) (s_one (s_ret d_bl)) s_nil) (s_one (s_ret (d_cmp (op_eqD hr.units) snd_eq (c_callXN C_powers_added (hr.mono (by decide)) (a_cons (d_tup (a_cons d_int (a_cons d_int a_nil))) (a_cons d_int a_nil))) (d_tup (a_cons (d_cty call_intT snd_intT T.b_int (by decide +kernel) (a_cons (d_op op_mulS snd_mulS d_str d_int) a_nil)) (a_cons d_int a_nil))) (nomark _)))))))
theorem ok_law (T : Tb K mg) (C__law_jug : Cal P w K mg base 1 "_law_jug" ["script", "spot"] (spS K 2 wf__law_jug)) (C__law_bounds_right : Cal P w K mg base 10 "_law_bounds_right" ["jug"] (spJ K 1 wf__law_bounds_right)) (C__law_right : Cal P w K mg base 7 "_law_right" ["jug"] (spJ K 1 wf__law_right)) (C_powers_added : CalX P w K mg base 5 "powers_added" ["one", "many"] (spX K 2 wf_powers_added))  (ap : Apart K tabF) (tb : TabsB K mg base tabF) {fd : FuncData} (F : FunD K "law" "law" (defArgs (top 77)) (defBody (top 77)) (defScope (top 77)) [] [] (He.fAd K ("law", none)) fd) (pu : ∀ ns ds Q', ds.length + 1 = 1 → wf_law ns ds Q' → ws_law (edP Q') (enS N_law ns ds)) : FnG P w K mg base 11 (He.fAd K ("law", none)) fd ["script"] (spST K (tabsT K tabF) 1 wf_law) :=
  fnST F sc_law rfl (fun A outer s H hg hr => der_law T C__law_jug C__law_bounds_right C__law_right C_powers_added  ap tb A outer s H hg hr) pu
end
end K14

set_option Elab.async false
set_option linter.all false
set_option maxRecDepth 100000
set_option maxHeartbeats 4000000
namespace K14
open PySem PySem.Spec PyProof.Rows L2 Pd


/-! ### lots, by themselves -/
theorem inB_ints {lo hi : Int} : ∀ {xs : List D}, xs.all (inB lo hi) = true → ∃ ns : List Int, xs = ns.map .int ∧ ∀ k ∈ ns, lo ≤ k ∧ k ≤ hi
  | [], _ => ⟨[], rfl, fun _ h => by cases h⟩
  | x :: xs, h => by
    rw [List.all_cons, Bool.and_eq_true] at h
    obtain ⟨ns, e, hn⟩ := inB_ints h.2
    have h1 := h.1
    unfold inB at h1
    split at h1
    · rename_i i
      rw [Bool.and_eq_true, decide_eq_true_eq, decide_eq_true_eq] at h1
      refine ⟨i :: ns, by rw [List.map_cons, e], fun k hk => ?_⟩
      rcases List.mem_cons.mp hk with rfl | hk
      · exact h1
      · exact hn k hk
    · cases h1
theorem ints_inB {lo hi : Int} {ns : List Int} (h : ∀ k ∈ ns, lo ≤ k ∧ k ≤ hi) : (ns.map PyData.int).all (inB lo hi) = true := by
  rw [List.all_map, List.all_eq_true]
  intro k hk
  show (decide (lo ≤ k) && decide (k ≤ hi)) = true
  rw [decide_eq_true (h k hk).1, decide_eq_true (h k hk).2]; rfl
theorem lotB_row {m : Int} {ns : List Int} (h : ∀ k ∈ ns, 0 ≤ k ∧ k < m) : lotB m (rowD ns) = decide (ns.Pairwise (· < ·)) := by
  unfold lotB
  refine decide_eq_decide.mpr ⟨?_, fun p => ⟨ns, rfl, h, p⟩⟩
  rintro ⟨ms, e, _, p⟩
  injection e with e
  rw [ints_inj e]; exact p
theorem lotB_no {m : Int} {d : D} (h : ¬ IsLotD m d) : lotB m d = false := by unfold lotB; exact decide_eq_false h
theorem lotB_iff {m : Int} {d : D} : lotB m d = true ↔ IsLotD m d := by unfold lotB; exact decide_eq_true_iff
theorem lotsB_no {m : Int} {d : D} (h : ¬ IsLotsD m d) : lotsB m d = false := by unfold lotsB; exact decide_eq_false h
theorem rows_inj : ∀ {as bs : List (List Int)}, as.map rowD = bs.map rowD → as = bs
  | [], [], _ => rfl
  | [], _ :: _, h => by cases h
  | _ :: _, [], h => by cases h
  | a :: as, b :: bs, h => by
    rw [List.map_cons, List.map_cons, List.cons.injEq] at h
    have h1 := h.1
    injection h1 with h1
    rw [ints_inj h1, rows_inj h.2]
/-- all are lots: rows -/
theorem lots_rows {m : Int} : ∀ {xs : List D}, (∀ x ∈ xs, IsLotD m x) → ∃ rs : List (List Int), xs = rs.map rowD ∧ ∀ r ∈ rs, IsLot m r
  | [], _ => ⟨[], rfl, fun _ h => by cases h⟩
  | x :: xs, h => by
    obtain ⟨rs, e, hr⟩ := lots_rows fun y hy => h y (List.mem_cons_of_mem _ hy)
    obtain ⟨r, e1, h1⟩ := h x List.mem_cons_self
    refine ⟨r :: rs, by rw [List.map_cons, e, e1], fun q hq => ?_⟩
    rcases List.mem_cons.mp hq with rfl | hq
    · exact h1
    · exact hr q hq
theorem lotsB_rows {m : Int} {rs : List (List Int)} (hl : rs.length ≤ 12) (h : ∀ r ∈ rs, IsLot m r) : lotsB m (rowsD rs) = decide (AscS rs) := by
  unfold lotsB
  refine decide_eq_decide.mpr ⟨?_, fun p => ⟨rs, rfl, hl, h, p⟩⟩
  rintro ⟨ss, e, _, _, p⟩
  injection e with e
  rw [rows_inj e]; exact p
/-- an ascending row within another is shorter, or it is the same -/
theorem sub_len : ∀ {a b : List Int}, a.Pairwise (· < ·) → b.Pairwise (· < ·) → (∀ x ∈ a, x ∈ b) → a.length ≤ b.length ∧ (a.length = b.length → a = b)
  | [], [], _, _, _ => ⟨Nat.le_refl _, fun _ => rfl⟩
  | [], _ :: _, _, _, _ => ⟨Nat.zero_le _, fun h => by cases h⟩
  | x :: a, [], _, _, h => absurd (h x List.mem_cons_self) (by simp)
  | x :: a, y :: b, p, q, h => by
    obtain ⟨p1, p2⟩ := List.pairwise_cons.mp p
    obtain ⟨q1, q2⟩ := List.pairwise_cons.mp q
    by_cases e : x = y
    · subst e
      have hs : ∀ z ∈ a, z ∈ b := fun z hz => by
        rcases List.mem_cons.mp (h z (List.mem_cons_of_mem _ hz)) with e | m
        · have := p1 z hz
          omega
        · exact m
      obtain ⟨r1, r2⟩ := sub_len p2 q2 hs
      exact ⟨Nat.succ_le_succ r1, fun e => by rw [r2 (Nat.succ.inj e)]⟩
    · have hx : x ∈ b := by
        rcases List.mem_cons.mp (h x List.mem_cons_self) with e' | m
        · exact absurd e' e
        · exact m
      have hs : ∀ z ∈ x :: a, z ∈ b := fun z hz => by
        rcases List.mem_cons.mp (h z hz) with e' | m
        · have := q1 x hx
          rcases List.mem_cons.mp hz with e2 | hz
          · omega
          · have := p1 z hz
            omega
        · exact m
      obtain ⟨r1, r2⟩ := sub_len p q2 hs
      simp only [List.length_cons] at r1 r2 ⊢
      exact ⟨by omega, fun e => by omega⟩
theorem lot_len {m : Int} {a : List Int} (h : IsLot m a) (hm : m ≤ 6) : a.length ≤ 6 := by
  have p : ((List.range 6).map fun i => ((i : Nat) : Int)).Pairwise (· < ·) := by decide
  have := (sub_len h.2 p fun x hx => ?_).1
  · simpa using this
  · have := h.1 x hx
    exact List.mem_map.mpr ⟨x.toNat, List.mem_range.mpr (by omega), by omega⟩
end K14

set_option Elab.async false
set_option linter.all false
set_option maxRecDepth 100000
set_option maxHeartbeats 4000000
namespace K14
open PySem PySem.Spec PyProof.Rows L2 Pd


theorem pu_is_whole (ds Q) (hl : ds.length = 1) (h : wf_is_whole ds Q) : ws_is_whole (edP Q) (enP N_is_whole ds) := by
  obtain ⟨d, rfl, q⟩ := h
  cases d <;> exact ⟨_, rfl, _, rfl, _, rfl, by first | exact ⟨_, rfl, _, rfl, _, rfl, q⟩ | exact q⟩
theorem inB_int {lo hi i : Int} : inB lo hi (.int i) = (decide (lo ≤ i) && decide (i ≤ hi)) := rfl
theorem pu_is_between (ds Q) (hl : ds.length = 3) (h : wf_is_between ds Q) : ws_is_between (edP Q) (enP N_is_between ds) := by
  obtain ⟨d, lo, hi, rfl, q⟩ := h
  simp only [ws_is_between, N_is_between, wf_is_whole, wCallW, wForFv, forFvW, wMkX, wDic1, wMtX, wForPr, forPrW, wPNil, wPCons, wVar, wC, wOp, wUn, wCl, wB, wTr, wAnd, wOr, wNot, wAndV, wOrV, wNotV, wIf, wCh, wNil, wCons, wTup, wLe, wSz, wFn, wFnJ, wFnB, wFnJB, wBNil, wBCons, wBOwn, rsvP, rsvJ, wNext, wSeq, wRet, wRetN, wDrop, wIfS, wSet, wSetOwn, wNever, wAug, wOpO, wIxO, wOpR, wClO, wApp, wSetIt, wFrz, wFor, wRg1, wRg2, wSq, wEnum, wZip, wZipM, wZipS, wZipU, wgN, wgT, wgNil, wgCons, wYes, wAsgT, wgLs, wLenS, wIxS, wFnS, wFnJL, wFnX, wRaise, wRaiseF, wForFn, forFnW, wMet, hide, wIsi, wListOf, wRev, edP, edJ, enP, enJ, enS, NotOwn, Flat, List.map_cons, List.map_nil, List.length_cons, List.length_nil, List.replicate_succ, List.replicate_zero, List.cons_append, List.nil_append, List.append_nil, List.set_cons_zero, List.set_cons_succ, List.getElem?_cons_zero, List.getElem?_cons_succ, Nat.reduceAdd, Nat.reduceSub, Option.some.injEq, Sl.imm.injEq, Sl.own.injEq, Sl.scr.injEq, exists_eq_left, exists_eq_left', exists_eq_right, exists_eq, exists_eq', exists_and_left, and_assoc, and_true, true_and, ne_eq, not_false_eq_true, Nat.succ_ne_zero, or_true, true_or, true_implies, forall_eq', forall_eq, PyData.int.injEq, PyData.bool.injEq, PyData.list.injEq, PyData.tuple.injEq, List.cons.injEq, i_add, i_iadd, i_sub, i_mul, i_mod, i_fdiv, i_fdivG, i_pow, i_neg, i_le, i_ge, i_gt, i_lt, i_eq, i_ne, i_intI, i_intB, i_abs, i_max, i_min, i_lenL, i_lenT, i_ixL, i_ixT, i_tupL, i_tupT, i_truB, Bool.not_true, Bool.not_false, Bool.false_eq_true, if_true, if_false, reduceIte]
  cases d with
  | int i =>
    rw [inB_int] at q
    simp only [isW, wCallW, wForFv, forFvW, wMkX, wDic1, wMtX, wForPr, forPrW, wPNil, wPCons, wVar, wC, wOp, wUn, wCl, wB, wTr, wAnd, wOr, wNot, wAndV, wOrV, wNotV, wIf, wCh, wNil, wCons, wTup, wLe, wSz, wFn, wFnJ, wFnB, wFnJB, wBNil, wBCons, wBOwn, rsvP, rsvJ, wNext, wSeq, wRet, wRetN, wDrop, wIfS, wSet, wSetOwn, wNever, wAug, wOpO, wIxO, wOpR, wClO, wApp, wSetIt, wFrz, wFor, wRg1, wRg2, wSq, wEnum, wZip, wZipM, wZipS, wZipU, wgN, wgT, wgNil, wgCons, wYes, wAsgT, wgLs, wLenS, wIxS, wFnS, wFnJL, wFnX, wRaise, wRaiseF, wForFn, forFnW, wMet, hide, wIsi, wListOf, wRev, edP, edJ, enP, enJ, enS, NotOwn, Flat, List.map_cons, List.map_nil, List.length_cons, List.length_nil, List.replicate_succ, List.replicate_zero, List.cons_append, List.nil_append, List.append_nil, List.set_cons_zero, List.set_cons_succ, List.getElem?_cons_zero, List.getElem?_cons_succ, Nat.reduceAdd, Nat.reduceSub, Option.some.injEq, Sl.imm.injEq, Sl.own.injEq, Sl.scr.injEq, exists_eq_left, exists_eq_left', exists_eq_right, exists_eq, exists_eq', exists_and_left, and_assoc, and_true, true_and, ne_eq, not_false_eq_true, Nat.succ_ne_zero, or_true, true_or, true_implies, forall_eq', forall_eq, PyData.int.injEq, PyData.bool.injEq, PyData.list.injEq, PyData.tuple.injEq, List.cons.injEq, i_add, i_iadd, i_sub, i_mul, i_mod, i_fdiv, i_fdivG, i_pow, i_neg, i_le, i_ge, i_gt, i_lt, i_eq, i_ne, i_intI, i_intB, i_abs, i_max, i_min, i_lenL, i_lenT, i_ixL, i_ixT, i_tupL, i_tupT, i_truB, Bool.not_true, Bool.not_false, Bool.false_eq_true, if_true, if_false, reduceIte]
    by_cases h : lo ≤ i
    · rw [decide_eq_true h] at q ⊢; exact q
    · rw [decide_eq_false h] at q ⊢; exact q
  | _ => exact q
theorem kit_tup (xs : List D) : kitB (tyName (.tuple xs)) "tuple" = some true := rfl
theorem sl200 {n : Nat} (h : n ≤ 200) : n ≤ sizeLine := Nat.le_trans h (by decide)
theorem adjI (ns : List Int) : ((ns.zip (ns.drop 1)).all fun p => decide (p.1 < p.2)) = decide (ns.Pairwise (· < ·)) := by
  have := adj (R := fun a b : Int => decide (a < b)) (fun a b c h1 h2 => by rw [decide_eq_true_eq] at *; omega) ns
  rw [Bool.eq_iff_iff, this, decide_eq_true_iff]
  simp only [decide_eq_true_eq]
theorem adjR (rs : List (List Int)) : ((rs.zip (rs.drop 1)).all fun p => HT.lexLt p.1 p.2) = decide (AscS rs) := by
  have := adj (R := HT.lexLt) (fun a b c h1 h2 => lex_trans' h1 h2) rs
  rw [Bool.eq_iff_iff, this, decide_eq_true_iff]
  exact Iff.rfl
/-- all(one < other for one, other in zip(value, value[1:])) -/
theorem pu_is_ascending (ds Q) (hl : ds.length = 2) (h : wf_is_ascending ds Q) : ws_is_ascending (edP Q) (enP N_is_ascending ds) := by
  obtain ⟨d, m, rfl, hz, q⟩ := h
  cases d with
  | tuple xs =>
    simp only [ws_is_ascending, N_is_ascending, kit_tup, wCallW, wForFv, forFvW, wMkX, wDic1, wMtX, wForPr, forPrW, wPNil, wPCons, wVar, wC, wOp, wUn, wCl, wB, wTr, wAnd, wOr, wNot, wAndV, wOrV, wNotV, wIf, wCh, wNil, wCons, wTup, wLe, wSz, wFn, wFnJ, wFnB, wFnJB, wBNil, wBCons, wBOwn, rsvP, rsvJ, wNext, wSeq, wRet, wRetN, wDrop, wIfS, wSet, wSetOwn, wNever, wAug, wOpO, wIxO, wOpR, wClO, wApp, wSetIt, wFrz, wFor, wRg1, wRg2, wSq, wEnum, wZip, wZipM, wZipS, wZipU, wgN, wgT, wgNil, wgCons, wYes, wAsgT, wgLs, wLenS, wIxS, wFnS, wFnJL, wFnX, wRaise, wRaiseF, wForFn, forFnW, wMet, hide, wIsi, wListOf, wRev, edP, edJ, enP, enJ, enS, NotOwn, Flat, List.map_cons, List.map_nil, List.length_cons, List.length_nil, List.replicate_succ, List.replicate_zero, List.cons_append, List.nil_append, List.append_nil, List.set_cons_zero, List.set_cons_succ, List.getElem?_cons_zero, List.getElem?_cons_succ, Nat.reduceAdd, Nat.reduceSub, Option.some.injEq, Sl.imm.injEq, Sl.own.injEq, Sl.scr.injEq, exists_eq_left, exists_eq_left', exists_eq_right, exists_eq, exists_eq', exists_and_left, and_assoc, and_true, true_and, ne_eq, not_false_eq_true, Nat.succ_ne_zero, or_true, true_or, true_implies, forall_eq', forall_eq, PyData.int.injEq, PyData.bool.injEq, PyData.list.injEq, PyData.tuple.injEq, List.cons.injEq, i_add, i_iadd, i_sub, i_mul, i_mod, i_fdiv, i_fdivG, i_pow, i_neg, i_le, i_ge, i_gt, i_lt, i_eq, i_ne, i_intI, i_intB, i_abs, i_max, i_min, i_lenL, i_lenT, i_ixL, i_ixT, i_tupL, i_tupT, i_truB, Bool.not_true, Bool.not_false, Bool.false_eq_true, if_true, if_false, reduceIte]
    refine lc1 (f := fun x => .bool (inB 0 (m - 1) x)) (xs := xs) (by decide) (fun Q q => ⟨_, rfl, _, Or.inr rfl, q⟩) trivial (sl200 (Nat.le_trans hz (by decide))) (fun x hx Q q => ?_) ?_
    · simp only [wf_is_between, wCallW, wForFv, forFvW, wMkX, wDic1, wMtX, wForPr, forPrW, wPNil, wPCons, wVar, wC, wOp, wUn, wCl, wB, wTr, wAnd, wOr, wNot, wAndV, wOrV, wNotV, wIf, wCh, wNil, wCons, wTup, wLe, wSz, wFn, wFnJ, wFnB, wFnJB, wBNil, wBCons, wBOwn, rsvP, rsvJ, wNext, wSeq, wRet, wRetN, wDrop, wIfS, wSet, wSetOwn, wNever, wAug, wOpO, wIxO, wOpR, wClO, wApp, wSetIt, wFrz, wFor, wRg1, wRg2, wSq, wEnum, wZip, wZipM, wZipS, wZipU, wgN, wgT, wgNil, wgCons, wYes, wAsgT, wgLs, wLenS, wIxS, wFnS, wFnJL, wFnX, wRaise, wRaiseF, wForFn, forFnW, wMet, hide, wIsi, wListOf, wRev, edP, edJ, enP, enJ, enS, NotOwn, Flat, List.map_cons, List.map_nil, List.length_cons, List.length_nil, List.replicate_succ, List.replicate_zero, List.cons_append, List.nil_append, List.append_nil, List.set_cons_zero, List.set_cons_succ, List.getElem?_cons_zero, List.getElem?_cons_succ, Nat.reduceAdd, Nat.reduceSub, Option.some.injEq, Sl.imm.injEq, Sl.own.injEq, Sl.scr.injEq, exists_eq_left, exists_eq_left', exists_eq_right, exists_eq, exists_eq', exists_and_left, and_assoc, and_true, true_and, ne_eq, not_false_eq_true, Nat.succ_ne_zero, or_true, true_or, true_implies, forall_eq', forall_eq, PyData.int.injEq, PyData.bool.injEq, PyData.list.injEq, PyData.tuple.injEq, List.cons.injEq, i_add, i_iadd, i_sub, i_mul, i_mod, i_fdiv, i_fdivG, i_pow, i_neg, i_le, i_ge, i_gt, i_lt, i_eq, i_ne, i_intI, i_intB, i_abs, i_max, i_min, i_lenL, i_lenT, i_ixL, i_ixT, i_tupL, i_tupT, i_truB, Bool.not_true, Bool.not_false, Bool.false_eq_true, if_true, if_false, reduceIte]
      exact q
    · refine ⟨_, all_map.mpr rfl, ?_⟩
      simp -failIfUnchanged only [wCallW, wForFv, forFvW, wMkX, wDic1, wMtX, wForPr, forPrW, wPNil, wPCons, wVar, wC, wOp, wUn, wCl, wB, wTr, wAnd, wOr, wNot, wAndV, wOrV, wNotV, wIf, wCh, wNil, wCons, wTup, wLe, wSz, wFn, wFnJ, wFnB, wFnJB, wBNil, wBCons, wBOwn, rsvP, rsvJ, wNext, wRet, wRetN, wDrop, wIfS, wSet, wSetOwn, wNever, wAug, wOpO, wIxO, wOpR, wClO, wApp, wSetIt, wFrz, wFor, wRg1, wRg2, wSq, wEnum, wZip, wZipM, wZipS, wZipU, wgN, wgT, wgNil, wgCons, wYes, wAsgT, wgLs, wLenS, wIxS, wFnS, wFnJL, wFnX, wRaise, wRaiseF, wForFn, forFnW, wMet, hide, wIsi, wListOf, wRev, edP, edJ, enP, enJ, enS, NotOwn, Flat, List.map_cons, List.map_nil, List.length_cons, List.length_nil, List.replicate_succ, List.replicate_zero, List.cons_append, List.nil_append, List.append_nil, List.set_cons_zero, List.set_cons_succ, List.getElem?_cons_zero, List.getElem?_cons_succ, Nat.reduceAdd, Nat.reduceSub, Option.some.injEq, Sl.imm.injEq, Sl.own.injEq, Sl.scr.injEq, exists_eq_left, exists_eq_left', exists_eq_right, exists_eq, exists_eq', exists_and_left, and_assoc, and_true, true_and, ne_eq, not_false_eq_true, Nat.succ_ne_zero, or_true, true_or, true_implies, forall_eq', forall_eq, PyData.int.injEq, PyData.bool.injEq, PyData.list.injEq, PyData.tuple.injEq, List.cons.injEq, i_add, i_iadd, i_sub, i_mul, i_mod, i_fdiv, i_fdivG, i_pow, i_neg, i_le, i_ge, i_gt, i_lt, i_eq, i_ne, i_intI, i_intB, i_abs, i_max, i_min, i_lenL, i_lenT, i_ixL, i_ixT, i_tupL, i_tupT, i_truB, Bool.not_true, Bool.not_false, Bool.false_eq_true, if_true, if_false, reduceIte]
      cases hb : xs.all (inB 0 (m - 1)) with
      | false =>
        simp -failIfUnchanged only [wCallW, wForFv, forFvW, wMkX, wDic1, wMtX, wForPr, forPrW, wPNil, wPCons, wVar, wC, wOp, wUn, wCl, wB, wTr, wAnd, wOr, wNot, wAndV, wOrV, wNotV, wIf, wCh, wNil, wCons, wTup, wLe, wSz, wFn, wFnJ, wFnB, wFnJB, wBNil, wBCons, wBOwn, rsvP, rsvJ, wNext, wRet, wRetN, wDrop, wIfS, wSet, wSetOwn, wNever, wAug, wOpO, wIxO, wOpR, wClO, wApp, wSetIt, wFrz, wFor, wRg1, wRg2, wSq, wEnum, wZip, wZipM, wZipS, wZipU, wgN, wgT, wgNil, wgCons, wYes, wAsgT, wgLs, wLenS, wIxS, wFnS, wFnJL, wFnX, wRaise, wRaiseF, wForFn, forFnW, wMet, hide, wIsi, wListOf, wRev, edP, edJ, enP, enJ, enS, NotOwn, Flat, List.map_cons, List.map_nil, List.length_cons, List.length_nil, List.replicate_succ, List.replicate_zero, List.cons_append, List.nil_append, List.append_nil, List.set_cons_zero, List.set_cons_succ, List.getElem?_cons_zero, List.getElem?_cons_succ, Nat.reduceAdd, Nat.reduceSub, Option.some.injEq, Sl.imm.injEq, Sl.own.injEq, Sl.scr.injEq, exists_eq_left, exists_eq_left', exists_eq_right, exists_eq, exists_eq', exists_and_left, and_assoc, and_true, true_and, ne_eq, not_false_eq_true, Nat.succ_ne_zero, or_true, true_or, true_implies, forall_eq', forall_eq, PyData.int.injEq, PyData.bool.injEq, PyData.list.injEq, PyData.tuple.injEq, List.cons.injEq, i_add, i_iadd, i_sub, i_mul, i_mod, i_fdiv, i_fdivG, i_pow, i_neg, i_le, i_ge, i_gt, i_lt, i_eq, i_ne, i_intI, i_intB, i_abs, i_max, i_min, i_lenL, i_lenT, i_ixL, i_ixT, i_tupL, i_tupT, i_truB, Bool.not_true, Bool.not_false, Bool.false_eq_true, if_true, if_false, reduceIte]
        rw [lotB_no (d := .tuple xs) (by
          rintro ⟨ns, e, h1, _⟩
          injection e with e
          rw [e, ints_inB fun k hk => ⟨(h1 k hk).1, by have := (h1 k hk).2; omega⟩] at hb
          cases hb)] at q
        exact q
      | true =>
        obtain ⟨ns, rfl, hn⟩ := inB_ints hb
        simp -failIfUnchanged only [wCallW, wForFv, forFvW, wMkX, wDic1, wMtX, wForPr, forPrW, wPNil, wPCons, wVar, wC, wOp, wUn, wCl, wB, wTr, wAnd, wOr, wNot, wAndV, wOrV, wNotV, wIf, wCh, wNil, wCons, wTup, wLe, wSz, wFn, wFnJ, wFnB, wFnJB, wBNil, wBCons, wBOwn, rsvP, rsvJ, wNext, wRet, wRetN, wDrop, wIfS, wSet, wSetOwn, wNever, wAug, wOpO, wIxO, wOpR, wClO, wApp, wSetIt, wFrz, wFor, wRg1, wRg2, wSq, wEnum, wZip, wZipM, wZipS, wZipU, wgN, wgT, wgNil, wgCons, wYes, wAsgT, wgLs, wLenS, wIxS, wFnS, wFnJL, wFnX, wRaise, wRaiseF, wForFn, forFnW, wMet, hide, wIsi, wListOf, wRev, edP, edJ, enP, enJ, enS, NotOwn, Flat, List.map_cons, List.map_nil, List.length_cons, List.length_nil, List.replicate_succ, List.replicate_zero, List.cons_append, List.nil_append, List.append_nil, List.set_cons_zero, List.set_cons_succ, List.getElem?_cons_zero, List.getElem?_cons_succ, Nat.reduceAdd, Nat.reduceSub, Option.some.injEq, Sl.imm.injEq, Sl.own.injEq, Sl.scr.injEq, exists_eq_left, exists_eq_left', exists_eq_right, exists_eq, exists_eq', exists_and_left, and_assoc, and_true, true_and, ne_eq, not_false_eq_true, Nat.succ_ne_zero, or_true, true_or, true_implies, forall_eq', forall_eq, PyData.int.injEq, PyData.bool.injEq, PyData.list.injEq, PyData.tuple.injEq, List.cons.injEq, i_add, i_iadd, i_sub, i_mul, i_mod, i_fdiv, i_fdivG, i_pow, i_neg, i_le, i_ge, i_gt, i_lt, i_eq, i_ne, i_intI, i_intB, i_abs, i_max, i_min, i_lenL, i_lenT, i_ixL, i_ixT, i_tupL, i_tupT, i_truB, Bool.not_true, Bool.not_false, Bool.false_eq_true, if_true, if_false, reduceIte]
        refine lcY (α := Int × Int) (e1 := [.imm (.tuple (ns.map .int)), .imm (.int m), .un, .un, .un]) (X := fun p => .tuple [.int p.1, .int p.2]) (f := fun p => .bool (decide (p.1 < p.2))) (xs := ns.zip (ns.drop 1)) (fun p => [.imm (.tuple (ns.map .int)), .imm (.int m), .imm (.int p.1), .imm (.int p.2), .un]) (by decide) (fun Q q => ?_) (no2 trivial trivial) ?_ (fun _ => rfl) (fun p hp Q q => ?_) (fun p hp Q q => ?_) ?_
        · simp -failIfUnchanged only [wSl, wPart, wNoP, wCallW, wForFv, forFvW, wMkX, wDic1, wMtX, wForPr, forPrW, wPNil, wPCons, wVar, wC, wOp, wUn, wCl, wB, wTr, wAnd, wOr, wNot, wAndV, wOrV, wNotV, wIf, wCh, wNil, wCons, wTup, wLe, wSz, wFn, wFnJ, wFnB, wFnJB, wBNil, wBCons, wBOwn, rsvP, rsvJ, wNext, wRet, wRetN, wDrop, wIfS, wSet, wSetOwn, wNever, wAug, wOpO, wIxO, wOpR, wClO, wApp, wSetIt, wFrz, wFor, wRg1, wRg2, wSq, wEnum, wZip, wZipM, wZipS, wZipU, wgN, wgT, wgNil, wgCons, wYes, wAsgT, wgLs, wLenS, wIxS, wFnS, wFnJL, wFnX, wRaise, wRaiseF, wForFn, forFnW, wMet, hide, wIsi, wListOf, wRev, edP, edJ, enP, enJ, enS, NotOwn, Flat, List.map_cons, List.map_nil, List.length_cons, List.length_nil, List.replicate_succ, List.replicate_zero, List.cons_append, List.nil_append, List.append_nil, List.set_cons_zero, List.set_cons_succ, List.getElem?_cons_zero, List.getElem?_cons_succ, Nat.reduceAdd, Nat.reduceSub, Option.some.injEq, Sl.imm.injEq, Sl.own.injEq, Sl.scr.injEq, exists_eq_left, exists_eq_left', exists_eq_right, exists_eq, exists_eq', exists_and_left, and_assoc, and_true, true_and, ne_eq, not_false_eq_true, Nat.succ_ne_zero, or_true, true_or, true_implies, forall_eq', forall_eq, PyData.int.injEq, PyData.bool.injEq, PyData.list.injEq, PyData.tuple.injEq, List.cons.injEq, i_add, i_iadd, i_sub, i_mul, i_mod, i_fdiv, i_fdivG, i_pow, i_neg, i_le, i_ge, i_gt, i_lt, i_eq, i_ne, i_intI, i_intB, i_abs, i_max, i_min, i_lenL, i_lenT, i_ixL, i_ixT, i_tupL, i_tupT, i_truB, Bool.not_true, Bool.not_false, Bool.false_eq_true, if_true, if_false, reduceIte]
          refine Or.inr ⟨_, _, Or.inr ⟨rfl, rfl⟩, ?_⟩
          rw [show cutA (ns.map PyData.int) (some 1) none = (ns.map PyData.int).drop 1 from cut_from (k := 1), ← List.map_drop, zip_map2]
          exact q
        · refine Nat.le_trans ?_ (sl200 (Nat.le_trans hz (by decide)))
          rw [List.length_zip, List.length_map]
          exact Nat.min_le_left _ _
        · simp -failIfUnchanged only [wip, wCallW, wForFv, forFvW, wMkX, wDic1, wMtX, wForPr, forPrW, wPNil, wPCons, wVar, wC, wOp, wUn, wCl, wB, wTr, wAnd, wOr, wNot, wAndV, wOrV, wNotV, wIf, wCh, wNil, wCons, wTup, wLe, wSz, wFn, wFnJ, wFnB, wFnJB, wBNil, wBCons, wBOwn, rsvP, rsvJ, wNext, wRet, wRetN, wDrop, wIfS, wSet, wSetOwn, wNever, wAug, wOpO, wIxO, wOpR, wClO, wApp, wSetIt, wFrz, wFor, wRg1, wRg2, wSq, wEnum, wZip, wZipM, wZipS, wZipU, wgN, wgT, wgNil, wgCons, wYes, wAsgT, wgLs, wLenS, wIxS, wFnS, wFnJL, wFnX, wRaise, wRaiseF, wForFn, forFnW, wMet, hide, wIsi, wListOf, wRev, edP, edJ, enP, enJ, enS, NotOwn, Flat, List.map_cons, List.map_nil, List.length_cons, List.length_nil, List.replicate_succ, List.replicate_zero, List.cons_append, List.nil_append, List.append_nil, List.set_cons_zero, List.set_cons_succ, List.getElem?_cons_zero, List.getElem?_cons_succ, Nat.reduceAdd, Nat.reduceSub, Option.some.injEq, Sl.imm.injEq, Sl.own.injEq, Sl.scr.injEq, exists_eq_left, exists_eq_left', exists_eq_right, exists_eq, exists_eq', exists_and_left, and_assoc, and_true, true_and, ne_eq, not_false_eq_true, Nat.succ_ne_zero, or_true, true_or, true_implies, forall_eq', forall_eq, PyData.int.injEq, PyData.bool.injEq, PyData.list.injEq, PyData.tuple.injEq, List.cons.injEq, i_add, i_iadd, i_sub, i_mul, i_mod, i_fdiv, i_fdivG, i_pow, i_neg, i_le, i_ge, i_gt, i_lt, i_eq, i_ne, i_intI, i_intB, i_abs, i_max, i_min, i_lenL, i_lenT, i_ixL, i_ixT, i_tupL, i_tupT, i_truB, Bool.not_true, Bool.not_false, Bool.false_eq_true, if_true, if_false, reduceIte]
          exact q
        · simp -failIfUnchanged only [i_lt, wCallW, wForFv, forFvW, wMkX, wDic1, wMtX, wForPr, forPrW, wPNil, wPCons, wVar, wC, wOp, wUn, wCl, wB, wTr, wAnd, wOr, wNot, wAndV, wOrV, wNotV, wIf, wCh, wNil, wCons, wTup, wLe, wSz, wFn, wFnJ, wFnB, wFnJB, wBNil, wBCons, wBOwn, rsvP, rsvJ, wNext, wRet, wRetN, wDrop, wIfS, wSet, wSetOwn, wNever, wAug, wOpO, wIxO, wOpR, wClO, wApp, wSetIt, wFrz, wFor, wRg1, wRg2, wSq, wEnum, wZip, wZipM, wZipS, wZipU, wgN, wgT, wgNil, wgCons, wYes, wAsgT, wgLs, wLenS, wIxS, wFnS, wFnJL, wFnX, wRaise, wRaiseF, wForFn, forFnW, wMet, hide, wIsi, wListOf, wRev, edP, edJ, enP, enJ, enS, NotOwn, Flat, List.map_cons, List.map_nil, List.length_cons, List.length_nil, List.replicate_succ, List.replicate_zero, List.cons_append, List.nil_append, List.append_nil, List.set_cons_zero, List.set_cons_succ, List.getElem?_cons_zero, List.getElem?_cons_succ, Nat.reduceAdd, Nat.reduceSub, Option.some.injEq, Sl.imm.injEq, Sl.own.injEq, Sl.scr.injEq, exists_eq_left, exists_eq_left', exists_eq_right, exists_eq, exists_eq', exists_and_left, and_assoc, and_true, true_and, ne_eq, not_false_eq_true, Nat.succ_ne_zero, or_true, true_or, true_implies, forall_eq', forall_eq, PyData.int.injEq, PyData.bool.injEq, PyData.list.injEq, PyData.tuple.injEq, List.cons.injEq, i_add, i_iadd, i_sub, i_mul, i_mod, i_fdiv, i_fdivG, i_pow, i_neg, i_le, i_ge, i_gt, i_lt, i_eq, i_ne, i_intI, i_intB, i_abs, i_max, i_min, i_lenL, i_lenT, i_ixL, i_ixT, i_tupL, i_tupT, i_truB, Bool.not_true, Bool.not_false, Bool.false_eq_true, if_true, if_false, reduceIte]
          exact q
        · refine ⟨_, all_map.mpr rfl, ?_⟩
          rw [adjI]
          rw [show lotB m (.tuple (ns.map .int)) = decide (ns.Pairwise (· < ·)) from lotB_row fun k hk => ⟨(hn k hk).1, by have := (hn k hk).2; omega⟩] at q
          exact q
  | none => simp only [ws_is_ascending, N_is_ascending, show kitB (tyName .none) "tuple" = some false from rfl, wCallW, wForFv, forFvW, wMkX, wDic1, wMtX, wForPr, forPrW, wPNil, wPCons, wVar, wC, wOp, wUn, wCl, wB, wTr, wAnd, wOr, wNot, wAndV, wOrV, wNotV, wIf, wCh, wNil, wCons, wTup, wLe, wSz, wFn, wFnJ, wFnB, wFnJB, wBNil, wBCons, wBOwn, rsvP, rsvJ, wNext, wSeq, wRet, wRetN, wDrop, wIfS, wSet, wSetOwn, wNever, wAug, wOpO, wIxO, wOpR, wClO, wApp, wSetIt, wFrz, wFor, wRg1, wRg2, wSq, wEnum, wZip, wZipM, wZipS, wZipU, wgN, wgT, wgNil, wgCons, wYes, wAsgT, wgLs, wLenS, wIxS, wFnS, wFnJL, wFnX, wRaise, wRaiseF, wForFn, forFnW, wMet, hide, wIsi, wListOf, wRev, edP, edJ, enP, enJ, enS, NotOwn, Flat, List.map_cons, List.map_nil, List.length_cons, List.length_nil, List.replicate_succ, List.replicate_zero, List.cons_append, List.nil_append, List.append_nil, List.set_cons_zero, List.set_cons_succ, List.getElem?_cons_zero, List.getElem?_cons_succ, Nat.reduceAdd, Nat.reduceSub, Option.some.injEq, Sl.imm.injEq, Sl.own.injEq, Sl.scr.injEq, exists_eq_left, exists_eq_left', exists_eq_right, exists_eq, exists_eq', exists_and_left, and_assoc, and_true, true_and, ne_eq, not_false_eq_true, Nat.succ_ne_zero, or_true, true_or, true_implies, forall_eq', forall_eq, PyData.int.injEq, PyData.bool.injEq, PyData.list.injEq, PyData.tuple.injEq, List.cons.injEq, i_add, i_iadd, i_sub, i_mul, i_mod, i_fdiv, i_fdivG, i_pow, i_neg, i_le, i_ge, i_gt, i_lt, i_eq, i_ne, i_intI, i_intB, i_abs, i_max, i_min, i_lenL, i_lenT, i_ixL, i_ixT, i_tupL, i_tupT, i_truB, Bool.not_true, Bool.not_false, Bool.false_eq_true, if_true, if_false, reduceIte]; rw [lotB_no (by rintro ⟨_, h, _⟩; cases h)] at q; exact q
  | bool b => simp only [ws_is_ascending, N_is_ascending, show kitB (tyName (.bool b)) "tuple" = some false from rfl, wCallW, wForFv, forFvW, wMkX, wDic1, wMtX, wForPr, forPrW, wPNil, wPCons, wVar, wC, wOp, wUn, wCl, wB, wTr, wAnd, wOr, wNot, wAndV, wOrV, wNotV, wIf, wCh, wNil, wCons, wTup, wLe, wSz, wFn, wFnJ, wFnB, wFnJB, wBNil, wBCons, wBOwn, rsvP, rsvJ, wNext, wSeq, wRet, wRetN, wDrop, wIfS, wSet, wSetOwn, wNever, wAug, wOpO, wIxO, wOpR, wClO, wApp, wSetIt, wFrz, wFor, wRg1, wRg2, wSq, wEnum, wZip, wZipM, wZipS, wZipU, wgN, wgT, wgNil, wgCons, wYes, wAsgT, wgLs, wLenS, wIxS, wFnS, wFnJL, wFnX, wRaise, wRaiseF, wForFn, forFnW, wMet, hide, wIsi, wListOf, wRev, edP, edJ, enP, enJ, enS, NotOwn, Flat, List.map_cons, List.map_nil, List.length_cons, List.length_nil, List.replicate_succ, List.replicate_zero, List.cons_append, List.nil_append, List.append_nil, List.set_cons_zero, List.set_cons_succ, List.getElem?_cons_zero, List.getElem?_cons_succ, Nat.reduceAdd, Nat.reduceSub, Option.some.injEq, Sl.imm.injEq, Sl.own.injEq, Sl.scr.injEq, exists_eq_left, exists_eq_left', exists_eq_right, exists_eq, exists_eq', exists_and_left, and_assoc, and_true, true_and, ne_eq, not_false_eq_true, Nat.succ_ne_zero, or_true, true_or, true_implies, forall_eq', forall_eq, PyData.int.injEq, PyData.bool.injEq, PyData.list.injEq, PyData.tuple.injEq, List.cons.injEq, i_add, i_iadd, i_sub, i_mul, i_mod, i_fdiv, i_fdivG, i_pow, i_neg, i_le, i_ge, i_gt, i_lt, i_eq, i_ne, i_intI, i_intB, i_abs, i_max, i_min, i_lenL, i_lenT, i_ixL, i_ixT, i_tupL, i_tupT, i_truB, Bool.not_true, Bool.not_false, Bool.false_eq_true, if_true, if_false, reduceIte]; rw [lotB_no (by rintro ⟨_, h, _⟩; cases h)] at q; exact q
  | int i => simp only [ws_is_ascending, N_is_ascending, show kitB (tyName (.int i)) "tuple" = some false from rfl, wCallW, wForFv, forFvW, wMkX, wDic1, wMtX, wForPr, forPrW, wPNil, wPCons, wVar, wC, wOp, wUn, wCl, wB, wTr, wAnd, wOr, wNot, wAndV, wOrV, wNotV, wIf, wCh, wNil, wCons, wTup, wLe, wSz, wFn, wFnJ, wFnB, wFnJB, wBNil, wBCons, wBOwn, rsvP, rsvJ, wNext, wSeq, wRet, wRetN, wDrop, wIfS, wSet, wSetOwn, wNever, wAug, wOpO, wIxO, wOpR, wClO, wApp, wSetIt, wFrz, wFor, wRg1, wRg2, wSq, wEnum, wZip, wZipM, wZipS, wZipU, wgN, wgT, wgNil, wgCons, wYes, wAsgT, wgLs, wLenS, wIxS, wFnS, wFnJL, wFnX, wRaise, wRaiseF, wForFn, forFnW, wMet, hide, wIsi, wListOf, wRev, edP, edJ, enP, enJ, enS, NotOwn, Flat, List.map_cons, List.map_nil, List.length_cons, List.length_nil, List.replicate_succ, List.replicate_zero, List.cons_append, List.nil_append, List.append_nil, List.set_cons_zero, List.set_cons_succ, List.getElem?_cons_zero, List.getElem?_cons_succ, Nat.reduceAdd, Nat.reduceSub, Option.some.injEq, Sl.imm.injEq, Sl.own.injEq, Sl.scr.injEq, exists_eq_left, exists_eq_left', exists_eq_right, exists_eq, exists_eq', exists_and_left, and_assoc, and_true, true_and, ne_eq, not_false_eq_true, Nat.succ_ne_zero, or_true, true_or, true_implies, forall_eq', forall_eq, PyData.int.injEq, PyData.bool.injEq, PyData.list.injEq, PyData.tuple.injEq, List.cons.injEq, i_add, i_iadd, i_sub, i_mul, i_mod, i_fdiv, i_fdivG, i_pow, i_neg, i_le, i_ge, i_gt, i_lt, i_eq, i_ne, i_intI, i_intB, i_abs, i_max, i_min, i_lenL, i_lenT, i_ixL, i_ixT, i_tupL, i_tupT, i_truB, Bool.not_true, Bool.not_false, Bool.false_eq_true, if_true, if_false, reduceIte]; rw [lotB_no (by rintro ⟨_, h, _⟩; cases h)] at q; exact q
  | str i => simp only [ws_is_ascending, N_is_ascending, show kitB (tyName (.str i)) "tuple" = some false from rfl, wCallW, wForFv, forFvW, wMkX, wDic1, wMtX, wForPr, forPrW, wPNil, wPCons, wVar, wC, wOp, wUn, wCl, wB, wTr, wAnd, wOr, wNot, wAndV, wOrV, wNotV, wIf, wCh, wNil, wCons, wTup, wLe, wSz, wFn, wFnJ, wFnB, wFnJB, wBNil, wBCons, wBOwn, rsvP, rsvJ, wNext, wSeq, wRet, wRetN, wDrop, wIfS, wSet, wSetOwn, wNever, wAug, wOpO, wIxO, wOpR, wClO, wApp, wSetIt, wFrz, wFor, wRg1, wRg2, wSq, wEnum, wZip, wZipM, wZipS, wZipU, wgN, wgT, wgNil, wgCons, wYes, wAsgT, wgLs, wLenS, wIxS, wFnS, wFnJL, wFnX, wRaise, wRaiseF, wForFn, forFnW, wMet, hide, wIsi, wListOf, wRev, edP, edJ, enP, enJ, enS, NotOwn, Flat, List.map_cons, List.map_nil, List.length_cons, List.length_nil, List.replicate_succ, List.replicate_zero, List.cons_append, List.nil_append, List.append_nil, List.set_cons_zero, List.set_cons_succ, List.getElem?_cons_zero, List.getElem?_cons_succ, Nat.reduceAdd, Nat.reduceSub, Option.some.injEq, Sl.imm.injEq, Sl.own.injEq, Sl.scr.injEq, exists_eq_left, exists_eq_left', exists_eq_right, exists_eq, exists_eq', exists_and_left, and_assoc, and_true, true_and, ne_eq, not_false_eq_true, Nat.succ_ne_zero, or_true, true_or, true_implies, forall_eq', forall_eq, PyData.int.injEq, PyData.bool.injEq, PyData.list.injEq, PyData.tuple.injEq, List.cons.injEq, i_add, i_iadd, i_sub, i_mul, i_mod, i_fdiv, i_fdivG, i_pow, i_neg, i_le, i_ge, i_gt, i_lt, i_eq, i_ne, i_intI, i_intB, i_abs, i_max, i_min, i_lenL, i_lenT, i_ixL, i_ixT, i_tupL, i_tupT, i_truB, Bool.not_true, Bool.not_false, Bool.false_eq_true, if_true, if_false, reduceIte]; rw [lotB_no (by rintro ⟨_, h, _⟩; cases h)] at q; exact q
  | list i => simp only [ws_is_ascending, N_is_ascending, show kitB (tyName (.list i)) "tuple" = some false from rfl, wCallW, wForFv, forFvW, wMkX, wDic1, wMtX, wForPr, forPrW, wPNil, wPCons, wVar, wC, wOp, wUn, wCl, wB, wTr, wAnd, wOr, wNot, wAndV, wOrV, wNotV, wIf, wCh, wNil, wCons, wTup, wLe, wSz, wFn, wFnJ, wFnB, wFnJB, wBNil, wBCons, wBOwn, rsvP, rsvJ, wNext, wSeq, wRet, wRetN, wDrop, wIfS, wSet, wSetOwn, wNever, wAug, wOpO, wIxO, wOpR, wClO, wApp, wSetIt, wFrz, wFor, wRg1, wRg2, wSq, wEnum, wZip, wZipM, wZipS, wZipU, wgN, wgT, wgNil, wgCons, wYes, wAsgT, wgLs, wLenS, wIxS, wFnS, wFnJL, wFnX, wRaise, wRaiseF, wForFn, forFnW, wMet, hide, wIsi, wListOf, wRev, edP, edJ, enP, enJ, enS, NotOwn, Flat, List.map_cons, List.map_nil, List.length_cons, List.length_nil, List.replicate_succ, List.replicate_zero, List.cons_append, List.nil_append, List.append_nil, List.set_cons_zero, List.set_cons_succ, List.getElem?_cons_zero, List.getElem?_cons_succ, Nat.reduceAdd, Nat.reduceSub, Option.some.injEq, Sl.imm.injEq, Sl.own.injEq, Sl.scr.injEq, exists_eq_left, exists_eq_left', exists_eq_right, exists_eq, exists_eq', exists_and_left, and_assoc, and_true, true_and, ne_eq, not_false_eq_true, Nat.succ_ne_zero, or_true, true_or, true_implies, forall_eq', forall_eq, PyData.int.injEq, PyData.bool.injEq, PyData.list.injEq, PyData.tuple.injEq, List.cons.injEq, i_add, i_iadd, i_sub, i_mul, i_mod, i_fdiv, i_fdivG, i_pow, i_neg, i_le, i_ge, i_gt, i_lt, i_eq, i_ne, i_intI, i_intB, i_abs, i_max, i_min, i_lenL, i_lenT, i_ixL, i_ixT, i_tupL, i_tupT, i_truB, Bool.not_true, Bool.not_false, Bool.false_eq_true, if_true, if_false, reduceIte]; rw [lotB_no (by rintro ⟨_, h, _⟩; cases h)] at q; exact q
  | dict i => simp only [ws_is_ascending, N_is_ascending, show kitB (tyName (.dict i)) "tuple" = some false from rfl, wCallW, wForFv, forFvW, wMkX, wDic1, wMtX, wForPr, forPrW, wPNil, wPCons, wVar, wC, wOp, wUn, wCl, wB, wTr, wAnd, wOr, wNot, wAndV, wOrV, wNotV, wIf, wCh, wNil, wCons, wTup, wLe, wSz, wFn, wFnJ, wFnB, wFnJB, wBNil, wBCons, wBOwn, rsvP, rsvJ, wNext, wSeq, wRet, wRetN, wDrop, wIfS, wSet, wSetOwn, wNever, wAug, wOpO, wIxO, wOpR, wClO, wApp, wSetIt, wFrz, wFor, wRg1, wRg2, wSq, wEnum, wZip, wZipM, wZipS, wZipU, wgN, wgT, wgNil, wgCons, wYes, wAsgT, wgLs, wLenS, wIxS, wFnS, wFnJL, wFnX, wRaise, wRaiseF, wForFn, forFnW, wMet, hide, wIsi, wListOf, wRev, edP, edJ, enP, enJ, enS, NotOwn, Flat, List.map_cons, List.map_nil, List.length_cons, List.length_nil, List.replicate_succ, List.replicate_zero, List.cons_append, List.nil_append, List.append_nil, List.set_cons_zero, List.set_cons_succ, List.getElem?_cons_zero, List.getElem?_cons_succ, Nat.reduceAdd, Nat.reduceSub, Option.some.injEq, Sl.imm.injEq, Sl.own.injEq, Sl.scr.injEq, exists_eq_left, exists_eq_left', exists_eq_right, exists_eq, exists_eq', exists_and_left, and_assoc, and_true, true_and, ne_eq, not_false_eq_true, Nat.succ_ne_zero, or_true, true_or, true_implies, forall_eq', forall_eq, PyData.int.injEq, PyData.bool.injEq, PyData.list.injEq, PyData.tuple.injEq, List.cons.injEq, i_add, i_iadd, i_sub, i_mul, i_mod, i_fdiv, i_fdivG, i_pow, i_neg, i_le, i_ge, i_gt, i_lt, i_eq, i_ne, i_intI, i_intB, i_abs, i_max, i_min, i_lenL, i_lenT, i_ixL, i_ixT, i_tupL, i_tupT, i_truB, Bool.not_true, Bool.not_false, Bool.false_eq_true, if_true, if_false, reduceIte]; rw [lotB_no (by rintro ⟨_, h, _⟩; cases h)] at q; exact q
theorem lots_all {m : Int} {xs : List D} (h : xs.all (lotB m) = true) : ∃ rs : List (List Int), xs = rs.map rowD ∧ ∀ r ∈ rs, IsLot m r :=
  lots_rows fun x hx => lotB_iff.mp (List.all_eq_true.mp h x hx)
theorem all_lots {m : Int} {rs : List (List Int)} (h : ∀ r ∈ rs, IsLot m r) : (rs.map rowD).all (lotB m) = true := by
  rw [List.all_eq_true]
  intro x hx
  obtain ⟨r, hr, rfl⟩ := List.mem_map.mp hx
  exact lotB_iff.mpr ⟨r, rfl, h r hr⟩
theorem pu_are_lots (ds Q) (hl : ds.length = 2) (h : wf_are_lots ds Q) : ws_are_lots (edP Q) (enP N_are_lots ds) := by
  obtain ⟨m, d, rfl, hz, q⟩ := h
  cases d with
  | tuple xs =>
    obtain ⟨hz1, hz2⟩ := hz
    simp only [ws_are_lots, N_are_lots, kit_tup, wCallW, wForFv, forFvW, wMkX, wDic1, wMtX, wForPr, forPrW, wPNil, wPCons, wVar, wC, wOp, wUn, wCl, wB, wTr, wAnd, wOr, wNot, wAndV, wOrV, wNotV, wIf, wCh, wNil, wCons, wTup, wLe, wSz, wFn, wFnJ, wFnB, wFnJB, wBNil, wBCons, wBOwn, rsvP, rsvJ, wNext, wSeq, wRet, wRetN, wDrop, wIfS, wSet, wSetOwn, wNever, wAug, wOpO, wIxO, wOpR, wClO, wApp, wSetIt, wFrz, wFor, wRg1, wRg2, wSq, wEnum, wZip, wZipM, wZipS, wZipU, wgN, wgT, wgNil, wgCons, wYes, wAsgT, wgLs, wLenS, wIxS, wFnS, wFnJL, wFnX, wRaise, wRaiseF, wForFn, forFnW, wMet, hide, wIsi, wListOf, wRev, edP, edJ, enP, enJ, enS, NotOwn, Flat, List.map_cons, List.map_nil, List.length_cons, List.length_nil, List.replicate_succ, List.replicate_zero, List.cons_append, List.nil_append, List.append_nil, List.set_cons_zero, List.set_cons_succ, List.getElem?_cons_zero, List.getElem?_cons_succ, Nat.reduceAdd, Nat.reduceSub, Option.some.injEq, Sl.imm.injEq, Sl.own.injEq, Sl.scr.injEq, exists_eq_left, exists_eq_left', exists_eq_right, exists_eq, exists_eq', exists_and_left, and_assoc, and_true, true_and, ne_eq, not_false_eq_true, Nat.succ_ne_zero, or_true, true_or, true_implies, forall_eq', forall_eq, PyData.int.injEq, PyData.bool.injEq, PyData.list.injEq, PyData.tuple.injEq, List.cons.injEq, i_add, i_iadd, i_sub, i_mul, i_mod, i_fdiv, i_fdivG, i_pow, i_neg, i_le, i_ge, i_gt, i_lt, i_eq, i_ne, i_intI, i_intB, i_abs, i_max, i_min, i_lenL, i_lenT, i_ixL, i_ixT, i_tupL, i_tupT, i_truB, Bool.not_true, Bool.not_false, Bool.false_eq_true, if_true, if_false, reduceIte]
    by_cases h12 : xs.length ≤ 12
    · rw [if_neg (by simpa using (show (xs.length : Int) ≤ 12 by omega))]
      refine lc1 (f := fun x => .bool (lotB m x)) (xs := xs) (by decide) (fun Q q => ⟨_, rfl, _, Or.inr rfl, q⟩) trivial (sl200 (Nat.le_trans hz1 (by decide))) (fun x hx Q q => ?_) ?_
      · simp only [wf_is_ascending, wCallW, wForFv, forFvW, wMkX, wDic1, wMtX, wForPr, forPrW, wPNil, wPCons, wVar, wC, wOp, wUn, wCl, wB, wTr, wAnd, wOr, wNot, wAndV, wOrV, wNotV, wIf, wCh, wNil, wCons, wTup, wLe, wSz, wFn, wFnJ, wFnB, wFnJB, wBNil, wBCons, wBOwn, rsvP, rsvJ, wNext, wSeq, wRet, wRetN, wDrop, wIfS, wSet, wSetOwn, wNever, wAug, wOpO, wIxO, wOpR, wClO, wApp, wSetIt, wFrz, wFor, wRg1, wRg2, wSq, wEnum, wZip, wZipM, wZipS, wZipU, wgN, wgT, wgNil, wgCons, wYes, wAsgT, wgLs, wLenS, wIxS, wFnS, wFnJL, wFnX, wRaise, wRaiseF, wForFn, forFnW, wMet, hide, wIsi, wListOf, wRev, edP, edJ, enP, enJ, enS, NotOwn, Flat, List.map_cons, List.map_nil, List.length_cons, List.length_nil, List.replicate_succ, List.replicate_zero, List.cons_append, List.nil_append, List.append_nil, List.set_cons_zero, List.set_cons_succ, List.getElem?_cons_zero, List.getElem?_cons_succ, Nat.reduceAdd, Nat.reduceSub, Option.some.injEq, Sl.imm.injEq, Sl.own.injEq, Sl.scr.injEq, exists_eq_left, exists_eq_left', exists_eq_right, exists_eq, exists_eq', exists_and_left, and_assoc, and_true, true_and, ne_eq, not_false_eq_true, Nat.succ_ne_zero, or_true, true_or, true_implies, forall_eq', forall_eq, PyData.int.injEq, PyData.bool.injEq, PyData.list.injEq, PyData.tuple.injEq, List.cons.injEq, i_add, i_iadd, i_sub, i_mul, i_mod, i_fdiv, i_fdivG, i_pow, i_neg, i_le, i_ge, i_gt, i_lt, i_eq, i_ne, i_intI, i_intB, i_abs, i_max, i_min, i_lenL, i_lenT, i_ixL, i_ixT, i_tupL, i_tupT, i_truB, Bool.not_true, Bool.not_false, Bool.false_eq_true, if_true, if_false, reduceIte]
        exact ⟨hz2 x hx, q⟩
      · refine ⟨_, all_map.mpr rfl, ?_⟩
        simp -failIfUnchanged only [wCallW, wForFv, forFvW, wMkX, wDic1, wMtX, wForPr, forPrW, wPNil, wPCons, wVar, wC, wOp, wUn, wCl, wB, wTr, wAnd, wOr, wNot, wAndV, wOrV, wNotV, wIf, wCh, wNil, wCons, wTup, wLe, wSz, wFn, wFnJ, wFnB, wFnJB, wBNil, wBCons, wBOwn, rsvP, rsvJ, wNext, wRet, wRetN, wDrop, wIfS, wSet, wSetOwn, wNever, wAug, wOpO, wIxO, wOpR, wClO, wApp, wSetIt, wFrz, wFor, wRg1, wRg2, wSq, wEnum, wZip, wZipM, wZipS, wZipU, wgN, wgT, wgNil, wgCons, wYes, wAsgT, wgLs, wLenS, wIxS, wFnS, wFnJL, wFnX, wRaise, wRaiseF, wForFn, forFnW, wMet, hide, wIsi, wListOf, wRev, edP, edJ, enP, enJ, enS, NotOwn, Flat, List.map_cons, List.map_nil, List.length_cons, List.length_nil, List.replicate_succ, List.replicate_zero, List.cons_append, List.nil_append, List.append_nil, List.set_cons_zero, List.set_cons_succ, List.getElem?_cons_zero, List.getElem?_cons_succ, Nat.reduceAdd, Nat.reduceSub, Option.some.injEq, Sl.imm.injEq, Sl.own.injEq, Sl.scr.injEq, exists_eq_left, exists_eq_left', exists_eq_right, exists_eq, exists_eq', exists_and_left, and_assoc, and_true, true_and, ne_eq, not_false_eq_true, Nat.succ_ne_zero, or_true, true_or, true_implies, forall_eq', forall_eq, PyData.int.injEq, PyData.bool.injEq, PyData.list.injEq, PyData.tuple.injEq, List.cons.injEq, i_add, i_iadd, i_sub, i_mul, i_mod, i_fdiv, i_fdivG, i_pow, i_neg, i_le, i_ge, i_gt, i_lt, i_eq, i_ne, i_intI, i_intB, i_abs, i_max, i_min, i_lenL, i_lenT, i_ixL, i_ixT, i_tupL, i_tupT, i_truB, Bool.not_true, Bool.not_false, Bool.false_eq_true, if_true, if_false, reduceIte]
        cases hb : xs.all (lotB m) with
        | false =>
          simp -failIfUnchanged only [wCallW, wForFv, forFvW, wMkX, wDic1, wMtX, wForPr, forPrW, wPNil, wPCons, wVar, wC, wOp, wUn, wCl, wB, wTr, wAnd, wOr, wNot, wAndV, wOrV, wNotV, wIf, wCh, wNil, wCons, wTup, wLe, wSz, wFn, wFnJ, wFnB, wFnJB, wBNil, wBCons, wBOwn, rsvP, rsvJ, wNext, wRet, wRetN, wDrop, wIfS, wSet, wSetOwn, wNever, wAug, wOpO, wIxO, wOpR, wClO, wApp, wSetIt, wFrz, wFor, wRg1, wRg2, wSq, wEnum, wZip, wZipM, wZipS, wZipU, wgN, wgT, wgNil, wgCons, wYes, wAsgT, wgLs, wLenS, wIxS, wFnS, wFnJL, wFnX, wRaise, wRaiseF, wForFn, forFnW, wMet, hide, wIsi, wListOf, wRev, edP, edJ, enP, enJ, enS, NotOwn, Flat, List.map_cons, List.map_nil, List.length_cons, List.length_nil, List.replicate_succ, List.replicate_zero, List.cons_append, List.nil_append, List.append_nil, List.set_cons_zero, List.set_cons_succ, List.getElem?_cons_zero, List.getElem?_cons_succ, Nat.reduceAdd, Nat.reduceSub, Option.some.injEq, Sl.imm.injEq, Sl.own.injEq, Sl.scr.injEq, exists_eq_left, exists_eq_left', exists_eq_right, exists_eq, exists_eq', exists_and_left, and_assoc, and_true, true_and, ne_eq, not_false_eq_true, Nat.succ_ne_zero, or_true, true_or, true_implies, forall_eq', forall_eq, PyData.int.injEq, PyData.bool.injEq, PyData.list.injEq, PyData.tuple.injEq, List.cons.injEq, i_add, i_iadd, i_sub, i_mul, i_mod, i_fdiv, i_fdivG, i_pow, i_neg, i_le, i_ge, i_gt, i_lt, i_eq, i_ne, i_intI, i_intB, i_abs, i_max, i_min, i_lenL, i_lenT, i_ixL, i_ixT, i_tupL, i_tupT, i_truB, Bool.not_true, Bool.not_false, Bool.false_eq_true, if_true, if_false, reduceIte]
          rw [lotsB_no (d := .tuple xs) (by
            rintro ⟨rs, e, _, h1, _⟩
            injection e with e
            rw [e, all_lots h1] at hb
            cases hb)] at q
          exact q
        | true =>
          obtain ⟨rs, rfl, hr⟩ := lots_all hb
          simp -failIfUnchanged only [wCallW, wForFv, forFvW, wMkX, wDic1, wMtX, wForPr, forPrW, wPNil, wPCons, wVar, wC, wOp, wUn, wCl, wB, wTr, wAnd, wOr, wNot, wAndV, wOrV, wNotV, wIf, wCh, wNil, wCons, wTup, wLe, wSz, wFn, wFnJ, wFnB, wFnJB, wBNil, wBCons, wBOwn, rsvP, rsvJ, wNext, wRet, wRetN, wDrop, wIfS, wSet, wSetOwn, wNever, wAug, wOpO, wIxO, wOpR, wClO, wApp, wSetIt, wFrz, wFor, wRg1, wRg2, wSq, wEnum, wZip, wZipM, wZipS, wZipU, wgN, wgT, wgNil, wgCons, wYes, wAsgT, wgLs, wLenS, wIxS, wFnS, wFnJL, wFnX, wRaise, wRaiseF, wForFn, forFnW, wMet, hide, wIsi, wListOf, wRev, edP, edJ, enP, enJ, enS, NotOwn, Flat, List.map_cons, List.map_nil, List.length_cons, List.length_nil, List.replicate_succ, List.replicate_zero, List.cons_append, List.nil_append, List.append_nil, List.set_cons_zero, List.set_cons_succ, List.getElem?_cons_zero, List.getElem?_cons_succ, Nat.reduceAdd, Nat.reduceSub, Option.some.injEq, Sl.imm.injEq, Sl.own.injEq, Sl.scr.injEq, exists_eq_left, exists_eq_left', exists_eq_right, exists_eq, exists_eq', exists_and_left, and_assoc, and_true, true_and, ne_eq, not_false_eq_true, Nat.succ_ne_zero, or_true, true_or, true_implies, forall_eq', forall_eq, PyData.int.injEq, PyData.bool.injEq, PyData.list.injEq, PyData.tuple.injEq, List.cons.injEq, i_add, i_iadd, i_sub, i_mul, i_mod, i_fdiv, i_fdivG, i_pow, i_neg, i_le, i_ge, i_gt, i_lt, i_eq, i_ne, i_intI, i_intB, i_abs, i_max, i_min, i_lenL, i_lenT, i_ixL, i_ixT, i_tupL, i_tupT, i_truB, Bool.not_true, Bool.not_false, Bool.false_eq_true, if_true, if_false, reduceIte]
          refine lcY (α := List Int × List Int) (e1 := [.imm (.int m), .imm (.tuple (rs.map rowD)), .un, .un, .un]) (X := fun p => .tuple [rowD p.1, rowD p.2]) (f := fun p => .bool (HT.lexLt p.1 p.2)) (xs := rs.zip (rs.drop 1)) (fun p => [.imm (.int m), .imm (.tuple (rs.map rowD)), .imm (rowD p.1), .imm (rowD p.2), .un]) (by decide) (fun Q q => ?_) (no2 trivial trivial) ?_ (fun _ => rfl) (fun p hp Q q => ?_) (fun p hp Q q => ?_) ?_
          · simp -failIfUnchanged only [wSl, wPart, wNoP, wCallW, wForFv, forFvW, wMkX, wDic1, wMtX, wForPr, forPrW, wPNil, wPCons, wVar, wC, wOp, wUn, wCl, wB, wTr, wAnd, wOr, wNot, wAndV, wOrV, wNotV, wIf, wCh, wNil, wCons, wTup, wLe, wSz, wFn, wFnJ, wFnB, wFnJB, wBNil, wBCons, wBOwn, rsvP, rsvJ, wNext, wRet, wRetN, wDrop, wIfS, wSet, wSetOwn, wNever, wAug, wOpO, wIxO, wOpR, wClO, wApp, wSetIt, wFrz, wFor, wRg1, wRg2, wSq, wEnum, wZip, wZipM, wZipS, wZipU, wgN, wgT, wgNil, wgCons, wYes, wAsgT, wgLs, wLenS, wIxS, wFnS, wFnJL, wFnX, wRaise, wRaiseF, wForFn, forFnW, wMet, hide, wIsi, wListOf, wRev, edP, edJ, enP, enJ, enS, NotOwn, Flat, List.map_cons, List.map_nil, List.length_cons, List.length_nil, List.replicate_succ, List.replicate_zero, List.cons_append, List.nil_append, List.append_nil, List.set_cons_zero, List.set_cons_succ, List.getElem?_cons_zero, List.getElem?_cons_succ, Nat.reduceAdd, Nat.reduceSub, Option.some.injEq, Sl.imm.injEq, Sl.own.injEq, Sl.scr.injEq, exists_eq_left, exists_eq_left', exists_eq_right, exists_eq, exists_eq', exists_and_left, and_assoc, and_true, true_and, ne_eq, not_false_eq_true, Nat.succ_ne_zero, or_true, true_or, true_implies, forall_eq', forall_eq, PyData.int.injEq, PyData.bool.injEq, PyData.list.injEq, PyData.tuple.injEq, List.cons.injEq, i_add, i_iadd, i_sub, i_mul, i_mod, i_fdiv, i_fdivG, i_pow, i_neg, i_le, i_ge, i_gt, i_lt, i_eq, i_ne, i_intI, i_intB, i_abs, i_max, i_min, i_lenL, i_lenT, i_ixL, i_ixT, i_tupL, i_tupT, i_truB, Bool.not_true, Bool.not_false, Bool.false_eq_true, if_true, if_false, reduceIte]
            refine Or.inr ⟨_, _, Or.inr ⟨rfl, rfl⟩, ?_⟩
            rw [show cutA (rs.map rowD) (some 1) none = (rs.map rowD).drop 1 from cut_from (k := 1), ← List.map_drop, zip_map2]
            exact q
          · refine Nat.le_trans ?_ (sl200 (Nat.le_trans hz1 (by decide)))
            rw [List.length_zip, List.length_map]
            exact Nat.min_le_left _ _
          · simp -failIfUnchanged only [wip, wCallW, wForFv, forFvW, wMkX, wDic1, wMtX, wForPr, forPrW, wPNil, wPCons, wVar, wC, wOp, wUn, wCl, wB, wTr, wAnd, wOr, wNot, wAndV, wOrV, wNotV, wIf, wCh, wNil, wCons, wTup, wLe, wSz, wFn, wFnJ, wFnB, wFnJB, wBNil, wBCons, wBOwn, rsvP, rsvJ, wNext, wRet, wRetN, wDrop, wIfS, wSet, wSetOwn, wNever, wAug, wOpO, wIxO, wOpR, wClO, wApp, wSetIt, wFrz, wFor, wRg1, wRg2, wSq, wEnum, wZip, wZipM, wZipS, wZipU, wgN, wgT, wgNil, wgCons, wYes, wAsgT, wgLs, wLenS, wIxS, wFnS, wFnJL, wFnX, wRaise, wRaiseF, wForFn, forFnW, wMet, hide, wIsi, wListOf, wRev, edP, edJ, enP, enJ, enS, NotOwn, Flat, List.map_cons, List.map_nil, List.length_cons, List.length_nil, List.replicate_succ, List.replicate_zero, List.cons_append, List.nil_append, List.append_nil, List.set_cons_zero, List.set_cons_succ, List.getElem?_cons_zero, List.getElem?_cons_succ, Nat.reduceAdd, Nat.reduceSub, Option.some.injEq, Sl.imm.injEq, Sl.own.injEq, Sl.scr.injEq, exists_eq_left, exists_eq_left', exists_eq_right, exists_eq, exists_eq', exists_and_left, and_assoc, and_true, true_and, ne_eq, not_false_eq_true, Nat.succ_ne_zero, or_true, true_or, true_implies, forall_eq', forall_eq, PyData.int.injEq, PyData.bool.injEq, PyData.list.injEq, PyData.tuple.injEq, List.cons.injEq, i_add, i_iadd, i_sub, i_mul, i_mod, i_fdiv, i_fdivG, i_pow, i_neg, i_le, i_ge, i_gt, i_lt, i_eq, i_ne, i_intI, i_intB, i_abs, i_max, i_min, i_lenL, i_lenT, i_ixL, i_ixT, i_tupL, i_tupT, i_truB, Bool.not_true, Bool.not_false, Bool.false_eq_true, if_true, if_false, reduceIte]
            exact q
          · simp -failIfUnchanged only [wCallW, wForFv, forFvW, wMkX, wDic1, wMtX, wForPr, forPrW, wPNil, wPCons, wVar, wC, wOp, wUn, wCl, wB, wTr, wAnd, wOr, wNot, wAndV, wOrV, wNotV, wIf, wCh, wNil, wCons, wTup, wLe, wSz, wFn, wFnJ, wFnB, wFnJB, wBNil, wBCons, wBOwn, rsvP, rsvJ, wNext, wRet, wRetN, wDrop, wIfS, wSet, wSetOwn, wNever, wAug, wOpO, wIxO, wOpR, wClO, wApp, wSetIt, wFrz, wFor, wRg1, wRg2, wSq, wEnum, wZip, wZipM, wZipS, wZipU, wgN, wgT, wgNil, wgCons, wYes, wAsgT, wgLs, wLenS, wIxS, wFnS, wFnJL, wFnX, wRaise, wRaiseF, wForFn, forFnW, wMet, hide, wIsi, wListOf, wRev, edP, edJ, enP, enJ, enS, NotOwn, Flat, List.map_cons, List.map_nil, List.length_cons, List.length_nil, List.replicate_succ, List.replicate_zero, List.cons_append, List.nil_append, List.append_nil, List.set_cons_zero, List.set_cons_succ, List.getElem?_cons_zero, List.getElem?_cons_succ, Nat.reduceAdd, Nat.reduceSub, Option.some.injEq, Sl.imm.injEq, Sl.own.injEq, Sl.scr.injEq, exists_eq_left, exists_eq_left', exists_eq_right, exists_eq, exists_eq', exists_and_left, and_assoc, and_true, true_and, ne_eq, not_false_eq_true, Nat.succ_ne_zero, or_true, true_or, true_implies, forall_eq', forall_eq, PyData.int.injEq, PyData.bool.injEq, PyData.list.injEq, PyData.tuple.injEq, List.cons.injEq, i_add, i_iadd, i_sub, i_mul, i_mod, i_fdiv, i_fdivG, i_pow, i_neg, i_le, i_ge, i_gt, i_lt, i_eq, i_ne, i_intI, i_intB, i_abs, i_max, i_min, i_lenL, i_lenT, i_ixL, i_ixT, i_tupL, i_tupT, i_truB, Bool.not_true, Bool.not_false, Bool.false_eq_true, if_true, if_false, reduceIte]
            exact ⟨_, i_ltT.mpr rfl, q⟩
          · refine ⟨_, all_map.mpr rfl, ?_⟩
            rw [adjR]
            rw [show lotsB m (.tuple (rs.map rowD)) = decide (AscS rs) from lotsB_rows (by simpa using h12) hr] at q
            exact q
    · rw [if_pos (by simpa using (show ¬ ((xs.length : Int) ≤ 12) by omega))]
      rw [lotsB_no (d := .tuple xs) (by
        rintro ⟨rs, e, h1, _⟩
        injection e with e
        rw [e, List.length_map] at h12
        exact h12 h1)] at q
      exact q
  | none => simp only [ws_are_lots, N_are_lots, show kitB (tyName .none) "tuple" = some false from rfl, wCallW, wForFv, forFvW, wMkX, wDic1, wMtX, wForPr, forPrW, wPNil, wPCons, wVar, wC, wOp, wUn, wCl, wB, wTr, wAnd, wOr, wNot, wAndV, wOrV, wNotV, wIf, wCh, wNil, wCons, wTup, wLe, wSz, wFn, wFnJ, wFnB, wFnJB, wBNil, wBCons, wBOwn, rsvP, rsvJ, wNext, wSeq, wRet, wRetN, wDrop, wIfS, wSet, wSetOwn, wNever, wAug, wOpO, wIxO, wOpR, wClO, wApp, wSetIt, wFrz, wFor, wRg1, wRg2, wSq, wEnum, wZip, wZipM, wZipS, wZipU, wgN, wgT, wgNil, wgCons, wYes, wAsgT, wgLs, wLenS, wIxS, wFnS, wFnJL, wFnX, wRaise, wRaiseF, wForFn, forFnW, wMet, hide, wIsi, wListOf, wRev, edP, edJ, enP, enJ, enS, NotOwn, Flat, List.map_cons, List.map_nil, List.length_cons, List.length_nil, List.replicate_succ, List.replicate_zero, List.cons_append, List.nil_append, List.append_nil, List.set_cons_zero, List.set_cons_succ, List.getElem?_cons_zero, List.getElem?_cons_succ, Nat.reduceAdd, Nat.reduceSub, Option.some.injEq, Sl.imm.injEq, Sl.own.injEq, Sl.scr.injEq, exists_eq_left, exists_eq_left', exists_eq_right, exists_eq, exists_eq', exists_and_left, and_assoc, and_true, true_and, ne_eq, not_false_eq_true, Nat.succ_ne_zero, or_true, true_or, true_implies, forall_eq', forall_eq, PyData.int.injEq, PyData.bool.injEq, PyData.list.injEq, PyData.tuple.injEq, List.cons.injEq, i_add, i_iadd, i_sub, i_mul, i_mod, i_fdiv, i_fdivG, i_pow, i_neg, i_le, i_ge, i_gt, i_lt, i_eq, i_ne, i_intI, i_intB, i_abs, i_max, i_min, i_lenL, i_lenT, i_ixL, i_ixT, i_tupL, i_tupT, i_truB, Bool.not_true, Bool.not_false, Bool.false_eq_true, if_true, if_false, reduceIte]; rw [lotsB_no (by rintro ⟨_, h, _⟩; cases h)] at q; exact q
  | bool b => simp only [ws_are_lots, N_are_lots, show kitB (tyName (.bool b)) "tuple" = some false from rfl, wCallW, wForFv, forFvW, wMkX, wDic1, wMtX, wForPr, forPrW, wPNil, wPCons, wVar, wC, wOp, wUn, wCl, wB, wTr, wAnd, wOr, wNot, wAndV, wOrV, wNotV, wIf, wCh, wNil, wCons, wTup, wLe, wSz, wFn, wFnJ, wFnB, wFnJB, wBNil, wBCons, wBOwn, rsvP, rsvJ, wNext, wSeq, wRet, wRetN, wDrop, wIfS, wSet, wSetOwn, wNever, wAug, wOpO, wIxO, wOpR, wClO, wApp, wSetIt, wFrz, wFor, wRg1, wRg2, wSq, wEnum, wZip, wZipM, wZipS, wZipU, wgN, wgT, wgNil, wgCons, wYes, wAsgT, wgLs, wLenS, wIxS, wFnS, wFnJL, wFnX, wRaise, wRaiseF, wForFn, forFnW, wMet, hide, wIsi, wListOf, wRev, edP, edJ, enP, enJ, enS, NotOwn, Flat, List.map_cons, List.map_nil, List.length_cons, List.length_nil, List.replicate_succ, List.replicate_zero, List.cons_append, List.nil_append, List.append_nil, List.set_cons_zero, List.set_cons_succ, List.getElem?_cons_zero, List.getElem?_cons_succ, Nat.reduceAdd, Nat.reduceSub, Option.some.injEq, Sl.imm.injEq, Sl.own.injEq, Sl.scr.injEq, exists_eq_left, exists_eq_left', exists_eq_right, exists_eq, exists_eq', exists_and_left, and_assoc, and_true, true_and, ne_eq, not_false_eq_true, Nat.succ_ne_zero, or_true, true_or, true_implies, forall_eq', forall_eq, PyData.int.injEq, PyData.bool.injEq, PyData.list.injEq, PyData.tuple.injEq, List.cons.injEq, i_add, i_iadd, i_sub, i_mul, i_mod, i_fdiv, i_fdivG, i_pow, i_neg, i_le, i_ge, i_gt, i_lt, i_eq, i_ne, i_intI, i_intB, i_abs, i_max, i_min, i_lenL, i_lenT, i_ixL, i_ixT, i_tupL, i_tupT, i_truB, Bool.not_true, Bool.not_false, Bool.false_eq_true, if_true, if_false, reduceIte]; rw [lotsB_no (by rintro ⟨_, h, _⟩; cases h)] at q; exact q
  | int i => simp only [ws_are_lots, N_are_lots, show kitB (tyName (.int i)) "tuple" = some false from rfl, wCallW, wForFv, forFvW, wMkX, wDic1, wMtX, wForPr, forPrW, wPNil, wPCons, wVar, wC, wOp, wUn, wCl, wB, wTr, wAnd, wOr, wNot, wAndV, wOrV, wNotV, wIf, wCh, wNil, wCons, wTup, wLe, wSz, wFn, wFnJ, wFnB, wFnJB, wBNil, wBCons, wBOwn, rsvP, rsvJ, wNext, wSeq, wRet, wRetN, wDrop, wIfS, wSet, wSetOwn, wNever, wAug, wOpO, wIxO, wOpR, wClO, wApp, wSetIt, wFrz, wFor, wRg1, wRg2, wSq, wEnum, wZip, wZipM, wZipS, wZipU, wgN, wgT, wgNil, wgCons, wYes, wAsgT, wgLs, wLenS, wIxS, wFnS, wFnJL, wFnX, wRaise, wRaiseF, wForFn, forFnW, wMet, hide, wIsi, wListOf, wRev, edP, edJ, enP, enJ, enS, NotOwn, Flat, List.map_cons, List.map_nil, List.length_cons, List.length_nil, List.replicate_succ, List.replicate_zero, List.cons_append, List.nil_append, List.append_nil, List.set_cons_zero, List.set_cons_succ, List.getElem?_cons_zero, List.getElem?_cons_succ, Nat.reduceAdd, Nat.reduceSub, Option.some.injEq, Sl.imm.injEq, Sl.own.injEq, Sl.scr.injEq, exists_eq_left, exists_eq_left', exists_eq_right, exists_eq, exists_eq', exists_and_left, and_assoc, and_true, true_and, ne_eq, not_false_eq_true, Nat.succ_ne_zero, or_true, true_or, true_implies, forall_eq', forall_eq, PyData.int.injEq, PyData.bool.injEq, PyData.list.injEq, PyData.tuple.injEq, List.cons.injEq, i_add, i_iadd, i_sub, i_mul, i_mod, i_fdiv, i_fdivG, i_pow, i_neg, i_le, i_ge, i_gt, i_lt, i_eq, i_ne, i_intI, i_intB, i_abs, i_max, i_min, i_lenL, i_lenT, i_ixL, i_ixT, i_tupL, i_tupT, i_truB, Bool.not_true, Bool.not_false, Bool.false_eq_true, if_true, if_false, reduceIte]; rw [lotsB_no (by rintro ⟨_, h, _⟩; cases h)] at q; exact q
  | str i => simp only [ws_are_lots, N_are_lots, show kitB (tyName (.str i)) "tuple" = some false from rfl, wCallW, wForFv, forFvW, wMkX, wDic1, wMtX, wForPr, forPrW, wPNil, wPCons, wVar, wC, wOp, wUn, wCl, wB, wTr, wAnd, wOr, wNot, wAndV, wOrV, wNotV, wIf, wCh, wNil, wCons, wTup, wLe, wSz, wFn, wFnJ, wFnB, wFnJB, wBNil, wBCons, wBOwn, rsvP, rsvJ, wNext, wSeq, wRet, wRetN, wDrop, wIfS, wSet, wSetOwn, wNever, wAug, wOpO, wIxO, wOpR, wClO, wApp, wSetIt, wFrz, wFor, wRg1, wRg2, wSq, wEnum, wZip, wZipM, wZipS, wZipU, wgN, wgT, wgNil, wgCons, wYes, wAsgT, wgLs, wLenS, wIxS, wFnS, wFnJL, wFnX, wRaise, wRaiseF, wForFn, forFnW, wMet, hide, wIsi, wListOf, wRev, edP, edJ, enP, enJ, enS, NotOwn, Flat, List.map_cons, List.map_nil, List.length_cons, List.length_nil, List.replicate_succ, List.replicate_zero, List.cons_append, List.nil_append, List.append_nil, List.set_cons_zero, List.set_cons_succ, List.getElem?_cons_zero, List.getElem?_cons_succ, Nat.reduceAdd, Nat.reduceSub, Option.some.injEq, Sl.imm.injEq, Sl.own.injEq, Sl.scr.injEq, exists_eq_left, exists_eq_left', exists_eq_right, exists_eq, exists_eq', exists_and_left, and_assoc, and_true, true_and, ne_eq, not_false_eq_true, Nat.succ_ne_zero, or_true, true_or, true_implies, forall_eq', forall_eq, PyData.int.injEq, PyData.bool.injEq, PyData.list.injEq, PyData.tuple.injEq, List.cons.injEq, i_add, i_iadd, i_sub, i_mul, i_mod, i_fdiv, i_fdivG, i_pow, i_neg, i_le, i_ge, i_gt, i_lt, i_eq, i_ne, i_intI, i_intB, i_abs, i_max, i_min, i_lenL, i_lenT, i_ixL, i_ixT, i_tupL, i_tupT, i_truB, Bool.not_true, Bool.not_false, Bool.false_eq_true, if_true, if_false, reduceIte]; rw [lotsB_no (by rintro ⟨_, h, _⟩; cases h)] at q; exact q
  | list i => simp only [ws_are_lots, N_are_lots, show kitB (tyName (.list i)) "tuple" = some false from rfl, wCallW, wForFv, forFvW, wMkX, wDic1, wMtX, wForPr, forPrW, wPNil, wPCons, wVar, wC, wOp, wUn, wCl, wB, wTr, wAnd, wOr, wNot, wAndV, wOrV, wNotV, wIf, wCh, wNil, wCons, wTup, wLe, wSz, wFn, wFnJ, wFnB, wFnJB, wBNil, wBCons, wBOwn, rsvP, rsvJ, wNext, wSeq, wRet, wRetN, wDrop, wIfS, wSet, wSetOwn, wNever, wAug, wOpO, wIxO, wOpR, wClO, wApp, wSetIt, wFrz, wFor, wRg1, wRg2, wSq, wEnum, wZip, wZipM, wZipS, wZipU, wgN, wgT, wgNil, wgCons, wYes, wAsgT, wgLs, wLenS, wIxS, wFnS, wFnJL, wFnX, wRaise, wRaiseF, wForFn, forFnW, wMet, hide, wIsi, wListOf, wRev, edP, edJ, enP, enJ, enS, NotOwn, Flat, List.map_cons, List.map_nil, List.length_cons, List.length_nil, List.replicate_succ, List.replicate_zero, List.cons_append, List.nil_append, List.append_nil, List.set_cons_zero, List.set_cons_succ, List.getElem?_cons_zero, List.getElem?_cons_succ, Nat.reduceAdd, Nat.reduceSub, Option.some.injEq, Sl.imm.injEq, Sl.own.injEq, Sl.scr.injEq, exists_eq_left, exists_eq_left', exists_eq_right, exists_eq, exists_eq', exists_and_left, and_assoc, and_true, true_and, ne_eq, not_false_eq_true, Nat.succ_ne_zero, or_true, true_or, true_implies, forall_eq', forall_eq, PyData.int.injEq, PyData.bool.injEq, PyData.list.injEq, PyData.tuple.injEq, List.cons.injEq, i_add, i_iadd, i_sub, i_mul, i_mod, i_fdiv, i_fdivG, i_pow, i_neg, i_le, i_ge, i_gt, i_lt, i_eq, i_ne, i_intI, i_intB, i_abs, i_max, i_min, i_lenL, i_lenT, i_ixL, i_ixT, i_tupL, i_tupT, i_truB, Bool.not_true, Bool.not_false, Bool.false_eq_true, if_true, if_false, reduceIte]; rw [lotsB_no (by rintro ⟨_, h, _⟩; cases h)] at q; exact q
  | dict i => simp only [ws_are_lots, N_are_lots, show kitB (tyName (.dict i)) "tuple" = some false from rfl, wCallW, wForFv, forFvW, wMkX, wDic1, wMtX, wForPr, forPrW, wPNil, wPCons, wVar, wC, wOp, wUn, wCl, wB, wTr, wAnd, wOr, wNot, wAndV, wOrV, wNotV, wIf, wCh, wNil, wCons, wTup, wLe, wSz, wFn, wFnJ, wFnB, wFnJB, wBNil, wBCons, wBOwn, rsvP, rsvJ, wNext, wSeq, wRet, wRetN, wDrop, wIfS, wSet, wSetOwn, wNever, wAug, wOpO, wIxO, wOpR, wClO, wApp, wSetIt, wFrz, wFor, wRg1, wRg2, wSq, wEnum, wZip, wZipM, wZipS, wZipU, wgN, wgT, wgNil, wgCons, wYes, wAsgT, wgLs, wLenS, wIxS, wFnS, wFnJL, wFnX, wRaise, wRaiseF, wForFn, forFnW, wMet, hide, wIsi, wListOf, wRev, edP, edJ, enP, enJ, enS, NotOwn, Flat, List.map_cons, List.map_nil, List.length_cons, List.length_nil, List.replicate_succ, List.replicate_zero, List.cons_append, List.nil_append, List.append_nil, List.set_cons_zero, List.set_cons_succ, List.getElem?_cons_zero, List.getElem?_cons_succ, Nat.reduceAdd, Nat.reduceSub, Option.some.injEq, Sl.imm.injEq, Sl.own.injEq, Sl.scr.injEq, exists_eq_left, exists_eq_left', exists_eq_right, exists_eq, exists_eq', exists_and_left, and_assoc, and_true, true_and, ne_eq, not_false_eq_true, Nat.succ_ne_zero, or_true, true_or, true_implies, forall_eq', forall_eq, PyData.int.injEq, PyData.bool.injEq, PyData.list.injEq, PyData.tuple.injEq, List.cons.injEq, i_add, i_iadd, i_sub, i_mul, i_mod, i_fdiv, i_fdivG, i_pow, i_neg, i_le, i_ge, i_gt, i_lt, i_eq, i_ne, i_intI, i_intB, i_abs, i_max, i_min, i_lenL, i_lenT, i_ixL, i_ixT, i_tupL, i_tupT, i_truB, Bool.not_true, Bool.not_false, Bool.false_eq_true, if_true, if_false, reduceIte]; rw [lotsB_no (by rintro ⟨_, h, _⟩; cases h)] at q; exact q
theorem lots_sz {m : Int} {rs : List (List Int)} (h : IsLots m rs) (hm : m ≤ 6) : Sz2 (rowsD rs) := by
  refine ⟨by rw [List.length_map]; exact Nat.le_trans h.1 (by decide), fun x hx => ?_⟩
  obtain ⟨r, hr, rfl⟩ := List.mem_map.mp hx
  show (r.map PyData.int).length ≤ 50
  rw [List.length_map]
  exact Nat.le_trans (lot_len (h.2.1 r hr) hm) (by decide)
theorem in_ints {x : Int} {b : List Int} : ((b.map PyData.int).any fun y => PyData.eqv y (.int x)) = b.contains x := by
  rw [List.any_map, List.contains_eq_any_beq]
  have e : ((fun y => PyData.eqv y (.int x)) ∘ PyData.int) = fun y => x == y := funext fun y => by
    show PyData.eqv (.int y) (.int x) = (x == y)
    rw [eqv_int, Bool.eq_iff_iff, decide_eq_true_iff, beq_iff_eq]
    exact eq_comm
  rw [e]
theorem flat_ints (b : List Int) : (b.map PyData.int).all flatD = true := by rw [List.all_map, List.all_eq_true]; intro _ _; rfl
theorem i_inT {x : Int} {b : List Int} {z : D} : dIn false (.int x) (rowD b) z ↔ z = .bool (b.contains x) := by
  unfold dIn rowD
  simp only [Bool.false_eq_true, if_false]
  constructor
  · rintro ⟨ys, h | h, _, _, e⟩
    · cases h
    · injection h with h; subst h; rw [in_ints] at e; exact e
  · intro e
    exact ⟨_, Or.inr rfl, rfl, flat_ints b, by rw [in_ints]; exact e⟩
theorem pu_is_within (ds Q) (hl : ds.length = 2) (h : wf_is_within ds Q) : ws_is_within (edP Q) (enP N_is_within ds) := by
  obtain ⟨a, b, rfl, hz, q⟩ := h
  simp only [ws_is_within, N_is_within, wCallW, wForFv, forFvW, wMkX, wDic1, wMtX, wForPr, forPrW, wPNil, wPCons, wVar, wC, wOp, wUn, wCl, wB, wTr, wAnd, wOr, wNot, wAndV, wOrV, wNotV, wIf, wCh, wNil, wCons, wTup, wLe, wSz, wFn, wFnJ, wFnB, wFnJB, wBNil, wBCons, wBOwn, rsvP, rsvJ, wNext, wSeq, wRet, wRetN, wDrop, wIfS, wSet, wSetOwn, wNever, wAug, wOpO, wIxO, wOpR, wClO, wApp, wSetIt, wFrz, wFor, wRg1, wRg2, wSq, wEnum, wZip, wZipM, wZipS, wZipU, wgN, wgT, wgNil, wgCons, wYes, wAsgT, wgLs, wLenS, wIxS, wFnS, wFnJL, wFnX, wRaise, wRaiseF, wForFn, forFnW, wMet, hide, wIsi, wListOf, wRev, edP, edJ, enP, enJ, enS, NotOwn, Flat, List.map_cons, List.map_nil, List.length_cons, List.length_nil, List.replicate_succ, List.replicate_zero, List.cons_append, List.nil_append, List.append_nil, List.set_cons_zero, List.set_cons_succ, List.getElem?_cons_zero, List.getElem?_cons_succ, Nat.reduceAdd, Nat.reduceSub, Option.some.injEq, Sl.imm.injEq, Sl.own.injEq, Sl.scr.injEq, exists_eq_left, exists_eq_left', exists_eq_right, exists_eq, exists_eq', exists_and_left, and_assoc, and_true, true_and, ne_eq, not_false_eq_true, Nat.succ_ne_zero, or_true, true_or, true_implies, forall_eq', forall_eq, PyData.int.injEq, PyData.bool.injEq, PyData.list.injEq, PyData.tuple.injEq, List.cons.injEq, i_add, i_iadd, i_sub, i_mul, i_mod, i_fdiv, i_fdivG, i_pow, i_neg, i_le, i_ge, i_gt, i_lt, i_eq, i_ne, i_intI, i_intB, i_abs, i_max, i_min, i_lenL, i_lenT, i_ixL, i_ixT, i_tupL, i_tupT, i_truB, Bool.not_true, Bool.not_false, Bool.false_eq_true, if_true, if_false, reduceIte]
  refine lcY (α := Int) (e1 := [.imm (rowD a), .imm (rowD b), .un]) (X := .int) (f := fun x => .bool (b.contains x)) (xs := a) (fun x => [.imm (rowD a), .imm (rowD b), .imm (.int x)]) (by decide) (fun Q q => ⟨_, rfl, _, Or.inr rfl, q⟩) (no1 trivial) (sl200 (by omega)) (fun _ => rfl) (fun x hx Q q => ?_) (fun x hx Q q => ?_) ?_
  · simp -failIfUnchanged only [wip, wCallW, wForFv, forFvW, wMkX, wDic1, wMtX, wForPr, forPrW, wPNil, wPCons, wVar, wC, wOp, wUn, wCl, wB, wTr, wAnd, wOr, wNot, wAndV, wOrV, wNotV, wIf, wCh, wNil, wCons, wTup, wLe, wSz, wFn, wFnJ, wFnB, wFnJB, wBNil, wBCons, wBOwn, rsvP, rsvJ, wNext, wRet, wRetN, wDrop, wIfS, wSet, wSetOwn, wNever, wAug, wOpO, wIxO, wOpR, wClO, wApp, wSetIt, wFrz, wFor, wRg1, wRg2, wSq, wEnum, wZip, wZipM, wZipS, wZipU, wgN, wgT, wgNil, wgCons, wYes, wAsgT, wgLs, wLenS, wIxS, wFnS, wFnJL, wFnX, wRaise, wRaiseF, wForFn, forFnW, wMet, hide, wIsi, wListOf, wRev, edP, edJ, enP, enJ, enS, NotOwn, Flat, List.map_cons, List.map_nil, List.length_cons, List.length_nil, List.replicate_succ, List.replicate_zero, List.cons_append, List.nil_append, List.append_nil, List.set_cons_zero, List.set_cons_succ, List.getElem?_cons_zero, List.getElem?_cons_succ, Nat.reduceAdd, Nat.reduceSub, Option.some.injEq, Sl.imm.injEq, Sl.own.injEq, Sl.scr.injEq, exists_eq_left, exists_eq_left', exists_eq_right, exists_eq, exists_eq', exists_and_left, and_assoc, and_true, true_and, ne_eq, not_false_eq_true, Nat.succ_ne_zero, or_true, true_or, true_implies, forall_eq', forall_eq, PyData.int.injEq, PyData.bool.injEq, PyData.list.injEq, PyData.tuple.injEq, List.cons.injEq, i_add, i_iadd, i_sub, i_mul, i_mod, i_fdiv, i_fdivG, i_pow, i_neg, i_le, i_ge, i_gt, i_lt, i_eq, i_ne, i_intI, i_intB, i_abs, i_max, i_min, i_lenL, i_lenT, i_ixL, i_ixT, i_tupL, i_tupT, i_truB, Bool.not_true, Bool.not_false, Bool.false_eq_true, if_true, if_false, reduceIte]
    exact q
  · simp -failIfUnchanged only [wCallW, wForFv, forFvW, wMkX, wDic1, wMtX, wForPr, forPrW, wPNil, wPCons, wVar, wC, wOp, wUn, wCl, wB, wTr, wAnd, wOr, wNot, wAndV, wOrV, wNotV, wIf, wCh, wNil, wCons, wTup, wLe, wSz, wFn, wFnJ, wFnB, wFnJB, wBNil, wBCons, wBOwn, rsvP, rsvJ, wNext, wRet, wRetN, wDrop, wIfS, wSet, wSetOwn, wNever, wAug, wOpO, wIxO, wOpR, wClO, wApp, wSetIt, wFrz, wFor, wRg1, wRg2, wSq, wEnum, wZip, wZipM, wZipS, wZipU, wgN, wgT, wgNil, wgCons, wYes, wAsgT, wgLs, wLenS, wIxS, wFnS, wFnJL, wFnX, wRaise, wRaiseF, wForFn, forFnW, wMet, hide, wIsi, wListOf, wRev, edP, edJ, enP, enJ, enS, NotOwn, Flat, List.map_cons, List.map_nil, List.length_cons, List.length_nil, List.replicate_succ, List.replicate_zero, List.cons_append, List.nil_append, List.append_nil, List.set_cons_zero, List.set_cons_succ, List.getElem?_cons_zero, List.getElem?_cons_succ, Nat.reduceAdd, Nat.reduceSub, Option.some.injEq, Sl.imm.injEq, Sl.own.injEq, Sl.scr.injEq, exists_eq_left, exists_eq_left', exists_eq_right, exists_eq, exists_eq', exists_and_left, and_assoc, and_true, true_and, ne_eq, not_false_eq_true, Nat.succ_ne_zero, or_true, true_or, true_implies, forall_eq', forall_eq, PyData.int.injEq, PyData.bool.injEq, PyData.list.injEq, PyData.tuple.injEq, List.cons.injEq, i_add, i_iadd, i_sub, i_mul, i_mod, i_fdiv, i_fdivG, i_pow, i_neg, i_le, i_ge, i_gt, i_lt, i_eq, i_ne, i_intI, i_intB, i_abs, i_max, i_min, i_lenL, i_lenT, i_ixL, i_ixT, i_tupL, i_tupT, i_truB, Bool.not_true, Bool.not_false, Bool.false_eq_true, if_true, if_false, reduceIte]
    exact ⟨_, i_inT.mpr rfl, q⟩
  · exact ⟨_, all_map.mpr rfl, q⟩
theorem pu_is_within_any (ds Q) (hl : ds.length = 2) (h : wf_is_within_any ds Q) : ws_is_within_any (edP Q) (enP N_is_within_any ds) := by
  obtain ⟨a, rs, d, rfl, hd, hz1, hz2, q⟩ := h
  simp only [ws_is_within_any, N_is_within_any, wCallW, wForFv, forFvW, wMkX, wDic1, wMtX, wForPr, forPrW, wPNil, wPCons, wVar, wC, wOp, wUn, wCl, wB, wTr, wAnd, wOr, wNot, wAndV, wOrV, wNotV, wIf, wCh, wNil, wCons, wTup, wLe, wSz, wFn, wFnJ, wFnB, wFnJB, wBNil, wBCons, wBOwn, rsvP, rsvJ, wNext, wSeq, wRet, wRetN, wDrop, wIfS, wSet, wSetOwn, wNever, wAug, wOpO, wIxO, wOpR, wClO, wApp, wSetIt, wFrz, wFor, wRg1, wRg2, wSq, wEnum, wZip, wZipM, wZipS, wZipU, wgN, wgT, wgNil, wgCons, wYes, wAsgT, wgLs, wLenS, wIxS, wFnS, wFnJL, wFnX, wRaise, wRaiseF, wForFn, forFnW, wMet, hide, wIsi, wListOf, wRev, edP, edJ, enP, enJ, enS, NotOwn, Flat, List.map_cons, List.map_nil, List.length_cons, List.length_nil, List.replicate_succ, List.replicate_zero, List.cons_append, List.nil_append, List.append_nil, List.set_cons_zero, List.set_cons_succ, List.getElem?_cons_zero, List.getElem?_cons_succ, Nat.reduceAdd, Nat.reduceSub, Option.some.injEq, Sl.imm.injEq, Sl.own.injEq, Sl.scr.injEq, exists_eq_left, exists_eq_left', exists_eq_right, exists_eq, exists_eq', exists_and_left, and_assoc, and_true, true_and, ne_eq, not_false_eq_true, Nat.succ_ne_zero, or_true, true_or, true_implies, forall_eq', forall_eq, PyData.int.injEq, PyData.bool.injEq, PyData.list.injEq, PyData.tuple.injEq, List.cons.injEq, i_add, i_iadd, i_sub, i_mul, i_mod, i_fdiv, i_fdivG, i_pow, i_neg, i_le, i_ge, i_gt, i_lt, i_eq, i_ne, i_intI, i_intB, i_abs, i_max, i_min, i_lenL, i_lenT, i_ixL, i_ixT, i_tupL, i_tupT, i_truB, Bool.not_true, Bool.not_false, Bool.false_eq_true, if_true, if_false, reduceIte]
  refine lcY (α := List Int) (e1 := [.imm (rowD a), .imm d, .un]) (X := rowD) (f := fun b => .bool (subB a b)) (xs := rs) (fun x => [.imm (rowD a), .imm d, .imm (rowD x)]) (by decide) (fun Q q => ⟨_, rfl, _, hd.symm, q⟩) (no1 trivial) (sl200 (by omega)) (fun _ => rfl) (fun x hx Q q => ?_) (fun x hx Q q => ?_) ?_
  · simp -failIfUnchanged only [wip, wCallW, wForFv, forFvW, wMkX, wDic1, wMtX, wForPr, forPrW, wPNil, wPCons, wVar, wC, wOp, wUn, wCl, wB, wTr, wAnd, wOr, wNot, wAndV, wOrV, wNotV, wIf, wCh, wNil, wCons, wTup, wLe, wSz, wFn, wFnJ, wFnB, wFnJB, wBNil, wBCons, wBOwn, rsvP, rsvJ, wNext, wRet, wRetN, wDrop, wIfS, wSet, wSetOwn, wNever, wAug, wOpO, wIxO, wOpR, wClO, wApp, wSetIt, wFrz, wFor, wRg1, wRg2, wSq, wEnum, wZip, wZipM, wZipS, wZipU, wgN, wgT, wgNil, wgCons, wYes, wAsgT, wgLs, wLenS, wIxS, wFnS, wFnJL, wFnX, wRaise, wRaiseF, wForFn, forFnW, wMet, hide, wIsi, wListOf, wRev, edP, edJ, enP, enJ, enS, NotOwn, Flat, List.map_cons, List.map_nil, List.length_cons, List.length_nil, List.replicate_succ, List.replicate_zero, List.cons_append, List.nil_append, List.append_nil, List.set_cons_zero, List.set_cons_succ, List.getElem?_cons_zero, List.getElem?_cons_succ, Nat.reduceAdd, Nat.reduceSub, Option.some.injEq, Sl.imm.injEq, Sl.own.injEq, Sl.scr.injEq, exists_eq_left, exists_eq_left', exists_eq_right, exists_eq, exists_eq', exists_and_left, and_assoc, and_true, true_and, ne_eq, not_false_eq_true, Nat.succ_ne_zero, or_true, true_or, true_implies, forall_eq', forall_eq, PyData.int.injEq, PyData.bool.injEq, PyData.list.injEq, PyData.tuple.injEq, List.cons.injEq, i_add, i_iadd, i_sub, i_mul, i_mod, i_fdiv, i_fdivG, i_pow, i_neg, i_le, i_ge, i_gt, i_lt, i_eq, i_ne, i_intI, i_intB, i_abs, i_max, i_min, i_lenL, i_lenT, i_ixL, i_ixT, i_tupL, i_tupT, i_truB, Bool.not_true, Bool.not_false, Bool.false_eq_true, if_true, if_false, reduceIte]
    exact q
  · simp -failIfUnchanged only [wf_is_within, wCallW, wForFv, forFvW, wMkX, wDic1, wMtX, wForPr, forPrW, wPNil, wPCons, wVar, wC, wOp, wUn, wCl, wB, wTr, wAnd, wOr, wNot, wAndV, wOrV, wNotV, wIf, wCh, wNil, wCons, wTup, wLe, wSz, wFn, wFnJ, wFnB, wFnJB, wBNil, wBCons, wBOwn, rsvP, rsvJ, wNext, wRet, wRetN, wDrop, wIfS, wSet, wSetOwn, wNever, wAug, wOpO, wIxO, wOpR, wClO, wApp, wSetIt, wFrz, wFor, wRg1, wRg2, wSq, wEnum, wZip, wZipM, wZipS, wZipU, wgN, wgT, wgNil, wgCons, wYes, wAsgT, wgLs, wLenS, wIxS, wFnS, wFnJL, wFnX, wRaise, wRaiseF, wForFn, forFnW, wMet, hide, wIsi, wListOf, wRev, edP, edJ, enP, enJ, enS, NotOwn, Flat, List.map_cons, List.map_nil, List.length_cons, List.length_nil, List.replicate_succ, List.replicate_zero, List.cons_append, List.nil_append, List.append_nil, List.set_cons_zero, List.set_cons_succ, List.getElem?_cons_zero, List.getElem?_cons_succ, Nat.reduceAdd, Nat.reduceSub, Option.some.injEq, Sl.imm.injEq, Sl.own.injEq, Sl.scr.injEq, exists_eq_left, exists_eq_left', exists_eq_right, exists_eq, exists_eq', exists_and_left, and_assoc, and_true, true_and, ne_eq, not_false_eq_true, Nat.succ_ne_zero, or_true, true_or, true_implies, forall_eq', forall_eq, PyData.int.injEq, PyData.bool.injEq, PyData.list.injEq, PyData.tuple.injEq, List.cons.injEq, i_add, i_iadd, i_sub, i_mul, i_mod, i_fdiv, i_fdivG, i_pow, i_neg, i_le, i_ge, i_gt, i_lt, i_eq, i_ne, i_intI, i_intB, i_abs, i_max, i_min, i_lenL, i_lenT, i_ixL, i_ixT, i_tupL, i_tupT, i_truB, Bool.not_true, Bool.not_false, Bool.false_eq_true, if_true, if_false, reduceIte]
    exact ⟨a, rfl, x, rfl, hz1, q⟩
  · exact ⟨_, any_map.mpr rfl, q⟩


end K14

set_option Elab.async false
set_option linter.all false
set_option maxRecDepth 100000
set_option maxHeartbeats 4000000
namespace K14
open PySem PySem.Spec PyProof.Rows L2 Pd


theorem rng_ints (n : Int) : rngD 0 n.toNat = (intsTo n).map .int := by
  unfold rngD intsTo
  rw [List.map_map]
  exact List.map_congr_left fun i _ => by show PyData.int (0 + (i : Nat)) = .int ((i : Nat) : Int); rw [Int.zero_add]
theorem intsTo_len {n : Int} : (intsTo n).length = n.toNat := by unfold intsTo; rw [List.length_map, List.length_range]
theorem pu_free_in (ds Q) (hl : ds.length = 2) (h : wf_free_in ds Q) : ws_free_in (edP Q) (enP N_free_in ds) := by
  obtain ⟨m, rs, rfl, h1, h2, h3, q⟩ := h
  simp only [ws_free_in, N_free_in, wCallW, wForFv, forFvW, wMkX, wDic1, wMtX, wForPr, forPrW, wPNil, wPCons, wVar, wC, wOp, wUn, wCl, wB, wTr, wAnd, wOr, wNot, wAndV, wOrV, wNotV, wIf, wCh, wNil, wCons, wTup, wLe, wSz, wFn, wFnJ, wFnB, wFnJB, wBNil, wBCons, wBOwn, rsvP, rsvJ, wNext, wSeq, wRet, wRetN, wDrop, wIfS, wSet, wSetOwn, wNever, wAug, wOpO, wIxO, wOpR, wClO, wApp, wSetIt, wFrz, wFor, wRg1, wRg2, wSq, wEnum, wZip, wZipM, wZipS, wZipU, wgN, wgT, wgNil, wgCons, wYes, wAsgT, wgLs, wLenS, wIxS, wFnS, wFnJL, wFnX, wRaise, wRaiseF, wForFn, forFnW, wMet, hide, wIsi, wListOf, wRev, edP, edJ, enP, enJ, enS, NotOwn, Flat, List.map_cons, List.map_nil, List.length_cons, List.length_nil, List.replicate_succ, List.replicate_zero, List.cons_append, List.nil_append, List.append_nil, List.set_cons_zero, List.set_cons_succ, List.getElem?_cons_zero, List.getElem?_cons_succ, Nat.reduceAdd, Nat.reduceSub, Option.some.injEq, Sl.imm.injEq, Sl.own.injEq, Sl.scr.injEq, exists_eq_left, exists_eq_left', exists_eq_right, exists_eq, exists_eq', exists_and_left, and_assoc, and_true, true_and, ne_eq, not_false_eq_true, Nat.succ_ne_zero, or_true, true_or, true_implies, forall_eq', forall_eq, PyData.int.injEq, PyData.bool.injEq, PyData.list.injEq, PyData.tuple.injEq, List.cons.injEq, i_add, i_iadd, i_sub, i_mul, i_mod, i_fdiv, i_fdivG, i_pow, i_neg, i_le, i_ge, i_gt, i_lt, i_eq, i_ne, i_intI, i_intB, i_abs, i_max, i_min, i_lenL, i_lenT, i_ixL, i_ixT, i_tupL, i_tupT, i_truB, Bool.not_true, Bool.not_false, Bool.false_eq_true, if_true, if_false, reduceIte]
  refine lcG (α := Int) (e1 := [.imm (.int m), .imm (rowsD rs), .un]) (X := .int) (f := .int) (fun x => [.imm (.int m), .imm (rowsD rs), .imm (.int x)]) (fun x => !rs.any fun r => r.contains x) (xs := intsTo m) (by decide) (fun Q q => ?_) (no1 trivial) (by rw [intsTo_len]; exact sl200 (by omega)) (fun _ => rfl) (fun x hx Q q => ?_) (fun x hx Q q => ?_) (fun x hx hc Q q => ?_) ?_
  · simp -failIfUnchanged only [wCallW, wForFv, forFvW, wMkX, wDic1, wMtX, wForPr, forPrW, wPNil, wPCons, wVar, wC, wOp, wUn, wCl, wB, wTr, wAnd, wOr, wNot, wAndV, wOrV, wNotV, wIf, wCh, wNil, wCons, wTup, wLe, wSz, wFn, wFnJ, wFnB, wFnJB, wBNil, wBCons, wBOwn, rsvP, rsvJ, wNext, wRet, wRetN, wDrop, wIfS, wSet, wSetOwn, wNever, wAug, wOpO, wIxO, wOpR, wClO, wApp, wSetIt, wFrz, wFor, wRg1, wRg2, wSq, wEnum, wZip, wZipM, wZipS, wZipU, wgN, wgT, wgNil, wgCons, wYes, wAsgT, wgLs, wLenS, wIxS, wFnS, wFnJL, wFnX, wRaise, wRaiseF, wForFn, forFnW, wMet, hide, wIsi, wListOf, wRev, edP, edJ, enP, enJ, enS, NotOwn, Flat, List.map_cons, List.map_nil, List.length_cons, List.length_nil, List.replicate_succ, List.replicate_zero, List.cons_append, List.nil_append, List.append_nil, List.set_cons_zero, List.set_cons_succ, List.getElem?_cons_zero, List.getElem?_cons_succ, Nat.reduceAdd, Nat.reduceSub, Option.some.injEq, Sl.imm.injEq, Sl.own.injEq, Sl.scr.injEq, exists_eq_left, exists_eq_left', exists_eq_right, exists_eq, exists_eq', exists_and_left, and_assoc, and_true, true_and, ne_eq, not_false_eq_true, Nat.succ_ne_zero, or_true, true_or, true_implies, forall_eq', forall_eq, PyData.int.injEq, PyData.bool.injEq, PyData.list.injEq, PyData.tuple.injEq, List.cons.injEq, i_add, i_iadd, i_sub, i_mul, i_mod, i_fdiv, i_fdivG, i_pow, i_neg, i_le, i_ge, i_gt, i_lt, i_eq, i_ne, i_intI, i_intB, i_abs, i_max, i_min, i_lenL, i_lenT, i_ixL, i_ixT, i_tupL, i_tupT, i_truB, Bool.not_true, Bool.not_false, Bool.false_eq_true, if_true, if_false, reduceIte]
    rw [rng_ints]
    exact ⟨by omega, by omega, q⟩
  · simp -failIfUnchanged only [wip, wCallW, wForFv, forFvW, wMkX, wDic1, wMtX, wForPr, forPrW, wPNil, wPCons, wVar, wC, wOp, wUn, wCl, wB, wTr, wAnd, wOr, wNot, wAndV, wOrV, wNotV, wIf, wCh, wNil, wCons, wTup, wLe, wSz, wFn, wFnJ, wFnB, wFnJB, wBNil, wBCons, wBOwn, rsvP, rsvJ, wNext, wRet, wRetN, wDrop, wIfS, wSet, wSetOwn, wNever, wAug, wOpO, wIxO, wOpR, wClO, wApp, wSetIt, wFrz, wFor, wRg1, wRg2, wSq, wEnum, wZip, wZipM, wZipS, wZipU, wgN, wgT, wgNil, wgCons, wYes, wAsgT, wgLs, wLenS, wIxS, wFnS, wFnJL, wFnX, wRaise, wRaiseF, wForFn, forFnW, wMet, hide, wIsi, wListOf, wRev, edP, edJ, enP, enJ, enS, NotOwn, Flat, List.map_cons, List.map_nil, List.length_cons, List.length_nil, List.replicate_succ, List.replicate_zero, List.cons_append, List.nil_append, List.append_nil, List.set_cons_zero, List.set_cons_succ, List.getElem?_cons_zero, List.getElem?_cons_succ, Nat.reduceAdd, Nat.reduceSub, Option.some.injEq, Sl.imm.injEq, Sl.own.injEq, Sl.scr.injEq, exists_eq_left, exists_eq_left', exists_eq_right, exists_eq, exists_eq', exists_and_left, and_assoc, and_true, true_and, ne_eq, not_false_eq_true, Nat.succ_ne_zero, or_true, true_or, true_implies, forall_eq', forall_eq, PyData.int.injEq, PyData.bool.injEq, PyData.list.injEq, PyData.tuple.injEq, List.cons.injEq, i_add, i_iadd, i_sub, i_mul, i_mod, i_fdiv, i_fdivG, i_pow, i_neg, i_le, i_ge, i_gt, i_lt, i_eq, i_ne, i_intI, i_intB, i_abs, i_max, i_min, i_lenL, i_lenT, i_ixL, i_ixT, i_tupL, i_tupT, i_truB, Bool.not_true, Bool.not_false, Bool.false_eq_true, if_true, if_false, reduceIte]
    exact q
  · simp -failIfUnchanged only [sz0, sz1, sz2, sz3, sz4, sz5, sz6, sz7, sz8, sz9, sz10, sz11, sz12, sz13, sz14, sz15, sz16, sz17, sz18, sz19, sz20, sz21, sz22, sz23, sz24, sz25, sz26, sz27, sz28, sz29, sz30, sz31, sz32, sz33, sz34, sz35, sz36, sz37, sz38, sz39, sz40, wf_is_within_any, wCallW, wForFv, forFvW, wMkX, wDic1, wMtX, wForPr, forPrW, wPNil, wPCons, wVar, wC, wOp, wUn, wCl, wB, wTr, wAnd, wOr, wNot, wAndV, wOrV, wNotV, wIf, wCh, wNil, wCons, wTup, wLe, wSz, wFn, wFnJ, wFnB, wFnJB, wBNil, wBCons, wBOwn, rsvP, rsvJ, wNext, wRet, wRetN, wDrop, wIfS, wSet, wSetOwn, wNever, wAug, wOpO, wIxO, wOpR, wClO, wApp, wSetIt, wFrz, wFor, wRg1, wRg2, wSq, wEnum, wZip, wZipM, wZipS, wZipU, wgN, wgT, wgNil, wgCons, wYes, wAsgT, wgLs, wLenS, wIxS, wFnS, wFnJL, wFnX, wRaise, wRaiseF, wForFn, forFnW, wMet, hide, wIsi, wListOf, wRev, edP, edJ, enP, enJ, enS, NotOwn, Flat, List.map_cons, List.map_nil, List.length_cons, List.length_nil, List.replicate_succ, List.replicate_zero, List.cons_append, List.nil_append, List.append_nil, List.set_cons_zero, List.set_cons_succ, List.getElem?_cons_zero, List.getElem?_cons_succ, Nat.reduceAdd, Nat.reduceSub, Option.some.injEq, Sl.imm.injEq, Sl.own.injEq, Sl.scr.injEq, exists_eq_left, exists_eq_left', exists_eq_right, exists_eq, exists_eq', exists_and_left, and_assoc, and_true, true_and, ne_eq, not_false_eq_true, Nat.succ_ne_zero, or_true, true_or, true_implies, forall_eq', forall_eq, PyData.int.injEq, PyData.bool.injEq, PyData.list.injEq, PyData.tuple.injEq, List.cons.injEq, i_add, i_iadd, i_sub, i_mul, i_mod, i_fdiv, i_fdivG, i_pow, i_neg, i_le, i_ge, i_gt, i_lt, i_eq, i_ne, i_intI, i_intB, i_abs, i_max, i_min, i_lenL, i_lenT, i_ixL, i_ixT, i_tupL, i_tupT, i_truB, Bool.not_true, Bool.not_false, Bool.false_eq_true, if_true, if_false, reduceIte]
    refine ⟨[x], rfl, rs, Or.inl rfl, by simp, by omega, ?_⟩
    have e : (rs.any fun b => subB [x] b) = rs.any fun r => r.contains x := by
      have e2 : (fun b => subB [x] b) = fun r => r.contains x := funext fun r => by
        unfold subB
        rw [List.all_cons, List.all_nil, Bool.and_true]
      rw [e2]
    rw [e]
    exact q
  · simp -failIfUnchanged only [wCallW, wForFv, forFvW, wMkX, wDic1, wMtX, wForPr, forPrW, wPNil, wPCons, wVar, wC, wOp, wUn, wCl, wB, wTr, wAnd, wOr, wNot, wAndV, wOrV, wNotV, wIf, wCh, wNil, wCons, wTup, wLe, wSz, wFn, wFnJ, wFnB, wFnJB, wBNil, wBCons, wBOwn, rsvP, rsvJ, wNext, wRet, wRetN, wDrop, wIfS, wSet, wSetOwn, wNever, wAug, wOpO, wIxO, wOpR, wClO, wApp, wSetIt, wFrz, wFor, wRg1, wRg2, wSq, wEnum, wZip, wZipM, wZipS, wZipU, wgN, wgT, wgNil, wgCons, wYes, wAsgT, wgLs, wLenS, wIxS, wFnS, wFnJL, wFnX, wRaise, wRaiseF, wForFn, forFnW, wMet, hide, wIsi, wListOf, wRev, edP, edJ, enP, enJ, enS, NotOwn, Flat, List.map_cons, List.map_nil, List.length_cons, List.length_nil, List.replicate_succ, List.replicate_zero, List.cons_append, List.nil_append, List.append_nil, List.set_cons_zero, List.set_cons_succ, List.getElem?_cons_zero, List.getElem?_cons_succ, Nat.reduceAdd, Nat.reduceSub, Option.some.injEq, Sl.imm.injEq, Sl.own.injEq, Sl.scr.injEq, exists_eq_left, exists_eq_left', exists_eq_right, exists_eq, exists_eq', exists_and_left, and_assoc, and_true, true_and, ne_eq, not_false_eq_true, Nat.succ_ne_zero, or_true, true_or, true_implies, forall_eq', forall_eq, PyData.int.injEq, PyData.bool.injEq, PyData.list.injEq, PyData.tuple.injEq, List.cons.injEq, i_add, i_iadd, i_sub, i_mul, i_mod, i_fdiv, i_fdivG, i_pow, i_neg, i_le, i_ge, i_gt, i_lt, i_eq, i_ne, i_intI, i_intB, i_abs, i_max, i_min, i_lenL, i_lenT, i_ixL, i_ixT, i_tupL, i_tupT, i_truB, Bool.not_true, Bool.not_false, Bool.false_eq_true, if_true, if_false, reduceIte]
    exact q
  · exact q
theorem pu__law_jug (ns ds Q) (hl : ds.length + 1 = 2) (h : wf__law_jug ns ds Q) : ws__law_jug (edP Q) (enS N__law_jug ns ds) := by
  obtain ⟨s, rfl, q⟩ := h
  simp only [ws__law_jug, N__law_jug, wCallW, wForFv, forFvW, wMkX, wDic1, wMtX, wForPr, forPrW, wPNil, wPCons, wVar, wC, wOp, wUn, wCl, wB, wTr, wAnd, wOr, wNot, wAndV, wOrV, wNotV, wIf, wCh, wNil, wCons, wTup, wLe, wSz, wFn, wFnJ, wFnB, wFnJB, wBNil, wBCons, wBOwn, rsvP, rsvJ, wNext, wSeq, wRet, wRetN, wDrop, wIfS, wSet, wSetOwn, wNever, wAug, wOpO, wIxO, wOpR, wClO, wApp, wSetIt, wFrz, wFor, wRg1, wRg2, wSq, wEnum, wZip, wZipM, wZipS, wZipU, wgN, wgT, wgNil, wgCons, wYes, wAsgT, wgLs, wLenS, wIxS, wFnS, wFnJL, wFnX, wRaise, wRaiseF, wForFn, forFnW, wMet, hide, wIsi, wListOf, wRev, edP, edJ, enP, enJ, enS, NotOwn, Flat, List.map_cons, List.map_nil, List.length_cons, List.length_nil, List.replicate_succ, List.replicate_zero, List.cons_append, List.nil_append, List.append_nil, List.set_cons_zero, List.set_cons_succ, List.getElem?_cons_zero, List.getElem?_cons_succ, Nat.reduceAdd, Nat.reduceSub, Option.some.injEq, Sl.imm.injEq, Sl.own.injEq, Sl.scr.injEq, exists_eq_left, exists_eq_left', exists_eq_right, exists_eq, exists_eq', exists_and_left, and_assoc, and_true, true_and, ne_eq, not_false_eq_true, Nat.succ_ne_zero, or_true, true_or, true_implies, forall_eq', forall_eq, PyData.int.injEq, PyData.bool.injEq, PyData.list.injEq, PyData.tuple.injEq, List.cons.injEq, i_add, i_iadd, i_sub, i_mul, i_mod, i_fdiv, i_fdivG, i_pow, i_neg, i_le, i_ge, i_gt, i_lt, i_eq, i_ne, i_intI, i_intB, i_abs, i_max, i_min, i_lenL, i_lenT, i_ixL, i_ixT, i_tupL, i_tupT, i_truB, Bool.not_true, Bool.not_false, Bool.false_eq_true, if_true, if_false, reduceIte]
  by_cases h : (s : Int) < (ns.length : Nat)
  · rw [if_pos (by simpa using h)]
    refine ⟨_, at_nat (by omega), pow_ok (by decide +kernel), pow_ok (by decide +kernel), by decide +kernel, by decide, small_r (by decide) (by decide), small_l (by decide) (by decide), small_l (by decide) (by decide), pow_ok (by decide +kernel), by decide, q _ _ _⟩
  · rw [if_neg (by simpa using h)]
    refine ⟨small_l (by decide) (by decide), pow_ok (by decide +kernel), pow_ok (by decide +kernel), by decide +kernel, by decide, small_r (by decide) (by decide), small_l (by decide) (by decide), small_l (by decide) (by decide), pow_ok (by decide +kernel), by decide, q _ _ _⟩
theorem pu__law_pour (dj ds Q) (hl : ds.length + 1 = 2) (h : wf__law_pour dj ds Q) : ws__law_pour (edJ Q) (enJ N__law_pour dj ds) := by
  obtain ⟨g, m, c, t, rfl, rfl, ht, ht2, q⟩ := h
  simp only [ws__law_pour, N__law_pour, at0, at1, at2, ix30, ix32, wCallW, wForFv, forFvW, wMkX, wDic1, wMtX, wForPr, forPrW, wPNil, wPCons, wVar, wC, wOp, wUn, wCl, wB, wTr, wAnd, wOr, wNot, wAndV, wOrV, wNotV, wIf, wCh, wNil, wCons, wTup, wLe, wSz, wFn, wFnJ, wFnB, wFnJB, wBNil, wBCons, wBOwn, rsvP, rsvJ, wNext, wSeq, wRet, wRetN, wDrop, wIfS, wSet, wSetOwn, wNever, wAug, wOpO, wIxO, wOpR, wClO, wApp, wSetIt, wFrz, wFor, wRg1, wRg2, wSq, wEnum, wZip, wZipM, wZipS, wZipU, wgN, wgT, wgNil, wgCons, wYes, wAsgT, wgLs, wLenS, wIxS, wFnS, wFnJL, wFnX, wRaise, wRaiseF, wForFn, forFnW, wMet, hide, wIsi, wListOf, wRev, edP, edJ, enP, enJ, enS, NotOwn, Flat, List.map_cons, List.map_nil, List.length_cons, List.length_nil, List.replicate_succ, List.replicate_zero, List.cons_append, List.nil_append, List.append_nil, List.set_cons_zero, List.set_cons_succ, List.getElem?_cons_zero, List.getElem?_cons_succ, Nat.reduceAdd, Nat.reduceSub, Option.some.injEq, Sl.imm.injEq, Sl.own.injEq, Sl.scr.injEq, exists_eq_left, exists_eq_left', exists_eq_right, exists_eq, exists_eq', exists_and_left, and_assoc, and_true, true_and, ne_eq, not_false_eq_true, Nat.succ_ne_zero, or_true, true_or, true_implies, forall_eq', forall_eq, PyData.int.injEq, PyData.bool.injEq, PyData.list.injEq, PyData.tuple.injEq, List.cons.injEq, i_add, i_iadd, i_sub, i_mul, i_mod, i_fdiv, i_fdivG, i_pow, i_neg, i_le, i_ge, i_gt, i_lt, i_eq, i_ne, i_intI, i_intB, i_abs, i_max, i_min, i_lenL, i_lenT, i_ixL, i_ixT, i_tupL, i_tupT, i_truB, Bool.not_true, Bool.not_false, Bool.false_eq_true, if_true, if_false, reduceIte]
  by_cases h : 0 < g
  · rw [if_pos (by simpa using h)]
    exact ⟨ht, divG ht ht2, q _ _ _ _ (Int.emod_nonneg _ (by omega)) (Int.emod_lt_of_pos _ ht)⟩
  · rw [if_neg (by simpa using h)]
    have b1 : ∀ x : Int, 0 ≤ x % 2305843009213693951 ∧ x % 2305843009213693951 < 2305843009213693951 := fun x => by omega
    exact ⟨small_l (by decide) (by decide), by decide, small_l (by have := b1 (m + 49979687 * (c + 1)); omega) (by have := b1 (m + 49979687 * (c + 1)); omega), small_l (by decide) (by decide), by decide, small_r (by decide) (by decide),
      divG (by decide) (log_lt (by decide) (by decide)), ht, q _ _ _ _ (Int.emod_nonneg _ (by omega)) (Int.emod_lt_of_pos _ ht)⟩

theorem pu__law_sip (dj ds Q) (hl : ds.length + 1 = 2) (h : wf__law_sip dj ds Q) : ws__law_sip (edJ Q) (enJ N__law_sip dj ds) := by
  obtain ⟨g, m, c, xs, rfl, rfl, h1, h2, q⟩ := h
  simp only [ws__law_sip, N__law_sip, wf__law_pour, wCallW, wForFv, forFvW, wMkX, wDic1, wMtX, wForPr, forPrW, wPNil, wPCons, wVar, wC, wOp, wUn, wCl, wB, wTr, wAnd, wOr, wNot, wAndV, wOrV, wNotV, wIf, wCh, wNil, wCons, wTup, wLe, wSz, wFn, wFnJ, wFnB, wFnJB, wBNil, wBCons, wBOwn, rsvP, rsvJ, wNext, wSeq, wRet, wRetN, wDrop, wIfS, wSet, wSetOwn, wNever, wAug, wOpO, wIxO, wOpR, wClO, wApp, wSetIt, wFrz, wFor, wRg1, wRg2, wSq, wEnum, wZip, wZipM, wZipS, wZipU, wgN, wgT, wgNil, wgCons, wYes, wAsgT, wgLs, wLenS, wIxS, wFnS, wFnJL, wFnX, wRaise, wRaiseF, wForFn, forFnW, wMet, hide, wIsi, wListOf, wRev, edP, edJ, enP, enJ, enS, NotOwn, Flat, List.map_cons, List.map_nil, List.length_cons, List.length_nil, List.replicate_succ, List.replicate_zero, List.cons_append, List.nil_append, List.append_nil, List.set_cons_zero, List.set_cons_succ, List.getElem?_cons_zero, List.getElem?_cons_succ, Nat.reduceAdd, Nat.reduceSub, Option.some.injEq, Sl.imm.injEq, Sl.own.injEq, Sl.scr.injEq, exists_eq_left, exists_eq_left', exists_eq_right, exists_eq, exists_eq', exists_and_left, and_assoc, and_true, true_and, ne_eq, not_false_eq_true, Nat.succ_ne_zero, or_true, true_or, true_implies, forall_eq', forall_eq, PyData.int.injEq, PyData.bool.injEq, PyData.list.injEq, PyData.tuple.injEq, List.cons.injEq, i_add, i_iadd, i_sub, i_mul, i_mod, i_fdiv, i_fdivG, i_pow, i_neg, i_le, i_ge, i_gt, i_lt, i_eq, i_ne, i_intI, i_intB, i_abs, i_max, i_min, i_lenL, i_lenT, i_ixL, i_ixT, i_tupL, i_tupT, i_truB, Bool.not_true, Bool.not_false, Bool.false_eq_true, if_true, if_false, reduceIte]
  have hl : 0 < xs.length := List.length_pos_iff.mpr h1
  refine ⟨by omega, log_lt (by omega) (by omega), fun r g m c h3 h4 => ?_⟩
  obtain ⟨x, hx, hm⟩ := at_int h3 h4
  exact ⟨x, hx, q x hm g m c⟩
theorem lots_is {H : Int} {rs : List (List Int)} (h : IsLots H rs) : lotsB H (rowsD rs) = true := by
  unfold lotsB
  exact decide_eq_true (p := IsLotsD H (rowsD rs)) ⟨rs, rfl, h⟩
theorem HC.mo {h l : D} {R : Exc → Prop} {K K' : Int → Prop} (x : HC h l R K) (k : ∀ H : Int, h = .int H → 1 ≤ H → H ≤ 6 → Sz2 l → lotsB H l = true → K H → K' H) : HC h l R K' := by
  rcases x with x | ⟨H, e, h1, h2, h3, x⟩
  · exact Or.inl x
  · refine Or.inr ⟨H, e, h1, h2, h3, ?_⟩
    rcases x with x | ⟨b, x⟩
    · exact Or.inl x
    · exact Or.inr ⟨b, k H e h1 h2 h3 b x⟩
theorem ff {b : Bool} {c : Prop} (h1 : b = false) (h2 : b = true) : c := by rw [h1] at h2; cases h2
theorem pu_check_between (ds Q R) (hl : ds.length = 3) (h : wf_check_between ds Q R) : ws_check_between (fun e _ => R e) (edP Q) (enP N_check_between ds) := by
  obtain ⟨d, a, b, rfl, h1, h2⟩ := h
  simp only [ws_check_between, N_check_between, wf_is_between, wCallW, wForFv, forFvW, wMkX, wDic1, wMtX, wForPr, forPrW, wPNil, wPCons, wVar, wC, wOp, wUn, wCl, wB, wTr, wAnd, wOr, wNot, wAndV, wOrV, wNotV, wIf, wCh, wNil, wCons, wTup, wLe, wSz, wFn, wFnJ, wFnB, wFnJB, wBNil, wBCons, wBOwn, rsvP, rsvJ, wNext, wSeq, wRet, wRetN, wDrop, wIfS, wSet, wSetOwn, wNever, wAug, wOpO, wIxO, wOpR, wClO, wApp, wSetIt, wFrz, wFor, wRg1, wRg2, wSq, wEnum, wZip, wZipM, wZipS, wZipU, wgN, wgT, wgNil, wgCons, wYes, wAsgT, wgLs, wLenS, wIxS, wFnS, wFnJL, wFnX, wRaise, wRaiseF, wForFn, forFnW, wMet, hide, wIsi, wListOf, wRev, edP, edJ, enP, enJ, enS, NotOwn, Flat, List.map_cons, List.map_nil, List.length_cons, List.length_nil, List.replicate_succ, List.replicate_zero, List.cons_append, List.nil_append, List.append_nil, List.set_cons_zero, List.set_cons_succ, List.getElem?_cons_zero, List.getElem?_cons_succ, Nat.reduceAdd, Nat.reduceSub, Option.some.injEq, Sl.imm.injEq, Sl.own.injEq, Sl.scr.injEq, exists_eq_left, exists_eq_left', exists_eq_right, exists_eq, exists_eq', exists_and_left, and_assoc, and_true, true_and, ne_eq, not_false_eq_true, Nat.succ_ne_zero, or_true, true_or, true_implies, forall_eq', forall_eq, PyData.int.injEq, PyData.bool.injEq, PyData.list.injEq, PyData.tuple.injEq, List.cons.injEq, i_add, i_iadd, i_sub, i_mul, i_mod, i_fdiv, i_fdivG, i_pow, i_neg, i_le, i_ge, i_gt, i_lt, i_eq, i_ne, i_intI, i_intB, i_abs, i_max, i_min, i_lenL, i_lenT, i_ixL, i_ixT, i_tupL, i_tupT, i_truB, Bool.not_true, Bool.not_false, Bool.false_eq_true, if_true, if_false, reduceIte]
  cases h : inB a b d with
  | true => exact h1 h
  | false => exact h2 h
theorem pu_check_houses (ds Q R) (hl : ds.length = 1) (h : wf_check_houses ds Q R) : ws_check_houses (fun e _ => R e) (edP Q) (enP N_check_houses ds) := by
  obtain ⟨d, rfl, h1, h2⟩ := h
  simp only [ws_check_houses, N_check_houses, wCallW, wForFv, forFvW, wMkX, wDic1, wMtX, wForPr, forPrW, wPNil, wPCons, wVar, wC, wOp, wUn, wCl, wB, wTr, wAnd, wOr, wNot, wAndV, wOrV, wNotV, wIf, wCh, wNil, wCons, wTup, wLe, wSz, wFn, wFnJ, wFnB, wFnJB, wBNil, wBCons, wBOwn, rsvP, rsvJ, wNext, wSeq, wRet, wRetN, wDrop, wIfS, wSet, wSetOwn, wNever, wAug, wOpO, wIxO, wOpR, wClO, wApp, wSetIt, wFrz, wFor, wRg1, wRg2, wSq, wEnum, wZip, wZipM, wZipS, wZipU, wgN, wgT, wgNil, wgCons, wYes, wAsgT, wgLs, wLenS, wIxS, wFnS, wFnJL, wFnX, wRaise, wRaiseF, wForFn, forFnW, wMet, hide, wIsi, wListOf, wRev, edP, edJ, enP, enJ, enS, NotOwn, Flat, List.map_cons, List.map_nil, List.length_cons, List.length_nil, List.replicate_succ, List.replicate_zero, List.cons_append, List.nil_append, List.append_nil, List.set_cons_zero, List.set_cons_succ, List.getElem?_cons_zero, List.getElem?_cons_succ, Nat.reduceAdd, Nat.reduceSub, Option.some.injEq, Sl.imm.injEq, Sl.own.injEq, Sl.scr.injEq, exists_eq_left, exists_eq_left', exists_eq_right, exists_eq, exists_eq', exists_and_left, and_assoc, and_true, true_and, ne_eq, not_false_eq_true, Nat.succ_ne_zero, or_true, true_or, true_implies, forall_eq', forall_eq, PyData.int.injEq, PyData.bool.injEq, PyData.list.injEq, PyData.tuple.injEq, List.cons.injEq, i_add, i_iadd, i_sub, i_mul, i_mod, i_fdiv, i_fdivG, i_pow, i_neg, i_le, i_ge, i_gt, i_lt, i_eq, i_ne, i_intI, i_intB, i_abs, i_max, i_min, i_lenL, i_lenT, i_ixL, i_ixT, i_tupL, i_tupT, i_truB, Bool.not_true, Bool.not_false, Bool.false_eq_true, if_true, if_false, reduceIte]
  exact ⟨d, _, _, rfl, h1, h2⟩
theorem pu_check_lots (ds Q R) (hl : ds.length = 2) (h : wf_check_lots ds Q R) : ws_check_lots (fun e _ => R e) (edP Q) (enP N_check_lots ds) := by
  obtain ⟨m, d, rfl, hz, h1, h2⟩ := h
  simp only [ws_check_lots, N_check_lots, wCallW, wForFv, forFvW, wMkX, wDic1, wMtX, wForPr, forPrW, wPNil, wPCons, wVar, wC, wOp, wUn, wCl, wB, wTr, wAnd, wOr, wNot, wAndV, wOrV, wNotV, wIf, wCh, wNil, wCons, wTup, wLe, wSz, wFn, wFnJ, wFnB, wFnJB, wBNil, wBCons, wBOwn, rsvP, rsvJ, wNext, wSeq, wRet, wRetN, wDrop, wIfS, wSet, wSetOwn, wNever, wAug, wOpO, wIxO, wOpR, wClO, wApp, wSetIt, wFrz, wFor, wRg1, wRg2, wSq, wEnum, wZip, wZipM, wZipS, wZipU, wgN, wgT, wgNil, wgCons, wYes, wAsgT, wgLs, wLenS, wIxS, wFnS, wFnJL, wFnX, wRaise, wRaiseF, wForFn, forFnW, wMet, hide, wIsi, wListOf, wRev, edP, edJ, enP, enJ, enS, NotOwn, Flat, List.map_cons, List.map_nil, List.length_cons, List.length_nil, List.replicate_succ, List.replicate_zero, List.cons_append, List.nil_append, List.append_nil, List.set_cons_zero, List.set_cons_succ, List.getElem?_cons_zero, List.getElem?_cons_succ, Nat.reduceAdd, Nat.reduceSub, Option.some.injEq, Sl.imm.injEq, Sl.own.injEq, Sl.scr.injEq, exists_eq_left, exists_eq_left', exists_eq_right, exists_eq, exists_eq', exists_and_left, and_assoc, and_true, true_and, ne_eq, not_false_eq_true, Nat.succ_ne_zero, or_true, true_or, true_implies, forall_eq', forall_eq, PyData.int.injEq, PyData.bool.injEq, PyData.list.injEq, PyData.tuple.injEq, List.cons.injEq, i_add, i_iadd, i_sub, i_mul, i_mod, i_fdiv, i_fdivG, i_pow, i_neg, i_le, i_ge, i_gt, i_lt, i_eq, i_ne, i_intI, i_intB, i_abs, i_max, i_min, i_lenL, i_lenT, i_ixL, i_ixT, i_tupL, i_tupT, i_truB, Bool.not_true, Bool.not_false, Bool.false_eq_true, if_true, if_false, reduceIte]
  refine ⟨m, d, rfl, hz, ?_⟩
  cases h : lotsB m d with
  | true => exact ⟨_, rfl, h1 h⟩
  | false => exact ⟨_, rfl, h2 h⟩
theorem pu_check_housed (ds Q R) (hl : ds.length = 2) (h : wf_check_housed ds Q R) : ws_check_housed (fun e _ => R e) (edP Q) (enP N_check_housed ds) := by
  obtain ⟨h, l, rfl, hc⟩ := h
  unfold ws_check_housed
  (try dsimp only); rw [wSeq_eq]; simp -failIfUnchanged only [N_check_housed, wCallW, wForFv, forFvW, wMkX, wDic1, wMtX, wForPr, forPrW, wPNil, wPCons, wVar, wC, wOp, wUn, wCl, wB, wTr, wAnd, wOr, wNot, wAndV, wOrV, wNotV, wIf, wCh, wNil, wCons, wTup, wLe, wSz, wFn, wFnJ, wFnB, wFnJB, wBNil, wBCons, wBOwn, rsvP, rsvJ, wNext, wRet, wRetN, wDrop, wIfS, wSet, wSetOwn, wNever, wAug, wOpO, wIxO, wOpR, wClO, wApp, wSetIt, wFrz, wFor, wRg1, wRg2, wSq, wEnum, wZip, wZipM, wZipS, wZipU, wgN, wgT, wgNil, wgCons, wYes, wAsgT, wgLs, wLenS, wIxS, wFnS, wFnJL, wFnX, wRaise, wRaiseF, wForFn, forFnW, wMet, hide, wIsi, wListOf, wRev, edP, edJ, enP, enJ, enS, NotOwn, Flat, List.map_cons, List.map_nil, List.length_cons, List.length_nil, List.replicate_succ, List.replicate_zero, List.cons_append, List.nil_append, List.append_nil, List.set_cons_zero, List.set_cons_succ, List.getElem?_cons_zero, List.getElem?_cons_succ, Nat.reduceAdd, Nat.reduceSub, Option.some.injEq, Sl.imm.injEq, Sl.own.injEq, Sl.scr.injEq, exists_eq_left, exists_eq_left', exists_eq_right, exists_eq, exists_eq', exists_and_left, and_assoc, and_true, true_and, ne_eq, not_false_eq_true, Nat.succ_ne_zero, or_true, true_or, true_implies, forall_eq', forall_eq, PyData.int.injEq, PyData.bool.injEq, PyData.list.injEq, PyData.tuple.injEq, List.cons.injEq, i_add, i_iadd, i_sub, i_mul, i_mod, i_fdiv, i_fdivG, i_pow, i_neg, i_le, i_ge, i_gt, i_lt, i_eq, i_ne, i_intI, i_intB, i_abs, i_max, i_min, i_lenL, i_lenT, i_ixL, i_ixT, i_tupL, i_tupT, i_truB, Bool.not_true, Bool.not_false, Bool.false_eq_true, if_true, if_false, reduceIte]
  rcases hc with ⟨e, r⟩ | ⟨H, rfl, h1, h2, h3, hc⟩
  · exact ⟨h, rfl, fun z => ff e z, fun _ => r⟩
  · refine ⟨.int H, rfl, fun _ => ?_, fun z => ?_⟩
    · simp -failIfUnchanged only [wCallW, wForFv, forFvW, wMkX, wDic1, wMtX, wForPr, forPrW, wPNil, wPCons, wVar, wC, wOp, wUn, wCl, wB, wTr, wAnd, wOr, wNot, wAndV, wOrV, wNotV, wIf, wCh, wNil, wCons, wTup, wLe, wSz, wFn, wFnJ, wFnB, wFnJB, wBNil, wBCons, wBOwn, rsvP, rsvJ, wNext, wRet, wRetN, wDrop, wIfS, wSet, wSetOwn, wNever, wAug, wOpO, wIxO, wOpR, wClO, wApp, wSetIt, wFrz, wFor, wRg1, wRg2, wSq, wEnum, wZip, wZipM, wZipS, wZipU, wgN, wgT, wgNil, wgCons, wYes, wAsgT, wgLs, wLenS, wIxS, wFnS, wFnJL, wFnX, wRaise, wRaiseF, wForFn, forFnW, wMet, hide, wIsi, wListOf, wRev, edP, edJ, enP, enJ, enS, NotOwn, Flat, List.map_cons, List.map_nil, List.length_cons, List.length_nil, List.replicate_succ, List.replicate_zero, List.cons_append, List.nil_append, List.append_nil, List.set_cons_zero, List.set_cons_succ, List.getElem?_cons_zero, List.getElem?_cons_succ, Nat.reduceAdd, Nat.reduceSub, Option.some.injEq, Sl.imm.injEq, Sl.own.injEq, Sl.scr.injEq, exists_eq_left, exists_eq_left', exists_eq_right, exists_eq, exists_eq', exists_and_left, and_assoc, and_true, true_and, ne_eq, not_false_eq_true, Nat.succ_ne_zero, or_true, true_or, true_implies, forall_eq', forall_eq, PyData.int.injEq, PyData.bool.injEq, PyData.list.injEq, PyData.tuple.injEq, List.cons.injEq, i_add, i_iadd, i_sub, i_mul, i_mod, i_fdiv, i_fdivG, i_pow, i_neg, i_le, i_ge, i_gt, i_lt, i_eq, i_ne, i_intI, i_intB, i_abs, i_max, i_min, i_lenL, i_lenT, i_ixL, i_ixT, i_tupL, i_tupT, i_truB, Bool.not_true, Bool.not_false, Bool.false_eq_true, if_true, if_false, reduceIte]
      refine ⟨H, l, rfl, h3, fun z => ?_, fun z => ?_⟩
      · rcases hc with ⟨e, _⟩ | ⟨_, q⟩
        · exact ff e z
        · exact q
      · rcases hc with ⟨_, r⟩ | ⟨e, _⟩
        · exact r
        · exact ff z e
    · refine ff z ?_
      show (decide (1 ≤ H) && decide (H ≤ 6)) = true
      rw [decide_eq_true h1, decide_eq_true h2]; rfl


theorem hcY {H : Int} {rs : List (List Int)} {R : Exc → Prop} {K : Int → Prop} (h1 : 1 ≤ H) (h6 : H ≤ 6) (hL : IsLots H rs) (k : K H) : HC (.int H) (rowsD rs) R K := Or.inr ⟨H, rfl, h1, h6, lots_sz hL h6, Or.inr ⟨lots_is hL, k⟩⟩
end K14

set_option Elab.async false
set_option linter.all false
set_option maxRecDepth 100000
set_option maxHeartbeats 4000000
namespace K14
open PySem PySem.Spec PyProof.Rows L2 Pd
theorem isI_int {i : Int} : isI (.int i) = (decide (-TL < i) && decide (i < TL)) := rfl
theorem pu_is_integer (ds Q) (hl : ds.length = 1) (h : wf_is_integer ds Q) : ws_is_integer (edP Q) (enP N_is_integer ds) := by
  obtain ⟨d, rfl, q⟩ := h
  simp only [ws_is_integer, N_is_integer, wf_is_whole, wCallW, wForFv, forFvW, wMkX, wDic1, wMtX, wForPr, forPrW, wPNil, wPCons, wVar, wC, wOp, wUn, wCl, wB, wTr, wAnd, wOr, wNot, wAndV, wOrV, wNotV, wIf, wCh, wNil, wCons, wTup, wLe, wSz, wFn, wFnJ, wFnB, wFnJB, wBNil, wBCons, wBOwn, rsvP, rsvJ, wNext, wSeq, wRet, wRetN, wDrop, wIfS, wSet, wSetOwn, wNever, wAug, wOpO, wIxO, wOpR, wClO, wApp, wSetIt, wFrz, wFor, wRg1, wRg2, wSq, wEnum, wZip, wZipM, wZipS, wZipU, wgN, wgT, wgNil, wgCons, wYes, wAsgT, wgLs, wLenS, wIxS, wFnS, wFnJL, wFnX, wRaise, wRaiseF, wForFn, forFnW, wMet, hide, wIsi, wListOf, wRev, edP, edJ, enP, enJ, enS, NotOwn, Flat, List.map_cons, List.map_nil, List.length_cons, List.length_nil, List.replicate_succ, List.replicate_zero, List.cons_append, List.nil_append, List.append_nil, List.set_cons_zero, List.set_cons_succ, List.getElem?_cons_zero, List.getElem?_cons_succ, Nat.reduceAdd, Nat.reduceSub, Option.some.injEq, Sl.imm.injEq, Sl.own.injEq, Sl.scr.injEq, exists_eq_left, exists_eq_left', exists_eq_right, exists_eq, exists_eq', exists_and_left, and_assoc, and_true, true_and, ne_eq, not_false_eq_true, Nat.succ_ne_zero, or_true, true_or, true_implies, forall_eq', forall_eq, PyData.int.injEq, PyData.bool.injEq, PyData.list.injEq, PyData.tuple.injEq, List.cons.injEq, i_add, i_iadd, i_sub, i_mul, i_mod, i_fdiv, i_fdivG, i_pow, i_neg, i_le, i_ge, i_gt, i_lt, i_eq, i_ne, i_intI, i_intB, i_abs, i_max, i_min, i_lenL, i_lenT, i_ixL, i_ixT, i_tupL, i_tupT, i_truB, Bool.not_true, Bool.not_false, Bool.false_eq_true, if_true, if_false, reduceIte]
  cases d with
  | int i =>
    rw [isI_int] at q
    simp only [isW, wCallW, wForFv, forFvW, wMkX, wDic1, wMtX, wForPr, forPrW, wPNil, wPCons, wVar, wC, wOp, wUn, wCl, wB, wTr, wAnd, wOr, wNot, wAndV, wOrV, wNotV, wIf, wCh, wNil, wCons, wTup, wLe, wSz, wFn, wFnJ, wFnB, wFnJB, wBNil, wBCons, wBOwn, rsvP, rsvJ, wNext, wSeq, wRet, wRetN, wDrop, wIfS, wSet, wSetOwn, wNever, wAug, wOpO, wIxO, wOpR, wClO, wApp, wSetIt, wFrz, wFor, wRg1, wRg2, wSq, wEnum, wZip, wZipM, wZipS, wZipU, wgN, wgT, wgNil, wgCons, wYes, wAsgT, wgLs, wLenS, wIxS, wFnS, wFnJL, wFnX, wRaise, wRaiseF, wForFn, forFnW, wMet, hide, wIsi, wListOf, wRev, edP, edJ, enP, enJ, enS, NotOwn, Flat, List.map_cons, List.map_nil, List.length_cons, List.length_nil, List.replicate_succ, List.replicate_zero, List.cons_append, List.nil_append, List.append_nil, List.set_cons_zero, List.set_cons_succ, List.getElem?_cons_zero, List.getElem?_cons_succ, Nat.reduceAdd, Nat.reduceSub, Option.some.injEq, Sl.imm.injEq, Sl.own.injEq, Sl.scr.injEq, exists_eq_left, exists_eq_left', exists_eq_right, exists_eq, exists_eq', exists_and_left, and_assoc, and_true, true_and, ne_eq, not_false_eq_true, Nat.succ_ne_zero, or_true, true_or, true_implies, forall_eq', forall_eq, PyData.int.injEq, PyData.bool.injEq, PyData.list.injEq, PyData.tuple.injEq, List.cons.injEq, i_add, i_iadd, i_sub, i_mul, i_mod, i_fdiv, i_fdivG, i_pow, i_neg, i_le, i_ge, i_gt, i_lt, i_eq, i_ne, i_intI, i_intB, i_abs, i_max, i_min, i_lenL, i_lenT, i_ixL, i_ixT, i_tupL, i_tupT, i_truB, Bool.not_true, Bool.not_false, Bool.false_eq_true, if_true, if_false, reduceIte]
    by_cases h : -TL < i
    · rw [decide_eq_true h] at q ⊢; exact q
    · rw [decide_eq_false h] at q ⊢; exact q
  | _ => exact q
theorem dAll_map {xs : List D} {f : D → Bool} {z : D} : dAll [.list (xs.map fun x => .bool (f x))] z ↔ z = .bool (xs.all f) := by
  have inj : ∀ as bs : List Bool, as.map PyData.bool = bs.map PyData.bool → as = bs := fun as => by
    induction as with
    | nil => intro bs h; cases bs with
      | nil => rfl
      | cons _ _ => cases h
    | cons a as ih => intro bs h; cases bs with
      | nil => cases h
      | cons b bs =>
        simp only [List.map_cons, List.cons.injEq, PyData.bool.injEq] at h
        rw [h.1, ih _ h.2]
  constructor
  · rintro ⟨bs, h, rfl⟩
    have h1 : xs.map (fun x => PyData.bool (f x)) = bs.map .bool := by
      injection h with h _
      injection h
    have h2 := inj (xs.map f) bs (by rw [List.map_map]; exact h1)
    rw [← h2, List.all_map]
    rfl
  · rintro rfl
    exact ⟨xs.map f, by rw [List.map_map]; rfl, by rw [List.all_map]; rfl⟩
theorem isF_no {xs : List D} (h : xs.length ≠ 2) : isF (.tuple xs) = false := by
  match xs, h with
  | [], _ => rfl
  | [_], _ => rfl
  | [_, _], h => exact absurd rfl h
  | _ :: _ :: _ :: _, _ => rfl
theorem isF_pair {x y : D} (h : isF2 x y = true) : ∃ a b : Int, x = .int a ∧ y = .int b ∧ isI (.int a) = true ∧ isI (.int b) = true ∧ 0 < b ∧ Int.gcd a b = 1 := by
  unfold isF2 at h
  split at h
  · rename_i a b
    simp only [Bool.and_eq_true, decide_eq_true_eq] at h
    exact ⟨a, b, rfl, rfl, h.1.1, h.1.2, h.2.1, h.2.2⟩
  · cases h
theorem isI_ok {d : D} (h : isI d = true) : ∃ a : Int, d = .int a := by
  unfold isI at h
  split at h
  · exact ⟨_, rfl⟩
  · cases h
theorem isF2_no {x y : D} (h : (isI x && isI y) = false) : isF2 x y = false := by
  cases e : isF2 x y with
  | false => rfl
  | true =>
    obtain ⟨a, b, rfl, rfl, h1, h2, _, _⟩ := isF_pair e
    rw [h1, h2] at h; cases h
theorem i_gcd {a b : Int} {z : D} : dGcd [.int a, .int b] z ↔ z = .int (Int.gcd a b) := ⟨fun ⟨_, _, e, h⟩ => by cases e; exact h, fun h => ⟨_, _, rfl, h⟩⟩
theorem pu_is_fraction (ds Q) (hl : ds.length = 1) (h : wf_is_fraction ds Q) : ws_is_fraction (edP Q) (enP N_is_fraction ds) := by
  obtain ⟨d, rfl, q⟩ := h
  cases d with
  | tuple xs =>
    have kt : kitB (tyName (.tuple xs)) "tuple" = some true := rfl
    simp only [ws_is_fraction, N_is_fraction, kt, wCallW, wForFv, forFvW, wMkX, wDic1, wMtX, wForPr, forPrW, wPNil, wPCons, wVar, wC, wOp, wUn, wCl, wB, wTr, wAnd, wOr, wNot, wAndV, wOrV, wNotV, wIf, wCh, wNil, wCons, wTup, wLe, wSz, wFn, wFnJ, wFnB, wFnJB, wBNil, wBCons, wBOwn, rsvP, rsvJ, wNext, wSeq, wRet, wRetN, wDrop, wIfS, wSet, wSetOwn, wNever, wAug, wOpO, wIxO, wOpR, wClO, wApp, wSetIt, wFrz, wFor, wRg1, wRg2, wSq, wEnum, wZip, wZipM, wZipS, wZipU, wgN, wgT, wgNil, wgCons, wYes, wAsgT, wgLs, wLenS, wIxS, wFnS, wFnJL, wFnX, wRaise, wRaiseF, wForFn, forFnW, wMet, hide, wIsi, wListOf, wRev, edP, edJ, enP, enJ, enS, NotOwn, Flat, List.map_cons, List.map_nil, List.length_cons, List.length_nil, List.replicate_succ, List.replicate_zero, List.cons_append, List.nil_append, List.append_nil, List.set_cons_zero, List.set_cons_succ, List.getElem?_cons_zero, List.getElem?_cons_succ, Nat.reduceAdd, Nat.reduceSub, Option.some.injEq, Sl.imm.injEq, Sl.own.injEq, Sl.scr.injEq, exists_eq_left, exists_eq_left', exists_eq_right, exists_eq, exists_eq', exists_and_left, and_assoc, and_true, true_and, ne_eq, not_false_eq_true, Nat.succ_ne_zero, or_true, true_or, true_implies, forall_eq', forall_eq, PyData.int.injEq, PyData.bool.injEq, PyData.list.injEq, PyData.tuple.injEq, List.cons.injEq, i_add, i_iadd, i_sub, i_mul, i_mod, i_fdiv, i_fdivG, i_pow, i_neg, i_le, i_ge, i_gt, i_lt, i_eq, i_ne, i_intI, i_intB, i_abs, i_max, i_min, i_lenL, i_lenT, i_ixL, i_ixT, i_tupL, i_tupT, i_truB, Bool.not_true, Bool.not_false, Bool.false_eq_true, if_true, if_false, reduceIte]
    by_cases h2 : xs.length = 2
    · rw [if_neg (by rw [h2]; decide)]
      match xs, h2 with
      | [x, y], _ =>
        refine lc1 (f := fun x => .bool (isI x)) (xs := [x, y]) (by decide) (fun Q q => ⟨_, rfl, _, Or.inr rfl, q⟩) trivial (by show 2 ≤ sizeLine; decide) (fun x hx Q q => ?_) ?_
        · simp only [wf_is_integer, wCallW, wForFv, forFvW, wMkX, wDic1, wMtX, wForPr, forPrW, wPNil, wPCons, wVar, wC, wOp, wUn, wCl, wB, wTr, wAnd, wOr, wNot, wAndV, wOrV, wNotV, wIf, wCh, wNil, wCons, wTup, wLe, wSz, wFn, wFnJ, wFnB, wFnJB, wBNil, wBCons, wBOwn, rsvP, rsvJ, wNext, wSeq, wRet, wRetN, wDrop, wIfS, wSet, wSetOwn, wNever, wAug, wOpO, wIxO, wOpR, wClO, wApp, wSetIt, wFrz, wFor, wRg1, wRg2, wSq, wEnum, wZip, wZipM, wZipS, wZipU, wgN, wgT, wgNil, wgCons, wYes, wAsgT, wgLs, wLenS, wIxS, wFnS, wFnJL, wFnX, wRaise, wRaiseF, wForFn, forFnW, wMet, hide, wIsi, wListOf, wRev, edP, edJ, enP, enJ, enS, NotOwn, Flat, List.map_cons, List.map_nil, List.length_cons, List.length_nil, List.replicate_succ, List.replicate_zero, List.cons_append, List.nil_append, List.append_nil, List.set_cons_zero, List.set_cons_succ, List.getElem?_cons_zero, List.getElem?_cons_succ, Nat.reduceAdd, Nat.reduceSub, Option.some.injEq, Sl.imm.injEq, Sl.own.injEq, Sl.scr.injEq, exists_eq_left, exists_eq_left', exists_eq_right, exists_eq, exists_eq', exists_and_left, and_assoc, and_true, true_and, ne_eq, not_false_eq_true, Nat.succ_ne_zero, or_true, true_or, true_implies, forall_eq', forall_eq, PyData.int.injEq, PyData.bool.injEq, PyData.list.injEq, PyData.tuple.injEq, List.cons.injEq, i_add, i_iadd, i_sub, i_mul, i_mod, i_fdiv, i_fdivG, i_pow, i_neg, i_le, i_ge, i_gt, i_lt, i_eq, i_ne, i_intI, i_intB, i_abs, i_max, i_min, i_lenL, i_lenT, i_ixL, i_ixT, i_tupL, i_tupT, i_truB, Bool.not_true, Bool.not_false, Bool.false_eq_true, if_true, if_false, reduceIte]
          exact q
        · refine ⟨_, dAll_map.mpr rfl, ?_⟩
          simp only [List.all_cons, List.all_nil, Bool.and_true, at0, at1, wCallW, wForFv, forFvW, wMkX, wDic1, wMtX, wForPr, forPrW, wPNil, wPCons, wVar, wC, wOp, wUn, wCl, wB, wTr, wAnd, wOr, wNot, wAndV, wOrV, wNotV, wIf, wCh, wNil, wCons, wTup, wLe, wSz, wFn, wFnJ, wFnB, wFnJB, wBNil, wBCons, wBOwn, rsvP, rsvJ, wNext, wSeq, wRet, wRetN, wDrop, wIfS, wSet, wSetOwn, wNever, wAug, wOpO, wIxO, wOpR, wClO, wApp, wSetIt, wFrz, wFor, wRg1, wRg2, wSq, wEnum, wZip, wZipM, wZipS, wZipU, wgN, wgT, wgNil, wgCons, wYes, wAsgT, wgLs, wLenS, wIxS, wFnS, wFnJL, wFnX, wRaise, wRaiseF, wForFn, forFnW, wMet, hide, wIsi, wListOf, wRev, edP, edJ, enP, enJ, enS, NotOwn, Flat, List.map_cons, List.map_nil, List.length_cons, List.length_nil, List.replicate_succ, List.replicate_zero, List.cons_append, List.nil_append, List.append_nil, List.set_cons_zero, List.set_cons_succ, List.getElem?_cons_zero, List.getElem?_cons_succ, Nat.reduceAdd, Nat.reduceSub, Option.some.injEq, Sl.imm.injEq, Sl.own.injEq, Sl.scr.injEq, exists_eq_left, exists_eq_left', exists_eq_right, exists_eq, exists_eq', exists_and_left, and_assoc, and_true, true_and, ne_eq, not_false_eq_true, Nat.succ_ne_zero, or_true, true_or, true_implies, forall_eq', forall_eq, PyData.int.injEq, PyData.bool.injEq, PyData.list.injEq, PyData.tuple.injEq, List.cons.injEq, i_add, i_iadd, i_sub, i_mul, i_mod, i_fdiv, i_fdivG, i_pow, i_neg, i_le, i_ge, i_gt, i_lt, i_eq, i_ne, i_intI, i_intB, i_abs, i_max, i_min, i_lenL, i_lenT, i_ixL, i_ixT, i_tupL, i_tupT, i_truB, Bool.not_true, Bool.not_false, Bool.false_eq_true, if_true, if_false, reduceIte]
          cases e : (isI x && isI y) with
          | false =>
            rw [show isF (.tuple [x, y]) = false from isF2_no e] at q
            exact q
          | true =>
            rw [Bool.and_eq_true] at e
            obtain ⟨a, rfl⟩ := isI_ok e.1
            obtain ⟨b, rfl⟩ := isI_ok e.2
            have e3 : isF (.tuple [.int a, .int b]) = (decide (0 < b) && decide (Int.gcd a b = 1)) := by
              show (isI (.int a) && isI (.int b) && (decide (0 < b) && decide (Int.gcd a b = 1))) = _
              rw [e.1, e.2]; rfl
            rw [e3] at q
            simp only [i_gcd, wCallW, wForFv, forFvW, wMkX, wDic1, wMtX, wForPr, forPrW, wPNil, wPCons, wVar, wC, wOp, wUn, wCl, wB, wTr, wAnd, wOr, wNot, wAndV, wOrV, wNotV, wIf, wCh, wNil, wCons, wTup, wLe, wSz, wFn, wFnJ, wFnB, wFnJB, wBNil, wBCons, wBOwn, rsvP, rsvJ, wNext, wSeq, wRet, wRetN, wDrop, wIfS, wSet, wSetOwn, wNever, wAug, wOpO, wIxO, wOpR, wClO, wApp, wSetIt, wFrz, wFor, wRg1, wRg2, wSq, wEnum, wZip, wZipM, wZipS, wZipU, wgN, wgT, wgNil, wgCons, wYes, wAsgT, wgLs, wLenS, wIxS, wFnS, wFnJL, wFnX, wRaise, wRaiseF, wForFn, forFnW, wMet, hide, wIsi, wListOf, wRev, edP, edJ, enP, enJ, enS, NotOwn, Flat, List.map_cons, List.map_nil, List.length_cons, List.length_nil, List.replicate_succ, List.replicate_zero, List.cons_append, List.nil_append, List.append_nil, List.set_cons_zero, List.set_cons_succ, List.getElem?_cons_zero, List.getElem?_cons_succ, Nat.reduceAdd, Nat.reduceSub, Option.some.injEq, Sl.imm.injEq, Sl.own.injEq, Sl.scr.injEq, exists_eq_left, exists_eq_left', exists_eq_right, exists_eq, exists_eq', exists_and_left, and_assoc, and_true, true_and, ne_eq, not_false_eq_true, Nat.succ_ne_zero, or_true, true_or, true_implies, forall_eq', forall_eq, PyData.int.injEq, PyData.bool.injEq, PyData.list.injEq, PyData.tuple.injEq, List.cons.injEq, i_add, i_iadd, i_sub, i_mul, i_mod, i_fdiv, i_fdivG, i_pow, i_neg, i_le, i_ge, i_gt, i_lt, i_eq, i_ne, i_intI, i_intB, i_abs, i_max, i_min, i_lenL, i_lenT, i_ixL, i_ixT, i_tupL, i_tupT, i_truB, Bool.not_true, Bool.not_false, Bool.false_eq_true, if_true, if_false, reduceIte]
            by_cases h0 : 0 < b
            · rw [decide_eq_true h0] at q
              rw [if_pos (by simpa using h0)]
              have e4 : (((Int.gcd a b : Nat) : Int) = 1) = (Int.gcd a b = 1) := propext (by omega)
              simp only [e4]
              exact q
            · rw [decide_eq_false h0] at q
              rw [if_neg (by simpa using h0)]
              exact q
    · rw [if_pos (by simp; omega)]
      rw [isF_no h2] at q; exact q
  | none => simp only [ws_is_fraction, N_is_fraction, show kitB (tyName .none) "tuple" = some false from rfl, wCallW, wForFv, forFvW, wMkX, wDic1, wMtX, wForPr, forPrW, wPNil, wPCons, wVar, wC, wOp, wUn, wCl, wB, wTr, wAnd, wOr, wNot, wAndV, wOrV, wNotV, wIf, wCh, wNil, wCons, wTup, wLe, wSz, wFn, wFnJ, wFnB, wFnJB, wBNil, wBCons, wBOwn, rsvP, rsvJ, wNext, wSeq, wRet, wRetN, wDrop, wIfS, wSet, wSetOwn, wNever, wAug, wOpO, wIxO, wOpR, wClO, wApp, wSetIt, wFrz, wFor, wRg1, wRg2, wSq, wEnum, wZip, wZipM, wZipS, wZipU, wgN, wgT, wgNil, wgCons, wYes, wAsgT, wgLs, wLenS, wIxS, wFnS, wFnJL, wFnX, wRaise, wRaiseF, wForFn, forFnW, wMet, hide, wIsi, wListOf, wRev, edP, edJ, enP, enJ, enS, NotOwn, Flat, List.map_cons, List.map_nil, List.length_cons, List.length_nil, List.replicate_succ, List.replicate_zero, List.cons_append, List.nil_append, List.append_nil, List.set_cons_zero, List.set_cons_succ, List.getElem?_cons_zero, List.getElem?_cons_succ, Nat.reduceAdd, Nat.reduceSub, Option.some.injEq, Sl.imm.injEq, Sl.own.injEq, Sl.scr.injEq, exists_eq_left, exists_eq_left', exists_eq_right, exists_eq, exists_eq', exists_and_left, and_assoc, and_true, true_and, ne_eq, not_false_eq_true, Nat.succ_ne_zero, or_true, true_or, true_implies, forall_eq', forall_eq, PyData.int.injEq, PyData.bool.injEq, PyData.list.injEq, PyData.tuple.injEq, List.cons.injEq, i_add, i_iadd, i_sub, i_mul, i_mod, i_fdiv, i_fdivG, i_pow, i_neg, i_le, i_ge, i_gt, i_lt, i_eq, i_ne, i_intI, i_intB, i_abs, i_max, i_min, i_lenL, i_lenT, i_ixL, i_ixT, i_tupL, i_tupT, i_truB, Bool.not_true, Bool.not_false, Bool.false_eq_true, if_true, if_false, reduceIte]; exact q
  | bool b => simp only [ws_is_fraction, N_is_fraction, show kitB (tyName (.bool b)) "tuple" = some false from rfl, wCallW, wForFv, forFvW, wMkX, wDic1, wMtX, wForPr, forPrW, wPNil, wPCons, wVar, wC, wOp, wUn, wCl, wB, wTr, wAnd, wOr, wNot, wAndV, wOrV, wNotV, wIf, wCh, wNil, wCons, wTup, wLe, wSz, wFn, wFnJ, wFnB, wFnJB, wBNil, wBCons, wBOwn, rsvP, rsvJ, wNext, wSeq, wRet, wRetN, wDrop, wIfS, wSet, wSetOwn, wNever, wAug, wOpO, wIxO, wOpR, wClO, wApp, wSetIt, wFrz, wFor, wRg1, wRg2, wSq, wEnum, wZip, wZipM, wZipS, wZipU, wgN, wgT, wgNil, wgCons, wYes, wAsgT, wgLs, wLenS, wIxS, wFnS, wFnJL, wFnX, wRaise, wRaiseF, wForFn, forFnW, wMet, hide, wIsi, wListOf, wRev, edP, edJ, enP, enJ, enS, NotOwn, Flat, List.map_cons, List.map_nil, List.length_cons, List.length_nil, List.replicate_succ, List.replicate_zero, List.cons_append, List.nil_append, List.append_nil, List.set_cons_zero, List.set_cons_succ, List.getElem?_cons_zero, List.getElem?_cons_succ, Nat.reduceAdd, Nat.reduceSub, Option.some.injEq, Sl.imm.injEq, Sl.own.injEq, Sl.scr.injEq, exists_eq_left, exists_eq_left', exists_eq_right, exists_eq, exists_eq', exists_and_left, and_assoc, and_true, true_and, ne_eq, not_false_eq_true, Nat.succ_ne_zero, or_true, true_or, true_implies, forall_eq', forall_eq, PyData.int.injEq, PyData.bool.injEq, PyData.list.injEq, PyData.tuple.injEq, List.cons.injEq, i_add, i_iadd, i_sub, i_mul, i_mod, i_fdiv, i_fdivG, i_pow, i_neg, i_le, i_ge, i_gt, i_lt, i_eq, i_ne, i_intI, i_intB, i_abs, i_max, i_min, i_lenL, i_lenT, i_ixL, i_ixT, i_tupL, i_tupT, i_truB, Bool.not_true, Bool.not_false, Bool.false_eq_true, if_true, if_false, reduceIte]; exact q
  | int i => simp only [ws_is_fraction, N_is_fraction, show kitB (tyName (.int i)) "tuple" = some false from rfl, wCallW, wForFv, forFvW, wMkX, wDic1, wMtX, wForPr, forPrW, wPNil, wPCons, wVar, wC, wOp, wUn, wCl, wB, wTr, wAnd, wOr, wNot, wAndV, wOrV, wNotV, wIf, wCh, wNil, wCons, wTup, wLe, wSz, wFn, wFnJ, wFnB, wFnJB, wBNil, wBCons, wBOwn, rsvP, rsvJ, wNext, wSeq, wRet, wRetN, wDrop, wIfS, wSet, wSetOwn, wNever, wAug, wOpO, wIxO, wOpR, wClO, wApp, wSetIt, wFrz, wFor, wRg1, wRg2, wSq, wEnum, wZip, wZipM, wZipS, wZipU, wgN, wgT, wgNil, wgCons, wYes, wAsgT, wgLs, wLenS, wIxS, wFnS, wFnJL, wFnX, wRaise, wRaiseF, wForFn, forFnW, wMet, hide, wIsi, wListOf, wRev, edP, edJ, enP, enJ, enS, NotOwn, Flat, List.map_cons, List.map_nil, List.length_cons, List.length_nil, List.replicate_succ, List.replicate_zero, List.cons_append, List.nil_append, List.append_nil, List.set_cons_zero, List.set_cons_succ, List.getElem?_cons_zero, List.getElem?_cons_succ, Nat.reduceAdd, Nat.reduceSub, Option.some.injEq, Sl.imm.injEq, Sl.own.injEq, Sl.scr.injEq, exists_eq_left, exists_eq_left', exists_eq_right, exists_eq, exists_eq', exists_and_left, and_assoc, and_true, true_and, ne_eq, not_false_eq_true, Nat.succ_ne_zero, or_true, true_or, true_implies, forall_eq', forall_eq, PyData.int.injEq, PyData.bool.injEq, PyData.list.injEq, PyData.tuple.injEq, List.cons.injEq, i_add, i_iadd, i_sub, i_mul, i_mod, i_fdiv, i_fdivG, i_pow, i_neg, i_le, i_ge, i_gt, i_lt, i_eq, i_ne, i_intI, i_intB, i_abs, i_max, i_min, i_lenL, i_lenT, i_ixL, i_ixT, i_tupL, i_tupT, i_truB, Bool.not_true, Bool.not_false, Bool.false_eq_true, if_true, if_false, reduceIte]; exact q
  | str i => simp only [ws_is_fraction, N_is_fraction, show kitB (tyName (.str i)) "tuple" = some false from rfl, wCallW, wForFv, forFvW, wMkX, wDic1, wMtX, wForPr, forPrW, wPNil, wPCons, wVar, wC, wOp, wUn, wCl, wB, wTr, wAnd, wOr, wNot, wAndV, wOrV, wNotV, wIf, wCh, wNil, wCons, wTup, wLe, wSz, wFn, wFnJ, wFnB, wFnJB, wBNil, wBCons, wBOwn, rsvP, rsvJ, wNext, wSeq, wRet, wRetN, wDrop, wIfS, wSet, wSetOwn, wNever, wAug, wOpO, wIxO, wOpR, wClO, wApp, wSetIt, wFrz, wFor, wRg1, wRg2, wSq, wEnum, wZip, wZipM, wZipS, wZipU, wgN, wgT, wgNil, wgCons, wYes, wAsgT, wgLs, wLenS, wIxS, wFnS, wFnJL, wFnX, wRaise, wRaiseF, wForFn, forFnW, wMet, hide, wIsi, wListOf, wRev, edP, edJ, enP, enJ, enS, NotOwn, Flat, List.map_cons, List.map_nil, List.length_cons, List.length_nil, List.replicate_succ, List.replicate_zero, List.cons_append, List.nil_append, List.append_nil, List.set_cons_zero, List.set_cons_succ, List.getElem?_cons_zero, List.getElem?_cons_succ, Nat.reduceAdd, Nat.reduceSub, Option.some.injEq, Sl.imm.injEq, Sl.own.injEq, Sl.scr.injEq, exists_eq_left, exists_eq_left', exists_eq_right, exists_eq, exists_eq', exists_and_left, and_assoc, and_true, true_and, ne_eq, not_false_eq_true, Nat.succ_ne_zero, or_true, true_or, true_implies, forall_eq', forall_eq, PyData.int.injEq, PyData.bool.injEq, PyData.list.injEq, PyData.tuple.injEq, List.cons.injEq, i_add, i_iadd, i_sub, i_mul, i_mod, i_fdiv, i_fdivG, i_pow, i_neg, i_le, i_ge, i_gt, i_lt, i_eq, i_ne, i_intI, i_intB, i_abs, i_max, i_min, i_lenL, i_lenT, i_ixL, i_ixT, i_tupL, i_tupT, i_truB, Bool.not_true, Bool.not_false, Bool.false_eq_true, if_true, if_false, reduceIte]; exact q
  | list i => simp only [ws_is_fraction, N_is_fraction, show kitB (tyName (.list i)) "tuple" = some false from rfl, wCallW, wForFv, forFvW, wMkX, wDic1, wMtX, wForPr, forPrW, wPNil, wPCons, wVar, wC, wOp, wUn, wCl, wB, wTr, wAnd, wOr, wNot, wAndV, wOrV, wNotV, wIf, wCh, wNil, wCons, wTup, wLe, wSz, wFn, wFnJ, wFnB, wFnJB, wBNil, wBCons, wBOwn, rsvP, rsvJ, wNext, wSeq, wRet, wRetN, wDrop, wIfS, wSet, wSetOwn, wNever, wAug, wOpO, wIxO, wOpR, wClO, wApp, wSetIt, wFrz, wFor, wRg1, wRg2, wSq, wEnum, wZip, wZipM, wZipS, wZipU, wgN, wgT, wgNil, wgCons, wYes, wAsgT, wgLs, wLenS, wIxS, wFnS, wFnJL, wFnX, wRaise, wRaiseF, wForFn, forFnW, wMet, hide, wIsi, wListOf, wRev, edP, edJ, enP, enJ, enS, NotOwn, Flat, List.map_cons, List.map_nil, List.length_cons, List.length_nil, List.replicate_succ, List.replicate_zero, List.cons_append, List.nil_append, List.append_nil, List.set_cons_zero, List.set_cons_succ, List.getElem?_cons_zero, List.getElem?_cons_succ, Nat.reduceAdd, Nat.reduceSub, Option.some.injEq, Sl.imm.injEq, Sl.own.injEq, Sl.scr.injEq, exists_eq_left, exists_eq_left', exists_eq_right, exists_eq, exists_eq', exists_and_left, and_assoc, and_true, true_and, ne_eq, not_false_eq_true, Nat.succ_ne_zero, or_true, true_or, true_implies, forall_eq', forall_eq, PyData.int.injEq, PyData.bool.injEq, PyData.list.injEq, PyData.tuple.injEq, List.cons.injEq, i_add, i_iadd, i_sub, i_mul, i_mod, i_fdiv, i_fdivG, i_pow, i_neg, i_le, i_ge, i_gt, i_lt, i_eq, i_ne, i_intI, i_intB, i_abs, i_max, i_min, i_lenL, i_lenT, i_ixL, i_ixT, i_tupL, i_tupT, i_truB, Bool.not_true, Bool.not_false, Bool.false_eq_true, if_true, if_false, reduceIte]; exact q
  | dict i => simp only [ws_is_fraction, N_is_fraction, show kitB (tyName (.dict i)) "tuple" = some false from rfl, wCallW, wForFv, forFvW, wMkX, wDic1, wMtX, wForPr, forPrW, wPNil, wPCons, wVar, wC, wOp, wUn, wCl, wB, wTr, wAnd, wOr, wNot, wAndV, wOrV, wNotV, wIf, wCh, wNil, wCons, wTup, wLe, wSz, wFn, wFnJ, wFnB, wFnJB, wBNil, wBCons, wBOwn, rsvP, rsvJ, wNext, wSeq, wRet, wRetN, wDrop, wIfS, wSet, wSetOwn, wNever, wAug, wOpO, wIxO, wOpR, wClO, wApp, wSetIt, wFrz, wFor, wRg1, wRg2, wSq, wEnum, wZip, wZipM, wZipS, wZipU, wgN, wgT, wgNil, wgCons, wYes, wAsgT, wgLs, wLenS, wIxS, wFnS, wFnJL, wFnX, wRaise, wRaiseF, wForFn, forFnW, wMet, hide, wIsi, wListOf, wRev, edP, edJ, enP, enJ, enS, NotOwn, Flat, List.map_cons, List.map_nil, List.length_cons, List.length_nil, List.replicate_succ, List.replicate_zero, List.cons_append, List.nil_append, List.append_nil, List.set_cons_zero, List.set_cons_succ, List.getElem?_cons_zero, List.getElem?_cons_succ, Nat.reduceAdd, Nat.reduceSub, Option.some.injEq, Sl.imm.injEq, Sl.own.injEq, Sl.scr.injEq, exists_eq_left, exists_eq_left', exists_eq_right, exists_eq, exists_eq', exists_and_left, and_assoc, and_true, true_and, ne_eq, not_false_eq_true, Nat.succ_ne_zero, or_true, true_or, true_implies, forall_eq', forall_eq, PyData.int.injEq, PyData.bool.injEq, PyData.list.injEq, PyData.tuple.injEq, List.cons.injEq, i_add, i_iadd, i_sub, i_mul, i_mod, i_fdiv, i_fdivG, i_pow, i_neg, i_le, i_ge, i_gt, i_lt, i_eq, i_ne, i_intI, i_intB, i_abs, i_max, i_min, i_lenL, i_lenT, i_ixL, i_ixT, i_tupL, i_tupT, i_truB, Bool.not_true, Bool.not_false, Bool.false_eq_true, if_true, if_false, reduceIte]; exact q
theorem pu_lowest (ds Q) (hl : ds.length = 2) (h : wf_lowest ds Q) : ws_lowest (edP Q) (enP N_lowest ds) := by
  obtain ⟨t, b, rfl, hb, hs, q⟩ := h
  have gp : (0 : Int) < Int.gcd t b := by have := gcd_pos (t := t) hb; omega
  have gl : (Int.gcd t b).log2 < 9000 := log_bb (Nat.lt_of_le_of_lt (gcd_le hb) hs)
  simp only [ws_lowest, N_lowest, i_gcd, wCallW, wForFv, forFvW, wMkX, wDic1, wMtX, wForPr, forPrW, wPNil, wPCons, wVar, wC, wOp, wUn, wCl, wB, wTr, wAnd, wOr, wNot, wAndV, wOrV, wNotV, wIf, wCh, wNil, wCons, wTup, wLe, wSz, wFn, wFnJ, wFnB, wFnJB, wBNil, wBCons, wBOwn, rsvP, rsvJ, wNext, wSeq, wRet, wRetN, wDrop, wIfS, wSet, wSetOwn, wNever, wAug, wOpO, wIxO, wOpR, wClO, wApp, wSetIt, wFrz, wFor, wRg1, wRg2, wSq, wEnum, wZip, wZipM, wZipS, wZipU, wgN, wgT, wgNil, wgCons, wYes, wAsgT, wgLs, wLenS, wIxS, wFnS, wFnJL, wFnX, wRaise, wRaiseF, wForFn, forFnW, wMet, hide, wIsi, wListOf, wRev, edP, edJ, enP, enJ, enS, NotOwn, Flat, List.map_cons, List.map_nil, List.length_cons, List.length_nil, List.replicate_succ, List.replicate_zero, List.cons_append, List.nil_append, List.append_nil, List.set_cons_zero, List.set_cons_succ, List.getElem?_cons_zero, List.getElem?_cons_succ, Nat.reduceAdd, Nat.reduceSub, Option.some.injEq, Sl.imm.injEq, Sl.own.injEq, Sl.scr.injEq, exists_eq_left, exists_eq_left', exists_eq_right, exists_eq, exists_eq', exists_and_left, and_assoc, and_true, true_and, ne_eq, not_false_eq_true, Nat.succ_ne_zero, or_true, true_or, true_implies, forall_eq', forall_eq, PyData.int.injEq, PyData.bool.injEq, PyData.list.injEq, PyData.tuple.injEq, List.cons.injEq, i_add, i_iadd, i_sub, i_mul, i_mod, i_fdiv, i_fdivG, i_pow, i_neg, i_le, i_ge, i_gt, i_lt, i_eq, i_ne, i_intI, i_intB, i_abs, i_max, i_min, i_lenL, i_lenT, i_ixL, i_ixT, i_tupL, i_tupT, i_truB, Bool.not_true, Bool.not_false, Bool.false_eq_true, if_true, if_false, reduceIte]
  by_cases h : b < 0
  · rw [if_pos (by simpa using h)]
    refine ⟨⟨by omega, by rw [Int.natAbs_neg]; exact gl⟩, ⟨by omega, by rw [Int.natAbs_neg]; exact gl⟩, by decide, ?_⟩
    rw [fdiv_neg' gp gcd_dvd_l, fdiv_neg' gp gcd_dvd_r, low_neg h]
    exact q
  · rw [if_neg (by simpa using h)]
    refine ⟨⟨by omega, gl⟩, ⟨by omega, gl⟩, by decide, ?_⟩
    rw [fdiv_pos gp, fdiv_pos gp, low_pos (by omega)]
    exact q
theorem sum_ok {p q : Rat} (hp : Sm BB p) (hq : Sm BB q) : (p.den : Int) * q.den ≠ 0 ∧ ((p.den : Int) * q.den).natAbs < BB * BB ∧ Pd.MulOk p.num q.den ∧ Pd.MulOk q.num p.den ∧ Pd.MulOk p.den q.den ∧ Pd.MulOk p.num q.num := by
  have h1 := Nat.mul_pos p.den_pos q.den_pos
  refine ⟨by rw [← Int.natCast_mul]; omega, ?_, mul_bb hp.1 hq.2, mul_bb hq.1 hp.2, mul_bb hp.2 hq.2, mul_bb hp.1 hq.1⟩
  rw [← Int.natCast_mul]
  exact Nat.mul_lt_mul_of_lt_of_lt hp.2 hq.2
theorem pu_sum_of_two (ds Q) (hl : ds.length = 2) (h : wf_sum_of_two ds Q) : ws_sum_of_two (edP Q) (enP N_sum_of_two ds) := by
  obtain ⟨p, q, rfl, hp, hq, k⟩ := h
  obtain ⟨s1, s2, s3, s4, s5, s6⟩ := sum_ok hp hq
  simp only [ws_sum_of_two, N_sum_of_two, fr, at0, at1, wf_lowest, wCallW, wForFv, forFvW, wMkX, wDic1, wMtX, wForPr, forPrW, wPNil, wPCons, wVar, wC, wOp, wUn, wCl, wB, wTr, wAnd, wOr, wNot, wAndV, wOrV, wNotV, wIf, wCh, wNil, wCons, wTup, wLe, wSz, wFn, wFnJ, wFnB, wFnJB, wBNil, wBCons, wBOwn, rsvP, rsvJ, wNext, wSeq, wRet, wRetN, wDrop, wIfS, wSet, wSetOwn, wNever, wAug, wOpO, wIxO, wOpR, wClO, wApp, wSetIt, wFrz, wFor, wRg1, wRg2, wSq, wEnum, wZip, wZipM, wZipS, wZipU, wgN, wgT, wgNil, wgCons, wYes, wAsgT, wgLs, wLenS, wIxS, wFnS, wFnJL, wFnX, wRaise, wRaiseF, wForFn, forFnW, wMet, hide, wIsi, wListOf, wRev, edP, edJ, enP, enJ, enS, NotOwn, Flat, List.map_cons, List.map_nil, List.length_cons, List.length_nil, List.replicate_succ, List.replicate_zero, List.cons_append, List.nil_append, List.append_nil, List.set_cons_zero, List.set_cons_succ, List.getElem?_cons_zero, List.getElem?_cons_succ, Nat.reduceAdd, Nat.reduceSub, Option.some.injEq, Sl.imm.injEq, Sl.own.injEq, Sl.scr.injEq, exists_eq_left, exists_eq_left', exists_eq_right, exists_eq, exists_eq', exists_and_left, and_assoc, and_true, true_and, ne_eq, not_false_eq_true, Nat.succ_ne_zero, or_true, true_or, true_implies, forall_eq', forall_eq, PyData.int.injEq, PyData.bool.injEq, PyData.list.injEq, PyData.tuple.injEq, List.cons.injEq, i_add, i_iadd, i_sub, i_mul, i_mod, i_fdiv, i_fdivG, i_pow, i_neg, i_le, i_ge, i_gt, i_lt, i_eq, i_ne, i_intI, i_intB, i_abs, i_max, i_min, i_lenL, i_lenT, i_ixL, i_ixT, i_tupL, i_tupT, i_truB, Bool.not_true, Bool.not_false, Bool.false_eq_true, if_true, if_false, reduceIte]
  refine ⟨s3, s4, s5, s1, s2, ?_⟩
  rw [fr_add]
  exact k
theorem pu_product_of_two (ds Q) (hl : ds.length = 2) (h : wf_product_of_two ds Q) : ws_product_of_two (edP Q) (enP N_product_of_two ds) := by
  obtain ⟨p, q, rfl, hp, hq, k⟩ := h
  obtain ⟨s1, s2, s3, s4, s5, s6⟩ := sum_ok hp hq
  simp only [ws_product_of_two, N_product_of_two, fr, at0, at1, wf_lowest, wCallW, wForFv, forFvW, wMkX, wDic1, wMtX, wForPr, forPrW, wPNil, wPCons, wVar, wC, wOp, wUn, wCl, wB, wTr, wAnd, wOr, wNot, wAndV, wOrV, wNotV, wIf, wCh, wNil, wCons, wTup, wLe, wSz, wFn, wFnJ, wFnB, wFnJB, wBNil, wBCons, wBOwn, rsvP, rsvJ, wNext, wSeq, wRet, wRetN, wDrop, wIfS, wSet, wSetOwn, wNever, wAug, wOpO, wIxO, wOpR, wClO, wApp, wSetIt, wFrz, wFor, wRg1, wRg2, wSq, wEnum, wZip, wZipM, wZipS, wZipU, wgN, wgT, wgNil, wgCons, wYes, wAsgT, wgLs, wLenS, wIxS, wFnS, wFnJL, wFnX, wRaise, wRaiseF, wForFn, forFnW, wMet, hide, wIsi, wListOf, wRev, edP, edJ, enP, enJ, enS, NotOwn, Flat, List.map_cons, List.map_nil, List.length_cons, List.length_nil, List.replicate_succ, List.replicate_zero, List.cons_append, List.nil_append, List.append_nil, List.set_cons_zero, List.set_cons_succ, List.getElem?_cons_zero, List.getElem?_cons_succ, Nat.reduceAdd, Nat.reduceSub, Option.some.injEq, Sl.imm.injEq, Sl.own.injEq, Sl.scr.injEq, exists_eq_left, exists_eq_left', exists_eq_right, exists_eq, exists_eq', exists_and_left, and_assoc, and_true, true_and, ne_eq, not_false_eq_true, Nat.succ_ne_zero, or_true, true_or, true_implies, forall_eq', forall_eq, PyData.int.injEq, PyData.bool.injEq, PyData.list.injEq, PyData.tuple.injEq, List.cons.injEq, i_add, i_iadd, i_sub, i_mul, i_mod, i_fdiv, i_fdivG, i_pow, i_neg, i_le, i_ge, i_gt, i_lt, i_eq, i_ne, i_intI, i_intB, i_abs, i_max, i_min, i_lenL, i_lenT, i_ixL, i_ixT, i_tupL, i_tupT, i_truB, Bool.not_true, Bool.not_false, Bool.false_eq_true, if_true, if_false, reduceIte]
  refine ⟨s6, s5, s1, s2, ?_⟩
  rw [fr_mul]
  exact k
theorem isI_iff {i : Int} : isI (.int i) = true ↔ -1000000000000000000000000000000000000000000000000000000000000 < i ∧ i < 1000000000000000000000000000000000000000000000000000000000000 := by
  rw [isI_int, Bool.and_eq_true, decide_eq_true_eq, decide_eq_true_eq]
theorem isF_fr {p : Rat} (h : Sm TN p) : isF (fr p) = true := by
  have hd := p.den_pos
  have hr : Int.gcd p.num p.den = 1 := p.reduced
  have ht : TN = 1000000000000000000000000000000000000000000000000000000000000 := by decide +kernel
  have h1 := h.1
  have h2 := h.2
  rw [ht] at h1 h2
  show (isI (.int p.num) && isI (.int p.den) && (decide (0 < (p.den : Int)) && decide (Int.gcd p.num p.den = 1))) = true
  rw [hr, Bool.and_eq_true, Bool.and_eq_true, isI_iff, isI_iff]
  refine ⟨⟨⟨by omega, by omega⟩, ⟨by omega, by omega⟩⟩, ?_⟩
  rw [decide_eq_true (by omega : 0 < (p.den : Int))]
  rfl
theorem tn_bb {p : Rat} (h : Sm TN p) : Sm BB p := h.up (by decide +kernel)
theorem fr_neg (q : Rat) : PyData.tuple [.int (-q.num), .int q.den] = fr (-q) := by
  unfold fr; rw [Rat.neg_num, Rat.neg_den]
theorem sm_neg {q : Rat} {n : Nat} (h : Sm n q) : Sm n (-q) := ⟨by rw [Rat.neg_num, Int.natAbs_neg]; exact h.1, by rw [Rat.neg_den]; exact h.2⟩
theorem pu__law_fu_shared (ds Q) (hl : ds.length = 2) (h : wf__law_fu_shared ds Q) : ws__law_fu_shared (edP Q) (enP N__law_fu_shared ds) := by
  obtain ⟨a, b, rfl, k⟩ := h
  have ab : ∀ i : Int, (if i < 0 then -i else i) = i.natAbs := fun i => by split <;> omega
  simp only [ws__law_fu_shared, N__law_fu_shared, wPar, wWhile, ab, wCallW, wForFv, forFvW, wMkX, wDic1, wMtX, wForPr, forPrW, wPNil, wPCons, wVar, wC, wOp, wUn, wCl, wB, wTr, wAnd, wOr, wNot, wAndV, wOrV, wNotV, wIf, wCh, wNil, wCons, wTup, wLe, wSz, wFn, wFnJ, wFnB, wFnJB, wBNil, wBCons, wBOwn, rsvP, rsvJ, wNext, wSeq, wRet, wRetN, wDrop, wIfS, wSet, wSetOwn, wNever, wAug, wOpO, wIxO, wOpR, wClO, wApp, wSetIt, wFrz, wFor, wRg1, wRg2, wSq, wEnum, wZip, wZipM, wZipS, wZipU, wgN, wgT, wgNil, wgCons, wYes, wAsgT, wgLs, wLenS, wIxS, wFnS, wFnJL, wFnX, wRaise, wRaiseF, wForFn, forFnW, wMet, hide, wIsi, wListOf, wRev, edP, edJ, enP, enJ, enS, NotOwn, Flat, List.map_cons, List.map_nil, List.length_cons, List.length_nil, List.replicate_succ, List.replicate_zero, List.cons_append, List.nil_append, List.append_nil, List.set_cons_zero, List.set_cons_succ, List.getElem?_cons_zero, List.getElem?_cons_succ, Nat.reduceAdd, Nat.reduceSub, Option.some.injEq, Sl.imm.injEq, Sl.own.injEq, Sl.scr.injEq, exists_eq_left, exists_eq_left', exists_eq_right, exists_eq, exists_eq', exists_and_left, and_assoc, and_true, true_and, ne_eq, not_false_eq_true, Nat.succ_ne_zero, or_true, true_or, true_implies, forall_eq', forall_eq, PyData.int.injEq, PyData.bool.injEq, PyData.list.injEq, PyData.tuple.injEq, List.cons.injEq, i_add, i_iadd, i_sub, i_mul, i_mod, i_fdiv, i_fdivG, i_pow, i_neg, i_le, i_ge, i_gt, i_lt, i_eq, i_ne, i_intI, i_intB, i_abs, i_max, i_min, i_lenL, i_lenT, i_ixL, i_ixT, i_tupL, i_tupT, i_truB, Bool.not_true, Bool.not_false, Bool.false_eq_true, if_true, if_false, reduceIte]
  refine ⟨fun m e => ∃ x y : Nat, e = [.imm (.int x), .imm (.int y)] ∧ Nat.gcd x y = Int.gcd a b ∧ m = y, ⟨_, _, _, rfl, rfl, rfl⟩, ?_⟩
  rintro m e ⟨x, y, rfl, hg, rfl⟩
  simp only [wCallW, wForFv, forFvW, wMkX, wDic1, wMtX, wForPr, forPrW, wPNil, wPCons, wVar, wC, wOp, wUn, wCl, wB, wTr, wAnd, wOr, wNot, wAndV, wOrV, wNotV, wIf, wCh, wNil, wCons, wTup, wLe, wSz, wFn, wFnJ, wFnB, wFnJB, wBNil, wBCons, wBOwn, rsvP, rsvJ, wNext, wSeq, wRet, wRetN, wDrop, wIfS, wSet, wSetOwn, wNever, wAug, wOpO, wIxO, wOpR, wClO, wApp, wSetIt, wFrz, wFor, wRg1, wRg2, wSq, wEnum, wZip, wZipM, wZipS, wZipU, wgN, wgT, wgNil, wgCons, wYes, wAsgT, wgLs, wLenS, wIxS, wFnS, wFnJL, wFnX, wRaise, wRaiseF, wForFn, forFnW, wMet, hide, wIsi, wListOf, wRev, edP, edJ, enP, enJ, enS, NotOwn, Flat, List.map_cons, List.map_nil, List.length_cons, List.length_nil, List.replicate_succ, List.replicate_zero, List.cons_append, List.nil_append, List.append_nil, List.set_cons_zero, List.set_cons_succ, List.getElem?_cons_zero, List.getElem?_cons_succ, Nat.reduceAdd, Nat.reduceSub, Option.some.injEq, Sl.imm.injEq, Sl.own.injEq, Sl.scr.injEq, exists_eq_left, exists_eq_left', exists_eq_right, exists_eq, exists_eq', exists_and_left, and_assoc, and_true, true_and, ne_eq, not_false_eq_true, Nat.succ_ne_zero, or_true, true_or, true_implies, forall_eq', forall_eq, PyData.int.injEq, PyData.bool.injEq, PyData.list.injEq, PyData.tuple.injEq, List.cons.injEq, i_add, i_iadd, i_sub, i_mul, i_mod, i_fdiv, i_fdivG, i_pow, i_neg, i_le, i_ge, i_gt, i_lt, i_eq, i_ne, i_intI, i_intB, i_abs, i_max, i_min, i_lenL, i_lenT, i_ixL, i_ixT, i_tupL, i_tupT, i_truB, Bool.not_true, Bool.not_false, Bool.false_eq_true, if_true, if_false, reduceIte]
  by_cases h : 0 < m
  · rw [if_pos (by simpa using h)]
    refine ⟨by omega, x % m, Nat.mod_lt _ h, m, rfl, x % m, (Int.natCast_emod x m).symm, ?_, rfl⟩
    rw [← hg, Nat.gcd_comm x m, Nat.gcd_rec m x, Nat.gcd_comm]
  · rw [if_neg (by simpa using h)]
    have hm : m = 0 := by omega
    subst hm
    rw [Nat.gcd_zero_right] at hg
    rw [hg]
    exact k
theorem pu__law_fu_part (ds Q) (hl : ds.length = 2) (h : wf__law_fu_part ds Q) : ws__law_fu_part (edP Q) (enP N__law_fu_part ds) := by
  obtain ⟨t, b, rfl, hb, hs, q⟩ := h
  have gp : (0 : Int) < Int.gcd t b := by have := gcd_pos (t := t) hb; omega
  have gl : (Int.gcd t b).log2 < 9000 := log_bb (Nat.lt_of_le_of_lt (gcd_le hb) hs)
  simp only [ws__law_fu_part, N__law_fu_part, wf__law_fu_shared, wCallW, wForFv, forFvW, wMkX, wDic1, wMtX, wForPr, forPrW, wPNil, wPCons, wVar, wC, wOp, wUn, wCl, wB, wTr, wAnd, wOr, wNot, wAndV, wOrV, wNotV, wIf, wCh, wNil, wCons, wTup, wLe, wSz, wFn, wFnJ, wFnB, wFnJB, wBNil, wBCons, wBOwn, rsvP, rsvJ, wNext, wSeq, wRet, wRetN, wDrop, wIfS, wSet, wSetOwn, wNever, wAug, wOpO, wIxO, wOpR, wClO, wApp, wSetIt, wFrz, wFor, wRg1, wRg2, wSq, wEnum, wZip, wZipM, wZipS, wZipU, wgN, wgT, wgNil, wgCons, wYes, wAsgT, wgLs, wLenS, wIxS, wFnS, wFnJL, wFnX, wRaise, wRaiseF, wForFn, forFnW, wMet, hide, wIsi, wListOf, wRev, edP, edJ, enP, enJ, enS, NotOwn, Flat, List.map_cons, List.map_nil, List.length_cons, List.length_nil, List.replicate_succ, List.replicate_zero, List.cons_append, List.nil_append, List.append_nil, List.set_cons_zero, List.set_cons_succ, List.getElem?_cons_zero, List.getElem?_cons_succ, Nat.reduceAdd, Nat.reduceSub, Option.some.injEq, Sl.imm.injEq, Sl.own.injEq, Sl.scr.injEq, exists_eq_left, exists_eq_left', exists_eq_right, exists_eq, exists_eq', exists_and_left, and_assoc, and_true, true_and, ne_eq, not_false_eq_true, Nat.succ_ne_zero, or_true, true_or, true_implies, forall_eq', forall_eq, PyData.int.injEq, PyData.bool.injEq, PyData.list.injEq, PyData.tuple.injEq, List.cons.injEq, i_add, i_iadd, i_sub, i_mul, i_mod, i_fdiv, i_fdivG, i_pow, i_neg, i_le, i_ge, i_gt, i_lt, i_eq, i_ne, i_intI, i_intB, i_abs, i_max, i_min, i_lenL, i_lenT, i_ixL, i_ixT, i_tupL, i_tupT, i_truB, Bool.not_true, Bool.not_false, Bool.false_eq_true, if_true, if_false, reduceIte]
  by_cases h : 0 < b
  · rw [if_pos (by simpa using h)]
    refine ⟨small_l (by decide) (by decide), ⟨by omega, gl⟩, small_l (by decide) (by decide), ⟨by omega, gl⟩, by decide, ?_⟩
    rw [fdiv_pos gp, fdiv_pos gp, Int.one_mul, Int.one_mul, low_pos h]
    exact q
  · rw [if_neg (by simpa using h)]
    refine ⟨small_l (by decide) (by decide), ⟨by omega, gl⟩, small_l (by decide) (by decide), ⟨by omega, gl⟩, by decide, ?_⟩
    rw [fdiv_pos gp, fdiv_pos gp, Int.neg_mul, Int.neg_mul, Int.one_mul, Int.one_mul, low_neg (by omega)]
    exact q
theorem pu_order_of_two (ds Q) (hl : ds.length = 2) (h : wf_order_of_two ds Q) : ws_order_of_two (edP Q) (enP N_order_of_two ds) := by
  obtain ⟨p, q, rfl, hp, hq, k⟩ := h
  obtain ⟨s1, s2, s3, s4, s5, s6⟩ := sum_ok hp hq
  simp only [ws_order_of_two, N_order_of_two, fr, at0, at1, wCallW, wForFv, forFvW, wMkX, wDic1, wMtX, wForPr, forPrW, wPNil, wPCons, wVar, wC, wOp, wUn, wCl, wB, wTr, wAnd, wOr, wNot, wAndV, wOrV, wNotV, wIf, wCh, wNil, wCons, wTup, wLe, wSz, wFn, wFnJ, wFnB, wFnJB, wBNil, wBCons, wBOwn, rsvP, rsvJ, wNext, wSeq, wRet, wRetN, wDrop, wIfS, wSet, wSetOwn, wNever, wAug, wOpO, wIxO, wOpR, wClO, wApp, wSetIt, wFrz, wFor, wRg1, wRg2, wSq, wEnum, wZip, wZipM, wZipS, wZipU, wgN, wgT, wgNil, wgCons, wYes, wAsgT, wgLs, wLenS, wIxS, wFnS, wFnJL, wFnX, wRaise, wRaiseF, wForFn, forFnW, wMet, hide, wIsi, wListOf, wRev, edP, edJ, enP, enJ, enS, NotOwn, Flat, List.map_cons, List.map_nil, List.length_cons, List.length_nil, List.replicate_succ, List.replicate_zero, List.cons_append, List.nil_append, List.append_nil, List.set_cons_zero, List.set_cons_succ, List.getElem?_cons_zero, List.getElem?_cons_succ, Nat.reduceAdd, Nat.reduceSub, Option.some.injEq, Sl.imm.injEq, Sl.own.injEq, Sl.scr.injEq, exists_eq_left, exists_eq_left', exists_eq_right, exists_eq, exists_eq', exists_and_left, and_assoc, and_true, true_and, ne_eq, not_false_eq_true, Nat.succ_ne_zero, or_true, true_or, true_implies, forall_eq', forall_eq, PyData.int.injEq, PyData.bool.injEq, PyData.list.injEq, PyData.tuple.injEq, List.cons.injEq, i_add, i_iadd, i_sub, i_mul, i_mod, i_fdiv, i_fdivG, i_pow, i_neg, i_le, i_ge, i_gt, i_lt, i_eq, i_ne, i_intI, i_intB, i_abs, i_max, i_min, i_lenL, i_lenT, i_ixL, i_ixT, i_tupL, i_tupT, i_truB, Bool.not_true, Bool.not_false, Bool.false_eq_true, if_true, if_false, reduceIte]
  refine ⟨s3, s4, ?_⟩
  unfold ordI at k
  simp only [Rat.lt_iff] at k
  simp only [decide_eq_true_eq]
  exact k
theorem pu__law_ta_fraction (dj ds Q) (hl : ds.length + 1 = 2) (h : wf__law_ta_fraction dj ds Q) : ws__law_ta_fraction (edJ Q) (enJ N__law_ta_fraction dj ds) := by
  obtain ⟨g, m, c, n, rfl, rfl, h1, h2, q⟩ := h
  simp only [ws__law_ta_fraction, N__law_ta_fraction, wf__law_pour, wf__law_fu_part, wCallW, wForFv, forFvW, wMkX, wDic1, wMtX, wForPr, forPrW, wPNil, wPCons, wVar, wC, wOp, wUn, wCl, wB, wTr, wAnd, wOr, wNot, wAndV, wOrV, wNotV, wIf, wCh, wNil, wCons, wTup, wLe, wSz, wFn, wFnJ, wFnB, wFnJB, wBNil, wBCons, wBOwn, rsvP, rsvJ, wNext, wSeq, wRet, wRetN, wDrop, wIfS, wSet, wSetOwn, wNever, wAug, wOpO, wIxO, wOpR, wClO, wApp, wSetIt, wFrz, wFor, wRg1, wRg2, wSq, wEnum, wZip, wZipM, wZipS, wZipU, wgN, wgT, wgNil, wgCons, wYes, wAsgT, wgLs, wLenS, wIxS, wFnS, wFnJL, wFnX, wRaise, wRaiseF, wForFn, forFnW, wMet, hide, wIsi, wListOf, wRev, edP, edJ, enP, enJ, enS, NotOwn, Flat, List.map_cons, List.map_nil, List.length_cons, List.length_nil, List.replicate_succ, List.replicate_zero, List.cons_append, List.nil_append, List.append_nil, List.set_cons_zero, List.set_cons_succ, List.getElem?_cons_zero, List.getElem?_cons_succ, Nat.reduceAdd, Nat.reduceSub, Option.some.injEq, Sl.imm.injEq, Sl.own.injEq, Sl.scr.injEq, exists_eq_left, exists_eq_left', exists_eq_right, exists_eq, exists_eq', exists_and_left, and_assoc, and_true, true_and, ne_eq, not_false_eq_true, Nat.succ_ne_zero, or_true, true_or, true_implies, forall_eq', forall_eq, PyData.int.injEq, PyData.bool.injEq, PyData.list.injEq, PyData.tuple.injEq, List.cons.injEq, i_add, i_iadd, i_sub, i_mul, i_mod, i_fdiv, i_fdivG, i_pow, i_neg, i_le, i_ge, i_gt, i_lt, i_eq, i_ne, i_intI, i_intB, i_abs, i_max, i_min, i_lenL, i_lenT, i_ixL, i_ixT, i_tupL, i_tupT, i_truB, Bool.not_true, Bool.not_false, Bool.false_eq_true, if_true, if_false, reduceIte]
  have bb : (4 : Nat) * 10 ^ 40 < BB * BB := by decide +kernel
  refine ⟨small_l (by decide) (by decide), by omega, log_bb (Nat.lt_of_le_of_lt (show (2 * n + 1).natAbs ≤ 4 * 10 ^ 40 by omega) bb), fun r g m c a1 a2 => ⟨h1, log_bb (Nat.lt_of_le_of_lt (show n.natAbs ≤ 4 * 10 ^ 40 by omega) bb), fun r2 g m c a3 a4 => ⟨by omega, Nat.lt_of_le_of_lt (show (1 + r2).natAbs ≤ 4 * 10 ^ 40 by omega) bb, q _ _ _ _ ?_ ?_⟩⟩⟩
  · have := num_le (t := r - n) (b := 1 + r2)
    omega
  · have := den_le (t := r - n) (b := 1 + r2) (by omega)
    omega
theorem pu_check_fraction (ds Q R) (hl : ds.length = 1) (h : wf_check_fraction ds Q R) : ws_check_fraction (fun e _ => R e) (edP Q) (enP N_check_fraction ds) := by
  obtain ⟨d, rfl, h1, h2⟩ := h
  simp only [ws_check_fraction, N_check_fraction, wf_is_fraction, wCallW, wForFv, forFvW, wMkX, wDic1, wMtX, wForPr, forPrW, wPNil, wPCons, wVar, wC, wOp, wUn, wCl, wB, wTr, wAnd, wOr, wNot, wAndV, wOrV, wNotV, wIf, wCh, wNil, wCons, wTup, wLe, wSz, wFn, wFnJ, wFnB, wFnJB, wBNil, wBCons, wBOwn, rsvP, rsvJ, wNext, wSeq, wRet, wRetN, wDrop, wIfS, wSet, wSetOwn, wNever, wAug, wOpO, wIxO, wOpR, wClO, wApp, wSetIt, wFrz, wFor, wRg1, wRg2, wSq, wEnum, wZip, wZipM, wZipS, wZipU, wgN, wgT, wgNil, wgCons, wYes, wAsgT, wgLs, wLenS, wIxS, wFnS, wFnJL, wFnX, wRaise, wRaiseF, wForFn, forFnW, wMet, hide, wIsi, wListOf, wRev, edP, edJ, enP, enJ, enS, NotOwn, Flat, List.map_cons, List.map_nil, List.length_cons, List.length_nil, List.replicate_succ, List.replicate_zero, List.cons_append, List.nil_append, List.append_nil, List.set_cons_zero, List.set_cons_succ, List.getElem?_cons_zero, List.getElem?_cons_succ, Nat.reduceAdd, Nat.reduceSub, Option.some.injEq, Sl.imm.injEq, Sl.own.injEq, Sl.scr.injEq, exists_eq_left, exists_eq_left', exists_eq_right, exists_eq, exists_eq', exists_and_left, and_assoc, and_true, true_and, ne_eq, not_false_eq_true, Nat.succ_ne_zero, or_true, true_or, true_implies, forall_eq', forall_eq, PyData.int.injEq, PyData.bool.injEq, PyData.list.injEq, PyData.tuple.injEq, List.cons.injEq, i_add, i_iadd, i_sub, i_mul, i_mod, i_fdiv, i_fdivG, i_pow, i_neg, i_le, i_ge, i_gt, i_lt, i_eq, i_ne, i_intI, i_intB, i_abs, i_max, i_min, i_lenL, i_lenT, i_ixL, i_ixT, i_tupL, i_tupT, i_truB, Bool.not_true, Bool.not_false, Bool.false_eq_true, if_true, if_false, reduceIte]
  cases h : isF d with
  | true => exact h1 h
  | false => exact h2 h
theorem pu_check_two (ds Q R) (hl : ds.length = 2) (h : wf_check_two ds Q R) : ws_check_two (fun e _ => R e) (edP Q) (enP N_check_two ds) := by
  obtain ⟨d, e, rfl, h1, h2⟩ := h
  unfold ws_check_two
  (try dsimp only); rw [wSeq_eq]; simp -failIfUnchanged only [N_check_two, wf_check_fraction, wCallW, wForFv, forFvW, wMkX, wDic1, wMtX, wForPr, forPrW, wPNil, wPCons, wVar, wC, wOp, wUn, wCl, wB, wTr, wAnd, wOr, wNot, wAndV, wOrV, wNotV, wIf, wCh, wNil, wCons, wTup, wLe, wSz, wFn, wFnJ, wFnB, wFnJB, wBNil, wBCons, wBOwn, rsvP, rsvJ, wNext, wRet, wRetN, wDrop, wIfS, wSet, wSetOwn, wNever, wAug, wOpO, wIxO, wOpR, wClO, wApp, wSetIt, wFrz, wFor, wRg1, wRg2, wSq, wEnum, wZip, wZipM, wZipS, wZipU, wgN, wgT, wgNil, wgCons, wYes, wAsgT, wgLs, wLenS, wIxS, wFnS, wFnJL, wFnX, wRaise, wRaiseF, wForFn, forFnW, wMet, hide, wIsi, wListOf, wRev, edP, edJ, enP, enJ, enS, NotOwn, Flat, List.map_cons, List.map_nil, List.length_cons, List.length_nil, List.replicate_succ, List.replicate_zero, List.cons_append, List.nil_append, List.append_nil, List.set_cons_zero, List.set_cons_succ, List.getElem?_cons_zero, List.getElem?_cons_succ, Nat.reduceAdd, Nat.reduceSub, Option.some.injEq, Sl.imm.injEq, Sl.own.injEq, Sl.scr.injEq, exists_eq_left, exists_eq_left', exists_eq_right, exists_eq, exists_eq', exists_and_left, and_assoc, and_true, true_and, ne_eq, not_false_eq_true, Nat.succ_ne_zero, or_true, true_or, true_implies, forall_eq', forall_eq, PyData.int.injEq, PyData.bool.injEq, PyData.list.injEq, PyData.tuple.injEq, List.cons.injEq, i_add, i_iadd, i_sub, i_mul, i_mod, i_fdiv, i_fdivG, i_pow, i_neg, i_le, i_ge, i_gt, i_lt, i_eq, i_ne, i_intI, i_intB, i_abs, i_max, i_min, i_lenL, i_lenT, i_ixL, i_ixT, i_tupL, i_tupT, i_truB, Bool.not_true, Bool.not_false, Bool.false_eq_true, if_true, if_false, reduceIte]
  refine ⟨fun z => ?_, fun z => h2 (by rw [z]; rfl)⟩
  exact ⟨fun z2 => h1 z z2, fun z2 => h2 (by rw [z, z2]; rfl)⟩
theorem pu__law_fu_plus (ds Q) (hl : ds.length = 2) (h : wf__law_fu_plus ds Q) : ws__law_fu_plus (edP Q) (enP N__law_fu_plus ds) := by
  obtain ⟨p, q, rfl, hp, hq, k⟩ := h
  obtain ⟨s1, s2, s3, s4, s5, s6⟩ := sum_ok hp hq
  simp only [ws__law_fu_plus, N__law_fu_plus, fr, at0, at1, wf__law_fu_part, wCallW, wForFv, forFvW, wMkX, wDic1, wMtX, wForPr, forPrW, wPNil, wPCons, wVar, wC, wOp, wUn, wCl, wB, wTr, wAnd, wOr, wNot, wAndV, wOrV, wNotV, wIf, wCh, wNil, wCons, wTup, wLe, wSz, wFn, wFnJ, wFnB, wFnJB, wBNil, wBCons, wBOwn, rsvP, rsvJ, wNext, wSeq, wRet, wRetN, wDrop, wIfS, wSet, wSetOwn, wNever, wAug, wOpO, wIxO, wOpR, wClO, wApp, wSetIt, wFrz, wFor, wRg1, wRg2, wSq, wEnum, wZip, wZipM, wZipS, wZipU, wgN, wgT, wgNil, wgCons, wYes, wAsgT, wgLs, wLenS, wIxS, wFnS, wFnJL, wFnX, wRaise, wRaiseF, wForFn, forFnW, wMet, hide, wIsi, wListOf, wRev, edP, edJ, enP, enJ, enS, NotOwn, Flat, List.map_cons, List.map_nil, List.length_cons, List.length_nil, List.replicate_succ, List.replicate_zero, List.cons_append, List.nil_append, List.append_nil, List.set_cons_zero, List.set_cons_succ, List.getElem?_cons_zero, List.getElem?_cons_succ, Nat.reduceAdd, Nat.reduceSub, Option.some.injEq, Sl.imm.injEq, Sl.own.injEq, Sl.scr.injEq, exists_eq_left, exists_eq_left', exists_eq_right, exists_eq, exists_eq', exists_and_left, and_assoc, and_true, true_and, ne_eq, not_false_eq_true, Nat.succ_ne_zero, or_true, true_or, true_implies, forall_eq', forall_eq, PyData.int.injEq, PyData.bool.injEq, PyData.list.injEq, PyData.tuple.injEq, List.cons.injEq, i_add, i_iadd, i_sub, i_mul, i_mod, i_fdiv, i_fdivG, i_pow, i_neg, i_le, i_ge, i_gt, i_lt, i_eq, i_ne, i_intI, i_intB, i_abs, i_max, i_min, i_lenL, i_lenT, i_ixL, i_ixT, i_tupL, i_tupT, i_truB, Bool.not_true, Bool.not_false, Bool.false_eq_true, if_true, if_false, reduceIte]
  refine ⟨s3, s4, s5, s1, s2, ?_⟩
  rw [fr_add]
  exact k
theorem pu__law_fu_times (ds Q) (hl : ds.length = 2) (h : wf__law_fu_times ds Q) : ws__law_fu_times (edP Q) (enP N__law_fu_times ds) := by
  obtain ⟨p, q, rfl, hp, hq, k⟩ := h
  obtain ⟨s1, s2, s3, s4, s5, s6⟩ := sum_ok hp hq
  simp only [ws__law_fu_times, N__law_fu_times, fr, at0, at1, wf__law_fu_part, wCallW, wForFv, forFvW, wMkX, wDic1, wMtX, wForPr, forPrW, wPNil, wPCons, wVar, wC, wOp, wUn, wCl, wB, wTr, wAnd, wOr, wNot, wAndV, wOrV, wNotV, wIf, wCh, wNil, wCons, wTup, wLe, wSz, wFn, wFnJ, wFnB, wFnJB, wBNil, wBCons, wBOwn, rsvP, rsvJ, wNext, wSeq, wRet, wRetN, wDrop, wIfS, wSet, wSetOwn, wNever, wAug, wOpO, wIxO, wOpR, wClO, wApp, wSetIt, wFrz, wFor, wRg1, wRg2, wSq, wEnum, wZip, wZipM, wZipS, wZipU, wgN, wgT, wgNil, wgCons, wYes, wAsgT, wgLs, wLenS, wIxS, wFnS, wFnJL, wFnX, wRaise, wRaiseF, wForFn, forFnW, wMet, hide, wIsi, wListOf, wRev, edP, edJ, enP, enJ, enS, NotOwn, Flat, List.map_cons, List.map_nil, List.length_cons, List.length_nil, List.replicate_succ, List.replicate_zero, List.cons_append, List.nil_append, List.append_nil, List.set_cons_zero, List.set_cons_succ, List.getElem?_cons_zero, List.getElem?_cons_succ, Nat.reduceAdd, Nat.reduceSub, Option.some.injEq, Sl.imm.injEq, Sl.own.injEq, Sl.scr.injEq, exists_eq_left, exists_eq_left', exists_eq_right, exists_eq, exists_eq', exists_and_left, and_assoc, and_true, true_and, ne_eq, not_false_eq_true, Nat.succ_ne_zero, or_true, true_or, true_implies, forall_eq', forall_eq, PyData.int.injEq, PyData.bool.injEq, PyData.list.injEq, PyData.tuple.injEq, List.cons.injEq, i_add, i_iadd, i_sub, i_mul, i_mod, i_fdiv, i_fdivG, i_pow, i_neg, i_le, i_ge, i_gt, i_lt, i_eq, i_ne, i_intI, i_intB, i_abs, i_max, i_min, i_lenL, i_lenT, i_ixL, i_ixT, i_tupL, i_tupT, i_truB, Bool.not_true, Bool.not_false, Bool.false_eq_true, if_true, if_false, reduceIte]
  refine ⟨s6, s5, s1, s2, ?_⟩
  rw [fr_mul]
  exact k
end K14

set_option Elab.async false
set_option linter.all false
set_option maxRecDepth 100000
set_option maxHeartbeats 4000000
namespace K14
open PySem PySem.Spec PyProof.Rows L2 Pd
theorem ixI {ns : List Int} {i : Nat} (h : i < ns.length) : atI (ns.map PyData.int) (i : Int) = some (.int (ns.getD i 0)) := by
  rw [at_nat (by rw [List.length_map]; exact h), List.getElem_map, List.getD_eq_getElem?_getD, List.getElem?_eq_getElem h]; rfl
theorem ixL {T : Tbl} {i : Nat} (h : i < T.length) : atI (T.map lstI) (i : Int) = some (lstI (T.getD i [])) := by
  rw [at_nat (by rw [List.length_map]; exact h), List.getElem_map, List.getD_eq_getElem?_getD, List.getElem?_eq_getElem h]; rfl
theorem at_m1 {α : Type} {l : List α} : atI l (-1) = l.getLast? := by
  unfold atI ixN
  rw [if_neg (by decide)]
  cases l with
  | nil => rfl
  | cons a r =>
    rw [if_pos (by simp only [List.length_cons]; omega)]
    show (a :: r)[(-1 + ((a :: r).length : Int)).toNat]? = _
    rw [List.getLast?_eq_getElem?]
    congr 1
    simp only [List.length_cons]
    omega
theorem ixIm {ns : List Int} (h : ns ≠ []) : atI (ns.map PyData.int) (-1) = some (.int (lastI ns)) := by
  rw [at_m1, List.getLast?_map, List.getLast?_eq_some_getLast h]
  unfold lastI
  rw [List.getLastD_eq_getLast?, List.getLast?_eq_some_getLast h]
  rfl
theorem ixLm {T : Tbl} (h : T ≠ []) : atI (T.map lstI) (-1) = some (lstI (T.getLastD [])) := by
  rw [at_m1, List.getLast?_map, List.getLast?_eq_some_getLast h, List.getLastD_eq_getLast?, List.getLast?_eq_some_getLast h]
  rfl
theorem lt200 {n : Nat} (h : n < 200) : n < sizeLine := by rw [sizeLine_eq]; omega
theorem inB_of {a b i : Int} (h1 : a ≤ i) (h2 : i ≤ b) : inB a b (.int i) = true := by
  show (decide (a ≤ i) && decide (i ≤ b)) = true
  rw [decide_eq_true h1, decide_eq_true h2]; rfl
theorem pu_check_counted (ds Q R) (hl : ds.length = 1) (h : wf_check_counted ds Q R) : ws_check_counted (fun e _ => R e) (edP Q) (enP N_check_counted ds) := by
  obtain ⟨d, rfl, hb, q⟩ := h
  simp only [ws_check_counted, N_check_counted, wCallW, wForFv, forFvW, wMkX, wDic1, wMtX, wForPr, forPrW, wPNil, wPCons, wVar, wC, wOp, wUn, wCl, wB, wTr, wAnd, wOr, wNot, wAndV, wOrV, wNotV, wIf, wCh, wNil, wCons, wTup, wLe, wSz, wFn, wFnJ, wFnB, wFnJB, wBNil, wBCons, wBOwn, rsvP, rsvJ, wNext, wSeq, wRet, wRetN, wDrop, wIfS, wSet, wSetOwn, wNever, wAug, wOpO, wIxO, wOpR, wClO, wApp, wSetIt, wFrz, wFor, wRg1, wRg2, wSq, wEnum, wZip, wZipM, wZipS, wZipU, wgN, wgT, wgNil, wgCons, wYes, wAsgT, wgLs, wLenS, wIxS, wFnS, wFnJL, wFnX, wRaise, wRaiseF, wForFn, forFnW, wMet, hide, wIsi, wListOf, wRev, edP, edJ, enP, enJ, enS, NotOwn, Flat, List.map_cons, List.map_nil, List.length_cons, List.length_nil, List.replicate_succ, List.replicate_zero, List.cons_append, List.nil_append, List.append_nil, List.set_cons_zero, List.set_cons_succ, List.getElem?_cons_zero, List.getElem?_cons_succ, Nat.reduceAdd, Nat.reduceSub, Option.some.injEq, Sl.imm.injEq, Sl.own.injEq, Sl.scr.injEq, exists_eq_left, exists_eq_left', exists_eq_right, exists_eq, exists_eq', exists_and_left, and_assoc, and_true, true_and, ne_eq, not_false_eq_true, Nat.succ_ne_zero, or_true, true_or, true_implies, forall_eq', forall_eq, PyData.int.injEq, PyData.bool.injEq, PyData.list.injEq, PyData.tuple.injEq, List.cons.injEq, i_add, i_iadd, i_sub, i_mul, i_mod, i_fdiv, i_fdivG, i_pow, i_neg, i_le, i_ge, i_gt, i_lt, i_eq, i_ne, i_intI, i_intB, i_abs, i_max, i_min, i_lenL, i_lenT, i_ixL, i_ixT, i_tupL, i_tupT, i_truB, Bool.not_true, Bool.not_false, Bool.false_eq_true, if_true, if_false, reduceIte]
  exact ⟨d, _, _, rfl, fun _ => q, fun z => ff z hb⟩
theorem pu_check_long (ds Q R) (hl : ds.length = 1) (h : wf_check_long ds Q R) : ws_check_long (fun e _ => R e) (edP Q) (enP N_check_long ds) := by
  obtain ⟨d, rfl, hb, q⟩ := h
  simp only [ws_check_long, N_check_long, wCallW, wForFv, forFvW, wMkX, wDic1, wMtX, wForPr, forPrW, wPNil, wPCons, wVar, wC, wOp, wUn, wCl, wB, wTr, wAnd, wOr, wNot, wAndV, wOrV, wNotV, wIf, wCh, wNil, wCons, wTup, wLe, wSz, wFn, wFnJ, wFnB, wFnJB, wBNil, wBCons, wBOwn, rsvP, rsvJ, wNext, wSeq, wRet, wRetN, wDrop, wIfS, wSet, wSetOwn, wNever, wAug, wOpO, wIxO, wOpR, wClO, wApp, wSetIt, wFrz, wFor, wRg1, wRg2, wSq, wEnum, wZip, wZipM, wZipS, wZipU, wgN, wgT, wgNil, wgCons, wYes, wAsgT, wgLs, wLenS, wIxS, wFnS, wFnJL, wFnX, wRaise, wRaiseF, wForFn, forFnW, wMet, hide, wIsi, wListOf, wRev, edP, edJ, enP, enJ, enS, NotOwn, Flat, List.map_cons, List.map_nil, List.length_cons, List.length_nil, List.replicate_succ, List.replicate_zero, List.cons_append, List.nil_append, List.append_nil, List.set_cons_zero, List.set_cons_succ, List.getElem?_cons_zero, List.getElem?_cons_succ, Nat.reduceAdd, Nat.reduceSub, Option.some.injEq, Sl.imm.injEq, Sl.own.injEq, Sl.scr.injEq, exists_eq_left, exists_eq_left', exists_eq_right, exists_eq, exists_eq', exists_and_left, and_assoc, and_true, true_and, ne_eq, not_false_eq_true, Nat.succ_ne_zero, or_true, true_or, true_implies, forall_eq', forall_eq, PyData.int.injEq, PyData.bool.injEq, PyData.list.injEq, PyData.tuple.injEq, List.cons.injEq, i_add, i_iadd, i_sub, i_mul, i_mod, i_fdiv, i_fdivG, i_pow, i_neg, i_le, i_ge, i_gt, i_lt, i_eq, i_ne, i_intI, i_intB, i_abs, i_max, i_min, i_lenL, i_lenT, i_ixL, i_ixT, i_tupL, i_tupT, i_truB, Bool.not_true, Bool.not_false, Bool.false_eq_true, if_true, if_false, reduceIte]
  exact ⟨d, _, _, rfl, fun _ => q, fun z => ff z hb⟩
theorem rngD_nat (n : Nat) : rngD 0 n = (List.range' 0 n).map fun (i : Nat) => PyData.int (i : Int) := by
  unfold rngD
  rw [← List.range_eq_range']
  exact List.map_congr_left fun i _ => by rw [Int.zero_add]
theorem rngD_ns (n : Nat) : rngD 0 n = (List.range n).map fun (i : Nat) => PyData.int (i : Int) := by rw [rngD_nat, ← List.range_eq_range']
end K14

set_option Elab.async false
set_option linter.all false
set_option maxRecDepth 100000
set_option maxHeartbeats 4000000
namespace K14
open PySem PySem.Spec PyProof.Rows L2 Pd
theorem sz_app {xs ys : List D} {z : D} (h : xs.length + ys.length ≤ 200) (e : z = .list (xs ++ ys)) : dAdd (.list xs) (.list ys) z := i_addL.mpr ⟨sl200 h, e⟩
theorem getD_mem {α : Type} {l : List α} {i : Nat} {d : α} (h : i < l.length) : l.getD i d ∈ l := by
  rw [List.getD_eq_getElem?_getD, List.getElem?_eq_getElem h]
  exact List.getElem_mem h
theorem ixR {rs : List (List Int)} {i : Nat} (h : i < rs.length) : atI (rs.map rowD) (i : Int) = some (rowD (rs.getD i [])) := by
  rw [at_nat (by rw [List.length_map]; exact h), List.getElem_map, List.getD_eq_getElem?_getD, List.getElem?_eq_getElem h]; rfl
theorem mulL {x : Int} {k : Nat} {y : D} (hk : k ≤ 100) (hy : y = .int (k : Int)) : dMul (.list [.int x]) y (.list (List.replicate k (.int x))) := by
  subst hy
  refine Or.inr (Or.inr ⟨[.int x], k, rfl, rfl, by omega, by omega, ?_, ?_⟩)
  · rw [Int.toNat_natCast]; exact sl200 (by simp; omega)
  · rw [Int.toNat_natCast, List.flatten_replicate_singleton]
theorem ft_loop {h : Nat} {rs : List (List Int)} {R : Ed} (hS : InS h rs) : ∀ (n k : Nat) (s3 s4 s5 : Sl), k + n = rs.length → (∀ s3 s4 s5, R.nx [.imm (.int h), .imm (rowsD rs), .own (((List.range rs.length).map (frow h rs)).map lstI), s3, s4, s5, .un, .un]) →
    forW (wgN 3) (wSeq (wSet 4 (wLe (wLc (wRg1 (wCons (wVar 0) wNil)) (wgN 6) wYes (wCl dIntOf (wCons (wOp (dIn false) (wVar 6) (wOp dIx (wVar 1) (wVar 3))) wNil)) [6]))) (wSeq (wSet 5 (wLe (wLc (wRg1 (wCons (wCl dLen (wCons (wVar 1) wNil)) wNil)) (wgN 7) wYes (wCl dIntOf (wCons (wOp dEq (wVar 7) (wVar 3)) wNil)) [7]))) (wApp 2 (wOp dAdd (wOp dAdd (wVar 4) (wVar 5)) (wLe (wSz (wCons (wC (.int 1)) wNil))))))) R ((List.range' k n).map fun (i : Nat) => .int (i : Int)) [.imm (.int h), .imm (rowsD rs), .own (((List.range k).map (frow h rs)).map lstI), s3, s4, s5, .un, .un]
  | 0, k, s3, s4, s5, e, q => by
    have e : k = rs.length := by omega
    subst e
    exact q s3 s4 s5
  | n + 1, k, s3, s4, s5, e, q => by
    obtain ⟨h1, h6, hL⟩ := id hS
    have h12 := hL.1
    have hk : k < rs.length := by omega
    have rec_ := fun s3 s4 s5 => ft_loop (R := R) hS n (k + 1) s3 s4 s5 (by omega) q
    rw [List.range'_succ, List.map_cons]
    unfold forW
    generalize forW (wgN 3) _ R ((List.range' (k + 1) n).map fun (i : Nat) => .int (i : Int)) = N at rec_ ⊢
    simp -failIfUnchanged only [wCallW, wForFv, forFvW, wMkX, wDic1, wMtX, wForPr, forPrW, wPNil, wPCons, wVar, wC, wOp, wUn, wCl, wB, wTr, wAnd, wOr, wNot, wAndV, wOrV, wNotV, wIf, wCh, wNil, wCons, wTup, wLe, wSz, wFn, wFnJ, wFnB, wFnJB, wBNil, wBCons, wBOwn, rsvP, rsvJ, wNext, wRet, wRetN, wDrop, wIfS, wSet, wSetOwn, wNever, wAug, wOpO, wIxO, wOpR, wClO, wApp, wSetIt, wFrz, wFor, wRg1, wRg2, wSq, wEnum, wZip, wZipM, wZipS, wZipU, wgN, wgT, wgNil, wgCons, wYes, wAsgT, wgLs, wLenS, wIxS, wFnS, wFnJL, wFnX, wRaise, wRaiseF, wForFn, forFnW, wMet, hide, wIsi, wListOf, wRev, edP, edJ, enP, enJ, enS, NotOwn, Flat, List.map_cons, List.map_nil, List.length_cons, List.length_nil, List.replicate_succ, List.replicate_zero, List.cons_append, List.nil_append, List.append_nil, List.set_cons_zero, List.set_cons_succ, List.getElem?_cons_zero, List.getElem?_cons_succ, Nat.reduceAdd, Nat.reduceSub, Option.some.injEq, Sl.imm.injEq, Sl.own.injEq, Sl.scr.injEq, exists_eq_left, exists_eq_left', exists_eq_right, exists_eq, exists_eq', exists_and_left, and_assoc, and_true, true_and, ne_eq, not_false_eq_true, Nat.succ_ne_zero, or_true, true_or, true_implies, forall_eq', forall_eq, PyData.int.injEq, PyData.bool.injEq, PyData.list.injEq, PyData.tuple.injEq, List.cons.injEq, i_add, i_iadd, i_sub, i_mul, i_mod, i_fdiv, i_fdivG, i_pow, i_neg, i_le, i_ge, i_gt, i_lt, i_eq, i_ne, i_intI, i_intB, i_abs, i_max, i_min, i_lenL, i_lenT, i_ixL, i_ixT, i_tupL, i_tupT, i_truB, Bool.not_true, Bool.not_false, Bool.false_eq_true, if_true, if_false, reduceIte]
    (try dsimp only); rw [wSeq_eq]; simp -failIfUnchanged only [wCallW, wForFv, forFvW, wMkX, wDic1, wMtX, wForPr, forPrW, wPNil, wPCons, wVar, wC, wOp, wUn, wCl, wB, wTr, wAnd, wOr, wNot, wAndV, wOrV, wNotV, wIf, wCh, wNil, wCons, wTup, wLe, wSz, wFn, wFnJ, wFnB, wFnJB, wBNil, wBCons, wBOwn, rsvP, rsvJ, wNext, wRet, wRetN, wDrop, wIfS, wSet, wSetOwn, wNever, wAug, wOpO, wIxO, wOpR, wClO, wApp, wSetIt, wFrz, wFor, wRg1, wRg2, wSq, wEnum, wZip, wZipM, wZipS, wZipU, wgN, wgT, wgNil, wgCons, wYes, wAsgT, wgLs, wLenS, wIxS, wFnS, wFnJL, wFnX, wRaise, wRaiseF, wForFn, forFnW, wMet, hide, wIsi, wListOf, wRev, edP, edJ, enP, enJ, enS, NotOwn, Flat, List.map_cons, List.map_nil, List.length_cons, List.length_nil, List.replicate_succ, List.replicate_zero, List.cons_append, List.nil_append, List.append_nil, List.set_cons_zero, List.set_cons_succ, List.getElem?_cons_zero, List.getElem?_cons_succ, Nat.reduceAdd, Nat.reduceSub, Option.some.injEq, Sl.imm.injEq, Sl.own.injEq, Sl.scr.injEq, exists_eq_left, exists_eq_left', exists_eq_right, exists_eq, exists_eq', exists_and_left, and_assoc, and_true, true_and, ne_eq, not_false_eq_true, Nat.succ_ne_zero, or_true, true_or, true_implies, forall_eq', forall_eq, PyData.int.injEq, PyData.bool.injEq, PyData.list.injEq, PyData.tuple.injEq, List.cons.injEq, i_add, i_iadd, i_sub, i_mul, i_mod, i_fdiv, i_fdivG, i_pow, i_neg, i_le, i_ge, i_gt, i_lt, i_eq, i_ne, i_intI, i_intB, i_abs, i_max, i_min, i_lenL, i_lenT, i_ixL, i_ixT, i_tupL, i_tupT, i_truB, Bool.not_true, Bool.not_false, Bool.false_eq_true, if_true, if_false, reduceIte]
    refine lcY (α := Int) (e1 := [.imm (.int h), .imm (rowsD rs), .own (((List.range k).map (frow h rs)).map lstI), .imm (.int (k : Nat)), s4, s5, .un, .un]) (X := .int) (f := fun x => .int (one0 ((rs.getD k []).contains x))) (xs := intsTo h) (fun x => [.imm (.int h), .imm (rowsD rs), .own (((List.range k).map (frow h rs)).map lstI), .imm (.int (k : Nat)), s4, s5, .imm (.int x), .un]) (by decide) (fun Q q => ?_) (no1 trivial) (by rw [intsTo_len]; exact sl200 (by omega)) (fun _ => rfl) (fun x hx Q q => ?_) (fun x hx Q q => ?_) ?_
    · simp -failIfUnchanged only [wCallW, wForFv, forFvW, wMkX, wDic1, wMtX, wForPr, forPrW, wPNil, wPCons, wVar, wC, wOp, wUn, wCl, wB, wTr, wAnd, wOr, wNot, wAndV, wOrV, wNotV, wIf, wCh, wNil, wCons, wTup, wLe, wSz, wFn, wFnJ, wFnB, wFnJB, wBNil, wBCons, wBOwn, rsvP, rsvJ, wNext, wRet, wRetN, wDrop, wIfS, wSet, wSetOwn, wNever, wAug, wOpO, wIxO, wOpR, wClO, wApp, wSetIt, wFrz, wFor, wRg1, wRg2, wSq, wEnum, wZip, wZipM, wZipS, wZipU, wgN, wgT, wgNil, wgCons, wYes, wAsgT, wgLs, wLenS, wIxS, wFnS, wFnJL, wFnX, wRaise, wRaiseF, wForFn, forFnW, wMet, hide, wIsi, wListOf, wRev, edP, edJ, enP, enJ, enS, NotOwn, Flat, List.map_cons, List.map_nil, List.length_cons, List.length_nil, List.replicate_succ, List.replicate_zero, List.cons_append, List.nil_append, List.append_nil, List.set_cons_zero, List.set_cons_succ, List.getElem?_cons_zero, List.getElem?_cons_succ, Nat.reduceAdd, Nat.reduceSub, Option.some.injEq, Sl.imm.injEq, Sl.own.injEq, Sl.scr.injEq, exists_eq_left, exists_eq_left', exists_eq_right, exists_eq, exists_eq', exists_and_left, and_assoc, and_true, true_and, ne_eq, not_false_eq_true, Nat.succ_ne_zero, or_true, true_or, true_implies, forall_eq', forall_eq, PyData.int.injEq, PyData.bool.injEq, PyData.list.injEq, PyData.tuple.injEq, List.cons.injEq, i_add, i_iadd, i_sub, i_mul, i_mod, i_fdiv, i_fdivG, i_pow, i_neg, i_le, i_ge, i_gt, i_lt, i_eq, i_ne, i_intI, i_intB, i_abs, i_max, i_min, i_lenL, i_lenT, i_ixL, i_ixT, i_tupL, i_tupT, i_truB, Bool.not_true, Bool.not_false, Bool.false_eq_true, if_true, if_false, reduceIte]
      rw [rng_ints]
      exact ⟨by omega, by omega, q⟩
    · simp -failIfUnchanged only [wip, wCallW, wForFv, forFvW, wMkX, wDic1, wMtX, wForPr, forPrW, wPNil, wPCons, wVar, wC, wOp, wUn, wCl, wB, wTr, wAnd, wOr, wNot, wAndV, wOrV, wNotV, wIf, wCh, wNil, wCons, wTup, wLe, wSz, wFn, wFnJ, wFnB, wFnJB, wBNil, wBCons, wBOwn, rsvP, rsvJ, wNext, wRet, wRetN, wDrop, wIfS, wSet, wSetOwn, wNever, wAug, wOpO, wIxO, wOpR, wClO, wApp, wSetIt, wFrz, wFor, wRg1, wRg2, wSq, wEnum, wZip, wZipM, wZipS, wZipU, wgN, wgT, wgNil, wgCons, wYes, wAsgT, wgLs, wLenS, wIxS, wFnS, wFnJL, wFnX, wRaise, wRaiseF, wForFn, forFnW, wMet, hide, wIsi, wListOf, wRev, edP, edJ, enP, enJ, enS, NotOwn, Flat, List.map_cons, List.map_nil, List.length_cons, List.length_nil, List.replicate_succ, List.replicate_zero, List.cons_append, List.nil_append, List.append_nil, List.set_cons_zero, List.set_cons_succ, List.getElem?_cons_zero, List.getElem?_cons_succ, Nat.reduceAdd, Nat.reduceSub, Option.some.injEq, Sl.imm.injEq, Sl.own.injEq, Sl.scr.injEq, exists_eq_left, exists_eq_left', exists_eq_right, exists_eq, exists_eq', exists_and_left, and_assoc, and_true, true_and, ne_eq, not_false_eq_true, Nat.succ_ne_zero, or_true, true_or, true_implies, forall_eq', forall_eq, PyData.int.injEq, PyData.bool.injEq, PyData.list.injEq, PyData.tuple.injEq, List.cons.injEq, i_add, i_iadd, i_sub, i_mul, i_mod, i_fdiv, i_fdivG, i_pow, i_neg, i_le, i_ge, i_gt, i_lt, i_eq, i_ne, i_intI, i_intB, i_abs, i_max, i_min, i_lenL, i_lenT, i_ixL, i_ixT, i_tupL, i_tupT, i_truB, Bool.not_true, Bool.not_false, Bool.false_eq_true, if_true, if_false, reduceIte]
      exact q
    · simp -failIfUnchanged only [rowsD, wCallW, wForFv, forFvW, wMkX, wDic1, wMtX, wForPr, forPrW, wPNil, wPCons, wVar, wC, wOp, wUn, wCl, wB, wTr, wAnd, wOr, wNot, wAndV, wOrV, wNotV, wIf, wCh, wNil, wCons, wTup, wLe, wSz, wFn, wFnJ, wFnB, wFnJB, wBNil, wBCons, wBOwn, rsvP, rsvJ, wNext, wRet, wRetN, wDrop, wIfS, wSet, wSetOwn, wNever, wAug, wOpO, wIxO, wOpR, wClO, wApp, wSetIt, wFrz, wFor, wRg1, wRg2, wSq, wEnum, wZip, wZipM, wZipS, wZipU, wgN, wgT, wgNil, wgCons, wYes, wAsgT, wgLs, wLenS, wIxS, wFnS, wFnJL, wFnX, wRaise, wRaiseF, wForFn, forFnW, wMet, hide, wIsi, wListOf, wRev, edP, edJ, enP, enJ, enS, NotOwn, Flat, List.map_cons, List.map_nil, List.length_cons, List.length_nil, List.replicate_succ, List.replicate_zero, List.cons_append, List.nil_append, List.append_nil, List.set_cons_zero, List.set_cons_succ, List.getElem?_cons_zero, List.getElem?_cons_succ, Nat.reduceAdd, Nat.reduceSub, Option.some.injEq, Sl.imm.injEq, Sl.own.injEq, Sl.scr.injEq, exists_eq_left, exists_eq_left', exists_eq_right, exists_eq, exists_eq', exists_and_left, and_assoc, and_true, true_and, ne_eq, not_false_eq_true, Nat.succ_ne_zero, or_true, true_or, true_implies, forall_eq', forall_eq, PyData.int.injEq, PyData.bool.injEq, PyData.list.injEq, PyData.tuple.injEq, List.cons.injEq, i_add, i_iadd, i_sub, i_mul, i_mod, i_fdiv, i_fdivG, i_pow, i_neg, i_le, i_ge, i_gt, i_lt, i_eq, i_ne, i_intI, i_intB, i_abs, i_max, i_min, i_lenL, i_lenT, i_ixL, i_ixT, i_tupL, i_tupT, i_truB, Bool.not_true, Bool.not_false, Bool.false_eq_true, if_true, if_false, reduceIte]
      refine ⟨_, ixR hk, _, i_inT.mpr rfl, ?_⟩
      simp -failIfUnchanged only [wCallW, wForFv, forFvW, wMkX, wDic1, wMtX, wForPr, forPrW, wPNil, wPCons, wVar, wC, wOp, wUn, wCl, wB, wTr, wAnd, wOr, wNot, wAndV, wOrV, wNotV, wIf, wCh, wNil, wCons, wTup, wLe, wSz, wFn, wFnJ, wFnB, wFnJB, wBNil, wBCons, wBOwn, rsvP, rsvJ, wNext, wRet, wRetN, wDrop, wIfS, wSet, wSetOwn, wNever, wAug, wOpO, wIxO, wOpR, wClO, wApp, wSetIt, wFrz, wFor, wRg1, wRg2, wSq, wEnum, wZip, wZipM, wZipS, wZipU, wgN, wgT, wgNil, wgCons, wYes, wAsgT, wgLs, wLenS, wIxS, wFnS, wFnJL, wFnX, wRaise, wRaiseF, wForFn, forFnW, wMet, hide, wIsi, wListOf, wRev, edP, edJ, enP, enJ, enS, NotOwn, Flat, List.map_cons, List.map_nil, List.length_cons, List.length_nil, List.replicate_succ, List.replicate_zero, List.cons_append, List.nil_append, List.append_nil, List.set_cons_zero, List.set_cons_succ, List.getElem?_cons_zero, List.getElem?_cons_succ, Nat.reduceAdd, Nat.reduceSub, Option.some.injEq, Sl.imm.injEq, Sl.own.injEq, Sl.scr.injEq, exists_eq_left, exists_eq_left', exists_eq_right, exists_eq, exists_eq', exists_and_left, and_assoc, and_true, true_and, ne_eq, not_false_eq_true, Nat.succ_ne_zero, or_true, true_or, true_implies, forall_eq', forall_eq, PyData.int.injEq, PyData.bool.injEq, PyData.list.injEq, PyData.tuple.injEq, List.cons.injEq, i_add, i_iadd, i_sub, i_mul, i_mod, i_fdiv, i_fdivG, i_pow, i_neg, i_le, i_ge, i_gt, i_lt, i_eq, i_ne, i_intI, i_intB, i_abs, i_max, i_min, i_lenL, i_lenT, i_ixL, i_ixT, i_tupL, i_tupT, i_truB, Bool.not_true, Bool.not_false, Bool.false_eq_true, if_true, if_false, reduceIte]
      exact q
    · (try dsimp only); rw [wSeq_eq]; simp -failIfUnchanged only [wCallW, wForFv, forFvW, wMkX, wDic1, wMtX, wForPr, forPrW, wPNil, wPCons, wVar, wC, wOp, wUn, wCl, wB, wTr, wAnd, wOr, wNot, wAndV, wOrV, wNotV, wIf, wCh, wNil, wCons, wTup, wLe, wSz, wFn, wFnJ, wFnB, wFnJB, wBNil, wBCons, wBOwn, rsvP, rsvJ, wNext, wRet, wRetN, wDrop, wIfS, wSet, wSetOwn, wNever, wAug, wOpO, wIxO, wOpR, wClO, wApp, wSetIt, wFrz, wFor, wRg1, wRg2, wSq, wEnum, wZip, wZipM, wZipS, wZipU, wgN, wgT, wgNil, wgCons, wYes, wAsgT, wgLs, wLenS, wIxS, wFnS, wFnJL, wFnX, wRaise, wRaiseF, wForFn, forFnW, wMet, hide, wIsi, wListOf, wRev, edP, edJ, enP, enJ, enS, NotOwn, Flat, List.map_cons, List.map_nil, List.length_cons, List.length_nil, List.replicate_succ, List.replicate_zero, List.cons_append, List.nil_append, List.append_nil, List.set_cons_zero, List.set_cons_succ, List.getElem?_cons_zero, List.getElem?_cons_succ, Nat.reduceAdd, Nat.reduceSub, Option.some.injEq, Sl.imm.injEq, Sl.own.injEq, Sl.scr.injEq, exists_eq_left, exists_eq_left', exists_eq_right, exists_eq, exists_eq', exists_and_left, and_assoc, and_true, true_and, ne_eq, not_false_eq_true, Nat.succ_ne_zero, or_true, true_or, true_implies, forall_eq', forall_eq, PyData.int.injEq, PyData.bool.injEq, PyData.list.injEq, PyData.tuple.injEq, List.cons.injEq, i_add, i_iadd, i_sub, i_mul, i_mod, i_fdiv, i_fdivG, i_pow, i_neg, i_le, i_ge, i_gt, i_lt, i_eq, i_ne, i_intI, i_intB, i_abs, i_max, i_min, i_lenL, i_lenT, i_ixL, i_ixT, i_tupL, i_tupT, i_truB, Bool.not_true, Bool.not_false, Bool.false_eq_true, if_true, if_false, reduceIte]
      refine lcY (α := Nat) (e1 := [.imm (.int h), .imm (rowsD rs), .own (((List.range k).map (frow h rs)).map lstI), .imm (.int (k : Nat)), .imm (.list ((intsTo h).map fun x => .int (one0 ((rs.getD k []).contains x)))), s5, .un, .un]) (X := fun j => .int (j : Nat)) (f := fun j => .int (one0 (decide (j = k)))) (xs := List.range rs.length) (fun j => [.imm (.int h), .imm (rowsD rs), .own (((List.range k).map (frow h rs)).map lstI), .imm (.int (k : Nat)), .imm (.list ((intsTo h).map fun x => .int (one0 ((rs.getD k []).contains x)))), s5, .un, .imm (.int (j : Nat))]) (by decide) (fun Q q => ?_) (no1 trivial) (by rw [List.length_range]; exact sl200 (by omega)) (fun _ => rfl) (fun x hx Q q => ?_) (fun x hx Q q => ?_) ?_
      · simp -failIfUnchanged only [rowsD, List.length_map, wCallW, wForFv, forFvW, wMkX, wDic1, wMtX, wForPr, forPrW, wPNil, wPCons, wVar, wC, wOp, wUn, wCl, wB, wTr, wAnd, wOr, wNot, wAndV, wOrV, wNotV, wIf, wCh, wNil, wCons, wTup, wLe, wSz, wFn, wFnJ, wFnB, wFnJB, wBNil, wBCons, wBOwn, rsvP, rsvJ, wNext, wRet, wRetN, wDrop, wIfS, wSet, wSetOwn, wNever, wAug, wOpO, wIxO, wOpR, wClO, wApp, wSetIt, wFrz, wFor, wRg1, wRg2, wSq, wEnum, wZip, wZipM, wZipS, wZipU, wgN, wgT, wgNil, wgCons, wYes, wAsgT, wgLs, wLenS, wIxS, wFnS, wFnJL, wFnX, wRaise, wRaiseF, wForFn, forFnW, wMet, hide, wIsi, wListOf, wRev, edP, edJ, enP, enJ, enS, NotOwn, Flat, List.map_cons, List.map_nil, List.length_cons, List.length_nil, List.replicate_succ, List.replicate_zero, List.cons_append, List.nil_append, List.append_nil, List.set_cons_zero, List.set_cons_succ, List.getElem?_cons_zero, List.getElem?_cons_succ, Nat.reduceAdd, Nat.reduceSub, Option.some.injEq, Sl.imm.injEq, Sl.own.injEq, Sl.scr.injEq, exists_eq_left, exists_eq_left', exists_eq_right, exists_eq, exists_eq', exists_and_left, and_assoc, and_true, true_and, ne_eq, not_false_eq_true, Nat.succ_ne_zero, or_true, true_or, true_implies, forall_eq', forall_eq, PyData.int.injEq, PyData.bool.injEq, PyData.list.injEq, PyData.tuple.injEq, List.cons.injEq, i_add, i_iadd, i_sub, i_mul, i_mod, i_fdiv, i_fdivG, i_pow, i_neg, i_le, i_ge, i_gt, i_lt, i_eq, i_ne, i_intI, i_intB, i_abs, i_max, i_min, i_lenL, i_lenT, i_ixL, i_ixT, i_tupL, i_tupT, i_truB, Bool.not_true, Bool.not_false, Bool.false_eq_true, if_true, if_false, reduceIte]
        rw [Int.toNat_natCast, rngD_ns]
        exact ⟨by omega, by omega, q⟩
      · simp -failIfUnchanged only [wip, wCallW, wForFv, forFvW, wMkX, wDic1, wMtX, wForPr, forPrW, wPNil, wPCons, wVar, wC, wOp, wUn, wCl, wB, wTr, wAnd, wOr, wNot, wAndV, wOrV, wNotV, wIf, wCh, wNil, wCons, wTup, wLe, wSz, wFn, wFnJ, wFnB, wFnJB, wBNil, wBCons, wBOwn, rsvP, rsvJ, wNext, wRet, wRetN, wDrop, wIfS, wSet, wSetOwn, wNever, wAug, wOpO, wIxO, wOpR, wClO, wApp, wSetIt, wFrz, wFor, wRg1, wRg2, wSq, wEnum, wZip, wZipM, wZipS, wZipU, wgN, wgT, wgNil, wgCons, wYes, wAsgT, wgLs, wLenS, wIxS, wFnS, wFnJL, wFnX, wRaise, wRaiseF, wForFn, forFnW, wMet, hide, wIsi, wListOf, wRev, edP, edJ, enP, enJ, enS, NotOwn, Flat, List.map_cons, List.map_nil, List.length_cons, List.length_nil, List.replicate_succ, List.replicate_zero, List.cons_append, List.nil_append, List.append_nil, List.set_cons_zero, List.set_cons_succ, List.getElem?_cons_zero, List.getElem?_cons_succ, Nat.reduceAdd, Nat.reduceSub, Option.some.injEq, Sl.imm.injEq, Sl.own.injEq, Sl.scr.injEq, exists_eq_left, exists_eq_left', exists_eq_right, exists_eq, exists_eq', exists_and_left, and_assoc, and_true, true_and, ne_eq, not_false_eq_true, Nat.succ_ne_zero, or_true, true_or, true_implies, forall_eq', forall_eq, PyData.int.injEq, PyData.bool.injEq, PyData.list.injEq, PyData.tuple.injEq, List.cons.injEq, i_add, i_iadd, i_sub, i_mul, i_mod, i_fdiv, i_fdivG, i_pow, i_neg, i_le, i_ge, i_gt, i_lt, i_eq, i_ne, i_intI, i_intB, i_abs, i_max, i_min, i_lenL, i_lenT, i_ixL, i_ixT, i_tupL, i_tupT, i_truB, Bool.not_true, Bool.not_false, Bool.false_eq_true, if_true, if_false, reduceIte]
        exact q
      · simp -failIfUnchanged only [wCallW, wForFv, forFvW, wMkX, wDic1, wMtX, wForPr, forPrW, wPNil, wPCons, wVar, wC, wOp, wUn, wCl, wB, wTr, wAnd, wOr, wNot, wAndV, wOrV, wNotV, wIf, wCh, wNil, wCons, wTup, wLe, wSz, wFn, wFnJ, wFnB, wFnJB, wBNil, wBCons, wBOwn, rsvP, rsvJ, wNext, wRet, wRetN, wDrop, wIfS, wSet, wSetOwn, wNever, wAug, wOpO, wIxO, wOpR, wClO, wApp, wSetIt, wFrz, wFor, wRg1, wRg2, wSq, wEnum, wZip, wZipM, wZipS, wZipU, wgN, wgT, wgNil, wgCons, wYes, wAsgT, wgLs, wLenS, wIxS, wFnS, wFnJL, wFnX, wRaise, wRaiseF, wForFn, forFnW, wMet, hide, wIsi, wListOf, wRev, edP, edJ, enP, enJ, enS, NotOwn, Flat, List.map_cons, List.map_nil, List.length_cons, List.length_nil, List.replicate_succ, List.replicate_zero, List.cons_append, List.nil_append, List.append_nil, List.set_cons_zero, List.set_cons_succ, List.getElem?_cons_zero, List.getElem?_cons_succ, Nat.reduceAdd, Nat.reduceSub, Option.some.injEq, Sl.imm.injEq, Sl.own.injEq, Sl.scr.injEq, exists_eq_left, exists_eq_left', exists_eq_right, exists_eq, exists_eq', exists_and_left, and_assoc, and_true, true_and, ne_eq, not_false_eq_true, Nat.succ_ne_zero, or_true, true_or, true_implies, forall_eq', forall_eq, PyData.int.injEq, PyData.bool.injEq, PyData.list.injEq, PyData.tuple.injEq, List.cons.injEq, i_add, i_iadd, i_sub, i_mul, i_mod, i_fdiv, i_fdivG, i_pow, i_neg, i_le, i_ge, i_gt, i_lt, i_eq, i_ne, i_intI, i_intB, i_abs, i_max, i_min, i_lenL, i_lenT, i_ixL, i_ixT, i_tupL, i_tupT, i_truB, Bool.not_true, Bool.not_false, Bool.false_eq_true, if_true, if_false, reduceIte]
        have e : decide ((x : Int) = (k : Int)) = decide (x = k) := decide_eq_decide.mpr (by omega)
        rw [e]
        exact q
      · simp -failIfUnchanged only [wCallW, wForFv, forFvW, wMkX, wDic1, wMtX, wForPr, forPrW, wPNil, wPCons, wVar, wC, wOp, wUn, wCl, wB, wTr, wAnd, wOr, wNot, wAndV, wOrV, wNotV, wIf, wCh, wNil, wCons, wTup, wLe, wSz, wFn, wFnJ, wFnB, wFnJB, wBNil, wBCons, wBOwn, rsvP, rsvJ, wNext, wRet, wRetN, wDrop, wIfS, wSet, wSetOwn, wNever, wAug, wOpO, wIxO, wOpR, wClO, wApp, wSetIt, wFrz, wFor, wRg1, wRg2, wSq, wEnum, wZip, wZipM, wZipS, wZipU, wgN, wgT, wgNil, wgCons, wYes, wAsgT, wgLs, wLenS, wIxS, wFnS, wFnJL, wFnX, wRaise, wRaiseF, wForFn, forFnW, wMet, hide, wIsi, wListOf, wRev, edP, edJ, enP, enJ, enS, NotOwn, Flat, List.map_cons, List.map_nil, List.length_cons, List.length_nil, List.replicate_succ, List.replicate_zero, List.cons_append, List.nil_append, List.append_nil, List.set_cons_zero, List.set_cons_succ, List.getElem?_cons_zero, List.getElem?_cons_succ, Nat.reduceAdd, Nat.reduceSub, Option.some.injEq, Sl.imm.injEq, Sl.own.injEq, Sl.scr.injEq, exists_eq_left, exists_eq_left', exists_eq_right, exists_eq, exists_eq', exists_and_left, and_assoc, and_true, true_and, ne_eq, not_false_eq_true, Nat.succ_ne_zero, or_true, true_or, true_implies, forall_eq', forall_eq, PyData.int.injEq, PyData.bool.injEq, PyData.list.injEq, PyData.tuple.injEq, List.cons.injEq, i_add, i_iadd, i_sub, i_mul, i_mod, i_fdiv, i_fdivG, i_pow, i_neg, i_le, i_ge, i_gt, i_lt, i_eq, i_ne, i_intI, i_intB, i_abs, i_max, i_min, i_lenL, i_lenT, i_ixL, i_ixT, i_tupL, i_tupT, i_truB, Bool.not_true, Bool.not_false, Bool.false_eq_true, if_true, if_false, reduceIte]
        have la : (intsTo (h : Int)).length ≤ 6 := by rw [intsTo_len]; omega
        refine ⟨_, sz_app (by simp only [List.length_map, List.length_range]; omega) rfl, ?_⟩
        refine ⟨by decide, _, sz_app (by simp only [List.length_append, List.length_map, List.length_range, List.length_cons, List.length_nil]; omega) rfl, lt200 (by simp only [List.length_map, List.length_range]; omega), ?_⟩
        have e : (List.range (k + 1)).map (frow h rs) = (List.range k).map (frow h rs) ++ [frow h rs k] := by rw [List.range_succ, List.map_append]; rfl
        have := rec_ (.imm (.int (k : Nat))) (.imm (PyData.list ((intsTo (h : Int)).map fun x => PyData.int (one0 ((rs.getD k []).contains x))))) (.imm (PyData.list ((List.range rs.length).map fun j => PyData.int (one0 (decide (j = k))))))
        rw [e, List.map_append] at this
        have e2 : PyData.list (((intsTo (h : Int)).map (fun x => PyData.int (one0 ((rs.getD k []).contains x))) ++ (List.range rs.length).map (fun j => PyData.int (one0 (decide (j = k))))) ++ [PyData.int 1]) = lstI (frow h rs k) := by
          unfold lstI frow
          rw [List.map_append, List.map_append, List.map_map, List.map_map]
          rfl
        rw [e2]
        exact this
theorem pu_first_table (ds Q) (hl : ds.length = 2) (h : wf_first_table ds Q) : ws_first_table (edP Q) (enP N_first_table ds) := by
  obtain ⟨h, rs, rfl, hS, q⟩ := h
  obtain ⟨h1, h6, hL⟩ := id hS
  have h12 := hL.1
  unfold ws_first_table
  (try dsimp only); rw [wSeq_eq]; simp -failIfUnchanged only [N_first_table, wCallW, wForFv, forFvW, wMkX, wDic1, wMtX, wForPr, forPrW, wPNil, wPCons, wVar, wC, wOp, wUn, wCl, wB, wTr, wAnd, wOr, wNot, wAndV, wOrV, wNotV, wIf, wCh, wNil, wCons, wTup, wLe, wSz, wFn, wFnJ, wFnB, wFnJB, wBNil, wBCons, wBOwn, rsvP, rsvJ, wNext, wRet, wRetN, wDrop, wIfS, wSet, wSetOwn, wNever, wAug, wOpO, wIxO, wOpR, wClO, wApp, wSetIt, wFrz, wFor, wRg1, wRg2, wSq, wEnum, wZip, wZipM, wZipS, wZipU, wgN, wgT, wgNil, wgCons, wYes, wAsgT, wgLs, wLenS, wIxS, wFnS, wFnJL, wFnX, wRaise, wRaiseF, wForFn, forFnW, wMet, hide, wIsi, wListOf, wRev, edP, edJ, enP, enJ, enS, NotOwn, Flat, List.map_cons, List.map_nil, List.length_cons, List.length_nil, List.replicate_succ, List.replicate_zero, List.cons_append, List.nil_append, List.append_nil, List.set_cons_zero, List.set_cons_succ, List.getElem?_cons_zero, List.getElem?_cons_succ, Nat.reduceAdd, Nat.reduceSub, Option.some.injEq, Sl.imm.injEq, Sl.own.injEq, Sl.scr.injEq, exists_eq_left, exists_eq_left', exists_eq_right, exists_eq, exists_eq', exists_and_left, and_assoc, and_true, true_and, ne_eq, not_false_eq_true, Nat.succ_ne_zero, or_true, true_or, true_implies, forall_eq', forall_eq, PyData.int.injEq, PyData.bool.injEq, PyData.list.injEq, PyData.tuple.injEq, List.cons.injEq, i_add, i_iadd, i_sub, i_mul, i_mod, i_fdiv, i_fdivG, i_pow, i_neg, i_le, i_ge, i_gt, i_lt, i_eq, i_ne, i_intI, i_intB, i_abs, i_max, i_min, i_lenL, i_lenT, i_ixL, i_ixT, i_tupL, i_tupT, i_truB, Bool.not_true, Bool.not_false, Bool.false_eq_true, if_true, if_false, reduceIte]
  (try dsimp only); rw [wSeq_eq]; simp -failIfUnchanged only [rowsD, List.length_map, wCallW, wForFv, forFvW, wMkX, wDic1, wMtX, wForPr, forPrW, wPNil, wPCons, wVar, wC, wOp, wUn, wCl, wB, wTr, wAnd, wOr, wNot, wAndV, wOrV, wNotV, wIf, wCh, wNil, wCons, wTup, wLe, wSz, wFn, wFnJ, wFnB, wFnJB, wBNil, wBCons, wBOwn, rsvP, rsvJ, wNext, wRet, wRetN, wDrop, wIfS, wSet, wSetOwn, wNever, wAug, wOpO, wIxO, wOpR, wClO, wApp, wSetIt, wFrz, wFor, wRg1, wRg2, wSq, wEnum, wZip, wZipM, wZipS, wZipU, wgN, wgT, wgNil, wgCons, wYes, wAsgT, wgLs, wLenS, wIxS, wFnS, wFnJL, wFnX, wRaise, wRaiseF, wForFn, forFnW, wMet, hide, wIsi, wListOf, wRev, edP, edJ, enP, enJ, enS, NotOwn, Flat, List.map_cons, List.map_nil, List.length_cons, List.length_nil, List.replicate_succ, List.replicate_zero, List.cons_append, List.nil_append, List.append_nil, List.set_cons_zero, List.set_cons_succ, List.getElem?_cons_zero, List.getElem?_cons_succ, Nat.reduceAdd, Nat.reduceSub, Option.some.injEq, Sl.imm.injEq, Sl.own.injEq, Sl.scr.injEq, exists_eq_left, exists_eq_left', exists_eq_right, exists_eq, exists_eq', exists_and_left, and_assoc, and_true, true_and, ne_eq, not_false_eq_true, Nat.succ_ne_zero, or_true, true_or, true_implies, forall_eq', forall_eq, PyData.int.injEq, PyData.bool.injEq, PyData.list.injEq, PyData.tuple.injEq, List.cons.injEq, i_add, i_iadd, i_sub, i_mul, i_mod, i_fdiv, i_fdivG, i_pow, i_neg, i_le, i_ge, i_gt, i_lt, i_eq, i_ne, i_intI, i_intB, i_abs, i_max, i_min, i_lenL, i_lenT, i_ixL, i_ixT, i_tupL, i_tupT, i_truB, Bool.not_true, Bool.not_false, Bool.false_eq_true, if_true, if_false, reduceIte]
  repeat ((with_reducible refine And.intro ?_ ?_); (focus first | decide | exact pow_ok (by decide +kernel) | (simp; done)))
  refine ⟨by omega, ?_⟩
  rw [Int.toNat_natCast, rngD_nat]
  refine ft_loop hS rs.length 0 .un .un .un (by omega) fun s3 s4 s5 => ?_
  (try dsimp only); rw [wSeq_eq]; simp -failIfUnchanged only [wCallW, wForFv, forFvW, wMkX, wDic1, wMtX, wForPr, forPrW, wPNil, wPCons, wVar, wC, wOp, wUn, wCl, wB, wTr, wAnd, wOr, wNot, wAndV, wOrV, wNotV, wIf, wCh, wNil, wCons, wTup, wLe, wSz, wFn, wFnJ, wFnB, wFnJB, wBNil, wBCons, wBOwn, rsvP, rsvJ, wNext, wRet, wRetN, wDrop, wIfS, wSet, wSetOwn, wNever, wAug, wOpO, wIxO, wOpR, wClO, wApp, wSetIt, wFrz, wFor, wRg1, wRg2, wSq, wEnum, wZip, wZipM, wZipS, wZipU, wgN, wgT, wgNil, wgCons, wYes, wAsgT, wgLs, wLenS, wIxS, wFnS, wFnJL, wFnX, wRaise, wRaiseF, wForFn, forFnW, wMet, hide, wIsi, wListOf, wRev, edP, edJ, enP, enJ, enS, NotOwn, Flat, List.map_cons, List.map_nil, List.length_cons, List.length_nil, List.replicate_succ, List.replicate_zero, List.cons_append, List.nil_append, List.append_nil, List.set_cons_zero, List.set_cons_succ, List.getElem?_cons_zero, List.getElem?_cons_succ, Nat.reduceAdd, Nat.reduceSub, Option.some.injEq, Sl.imm.injEq, Sl.own.injEq, Sl.scr.injEq, exists_eq_left, exists_eq_left', exists_eq_right, exists_eq, exists_eq', exists_and_left, and_assoc, and_true, true_and, ne_eq, not_false_eq_true, Nat.succ_ne_zero, or_true, true_or, true_implies, forall_eq', forall_eq, PyData.int.injEq, PyData.bool.injEq, PyData.list.injEq, PyData.tuple.injEq, List.cons.injEq, i_add, i_iadd, i_sub, i_mul, i_mod, i_fdiv, i_fdivG, i_pow, i_neg, i_le, i_ge, i_gt, i_lt, i_eq, i_ne, i_intI, i_intB, i_abs, i_max, i_min, i_lenL, i_lenT, i_ixL, i_ixT, i_tupL, i_tupT, i_truB, Bool.not_true, Bool.not_false, Bool.false_eq_true, if_true, if_false, reduceIte]
  have l1 : (h : Int).toNat = h := by omega
  have l2 : ((rs.length : Int) + 1).toNat = rs.length + 1 := by omega
  refine ⟨by decide, _, mulL (x := -1) (k := h) (by omega) rfl, by decide, _, rfl, _, i_add.mpr rfl, _, mulL (x := 0) (k := rs.length + 1) (by omega) (by rw [List.length_map]; rfl), _, sz_app (by rw [List.length_replicate, List.length_replicate]; omega) rfl, lt200 (by simp only [List.length_map, List.length_range]; omega), ?_⟩
  have e : ftab h rs = (List.range rs.length).map (frow h rs) ++ [List.replicate h (-1) ++ List.replicate (rs.length + 1) 0] := rfl
  have e2 : PyData.list (List.replicate h (PyData.int (-1)) ++ List.replicate (rs.length + 1) (PyData.int 0)) = lstI (List.replicate h (-1) ++ List.replicate (rs.length + 1) 0) := by
    unfold lstI
    rw [List.map_append, List.map_replicate, List.map_replicate]
  rw [e2]
  unfold llI at q
  rw [e, List.map_append] at q
  exact q
theorem ent_loop {T : D} {R : Ed} : ∀ (xs : List Int) (k : Nat) (s1 s2 : Sl), (match xs.findIdx? (fun x => decide (x < 0)) with
    | some i => ∀ e, R.rt (.int ((k + i : Nat) : Int)) e
    | none => ∀ s1 s2, R.nx [.imm T, s1, s2]) →
    forW (wgT 2 (wgCons (wgN 1) (wgCons (wgN 2) wgNil))) (wIfS (wB (wOp dLt (wVar 2) (wC (.int 0)))) (wRet (wVar 1)) wNext) R (enuD k (xs.map .int)) [.imm T, s1, s2]
  | [], k, s1, s2, q => q s1 s2
  | x :: xs, k, s1, s2, q => by
    have rec_ := fun s1 s2 => ent_loop (T := T) (R := R) xs (k + 1) s1 s2
    rw [List.map_cons]
    show forW _ _ _ (.tuple [.int (k : Nat), .int x] :: enuD (k + 1) (xs.map .int)) _
    unfold forW
    generalize forW (wgT 2 (wgCons (wgN 1) (wgCons (wgN 2) wgNil))) _ R (enuD (k + 1) (xs.map .int)) = N at rec_ ⊢
    simp -failIfUnchanged only [wCallW, wForFv, forFvW, wMkX, wDic1, wMtX, wForPr, forPrW, wPNil, wPCons, wVar, wC, wOp, wUn, wCl, wB, wTr, wAnd, wOr, wNot, wAndV, wOrV, wNotV, wIf, wCh, wNil, wCons, wTup, wLe, wSz, wFn, wFnJ, wFnB, wFnJB, wBNil, wBCons, wBOwn, rsvP, rsvJ, wNext, wRet, wRetN, wDrop, wIfS, wSet, wSetOwn, wNever, wAug, wOpO, wIxO, wOpR, wClO, wApp, wSetIt, wFrz, wFor, wRg1, wRg2, wSq, wEnum, wZip, wZipM, wZipS, wZipU, wgN, wgT, wgNil, wgCons, wYes, wAsgT, wgLs, wLenS, wIxS, wFnS, wFnJL, wFnX, wRaise, wRaiseF, wForFn, forFnW, wMet, hide, wIsi, wListOf, wRev, edP, edJ, enP, enJ, enS, NotOwn, Flat, List.map_cons, List.map_nil, List.length_cons, List.length_nil, List.replicate_succ, List.replicate_zero, List.cons_append, List.nil_append, List.append_nil, List.set_cons_zero, List.set_cons_succ, List.getElem?_cons_zero, List.getElem?_cons_succ, Nat.reduceAdd, Nat.reduceSub, Option.some.injEq, Sl.imm.injEq, Sl.own.injEq, Sl.scr.injEq, exists_eq_left, exists_eq_left', exists_eq_right, exists_eq, exists_eq', exists_and_left, and_assoc, and_true, true_and, ne_eq, not_false_eq_true, Nat.succ_ne_zero, or_true, true_or, true_implies, forall_eq', forall_eq, PyData.int.injEq, PyData.bool.injEq, PyData.list.injEq, PyData.tuple.injEq, List.cons.injEq, i_add, i_iadd, i_sub, i_mul, i_mod, i_fdiv, i_fdivG, i_pow, i_neg, i_le, i_ge, i_gt, i_lt, i_eq, i_ne, i_intI, i_intB, i_abs, i_max, i_min, i_lenL, i_lenT, i_ixL, i_ixT, i_tupL, i_tupT, i_truB, Bool.not_true, Bool.not_false, Bool.false_eq_true, if_true, if_false, reduceIte]
    rw [List.findIdx?_cons] at q
    by_cases h : x < 0
    · rw [if_pos (by simpa using h)]
      rw [if_pos (by simpa using h)] at q
      exact q _
    · rw [if_neg (by simpa using h)]
      rw [if_neg (by simpa using h)] at q
      refine rec_ _ _ ?_
      cases e : xs.findIdx? (fun x => decide (x < 0)) with
      | none => rw [e] at q; exact q
      | some i => rw [e] at q; intro e'; have := q e'; rw [show k + 1 + i = k + (i + 1) by omega]; exact this
theorem Shp.ne {m n : Nat} {T : Tbl} (h : Shp m n T) : T ≠ [] := fun e => by have := h.len; rw [e] at this; simp at this
theorem Shp.last {m n : Nat} {T : Tbl} (h : Shp m n T) : T.getLastD [] ∈ T := by
  rw [List.getLastD_eq_getLast?, List.getLast?_eq_some_getLast h.ne]
  exact List.getLast_mem h.ne
theorem sIx_m1 {n d : Nat} : HT.sIx n d (some (-1)) = n - 1 := by
  show (if (-1 : Int) < 0 then ((-1 : Int) + (n : Int)).toNat else min (-1 : Int).toNat n) = n - 1
  rw [if_pos (by decide)]
  omega
theorem cut_dl {α : Type} {xs : List α} : cutA xs none (some (-1)) = xs.dropLast := by
  unfold cutA
  rw [HT.sIx_none, List.drop_zero, Nat.sub_zero, List.dropLast_eq_take]
  rw [sIx_m1]
theorem cut_hm {α : Type} {xs : List α} {h : Nat} : cutA xs (some (h : Int)) (some (-1)) = (xs.drop h).dropLast := by
  unfold cutA
  rw [HT.sIx_nat, List.dropLast_eq_take, List.length_drop]
  rw [sIx_m1]
  by_cases hh : h ≤ xs.length
  · rw [Nat.min_eq_left hh]
    congr 1
    omega
  · rw [Nat.min_eq_right (by omega), List.drop_length, List.drop_of_length_le (by omega), List.take_nil, List.take_nil]
theorem pu_entering (ds Q) (hl : ds.length = 1) (h : wf_entering ds Q) : ws_entering (edP Q) (enP N_entering ds) := by
  obtain ⟨m, n, T, rfl, hT, q⟩ := h
  unfold ws_entering
  (try dsimp only); rw [wSeq_eq]; simp -failIfUnchanged only [N_entering, wCallW, wForFv, forFvW, wMkX, wDic1, wMtX, wForPr, forPrW, wPNil, wPCons, wVar, wC, wOp, wUn, wCl, wB, wTr, wAnd, wOr, wNot, wAndV, wOrV, wNotV, wIf, wCh, wNil, wCons, wTup, wLe, wSz, wFn, wFnJ, wFnB, wFnJB, wBNil, wBCons, wBOwn, rsvP, rsvJ, wNext, wRet, wRetN, wDrop, wIfS, wSet, wSetOwn, wNever, wAug, wOpO, wIxO, wOpR, wClO, wApp, wSetIt, wFrz, wFor, wRg1, wRg2, wSq, wEnum, wZip, wZipM, wZipS, wZipU, wgN, wgT, wgNil, wgCons, wYes, wAsgT, wgLs, wLenS, wIxS, wFnS, wFnJL, wFnX, wRaise, wRaiseF, wForFn, forFnW, wMet, hide, wIsi, wListOf, wRev, edP, edJ, enP, enJ, enS, NotOwn, Flat, List.map_cons, List.map_nil, List.length_cons, List.length_nil, List.replicate_succ, List.replicate_zero, List.cons_append, List.nil_append, List.append_nil, List.set_cons_zero, List.set_cons_succ, List.getElem?_cons_zero, List.getElem?_cons_succ, Nat.reduceAdd, Nat.reduceSub, Option.some.injEq, Sl.imm.injEq, Sl.own.injEq, Sl.scr.injEq, exists_eq_left, exists_eq_left', exists_eq_right, exists_eq, exists_eq', exists_and_left, and_assoc, and_true, true_and, ne_eq, not_false_eq_true, Nat.succ_ne_zero, or_true, true_or, true_implies, forall_eq', forall_eq, PyData.int.injEq, PyData.bool.injEq, PyData.list.injEq, PyData.tuple.injEq, List.cons.injEq, i_add, i_iadd, i_sub, i_mul, i_mod, i_fdiv, i_fdivG, i_pow, i_neg, i_le, i_ge, i_gt, i_lt, i_eq, i_ne, i_intI, i_intB, i_abs, i_max, i_min, i_lenL, i_lenT, i_ixL, i_ixT, i_tupL, i_tupT, i_truB, Bool.not_true, Bool.not_false, Bool.false_eq_true, if_true, if_false, reduceIte]
  simp -failIfUnchanged only [wSl, wPart, wNoP, llI, wCallW, wForFv, forFvW, wMkX, wDic1, wMtX, wForPr, forPrW, wPNil, wPCons, wVar, wC, wOp, wUn, wCl, wB, wTr, wAnd, wOr, wNot, wAndV, wOrV, wNotV, wIf, wCh, wNil, wCons, wTup, wLe, wSz, wFn, wFnJ, wFnB, wFnJB, wBNil, wBCons, wBOwn, rsvP, rsvJ, wNext, wRet, wRetN, wDrop, wIfS, wSet, wSetOwn, wNever, wAug, wOpO, wIxO, wOpR, wClO, wApp, wSetIt, wFrz, wFor, wRg1, wRg2, wSq, wEnum, wZip, wZipM, wZipS, wZipU, wgN, wgT, wgNil, wgCons, wYes, wAsgT, wgLs, wLenS, wIxS, wFnS, wFnJL, wFnX, wRaise, wRaiseF, wForFn, forFnW, wMet, hide, wIsi, wListOf, wRev, edP, edJ, enP, enJ, enS, NotOwn, Flat, List.map_cons, List.map_nil, List.length_cons, List.length_nil, List.replicate_succ, List.replicate_zero, List.cons_append, List.nil_append, List.append_nil, List.set_cons_zero, List.set_cons_succ, List.getElem?_cons_zero, List.getElem?_cons_succ, Nat.reduceAdd, Nat.reduceSub, Option.some.injEq, Sl.imm.injEq, Sl.own.injEq, Sl.scr.injEq, exists_eq_left, exists_eq_left', exists_eq_right, exists_eq, exists_eq', exists_and_left, and_assoc, and_true, true_and, ne_eq, not_false_eq_true, Nat.succ_ne_zero, or_true, true_or, true_implies, forall_eq', forall_eq, PyData.int.injEq, PyData.bool.injEq, PyData.list.injEq, PyData.tuple.injEq, List.cons.injEq, i_add, i_iadd, i_sub, i_mul, i_mod, i_fdiv, i_fdivG, i_pow, i_neg, i_le, i_ge, i_gt, i_lt, i_eq, i_ne, i_intI, i_intB, i_abs, i_max, i_min, i_lenL, i_lenT, i_ixL, i_ixT, i_tupL, i_tupT, i_truB, Bool.not_true, Bool.not_false, Bool.false_eq_true, if_true, if_false, reduceIte]
  refine ⟨_, ixLm hT.ne, Or.inl ⟨_, rfl, _, Or.inl rfl, ?_⟩⟩
  rw [cut_dl, ← List.map_dropLast]
  refine ent_loop (T.getLastD []).dropLast 0 .un .un ?_
  show match entF T with
    | some i => _
    | none => _
  cases e : entF T with
  | none =>
    rw [e] at q
    intro s1 s2
    simp -failIfUnchanged only [wCallW, wForFv, forFvW, wMkX, wDic1, wMtX, wForPr, forPrW, wPNil, wPCons, wVar, wC, wOp, wUn, wCl, wB, wTr, wAnd, wOr, wNot, wAndV, wOrV, wNotV, wIf, wCh, wNil, wCons, wTup, wLe, wSz, wFn, wFnJ, wFnB, wFnJB, wBNil, wBCons, wBOwn, rsvP, rsvJ, wNext, wRet, wRetN, wDrop, wIfS, wSet, wSetOwn, wNever, wAug, wOpO, wIxO, wOpR, wClO, wApp, wSetIt, wFrz, wFor, wRg1, wRg2, wSq, wEnum, wZip, wZipM, wZipS, wZipU, wgN, wgT, wgNil, wgCons, wYes, wAsgT, wgLs, wLenS, wIxS, wFnS, wFnJL, wFnX, wRaise, wRaiseF, wForFn, forFnW, wMet, hide, wIsi, wListOf, wRev, edP, edJ, enP, enJ, enS, NotOwn, Flat, List.map_cons, List.map_nil, List.length_cons, List.length_nil, List.replicate_succ, List.replicate_zero, List.cons_append, List.nil_append, List.append_nil, List.set_cons_zero, List.set_cons_succ, List.getElem?_cons_zero, List.getElem?_cons_succ, Nat.reduceAdd, Nat.reduceSub, Option.some.injEq, Sl.imm.injEq, Sl.own.injEq, Sl.scr.injEq, exists_eq_left, exists_eq_left', exists_eq_right, exists_eq, exists_eq', exists_and_left, and_assoc, and_true, true_and, ne_eq, not_false_eq_true, Nat.succ_ne_zero, or_true, true_or, true_implies, forall_eq', forall_eq, PyData.int.injEq, PyData.bool.injEq, PyData.list.injEq, PyData.tuple.injEq, List.cons.injEq, i_add, i_iadd, i_sub, i_mul, i_mod, i_fdiv, i_fdivG, i_pow, i_neg, i_le, i_ge, i_gt, i_lt, i_eq, i_ne, i_intI, i_intB, i_abs, i_max, i_min, i_lenL, i_lenT, i_ixL, i_ixT, i_tupL, i_tupT, i_truB, Bool.not_true, Bool.not_false, Bool.false_eq_true, if_true, if_false, reduceIte]
    exact q
  | some i =>
    rw [e] at q
    intro en
    rw [Nat.zero_add]
    exact q
theorem Shp.row {m n : Nat} {T : Tbl} (h : Shp m n T) {i : Nat} (hi : i ≤ m) : T.getD i [] ∈ T := getD_mem (by rw [h.len]; omega)
theorem Shp.rne {m n : Nat} {T : Tbl} (h : Shp m n T) {r : List Int} (hr : r ∈ T) : r ≠ [] := fun e => by have h1 := h.rows r hr; have h2 := h.n1; rw [e, List.length_nil] at h1; omega
theorem lt9_64 {x : Int} (h : Lt9 x) : -(2 ^ 64) < x ∧ x < 2 ^ 64 := ⟨by have := h.1; omega, by have := h.2; omega⟩
theorem Shp.at_ {m n : Nat} {T : Tbl} (h : Shp m n T) {r : List Int} (hr : r ∈ T) {c : Nat} (hc : c < n) : Lt9 (r.getD c 0) := h.sml r hr _ (getD_mem (by rw [h.rows r hr]; exact hc))
theorem Shp.lst {m n : Nat} {T : Tbl} (h : Shp m n T) {r : List Int} (hr : r ∈ T) : Lt9 (lastI r) := by
  unfold lastI
  rw [List.getLastD_eq_getLast?, List.getLast?_eq_some_getLast (h.rne hr)]
  exact h.sml r hr _ (List.getLast_mem (h.rne hr))
theorem pu_is_sooner (ds Q) (hl : ds.length = 5) (h : wf_is_sooner ds Q) : ws_is_sooner (edP Q) (enP N_is_sooner ds) := by
  obtain ⟨m, n, T, hd, c, r, b, rfl, hT, hm, hc, hr, hb, q⟩ := h
  have Rr := hT.row (i := r) (by omega)
  have Rb := hT.row (i := b) (by omega)
  unfold ws_is_sooner
  (try dsimp only); rw [wSeq_eq]; simp -failIfUnchanged only [N_is_sooner, llI, lstI, wCallW, wForFv, forFvW, wMkX, wDic1, wMtX, wForPr, forPrW, wPNil, wPCons, wVar, wC, wOp, wUn, wCl, wB, wTr, wAnd, wOr, wNot, wAndV, wOrV, wNotV, wIf, wCh, wNil, wCons, wTup, wLe, wSz, wFn, wFnJ, wFnB, wFnJB, wBNil, wBCons, wBOwn, rsvP, rsvJ, wNext, wRet, wRetN, wDrop, wIfS, wSet, wSetOwn, wNever, wAug, wOpO, wIxO, wOpR, wClO, wApp, wSetIt, wFrz, wFor, wRg1, wRg2, wSq, wEnum, wZip, wZipM, wZipS, wZipU, wgN, wgT, wgNil, wgCons, wYes, wAsgT, wgLs, wLenS, wIxS, wFnS, wFnJL, wFnX, wRaise, wRaiseF, wForFn, forFnW, wMet, hide, wIsi, wListOf, wRev, edP, edJ, enP, enJ, enS, NotOwn, Flat, List.map_cons, List.map_nil, List.length_cons, List.length_nil, List.replicate_succ, List.replicate_zero, List.cons_append, List.nil_append, List.append_nil, List.set_cons_zero, List.set_cons_succ, List.getElem?_cons_zero, List.getElem?_cons_succ, Nat.reduceAdd, Nat.reduceSub, Option.some.injEq, Sl.imm.injEq, Sl.own.injEq, Sl.scr.injEq, exists_eq_left, exists_eq_left', exists_eq_right, exists_eq, exists_eq', exists_and_left, and_assoc, and_true, true_and, ne_eq, not_false_eq_true, Nat.succ_ne_zero, or_true, true_or, true_implies, forall_eq', forall_eq, PyData.int.injEq, PyData.bool.injEq, PyData.list.injEq, PyData.tuple.injEq, List.cons.injEq, i_add, i_iadd, i_sub, i_mul, i_mod, i_fdiv, i_fdivG, i_pow, i_neg, i_le, i_ge, i_gt, i_lt, i_eq, i_ne, i_intI, i_intB, i_abs, i_max, i_min, i_lenL, i_lenT, i_ixL, i_ixT, i_tupL, i_tupT, i_truB, Bool.not_true, Bool.not_false, Bool.false_eq_true, if_true, if_false, reduceIte]
  refine ⟨_, ixL (by rw [hT.len]; omega), ?_⟩
  simp -failIfUnchanged only [lstI, wCallW, wForFv, forFvW, wMkX, wDic1, wMtX, wForPr, forPrW, wPNil, wPCons, wVar, wC, wOp, wUn, wCl, wB, wTr, wAnd, wOr, wNot, wAndV, wOrV, wNotV, wIf, wCh, wNil, wCons, wTup, wLe, wSz, wFn, wFnJ, wFnB, wFnJB, wBNil, wBCons, wBOwn, rsvP, rsvJ, wNext, wRet, wRetN, wDrop, wIfS, wSet, wSetOwn, wNever, wAug, wOpO, wIxO, wOpR, wClO, wApp, wSetIt, wFrz, wFor, wRg1, wRg2, wSq, wEnum, wZip, wZipM, wZipS, wZipU, wgN, wgT, wgNil, wgCons, wYes, wAsgT, wgLs, wLenS, wIxS, wFnS, wFnJL, wFnX, wRaise, wRaiseF, wForFn, forFnW, wMet, hide, wIsi, wListOf, wRev, edP, edJ, enP, enJ, enS, NotOwn, Flat, List.map_cons, List.map_nil, List.length_cons, List.length_nil, List.replicate_succ, List.replicate_zero, List.cons_append, List.nil_append, List.append_nil, List.set_cons_zero, List.set_cons_succ, List.getElem?_cons_zero, List.getElem?_cons_succ, Nat.reduceAdd, Nat.reduceSub, Option.some.injEq, Sl.imm.injEq, Sl.own.injEq, Sl.scr.injEq, exists_eq_left, exists_eq_left', exists_eq_right, exists_eq, exists_eq', exists_and_left, and_assoc, and_true, true_and, ne_eq, not_false_eq_true, Nat.succ_ne_zero, or_true, true_or, true_implies, forall_eq', forall_eq, PyData.int.injEq, PyData.bool.injEq, PyData.list.injEq, PyData.tuple.injEq, List.cons.injEq, i_add, i_iadd, i_sub, i_mul, i_mod, i_fdiv, i_fdivG, i_pow, i_neg, i_le, i_ge, i_gt, i_lt, i_eq, i_ne, i_intI, i_intB, i_abs, i_max, i_min, i_lenL, i_lenT, i_ixL, i_ixT, i_tupL, i_tupT, i_truB, Bool.not_true, Bool.not_false, Bool.false_eq_true, if_true, if_false, reduceIte]
  refine ⟨_, ixIm (hT.rne Rr), _, ixL (by rw [hT.len]; omega), ?_⟩
  simp -failIfUnchanged only [lstI, wCallW, wForFv, forFvW, wMkX, wDic1, wMtX, wForPr, forPrW, wPNil, wPCons, wVar, wC, wOp, wUn, wCl, wB, wTr, wAnd, wOr, wNot, wAndV, wOrV, wNotV, wIf, wCh, wNil, wCons, wTup, wLe, wSz, wFn, wFnJ, wFnB, wFnJB, wBNil, wBCons, wBOwn, rsvP, rsvJ, wNext, wRet, wRetN, wDrop, wIfS, wSet, wSetOwn, wNever, wAug, wOpO, wIxO, wOpR, wClO, wApp, wSetIt, wFrz, wFor, wRg1, wRg2, wSq, wEnum, wZip, wZipM, wZipS, wZipU, wgN, wgT, wgNil, wgCons, wYes, wAsgT, wgLs, wLenS, wIxS, wFnS, wFnJL, wFnX, wRaise, wRaiseF, wForFn, forFnW, wMet, hide, wIsi, wListOf, wRev, edP, edJ, enP, enJ, enS, NotOwn, Flat, List.map_cons, List.map_nil, List.length_cons, List.length_nil, List.replicate_succ, List.replicate_zero, List.cons_append, List.nil_append, List.append_nil, List.set_cons_zero, List.set_cons_succ, List.getElem?_cons_zero, List.getElem?_cons_succ, Nat.reduceAdd, Nat.reduceSub, Option.some.injEq, Sl.imm.injEq, Sl.own.injEq, Sl.scr.injEq, exists_eq_left, exists_eq_left', exists_eq_right, exists_eq, exists_eq', exists_and_left, and_assoc, and_true, true_and, ne_eq, not_false_eq_true, Nat.succ_ne_zero, or_true, true_or, true_implies, forall_eq', forall_eq, PyData.int.injEq, PyData.bool.injEq, PyData.list.injEq, PyData.tuple.injEq, List.cons.injEq, i_add, i_iadd, i_sub, i_mul, i_mod, i_fdiv, i_fdivG, i_pow, i_neg, i_le, i_ge, i_gt, i_lt, i_eq, i_ne, i_intI, i_intB, i_abs, i_max, i_min, i_lenL, i_lenT, i_ixL, i_ixT, i_tupL, i_tupT, i_truB, Bool.not_true, Bool.not_false, Bool.false_eq_true, if_true, if_false, reduceIte]
  refine ⟨_, ixI (by rw [hT.rows _ Rb]; exact hc), ?_⟩
  simp -failIfUnchanged only [wCallW, wForFv, forFvW, wMkX, wDic1, wMtX, wForPr, forPrW, wPNil, wPCons, wVar, wC, wOp, wUn, wCl, wB, wTr, wAnd, wOr, wNot, wAndV, wOrV, wNotV, wIf, wCh, wNil, wCons, wTup, wLe, wSz, wFn, wFnJ, wFnB, wFnJB, wBNil, wBCons, wBOwn, rsvP, rsvJ, wNext, wRet, wRetN, wDrop, wIfS, wSet, wSetOwn, wNever, wAug, wOpO, wIxO, wOpR, wClO, wApp, wSetIt, wFrz, wFor, wRg1, wRg2, wSq, wEnum, wZip, wZipM, wZipS, wZipU, wgN, wgT, wgNil, wgCons, wYes, wAsgT, wgLs, wLenS, wIxS, wFnS, wFnJL, wFnX, wRaise, wRaiseF, wForFn, forFnW, wMet, hide, wIsi, wListOf, wRev, edP, edJ, enP, enJ, enS, NotOwn, Flat, List.map_cons, List.map_nil, List.length_cons, List.length_nil, List.replicate_succ, List.replicate_zero, List.cons_append, List.nil_append, List.append_nil, List.set_cons_zero, List.set_cons_succ, List.getElem?_cons_zero, List.getElem?_cons_succ, Nat.reduceAdd, Nat.reduceSub, Option.some.injEq, Sl.imm.injEq, Sl.own.injEq, Sl.scr.injEq, exists_eq_left, exists_eq_left', exists_eq_right, exists_eq, exists_eq', exists_and_left, and_assoc, and_true, true_and, ne_eq, not_false_eq_true, Nat.succ_ne_zero, or_true, true_or, true_implies, forall_eq', forall_eq, PyData.int.injEq, PyData.bool.injEq, PyData.list.injEq, PyData.tuple.injEq, List.cons.injEq, i_add, i_iadd, i_sub, i_mul, i_mod, i_fdiv, i_fdivG, i_pow, i_neg, i_le, i_ge, i_gt, i_lt, i_eq, i_ne, i_intI, i_intB, i_abs, i_max, i_min, i_lenL, i_lenT, i_ixL, i_ixT, i_tupL, i_tupT, i_truB, Bool.not_true, Bool.not_false, Bool.false_eq_true, if_true, if_false, reduceIte]
  refine ⟨small_l (lt9_64 (hT.lst Rr)).1 (lt9_64 (hT.lst Rr)).2, ?_⟩
  (try dsimp only); rw [wSeq_eq]; simp -failIfUnchanged only [wCallW, wForFv, forFvW, wMkX, wDic1, wMtX, wForPr, forPrW, wPNil, wPCons, wVar, wC, wOp, wUn, wCl, wB, wTr, wAnd, wOr, wNot, wAndV, wOrV, wNotV, wIf, wCh, wNil, wCons, wTup, wLe, wSz, wFn, wFnJ, wFnB, wFnJB, wBNil, wBCons, wBOwn, rsvP, rsvJ, wNext, wRet, wRetN, wDrop, wIfS, wSet, wSetOwn, wNever, wAug, wOpO, wIxO, wOpR, wClO, wApp, wSetIt, wFrz, wFor, wRg1, wRg2, wSq, wEnum, wZip, wZipM, wZipS, wZipU, wgN, wgT, wgNil, wgCons, wYes, wAsgT, wgLs, wLenS, wIxS, wFnS, wFnJL, wFnX, wRaise, wRaiseF, wForFn, forFnW, wMet, hide, wIsi, wListOf, wRev, edP, edJ, enP, enJ, enS, NotOwn, Flat, List.map_cons, List.map_nil, List.length_cons, List.length_nil, List.replicate_succ, List.replicate_zero, List.cons_append, List.nil_append, List.append_nil, List.set_cons_zero, List.set_cons_succ, List.getElem?_cons_zero, List.getElem?_cons_succ, Nat.reduceAdd, Nat.reduceSub, Option.some.injEq, Sl.imm.injEq, Sl.own.injEq, Sl.scr.injEq, exists_eq_left, exists_eq_left', exists_eq_right, exists_eq, exists_eq', exists_and_left, and_assoc, and_true, true_and, ne_eq, not_false_eq_true, Nat.succ_ne_zero, or_true, true_or, true_implies, forall_eq', forall_eq, PyData.int.injEq, PyData.bool.injEq, PyData.list.injEq, PyData.tuple.injEq, List.cons.injEq, i_add, i_iadd, i_sub, i_mul, i_mod, i_fdiv, i_fdivG, i_pow, i_neg, i_le, i_ge, i_gt, i_lt, i_eq, i_ne, i_intI, i_intB, i_abs, i_max, i_min, i_lenL, i_lenT, i_ixL, i_ixT, i_tupL, i_tupT, i_truB, Bool.not_true, Bool.not_false, Bool.false_eq_true, if_true, if_false, reduceIte]
  refine ⟨_, ixL (by rw [hT.len]; omega), ?_⟩
  simp -failIfUnchanged only [lstI, wCallW, wForFv, forFvW, wMkX, wDic1, wMtX, wForPr, forPrW, wPNil, wPCons, wVar, wC, wOp, wUn, wCl, wB, wTr, wAnd, wOr, wNot, wAndV, wOrV, wNotV, wIf, wCh, wNil, wCons, wTup, wLe, wSz, wFn, wFnJ, wFnB, wFnJB, wBNil, wBCons, wBOwn, rsvP, rsvJ, wNext, wRet, wRetN, wDrop, wIfS, wSet, wSetOwn, wNever, wAug, wOpO, wIxO, wOpR, wClO, wApp, wSetIt, wFrz, wFor, wRg1, wRg2, wSq, wEnum, wZip, wZipM, wZipS, wZipU, wgN, wgT, wgNil, wgCons, wYes, wAsgT, wgLs, wLenS, wIxS, wFnS, wFnJL, wFnX, wRaise, wRaiseF, wForFn, forFnW, wMet, hide, wIsi, wListOf, wRev, edP, edJ, enP, enJ, enS, NotOwn, Flat, List.map_cons, List.map_nil, List.length_cons, List.length_nil, List.replicate_succ, List.replicate_zero, List.cons_append, List.nil_append, List.append_nil, List.set_cons_zero, List.set_cons_succ, List.getElem?_cons_zero, List.getElem?_cons_succ, Nat.reduceAdd, Nat.reduceSub, Option.some.injEq, Sl.imm.injEq, Sl.own.injEq, Sl.scr.injEq, exists_eq_left, exists_eq_left', exists_eq_right, exists_eq, exists_eq', exists_and_left, and_assoc, and_true, true_and, ne_eq, not_false_eq_true, Nat.succ_ne_zero, or_true, true_or, true_implies, forall_eq', forall_eq, PyData.int.injEq, PyData.bool.injEq, PyData.list.injEq, PyData.tuple.injEq, List.cons.injEq, i_add, i_iadd, i_sub, i_mul, i_mod, i_fdiv, i_fdivG, i_pow, i_neg, i_le, i_ge, i_gt, i_lt, i_eq, i_ne, i_intI, i_intB, i_abs, i_max, i_min, i_lenL, i_lenT, i_ixL, i_ixT, i_tupL, i_tupT, i_truB, Bool.not_true, Bool.not_false, Bool.false_eq_true, if_true, if_false, reduceIte]
  refine ⟨_, ixIm (hT.rne Rb), _, ixL (by rw [hT.len]; omega), ?_⟩
  simp -failIfUnchanged only [lstI, wCallW, wForFv, forFvW, wMkX, wDic1, wMtX, wForPr, forPrW, wPNil, wPCons, wVar, wC, wOp, wUn, wCl, wB, wTr, wAnd, wOr, wNot, wAndV, wOrV, wNotV, wIf, wCh, wNil, wCons, wTup, wLe, wSz, wFn, wFnJ, wFnB, wFnJB, wBNil, wBCons, wBOwn, rsvP, rsvJ, wNext, wRet, wRetN, wDrop, wIfS, wSet, wSetOwn, wNever, wAug, wOpO, wIxO, wOpR, wClO, wApp, wSetIt, wFrz, wFor, wRg1, wRg2, wSq, wEnum, wZip, wZipM, wZipS, wZipU, wgN, wgT, wgNil, wgCons, wYes, wAsgT, wgLs, wLenS, wIxS, wFnS, wFnJL, wFnX, wRaise, wRaiseF, wForFn, forFnW, wMet, hide, wIsi, wListOf, wRev, edP, edJ, enP, enJ, enS, NotOwn, Flat, List.map_cons, List.map_nil, List.length_cons, List.length_nil, List.replicate_succ, List.replicate_zero, List.cons_append, List.nil_append, List.append_nil, List.set_cons_zero, List.set_cons_succ, List.getElem?_cons_zero, List.getElem?_cons_succ, Nat.reduceAdd, Nat.reduceSub, Option.some.injEq, Sl.imm.injEq, Sl.own.injEq, Sl.scr.injEq, exists_eq_left, exists_eq_left', exists_eq_right, exists_eq, exists_eq', exists_and_left, and_assoc, and_true, true_and, ne_eq, not_false_eq_true, Nat.succ_ne_zero, or_true, true_or, true_implies, forall_eq', forall_eq, PyData.int.injEq, PyData.bool.injEq, PyData.list.injEq, PyData.tuple.injEq, List.cons.injEq, i_add, i_iadd, i_sub, i_mul, i_mod, i_fdiv, i_fdivG, i_pow, i_neg, i_le, i_ge, i_gt, i_lt, i_eq, i_ne, i_intI, i_intB, i_abs, i_max, i_min, i_lenL, i_lenT, i_ixL, i_ixT, i_tupL, i_tupT, i_truB, Bool.not_true, Bool.not_false, Bool.false_eq_true, if_true, if_false, reduceIte]
  refine ⟨_, ixI (by rw [hT.rows _ Rr]; exact hc), ?_⟩
  simp -failIfUnchanged only [wCallW, wForFv, forFvW, wMkX, wDic1, wMtX, wForPr, forPrW, wPNil, wPCons, wVar, wC, wOp, wUn, wCl, wB, wTr, wAnd, wOr, wNot, wAndV, wOrV, wNotV, wIf, wCh, wNil, wCons, wTup, wLe, wSz, wFn, wFnJ, wFnB, wFnJB, wBNil, wBCons, wBOwn, rsvP, rsvJ, wNext, wRet, wRetN, wDrop, wIfS, wSet, wSetOwn, wNever, wAug, wOpO, wIxO, wOpR, wClO, wApp, wSetIt, wFrz, wFor, wRg1, wRg2, wSq, wEnum, wZip, wZipM, wZipS, wZipU, wgN, wgT, wgNil, wgCons, wYes, wAsgT, wgLs, wLenS, wIxS, wFnS, wFnJL, wFnX, wRaise, wRaiseF, wForFn, forFnW, wMet, hide, wIsi, wListOf, wRev, edP, edJ, enP, enJ, enS, NotOwn, Flat, List.map_cons, List.map_nil, List.length_cons, List.length_nil, List.replicate_succ, List.replicate_zero, List.cons_append, List.nil_append, List.append_nil, List.set_cons_zero, List.set_cons_succ, List.getElem?_cons_zero, List.getElem?_cons_succ, Nat.reduceAdd, Nat.reduceSub, Option.some.injEq, Sl.imm.injEq, Sl.own.injEq, Sl.scr.injEq, exists_eq_left, exists_eq_left', exists_eq_right, exists_eq, exists_eq', exists_and_left, and_assoc, and_true, true_and, ne_eq, not_false_eq_true, Nat.succ_ne_zero, or_true, true_or, true_implies, forall_eq', forall_eq, PyData.int.injEq, PyData.bool.injEq, PyData.list.injEq, PyData.tuple.injEq, List.cons.injEq, i_add, i_iadd, i_sub, i_mul, i_mod, i_fdiv, i_fdivG, i_pow, i_neg, i_le, i_ge, i_gt, i_lt, i_eq, i_ne, i_intI, i_intB, i_abs, i_max, i_min, i_lenL, i_lenT, i_ixL, i_ixT, i_tupL, i_tupT, i_truB, Bool.not_true, Bool.not_false, Bool.false_eq_true, if_true, if_false, reduceIte]
  refine ⟨small_l (lt9_64 (hT.lst Rb)).1 (lt9_64 (hT.lst Rb)).2, ?_⟩
  unfold sooner at q
  revert q
  generalize lastI (T.getD r []) * (T.getD b []).getD c 0 = x
  generalize lastI (T.getD b []) * (T.getD r []).getD c 0 = y
  intro q
  by_cases h1 : x < y
  · rw [if_pos (by simpa using h1)]
    rw [decide_eq_true h1] at q
    exact q
  · rw [if_neg (by simpa using h1)]
    rw [decide_eq_false h1] at q
    by_cases h2 : x = y
    · rw [if_pos (by simpa using h2)]
      rw [decide_eq_true h2] at q
      exact ⟨_, ixI (by omega), _, ixI (by omega), _, i_lt.mpr rfl, q⟩
    · rw [if_neg (by simpa using h2)]
      rw [decide_eq_false h2] at q
      exact q
theorem lvS_no {T : Tbl} {hd : List Int} {c : Nat} {b : Option Nat} {r : Nat} (h : ¬ 0 < (T.getD r []).getD c 0) : lvS T hd c b r = b := by
  unfold lvS
  rw [decide_eq_false h, Bool.false_and, if_neg Bool.false_ne_true]
theorem lvS_none {T : Tbl} {hd : List Int} {c r : Nat} (h : 0 < (T.getD r []).getD c 0) : lvS T hd c none r = some r := by
  unfold lvS
  rw [decide_eq_true h]; rfl
theorem lvS_some {T : Tbl} {hd : List Int} {c r b : Nat} (h : 0 < (T.getD r []).getD c 0) : lvS T hd c (some b) r = if sooner T hd c r b = true then some r else some b := by
  unfold lvS
  rw [decide_eq_true h, Bool.true_and]
theorem lvS_lt {T : Tbl} {hd : List Int} {c : Nat} {b : Option Nat} {r m : Nat} (hr : r < m) (hb : ∀ i, b = some i → i < m) : ∀ i, lvS T hd c b r = some i → i < m := by
  intro i e
  by_cases h : 0 < (T.getD r []).getD c 0
  · cases b with
    | none => rw [lvS_none h] at e; cases e; exact hr
    | some b =>
      rw [lvS_some h] at e
      by_cases hs : sooner T hd c r b = true
      · rw [if_pos hs] at e; cases e; exact hr
      · rw [if_neg hs] at e; cases e; exact hb _ rfl
  · rw [lvS_no h] at e; exact hb i e
theorem lv_loop {m n : Nat} {T : Tbl} {hd : List Int} {c : Nat} {R : Ed} (hT : Shp m n T) (hm : hd.length = m) (hc : c < n) : ∀ (k j : Nat) (b : Option Nat) (s4 : Sl), j + k = m → (∀ i, b = some i → i < m) →
    (∀ s4, R.nx [.imm (llI T), .imm (lstI hd), .imm (.int c), .imm (optN ((List.range' j k).foldl (lvS T hd c) b)), s4]) →
    forW (wgN 4) (wIfS (wAnd (wB (wOp dGt (wOp dIx (wOp dIx (wVar 0) (wVar 4)) (wVar 2)) (wC (.int 0)))) (wOr (wB (wOp dIsN (wVar 3) (wC .none))) (wTr (wFn 5 wf_is_sooner (wCons (wVar 0) (wCons (wVar 1) (wCons (wVar 2) (wCons (wVar 4) (wCons (wVar 3) wNil))))))))) (wSet 3 (wVar 4)) wNext) R ((List.range' j k).map fun (i : Nat) => .int (i : Int)) [.imm (llI T), .imm (lstI hd), .imm (.int c), .imm (optN b), s4]
  | 0, j, b, s4, _, _, q => q s4
  | k + 1, j, b, s4, e, hb, q => by
    have hj : j < m := by omega
    rw [List.range'_succ] at q ⊢
    rw [List.foldl_cons] at q
    rw [List.map_cons]
    have rec_ := fun s4 => lv_loop (R := R) hT hm hc k (j + 1) (lvS T hd c b j) s4 (by omega) (lvS_lt hj hb) q
    unfold forW
    generalize forW (wgN 4) _ R ((List.range' (j + 1) k).map fun (i : Nat) => .int (i : Int)) = N at rec_ ⊢
    simp -failIfUnchanged only [llI, wCallW, wForFv, forFvW, wMkX, wDic1, wMtX, wForPr, forPrW, wPNil, wPCons, wVar, wC, wOp, wUn, wCl, wB, wTr, wAnd, wOr, wNot, wAndV, wOrV, wNotV, wIf, wCh, wNil, wCons, wTup, wLe, wSz, wFn, wFnJ, wFnB, wFnJB, wBNil, wBCons, wBOwn, rsvP, rsvJ, wNext, wRet, wRetN, wDrop, wIfS, wSet, wSetOwn, wNever, wAug, wOpO, wIxO, wOpR, wClO, wApp, wSetIt, wFrz, wFor, wRg1, wRg2, wSq, wEnum, wZip, wZipM, wZipS, wZipU, wgN, wgT, wgNil, wgCons, wYes, wAsgT, wgLs, wLenS, wIxS, wFnS, wFnJL, wFnX, wRaise, wRaiseF, wForFn, forFnW, wMet, hide, wIsi, wListOf, wRev, edP, edJ, enP, enJ, enS, NotOwn, Flat, List.map_cons, List.map_nil, List.length_cons, List.length_nil, List.replicate_succ, List.replicate_zero, List.cons_append, List.nil_append, List.append_nil, List.set_cons_zero, List.set_cons_succ, List.getElem?_cons_zero, List.getElem?_cons_succ, Nat.reduceAdd, Nat.reduceSub, Option.some.injEq, Sl.imm.injEq, Sl.own.injEq, Sl.scr.injEq, exists_eq_left, exists_eq_left', exists_eq_right, exists_eq, exists_eq', exists_and_left, and_assoc, and_true, true_and, ne_eq, not_false_eq_true, Nat.succ_ne_zero, or_true, true_or, true_implies, forall_eq', forall_eq, PyData.int.injEq, PyData.bool.injEq, PyData.list.injEq, PyData.tuple.injEq, List.cons.injEq, i_add, i_iadd, i_sub, i_mul, i_mod, i_fdiv, i_fdivG, i_pow, i_neg, i_le, i_ge, i_gt, i_lt, i_eq, i_ne, i_intI, i_intB, i_abs, i_max, i_min, i_lenL, i_lenT, i_ixL, i_ixT, i_tupL, i_tupT, i_truB, Bool.not_true, Bool.not_false, Bool.false_eq_true, if_true, if_false, reduceIte]
    refine ⟨_, ixL (by rw [hT.len]; omega), ?_⟩
    simp -failIfUnchanged only [lstI, wCallW, wForFv, forFvW, wMkX, wDic1, wMtX, wForPr, forPrW, wPNil, wPCons, wVar, wC, wOp, wUn, wCl, wB, wTr, wAnd, wOr, wNot, wAndV, wOrV, wNotV, wIf, wCh, wNil, wCons, wTup, wLe, wSz, wFn, wFnJ, wFnB, wFnJB, wBNil, wBCons, wBOwn, rsvP, rsvJ, wNext, wRet, wRetN, wDrop, wIfS, wSet, wSetOwn, wNever, wAug, wOpO, wIxO, wOpR, wClO, wApp, wSetIt, wFrz, wFor, wRg1, wRg2, wSq, wEnum, wZip, wZipM, wZipS, wZipU, wgN, wgT, wgNil, wgCons, wYes, wAsgT, wgLs, wLenS, wIxS, wFnS, wFnJL, wFnX, wRaise, wRaiseF, wForFn, forFnW, wMet, hide, wIsi, wListOf, wRev, edP, edJ, enP, enJ, enS, NotOwn, Flat, List.map_cons, List.map_nil, List.length_cons, List.length_nil, List.replicate_succ, List.replicate_zero, List.cons_append, List.nil_append, List.append_nil, List.set_cons_zero, List.set_cons_succ, List.getElem?_cons_zero, List.getElem?_cons_succ, Nat.reduceAdd, Nat.reduceSub, Option.some.injEq, Sl.imm.injEq, Sl.own.injEq, Sl.scr.injEq, exists_eq_left, exists_eq_left', exists_eq_right, exists_eq, exists_eq', exists_and_left, and_assoc, and_true, true_and, ne_eq, not_false_eq_true, Nat.succ_ne_zero, or_true, true_or, true_implies, forall_eq', forall_eq, PyData.int.injEq, PyData.bool.injEq, PyData.list.injEq, PyData.tuple.injEq, List.cons.injEq, i_add, i_iadd, i_sub, i_mul, i_mod, i_fdiv, i_fdivG, i_pow, i_neg, i_le, i_ge, i_gt, i_lt, i_eq, i_ne, i_intI, i_intB, i_abs, i_max, i_min, i_lenL, i_lenT, i_ixL, i_ixT, i_tupL, i_tupT, i_truB, Bool.not_true, Bool.not_false, Bool.false_eq_true, if_true, if_false, reduceIte]
    have Rj := hT.row (i := j) (by omega)
    refine ⟨_, ixI (by rw [hT.rows _ Rj]; exact hc), ?_⟩
    simp -failIfUnchanged only [wCallW, wForFv, forFvW, wMkX, wDic1, wMtX, wForPr, forPrW, wPNil, wPCons, wVar, wC, wOp, wUn, wCl, wB, wTr, wAnd, wOr, wNot, wAndV, wOrV, wNotV, wIf, wCh, wNil, wCons, wTup, wLe, wSz, wFn, wFnJ, wFnB, wFnJB, wBNil, wBCons, wBOwn, rsvP, rsvJ, wNext, wRet, wRetN, wDrop, wIfS, wSet, wSetOwn, wNever, wAug, wOpO, wIxO, wOpR, wClO, wApp, wSetIt, wFrz, wFor, wRg1, wRg2, wSq, wEnum, wZip, wZipM, wZipS, wZipU, wgN, wgT, wgNil, wgCons, wYes, wAsgT, wgLs, wLenS, wIxS, wFnS, wFnJL, wFnX, wRaise, wRaiseF, wForFn, forFnW, wMet, hide, wIsi, wListOf, wRev, edP, edJ, enP, enJ, enS, NotOwn, Flat, List.map_cons, List.map_nil, List.length_cons, List.length_nil, List.replicate_succ, List.replicate_zero, List.cons_append, List.nil_append, List.append_nil, List.set_cons_zero, List.set_cons_succ, List.getElem?_cons_zero, List.getElem?_cons_succ, Nat.reduceAdd, Nat.reduceSub, Option.some.injEq, Sl.imm.injEq, Sl.own.injEq, Sl.scr.injEq, exists_eq_left, exists_eq_left', exists_eq_right, exists_eq, exists_eq', exists_and_left, and_assoc, and_true, true_and, ne_eq, not_false_eq_true, Nat.succ_ne_zero, or_true, true_or, true_implies, forall_eq', forall_eq, PyData.int.injEq, PyData.bool.injEq, PyData.list.injEq, PyData.tuple.injEq, List.cons.injEq, i_add, i_iadd, i_sub, i_mul, i_mod, i_fdiv, i_fdivG, i_pow, i_neg, i_le, i_ge, i_gt, i_lt, i_eq, i_ne, i_intI, i_intB, i_abs, i_max, i_min, i_lenL, i_lenT, i_ixL, i_ixT, i_tupL, i_tupT, i_truB, Bool.not_true, Bool.not_false, Bool.false_eq_true, if_true, if_false, reduceIte]
    by_cases h : 0 < (T.getD j []).getD c 0
    · rw [if_pos (by simpa using h)]
      cases b with
      | none =>
        rw [lvS_none h] at rec_
        exact ⟨_, ⟨rfl, rfl⟩, true, rfl, rec_ _⟩
      | some b =>
        rw [lvS_some h] at rec_
        refine ⟨_, ⟨rfl, rfl⟩, false, rfl, ?_⟩
        rw [if_neg Bool.false_ne_true]
        refine ⟨m, n, T, hd, c, j, b, rfl, hT, hm, hc, hj, hb b rfl, _, rfl, ?_⟩
        by_cases hs : sooner T hd c j b = true
        · rw [if_pos hs] at rec_ ⊢
          exact rec_ _
        · rw [if_neg hs] at rec_ ⊢
          exact rec_ _
    · rw [if_neg (by simpa using h)]
      rw [lvS_no h] at rec_
      exact rec_ _
theorem pu_leaving (ds Q) (hl : ds.length = 3) (h : wf_leaving ds Q) : ws_leaving (edP Q) (enP N_leaving ds) := by
  obtain ⟨m, n, T, hd, c, rfl, hT, hm, hc, q⟩ := h
  have m12 := hT.m1
  unfold ws_leaving
  (try dsimp only); rw [wSeq_eq]; simp -failIfUnchanged only [N_leaving, wCallW, wForFv, forFvW, wMkX, wDic1, wMtX, wForPr, forPrW, wPNil, wPCons, wVar, wC, wOp, wUn, wCl, wB, wTr, wAnd, wOr, wNot, wAndV, wOrV, wNotV, wIf, wCh, wNil, wCons, wTup, wLe, wSz, wFn, wFnJ, wFnB, wFnJB, wBNil, wBCons, wBOwn, rsvP, rsvJ, wNext, wRet, wRetN, wDrop, wIfS, wSet, wSetOwn, wNever, wAug, wOpO, wIxO, wOpR, wClO, wApp, wSetIt, wFrz, wFor, wRg1, wRg2, wSq, wEnum, wZip, wZipM, wZipS, wZipU, wgN, wgT, wgNil, wgCons, wYes, wAsgT, wgLs, wLenS, wIxS, wFnS, wFnJL, wFnX, wRaise, wRaiseF, wForFn, forFnW, wMet, hide, wIsi, wListOf, wRev, edP, edJ, enP, enJ, enS, NotOwn, Flat, List.map_cons, List.map_nil, List.length_cons, List.length_nil, List.replicate_succ, List.replicate_zero, List.cons_append, List.nil_append, List.append_nil, List.set_cons_zero, List.set_cons_succ, List.getElem?_cons_zero, List.getElem?_cons_succ, Nat.reduceAdd, Nat.reduceSub, Option.some.injEq, Sl.imm.injEq, Sl.own.injEq, Sl.scr.injEq, exists_eq_left, exists_eq_left', exists_eq_right, exists_eq, exists_eq', exists_and_left, and_assoc, and_true, true_and, ne_eq, not_false_eq_true, Nat.succ_ne_zero, or_true, true_or, true_implies, forall_eq', forall_eq, PyData.int.injEq, PyData.bool.injEq, PyData.list.injEq, PyData.tuple.injEq, List.cons.injEq, i_add, i_iadd, i_sub, i_mul, i_mod, i_fdiv, i_fdivG, i_pow, i_neg, i_le, i_ge, i_gt, i_lt, i_eq, i_ne, i_intI, i_intB, i_abs, i_max, i_min, i_lenL, i_lenT, i_ixL, i_ixT, i_tupL, i_tupT, i_truB, Bool.not_true, Bool.not_false, Bool.false_eq_true, if_true, if_false, reduceIte]
  (try dsimp only); rw [wSeq_eq]; simp -failIfUnchanged only [lstI, List.length_map, wCallW, wForFv, forFvW, wMkX, wDic1, wMtX, wForPr, forPrW, wPNil, wPCons, wVar, wC, wOp, wUn, wCl, wB, wTr, wAnd, wOr, wNot, wAndV, wOrV, wNotV, wIf, wCh, wNil, wCons, wTup, wLe, wSz, wFn, wFnJ, wFnB, wFnJB, wBNil, wBCons, wBOwn, rsvP, rsvJ, wNext, wRet, wRetN, wDrop, wIfS, wSet, wSetOwn, wNever, wAug, wOpO, wIxO, wOpR, wClO, wApp, wSetIt, wFrz, wFor, wRg1, wRg2, wSq, wEnum, wZip, wZipM, wZipS, wZipU, wgN, wgT, wgNil, wgCons, wYes, wAsgT, wgLs, wLenS, wIxS, wFnS, wFnJL, wFnX, wRaise, wRaiseF, wForFn, forFnW, wMet, hide, wIsi, wListOf, wRev, edP, edJ, enP, enJ, enS, NotOwn, Flat, List.map_cons, List.map_nil, List.length_cons, List.length_nil, List.replicate_succ, List.replicate_zero, List.cons_append, List.nil_append, List.append_nil, List.set_cons_zero, List.set_cons_succ, List.getElem?_cons_zero, List.getElem?_cons_succ, Nat.reduceAdd, Nat.reduceSub, Option.some.injEq, Sl.imm.injEq, Sl.own.injEq, Sl.scr.injEq, exists_eq_left, exists_eq_left', exists_eq_right, exists_eq, exists_eq', exists_and_left, and_assoc, and_true, true_and, ne_eq, not_false_eq_true, Nat.succ_ne_zero, or_true, true_or, true_implies, forall_eq', forall_eq, PyData.int.injEq, PyData.bool.injEq, PyData.list.injEq, PyData.tuple.injEq, List.cons.injEq, i_add, i_iadd, i_sub, i_mul, i_mod, i_fdiv, i_fdivG, i_pow, i_neg, i_le, i_ge, i_gt, i_lt, i_eq, i_ne, i_intI, i_intB, i_abs, i_max, i_min, i_lenL, i_lenT, i_ixL, i_ixT, i_tupL, i_tupT, i_truB, Bool.not_true, Bool.not_false, Bool.false_eq_true, if_true, if_false, reduceIte]
  repeat ((with_reducible refine And.intro ?_ ?_); (focus first | decide | exact pow_ok (by decide +kernel) | (simp; done)))
  refine ⟨by omega, ?_⟩
  rw [Int.toNat_natCast, rngD_nat]
  refine lv_loop hT hm hc hd.length 0 none .un (by omega) (fun i e => by cases e) fun s4 => ?_
  simp -failIfUnchanged only [wCallW, wForFv, forFvW, wMkX, wDic1, wMtX, wForPr, forPrW, wPNil, wPCons, wVar, wC, wOp, wUn, wCl, wB, wTr, wAnd, wOr, wNot, wAndV, wOrV, wNotV, wIf, wCh, wNil, wCons, wTup, wLe, wSz, wFn, wFnJ, wFnB, wFnJB, wBNil, wBCons, wBOwn, rsvP, rsvJ, wNext, wRet, wRetN, wDrop, wIfS, wSet, wSetOwn, wNever, wAug, wOpO, wIxO, wOpR, wClO, wApp, wSetIt, wFrz, wFor, wRg1, wRg2, wSq, wEnum, wZip, wZipM, wZipS, wZipU, wgN, wgT, wgNil, wgCons, wYes, wAsgT, wgLs, wLenS, wIxS, wFnS, wFnJL, wFnX, wRaise, wRaiseF, wForFn, forFnW, wMet, hide, wIsi, wListOf, wRev, edP, edJ, enP, enJ, enS, NotOwn, Flat, List.map_cons, List.map_nil, List.length_cons, List.length_nil, List.replicate_succ, List.replicate_zero, List.cons_append, List.nil_append, List.append_nil, List.set_cons_zero, List.set_cons_succ, List.getElem?_cons_zero, List.getElem?_cons_succ, Nat.reduceAdd, Nat.reduceSub, Option.some.injEq, Sl.imm.injEq, Sl.own.injEq, Sl.scr.injEq, exists_eq_left, exists_eq_left', exists_eq_right, exists_eq, exists_eq', exists_and_left, and_assoc, and_true, true_and, ne_eq, not_false_eq_true, Nat.succ_ne_zero, or_true, true_or, true_implies, forall_eq', forall_eq, PyData.int.injEq, PyData.bool.injEq, PyData.list.injEq, PyData.tuple.injEq, List.cons.injEq, i_add, i_iadd, i_sub, i_mul, i_mod, i_fdiv, i_fdivG, i_pow, i_neg, i_le, i_ge, i_gt, i_lt, i_eq, i_ne, i_intI, i_intB, i_abs, i_max, i_min, i_lenL, i_lenT, i_ixL, i_ixT, i_tupL, i_tupT, i_truB, Bool.not_true, Bool.not_false, Bool.false_eq_true, if_true, if_false, reduceIte]
  unfold lvF at q
  rw [List.range_eq_range'] at q
  exact q
theorem zipD_map {α β : Type} {f : α → D} {g : β → D} : ∀ (as : List α) (bs : List β), zipD (as.map f) (bs.map g) = (as.zip bs).map fun q => .tuple [f q.1, g q.2]
  | [], bs => by cases bs <;> rfl
  | _ :: _, [] => rfl
  | a :: as, b :: bs => by
    show PyData.tuple [f a, g b] :: zipD (as.map f) (bs.map g) = _
    rw [zipD_map as bs]; rfl
theorem pu_cleared_row (ds Q) (hl : ds.length = 4) (h : wf_cleared_row ds Q) : ws_cleared_row (edP Q) (enP N_cleared_row ds) := by
  obtain ⟨row, lead, c, b, rfl, hL, hc, h50, hr, hld, hb, hb9, q⟩ := h
  unfold ws_cleared_row
  simp -failIfUnchanged only [N_cleared_row, wCallW, wForFv, forFvW, wMkX, wDic1, wMtX, wForPr, forPrW, wPNil, wPCons, wVar, wC, wOp, wUn, wCl, wB, wTr, wAnd, wOr, wNot, wAndV, wOrV, wNotV, wIf, wCh, wNil, wCons, wTup, wLe, wSz, wFn, wFnJ, wFnB, wFnJB, wBNil, wBCons, wBOwn, rsvP, rsvJ, wNext, wRet, wRetN, wDrop, wIfS, wSet, wSetOwn, wNever, wAug, wOpO, wIxO, wOpR, wClO, wApp, wSetIt, wFrz, wFor, wRg1, wRg2, wSq, wEnum, wZip, wZipM, wZipS, wZipU, wgN, wgT, wgNil, wgCons, wYes, wAsgT, wgLs, wLenS, wIxS, wFnS, wFnJL, wFnX, wRaise, wRaiseF, wForFn, forFnW, wMet, hide, wIsi, wListOf, wRev, edP, edJ, enP, enJ, enS, NotOwn, Flat, List.map_cons, List.map_nil, List.length_cons, List.length_nil, List.replicate_succ, List.replicate_zero, List.cons_append, List.nil_append, List.append_nil, List.set_cons_zero, List.set_cons_succ, List.getElem?_cons_zero, List.getElem?_cons_succ, Nat.reduceAdd, Nat.reduceSub, Option.some.injEq, Sl.imm.injEq, Sl.own.injEq, Sl.scr.injEq, exists_eq_left, exists_eq_left', exists_eq_right, exists_eq, exists_eq', exists_and_left, and_assoc, and_true, true_and, ne_eq, not_false_eq_true, Nat.succ_ne_zero, or_true, true_or, true_implies, forall_eq', forall_eq, PyData.int.injEq, PyData.bool.injEq, PyData.list.injEq, PyData.tuple.injEq, List.cons.injEq, i_add, i_iadd, i_sub, i_mul, i_mod, i_fdiv, i_fdivG, i_pow, i_neg, i_le, i_ge, i_gt, i_lt, i_eq, i_ne, i_intI, i_intB, i_abs, i_max, i_min, i_lenL, i_lenT, i_ixL, i_ixT, i_tupL, i_tupT, i_truB, Bool.not_true, Bool.not_false, Bool.false_eq_true, if_true, if_false, reduceIte]
  refine lcY (α := Int × Int) (e1 := [.imm (lstI row), .imm (lstI lead), .imm (.int c), .imm (.int b), .un, .un]) (X := fun p => .tuple [.int p.1, .int p.2]) (f := fun p => .int ((lead.getD c 0 * p.1 - row.getD c 0 * p.2).fdiv b)) (xs := row.zip lead) (fun p => [.imm (lstI row), .imm (lstI lead), .imm (.int c), .imm (.int b), .imm (.int p.1), .imm (.int p.2)]) (by decide) (fun Q q => ?_) (no2 trivial trivial) (sl200 (by rw [List.length_zip]; omega)) (fun _ => rfl) (fun p hp Q q => ?_) (fun p hp Q q => ?_) ?_
  · simp -failIfUnchanged only [wZip, lstI, wCallW, wForFv, forFvW, wMkX, wDic1, wMtX, wForPr, forPrW, wPNil, wPCons, wVar, wC, wOp, wUn, wCl, wB, wTr, wAnd, wOr, wNot, wAndV, wOrV, wNotV, wIf, wCh, wNil, wCons, wTup, wLe, wSz, wFn, wFnJ, wFnB, wFnJB, wBNil, wBCons, wBOwn, rsvP, rsvJ, wNext, wRet, wRetN, wDrop, wIfS, wSet, wSetOwn, wNever, wAug, wOpO, wIxO, wOpR, wClO, wApp, wSetIt, wFrz, wFor, wRg1, wRg2, wSq, wEnum, wZip, wZipM, wZipS, wZipU, wgN, wgT, wgNil, wgCons, wYes, wAsgT, wgLs, wLenS, wIxS, wFnS, wFnJL, wFnX, wRaise, wRaiseF, wForFn, forFnW, wMet, hide, wIsi, wListOf, wRev, edP, edJ, enP, enJ, enS, NotOwn, Flat, List.map_cons, List.map_nil, List.length_cons, List.length_nil, List.replicate_succ, List.replicate_zero, List.cons_append, List.nil_append, List.append_nil, List.set_cons_zero, List.set_cons_succ, List.getElem?_cons_zero, List.getElem?_cons_succ, Nat.reduceAdd, Nat.reduceSub, Option.some.injEq, Sl.imm.injEq, Sl.own.injEq, Sl.scr.injEq, exists_eq_left, exists_eq_left', exists_eq_right, exists_eq, exists_eq', exists_and_left, and_assoc, and_true, true_and, ne_eq, not_false_eq_true, Nat.succ_ne_zero, or_true, true_or, true_implies, forall_eq', forall_eq, PyData.int.injEq, PyData.bool.injEq, PyData.list.injEq, PyData.tuple.injEq, List.cons.injEq, i_add, i_iadd, i_sub, i_mul, i_mod, i_fdiv, i_fdivG, i_pow, i_neg, i_le, i_ge, i_gt, i_lt, i_eq, i_ne, i_intI, i_intB, i_abs, i_max, i_min, i_lenL, i_lenT, i_ixL, i_ixT, i_tupL, i_tupT, i_truB, Bool.not_true, Bool.not_false, Bool.false_eq_true, if_true, if_false, reduceIte]
    refine ⟨_, _, Or.inl ⟨rfl, rfl⟩, ?_⟩
    rw [zipD_map]
    exact q
  · simp -failIfUnchanged only [wip, wCallW, wForFv, forFvW, wMkX, wDic1, wMtX, wForPr, forPrW, wPNil, wPCons, wVar, wC, wOp, wUn, wCl, wB, wTr, wAnd, wOr, wNot, wAndV, wOrV, wNotV, wIf, wCh, wNil, wCons, wTup, wLe, wSz, wFn, wFnJ, wFnB, wFnJB, wBNil, wBCons, wBOwn, rsvP, rsvJ, wNext, wRet, wRetN, wDrop, wIfS, wSet, wSetOwn, wNever, wAug, wOpO, wIxO, wOpR, wClO, wApp, wSetIt, wFrz, wFor, wRg1, wRg2, wSq, wEnum, wZip, wZipM, wZipS, wZipU, wgN, wgT, wgNil, wgCons, wYes, wAsgT, wgLs, wLenS, wIxS, wFnS, wFnJL, wFnX, wRaise, wRaiseF, wForFn, forFnW, wMet, hide, wIsi, wListOf, wRev, edP, edJ, enP, enJ, enS, NotOwn, Flat, List.map_cons, List.map_nil, List.length_cons, List.length_nil, List.replicate_succ, List.replicate_zero, List.cons_append, List.nil_append, List.append_nil, List.set_cons_zero, List.set_cons_succ, List.getElem?_cons_zero, List.getElem?_cons_succ, Nat.reduceAdd, Nat.reduceSub, Option.some.injEq, Sl.imm.injEq, Sl.own.injEq, Sl.scr.injEq, exists_eq_left, exists_eq_left', exists_eq_right, exists_eq, exists_eq', exists_and_left, and_assoc, and_true, true_and, ne_eq, not_false_eq_true, Nat.succ_ne_zero, or_true, true_or, true_implies, forall_eq', forall_eq, PyData.int.injEq, PyData.bool.injEq, PyData.list.injEq, PyData.tuple.injEq, List.cons.injEq, i_add, i_iadd, i_sub, i_mul, i_mod, i_fdiv, i_fdivG, i_pow, i_neg, i_le, i_ge, i_gt, i_lt, i_eq, i_ne, i_intI, i_intB, i_abs, i_max, i_min, i_lenL, i_lenT, i_ixL, i_ixT, i_tupL, i_tupT, i_truB, Bool.not_true, Bool.not_false, Bool.false_eq_true, if_true, if_false, reduceIte]
    exact q
  · have h1 := hr _ (List.of_mem_zip hp).1
    have h2 := hld _ (List.of_mem_zip hp).2
    simp -failIfUnchanged only [lstI, wCallW, wForFv, forFvW, wMkX, wDic1, wMtX, wForPr, forPrW, wPNil, wPCons, wVar, wC, wOp, wUn, wCl, wB, wTr, wAnd, wOr, wNot, wAndV, wOrV, wNotV, wIf, wCh, wNil, wCons, wTup, wLe, wSz, wFn, wFnJ, wFnB, wFnJB, wBNil, wBCons, wBOwn, rsvP, rsvJ, wNext, wRet, wRetN, wDrop, wIfS, wSet, wSetOwn, wNever, wAug, wOpO, wIxO, wOpR, wClO, wApp, wSetIt, wFrz, wFor, wRg1, wRg2, wSq, wEnum, wZip, wZipM, wZipS, wZipU, wgN, wgT, wgNil, wgCons, wYes, wAsgT, wgLs, wLenS, wIxS, wFnS, wFnJL, wFnX, wRaise, wRaiseF, wForFn, forFnW, wMet, hide, wIsi, wListOf, wRev, edP, edJ, enP, enJ, enS, NotOwn, Flat, List.map_cons, List.map_nil, List.length_cons, List.length_nil, List.replicate_succ, List.replicate_zero, List.cons_append, List.nil_append, List.append_nil, List.set_cons_zero, List.set_cons_succ, List.getElem?_cons_zero, List.getElem?_cons_succ, Nat.reduceAdd, Nat.reduceSub, Option.some.injEq, Sl.imm.injEq, Sl.own.injEq, Sl.scr.injEq, exists_eq_left, exists_eq_left', exists_eq_right, exists_eq, exists_eq', exists_and_left, and_assoc, and_true, true_and, ne_eq, not_false_eq_true, Nat.succ_ne_zero, or_true, true_or, true_implies, forall_eq', forall_eq, PyData.int.injEq, PyData.bool.injEq, PyData.list.injEq, PyData.tuple.injEq, List.cons.injEq, i_add, i_iadd, i_sub, i_mul, i_mod, i_fdiv, i_fdivG, i_pow, i_neg, i_le, i_ge, i_gt, i_lt, i_eq, i_ne, i_intI, i_intB, i_abs, i_max, i_min, i_lenL, i_lenT, i_ixL, i_ixT, i_tupL, i_tupT, i_truB, Bool.not_true, Bool.not_false, Bool.false_eq_true, if_true, if_false, reduceIte]
    refine ⟨_, ixI (by omega), ?_⟩
    simp -failIfUnchanged only [wCallW, wForFv, forFvW, wMkX, wDic1, wMtX, wForPr, forPrW, wPNil, wPCons, wVar, wC, wOp, wUn, wCl, wB, wTr, wAnd, wOr, wNot, wAndV, wOrV, wNotV, wIf, wCh, wNil, wCons, wTup, wLe, wSz, wFn, wFnJ, wFnB, wFnJB, wBNil, wBCons, wBOwn, rsvP, rsvJ, wNext, wRet, wRetN, wDrop, wIfS, wSet, wSetOwn, wNever, wAug, wOpO, wIxO, wOpR, wClO, wApp, wSetIt, wFrz, wFor, wRg1, wRg2, wSq, wEnum, wZip, wZipM, wZipS, wZipU, wgN, wgT, wgNil, wgCons, wYes, wAsgT, wgLs, wLenS, wIxS, wFnS, wFnJL, wFnX, wRaise, wRaiseF, wForFn, forFnW, wMet, hide, wIsi, wListOf, wRev, edP, edJ, enP, enJ, enS, NotOwn, Flat, List.map_cons, List.map_nil, List.length_cons, List.length_nil, List.replicate_succ, List.replicate_zero, List.cons_append, List.nil_append, List.append_nil, List.set_cons_zero, List.set_cons_succ, List.getElem?_cons_zero, List.getElem?_cons_succ, Nat.reduceAdd, Nat.reduceSub, Option.some.injEq, Sl.imm.injEq, Sl.own.injEq, Sl.scr.injEq, exists_eq_left, exists_eq_left', exists_eq_right, exists_eq, exists_eq', exists_and_left, and_assoc, and_true, true_and, ne_eq, not_false_eq_true, Nat.succ_ne_zero, or_true, true_or, true_implies, forall_eq', forall_eq, PyData.int.injEq, PyData.bool.injEq, PyData.list.injEq, PyData.tuple.injEq, List.cons.injEq, i_add, i_iadd, i_sub, i_mul, i_mod, i_fdiv, i_fdivG, i_pow, i_neg, i_le, i_ge, i_gt, i_lt, i_eq, i_ne, i_intI, i_intB, i_abs, i_max, i_min, i_lenL, i_lenT, i_ixL, i_ixT, i_tupL, i_tupT, i_truB, Bool.not_true, Bool.not_false, Bool.false_eq_true, if_true, if_false, reduceIte]
    refine ⟨small_r (lt9_64 h1).1 (lt9_64 h1).2, _, ixI hc, ?_⟩
    simp -failIfUnchanged only [wCallW, wForFv, forFvW, wMkX, wDic1, wMtX, wForPr, forPrW, wPNil, wPCons, wVar, wC, wOp, wUn, wCl, wB, wTr, wAnd, wOr, wNot, wAndV, wOrV, wNotV, wIf, wCh, wNil, wCons, wTup, wLe, wSz, wFn, wFnJ, wFnB, wFnJB, wBNil, wBCons, wBOwn, rsvP, rsvJ, wNext, wRet, wRetN, wDrop, wIfS, wSet, wSetOwn, wNever, wAug, wOpO, wIxO, wOpR, wClO, wApp, wSetIt, wFrz, wFor, wRg1, wRg2, wSq, wEnum, wZip, wZipM, wZipS, wZipU, wgN, wgT, wgNil, wgCons, wYes, wAsgT, wgLs, wLenS, wIxS, wFnS, wFnJL, wFnX, wRaise, wRaiseF, wForFn, forFnW, wMet, hide, wIsi, wListOf, wRev, edP, edJ, enP, enJ, enS, NotOwn, Flat, List.map_cons, List.map_nil, List.length_cons, List.length_nil, List.replicate_succ, List.replicate_zero, List.cons_append, List.nil_append, List.append_nil, List.set_cons_zero, List.set_cons_succ, List.getElem?_cons_zero, List.getElem?_cons_succ, Nat.reduceAdd, Nat.reduceSub, Option.some.injEq, Sl.imm.injEq, Sl.own.injEq, Sl.scr.injEq, exists_eq_left, exists_eq_left', exists_eq_right, exists_eq, exists_eq', exists_and_left, and_assoc, and_true, true_and, ne_eq, not_false_eq_true, Nat.succ_ne_zero, or_true, true_or, true_implies, forall_eq', forall_eq, PyData.int.injEq, PyData.bool.injEq, PyData.list.injEq, PyData.tuple.injEq, List.cons.injEq, i_add, i_iadd, i_sub, i_mul, i_mod, i_fdiv, i_fdivG, i_pow, i_neg, i_le, i_ge, i_gt, i_lt, i_eq, i_ne, i_intI, i_intB, i_abs, i_max, i_min, i_lenL, i_lenT, i_ixL, i_ixT, i_tupL, i_tupT, i_truB, Bool.not_true, Bool.not_false, Bool.false_eq_true, if_true, if_false, reduceIte]
    refine ⟨small_r (lt9_64 h2).1 (lt9_64 h2).2, ⟨hb, ?_⟩, q⟩
    obtain ⟨z1, z2⟩ := hb9
    exact (Nat.log2_lt (by omega)).mpr (Nat.lt_trans (show b.natAbs < 2 ^ 31 by omega) (Nat.pow_lt_pow_right (by decide) (by decide)))
  · simp -failIfUnchanged only [wCallW, wForFv, forFvW, wMkX, wDic1, wMtX, wForPr, forPrW, wPNil, wPCons, wVar, wC, wOp, wUn, wCl, wB, wTr, wAnd, wOr, wNot, wAndV, wOrV, wNotV, wIf, wCh, wNil, wCons, wTup, wLe, wSz, wFn, wFnJ, wFnB, wFnJB, wBNil, wBCons, wBOwn, rsvP, rsvJ, wNext, wRet, wRetN, wDrop, wIfS, wSet, wSetOwn, wNever, wAug, wOpO, wIxO, wOpR, wClO, wApp, wSetIt, wFrz, wFor, wRg1, wRg2, wSq, wEnum, wZip, wZipM, wZipS, wZipU, wgN, wgT, wgNil, wgCons, wYes, wAsgT, wgLs, wLenS, wIxS, wFnS, wFnJL, wFnX, wRaise, wRaiseF, wForFn, forFnW, wMet, hide, wIsi, wListOf, wRev, edP, edJ, enP, enJ, enS, NotOwn, Flat, List.map_cons, List.map_nil, List.length_cons, List.length_nil, List.replicate_succ, List.replicate_zero, List.cons_append, List.nil_append, List.append_nil, List.set_cons_zero, List.set_cons_succ, List.getElem?_cons_zero, List.getElem?_cons_succ, Nat.reduceAdd, Nat.reduceSub, Option.some.injEq, Sl.imm.injEq, Sl.own.injEq, Sl.scr.injEq, exists_eq_left, exists_eq_left', exists_eq_right, exists_eq, exists_eq', exists_and_left, and_assoc, and_true, true_and, ne_eq, not_false_eq_true, Nat.succ_ne_zero, or_true, true_or, true_implies, forall_eq', forall_eq, PyData.int.injEq, PyData.bool.injEq, PyData.list.injEq, PyData.tuple.injEq, List.cons.injEq, i_add, i_iadd, i_sub, i_mul, i_mod, i_fdiv, i_fdivG, i_pow, i_neg, i_le, i_ge, i_gt, i_lt, i_eq, i_ne, i_intI, i_intB, i_abs, i_max, i_min, i_lenL, i_lenT, i_ixL, i_ixT, i_tupL, i_tupT, i_truB, Bool.not_true, Bool.not_false, Bool.false_eq_true, if_true, if_false, reduceIte]
    have e : (row.zip lead).map (fun p => PyData.int ((lead.getD c 0 * p.1 - row.getD c 0 * p.2).fdiv b)) = (clrI lead row c b).map .int := by
      unfold clrI
      rw [← List.map_uncurry_zip_eq_zipWith, List.map_map]
      rfl
    rw [e]
    exact q
theorem enu_map {T : Tbl} : enuD 0 (T.map lstI) = (List.range T.length).map fun i => PyData.tuple [.int (i : Nat), lstI (T.getD i [])] := by
  refine List.ext_getElem? fun j => ?_
  rw [List.getElem?_map]
  cases e : (enuD 0 (T.map lstI))[j]? with
  | none =>
    have := List.getElem?_eq_none_iff.mp e
    rw [enuD_len, List.length_map] at this
    rw [List.getElem?_eq_none (by rw [List.length_range]; omega)]
    rfl
  | some d =>
    obtain ⟨x, hx, rfl⟩ := enuD_get e
    rw [List.getElem?_map] at hx
    cases e2 : T[j]? with
    | none => rw [e2] at hx; cases hx
    | some r =>
      rw [e2] at hx
      cases hx
      have hj := (List.getElem?_eq_some_iff.mp e2).1
      rw [List.getElem?_range hj, Nat.zero_add]
      show some _ = some (PyData.tuple [.int (j : Nat), lstI (T.getD j [])])
      rw [List.getD_eq_getElem?_getD, e2]
      rfl
theorem pu_exchanged (ds Q) (hl : ds.length = 4) (h : wf_exchanged ds Q) : ws_exchanged (edP Q) (enP N_exchanged ds) := by
  obtain ⟨m, n, T, r, c, b, rfl, hT, hr, hc, hb, hb9, q⟩ := h
  have m12 := hT.m1
  have Rr := hT.row (i := r) (by omega)
  unfold ws_exchanged
  (try dsimp only); rw [wSeq_eq]; simp -failIfUnchanged only [N_exchanged, llI, wCallW, wForFv, forFvW, wMkX, wDic1, wMtX, wForPr, forPrW, wPNil, wPCons, wVar, wC, wOp, wUn, wCl, wB, wTr, wAnd, wOr, wNot, wAndV, wOrV, wNotV, wIf, wCh, wNil, wCons, wTup, wLe, wSz, wFn, wFnJ, wFnB, wFnJB, wBNil, wBCons, wBOwn, rsvP, rsvJ, wNext, wRet, wRetN, wDrop, wIfS, wSet, wSetOwn, wNever, wAug, wOpO, wIxO, wOpR, wClO, wApp, wSetIt, wFrz, wFor, wRg1, wRg2, wSq, wEnum, wZip, wZipM, wZipS, wZipU, wgN, wgT, wgNil, wgCons, wYes, wAsgT, wgLs, wLenS, wIxS, wFnS, wFnJL, wFnX, wRaise, wRaiseF, wForFn, forFnW, wMet, hide, wIsi, wListOf, wRev, edP, edJ, enP, enJ, enS, NotOwn, Flat, List.map_cons, List.map_nil, List.length_cons, List.length_nil, List.replicate_succ, List.replicate_zero, List.cons_append, List.nil_append, List.append_nil, List.set_cons_zero, List.set_cons_succ, List.getElem?_cons_zero, List.getElem?_cons_succ, Nat.reduceAdd, Nat.reduceSub, Option.some.injEq, Sl.imm.injEq, Sl.own.injEq, Sl.scr.injEq, exists_eq_left, exists_eq_left', exists_eq_right, exists_eq, exists_eq', exists_and_left, and_assoc, and_true, true_and, ne_eq, not_false_eq_true, Nat.succ_ne_zero, or_true, true_or, true_implies, forall_eq', forall_eq, PyData.int.injEq, PyData.bool.injEq, PyData.list.injEq, PyData.tuple.injEq, List.cons.injEq, i_add, i_iadd, i_sub, i_mul, i_mod, i_fdiv, i_fdivG, i_pow, i_neg, i_le, i_ge, i_gt, i_lt, i_eq, i_ne, i_intI, i_intB, i_abs, i_max, i_min, i_lenL, i_lenT, i_ixL, i_ixT, i_tupL, i_tupT, i_truB, Bool.not_true, Bool.not_false, Bool.false_eq_true, if_true, if_false, reduceIte]
  refine ⟨_, ixL (by rw [hT.len]; omega), ?_⟩
  simp -failIfUnchanged only [wCallW, wForFv, forFvW, wMkX, wDic1, wMtX, wForPr, forPrW, wPNil, wPCons, wVar, wC, wOp, wUn, wCl, wB, wTr, wAnd, wOr, wNot, wAndV, wOrV, wNotV, wIf, wCh, wNil, wCons, wTup, wLe, wSz, wFn, wFnJ, wFnB, wFnJB, wBNil, wBCons, wBOwn, rsvP, rsvJ, wNext, wRet, wRetN, wDrop, wIfS, wSet, wSetOwn, wNever, wAug, wOpO, wIxO, wOpR, wClO, wApp, wSetIt, wFrz, wFor, wRg1, wRg2, wSq, wEnum, wZip, wZipM, wZipS, wZipU, wgN, wgT, wgNil, wgCons, wYes, wAsgT, wgLs, wLenS, wIxS, wFnS, wFnJL, wFnX, wRaise, wRaiseF, wForFn, forFnW, wMet, hide, wIsi, wListOf, wRev, edP, edJ, enP, enJ, enS, NotOwn, Flat, List.map_cons, List.map_nil, List.length_cons, List.length_nil, List.replicate_succ, List.replicate_zero, List.cons_append, List.nil_append, List.append_nil, List.set_cons_zero, List.set_cons_succ, List.getElem?_cons_zero, List.getElem?_cons_succ, Nat.reduceAdd, Nat.reduceSub, Option.some.injEq, Sl.imm.injEq, Sl.own.injEq, Sl.scr.injEq, exists_eq_left, exists_eq_left', exists_eq_right, exists_eq, exists_eq', exists_and_left, and_assoc, and_true, true_and, ne_eq, not_false_eq_true, Nat.succ_ne_zero, or_true, true_or, true_implies, forall_eq', forall_eq, PyData.int.injEq, PyData.bool.injEq, PyData.list.injEq, PyData.tuple.injEq, List.cons.injEq, i_add, i_iadd, i_sub, i_mul, i_mod, i_fdiv, i_fdivG, i_pow, i_neg, i_le, i_ge, i_gt, i_lt, i_eq, i_ne, i_intI, i_intB, i_abs, i_max, i_min, i_lenL, i_lenT, i_ixL, i_ixT, i_tupL, i_tupT, i_truB, Bool.not_true, Bool.not_false, Bool.false_eq_true, if_true, if_false, reduceIte]
  refine lcY (α := Nat) (e1 := [.imm (llI T), .imm (.int r), .imm (.int c), .imm (.int b), .imm (lstI (T.getD r [])), .un, .un]) (X := fun i => .tuple [.int (i : Nat), lstI (T.getD i [])]) (f := fun i => lstI (if i = r then T.getD r [] else clrI (T.getD r []) (T.getD i []) c b)) (xs := List.range T.length) (fun i => [.imm (llI T), .imm (.int r), .imm (.int c), .imm (.int b), .imm (lstI (T.getD r [])), .imm (.int (i : Nat)), .imm (lstI (T.getD i []))]) (by decide) (fun Q q => ?_) (no2 trivial trivial) (sl200 (by rw [List.length_range, hT.len]; omega)) (fun _ => rfl) (fun i hi Q q => ?_) (fun i hi Q q => ?_) ?_
  · simp -failIfUnchanged only [wEnum, llI, wCallW, wForFv, forFvW, wMkX, wDic1, wMtX, wForPr, forPrW, wPNil, wPCons, wVar, wC, wOp, wUn, wCl, wB, wTr, wAnd, wOr, wNot, wAndV, wOrV, wNotV, wIf, wCh, wNil, wCons, wTup, wLe, wSz, wFn, wFnJ, wFnB, wFnJB, wBNil, wBCons, wBOwn, rsvP, rsvJ, wNext, wRet, wRetN, wDrop, wIfS, wSet, wSetOwn, wNever, wAug, wOpO, wIxO, wOpR, wClO, wApp, wSetIt, wFrz, wFor, wRg1, wRg2, wSq, wEnum, wZip, wZipM, wZipS, wZipU, wgN, wgT, wgNil, wgCons, wYes, wAsgT, wgLs, wLenS, wIxS, wFnS, wFnJL, wFnX, wRaise, wRaiseF, wForFn, forFnW, wMet, hide, wIsi, wListOf, wRev, edP, edJ, enP, enJ, enS, NotOwn, Flat, List.map_cons, List.map_nil, List.length_cons, List.length_nil, List.replicate_succ, List.replicate_zero, List.cons_append, List.nil_append, List.append_nil, List.set_cons_zero, List.set_cons_succ, List.getElem?_cons_zero, List.getElem?_cons_succ, Nat.reduceAdd, Nat.reduceSub, Option.some.injEq, Sl.imm.injEq, Sl.own.injEq, Sl.scr.injEq, exists_eq_left, exists_eq_left', exists_eq_right, exists_eq, exists_eq', exists_and_left, and_assoc, and_true, true_and, ne_eq, not_false_eq_true, Nat.succ_ne_zero, or_true, true_or, true_implies, forall_eq', forall_eq, PyData.int.injEq, PyData.bool.injEq, PyData.list.injEq, PyData.tuple.injEq, List.cons.injEq, i_add, i_iadd, i_sub, i_mul, i_mod, i_fdiv, i_fdivG, i_pow, i_neg, i_le, i_ge, i_gt, i_lt, i_eq, i_ne, i_intI, i_intB, i_abs, i_max, i_min, i_lenL, i_lenT, i_ixL, i_ixT, i_tupL, i_tupT, i_truB, Bool.not_true, Bool.not_false, Bool.false_eq_true, if_true, if_false, reduceIte]
    refine ⟨_, Or.inl rfl, ?_⟩
    rw [enu_map]
    exact q
  · simp -failIfUnchanged only [wip, wCallW, wForFv, forFvW, wMkX, wDic1, wMtX, wForPr, forPrW, wPNil, wPCons, wVar, wC, wOp, wUn, wCl, wB, wTr, wAnd, wOr, wNot, wAndV, wOrV, wNotV, wIf, wCh, wNil, wCons, wTup, wLe, wSz, wFn, wFnJ, wFnB, wFnJB, wBNil, wBCons, wBOwn, rsvP, rsvJ, wNext, wRet, wRetN, wDrop, wIfS, wSet, wSetOwn, wNever, wAug, wOpO, wIxO, wOpR, wClO, wApp, wSetIt, wFrz, wFor, wRg1, wRg2, wSq, wEnum, wZip, wZipM, wZipS, wZipU, wgN, wgT, wgNil, wgCons, wYes, wAsgT, wgLs, wLenS, wIxS, wFnS, wFnJL, wFnX, wRaise, wRaiseF, wForFn, forFnW, wMet, hide, wIsi, wListOf, wRev, edP, edJ, enP, enJ, enS, NotOwn, Flat, List.map_cons, List.map_nil, List.length_cons, List.length_nil, List.replicate_succ, List.replicate_zero, List.cons_append, List.nil_append, List.append_nil, List.set_cons_zero, List.set_cons_succ, List.getElem?_cons_zero, List.getElem?_cons_succ, Nat.reduceAdd, Nat.reduceSub, Option.some.injEq, Sl.imm.injEq, Sl.own.injEq, Sl.scr.injEq, exists_eq_left, exists_eq_left', exists_eq_right, exists_eq, exists_eq', exists_and_left, and_assoc, and_true, true_and, ne_eq, not_false_eq_true, Nat.succ_ne_zero, or_true, true_or, true_implies, forall_eq', forall_eq, PyData.int.injEq, PyData.bool.injEq, PyData.list.injEq, PyData.tuple.injEq, List.cons.injEq, i_add, i_iadd, i_sub, i_mul, i_mod, i_fdiv, i_fdivG, i_pow, i_neg, i_le, i_ge, i_gt, i_lt, i_eq, i_ne, i_intI, i_intB, i_abs, i_max, i_min, i_lenL, i_lenT, i_ixL, i_ixT, i_tupL, i_tupT, i_truB, Bool.not_true, Bool.not_false, Bool.false_eq_true, if_true, if_false, reduceIte]
    exact q
  · have hi := List.mem_range.mp hi
    rw [hT.len] at hi
    have Ri := hT.row (i := i) (by omega)
    simp -failIfUnchanged only [wCallW, wForFv, forFvW, wMkX, wDic1, wMtX, wForPr, forPrW, wPNil, wPCons, wVar, wC, wOp, wUn, wCl, wB, wTr, wAnd, wOr, wNot, wAndV, wOrV, wNotV, wIf, wCh, wNil, wCons, wTup, wLe, wSz, wFn, wFnJ, wFnB, wFnJB, wBNil, wBCons, wBOwn, rsvP, rsvJ, wNext, wRet, wRetN, wDrop, wIfS, wSet, wSetOwn, wNever, wAug, wOpO, wIxO, wOpR, wClO, wApp, wSetIt, wFrz, wFor, wRg1, wRg2, wSq, wEnum, wZip, wZipM, wZipS, wZipU, wgN, wgT, wgNil, wgCons, wYes, wAsgT, wgLs, wLenS, wIxS, wFnS, wFnJL, wFnX, wRaise, wRaiseF, wForFn, forFnW, wMet, hide, wIsi, wListOf, wRev, edP, edJ, enP, enJ, enS, NotOwn, Flat, List.map_cons, List.map_nil, List.length_cons, List.length_nil, List.replicate_succ, List.replicate_zero, List.cons_append, List.nil_append, List.append_nil, List.set_cons_zero, List.set_cons_succ, List.getElem?_cons_zero, List.getElem?_cons_succ, Nat.reduceAdd, Nat.reduceSub, Option.some.injEq, Sl.imm.injEq, Sl.own.injEq, Sl.scr.injEq, exists_eq_left, exists_eq_left', exists_eq_right, exists_eq, exists_eq', exists_and_left, and_assoc, and_true, true_and, ne_eq, not_false_eq_true, Nat.succ_ne_zero, or_true, true_or, true_implies, forall_eq', forall_eq, PyData.int.injEq, PyData.bool.injEq, PyData.list.injEq, PyData.tuple.injEq, List.cons.injEq, i_add, i_iadd, i_sub, i_mul, i_mod, i_fdiv, i_fdivG, i_pow, i_neg, i_le, i_ge, i_gt, i_lt, i_eq, i_ne, i_intI, i_intB, i_abs, i_max, i_min, i_lenL, i_lenT, i_ixL, i_ixT, i_tupL, i_tupT, i_truB, Bool.not_true, Bool.not_false, Bool.false_eq_true, if_true, if_false, reduceIte]
    by_cases hir : i = r
    · subst hir
      rw [if_pos (by simp)]
      rw [if_pos rfl] at q
      exact q
    · rw [if_neg (by simp; omega)]
      rw [if_neg hir] at q
      exact ⟨_, _, c, b, rfl, by rw [hT.rows _ Ri, hT.rows _ Rr], by rw [hT.rows _ Ri]; exact hc, by rw [hT.rows _ Ri]; exact hT.n2, hT.sml _ Ri, hT.sml _ Rr, hb, hb9, q⟩
  · simp -failIfUnchanged only [wCallW, wForFv, forFvW, wMkX, wDic1, wMtX, wForPr, forPrW, wPNil, wPCons, wVar, wC, wOp, wUn, wCl, wB, wTr, wAnd, wOr, wNot, wAndV, wOrV, wNotV, wIf, wCh, wNil, wCons, wTup, wLe, wSz, wFn, wFnJ, wFnB, wFnJB, wBNil, wBCons, wBOwn, rsvP, rsvJ, wNext, wRet, wRetN, wDrop, wIfS, wSet, wSetOwn, wNever, wAug, wOpO, wIxO, wOpR, wClO, wApp, wSetIt, wFrz, wFor, wRg1, wRg2, wSq, wEnum, wZip, wZipM, wZipS, wZipU, wgN, wgT, wgNil, wgCons, wYes, wAsgT, wgLs, wLenS, wIxS, wFnS, wFnJL, wFnX, wRaise, wRaiseF, wForFn, forFnW, wMet, hide, wIsi, wListOf, wRev, edP, edJ, enP, enJ, enS, NotOwn, Flat, List.map_cons, List.map_nil, List.length_cons, List.length_nil, List.replicate_succ, List.replicate_zero, List.cons_append, List.nil_append, List.append_nil, List.set_cons_zero, List.set_cons_succ, List.getElem?_cons_zero, List.getElem?_cons_succ, Nat.reduceAdd, Nat.reduceSub, Option.some.injEq, Sl.imm.injEq, Sl.own.injEq, Sl.scr.injEq, exists_eq_left, exists_eq_left', exists_eq_right, exists_eq, exists_eq', exists_and_left, and_assoc, and_true, true_and, ne_eq, not_false_eq_true, Nat.succ_ne_zero, or_true, true_or, true_implies, forall_eq', forall_eq, PyData.int.injEq, PyData.bool.injEq, PyData.list.injEq, PyData.tuple.injEq, List.cons.injEq, i_add, i_iadd, i_sub, i_mul, i_mod, i_fdiv, i_fdivG, i_pow, i_neg, i_le, i_ge, i_gt, i_lt, i_eq, i_ne, i_intI, i_intB, i_abs, i_max, i_min, i_lenL, i_lenT, i_ixL, i_ixT, i_tupL, i_tupT, i_truB, Bool.not_true, Bool.not_false, Bool.false_eq_true, if_true, if_false, reduceIte]
    have e : (List.range T.length).map (fun i => lstI (if i = r then T.getD r [] else clrI (T.getD r []) (T.getD i []) c b)) = (exch T r c b).map lstI := by
      unfold exch
      rw [List.map_map]
      rfl
    rw [e]
    exact q
theorem pu_held_number (ds Q) (hl : ds.length = 3) (h : wf_held_number ds Q) : ws_held_number (edP Q) (enP N_held_number ds) := by
  obtain ⟨m, n, T, hd, c, rfl, hT, hm, q⟩ := h
  simp only [ws_held_number, N_held_number, wCallW, wForFv, forFvW, wMkX, wDic1, wMtX, wForPr, forPrW, wPNil, wPCons, wVar, wC, wOp, wUn, wCl, wB, wTr, wAnd, wOr, wNot, wAndV, wOrV, wNotV, wIf, wCh, wNil, wCons, wTup, wLe, wSz, wFn, wFnJ, wFnB, wFnJB, wBNil, wBCons, wBOwn, rsvP, rsvJ, wNext, wSeq, wRet, wRetN, wDrop, wIfS, wSet, wSetOwn, wNever, wAug, wOpO, wIxO, wOpR, wClO, wApp, wSetIt, wFrz, wFor, wRg1, wRg2, wSq, wEnum, wZip, wZipM, wZipS, wZipU, wgN, wgT, wgNil, wgCons, wYes, wAsgT, wgLs, wLenS, wIxS, wFnS, wFnJL, wFnX, wRaise, wRaiseF, wForFn, forFnW, wMet, hide, wIsi, wListOf, wRev, edP, edJ, enP, enJ, enS, NotOwn, Flat, List.map_cons, List.map_nil, List.length_cons, List.length_nil, List.replicate_succ, List.replicate_zero, List.cons_append, List.nil_append, List.append_nil, List.set_cons_zero, List.set_cons_succ, List.getElem?_cons_zero, List.getElem?_cons_succ, Nat.reduceAdd, Nat.reduceSub, Option.some.injEq, Sl.imm.injEq, Sl.own.injEq, Sl.scr.injEq, exists_eq_left, exists_eq_left', exists_eq_right, exists_eq, exists_eq', exists_and_left, and_assoc, and_true, true_and, ne_eq, not_false_eq_true, Nat.succ_ne_zero, or_true, true_or, true_implies, forall_eq', forall_eq, PyData.int.injEq, PyData.bool.injEq, PyData.list.injEq, PyData.tuple.injEq, List.cons.injEq, i_add, i_iadd, i_sub, i_mul, i_mod, i_fdiv, i_fdivG, i_pow, i_neg, i_le, i_ge, i_gt, i_lt, i_eq, i_ne, i_intI, i_intB, i_abs, i_max, i_min, i_lenL, i_lenT, i_ixL, i_ixT, i_tupL, i_tupT, i_truB, Bool.not_true, Bool.not_false, Bool.false_eq_true, if_true, if_false, reduceIte]
  have hin : dIn false (.int c) (lstI hd) (.bool (hd.contains c)) := ⟨_, Or.inl rfl, rfl, flat_ints hd, by rw [in_ints]; rfl⟩
  cases e : hd.findIdx? (fun x => decide (x = c)) with
  | none =>
    have h : hd.contains c = false := by
      rw [Bool.eq_false_iff]
      intro h
      have := List.findIdx?_eq_none_iff.mp e c (List.contains_iff_mem.mp h)
      simp at this
    refine ⟨_, hin, false, by rw [h], ?_⟩
    rw [if_neg Bool.false_ne_true]
    unfold hdN at q
    rw [e] at q
    exact q
  | some i =>
    obtain ⟨hi, h1, h2⟩ := List.findIdx?_eq_some_iff_getElem.mp e
    have h1 : hd[i] = c := by simpa using h1
    have h : hd.contains c = true := List.contains_iff_mem.mpr (h1 ▸ List.getElem_mem hi)
    refine ⟨_, hin, true, by rw [h], ?_⟩
    rw [if_pos rfl]
    have Ri := hT.row (i := i) (by omega)
    refine ⟨_, rfl, ⟨_, rfl⟩, _, rfl, hd.map .int, i, rfl, ⟨flat_ints hd, rfl, ⟨.int c, ?_, ?_⟩, fun j z hj hz => ?_⟩, _, ixL (by rw [hT.len]; omega), _, ixIm (hT.rne Ri), ?_⟩
    · rw [List.getElem?_map, List.getElem?_eq_getElem hi, h1]; rfl
    · rw [eqv_int]; exact decide_eq_true rfl
    · rw [List.getElem?_map, List.getElem?_eq_getElem (by omega)] at hz
      cases hz
      rw [eqv_int]
      have := h2 j hj
      simpa using this
    · unfold hdN at q
      rw [e] at q
      exact q

end K14

set_option Elab.async false
set_option linter.all false
set_option maxRecDepth 100000
set_option maxHeartbeats 4000000
namespace K14
open PySem PySem.Spec PyProof.Rows L2 Pd
theorem shp_of {m n : Nat} {T : Tbl} (h : shpB m n T = true) : Shp m n T := by
  unfold shpB at h
  simp only [Bool.and_eq_true, decide_eq_true_eq, List.all_eq_true] at h
  exact ⟨h.1.1, h.1.2.1, h.1.2.2, h.2.1, fun r hr => (h.2.2 r hr).1, fun r hr x hx => (h.2.2 r hr).2 x hx⟩
theorem ok_of {m n : Nat} {T : Tbl} {hd : List Int} {b : Int} {col : Option Nat} (h : okS m n (T, hd, b, col) = true) : Shp m n T ∧ hd.length = m ∧ b ≠ 0 ∧ Lt9 b ∧ ∀ c, col = some c → c < n := by
  unfold okS at h
  simp only [Bool.and_eq_true, decide_eq_true_eq] at h
  obtain ⟨h1, h2, h3, h4, h5⟩ := h
  refine ⟨shp_of h1, h2, h3, h4, fun c e => ?_⟩
  subst e
  simpa using h5
theorem run_cases {m n f : Nat} {s0 s : SS} (h : runS m n f s0 = some s) : ∃ f', f = f' + 1 ∧ okS m n s0 = true ∧ ((s0.2.2.2 = none ∧ s0 = s) ∨ ∃ c r, s0.2.2.2 = some c ∧ lvF s0.1 s0.2.1 c = some r ∧ r < m ∧ runS m n f' (exch s0.1 r c s0.2.2.1, s0.2.1.set r (c : Int), (s0.1.getD r []).getD c 0, entF (exch s0.1 r c s0.2.2.1)) = some s) := by
  cases f with
  | zero => cases h
  | succ f =>
    refine ⟨f, rfl, ?_⟩
    unfold runS at h
    by_cases ho : okS m n s0 = true
    · rw [if_pos ho] at h
      refine ⟨ho, ?_⟩
      by_cases hc : s0.2.2.2 = none
      · rw [if_pos hc] at h
        exact Or.inl ⟨hc, Option.some.inj h⟩
      · rw [if_neg hc] at h
        obtain ⟨T, hd, b, col⟩ := s0
        cases col with
        | none => exact absurd rfl hc
        | some c =>
          cases e : lvF T hd c with
          | none =>
            have e2 : stp m (T, hd, b, some c) = none := by
              show (match lvF T hd c with
                | none => none
                | some r => _) = none
              rw [e]
            rw [e2] at h
            cases h
          | some r =>
            have e2 : stp m (T, hd, b, some c) = if r < m then some (exch T r c b, hd.set r (c : Int), (T.getD r []).getD c 0, entF (exch T r c b)) else none := by
              show (match lvF T hd c with
                | none => none
                | some r => _) = _
              rw [e]
            rw [e2] at h
            by_cases hr : r < m
            · rw [if_pos hr] at h
              exact Or.inr ⟨c, r, rfl, e, hr, h⟩
            · rw [if_neg hr] at h
              cases h
    · rw [if_neg ho] at h
      cases h
theorem pu_solved (ds Q) (hl : ds.length = 2) (h : wf_solved ds Q) : ws_solved (edP Q) (enP N_solved ds) := by
  obtain ⟨h, rs, s, rfl, hS, hs, q⟩ := h
  obtain ⟨h1, h6, hL⟩ := id hS
  have h12 := hL.1
  unfold ws_solved
  (try dsimp only); rw [wSeq_eq]; simp -failIfUnchanged only [N_solved, wCallW, wForFv, forFvW, wMkX, wDic1, wMtX, wForPr, forPrW, wPNil, wPCons, wVar, wC, wOp, wUn, wCl, wB, wTr, wAnd, wOr, wNot, wAndV, wOrV, wNotV, wIf, wCh, wNil, wCons, wTup, wLe, wSz, wFn, wFnJ, wFnB, wFnJB, wBNil, wBCons, wBOwn, rsvP, rsvJ, wNext, wRet, wRetN, wDrop, wIfS, wSet, wSetOwn, wNever, wAug, wOpO, wIxO, wOpR, wClO, wApp, wSetIt, wFrz, wFor, wRg1, wRg2, wSq, wEnum, wZip, wZipM, wZipS, wZipU, wgN, wgT, wgNil, wgCons, wYes, wAsgT, wgLs, wLenS, wIxS, wFnS, wFnJL, wFnX, wRaise, wRaiseF, wForFn, forFnW, wMet, hide, wIsi, wListOf, wRev, edP, edJ, enP, enJ, enS, NotOwn, Flat, List.map_cons, List.map_nil, List.length_cons, List.length_nil, List.replicate_succ, List.replicate_zero, List.cons_append, List.nil_append, List.append_nil, List.set_cons_zero, List.set_cons_succ, List.getElem?_cons_zero, List.getElem?_cons_succ, Nat.reduceAdd, Nat.reduceSub, Option.some.injEq, Sl.imm.injEq, Sl.own.injEq, Sl.scr.injEq, exists_eq_left, exists_eq_left', exists_eq_right, exists_eq, exists_eq', exists_and_left, and_assoc, and_true, true_and, ne_eq, not_false_eq_true, Nat.succ_ne_zero, or_true, true_or, true_implies, forall_eq', forall_eq, PyData.int.injEq, PyData.bool.injEq, PyData.list.injEq, PyData.tuple.injEq, List.cons.injEq, i_add, i_iadd, i_sub, i_mul, i_mod, i_fdiv, i_fdivG, i_pow, i_neg, i_le, i_ge, i_gt, i_lt, i_eq, i_ne, i_intI, i_intB, i_abs, i_max, i_min, i_lenL, i_lenT, i_ixL, i_ixT, i_tupL, i_tupT, i_truB, Bool.not_true, Bool.not_false, Bool.false_eq_true, if_true, if_false, reduceIte]
  refine ⟨h, rs, rfl, hS, ?_⟩
  (try dsimp only); rw [wSeq_eq]; simp -failIfUnchanged only [wCallW, wForFv, forFvW, wMkX, wDic1, wMtX, wForPr, forPrW, wPNil, wPCons, wVar, wC, wOp, wUn, wCl, wB, wTr, wAnd, wOr, wNot, wAndV, wOrV, wNotV, wIf, wCh, wNil, wCons, wTup, wLe, wSz, wFn, wFnJ, wFnB, wFnJB, wBNil, wBCons, wBOwn, rsvP, rsvJ, wNext, wRet, wRetN, wDrop, wIfS, wSet, wSetOwn, wNever, wAug, wOpO, wIxO, wOpR, wClO, wApp, wSetIt, wFrz, wFor, wRg1, wRg2, wSq, wEnum, wZip, wZipM, wZipS, wZipU, wgN, wgT, wgNil, wgCons, wYes, wAsgT, wgLs, wLenS, wIxS, wFnS, wFnJL, wFnX, wRaise, wRaiseF, wForFn, forFnW, wMet, hide, wIsi, wListOf, wRev, edP, edJ, enP, enJ, enS, NotOwn, Flat, List.map_cons, List.map_nil, List.length_cons, List.length_nil, List.replicate_succ, List.replicate_zero, List.cons_append, List.nil_append, List.append_nil, List.set_cons_zero, List.set_cons_succ, List.getElem?_cons_zero, List.getElem?_cons_succ, Nat.reduceAdd, Nat.reduceSub, Option.some.injEq, Sl.imm.injEq, Sl.own.injEq, Sl.scr.injEq, exists_eq_left, exists_eq_left', exists_eq_right, exists_eq, exists_eq', exists_and_left, and_assoc, and_true, true_and, ne_eq, not_false_eq_true, Nat.succ_ne_zero, or_true, true_or, true_implies, forall_eq', forall_eq, PyData.int.injEq, PyData.bool.injEq, PyData.list.injEq, PyData.tuple.injEq, List.cons.injEq, i_add, i_iadd, i_sub, i_mul, i_mod, i_fdiv, i_fdivG, i_pow, i_neg, i_le, i_ge, i_gt, i_lt, i_eq, i_ne, i_intI, i_intB, i_abs, i_max, i_min, i_lenL, i_lenT, i_ixL, i_ixT, i_tupL, i_tupT, i_truB, Bool.not_true, Bool.not_false, Bool.false_eq_true, if_true, if_false, reduceIte]
  refine lcY (α := Nat) (e1 := [.imm (.int h), .imm (rowsD rs), .imm (llI (ftab h rs)), .un, .un, .un, .un, .un, .un, .un, .un]) (X := fun i => .int (i : Nat)) (f := fun i => .int ((h : Int) + ((i : Nat) : Int))) (xs := List.range rs.length) (fun i => [.imm (.int h), .imm (rowsD rs), .imm (llI (ftab h rs)), .un, .un, .un, .un, .un, .un, .imm (.int (i : Nat)), .un]) (by decide) (fun Q q => ?_) (no1 trivial) (by rw [List.length_range]; exact sl200 (by omega)) (fun _ => rfl) (fun i hi Q q => ?_) (fun i hi Q q => ?_) ?_
  · simp -failIfUnchanged only [rowsD, List.length_map, wCallW, wForFv, forFvW, wMkX, wDic1, wMtX, wForPr, forPrW, wPNil, wPCons, wVar, wC, wOp, wUn, wCl, wB, wTr, wAnd, wOr, wNot, wAndV, wOrV, wNotV, wIf, wCh, wNil, wCons, wTup, wLe, wSz, wFn, wFnJ, wFnB, wFnJB, wBNil, wBCons, wBOwn, rsvP, rsvJ, wNext, wRet, wRetN, wDrop, wIfS, wSet, wSetOwn, wNever, wAug, wOpO, wIxO, wOpR, wClO, wApp, wSetIt, wFrz, wFor, wRg1, wRg2, wSq, wEnum, wZip, wZipM, wZipS, wZipU, wgN, wgT, wgNil, wgCons, wYes, wAsgT, wgLs, wLenS, wIxS, wFnS, wFnJL, wFnX, wRaise, wRaiseF, wForFn, forFnW, wMet, hide, wIsi, wListOf, wRev, edP, edJ, enP, enJ, enS, NotOwn, Flat, List.map_cons, List.map_nil, List.length_cons, List.length_nil, List.replicate_succ, List.replicate_zero, List.cons_append, List.nil_append, List.append_nil, List.set_cons_zero, List.set_cons_succ, List.getElem?_cons_zero, List.getElem?_cons_succ, Nat.reduceAdd, Nat.reduceSub, Option.some.injEq, Sl.imm.injEq, Sl.own.injEq, Sl.scr.injEq, exists_eq_left, exists_eq_left', exists_eq_right, exists_eq, exists_eq', exists_and_left, and_assoc, and_true, true_and, ne_eq, not_false_eq_true, Nat.succ_ne_zero, or_true, true_or, true_implies, forall_eq', forall_eq, PyData.int.injEq, PyData.bool.injEq, PyData.list.injEq, PyData.tuple.injEq, List.cons.injEq, i_add, i_iadd, i_sub, i_mul, i_mod, i_fdiv, i_fdivG, i_pow, i_neg, i_le, i_ge, i_gt, i_lt, i_eq, i_ne, i_intI, i_intB, i_abs, i_max, i_min, i_lenL, i_lenT, i_ixL, i_ixT, i_tupL, i_tupT, i_truB, Bool.not_true, Bool.not_false, Bool.false_eq_true, if_true, if_false, reduceIte]
    rw [Int.toNat_natCast, rngD_ns]
    exact ⟨by omega, by omega, q⟩
  · simp -failIfUnchanged only [wip, wCallW, wForFv, forFvW, wMkX, wDic1, wMtX, wForPr, forPrW, wPNil, wPCons, wVar, wC, wOp, wUn, wCl, wB, wTr, wAnd, wOr, wNot, wAndV, wOrV, wNotV, wIf, wCh, wNil, wCons, wTup, wLe, wSz, wFn, wFnJ, wFnB, wFnJB, wBNil, wBCons, wBOwn, rsvP, rsvJ, wNext, wRet, wRetN, wDrop, wIfS, wSet, wSetOwn, wNever, wAug, wOpO, wIxO, wOpR, wClO, wApp, wSetIt, wFrz, wFor, wRg1, wRg2, wSq, wEnum, wZip, wZipM, wZipS, wZipU, wgN, wgT, wgNil, wgCons, wYes, wAsgT, wgLs, wLenS, wIxS, wFnS, wFnJL, wFnX, wRaise, wRaiseF, wForFn, forFnW, wMet, hide, wIsi, wListOf, wRev, edP, edJ, enP, enJ, enS, NotOwn, Flat, List.map_cons, List.map_nil, List.length_cons, List.length_nil, List.replicate_succ, List.replicate_zero, List.cons_append, List.nil_append, List.append_nil, List.set_cons_zero, List.set_cons_succ, List.getElem?_cons_zero, List.getElem?_cons_succ, Nat.reduceAdd, Nat.reduceSub, Option.some.injEq, Sl.imm.injEq, Sl.own.injEq, Sl.scr.injEq, exists_eq_left, exists_eq_left', exists_eq_right, exists_eq, exists_eq', exists_and_left, and_assoc, and_true, true_and, ne_eq, not_false_eq_true, Nat.succ_ne_zero, or_true, true_or, true_implies, forall_eq', forall_eq, PyData.int.injEq, PyData.bool.injEq, PyData.list.injEq, PyData.tuple.injEq, List.cons.injEq, i_add, i_iadd, i_sub, i_mul, i_mod, i_fdiv, i_fdivG, i_pow, i_neg, i_le, i_ge, i_gt, i_lt, i_eq, i_ne, i_intI, i_intB, i_abs, i_max, i_min, i_lenL, i_lenT, i_ixL, i_ixT, i_tupL, i_tupT, i_truB, Bool.not_true, Bool.not_false, Bool.false_eq_true, if_true, if_false, reduceIte]
    exact q
  · simp -failIfUnchanged only [wCallW, wForFv, forFvW, wMkX, wDic1, wMtX, wForPr, forPrW, wPNil, wPCons, wVar, wC, wOp, wUn, wCl, wB, wTr, wAnd, wOr, wNot, wAndV, wOrV, wNotV, wIf, wCh, wNil, wCons, wTup, wLe, wSz, wFn, wFnJ, wFnB, wFnJB, wBNil, wBCons, wBOwn, rsvP, rsvJ, wNext, wRet, wRetN, wDrop, wIfS, wSet, wSetOwn, wNever, wAug, wOpO, wIxO, wOpR, wClO, wApp, wSetIt, wFrz, wFor, wRg1, wRg2, wSq, wEnum, wZip, wZipM, wZipS, wZipU, wgN, wgT, wgNil, wgCons, wYes, wAsgT, wgLs, wLenS, wIxS, wFnS, wFnJL, wFnX, wRaise, wRaiseF, wForFn, forFnW, wMet, hide, wIsi, wListOf, wRev, edP, edJ, enP, enJ, enS, NotOwn, Flat, List.map_cons, List.map_nil, List.length_cons, List.length_nil, List.replicate_succ, List.replicate_zero, List.cons_append, List.nil_append, List.append_nil, List.set_cons_zero, List.set_cons_succ, List.getElem?_cons_zero, List.getElem?_cons_succ, Nat.reduceAdd, Nat.reduceSub, Option.some.injEq, Sl.imm.injEq, Sl.own.injEq, Sl.scr.injEq, exists_eq_left, exists_eq_left', exists_eq_right, exists_eq, exists_eq', exists_and_left, and_assoc, and_true, true_and, ne_eq, not_false_eq_true, Nat.succ_ne_zero, or_true, true_or, true_implies, forall_eq', forall_eq, PyData.int.injEq, PyData.bool.injEq, PyData.list.injEq, PyData.tuple.injEq, List.cons.injEq, i_add, i_iadd, i_sub, i_mul, i_mod, i_fdiv, i_fdivG, i_pow, i_neg, i_le, i_ge, i_gt, i_lt, i_eq, i_ne, i_intI, i_intB, i_abs, i_max, i_min, i_lenL, i_lenT, i_ixL, i_ixT, i_tupL, i_tupT, i_truB, Bool.not_true, Bool.not_false, Bool.false_eq_true, if_true, if_false, reduceIte]
    exact q
  · (try dsimp only); rw [wSeq_eq]; simp -failIfUnchanged only [wCallW, wForFv, forFvW, wMkX, wDic1, wMtX, wForPr, forPrW, wPNil, wPCons, wVar, wC, wOp, wUn, wCl, wB, wTr, wAnd, wOr, wNot, wAndV, wOrV, wNotV, wIf, wCh, wNil, wCons, wTup, wLe, wSz, wFn, wFnJ, wFnB, wFnJB, wBNil, wBCons, wBOwn, rsvP, rsvJ, wNext, wRet, wRetN, wDrop, wIfS, wSet, wSetOwn, wNever, wAug, wOpO, wIxO, wOpR, wClO, wApp, wSetIt, wFrz, wFor, wRg1, wRg2, wSq, wEnum, wZip, wZipM, wZipS, wZipU, wgN, wgT, wgNil, wgCons, wYes, wAsgT, wgLs, wLenS, wIxS, wFnS, wFnJL, wFnX, wRaise, wRaiseF, wForFn, forFnW, wMet, hide, wIsi, wListOf, wRev, edP, edJ, enP, enJ, enS, NotOwn, Flat, List.map_cons, List.map_nil, List.length_cons, List.length_nil, List.replicate_succ, List.replicate_zero, List.cons_append, List.nil_append, List.append_nil, List.set_cons_zero, List.set_cons_succ, List.getElem?_cons_zero, List.getElem?_cons_succ, Nat.reduceAdd, Nat.reduceSub, Option.some.injEq, Sl.imm.injEq, Sl.own.injEq, Sl.scr.injEq, exists_eq_left, exists_eq_left', exists_eq_right, exists_eq, exists_eq', exists_and_left, and_assoc, and_true, true_and, ne_eq, not_false_eq_true, Nat.succ_ne_zero, or_true, true_or, true_implies, forall_eq', forall_eq, PyData.int.injEq, PyData.bool.injEq, PyData.list.injEq, PyData.tuple.injEq, List.cons.injEq, i_add, i_iadd, i_sub, i_mul, i_mod, i_fdiv, i_fdivG, i_pow, i_neg, i_le, i_ge, i_gt, i_lt, i_eq, i_ne, i_intI, i_intB, i_abs, i_max, i_min, i_lenL, i_lenT, i_ixL, i_ixT, i_tupL, i_tupT, i_truB, Bool.not_true, Bool.not_false, Bool.false_eq_true, if_true, if_false, reduceIte]
    (try dsimp only); rw [wSeq_eq]; simp -failIfUnchanged only [wCallW, wForFv, forFvW, wMkX, wDic1, wMtX, wForPr, forPrW, wPNil, wPCons, wVar, wC, wOp, wUn, wCl, wB, wTr, wAnd, wOr, wNot, wAndV, wOrV, wNotV, wIf, wCh, wNil, wCons, wTup, wLe, wSz, wFn, wFnJ, wFnB, wFnJB, wBNil, wBCons, wBOwn, rsvP, rsvJ, wNext, wRet, wRetN, wDrop, wIfS, wSet, wSetOwn, wNever, wAug, wOpO, wIxO, wOpR, wClO, wApp, wSetIt, wFrz, wFor, wRg1, wRg2, wSq, wEnum, wZip, wZipM, wZipS, wZipU, wgN, wgT, wgNil, wgCons, wYes, wAsgT, wgLs, wLenS, wIxS, wFnS, wFnJL, wFnX, wRaise, wRaiseF, wForFn, forFnW, wMet, hide, wIsi, wListOf, wRev, edP, edJ, enP, enJ, enS, NotOwn, Flat, List.map_cons, List.map_nil, List.length_cons, List.length_nil, List.replicate_succ, List.replicate_zero, List.cons_append, List.nil_append, List.append_nil, List.set_cons_zero, List.set_cons_succ, List.getElem?_cons_zero, List.getElem?_cons_succ, Nat.reduceAdd, Nat.reduceSub, Option.some.injEq, Sl.imm.injEq, Sl.own.injEq, Sl.scr.injEq, exists_eq_left, exists_eq_left', exists_eq_right, exists_eq, exists_eq', exists_and_left, and_assoc, and_true, true_and, ne_eq, not_false_eq_true, Nat.succ_ne_zero, or_true, true_or, true_implies, forall_eq', forall_eq, PyData.int.injEq, PyData.bool.injEq, PyData.list.injEq, PyData.tuple.injEq, List.cons.injEq, i_add, i_iadd, i_sub, i_mul, i_mod, i_fdiv, i_fdivG, i_pow, i_neg, i_le, i_ge, i_gt, i_lt, i_eq, i_ne, i_intI, i_intB, i_abs, i_max, i_min, i_lenL, i_lenT, i_ixL, i_ixT, i_tupL, i_tupT, i_truB, Bool.not_true, Bool.not_false, Bool.false_eq_true, if_true, if_false, reduceIte]
    have hs' : runS rs.length (h + rs.length + 1) 40 (iniS h rs) = some s := hs
    obtain ⟨_, _, o0, _⟩ := run_cases hs'
    refine ⟨_, _, ftab h rs, rfl, (ok_of o0).1, ?_⟩
    (try dsimp only); rw [wSeq_eq]; simp -failIfUnchanged only [wWhile, wCallW, wForFv, forFvW, wMkX, wDic1, wMtX, wForPr, forPrW, wPNil, wPCons, wVar, wC, wOp, wUn, wCl, wB, wTr, wAnd, wOr, wNot, wAndV, wOrV, wNotV, wIf, wCh, wNil, wCons, wTup, wLe, wSz, wFn, wFnJ, wFnB, wFnJB, wBNil, wBCons, wBOwn, rsvP, rsvJ, wNext, wRet, wRetN, wDrop, wIfS, wSet, wSetOwn, wNever, wAug, wOpO, wIxO, wOpR, wClO, wApp, wSetIt, wFrz, wFor, wRg1, wRg2, wSq, wEnum, wZip, wZipM, wZipS, wZipU, wgN, wgT, wgNil, wgCons, wYes, wAsgT, wgLs, wLenS, wIxS, wFnS, wFnJL, wFnX, wRaise, wRaiseF, wForFn, forFnW, wMet, hide, wIsi, wListOf, wRev, edP, edJ, enP, enJ, enS, NotOwn, Flat, List.map_cons, List.map_nil, List.length_cons, List.length_nil, List.replicate_succ, List.replicate_zero, List.cons_append, List.nil_append, List.append_nil, List.set_cons_zero, List.set_cons_succ, List.getElem?_cons_zero, List.getElem?_cons_succ, Nat.reduceAdd, Nat.reduceSub, Option.some.injEq, Sl.imm.injEq, Sl.own.injEq, Sl.scr.injEq, exists_eq_left, exists_eq_left', exists_eq_right, exists_eq, exists_eq', exists_and_left, and_assoc, and_true, true_and, ne_eq, not_false_eq_true, Nat.succ_ne_zero, or_true, true_or, true_implies, forall_eq', forall_eq, PyData.int.injEq, PyData.bool.injEq, PyData.list.injEq, PyData.tuple.injEq, List.cons.injEq, i_add, i_iadd, i_sub, i_mul, i_mod, i_fdiv, i_fdivG, i_pow, i_neg, i_le, i_ge, i_gt, i_lt, i_eq, i_ne, i_intI, i_intB, i_abs, i_max, i_min, i_lenL, i_lenT, i_ixL, i_ixT, i_tupL, i_tupT, i_truB, Bool.not_true, Bool.not_false, Bool.false_eq_true, if_true, if_false, reduceIte]
    refine ⟨fun k e => ∃ (s0 : SS) (s6 s7 : Sl), runS rs.length (h + rs.length + 1) k s0 = some s ∧ e = [.imm (.int h), .imm (rowsD rs), .imm (llI s0.1), .own (s0.2.1.map .int), .imm (.int s0.2.2.1), .imm (optN s0.2.2.2), s6, s7, .un, .un, .un], ⟨40, iniS h rs, .un, .un, hs', ?_⟩, ?_⟩
    · show _ = [_, _, _, Sl.own (((List.range rs.length).map fun i => (h : Int) + ((i : Nat) : Int)).map PyData.int), _, _, _, _, _, _, _]
      rw [List.map_map]
      rfl
    rintro k e ⟨s0, s6, s7, hr, rfl⟩
    obtain ⟨f, rfl, ho, hc⟩ := run_cases hr
    obtain ⟨T, hd, b, col⟩ := s0
    obtain ⟨hT, hm, hb, hb9, hcn⟩ := ok_of ho
    simp -failIfUnchanged only [wCallW, wForFv, forFvW, wMkX, wDic1, wMtX, wForPr, forPrW, wPNil, wPCons, wVar, wC, wOp, wUn, wCl, wB, wTr, wAnd, wOr, wNot, wAndV, wOrV, wNotV, wIf, wCh, wNil, wCons, wTup, wLe, wSz, wFn, wFnJ, wFnB, wFnJB, wBNil, wBCons, wBOwn, rsvP, rsvJ, wNext, wRet, wRetN, wDrop, wIfS, wSet, wSetOwn, wNever, wAug, wOpO, wIxO, wOpR, wClO, wApp, wSetIt, wFrz, wFor, wRg1, wRg2, wSq, wEnum, wZip, wZipM, wZipS, wZipU, wgN, wgT, wgNil, wgCons, wYes, wAsgT, wgLs, wLenS, wIxS, wFnS, wFnJL, wFnX, wRaise, wRaiseF, wForFn, forFnW, wMet, hide, wIsi, wListOf, wRev, edP, edJ, enP, enJ, enS, NotOwn, Flat, List.map_cons, List.map_nil, List.length_cons, List.length_nil, List.replicate_succ, List.replicate_zero, List.cons_append, List.nil_append, List.append_nil, List.set_cons_zero, List.set_cons_succ, List.getElem?_cons_zero, List.getElem?_cons_succ, Nat.reduceAdd, Nat.reduceSub, Option.some.injEq, Sl.imm.injEq, Sl.own.injEq, Sl.scr.injEq, exists_eq_left, exists_eq_left', exists_eq_right, exists_eq, exists_eq', exists_and_left, and_assoc, and_true, true_and, ne_eq, not_false_eq_true, Nat.succ_ne_zero, or_true, true_or, true_implies, forall_eq', forall_eq, PyData.int.injEq, PyData.bool.injEq, PyData.list.injEq, PyData.tuple.injEq, List.cons.injEq, i_add, i_iadd, i_sub, i_mul, i_mod, i_fdiv, i_fdivG, i_pow, i_neg, i_le, i_ge, i_gt, i_lt, i_eq, i_ne, i_intI, i_intB, i_abs, i_max, i_min, i_lenL, i_lenT, i_ixL, i_ixT, i_tupL, i_tupT, i_truB, Bool.not_true, Bool.not_false, Bool.false_eq_true, if_true, if_false, reduceIte]
    rcases hc with ⟨hc, rfl⟩ | ⟨c, r, hc, hl, hrm, hrun⟩
    · dsimp only at hc
      subst hc
      refine ⟨_, ⟨rfl, rfl⟩, false, rfl, ?_⟩
      rw [if_neg Bool.false_ne_true]
      (try dsimp only); rw [wSeq_eq]; simp -failIfUnchanged only [wCallW, wForFv, forFvW, wMkX, wDic1, wMtX, wForPr, forPrW, wPNil, wPCons, wVar, wC, wOp, wUn, wCl, wB, wTr, wAnd, wOr, wNot, wAndV, wOrV, wNotV, wIf, wCh, wNil, wCons, wTup, wLe, wSz, wFn, wFnJ, wFnB, wFnJB, wBNil, wBCons, wBOwn, rsvP, rsvJ, wNext, wRet, wRetN, wDrop, wIfS, wSet, wSetOwn, wNever, wAug, wOpO, wIxO, wOpR, wClO, wApp, wSetIt, wFrz, wFor, wRg1, wRg2, wSq, wEnum, wZip, wZipM, wZipS, wZipU, wgN, wgT, wgNil, wgCons, wYes, wAsgT, wgLs, wLenS, wIxS, wFnS, wFnJL, wFnX, wRaise, wRaiseF, wForFn, forFnW, wMet, hide, wIsi, wListOf, wRev, edP, edJ, enP, enJ, enS, NotOwn, Flat, List.map_cons, List.map_nil, List.length_cons, List.length_nil, List.replicate_succ, List.replicate_zero, List.cons_append, List.nil_append, List.append_nil, List.set_cons_zero, List.set_cons_succ, List.getElem?_cons_zero, List.getElem?_cons_succ, Nat.reduceAdd, Nat.reduceSub, Option.some.injEq, Sl.imm.injEq, Sl.own.injEq, Sl.scr.injEq, exists_eq_left, exists_eq_left', exists_eq_right, exists_eq, exists_eq', exists_and_left, and_assoc, and_true, true_and, ne_eq, not_false_eq_true, Nat.succ_ne_zero, or_true, true_or, true_implies, forall_eq', forall_eq, PyData.int.injEq, PyData.bool.injEq, PyData.list.injEq, PyData.tuple.injEq, List.cons.injEq, i_add, i_iadd, i_sub, i_mul, i_mod, i_fdiv, i_fdivG, i_pow, i_neg, i_le, i_ge, i_gt, i_lt, i_eq, i_ne, i_intI, i_intB, i_abs, i_max, i_min, i_lenL, i_lenT, i_ixL, i_ixT, i_tupL, i_tupT, i_truB, Bool.not_true, Bool.not_false, Bool.false_eq_true, if_true, if_false, reduceIte]
      refine lcY (α := Int) (e1 := [.imm (.int h), .imm (rowsD rs), .imm (llI T), .imm (lstI hd), .imm (.int b), .imm .none, s6, s7, .un, .un, .un]) (X := .int) (f := fun x => .int (hdN T hd x)) (xs := intsTo h) (fun x => [.imm (.int h), .imm (rowsD rs), .imm (llI T), .imm (lstI hd), .imm (.int b), .imm .none, s6, s7, .un, .un, .imm (.int x)]) (by decide) (fun Q q => ?_) (no1 trivial) (by rw [intsTo_len]; exact sl200 (by omega)) (fun _ => rfl) (fun x hx Q q => ?_) (fun x hx Q q => ?_) ?_
      · simp -failIfUnchanged only [wCallW, wForFv, forFvW, wMkX, wDic1, wMtX, wForPr, forPrW, wPNil, wPCons, wVar, wC, wOp, wUn, wCl, wB, wTr, wAnd, wOr, wNot, wAndV, wOrV, wNotV, wIf, wCh, wNil, wCons, wTup, wLe, wSz, wFn, wFnJ, wFnB, wFnJB, wBNil, wBCons, wBOwn, rsvP, rsvJ, wNext, wRet, wRetN, wDrop, wIfS, wSet, wSetOwn, wNever, wAug, wOpO, wIxO, wOpR, wClO, wApp, wSetIt, wFrz, wFor, wRg1, wRg2, wSq, wEnum, wZip, wZipM, wZipS, wZipU, wgN, wgT, wgNil, wgCons, wYes, wAsgT, wgLs, wLenS, wIxS, wFnS, wFnJL, wFnX, wRaise, wRaiseF, wForFn, forFnW, wMet, hide, wIsi, wListOf, wRev, edP, edJ, enP, enJ, enS, NotOwn, Flat, List.map_cons, List.map_nil, List.length_cons, List.length_nil, List.replicate_succ, List.replicate_zero, List.cons_append, List.nil_append, List.append_nil, List.set_cons_zero, List.set_cons_succ, List.getElem?_cons_zero, List.getElem?_cons_succ, Nat.reduceAdd, Nat.reduceSub, Option.some.injEq, Sl.imm.injEq, Sl.own.injEq, Sl.scr.injEq, exists_eq_left, exists_eq_left', exists_eq_right, exists_eq, exists_eq', exists_and_left, and_assoc, and_true, true_and, ne_eq, not_false_eq_true, Nat.succ_ne_zero, or_true, true_or, true_implies, forall_eq', forall_eq, PyData.int.injEq, PyData.bool.injEq, PyData.list.injEq, PyData.tuple.injEq, List.cons.injEq, i_add, i_iadd, i_sub, i_mul, i_mod, i_fdiv, i_fdivG, i_pow, i_neg, i_le, i_ge, i_gt, i_lt, i_eq, i_ne, i_intI, i_intB, i_abs, i_max, i_min, i_lenL, i_lenT, i_ixL, i_ixT, i_tupL, i_tupT, i_truB, Bool.not_true, Bool.not_false, Bool.false_eq_true, if_true, if_false, reduceIte]
        rw [rng_ints]
        exact ⟨by omega, by omega, q⟩
      · simp -failIfUnchanged only [wip, wCallW, wForFv, forFvW, wMkX, wDic1, wMtX, wForPr, forPrW, wPNil, wPCons, wVar, wC, wOp, wUn, wCl, wB, wTr, wAnd, wOr, wNot, wAndV, wOrV, wNotV, wIf, wCh, wNil, wCons, wTup, wLe, wSz, wFn, wFnJ, wFnB, wFnJB, wBNil, wBCons, wBOwn, rsvP, rsvJ, wNext, wRet, wRetN, wDrop, wIfS, wSet, wSetOwn, wNever, wAug, wOpO, wIxO, wOpR, wClO, wApp, wSetIt, wFrz, wFor, wRg1, wRg2, wSq, wEnum, wZip, wZipM, wZipS, wZipU, wgN, wgT, wgNil, wgCons, wYes, wAsgT, wgLs, wLenS, wIxS, wFnS, wFnJL, wFnX, wRaise, wRaiseF, wForFn, forFnW, wMet, hide, wIsi, wListOf, wRev, edP, edJ, enP, enJ, enS, NotOwn, Flat, List.map_cons, List.map_nil, List.length_cons, List.length_nil, List.replicate_succ, List.replicate_zero, List.cons_append, List.nil_append, List.append_nil, List.set_cons_zero, List.set_cons_succ, List.getElem?_cons_zero, List.getElem?_cons_succ, Nat.reduceAdd, Nat.reduceSub, Option.some.injEq, Sl.imm.injEq, Sl.own.injEq, Sl.scr.injEq, exists_eq_left, exists_eq_left', exists_eq_right, exists_eq, exists_eq', exists_and_left, and_assoc, and_true, true_and, ne_eq, not_false_eq_true, Nat.succ_ne_zero, or_true, true_or, true_implies, forall_eq', forall_eq, PyData.int.injEq, PyData.bool.injEq, PyData.list.injEq, PyData.tuple.injEq, List.cons.injEq, i_add, i_iadd, i_sub, i_mul, i_mod, i_fdiv, i_fdivG, i_pow, i_neg, i_le, i_ge, i_gt, i_lt, i_eq, i_ne, i_intI, i_intB, i_abs, i_max, i_min, i_lenL, i_lenT, i_ixL, i_ixT, i_tupL, i_tupT, i_truB, Bool.not_true, Bool.not_false, Bool.false_eq_true, if_true, if_false, reduceIte]
        exact q
      · simp -failIfUnchanged only [wCallW, wForFv, forFvW, wMkX, wDic1, wMtX, wForPr, forPrW, wPNil, wPCons, wVar, wC, wOp, wUn, wCl, wB, wTr, wAnd, wOr, wNot, wAndV, wOrV, wNotV, wIf, wCh, wNil, wCons, wTup, wLe, wSz, wFn, wFnJ, wFnB, wFnJB, wBNil, wBCons, wBOwn, rsvP, rsvJ, wNext, wRet, wRetN, wDrop, wIfS, wSet, wSetOwn, wNever, wAug, wOpO, wIxO, wOpR, wClO, wApp, wSetIt, wFrz, wFor, wRg1, wRg2, wSq, wEnum, wZip, wZipM, wZipS, wZipU, wgN, wgT, wgNil, wgCons, wYes, wAsgT, wgLs, wLenS, wIxS, wFnS, wFnJL, wFnX, wRaise, wRaiseF, wForFn, forFnW, wMet, hide, wIsi, wListOf, wRev, edP, edJ, enP, enJ, enS, NotOwn, Flat, List.map_cons, List.map_nil, List.length_cons, List.length_nil, List.replicate_succ, List.replicate_zero, List.cons_append, List.nil_append, List.append_nil, List.set_cons_zero, List.set_cons_succ, List.getElem?_cons_zero, List.getElem?_cons_succ, Nat.reduceAdd, Nat.reduceSub, Option.some.injEq, Sl.imm.injEq, Sl.own.injEq, Sl.scr.injEq, exists_eq_left, exists_eq_left', exists_eq_right, exists_eq, exists_eq', exists_and_left, and_assoc, and_true, true_and, ne_eq, not_false_eq_true, Nat.succ_ne_zero, or_true, true_or, true_implies, forall_eq', forall_eq, PyData.int.injEq, PyData.bool.injEq, PyData.list.injEq, PyData.tuple.injEq, List.cons.injEq, i_add, i_iadd, i_sub, i_mul, i_mod, i_fdiv, i_fdivG, i_pow, i_neg, i_le, i_ge, i_gt, i_lt, i_eq, i_ne, i_intI, i_intB, i_abs, i_max, i_min, i_lenL, i_lenT, i_ixL, i_ixT, i_tupL, i_tupT, i_truB, Bool.not_true, Bool.not_false, Bool.false_eq_true, if_true, if_false, reduceIte]
        exact ⟨_, _, T, hd, x, rfl, hT, hm, q⟩
      · simp -failIfUnchanged only [wSl, wPart, wNoP, llI, wCallW, wForFv, forFvW, wMkX, wDic1, wMtX, wForPr, forPrW, wPNil, wPCons, wVar, wC, wOp, wUn, wCl, wB, wTr, wAnd, wOr, wNot, wAndV, wOrV, wNotV, wIf, wCh, wNil, wCons, wTup, wLe, wSz, wFn, wFnJ, wFnB, wFnJB, wBNil, wBCons, wBOwn, rsvP, rsvJ, wNext, wRet, wRetN, wDrop, wIfS, wSet, wSetOwn, wNever, wAug, wOpO, wIxO, wOpR, wClO, wApp, wSetIt, wFrz, wFor, wRg1, wRg2, wSq, wEnum, wZip, wZipM, wZipS, wZipU, wgN, wgT, wgNil, wgCons, wYes, wAsgT, wgLs, wLenS, wIxS, wFnS, wFnJL, wFnX, wRaise, wRaiseF, wForFn, forFnW, wMet, hide, wIsi, wListOf, wRev, edP, edJ, enP, enJ, enS, NotOwn, Flat, List.map_cons, List.map_nil, List.length_cons, List.length_nil, List.replicate_succ, List.replicate_zero, List.cons_append, List.nil_append, List.append_nil, List.set_cons_zero, List.set_cons_succ, List.getElem?_cons_zero, List.getElem?_cons_succ, Nat.reduceAdd, Nat.reduceSub, Option.some.injEq, Sl.imm.injEq, Sl.own.injEq, Sl.scr.injEq, exists_eq_left, exists_eq_left', exists_eq_right, exists_eq, exists_eq', exists_and_left, and_assoc, and_true, true_and, ne_eq, not_false_eq_true, Nat.succ_ne_zero, or_true, true_or, true_implies, forall_eq', forall_eq, PyData.int.injEq, PyData.bool.injEq, PyData.list.injEq, PyData.tuple.injEq, List.cons.injEq, i_add, i_iadd, i_sub, i_mul, i_mod, i_fdiv, i_fdivG, i_pow, i_neg, i_le, i_ge, i_gt, i_lt, i_eq, i_ne, i_intI, i_intB, i_abs, i_max, i_min, i_lenL, i_lenT, i_ixL, i_ixT, i_tupL, i_tupT, i_truB, Bool.not_true, Bool.not_false, Bool.false_eq_true, if_true, if_false, reduceIte]
        refine ⟨_, ixLm hT.ne, ?_⟩
        simp -failIfUnchanged only [lstI, wCallW, wForFv, forFvW, wMkX, wDic1, wMtX, wForPr, forPrW, wPNil, wPCons, wVar, wC, wOp, wUn, wCl, wB, wTr, wAnd, wOr, wNot, wAndV, wOrV, wNotV, wIf, wCh, wNil, wCons, wTup, wLe, wSz, wFn, wFnJ, wFnB, wFnJB, wBNil, wBCons, wBOwn, rsvP, rsvJ, wNext, wRet, wRetN, wDrop, wIfS, wSet, wSetOwn, wNever, wAug, wOpO, wIxO, wOpR, wClO, wApp, wSetIt, wFrz, wFor, wRg1, wRg2, wSq, wEnum, wZip, wZipM, wZipS, wZipU, wgN, wgT, wgNil, wgCons, wYes, wAsgT, wgLs, wLenS, wIxS, wFnS, wFnJL, wFnX, wRaise, wRaiseF, wForFn, forFnW, wMet, hide, wIsi, wListOf, wRev, edP, edJ, enP, enJ, enS, NotOwn, Flat, List.map_cons, List.map_nil, List.length_cons, List.length_nil, List.replicate_succ, List.replicate_zero, List.cons_append, List.nil_append, List.append_nil, List.set_cons_zero, List.set_cons_succ, List.getElem?_cons_zero, List.getElem?_cons_succ, Nat.reduceAdd, Nat.reduceSub, Option.some.injEq, Sl.imm.injEq, Sl.own.injEq, Sl.scr.injEq, exists_eq_left, exists_eq_left', exists_eq_right, exists_eq, exists_eq', exists_and_left, and_assoc, and_true, true_and, ne_eq, not_false_eq_true, Nat.succ_ne_zero, or_true, true_or, true_implies, forall_eq', forall_eq, PyData.int.injEq, PyData.bool.injEq, PyData.list.injEq, PyData.tuple.injEq, List.cons.injEq, i_add, i_iadd, i_sub, i_mul, i_mod, i_fdiv, i_fdivG, i_pow, i_neg, i_le, i_ge, i_gt, i_lt, i_eq, i_ne, i_intI, i_intB, i_abs, i_max, i_min, i_lenL, i_lenT, i_ixL, i_ixT, i_tupL, i_tupT, i_truB, Bool.not_true, Bool.not_false, Bool.false_eq_true, if_true, if_false, reduceIte]
        refine ⟨_, ixIm (hT.rne hT.last), _, ixLm hT.ne, Or.inl ⟨_, rfl, ?_⟩⟩
        rw [cut_hm, ← List.map_drop, ← List.map_dropLast]
        have e : (intsTo (h : Int)).map (fun x => PyData.int (hdN T hd x)) = (wtsS h (T, hd, b, none)).map .int := by
          unfold wtsS
          rw [List.map_map]
          rfl
        rw [e]
        exact ⟨by decide, q⟩
    · dsimp only at hc
      subst hc
      refine ⟨_, ⟨rfl, rfl⟩, true, rfl, ?_⟩
      rw [if_pos rfl]
      dsimp only at hl hrun
      have hc := hcn c rfl
      obtain ⟨_, _, o1, _⟩ := run_cases hrun
      have hT1 := (ok_of o1).1
      have Rr := hT.row (i := r) (by omega)
      (try dsimp only); rw [wSeq_eq]; simp -failIfUnchanged only [wCallW, wForFv, forFvW, wMkX, wDic1, wMtX, wForPr, forPrW, wPNil, wPCons, wVar, wC, wOp, wUn, wCl, wB, wTr, wAnd, wOr, wNot, wAndV, wOrV, wNotV, wIf, wCh, wNil, wCons, wTup, wLe, wSz, wFn, wFnJ, wFnB, wFnJB, wBNil, wBCons, wBOwn, rsvP, rsvJ, wNext, wRet, wRetN, wDrop, wIfS, wSet, wSetOwn, wNever, wAug, wOpO, wIxO, wOpR, wClO, wApp, wSetIt, wFrz, wFor, wRg1, wRg2, wSq, wEnum, wZip, wZipM, wZipS, wZipU, wgN, wgT, wgNil, wgCons, wYes, wAsgT, wgLs, wLenS, wIxS, wFnS, wFnJL, wFnX, wRaise, wRaiseF, wForFn, forFnW, wMet, hide, wIsi, wListOf, wRev, edP, edJ, enP, enJ, enS, NotOwn, Flat, List.map_cons, List.map_nil, List.length_cons, List.length_nil, List.replicate_succ, List.replicate_zero, List.cons_append, List.nil_append, List.append_nil, List.set_cons_zero, List.set_cons_succ, List.getElem?_cons_zero, List.getElem?_cons_succ, Nat.reduceAdd, Nat.reduceSub, Option.some.injEq, Sl.imm.injEq, Sl.own.injEq, Sl.scr.injEq, exists_eq_left, exists_eq_left', exists_eq_right, exists_eq, exists_eq', exists_and_left, and_assoc, and_true, true_and, ne_eq, not_false_eq_true, Nat.succ_ne_zero, or_true, true_or, true_implies, forall_eq', forall_eq, PyData.int.injEq, PyData.bool.injEq, PyData.list.injEq, PyData.tuple.injEq, List.cons.injEq, i_add, i_iadd, i_sub, i_mul, i_mod, i_fdiv, i_fdivG, i_pow, i_neg, i_le, i_ge, i_gt, i_lt, i_eq, i_ne, i_intI, i_intB, i_abs, i_max, i_min, i_lenL, i_lenT, i_ixL, i_ixT, i_tupL, i_tupT, i_truB, Bool.not_true, Bool.not_false, Bool.false_eq_true, if_true, if_false, reduceIte]
      refine ⟨_, _, T, hd, c, rfl, hT, hm, hc, ?_⟩
      rw [hl]
      refine ⟨rfl, ?_⟩
      (try dsimp only); rw [wSeq_eq]; simp -failIfUnchanged only [wCallW, wForFv, forFvW, wMkX, wDic1, wMtX, wForPr, forPrW, wPNil, wPCons, wVar, wC, wOp, wUn, wCl, wB, wTr, wAnd, wOr, wNot, wAndV, wOrV, wNotV, wIf, wCh, wNil, wCons, wTup, wLe, wSz, wFn, wFnJ, wFnB, wFnJB, wBNil, wBCons, wBOwn, rsvP, rsvJ, wNext, wRet, wRetN, wDrop, wIfS, wSet, wSetOwn, wNever, wAug, wOpO, wIxO, wOpR, wClO, wApp, wSetIt, wFrz, wFor, wRg1, wRg2, wSq, wEnum, wZip, wZipM, wZipS, wZipU, wgN, wgT, wgNil, wgCons, wYes, wAsgT, wgLs, wLenS, wIxS, wFnS, wFnJL, wFnX, wRaise, wRaiseF, wForFn, forFnW, wMet, hide, wIsi, wListOf, wRev, edP, edJ, enP, enJ, enS, NotOwn, Flat, List.map_cons, List.map_nil, List.length_cons, List.length_nil, List.replicate_succ, List.replicate_zero, List.cons_append, List.nil_append, List.append_nil, List.set_cons_zero, List.set_cons_succ, List.getElem?_cons_zero, List.getElem?_cons_succ, Nat.reduceAdd, Nat.reduceSub, Option.some.injEq, Sl.imm.injEq, Sl.own.injEq, Sl.scr.injEq, exists_eq_left, exists_eq_left', exists_eq_right, exists_eq, exists_eq', exists_and_left, and_assoc, and_true, true_and, ne_eq, not_false_eq_true, Nat.succ_ne_zero, or_true, true_or, true_implies, forall_eq', forall_eq, PyData.int.injEq, PyData.bool.injEq, PyData.list.injEq, PyData.tuple.injEq, List.cons.injEq, i_add, i_iadd, i_sub, i_mul, i_mod, i_fdiv, i_fdivG, i_pow, i_neg, i_le, i_ge, i_gt, i_lt, i_eq, i_ne, i_intI, i_intB, i_abs, i_max, i_min, i_lenL, i_lenT, i_ixL, i_ixT, i_tupL, i_tupT, i_truB, Bool.not_true, Bool.not_false, Bool.false_eq_true, if_true, if_false, reduceIte]
      refine ⟨_, (ixL (by rw [hT.len]; omega) : dIx (llI T) (.int (r : Nat)) _), _, (ixI (by rw [hT.rows _ Rr]; exact hc) : dIx (lstI (T.getD r [])) (.int (c : Nat)) _), ?_⟩
      (try dsimp only); rw [wSeq_eq]; simp -failIfUnchanged only [wCallW, wForFv, forFvW, wMkX, wDic1, wMtX, wForPr, forPrW, wPNil, wPCons, wVar, wC, wOp, wUn, wCl, wB, wTr, wAnd, wOr, wNot, wAndV, wOrV, wNotV, wIf, wCh, wNil, wCons, wTup, wLe, wSz, wFn, wFnJ, wFnB, wFnJB, wBNil, wBCons, wBOwn, rsvP, rsvJ, wNext, wRet, wRetN, wDrop, wIfS, wSet, wSetOwn, wNever, wAug, wOpO, wIxO, wOpR, wClO, wApp, wSetIt, wFrz, wFor, wRg1, wRg2, wSq, wEnum, wZip, wZipM, wZipS, wZipU, wgN, wgT, wgNil, wgCons, wYes, wAsgT, wgLs, wLenS, wIxS, wFnS, wFnJL, wFnX, wRaise, wRaiseF, wForFn, forFnW, wMet, hide, wIsi, wListOf, wRev, edP, edJ, enP, enJ, enS, NotOwn, Flat, List.map_cons, List.map_nil, List.length_cons, List.length_nil, List.replicate_succ, List.replicate_zero, List.cons_append, List.nil_append, List.append_nil, List.set_cons_zero, List.set_cons_succ, List.getElem?_cons_zero, List.getElem?_cons_succ, Nat.reduceAdd, Nat.reduceSub, Option.some.injEq, Sl.imm.injEq, Sl.own.injEq, Sl.scr.injEq, exists_eq_left, exists_eq_left', exists_eq_right, exists_eq, exists_eq', exists_and_left, and_assoc, and_true, true_and, ne_eq, not_false_eq_true, Nat.succ_ne_zero, or_true, true_or, true_implies, forall_eq', forall_eq, PyData.int.injEq, PyData.bool.injEq, PyData.list.injEq, PyData.tuple.injEq, List.cons.injEq, i_add, i_iadd, i_sub, i_mul, i_mod, i_fdiv, i_fdivG, i_pow, i_neg, i_le, i_ge, i_gt, i_lt, i_eq, i_ne, i_intI, i_intB, i_abs, i_max, i_min, i_lenL, i_lenT, i_ixL, i_ixT, i_tupL, i_tupT, i_truB, Bool.not_true, Bool.not_false, Bool.false_eq_true, if_true, if_false, reduceIte]
      refine ⟨_, _, T, r, c, b, rfl, hT, hrm, hc, hb, hb9, ?_⟩
      dsimp only
      (try dsimp only); rw [wSeq_eq]; simp -failIfUnchanged only [wCallW, wForFv, forFvW, wMkX, wDic1, wMtX, wForPr, forPrW, wPNil, wPCons, wVar, wC, wOp, wUn, wCl, wB, wTr, wAnd, wOr, wNot, wAndV, wOrV, wNotV, wIf, wCh, wNil, wCons, wTup, wLe, wSz, wFn, wFnJ, wFnB, wFnJB, wBNil, wBCons, wBOwn, rsvP, rsvJ, wNext, wRet, wRetN, wDrop, wIfS, wSet, wSetOwn, wNever, wAug, wOpO, wIxO, wOpR, wClO, wApp, wSetIt, wFrz, wFor, wRg1, wRg2, wSq, wEnum, wZip, wZipM, wZipS, wZipU, wgN, wgT, wgNil, wgCons, wYes, wAsgT, wgLs, wLenS, wIxS, wFnS, wFnJL, wFnX, wRaise, wRaiseF, wForFn, forFnW, wMet, hide, wIsi, wListOf, wRev, edP, edJ, enP, enJ, enS, NotOwn, Flat, List.map_cons, List.map_nil, List.length_cons, List.length_nil, List.replicate_succ, List.replicate_zero, List.cons_append, List.nil_append, List.append_nil, List.set_cons_zero, List.set_cons_succ, List.getElem?_cons_zero, List.getElem?_cons_succ, Nat.reduceAdd, Nat.reduceSub, Option.some.injEq, Sl.imm.injEq, Sl.own.injEq, Sl.scr.injEq, exists_eq_left, exists_eq_left', exists_eq_right, exists_eq, exists_eq', exists_and_left, and_assoc, and_true, true_and, ne_eq, not_false_eq_true, Nat.succ_ne_zero, or_true, true_or, true_implies, forall_eq', forall_eq, PyData.int.injEq, PyData.bool.injEq, PyData.list.injEq, PyData.tuple.injEq, List.cons.injEq, i_add, i_iadd, i_sub, i_mul, i_mod, i_fdiv, i_fdivG, i_pow, i_neg, i_le, i_ge, i_gt, i_lt, i_eq, i_ne, i_intI, i_intB, i_abs, i_max, i_min, i_lenL, i_lenT, i_ixL, i_ixT, i_tupL, i_tupT, i_truB, Bool.not_true, Bool.not_false, Bool.false_eq_true, if_true, if_false, reduceIte]
      refine ⟨r, rfl, r, ?_, ?_⟩
      · rw [List.length_map, hm]
        unfold ixN
        rw [if_pos (by omega), if_pos (by omega), Int.toNat_natCast]
      (try dsimp only); rw [wSeq_eq]; simp -failIfUnchanged only [wCallW, wForFv, forFvW, wMkX, wDic1, wMtX, wForPr, forPrW, wPNil, wPCons, wVar, wC, wOp, wUn, wCl, wB, wTr, wAnd, wOr, wNot, wAndV, wOrV, wNotV, wIf, wCh, wNil, wCons, wTup, wLe, wSz, wFn, wFnJ, wFnB, wFnJB, wBNil, wBCons, wBOwn, rsvP, rsvJ, wNext, wRet, wRetN, wDrop, wIfS, wSet, wSetOwn, wNever, wAug, wOpO, wIxO, wOpR, wClO, wApp, wSetIt, wFrz, wFor, wRg1, wRg2, wSq, wEnum, wZip, wZipM, wZipS, wZipU, wgN, wgT, wgNil, wgCons, wYes, wAsgT, wgLs, wLenS, wIxS, wFnS, wFnJL, wFnX, wRaise, wRaiseF, wForFn, forFnW, wMet, hide, wIsi, wListOf, wRev, edP, edJ, enP, enJ, enS, NotOwn, Flat, List.map_cons, List.map_nil, List.length_cons, List.length_nil, List.replicate_succ, List.replicate_zero, List.cons_append, List.nil_append, List.append_nil, List.set_cons_zero, List.set_cons_succ, List.getElem?_cons_zero, List.getElem?_cons_succ, Nat.reduceAdd, Nat.reduceSub, Option.some.injEq, Sl.imm.injEq, Sl.own.injEq, Sl.scr.injEq, exists_eq_left, exists_eq_left', exists_eq_right, exists_eq, exists_eq', exists_and_left, and_assoc, and_true, true_and, ne_eq, not_false_eq_true, Nat.succ_ne_zero, or_true, true_or, true_implies, forall_eq', forall_eq, PyData.int.injEq, PyData.bool.injEq, PyData.list.injEq, PyData.tuple.injEq, List.cons.injEq, i_add, i_iadd, i_sub, i_mul, i_mod, i_fdiv, i_fdivG, i_pow, i_neg, i_le, i_ge, i_gt, i_lt, i_eq, i_ne, i_intI, i_intB, i_abs, i_max, i_min, i_lenL, i_lenT, i_ixL, i_ixT, i_tupL, i_tupT, i_truB, Bool.not_true, Bool.not_false, Bool.false_eq_true, if_true, if_false, reduceIte]
      simp -failIfUnchanged only [wCallW, wForFv, forFvW, wMkX, wDic1, wMtX, wForPr, forPrW, wPNil, wPCons, wVar, wC, wOp, wUn, wCl, wB, wTr, wAnd, wOr, wNot, wAndV, wOrV, wNotV, wIf, wCh, wNil, wCons, wTup, wLe, wSz, wFn, wFnJ, wFnB, wFnJB, wBNil, wBCons, wBOwn, rsvP, rsvJ, wNext, wRet, wRetN, wDrop, wIfS, wSet, wSetOwn, wNever, wAug, wOpO, wIxO, wOpR, wClO, wApp, wSetIt, wFrz, wFor, wRg1, wRg2, wSq, wEnum, wZip, wZipM, wZipS, wZipU, wgN, wgT, wgNil, wgCons, wYes, wAsgT, wgLs, wLenS, wIxS, wFnS, wFnJL, wFnX, wRaise, wRaiseF, wForFn, forFnW, wMet, hide, wIsi, wListOf, wRev, edP, edJ, enP, enJ, enS, NotOwn, Flat, List.map_cons, List.map_nil, List.length_cons, List.length_nil, List.replicate_succ, List.replicate_zero, List.cons_append, List.nil_append, List.append_nil, List.set_cons_zero, List.set_cons_succ, List.getElem?_cons_zero, List.getElem?_cons_succ, Nat.reduceAdd, Nat.reduceSub, Option.some.injEq, Sl.imm.injEq, Sl.own.injEq, Sl.scr.injEq, exists_eq_left, exists_eq_left', exists_eq_right, exists_eq, exists_eq', exists_and_left, and_assoc, and_true, true_and, ne_eq, not_false_eq_true, Nat.succ_ne_zero, or_true, true_or, true_implies, forall_eq', forall_eq, PyData.int.injEq, PyData.bool.injEq, PyData.list.injEq, PyData.tuple.injEq, List.cons.injEq, i_add, i_iadd, i_sub, i_mul, i_mod, i_fdiv, i_fdivG, i_pow, i_neg, i_le, i_ge, i_gt, i_lt, i_eq, i_ne, i_intI, i_intB, i_abs, i_max, i_min, i_lenL, i_lenT, i_ixL, i_ixT, i_tupL, i_tupT, i_truB, Bool.not_true, Bool.not_false, Bool.false_eq_true, if_true, if_false, reduceIte]
      refine ⟨_, _, exch T r c b, rfl, hT1, f, by omega, _, hrun, ?_⟩
      have e : (hd.map PyData.int).set r (optN (some c)) = (hd.set r (c : Int)).map PyData.int := by rw [List.map_set]; rfl
      rw [e]
      exact ⟨rfl, rfl, rfl, rfl⟩
theorem b64 {b : Int} (h : Lt9 b) : b.natAbs < BB * BB := Nat.lt_trans (show b.natAbs < 2 ^ 31 by have := h.1; have := h.2; omega) (by unfold BB; rw [← Nat.pow_add]; exact Nat.pow_lt_pow_right (by decide) (by decide))
theorem sol_ok {h : Nat} {rs : List (List Int)} {s : SS} (hs : solS h rs = some s) : s.2.2.1 ≠ 0 ∧ Lt9 s.2.2.1 ∧ Shp rs.length (h + rs.length + 1) s.1 := by
  have key : ∀ (f : Nat) (s0 : SS), runS rs.length (h + rs.length + 1) f s0 = some s → okS rs.length (h + rs.length + 1) s = true := by
    intro f
    induction f with
    | zero => intro s0 e; cases e
    | succ f ih =>
      intro s0 e
      obtain ⟨f', e1, ho, ⟨_, rfl⟩ | ⟨c, r, _, _, _, hr⟩⟩ := run_cases e
      · exact ho
      · have : f' = f := by omega
        subst this
        exact ih _ hr
  obtain ⟨T, hd, b, col⟩ := s
  obtain ⟨h1, _, h3, h4, _⟩ := ok_of (key _ _ hs)
  exact ⟨h3, h4, h1⟩
theorem pu_weights_answer (ds Q R) (hl : ds.length = 2) (h : wf_weights_answer ds Q R) : ws_weights_answer (fun e _ => R e) (edP Q) (enP N_weights_answer ds) := by
  obtain ⟨h, rs, s, rfl, hS, hF, hs, q⟩ := h
  obtain ⟨h1, h6, hL⟩ := id hS
  have h12 := hL.1
  obtain ⟨hb, hb9, hT⟩ := sol_ok hs
  unfold ws_weights_answer
  (try dsimp only); rw [wSeq_eq]; simp -failIfUnchanged only [N_weights_answer, wCallW, wForFv, forFvW, wMkX, wDic1, wMtX, wForPr, forPrW, wPNil, wPCons, wVar, wC, wOp, wUn, wCl, wB, wTr, wAnd, wOr, wNot, wAndV, wOrV, wNotV, wIf, wCh, wNil, wCons, wTup, wLe, wSz, wFn, wFnJ, wFnB, wFnJB, wBNil, wBCons, wBOwn, rsvP, rsvJ, wNext, wRet, wRetN, wDrop, wIfS, wSet, wSetOwn, wNever, wAug, wOpO, wIxO, wOpR, wClO, wApp, wSetIt, wFrz, wFor, wRg1, wRg2, wSq, wEnum, wZip, wZipM, wZipS, wZipU, wgN, wgT, wgNil, wgCons, wYes, wAsgT, wgLs, wLenS, wIxS, wFnS, wFnJL, wFnX, wRaise, wRaiseF, wForFn, forFnW, wMet, hide, wIsi, wListOf, wRev, edP, edJ, enP, enJ, enS, NotOwn, Flat, List.map_cons, List.map_nil, List.length_cons, List.length_nil, List.replicate_succ, List.replicate_zero, List.cons_append, List.nil_append, List.append_nil, List.set_cons_zero, List.set_cons_succ, List.getElem?_cons_zero, List.getElem?_cons_succ, Nat.reduceAdd, Nat.reduceSub, Option.some.injEq, Sl.imm.injEq, Sl.own.injEq, Sl.scr.injEq, exists_eq_left, exists_eq_left', exists_eq_right, exists_eq, exists_eq', exists_and_left, and_assoc, and_true, true_and, ne_eq, not_false_eq_true, Nat.succ_ne_zero, or_true, true_or, true_implies, forall_eq', forall_eq, PyData.int.injEq, PyData.bool.injEq, PyData.list.injEq, PyData.tuple.injEq, List.cons.injEq, i_add, i_iadd, i_sub, i_mul, i_mod, i_fdiv, i_fdivG, i_pow, i_neg, i_le, i_ge, i_gt, i_lt, i_eq, i_ne, i_intI, i_intB, i_abs, i_max, i_min, i_lenL, i_lenT, i_ixL, i_ixT, i_tupL, i_tupT, i_truB, Bool.not_true, Bool.not_false, Bool.false_eq_true, if_true, if_false, reduceIte]
  refine ⟨_, _, rfl, hcY (by omega) (by omega) hL ?_⟩
  (try dsimp only); rw [wSeq_eq]; simp -failIfUnchanged only [wCallW, wForFv, forFvW, wMkX, wDic1, wMtX, wForPr, forPrW, wPNil, wPCons, wVar, wC, wOp, wUn, wCl, wB, wTr, wAnd, wOr, wNot, wAndV, wOrV, wNotV, wIf, wCh, wNil, wCons, wTup, wLe, wSz, wFn, wFnJ, wFnB, wFnJB, wBNil, wBCons, wBOwn, rsvP, rsvJ, wNext, wRet, wRetN, wDrop, wIfS, wSet, wSetOwn, wNever, wAug, wOpO, wIxO, wOpR, wClO, wApp, wSetIt, wFrz, wFor, wRg1, wRg2, wSq, wEnum, wZip, wZipM, wZipS, wZipU, wgN, wgT, wgNil, wgCons, wYes, wAsgT, wgLs, wLenS, wIxS, wFnS, wFnJL, wFnX, wRaise, wRaiseF, wForFn, forFnW, wMet, hide, wIsi, wListOf, wRev, edP, edJ, enP, enJ, enS, NotOwn, Flat, List.map_cons, List.map_nil, List.length_cons, List.length_nil, List.replicate_succ, List.replicate_zero, List.cons_append, List.nil_append, List.append_nil, List.set_cons_zero, List.set_cons_succ, List.getElem?_cons_zero, List.getElem?_cons_succ, Nat.reduceAdd, Nat.reduceSub, Option.some.injEq, Sl.imm.injEq, Sl.own.injEq, Sl.scr.injEq, exists_eq_left, exists_eq_left', exists_eq_right, exists_eq, exists_eq', exists_and_left, and_assoc, and_true, true_and, ne_eq, not_false_eq_true, Nat.succ_ne_zero, or_true, true_or, true_implies, forall_eq', forall_eq, PyData.int.injEq, PyData.bool.injEq, PyData.list.injEq, PyData.tuple.injEq, List.cons.injEq, i_add, i_iadd, i_sub, i_mul, i_mod, i_fdiv, i_fdivG, i_pow, i_neg, i_le, i_ge, i_gt, i_lt, i_eq, i_ne, i_intI, i_intB, i_abs, i_max, i_min, i_lenL, i_lenT, i_ixL, i_ixT, i_tupL, i_tupT, i_truB, Bool.not_true, Bool.not_false, Bool.false_eq_true, if_true, if_false, reduceIte]
  refine ⟨_, rs, rfl, by omega, by omega, by omega, ?_⟩
  rw [hF]
  (try dsimp only); rw [wSeq_eq]; simp -failIfUnchanged only [wCallW, wForFv, forFvW, wMkX, wDic1, wMtX, wForPr, forPrW, wPNil, wPCons, wVar, wC, wOp, wUn, wCl, wB, wTr, wAnd, wOr, wNot, wAndV, wOrV, wNotV, wIf, wCh, wNil, wCons, wTup, wLe, wSz, wFn, wFnJ, wFnB, wFnJB, wBNil, wBCons, wBOwn, rsvP, rsvJ, wNext, wRet, wRetN, wDrop, wIfS, wSet, wSetOwn, wNever, wAug, wOpO, wIxO, wOpR, wClO, wApp, wSetIt, wFrz, wFor, wRg1, wRg2, wSq, wEnum, wZip, wZipM, wZipS, wZipU, wgN, wgT, wgNil, wgCons, wYes, wAsgT, wgLs, wLenS, wIxS, wFnS, wFnJL, wFnX, wRaise, wRaiseF, wForFn, forFnW, wMet, hide, wIsi, wListOf, wRev, edP, edJ, enP, enJ, enS, NotOwn, Flat, List.map_cons, List.map_nil, List.length_cons, List.length_nil, List.replicate_succ, List.replicate_zero, List.cons_append, List.nil_append, List.append_nil, List.set_cons_zero, List.set_cons_succ, List.getElem?_cons_zero, List.getElem?_cons_succ, Nat.reduceAdd, Nat.reduceSub, Option.some.injEq, Sl.imm.injEq, Sl.own.injEq, Sl.scr.injEq, exists_eq_left, exists_eq_left', exists_eq_right, exists_eq, exists_eq', exists_and_left, and_assoc, and_true, true_and, ne_eq, not_false_eq_true, Nat.succ_ne_zero, or_true, true_or, true_implies, forall_eq', forall_eq, PyData.int.injEq, PyData.bool.injEq, PyData.list.injEq, PyData.tuple.injEq, List.cons.injEq, i_add, i_iadd, i_sub, i_mul, i_mod, i_fdiv, i_fdivG, i_pow, i_neg, i_le, i_ge, i_gt, i_lt, i_eq, i_ne, i_intI, i_intB, i_abs, i_max, i_min, i_lenL, i_lenT, i_ixL, i_ixT, i_tupL, i_tupT, i_truB, Bool.not_true, Bool.not_false, Bool.false_eq_true, if_true, if_false, reduceIte]
  refine ⟨false, rfl, ?_⟩
  rw [if_neg Bool.false_ne_true]
  (try dsimp only); rw [wSeq_eq]; simp -failIfUnchanged only [wCallW, wForFv, forFvW, wMkX, wDic1, wMtX, wForPr, forPrW, wPNil, wPCons, wVar, wC, wOp, wUn, wCl, wB, wTr, wAnd, wOr, wNot, wAndV, wOrV, wNotV, wIf, wCh, wNil, wCons, wTup, wLe, wSz, wFn, wFnJ, wFnB, wFnJB, wBNil, wBCons, wBOwn, rsvP, rsvJ, wNext, wRet, wRetN, wDrop, wIfS, wSet, wSetOwn, wNever, wAug, wOpO, wIxO, wOpR, wClO, wApp, wSetIt, wFrz, wFor, wRg1, wRg2, wSq, wEnum, wZip, wZipM, wZipS, wZipU, wgN, wgT, wgNil, wgCons, wYes, wAsgT, wgLs, wLenS, wIxS, wFnS, wFnJL, wFnX, wRaise, wRaiseF, wForFn, forFnW, wMet, hide, wIsi, wListOf, wRev, edP, edJ, enP, enJ, enS, NotOwn, Flat, List.map_cons, List.map_nil, List.length_cons, List.length_nil, List.replicate_succ, List.replicate_zero, List.cons_append, List.nil_append, List.append_nil, List.set_cons_zero, List.set_cons_succ, List.getElem?_cons_zero, List.getElem?_cons_succ, Nat.reduceAdd, Nat.reduceSub, Option.some.injEq, Sl.imm.injEq, Sl.own.injEq, Sl.scr.injEq, exists_eq_left, exists_eq_left', exists_eq_right, exists_eq, exists_eq', exists_and_left, and_assoc, and_true, true_and, ne_eq, not_false_eq_true, Nat.succ_ne_zero, or_true, true_or, true_implies, forall_eq', forall_eq, PyData.int.injEq, PyData.bool.injEq, PyData.list.injEq, PyData.tuple.injEq, List.cons.injEq, i_add, i_iadd, i_sub, i_mul, i_mod, i_fdiv, i_fdivG, i_pow, i_neg, i_le, i_ge, i_gt, i_lt, i_eq, i_ne, i_intI, i_intB, i_abs, i_max, i_min, i_lenL, i_lenT, i_ixL, i_ixT, i_tupL, i_tupT, i_truB, Bool.not_true, Bool.not_false, Bool.false_eq_true, if_true, if_false, reduceIte]
  refine ⟨h, rs, s, rfl, hS, hs, ?_⟩
  simp -failIfUnchanged only [wCallW, wForFv, forFvW, wMkX, wDic1, wMtX, wForPr, forPrW, wPNil, wPCons, wVar, wC, wOp, wUn, wCl, wB, wTr, wAnd, wOr, wNot, wAndV, wOrV, wNotV, wIf, wCh, wNil, wCons, wTup, wLe, wSz, wFn, wFnJ, wFnB, wFnJB, wBNil, wBCons, wBOwn, rsvP, rsvJ, wNext, wRet, wRetN, wDrop, wIfS, wSet, wSetOwn, wNever, wAug, wOpO, wIxO, wOpR, wClO, wApp, wSetIt, wFrz, wFor, wRg1, wRg2, wSq, wEnum, wZip, wZipM, wZipS, wZipU, wgN, wgT, wgNil, wgCons, wYes, wAsgT, wgLs, wLenS, wIxS, wFnS, wFnJL, wFnX, wRaise, wRaiseF, wForFn, forFnW, wMet, hide, wIsi, wListOf, wRev, edP, edJ, enP, enJ, enS, NotOwn, Flat, List.map_cons, List.map_nil, List.length_cons, List.length_nil, List.replicate_succ, List.replicate_zero, List.cons_append, List.nil_append, List.append_nil, List.set_cons_zero, List.set_cons_succ, List.getElem?_cons_zero, List.getElem?_cons_succ, Nat.reduceAdd, Nat.reduceSub, Option.some.injEq, Sl.imm.injEq, Sl.own.injEq, Sl.scr.injEq, exists_eq_left, exists_eq_left', exists_eq_right, exists_eq, exists_eq', exists_and_left, and_assoc, and_true, true_and, ne_eq, not_false_eq_true, Nat.succ_ne_zero, or_true, true_or, true_implies, forall_eq', forall_eq, PyData.int.injEq, PyData.bool.injEq, PyData.list.injEq, PyData.tuple.injEq, List.cons.injEq, i_add, i_iadd, i_sub, i_mul, i_mod, i_fdiv, i_fdivG, i_pow, i_neg, i_le, i_ge, i_gt, i_lt, i_eq, i_ne, i_intI, i_intB, i_abs, i_max, i_min, i_lenL, i_lenT, i_ixL, i_ixT, i_tupL, i_tupT, i_truB, Bool.not_true, Bool.not_false, Bool.false_eq_true, if_true, if_false, reduceIte]
  (try dsimp only); rw [wSeq_eq]; simp -failIfUnchanged only [wCallW, wForFv, forFvW, wMkX, wDic1, wMtX, wForPr, forPrW, wPNil, wPCons, wVar, wC, wOp, wUn, wCl, wB, wTr, wAnd, wOr, wNot, wAndV, wOrV, wNotV, wIf, wCh, wNil, wCons, wTup, wLe, wSz, wFn, wFnJ, wFnB, wFnJB, wBNil, wBCons, wBOwn, rsvP, rsvJ, wNext, wRet, wRetN, wDrop, wIfS, wSet, wSetOwn, wNever, wAug, wOpO, wIxO, wOpR, wClO, wApp, wSetIt, wFrz, wFor, wRg1, wRg2, wSq, wEnum, wZip, wZipM, wZipS, wZipU, wgN, wgT, wgNil, wgCons, wYes, wAsgT, wgLs, wLenS, wIxS, wFnS, wFnJL, wFnX, wRaise, wRaiseF, wForFn, forFnW, wMet, hide, wIsi, wListOf, wRev, edP, edJ, enP, enJ, enS, NotOwn, Flat, List.map_cons, List.map_nil, List.length_cons, List.length_nil, List.replicate_succ, List.replicate_zero, List.cons_append, List.nil_append, List.append_nil, List.set_cons_zero, List.set_cons_succ, List.getElem?_cons_zero, List.getElem?_cons_succ, Nat.reduceAdd, Nat.reduceSub, Option.some.injEq, Sl.imm.injEq, Sl.own.injEq, Sl.scr.injEq, exists_eq_left, exists_eq_left', exists_eq_right, exists_eq, exists_eq', exists_and_left, and_assoc, and_true, true_and, ne_eq, not_false_eq_true, Nat.succ_ne_zero, or_true, true_or, true_implies, forall_eq', forall_eq, PyData.int.injEq, PyData.bool.injEq, PyData.list.injEq, PyData.tuple.injEq, List.cons.injEq, i_add, i_iadd, i_sub, i_mul, i_mod, i_fdiv, i_fdivG, i_pow, i_neg, i_le, i_ge, i_gt, i_lt, i_eq, i_ne, i_intI, i_intB, i_abs, i_max, i_min, i_lenL, i_lenT, i_ixL, i_ixT, i_tupL, i_tupT, i_truB, Bool.not_true, Bool.not_false, Bool.false_eq_true, if_true, if_false, reduceIte]
  have cl : (cvrS h s).length ≤ 200 := by
    unfold cvrS
    rw [List.length_dropLast, List.length_drop, hT.rows _ hT.last]
    omega
  have low : ∀ (ns : List Int), (ns.map fun x => fr (Rat.divInt x s.2.2.1)).length = ns.length := fun ns => List.length_map _
  refine lcY (α := Int) (e1 := [.imm (.int h), .imm (rowsD rs), .imm (rowD []), .imm (.int (topS s)), .imm (lstI (wtsS h s)), .imm (lstI (cvrS h s)), .imm (.int s.2.2.1), .un, .un, .un]) (X := .int) (f := fun x => fr (Rat.divInt x s.2.2.1)) (xs := wtsS h s) (fun x => [.imm (.int h), .imm (rowsD rs), .imm (rowD []), .imm (.int (topS s)), .imm (lstI (wtsS h s)), .imm (lstI (cvrS h s)), .imm (.int s.2.2.1), .un, .un, .imm (.int x)]) (by decide) (fun Q q => ⟨_, rfl, _, Or.inl rfl, q⟩) (no1 trivial) (by unfold wtsS; rw [List.length_map, intsTo_len]; exact sl200 (by omega)) (fun _ => rfl) (fun x hx Q q => ?_) (fun x hx Q q => ?_) ?_
  · simp -failIfUnchanged only [wip, wCallW, wForFv, forFvW, wMkX, wDic1, wMtX, wForPr, forPrW, wPNil, wPCons, wVar, wC, wOp, wUn, wCl, wB, wTr, wAnd, wOr, wNot, wAndV, wOrV, wNotV, wIf, wCh, wNil, wCons, wTup, wLe, wSz, wFn, wFnJ, wFnB, wFnJB, wBNil, wBCons, wBOwn, rsvP, rsvJ, wNext, wRet, wRetN, wDrop, wIfS, wSet, wSetOwn, wNever, wAug, wOpO, wIxO, wOpR, wClO, wApp, wSetIt, wFrz, wFor, wRg1, wRg2, wSq, wEnum, wZip, wZipM, wZipS, wZipU, wgN, wgT, wgNil, wgCons, wYes, wAsgT, wgLs, wLenS, wIxS, wFnS, wFnJL, wFnX, wRaise, wRaiseF, wForFn, forFnW, wMet, hide, wIsi, wListOf, wRev, edP, edJ, enP, enJ, enS, NotOwn, Flat, List.map_cons, List.map_nil, List.length_cons, List.length_nil, List.replicate_succ, List.replicate_zero, List.cons_append, List.nil_append, List.append_nil, List.set_cons_zero, List.set_cons_succ, List.getElem?_cons_zero, List.getElem?_cons_succ, Nat.reduceAdd, Nat.reduceSub, Option.some.injEq, Sl.imm.injEq, Sl.own.injEq, Sl.scr.injEq, exists_eq_left, exists_eq_left', exists_eq_right, exists_eq, exists_eq', exists_and_left, and_assoc, and_true, true_and, ne_eq, not_false_eq_true, Nat.succ_ne_zero, or_true, true_or, true_implies, forall_eq', forall_eq, PyData.int.injEq, PyData.bool.injEq, PyData.list.injEq, PyData.tuple.injEq, List.cons.injEq, i_add, i_iadd, i_sub, i_mul, i_mod, i_fdiv, i_fdivG, i_pow, i_neg, i_le, i_ge, i_gt, i_lt, i_eq, i_ne, i_intI, i_intB, i_abs, i_max, i_min, i_lenL, i_lenT, i_ixL, i_ixT, i_tupL, i_tupT, i_truB, Bool.not_true, Bool.not_false, Bool.false_eq_true, if_true, if_false, reduceIte]
    exact q
  · simp -failIfUnchanged only [wCallW, wForFv, forFvW, wMkX, wDic1, wMtX, wForPr, forPrW, wPNil, wPCons, wVar, wC, wOp, wUn, wCl, wB, wTr, wAnd, wOr, wNot, wAndV, wOrV, wNotV, wIf, wCh, wNil, wCons, wTup, wLe, wSz, wFn, wFnJ, wFnB, wFnJB, wBNil, wBCons, wBOwn, rsvP, rsvJ, wNext, wRet, wRetN, wDrop, wIfS, wSet, wSetOwn, wNever, wAug, wOpO, wIxO, wOpR, wClO, wApp, wSetIt, wFrz, wFor, wRg1, wRg2, wSq, wEnum, wZip, wZipM, wZipS, wZipU, wgN, wgT, wgNil, wgCons, wYes, wAsgT, wgLs, wLenS, wIxS, wFnS, wFnJL, wFnX, wRaise, wRaiseF, wForFn, forFnW, wMet, hide, wIsi, wListOf, wRev, edP, edJ, enP, enJ, enS, NotOwn, Flat, List.map_cons, List.map_nil, List.length_cons, List.length_nil, List.replicate_succ, List.replicate_zero, List.cons_append, List.nil_append, List.append_nil, List.set_cons_zero, List.set_cons_succ, List.getElem?_cons_zero, List.getElem?_cons_succ, Nat.reduceAdd, Nat.reduceSub, Option.some.injEq, Sl.imm.injEq, Sl.own.injEq, Sl.scr.injEq, exists_eq_left, exists_eq_left', exists_eq_right, exists_eq, exists_eq', exists_and_left, and_assoc, and_true, true_and, ne_eq, not_false_eq_true, Nat.succ_ne_zero, or_true, true_or, true_implies, forall_eq', forall_eq, PyData.int.injEq, PyData.bool.injEq, PyData.list.injEq, PyData.tuple.injEq, List.cons.injEq, i_add, i_iadd, i_sub, i_mul, i_mod, i_fdiv, i_fdivG, i_pow, i_neg, i_le, i_ge, i_gt, i_lt, i_eq, i_ne, i_intI, i_intB, i_abs, i_max, i_min, i_lenL, i_lenT, i_ixL, i_ixT, i_tupL, i_tupT, i_truB, Bool.not_true, Bool.not_false, Bool.false_eq_true, if_true, if_false, reduceIte]
    exact ⟨x, _, rfl, hb, b64 hb9, q⟩
  (try dsimp only); rw [wSeq_eq]; simp -failIfUnchanged only [wCallW, wForFv, forFvW, wMkX, wDic1, wMtX, wForPr, forPrW, wPNil, wPCons, wVar, wC, wOp, wUn, wCl, wB, wTr, wAnd, wOr, wNot, wAndV, wOrV, wNotV, wIf, wCh, wNil, wCons, wTup, wLe, wSz, wFn, wFnJ, wFnB, wFnJB, wBNil, wBCons, wBOwn, rsvP, rsvJ, wNext, wRet, wRetN, wDrop, wIfS, wSet, wSetOwn, wNever, wAug, wOpO, wIxO, wOpR, wClO, wApp, wSetIt, wFrz, wFor, wRg1, wRg2, wSq, wEnum, wZip, wZipM, wZipS, wZipU, wgN, wgT, wgNil, wgCons, wYes, wAsgT, wgLs, wLenS, wIxS, wFnS, wFnJL, wFnX, wRaise, wRaiseF, wForFn, forFnW, wMet, hide, wIsi, wListOf, wRev, edP, edJ, enP, enJ, enS, NotOwn, Flat, List.map_cons, List.map_nil, List.length_cons, List.length_nil, List.replicate_succ, List.replicate_zero, List.cons_append, List.nil_append, List.append_nil, List.set_cons_zero, List.set_cons_succ, List.getElem?_cons_zero, List.getElem?_cons_succ, Nat.reduceAdd, Nat.reduceSub, Option.some.injEq, Sl.imm.injEq, Sl.own.injEq, Sl.scr.injEq, exists_eq_left, exists_eq_left', exists_eq_right, exists_eq, exists_eq', exists_and_left, and_assoc, and_true, true_and, ne_eq, not_false_eq_true, Nat.succ_ne_zero, or_true, true_or, true_implies, forall_eq', forall_eq, PyData.int.injEq, PyData.bool.injEq, PyData.list.injEq, PyData.tuple.injEq, List.cons.injEq, i_add, i_iadd, i_sub, i_mul, i_mod, i_fdiv, i_fdivG, i_pow, i_neg, i_le, i_ge, i_gt, i_lt, i_eq, i_ne, i_intI, i_intB, i_abs, i_max, i_min, i_lenL, i_lenT, i_ixL, i_ixT, i_tupL, i_tupT, i_truB, Bool.not_true, Bool.not_false, Bool.false_eq_true, if_true, if_false, reduceIte]
  refine lcY (α := Int) (e1 := [.imm (.int h), .imm (rowsD rs), .imm (rowD []), .imm (.int (topS s)), .imm (lstI (wtsS h s)), .imm (lstI (cvrS h s)), .imm (.int s.2.2.1), .imm (frs (wtsS h s) s.2.2.1), .un, .un]) (X := .int) (f := fun x => fr (Rat.divInt x s.2.2.1)) (xs := cvrS h s) (fun x => [.imm (.int h), .imm (rowsD rs), .imm (rowD []), .imm (.int (topS s)), .imm (lstI (wtsS h s)), .imm (lstI (cvrS h s)), .imm (.int s.2.2.1), .imm (frs (wtsS h s) s.2.2.1), .un, .imm (.int x)]) (by decide) (fun Q q => ⟨_, rfl, _, Or.inl rfl, q⟩) (no1 trivial) (sl200 cl) (fun _ => rfl) (fun x hx Q q => ?_) (fun x hx Q q => ?_) ?_
  · simp -failIfUnchanged only [wip, wCallW, wForFv, forFvW, wMkX, wDic1, wMtX, wForPr, forPrW, wPNil, wPCons, wVar, wC, wOp, wUn, wCl, wB, wTr, wAnd, wOr, wNot, wAndV, wOrV, wNotV, wIf, wCh, wNil, wCons, wTup, wLe, wSz, wFn, wFnJ, wFnB, wFnJB, wBNil, wBCons, wBOwn, rsvP, rsvJ, wNext, wRet, wRetN, wDrop, wIfS, wSet, wSetOwn, wNever, wAug, wOpO, wIxO, wOpR, wClO, wApp, wSetIt, wFrz, wFor, wRg1, wRg2, wSq, wEnum, wZip, wZipM, wZipS, wZipU, wgN, wgT, wgNil, wgCons, wYes, wAsgT, wgLs, wLenS, wIxS, wFnS, wFnJL, wFnX, wRaise, wRaiseF, wForFn, forFnW, wMet, hide, wIsi, wListOf, wRev, edP, edJ, enP, enJ, enS, NotOwn, Flat, List.map_cons, List.map_nil, List.length_cons, List.length_nil, List.replicate_succ, List.replicate_zero, List.cons_append, List.nil_append, List.append_nil, List.set_cons_zero, List.set_cons_succ, List.getElem?_cons_zero, List.getElem?_cons_succ, Nat.reduceAdd, Nat.reduceSub, Option.some.injEq, Sl.imm.injEq, Sl.own.injEq, Sl.scr.injEq, exists_eq_left, exists_eq_left', exists_eq_right, exists_eq, exists_eq', exists_and_left, and_assoc, and_true, true_and, ne_eq, not_false_eq_true, Nat.succ_ne_zero, or_true, true_or, true_implies, forall_eq', forall_eq, PyData.int.injEq, PyData.bool.injEq, PyData.list.injEq, PyData.tuple.injEq, List.cons.injEq, i_add, i_iadd, i_sub, i_mul, i_mod, i_fdiv, i_fdivG, i_pow, i_neg, i_le, i_ge, i_gt, i_lt, i_eq, i_ne, i_intI, i_intB, i_abs, i_max, i_min, i_lenL, i_lenT, i_ixL, i_ixT, i_tupL, i_tupT, i_truB, Bool.not_true, Bool.not_false, Bool.false_eq_true, if_true, if_false, reduceIte]
    exact q
  · simp -failIfUnchanged only [wCallW, wForFv, forFvW, wMkX, wDic1, wMtX, wForPr, forPrW, wPNil, wPCons, wVar, wC, wOp, wUn, wCl, wB, wTr, wAnd, wOr, wNot, wAndV, wOrV, wNotV, wIf, wCh, wNil, wCons, wTup, wLe, wSz, wFn, wFnJ, wFnB, wFnJB, wBNil, wBCons, wBOwn, rsvP, rsvJ, wNext, wRet, wRetN, wDrop, wIfS, wSet, wSetOwn, wNever, wAug, wOpO, wIxO, wOpR, wClO, wApp, wSetIt, wFrz, wFor, wRg1, wRg2, wSq, wEnum, wZip, wZipM, wZipS, wZipU, wgN, wgT, wgNil, wgCons, wYes, wAsgT, wgLs, wLenS, wIxS, wFnS, wFnJL, wFnX, wRaise, wRaiseF, wForFn, forFnW, wMet, hide, wIsi, wListOf, wRev, edP, edJ, enP, enJ, enS, NotOwn, Flat, List.map_cons, List.map_nil, List.length_cons, List.length_nil, List.replicate_succ, List.replicate_zero, List.cons_append, List.nil_append, List.append_nil, List.set_cons_zero, List.set_cons_succ, List.getElem?_cons_zero, List.getElem?_cons_succ, Nat.reduceAdd, Nat.reduceSub, Option.some.injEq, Sl.imm.injEq, Sl.own.injEq, Sl.scr.injEq, exists_eq_left, exists_eq_left', exists_eq_right, exists_eq, exists_eq', exists_and_left, and_assoc, and_true, true_and, ne_eq, not_false_eq_true, Nat.succ_ne_zero, or_true, true_or, true_implies, forall_eq', forall_eq, PyData.int.injEq, PyData.bool.injEq, PyData.list.injEq, PyData.tuple.injEq, List.cons.injEq, i_add, i_iadd, i_sub, i_mul, i_mod, i_fdiv, i_fdivG, i_pow, i_neg, i_le, i_ge, i_gt, i_lt, i_eq, i_ne, i_intI, i_intB, i_abs, i_max, i_min, i_lenL, i_lenT, i_ixL, i_ixT, i_tupL, i_tupT, i_truB, Bool.not_true, Bool.not_false, Bool.false_eq_true, if_true, if_false, reduceIte]
    exact ⟨x, _, rfl, hb, b64 hb9, q⟩
  simp -failIfUnchanged only [wCallW, wForFv, forFvW, wMkX, wDic1, wMtX, wForPr, forPrW, wPNil, wPCons, wVar, wC, wOp, wUn, wCl, wB, wTr, wAnd, wOr, wNot, wAndV, wOrV, wNotV, wIf, wCh, wNil, wCons, wTup, wLe, wSz, wFn, wFnJ, wFnB, wFnJB, wBNil, wBCons, wBOwn, rsvP, rsvJ, wNext, wRet, wRetN, wDrop, wIfS, wSet, wSetOwn, wNever, wAug, wOpO, wIxO, wOpR, wClO, wApp, wSetIt, wFrz, wFor, wRg1, wRg2, wSq, wEnum, wZip, wZipM, wZipS, wZipU, wgN, wgT, wgNil, wgCons, wYes, wAsgT, wgLs, wLenS, wIxS, wFnS, wFnJL, wFnX, wRaise, wRaiseF, wForFn, forFnW, wMet, hide, wIsi, wListOf, wRev, edP, edJ, enP, enJ, enS, NotOwn, Flat, List.map_cons, List.map_nil, List.length_cons, List.length_nil, List.replicate_succ, List.replicate_zero, List.cons_append, List.nil_append, List.append_nil, List.set_cons_zero, List.set_cons_succ, List.getElem?_cons_zero, List.getElem?_cons_succ, Nat.reduceAdd, Nat.reduceSub, Option.some.injEq, Sl.imm.injEq, Sl.own.injEq, Sl.scr.injEq, exists_eq_left, exists_eq_left', exists_eq_right, exists_eq, exists_eq', exists_and_left, and_assoc, and_true, true_and, ne_eq, not_false_eq_true, Nat.succ_ne_zero, or_true, true_or, true_implies, forall_eq', forall_eq, PyData.int.injEq, PyData.bool.injEq, PyData.list.injEq, PyData.tuple.injEq, List.cons.injEq, i_add, i_iadd, i_sub, i_mul, i_mod, i_fdiv, i_fdivG, i_pow, i_neg, i_le, i_ge, i_gt, i_lt, i_eq, i_ne, i_intI, i_intB, i_abs, i_max, i_min, i_lenL, i_lenT, i_ixL, i_ixT, i_tupL, i_tupT, i_truB, Bool.not_true, Bool.not_false, Bool.false_eq_true, if_true, if_false, reduceIte]
  refine ⟨_, _, rfl, hb, b64 hb9, by decide, ?_⟩
  exact q
theorem eqS_wf : dEqS (.str "weights") (.str "free") (.bool false) :=
  Or.inl ⟨by decide +kernel, by decide +kernel, congrArg PyData.bool (show false = PyData.eqv (.str "weights") (.str "free") by decide +kernel)⟩
theorem pu_scale_of (ds Q R) (hl : ds.length = 2) (h : wf_scale_of ds Q R) : ws_scale_of (fun e _ => R e) (edP Q) (enP N_scale_of ds) := by
  obtain ⟨h, rs, s, rfl, hS, hF, hs, q⟩ := h
  unfold ws_scale_of
  (try dsimp only); rw [wSeq_eq]; simp -failIfUnchanged only [N_scale_of, wCallW, wForFv, forFvW, wMkX, wDic1, wMtX, wForPr, forPrW, wPNil, wPCons, wVar, wC, wOp, wUn, wCl, wB, wTr, wAnd, wOr, wNot, wAndV, wOrV, wNotV, wIf, wCh, wNil, wCons, wTup, wLe, wSz, wFn, wFnJ, wFnB, wFnJB, wBNil, wBCons, wBOwn, rsvP, rsvJ, wNext, wRet, wRetN, wDrop, wIfS, wSet, wSetOwn, wNever, wAug, wOpO, wIxO, wOpR, wClO, wApp, wSetIt, wFrz, wFor, wRg1, wRg2, wSq, wEnum, wZip, wZipM, wZipS, wZipU, wgN, wgT, wgNil, wgCons, wYes, wAsgT, wgLs, wLenS, wIxS, wFnS, wFnJL, wFnX, wRaise, wRaiseF, wForFn, forFnW, wMet, hide, wIsi, wListOf, wRev, edP, edJ, enP, enJ, enS, NotOwn, Flat, List.map_cons, List.map_nil, List.length_cons, List.length_nil, List.replicate_succ, List.replicate_zero, List.cons_append, List.nil_append, List.append_nil, List.set_cons_zero, List.set_cons_succ, List.getElem?_cons_zero, List.getElem?_cons_succ, Nat.reduceAdd, Nat.reduceSub, Option.some.injEq, Sl.imm.injEq, Sl.own.injEq, Sl.scr.injEq, exists_eq_left, exists_eq_left', exists_eq_right, exists_eq, exists_eq', exists_and_left, and_assoc, and_true, true_and, ne_eq, not_false_eq_true, Nat.succ_ne_zero, or_true, true_or, true_implies, forall_eq', forall_eq, PyData.int.injEq, PyData.bool.injEq, PyData.list.injEq, PyData.tuple.injEq, List.cons.injEq, i_add, i_iadd, i_sub, i_mul, i_mod, i_fdiv, i_fdivG, i_pow, i_neg, i_le, i_ge, i_gt, i_lt, i_eq, i_ne, i_intI, i_intB, i_abs, i_max, i_min, i_lenL, i_lenT, i_ixL, i_ixT, i_tupL, i_tupT, i_truB, Bool.not_true, Bool.not_false, Bool.false_eq_true, if_true, if_false, reduceIte]
  refine ⟨h, rs, s, rfl, hS, hF, hs, ?_⟩
  simp -failIfUnchanged only [wCallW, wForFv, forFvW, wMkX, wDic1, wMtX, wForPr, forPrW, wPNil, wPCons, wVar, wC, wOp, wUn, wCl, wB, wTr, wAnd, wOr, wNot, wAndV, wOrV, wNotV, wIf, wCh, wNil, wCons, wTup, wLe, wSz, wFn, wFnJ, wFnB, wFnJB, wBNil, wBCons, wBOwn, rsvP, rsvJ, wNext, wRet, wRetN, wDrop, wIfS, wSet, wSetOwn, wNever, wAug, wOpO, wIxO, wOpR, wClO, wApp, wSetIt, wFrz, wFor, wRg1, wRg2, wSq, wEnum, wZip, wZipM, wZipS, wZipU, wgN, wgT, wgNil, wgCons, wYes, wAsgT, wgLs, wLenS, wIxS, wFnS, wFnJL, wFnX, wRaise, wRaiseF, wForFn, forFnW, wMet, hide, wIsi, wListOf, wRev, edP, edJ, enP, enJ, enS, NotOwn, Flat, List.map_cons, List.map_nil, List.length_cons, List.length_nil, List.replicate_succ, List.replicate_zero, List.cons_append, List.nil_append, List.append_nil, List.set_cons_zero, List.set_cons_succ, List.getElem?_cons_zero, List.getElem?_cons_succ, Nat.reduceAdd, Nat.reduceSub, Option.some.injEq, Sl.imm.injEq, Sl.own.injEq, Sl.scr.injEq, exists_eq_left, exists_eq_left', exists_eq_right, exists_eq, exists_eq', exists_and_left, and_assoc, and_true, true_and, ne_eq, not_false_eq_true, Nat.succ_ne_zero, or_true, true_or, true_implies, forall_eq', forall_eq, PyData.int.injEq, PyData.bool.injEq, PyData.list.injEq, PyData.tuple.injEq, List.cons.injEq, i_add, i_iadd, i_sub, i_mul, i_mod, i_fdiv, i_fdivG, i_pow, i_neg, i_le, i_ge, i_gt, i_lt, i_eq, i_ne, i_intI, i_intB, i_abs, i_max, i_min, i_lenL, i_lenT, i_ixL, i_ixT, i_tupL, i_tupT, i_truB, Bool.not_true, Bool.not_false, Bool.false_eq_true, if_true, if_false, reduceIte]
  refine ⟨_, at0, ?_⟩
  refine ⟨_, eqS_wf, false, rfl, ?_⟩
  rw [if_neg Bool.false_ne_true]
  exact ⟨_, at1, q⟩
theorem pu_turned (ds Q) (hl : ds.length = 1) (h : wf_turned ds Q) : ws_turned (edP Q) (enP N_turned ds) := by
  obtain ⟨p, rfl, q⟩ := h
  simp only [ws_turned, N_turned, fr, wCallW, wForFv, forFvW, wMkX, wDic1, wMtX, wForPr, forPrW, wPNil, wPCons, wVar, wC, wOp, wUn, wCl, wB, wTr, wAnd, wOr, wNot, wAndV, wOrV, wNotV, wIf, wCh, wNil, wCons, wTup, wLe, wSz, wFn, wFnJ, wFnB, wFnJB, wBNil, wBCons, wBOwn, rsvP, rsvJ, wNext, wSeq, wRet, wRetN, wDrop, wIfS, wSet, wSetOwn, wNever, wAug, wOpO, wIxO, wOpR, wClO, wApp, wSetIt, wFrz, wFor, wRg1, wRg2, wSq, wEnum, wZip, wZipM, wZipS, wZipU, wgN, wgT, wgNil, wgCons, wYes, wAsgT, wgLs, wLenS, wIxS, wFnS, wFnJL, wFnX, wRaise, wRaiseF, wForFn, forFnW, wMet, hide, wIsi, wListOf, wRev, edP, edJ, enP, enJ, enS, NotOwn, Flat, List.map_cons, List.map_nil, List.length_cons, List.length_nil, List.replicate_succ, List.replicate_zero, List.cons_append, List.nil_append, List.append_nil, List.set_cons_zero, List.set_cons_succ, List.getElem?_cons_zero, List.getElem?_cons_succ, Nat.reduceAdd, Nat.reduceSub, Option.some.injEq, Sl.imm.injEq, Sl.own.injEq, Sl.scr.injEq, exists_eq_left, exists_eq_left', exists_eq_right, exists_eq, exists_eq', exists_and_left, and_assoc, and_true, true_and, ne_eq, not_false_eq_true, Nat.succ_ne_zero, or_true, true_or, true_implies, forall_eq', forall_eq, PyData.int.injEq, PyData.bool.injEq, PyData.list.injEq, PyData.tuple.injEq, List.cons.injEq, i_add, i_iadd, i_sub, i_mul, i_mod, i_fdiv, i_fdivG, i_pow, i_neg, i_le, i_ge, i_gt, i_lt, i_eq, i_ne, i_intI, i_intB, i_abs, i_max, i_min, i_lenL, i_lenT, i_ixL, i_ixT, i_tupL, i_tupT, i_truB, Bool.not_true, Bool.not_false, Bool.false_eq_true, if_true, if_false, reduceIte]
  exact ⟨_, at1, _, at0, by decide, q⟩
theorem fr_1 : PyData.tuple [.int 1, .int 1] = fr 1 := rfl
theorem pow_loop {d : D} {q : Rat} {R : Ed} (hq : Sm BB q) : ∀ (xs : List D) (m : Rat) (s : Sl), Pws q xs.length m → (∀ s, R.nx [.imm (fr q), .imm d, .imm (fr (pwA q xs.length m)), s]) →
    forW (wgN 3) (wSet 2 (wFn 2 wf_sum_of_two (wCons (wTup (wCons (wC (.int 1)) (wCons (wC (.int 1)) wNil))) (wCons (wFn 2 wf_product_of_two (wCons (wVar 0) (wCons (wVar 2) wNil))) wNil)))) R xs [.imm (fr q), .imm d, .imm (fr m), s]
  | [], m, s, _, k => k s
  | x :: xs, m, s, hw, k => by
    unfold forW
    simp only [wCallW, wForFv, forFvW, wMkX, wDic1, wMtX, wForPr, forPrW, wPNil, wPCons, wVar, wC, wOp, wUn, wCl, wB, wTr, wAnd, wOr, wNot, wAndV, wOrV, wNotV, wIf, wCh, wNil, wCons, wTup, wLe, wSz, wFn, wFnJ, wFnB, wFnJB, wBNil, wBCons, wBOwn, rsvP, rsvJ, wNext, wSeq, wRet, wRetN, wDrop, wIfS, wSet, wSetOwn, wNever, wAug, wOpO, wIxO, wOpR, wClO, wApp, wSetIt, wFrz, wFor, wRg1, wRg2, wSq, wEnum, wZip, wZipM, wZipS, wZipU, wgN, wgT, wgNil, wgCons, wYes, wAsgT, wgLs, wLenS, wIxS, wFnS, wFnJL, wFnX, wRaise, wRaiseF, wForFn, forFnW, wMet, hide, wIsi, wListOf, wRev, edP, edJ, enP, enJ, enS, NotOwn, Flat, List.map_cons, List.map_nil, List.length_cons, List.length_nil, List.replicate_succ, List.replicate_zero, List.cons_append, List.nil_append, List.append_nil, List.set_cons_zero, List.set_cons_succ, List.getElem?_cons_zero, List.getElem?_cons_succ, Nat.reduceAdd, Nat.reduceSub, Option.some.injEq, Sl.imm.injEq, Sl.own.injEq, Sl.scr.injEq, exists_eq_left, exists_eq_left', exists_eq_right, exists_eq, exists_eq', exists_and_left, and_assoc, and_true, true_and, ne_eq, not_false_eq_true, Nat.succ_ne_zero, or_true, true_or, true_implies, forall_eq', forall_eq, PyData.int.injEq, PyData.bool.injEq, PyData.list.injEq, PyData.tuple.injEq, List.cons.injEq, i_add, i_iadd, i_sub, i_mul, i_mod, i_fdiv, i_fdivG, i_pow, i_neg, i_le, i_ge, i_gt, i_lt, i_eq, i_ne, i_intI, i_intB, i_abs, i_max, i_min, i_lenL, i_lenT, i_ixL, i_ixT, i_tupL, i_tupT, i_truB, Bool.not_true, Bool.not_false, Bool.false_eq_true, if_true, if_false, reduceIte]
    rw [fr_1]
    exact ⟨by decide, q, m, rfl, hq, hw.1, 1, q * m, rfl, ⟨by decide +kernel, by decide +kernel⟩, hw.2.1, pow_loop hq xs _ _ hw.2.2 k⟩
theorem pu_powers_added (ds Q R) (hl : ds.length = 2) (h : wf_powers_added ds Q R) : ws_powers_added (fun e _ => R e) (edP Q) (enP N_powers_added ds) := by
  obtain ⟨p, n, rfl, n1, n2, hp, hw, k⟩ := h
  unfold ws_powers_added
  (try dsimp only); rw [wSeq_eq]; simp -failIfUnchanged only [N_powers_added, wf_check_fraction, wCallW, wForFv, forFvW, wMkX, wDic1, wMtX, wForPr, forPrW, wPNil, wPCons, wVar, wC, wOp, wUn, wCl, wB, wTr, wAnd, wOr, wNot, wAndV, wOrV, wNotV, wIf, wCh, wNil, wCons, wTup, wLe, wSz, wFn, wFnJ, wFnB, wFnJB, wBNil, wBCons, wBOwn, rsvP, rsvJ, wNext, wRet, wRetN, wDrop, wIfS, wSet, wSetOwn, wNever, wAug, wOpO, wIxO, wOpR, wClO, wApp, wSetIt, wFrz, wFor, wRg1, wRg2, wSq, wEnum, wZip, wZipM, wZipS, wZipU, wgN, wgT, wgNil, wgCons, wYes, wAsgT, wgLs, wLenS, wIxS, wFnS, wFnJL, wFnX, wRaise, wRaiseF, wForFn, forFnW, wMet, hide, wIsi, wListOf, wRev, edP, edJ, enP, enJ, enS, NotOwn, Flat, List.map_cons, List.map_nil, List.length_cons, List.length_nil, List.replicate_succ, List.replicate_zero, List.cons_append, List.nil_append, List.append_nil, List.set_cons_zero, List.set_cons_succ, List.getElem?_cons_zero, List.getElem?_cons_succ, Nat.reduceAdd, Nat.reduceSub, Option.some.injEq, Sl.imm.injEq, Sl.own.injEq, Sl.scr.injEq, exists_eq_left, exists_eq_left', exists_eq_right, exists_eq, exists_eq', exists_and_left, and_assoc, and_true, true_and, ne_eq, not_false_eq_true, Nat.succ_ne_zero, or_true, true_or, true_implies, forall_eq', forall_eq, PyData.int.injEq, PyData.bool.injEq, PyData.list.injEq, PyData.tuple.injEq, List.cons.injEq, i_add, i_iadd, i_sub, i_mul, i_mod, i_fdiv, i_fdivG, i_pow, i_neg, i_le, i_ge, i_gt, i_lt, i_eq, i_ne, i_intI, i_intB, i_abs, i_max, i_min, i_lenL, i_lenT, i_ixL, i_ixT, i_tupL, i_tupT, i_truB, Bool.not_true, Bool.not_false, Bool.false_eq_true, if_true, if_false, reduceIte]
  refine ⟨fun _ => ?_, fun z => (by rw [isF_fr hp] at z; cases z)⟩
  (try dsimp only); rw [wSeq_eq]; simp -failIfUnchanged only [wf_check_between, wCallW, wForFv, forFvW, wMkX, wDic1, wMtX, wForPr, forPrW, wPNil, wPCons, wVar, wC, wOp, wUn, wCl, wB, wTr, wAnd, wOr, wNot, wAndV, wOrV, wNotV, wIf, wCh, wNil, wCons, wTup, wLe, wSz, wFn, wFnJ, wFnB, wFnJB, wBNil, wBCons, wBOwn, rsvP, rsvJ, wNext, wRet, wRetN, wDrop, wIfS, wSet, wSetOwn, wNever, wAug, wOpO, wIxO, wOpR, wClO, wApp, wSetIt, wFrz, wFor, wRg1, wRg2, wSq, wEnum, wZip, wZipM, wZipS, wZipU, wgN, wgT, wgNil, wgCons, wYes, wAsgT, wgLs, wLenS, wIxS, wFnS, wFnJL, wFnX, wRaise, wRaiseF, wForFn, forFnW, wMet, hide, wIsi, wListOf, wRev, edP, edJ, enP, enJ, enS, NotOwn, Flat, List.map_cons, List.map_nil, List.length_cons, List.length_nil, List.replicate_succ, List.replicate_zero, List.cons_append, List.nil_append, List.append_nil, List.set_cons_zero, List.set_cons_succ, List.getElem?_cons_zero, List.getElem?_cons_succ, Nat.reduceAdd, Nat.reduceSub, Option.some.injEq, Sl.imm.injEq, Sl.own.injEq, Sl.scr.injEq, exists_eq_left, exists_eq_left', exists_eq_right, exists_eq, exists_eq', exists_and_left, and_assoc, and_true, true_and, ne_eq, not_false_eq_true, Nat.succ_ne_zero, or_true, true_or, true_implies, forall_eq', forall_eq, PyData.int.injEq, PyData.bool.injEq, PyData.list.injEq, PyData.tuple.injEq, List.cons.injEq, i_add, i_iadd, i_sub, i_mul, i_mod, i_fdiv, i_fdivG, i_pow, i_neg, i_le, i_ge, i_gt, i_lt, i_eq, i_ne, i_intI, i_intB, i_abs, i_max, i_min, i_lenL, i_lenT, i_ixL, i_ixT, i_tupL, i_tupT, i_truB, Bool.not_true, Bool.not_false, Bool.false_eq_true, if_true, if_false, reduceIte]
  have hb : inB 1 100 (.int (n : Int)) = true := inB_of (by omega) (by omega)
  refine ⟨fun _ => ?_, fun z => ff z hb⟩
  (try dsimp only); rw [wSeq_eq]; simp -failIfUnchanged only [wCallW, wForFv, forFvW, wMkX, wDic1, wMtX, wForPr, forPrW, wPNil, wPCons, wVar, wC, wOp, wUn, wCl, wB, wTr, wAnd, wOr, wNot, wAndV, wOrV, wNotV, wIf, wCh, wNil, wCons, wTup, wLe, wSz, wFn, wFnJ, wFnB, wFnJB, wBNil, wBCons, wBOwn, rsvP, rsvJ, wNext, wRet, wRetN, wDrop, wIfS, wSet, wSetOwn, wNever, wAug, wOpO, wIxO, wOpR, wClO, wApp, wSetIt, wFrz, wFor, wRg1, wRg2, wSq, wEnum, wZip, wZipM, wZipS, wZipU, wgN, wgT, wgNil, wgCons, wYes, wAsgT, wgLs, wLenS, wIxS, wFnS, wFnJL, wFnX, wRaise, wRaiseF, wForFn, forFnW, wMet, hide, wIsi, wListOf, wRev, edP, edJ, enP, enJ, enS, NotOwn, Flat, List.map_cons, List.map_nil, List.length_cons, List.length_nil, List.replicate_succ, List.replicate_zero, List.cons_append, List.nil_append, List.append_nil, List.set_cons_zero, List.set_cons_succ, List.getElem?_cons_zero, List.getElem?_cons_succ, Nat.reduceAdd, Nat.reduceSub, Option.some.injEq, Sl.imm.injEq, Sl.own.injEq, Sl.scr.injEq, exists_eq_left, exists_eq_left', exists_eq_right, exists_eq, exists_eq', exists_and_left, and_assoc, and_true, true_and, ne_eq, not_false_eq_true, Nat.succ_ne_zero, or_true, true_or, true_implies, forall_eq', forall_eq, PyData.int.injEq, PyData.bool.injEq, PyData.list.injEq, PyData.tuple.injEq, List.cons.injEq, i_add, i_iadd, i_sub, i_mul, i_mod, i_fdiv, i_fdivG, i_pow, i_neg, i_le, i_ge, i_gt, i_lt, i_eq, i_ne, i_intI, i_intB, i_abs, i_max, i_min, i_lenL, i_lenT, i_ixL, i_ixT, i_tupL, i_tupT, i_truB, Bool.not_true, Bool.not_false, Bool.false_eq_true, if_true, if_false, reduceIte]
  refine ⟨by decide, ?_⟩
  rw [fr_1]
  (try dsimp only); rw [wSeq_eq]; simp -failIfUnchanged only [wCallW, wForFv, forFvW, wMkX, wDic1, wMtX, wForPr, forPrW, wPNil, wPCons, wVar, wC, wOp, wUn, wCl, wB, wTr, wAnd, wOr, wNot, wAndV, wOrV, wNotV, wIf, wCh, wNil, wCons, wTup, wLe, wSz, wFn, wFnJ, wFnB, wFnJB, wBNil, wBCons, wBOwn, rsvP, rsvJ, wNext, wRet, wRetN, wDrop, wIfS, wSet, wSetOwn, wNever, wAug, wOpO, wIxO, wOpR, wClO, wApp, wSetIt, wFrz, wFor, wRg1, wRg2, wSq, wEnum, wZip, wZipM, wZipS, wZipU, wgN, wgT, wgNil, wgCons, wYes, wAsgT, wgLs, wLenS, wIxS, wFnS, wFnJL, wFnX, wRaise, wRaiseF, wForFn, forFnW, wMet, hide, wIsi, wListOf, wRev, edP, edJ, enP, enJ, enS, NotOwn, Flat, List.map_cons, List.map_nil, List.length_cons, List.length_nil, List.replicate_succ, List.replicate_zero, List.cons_append, List.nil_append, List.append_nil, List.set_cons_zero, List.set_cons_succ, List.getElem?_cons_zero, List.getElem?_cons_succ, Nat.reduceAdd, Nat.reduceSub, Option.some.injEq, Sl.imm.injEq, Sl.own.injEq, Sl.scr.injEq, exists_eq_left, exists_eq_left', exists_eq_right, exists_eq, exists_eq', exists_and_left, and_assoc, and_true, true_and, ne_eq, not_false_eq_true, Nat.succ_ne_zero, or_true, true_or, true_implies, forall_eq', forall_eq, PyData.int.injEq, PyData.bool.injEq, PyData.list.injEq, PyData.tuple.injEq, List.cons.injEq, i_add, i_iadd, i_sub, i_mul, i_mod, i_fdiv, i_fdivG, i_pow, i_neg, i_le, i_ge, i_gt, i_lt, i_eq, i_ne, i_intI, i_intB, i_abs, i_max, i_min, i_lenL, i_lenT, i_ixL, i_ixT, i_tupL, i_tupT, i_truB, Bool.not_true, Bool.not_false, Bool.false_eq_true, if_true, if_false, reduceIte]
  refine ⟨by omega, by omega, pow_loop (tn_bb hp) _ 1 _ ?_ fun s => ?_⟩
  · rw [rngD_len, show ((n : Int) - 1).toNat = n - 1 by omega]
    exact hw
  simp -failIfUnchanged only [wCallW, wForFv, forFvW, wMkX, wDic1, wMtX, wForPr, forPrW, wPNil, wPCons, wVar, wC, wOp, wUn, wCl, wB, wTr, wAnd, wOr, wNot, wAndV, wOrV, wNotV, wIf, wCh, wNil, wCons, wTup, wLe, wSz, wFn, wFnJ, wFnB, wFnJB, wBNil, wBCons, wBOwn, rsvP, rsvJ, wNext, wRet, wRetN, wDrop, wIfS, wSet, wSetOwn, wNever, wAug, wOpO, wIxO, wOpR, wClO, wApp, wSetIt, wFrz, wFor, wRg1, wRg2, wSq, wEnum, wZip, wZipM, wZipS, wZipU, wgN, wgT, wgNil, wgCons, wYes, wAsgT, wgLs, wLenS, wIxS, wFnS, wFnJL, wFnX, wRaise, wRaiseF, wForFn, forFnW, wMet, hide, wIsi, wListOf, wRev, edP, edJ, enP, enJ, enS, NotOwn, Flat, List.map_cons, List.map_nil, List.length_cons, List.length_nil, List.replicate_succ, List.replicate_zero, List.cons_append, List.nil_append, List.append_nil, List.set_cons_zero, List.set_cons_succ, List.getElem?_cons_zero, List.getElem?_cons_succ, Nat.reduceAdd, Nat.reduceSub, Option.some.injEq, Sl.imm.injEq, Sl.own.injEq, Sl.scr.injEq, exists_eq_left, exists_eq_left', exists_eq_right, exists_eq, exists_eq', exists_and_left, and_assoc, and_true, true_and, ne_eq, not_false_eq_true, Nat.succ_ne_zero, or_true, true_or, true_implies, forall_eq', forall_eq, PyData.int.injEq, PyData.bool.injEq, PyData.list.injEq, PyData.tuple.injEq, List.cons.injEq, i_add, i_iadd, i_sub, i_mul, i_mod, i_fdiv, i_fdivG, i_pow, i_neg, i_le, i_ge, i_gt, i_lt, i_eq, i_ne, i_intI, i_intB, i_abs, i_max, i_min, i_lenL, i_lenT, i_ixL, i_ixT, i_tupL, i_tupT, i_truB, Bool.not_true, Bool.not_false, Bool.false_eq_true, if_true, if_false, reduceIte]
  rw [rngD_len, show ((n : Int) - 1).toNat = n - 1 by omega]
  exact k
theorem pu_least_for_one (ds Q R) (hl : ds.length = 2) (h : wf_least_for_one ds Q R) : ws_least_for_one (fun e _ => R e) (edP Q) (enP N_least_for_one ds) := by
  obtain ⟨q, p, n, rfl, n1, n20, ⟨p1, p2, p3, p4, p5⟩, k⟩ := h
  simp only [ws_least_for_one, N_least_for_one, wCallW, wForFv, forFvW, wMkX, wDic1, wMtX, wForPr, forPrW, wPNil, wPCons, wVar, wC, wOp, wUn, wCl, wB, wTr, wAnd, wOr, wNot, wAndV, wOrV, wNotV, wIf, wCh, wNil, wCons, wTup, wLe, wSz, wFn, wFnJ, wFnB, wFnJB, wBNil, wBCons, wBOwn, rsvP, rsvJ, wNext, wSeq, wRet, wRetN, wDrop, wIfS, wSet, wSetOwn, wNever, wAug, wOpO, wIxO, wOpR, wClO, wApp, wSetIt, wFrz, wFor, wRg1, wRg2, wSq, wEnum, wZip, wZipM, wZipS, wZipU, wgN, wgT, wgNil, wgCons, wYes, wAsgT, wgLs, wLenS, wIxS, wFnS, wFnJL, wFnX, wRaise, wRaiseF, wForFn, forFnW, wMet, hide, wIsi, wListOf, wRev, edP, edJ, enP, enJ, enS, NotOwn, Flat, List.map_cons, List.map_nil, List.length_cons, List.length_nil, List.replicate_succ, List.replicate_zero, List.cons_append, List.nil_append, List.append_nil, List.set_cons_zero, List.set_cons_succ, List.getElem?_cons_zero, List.getElem?_cons_succ, Nat.reduceAdd, Nat.reduceSub, Option.some.injEq, Sl.imm.injEq, Sl.own.injEq, Sl.scr.injEq, exists_eq_left, exists_eq_left', exists_eq_right, exists_eq, exists_eq', exists_and_left, and_assoc, and_true, true_and, ne_eq, not_false_eq_true, Nat.succ_ne_zero, or_true, true_or, true_implies, forall_eq', forall_eq, PyData.int.injEq, PyData.bool.injEq, PyData.list.injEq, PyData.tuple.injEq, List.cons.injEq, i_add, i_iadd, i_sub, i_mul, i_mod, i_fdiv, i_fdivG, i_pow, i_neg, i_le, i_ge, i_gt, i_lt, i_eq, i_ne, i_intI, i_intB, i_abs, i_max, i_min, i_lenL, i_lenT, i_ixL, i_ixT, i_tupL, i_tupT, i_truB, Bool.not_true, Bool.not_false, Bool.false_eq_true, if_true, if_false, reduceIte]
  refine ⟨_, ⟨rfl, rfl⟩, false, rfl, ?_⟩
  rw [if_neg Bool.false_ne_true]
  refine ⟨q, rfl, p, n, ?_, n1, by omega, p3, p4, k⟩
  unfold fr
  rw [p1, p2]
theorem fr_int (c : Int) : PyData.tuple [.int c, .int 1] = fr (c : Rat) := by
  unfold fr; rw [Rat.num_intCast, Rat.den_intCast]; rfl
theorem pu_least_mean (ds Q R) (hl : ds.length = 4) (h : wf_least_mean ds Q R) : ws_least_mean (fun e _ => R e) (edP Q) (enP N_least_mean ds) := by
  obtain ⟨h, rs, s, p, n, l, rfl, hS, hF, hs, n1, n20, l1, l100, hO, q⟩ := h
  obtain ⟨h1, h6, hL⟩ := id hS
  unfold ws_least_mean
  (try dsimp only); rw [wSeq_eq]; simp -failIfUnchanged only [N_least_mean, wCallW, wForFv, forFvW, wMkX, wDic1, wMtX, wForPr, forPrW, wPNil, wPCons, wVar, wC, wOp, wUn, wCl, wB, wTr, wAnd, wOr, wNot, wAndV, wOrV, wNotV, wIf, wCh, wNil, wCons, wTup, wLe, wSz, wFn, wFnJ, wFnB, wFnJB, wBNil, wBCons, wBOwn, rsvP, rsvJ, wNext, wRet, wRetN, wDrop, wIfS, wSet, wSetOwn, wNever, wAug, wOpO, wIxO, wOpR, wClO, wApp, wSetIt, wFrz, wFor, wRg1, wRg2, wSq, wEnum, wZip, wZipM, wZipS, wZipU, wgN, wgT, wgNil, wgCons, wYes, wAsgT, wgLs, wLenS, wIxS, wFnS, wFnJL, wFnX, wRaise, wRaiseF, wForFn, forFnW, wMet, hide, wIsi, wListOf, wRev, edP, edJ, enP, enJ, enS, NotOwn, Flat, List.map_cons, List.map_nil, List.length_cons, List.length_nil, List.replicate_succ, List.replicate_zero, List.cons_append, List.nil_append, List.append_nil, List.set_cons_zero, List.set_cons_succ, List.getElem?_cons_zero, List.getElem?_cons_succ, Nat.reduceAdd, Nat.reduceSub, Option.some.injEq, Sl.imm.injEq, Sl.own.injEq, Sl.scr.injEq, exists_eq_left, exists_eq_left', exists_eq_right, exists_eq, exists_eq', exists_and_left, and_assoc, and_true, true_and, ne_eq, not_false_eq_true, Nat.succ_ne_zero, or_true, true_or, true_implies, forall_eq', forall_eq, PyData.int.injEq, PyData.bool.injEq, PyData.list.injEq, PyData.tuple.injEq, List.cons.injEq, i_add, i_iadd, i_sub, i_mul, i_mod, i_fdiv, i_fdivG, i_pow, i_neg, i_le, i_ge, i_gt, i_lt, i_eq, i_ne, i_intI, i_intB, i_abs, i_max, i_min, i_lenL, i_lenT, i_ixL, i_ixT, i_tupL, i_tupT, i_truB, Bool.not_true, Bool.not_false, Bool.false_eq_true, if_true, if_false, reduceIte]
  refine ⟨_, _, rfl, hcY (by omega) (by omega) hL ?_⟩
  (try dsimp only); rw [wSeq_eq]; simp -failIfUnchanged only [wCallW, wForFv, forFvW, wMkX, wDic1, wMtX, wForPr, forPrW, wPNil, wPCons, wVar, wC, wOp, wUn, wCl, wB, wTr, wAnd, wOr, wNot, wAndV, wOrV, wNotV, wIf, wCh, wNil, wCons, wTup, wLe, wSz, wFn, wFnJ, wFnB, wFnJB, wBNil, wBCons, wBOwn, rsvP, rsvJ, wNext, wRet, wRetN, wDrop, wIfS, wSet, wSetOwn, wNever, wAug, wOpO, wIxO, wOpR, wClO, wApp, wSetIt, wFrz, wFor, wRg1, wRg2, wSq, wEnum, wZip, wZipM, wZipS, wZipU, wgN, wgT, wgNil, wgCons, wYes, wAsgT, wgLs, wLenS, wIxS, wFnS, wFnJL, wFnX, wRaise, wRaiseF, wForFn, forFnW, wMet, hide, wIsi, wListOf, wRev, edP, edJ, enP, enJ, enS, NotOwn, Flat, List.map_cons, List.map_nil, List.length_cons, List.length_nil, List.replicate_succ, List.replicate_zero, List.cons_append, List.nil_append, List.append_nil, List.set_cons_zero, List.set_cons_succ, List.getElem?_cons_zero, List.getElem?_cons_succ, Nat.reduceAdd, Nat.reduceSub, Option.some.injEq, Sl.imm.injEq, Sl.own.injEq, Sl.scr.injEq, exists_eq_left, exists_eq_left', exists_eq_right, exists_eq, exists_eq', exists_and_left, and_assoc, and_true, true_and, ne_eq, not_false_eq_true, Nat.succ_ne_zero, or_true, true_or, true_implies, forall_eq', forall_eq, PyData.int.injEq, PyData.bool.injEq, PyData.list.injEq, PyData.tuple.injEq, List.cons.injEq, i_add, i_iadd, i_sub, i_mul, i_mod, i_fdiv, i_fdivG, i_pow, i_neg, i_le, i_ge, i_gt, i_lt, i_eq, i_ne, i_intI, i_intB, i_abs, i_max, i_min, i_lenL, i_lenT, i_ixL, i_ixT, i_tupL, i_tupT, i_truB, Bool.not_true, Bool.not_false, Bool.false_eq_true, if_true, if_false, reduceIte]
  refine ⟨_, rfl, inB_of (by omega) (by omega), ?_⟩
  (try dsimp only); rw [wSeq_eq]; simp -failIfUnchanged only [wCallW, wForFv, forFvW, wMkX, wDic1, wMtX, wForPr, forPrW, wPNil, wPCons, wVar, wC, wOp, wUn, wCl, wB, wTr, wAnd, wOr, wNot, wAndV, wOrV, wNotV, wIf, wCh, wNil, wCons, wTup, wLe, wSz, wFn, wFnJ, wFnB, wFnJB, wBNil, wBCons, wBOwn, rsvP, rsvJ, wNext, wRet, wRetN, wDrop, wIfS, wSet, wSetOwn, wNever, wAug, wOpO, wIxO, wOpR, wClO, wApp, wSetIt, wFrz, wFor, wRg1, wRg2, wSq, wEnum, wZip, wZipM, wZipS, wZipU, wgN, wgT, wgNil, wgCons, wYes, wAsgT, wgLs, wLenS, wIxS, wFnS, wFnJL, wFnX, wRaise, wRaiseF, wForFn, forFnW, wMet, hide, wIsi, wListOf, wRev, edP, edJ, enP, enJ, enS, NotOwn, Flat, List.map_cons, List.map_nil, List.length_cons, List.length_nil, List.replicate_succ, List.replicate_zero, List.cons_append, List.nil_append, List.append_nil, List.set_cons_zero, List.set_cons_succ, List.getElem?_cons_zero, List.getElem?_cons_succ, Nat.reduceAdd, Nat.reduceSub, Option.some.injEq, Sl.imm.injEq, Sl.own.injEq, Sl.scr.injEq, exists_eq_left, exists_eq_left', exists_eq_right, exists_eq, exists_eq', exists_and_left, and_assoc, and_true, true_and, ne_eq, not_false_eq_true, Nat.succ_ne_zero, or_true, true_or, true_implies, forall_eq', forall_eq, PyData.int.injEq, PyData.bool.injEq, PyData.list.injEq, PyData.tuple.injEq, List.cons.injEq, i_add, i_iadd, i_sub, i_mul, i_mod, i_fdiv, i_fdivG, i_pow, i_neg, i_le, i_ge, i_gt, i_lt, i_eq, i_ne, i_intI, i_intB, i_abs, i_max, i_min, i_lenL, i_lenT, i_ixL, i_ixT, i_tupL, i_tupT, i_truB, Bool.not_true, Bool.not_false, Bool.false_eq_true, if_true, if_false, reduceIte]
  refine ⟨_, rfl, inB_of (by omega) (by omega), ?_⟩
  simp -failIfUnchanged only [wCallW, wForFv, forFvW, wMkX, wDic1, wMtX, wForPr, forPrW, wPNil, wPCons, wVar, wC, wOp, wUn, wCl, wB, wTr, wAnd, wOr, wNot, wAndV, wOrV, wNotV, wIf, wCh, wNil, wCons, wTup, wLe, wSz, wFn, wFnJ, wFnB, wFnJB, wBNil, wBCons, wBOwn, rsvP, rsvJ, wNext, wRet, wRetN, wDrop, wIfS, wSet, wSetOwn, wNever, wAug, wOpO, wIxO, wOpR, wClO, wApp, wSetIt, wFrz, wFor, wRg1, wRg2, wSq, wEnum, wZip, wZipM, wZipS, wZipU, wgN, wgT, wgNil, wgCons, wYes, wAsgT, wgLs, wLenS, wIxS, wFnS, wFnJL, wFnX, wRaise, wRaiseF, wForFn, forFnW, wMet, hide, wIsi, wListOf, wRev, edP, edJ, enP, enJ, enS, NotOwn, Flat, List.map_cons, List.map_nil, List.length_cons, List.length_nil, List.replicate_succ, List.replicate_zero, List.cons_append, List.nil_append, List.append_nil, List.set_cons_zero, List.set_cons_succ, List.getElem?_cons_zero, List.getElem?_cons_succ, Nat.reduceAdd, Nat.reduceSub, Option.some.injEq, Sl.imm.injEq, Sl.own.injEq, Sl.scr.injEq, exists_eq_left, exists_eq_left', exists_eq_right, exists_eq, exists_eq', exists_and_left, and_assoc, and_true, true_and, ne_eq, not_false_eq_true, Nat.succ_ne_zero, or_true, true_or, true_implies, forall_eq', forall_eq, PyData.int.injEq, PyData.bool.injEq, PyData.list.injEq, PyData.tuple.injEq, List.cons.injEq, i_add, i_iadd, i_sub, i_mul, i_mod, i_fdiv, i_fdivG, i_pow, i_neg, i_le, i_ge, i_gt, i_lt, i_eq, i_ne, i_intI, i_intB, i_abs, i_max, i_min, i_lenL, i_lenT, i_ixL, i_ixT, i_tupL, i_tupT, i_truB, Bool.not_true, Bool.not_false, Bool.false_eq_true, if_true, if_false, reduceIte]
  refine ⟨by decide, h, rs, s, rfl, hS, hF, hs, _, p, n, rfl, n1, n20, hO, ?_⟩
  rw [fr_int]
  refine ⟨_, _, rfl, ⟨?_, ?_⟩, hO.2.2.2.2, q⟩
  · rw [Rat.num_intCast]
    exact Nat.lt_trans (show l.natAbs < 2 ^ 31 by omega) (by unfold BB; exact Nat.pow_lt_pow_right (by decide) (by decide))
  · rw [Rat.den_intCast]
    unfold BB; exact Nat.one_lt_two_pow (by decide)

end K14

set_option Elab.async false
set_option linter.all false
set_option maxRecDepth 100000
set_option maxHeartbeats 4000000
namespace K14
open PySem PySem.Spec PyProof.Rows L2 Pd
theorem pu_plus (ds Q R) (hl : ds.length = 2) (h : wf_plus ds Q R) : ws_plus (fun e _ => R e) (edP Q) (enP N_plus ds) := by
  obtain ⟨p, q, rfl, hp, hq, k⟩ := h
  unfold ws_plus
  (try dsimp only); rw [wSeq_eq]; simp -failIfUnchanged only [N_plus, wf_check_two, wCallW, wForFv, forFvW, wMkX, wDic1, wMtX, wForPr, forPrW, wPNil, wPCons, wVar, wC, wOp, wUn, wCl, wB, wTr, wAnd, wOr, wNot, wAndV, wOrV, wNotV, wIf, wCh, wNil, wCons, wTup, wLe, wSz, wFn, wFnJ, wFnB, wFnJB, wBNil, wBCons, wBOwn, rsvP, rsvJ, wNext, wRet, wRetN, wDrop, wIfS, wSet, wSetOwn, wNever, wAug, wOpO, wIxO, wOpR, wClO, wApp, wSetIt, wFrz, wFor, wRg1, wRg2, wSq, wEnum, wZip, wZipM, wZipS, wZipU, wgN, wgT, wgNil, wgCons, wYes, wAsgT, wgLs, wLenS, wIxS, wFnS, wFnJL, wFnX, wRaise, wRaiseF, wForFn, forFnW, wMet, hide, wIsi, wListOf, wRev, edP, edJ, enP, enJ, enS, NotOwn, Flat, List.map_cons, List.map_nil, List.length_cons, List.length_nil, List.replicate_succ, List.replicate_zero, List.cons_append, List.nil_append, List.append_nil, List.set_cons_zero, List.set_cons_succ, List.getElem?_cons_zero, List.getElem?_cons_succ, Nat.reduceAdd, Nat.reduceSub, Option.some.injEq, Sl.imm.injEq, Sl.own.injEq, Sl.scr.injEq, exists_eq_left, exists_eq_left', exists_eq_right, exists_eq, exists_eq', exists_and_left, and_assoc, and_true, true_and, ne_eq, not_false_eq_true, Nat.succ_ne_zero, or_true, true_or, true_implies, forall_eq', forall_eq, PyData.int.injEq, PyData.bool.injEq, PyData.list.injEq, PyData.tuple.injEq, List.cons.injEq, i_add, i_iadd, i_sub, i_mul, i_mod, i_fdiv, i_fdivG, i_pow, i_neg, i_le, i_ge, i_gt, i_lt, i_eq, i_ne, i_intI, i_intB, i_abs, i_max, i_min, i_lenL, i_lenT, i_ixL, i_ixT, i_tupL, i_tupT, i_truB, Bool.not_true, Bool.not_false, Bool.false_eq_true, if_true, if_false, reduceIte]
  refine ⟨fun _ _ => ?_, fun z => (by rw [isF_fr hp, isF_fr hq] at z; cases z)⟩
  exact ⟨p, q, rfl, tn_bb hp, tn_bb hq, k⟩
theorem pu_less (ds Q R) (hl : ds.length = 2) (h : wf_less ds Q R) : ws_less (fun e _ => R e) (edP Q) (enP N_less ds) := by
  obtain ⟨p, q, rfl, hp, hq, k⟩ := h
  unfold ws_less
  (try dsimp only); rw [wSeq_eq]; simp -failIfUnchanged only [N_less, wf_check_two, wCallW, wForFv, forFvW, wMkX, wDic1, wMtX, wForPr, forPrW, wPNil, wPCons, wVar, wC, wOp, wUn, wCl, wB, wTr, wAnd, wOr, wNot, wAndV, wOrV, wNotV, wIf, wCh, wNil, wCons, wTup, wLe, wSz, wFn, wFnJ, wFnB, wFnJB, wBNil, wBCons, wBOwn, rsvP, rsvJ, wNext, wRet, wRetN, wDrop, wIfS, wSet, wSetOwn, wNever, wAug, wOpO, wIxO, wOpR, wClO, wApp, wSetIt, wFrz, wFor, wRg1, wRg2, wSq, wEnum, wZip, wZipM, wZipS, wZipU, wgN, wgT, wgNil, wgCons, wYes, wAsgT, wgLs, wLenS, wIxS, wFnS, wFnJL, wFnX, wRaise, wRaiseF, wForFn, forFnW, wMet, hide, wIsi, wListOf, wRev, edP, edJ, enP, enJ, enS, NotOwn, Flat, List.map_cons, List.map_nil, List.length_cons, List.length_nil, List.replicate_succ, List.replicate_zero, List.cons_append, List.nil_append, List.append_nil, List.set_cons_zero, List.set_cons_succ, List.getElem?_cons_zero, List.getElem?_cons_succ, Nat.reduceAdd, Nat.reduceSub, Option.some.injEq, Sl.imm.injEq, Sl.own.injEq, Sl.scr.injEq, exists_eq_left, exists_eq_left', exists_eq_right, exists_eq, exists_eq', exists_and_left, and_assoc, and_true, true_and, ne_eq, not_false_eq_true, Nat.succ_ne_zero, or_true, true_or, true_implies, forall_eq', forall_eq, PyData.int.injEq, PyData.bool.injEq, PyData.list.injEq, PyData.tuple.injEq, List.cons.injEq, i_add, i_iadd, i_sub, i_mul, i_mod, i_fdiv, i_fdivG, i_pow, i_neg, i_le, i_ge, i_gt, i_lt, i_eq, i_ne, i_intI, i_intB, i_abs, i_max, i_min, i_lenL, i_lenT, i_ixL, i_ixT, i_tupL, i_tupT, i_truB, Bool.not_true, Bool.not_false, Bool.false_eq_true, if_true, if_false, reduceIte]
  refine ⟨fun _ _ => ?_, fun z => (by rw [isF_fr hp, isF_fr hq] at z; cases z)⟩
  simp -failIfUnchanged only [wCallW, wForFv, forFvW, wMkX, wDic1, wMtX, wForPr, forPrW, wPNil, wPCons, wVar, wC, wOp, wUn, wCl, wB, wTr, wAnd, wOr, wNot, wAndV, wOrV, wNotV, wIf, wCh, wNil, wCons, wTup, wLe, wSz, wFn, wFnJ, wFnB, wFnJB, wBNil, wBCons, wBOwn, rsvP, rsvJ, wNext, wRet, wRetN, wDrop, wIfS, wSet, wSetOwn, wNever, wAug, wOpO, wIxO, wOpR, wClO, wApp, wSetIt, wFrz, wFor, wRg1, wRg2, wSq, wEnum, wZip, wZipM, wZipS, wZipU, wgN, wgT, wgNil, wgCons, wYes, wAsgT, wgLs, wLenS, wIxS, wFnS, wFnJL, wFnX, wRaise, wRaiseF, wForFn, forFnW, wMet, hide, wIsi, wListOf, wRev, edP, edJ, enP, enJ, enS, NotOwn, Flat, List.map_cons, List.map_nil, List.length_cons, List.length_nil, List.replicate_succ, List.replicate_zero, List.cons_append, List.nil_append, List.append_nil, List.set_cons_zero, List.set_cons_succ, List.getElem?_cons_zero, List.getElem?_cons_succ, Nat.reduceAdd, Nat.reduceSub, Option.some.injEq, Sl.imm.injEq, Sl.own.injEq, Sl.scr.injEq, exists_eq_left, exists_eq_left', exists_eq_right, exists_eq, exists_eq', exists_and_left, and_assoc, and_true, true_and, ne_eq, not_false_eq_true, Nat.succ_ne_zero, or_true, true_or, true_implies, forall_eq', forall_eq, PyData.int.injEq, PyData.bool.injEq, PyData.list.injEq, PyData.tuple.injEq, List.cons.injEq, i_add, i_iadd, i_sub, i_mul, i_mod, i_fdiv, i_fdivG, i_pow, i_neg, i_le, i_ge, i_gt, i_lt, i_eq, i_ne, i_intI, i_intB, i_abs, i_max, i_min, i_lenL, i_lenT, i_ixL, i_ixT, i_tupL, i_tupT, i_truB, Bool.not_true, Bool.not_false, Bool.false_eq_true, if_true, if_false, reduceIte]
  refine ⟨_, (at0 : dIx (fr q) (.int 0) _), _, i_neg.mpr rfl, _, (at1 : dIx (fr q) (.int 1) _), by decide, ?_⟩
  rw [fr_neg]
  exact ⟨p, -q, rfl, tn_bb hp, sm_neg (tn_bb hq), k⟩
theorem pu_compared (ds Q R) (hl : ds.length = 2) (h : wf_compared ds Q R) : ws_compared (fun e _ => R e) (edP Q) (enP N_compared ds) := by
  obtain ⟨p, q, rfl, hp, hq, k⟩ := h
  unfold ws_compared
  (try dsimp only); rw [wSeq_eq]; simp -failIfUnchanged only [N_compared, wf_check_two, wCallW, wForFv, forFvW, wMkX, wDic1, wMtX, wForPr, forPrW, wPNil, wPCons, wVar, wC, wOp, wUn, wCl, wB, wTr, wAnd, wOr, wNot, wAndV, wOrV, wNotV, wIf, wCh, wNil, wCons, wTup, wLe, wSz, wFn, wFnJ, wFnB, wFnJB, wBNil, wBCons, wBOwn, rsvP, rsvJ, wNext, wRet, wRetN, wDrop, wIfS, wSet, wSetOwn, wNever, wAug, wOpO, wIxO, wOpR, wClO, wApp, wSetIt, wFrz, wFor, wRg1, wRg2, wSq, wEnum, wZip, wZipM, wZipS, wZipU, wgN, wgT, wgNil, wgCons, wYes, wAsgT, wgLs, wLenS, wIxS, wFnS, wFnJL, wFnX, wRaise, wRaiseF, wForFn, forFnW, wMet, hide, wIsi, wListOf, wRev, edP, edJ, enP, enJ, enS, NotOwn, Flat, List.map_cons, List.map_nil, List.length_cons, List.length_nil, List.replicate_succ, List.replicate_zero, List.cons_append, List.nil_append, List.append_nil, List.set_cons_zero, List.set_cons_succ, List.getElem?_cons_zero, List.getElem?_cons_succ, Nat.reduceAdd, Nat.reduceSub, Option.some.injEq, Sl.imm.injEq, Sl.own.injEq, Sl.scr.injEq, exists_eq_left, exists_eq_left', exists_eq_right, exists_eq, exists_eq', exists_and_left, and_assoc, and_true, true_and, ne_eq, not_false_eq_true, Nat.succ_ne_zero, or_true, true_or, true_implies, forall_eq', forall_eq, PyData.int.injEq, PyData.bool.injEq, PyData.list.injEq, PyData.tuple.injEq, List.cons.injEq, i_add, i_iadd, i_sub, i_mul, i_mod, i_fdiv, i_fdivG, i_pow, i_neg, i_le, i_ge, i_gt, i_lt, i_eq, i_ne, i_intI, i_intB, i_abs, i_max, i_min, i_lenL, i_lenT, i_ixL, i_ixT, i_tupL, i_tupT, i_truB, Bool.not_true, Bool.not_false, Bool.false_eq_true, if_true, if_false, reduceIte]
  refine ⟨fun _ _ => ?_, fun z => (by rw [isF_fr hp, isF_fr hq] at z; cases z)⟩
  exact ⟨p, q, rfl, tn_bb hp, tn_bb hq, k⟩
theorem pu_over (ds Q R) (hl : ds.length = 2) (h : wf_over ds Q R) : ws_over (fun e _ => R e) (edP Q) (enP N_over ds) := by
  obtain ⟨p, q, rfl, hp, hq, h0, k⟩ := h
  unfold ws_over
  (try dsimp only); rw [wSeq_eq]; simp -failIfUnchanged only [N_over, wf_check_two, wCallW, wForFv, forFvW, wMkX, wDic1, wMtX, wForPr, forPrW, wPNil, wPCons, wVar, wC, wOp, wUn, wCl, wB, wTr, wAnd, wOr, wNot, wAndV, wOrV, wNotV, wIf, wCh, wNil, wCons, wTup, wLe, wSz, wFn, wFnJ, wFnB, wFnJB, wBNil, wBCons, wBOwn, rsvP, rsvJ, wNext, wRet, wRetN, wDrop, wIfS, wSet, wSetOwn, wNever, wAug, wOpO, wIxO, wOpR, wClO, wApp, wSetIt, wFrz, wFor, wRg1, wRg2, wSq, wEnum, wZip, wZipM, wZipS, wZipU, wgN, wgT, wgNil, wgCons, wYes, wAsgT, wgLs, wLenS, wIxS, wFnS, wFnJL, wFnX, wRaise, wRaiseF, wForFn, forFnW, wMet, hide, wIsi, wListOf, wRev, edP, edJ, enP, enJ, enS, NotOwn, Flat, List.map_cons, List.map_nil, List.length_cons, List.length_nil, List.replicate_succ, List.replicate_zero, List.cons_append, List.nil_append, List.append_nil, List.set_cons_zero, List.set_cons_succ, List.getElem?_cons_zero, List.getElem?_cons_succ, Nat.reduceAdd, Nat.reduceSub, Option.some.injEq, Sl.imm.injEq, Sl.own.injEq, Sl.scr.injEq, exists_eq_left, exists_eq_left', exists_eq_right, exists_eq, exists_eq', exists_and_left, and_assoc, and_true, true_and, ne_eq, not_false_eq_true, Nat.succ_ne_zero, or_true, true_or, true_implies, forall_eq', forall_eq, PyData.int.injEq, PyData.bool.injEq, PyData.list.injEq, PyData.tuple.injEq, List.cons.injEq, i_add, i_iadd, i_sub, i_mul, i_mod, i_fdiv, i_fdivG, i_pow, i_neg, i_le, i_ge, i_gt, i_lt, i_eq, i_ne, i_intI, i_intB, i_abs, i_max, i_min, i_lenL, i_lenT, i_ixL, i_ixT, i_tupL, i_tupT, i_truB, Bool.not_true, Bool.not_false, Bool.false_eq_true, if_true, if_false, reduceIte]
  refine ⟨fun _ _ => ?_, fun z => (by rw [isF_fr hp, isF_fr hq] at z; cases z)⟩
  obtain ⟨s1, s2, s3, s4, s5, s6⟩ := sum_ok (tn_bb hp) (tn_bb hq)
  unfold fr
  (try dsimp only); rw [wSeq_eq]; simp -failIfUnchanged only [at0, at1, wCallW, wForFv, forFvW, wMkX, wDic1, wMtX, wForPr, forPrW, wPNil, wPCons, wVar, wC, wOp, wUn, wCl, wB, wTr, wAnd, wOr, wNot, wAndV, wOrV, wNotV, wIf, wCh, wNil, wCons, wTup, wLe, wSz, wFn, wFnJ, wFnB, wFnJB, wBNil, wBCons, wBOwn, rsvP, rsvJ, wNext, wRet, wRetN, wDrop, wIfS, wSet, wSetOwn, wNever, wAug, wOpO, wIxO, wOpR, wClO, wApp, wSetIt, wFrz, wFor, wRg1, wRg2, wSq, wEnum, wZip, wZipM, wZipS, wZipU, wgN, wgT, wgNil, wgCons, wYes, wAsgT, wgLs, wLenS, wIxS, wFnS, wFnJL, wFnX, wRaise, wRaiseF, wForFn, forFnW, wMet, hide, wIsi, wListOf, wRev, edP, edJ, enP, enJ, enS, NotOwn, Flat, List.map_cons, List.map_nil, List.length_cons, List.length_nil, List.replicate_succ, List.replicate_zero, List.cons_append, List.nil_append, List.append_nil, List.set_cons_zero, List.set_cons_succ, List.getElem?_cons_zero, List.getElem?_cons_succ, Nat.reduceAdd, Nat.reduceSub, Option.some.injEq, Sl.imm.injEq, Sl.own.injEq, Sl.scr.injEq, exists_eq_left, exists_eq_left', exists_eq_right, exists_eq, exists_eq', exists_and_left, and_assoc, and_true, true_and, ne_eq, not_false_eq_true, Nat.succ_ne_zero, or_true, true_or, true_implies, forall_eq', forall_eq, PyData.int.injEq, PyData.bool.injEq, PyData.list.injEq, PyData.tuple.injEq, List.cons.injEq, i_add, i_iadd, i_sub, i_mul, i_mod, i_fdiv, i_fdivG, i_pow, i_neg, i_le, i_ge, i_gt, i_lt, i_eq, i_ne, i_intI, i_intB, i_abs, i_max, i_min, i_lenL, i_lenT, i_ixL, i_ixT, i_tupL, i_tupT, i_truB, Bool.not_true, Bool.not_false, Bool.false_eq_true, if_true, if_false, reduceIte]
  rw [if_neg (by simpa using h0)]
  simp -failIfUnchanged only [at0, at1, wf_lowest, wCallW, wForFv, forFvW, wMkX, wDic1, wMtX, wForPr, forPrW, wPNil, wPCons, wVar, wC, wOp, wUn, wCl, wB, wTr, wAnd, wOr, wNot, wAndV, wOrV, wNotV, wIf, wCh, wNil, wCons, wTup, wLe, wSz, wFn, wFnJ, wFnB, wFnJB, wBNil, wBCons, wBOwn, rsvP, rsvJ, wNext, wRet, wRetN, wDrop, wIfS, wSet, wSetOwn, wNever, wAug, wOpO, wIxO, wOpR, wClO, wApp, wSetIt, wFrz, wFor, wRg1, wRg2, wSq, wEnum, wZip, wZipM, wZipS, wZipU, wgN, wgT, wgNil, wgCons, wYes, wAsgT, wgLs, wLenS, wIxS, wFnS, wFnJL, wFnX, wRaise, wRaiseF, wForFn, forFnW, wMet, hide, wIsi, wListOf, wRev, edP, edJ, enP, enJ, enS, NotOwn, Flat, List.map_cons, List.map_nil, List.length_cons, List.length_nil, List.replicate_succ, List.replicate_zero, List.cons_append, List.nil_append, List.append_nil, List.set_cons_zero, List.set_cons_succ, List.getElem?_cons_zero, List.getElem?_cons_succ, Nat.reduceAdd, Nat.reduceSub, Option.some.injEq, Sl.imm.injEq, Sl.own.injEq, Sl.scr.injEq, exists_eq_left, exists_eq_left', exists_eq_right, exists_eq, exists_eq', exists_and_left, and_assoc, and_true, true_and, ne_eq, not_false_eq_true, Nat.succ_ne_zero, or_true, true_or, true_implies, forall_eq', forall_eq, PyData.int.injEq, PyData.bool.injEq, PyData.list.injEq, PyData.tuple.injEq, List.cons.injEq, i_add, i_iadd, i_sub, i_mul, i_mod, i_fdiv, i_fdivG, i_pow, i_neg, i_le, i_ge, i_gt, i_lt, i_eq, i_ne, i_intI, i_intB, i_abs, i_max, i_min, i_lenL, i_lenT, i_ixL, i_ixT, i_tupL, i_tupT, i_truB, Bool.not_true, Bool.not_false, Bool.false_eq_true, if_true, if_false, reduceIte]
  refine ⟨s3, mul_bb (tn_bb hp).2 (tn_bb hq).1, ?_, ?_, k⟩
  · exact Int.mul_ne_zero (by have := p.den_pos; omega) h0
  · rw [Int.natAbs_mul]
    exact Nat.mul_lt_mul_of_lt_of_lt (tn_bb hp).2 (tn_bb hq).1
theorem pu_scale (ds Q R) (hl : ds.length = 2) (h : wf_scale ds Q R) : ws_scale (fun e _ => R e) (edP Q) (enP N_scale ds) := by
  obtain ⟨h, rs, s, rfl, hS, hF, hs, q⟩ := h
  obtain ⟨h1, h6, hL⟩ := id hS
  unfold ws_scale
  (try dsimp only); rw [wSeq_eq]; simp -failIfUnchanged only [N_scale, wCallW, wForFv, forFvW, wMkX, wDic1, wMtX, wForPr, forPrW, wPNil, wPCons, wVar, wC, wOp, wUn, wCl, wB, wTr, wAnd, wOr, wNot, wAndV, wOrV, wNotV, wIf, wCh, wNil, wCons, wTup, wLe, wSz, wFn, wFnJ, wFnB, wFnJB, wBNil, wBCons, wBOwn, rsvP, rsvJ, wNext, wRet, wRetN, wDrop, wIfS, wSet, wSetOwn, wNever, wAug, wOpO, wIxO, wOpR, wClO, wApp, wSetIt, wFrz, wFor, wRg1, wRg2, wSq, wEnum, wZip, wZipM, wZipS, wZipU, wgN, wgT, wgNil, wgCons, wYes, wAsgT, wgLs, wLenS, wIxS, wFnS, wFnJL, wFnX, wRaise, wRaiseF, wForFn, forFnW, wMet, hide, wIsi, wListOf, wRev, edP, edJ, enP, enJ, enS, NotOwn, Flat, List.map_cons, List.map_nil, List.length_cons, List.length_nil, List.replicate_succ, List.replicate_zero, List.cons_append, List.nil_append, List.append_nil, List.set_cons_zero, List.set_cons_succ, List.getElem?_cons_zero, List.getElem?_cons_succ, Nat.reduceAdd, Nat.reduceSub, Option.some.injEq, Sl.imm.injEq, Sl.own.injEq, Sl.scr.injEq, exists_eq_left, exists_eq_left', exists_eq_right, exists_eq, exists_eq', exists_and_left, and_assoc, and_true, true_and, ne_eq, not_false_eq_true, Nat.succ_ne_zero, or_true, true_or, true_implies, forall_eq', forall_eq, PyData.int.injEq, PyData.bool.injEq, PyData.list.injEq, PyData.tuple.injEq, List.cons.injEq, i_add, i_iadd, i_sub, i_mul, i_mod, i_fdiv, i_fdivG, i_pow, i_neg, i_le, i_ge, i_gt, i_lt, i_eq, i_ne, i_intI, i_intB, i_abs, i_max, i_min, i_lenL, i_lenT, i_ixL, i_ixT, i_tupL, i_tupT, i_truB, Bool.not_true, Bool.not_false, Bool.false_eq_true, if_true, if_false, reduceIte]
  refine ⟨_, _, rfl, hcY (by omega) (by omega) hL ?_⟩
  simp -failIfUnchanged only [wCallW, wForFv, forFvW, wMkX, wDic1, wMtX, wForPr, forPrW, wPNil, wPCons, wVar, wC, wOp, wUn, wCl, wB, wTr, wAnd, wOr, wNot, wAndV, wOrV, wNotV, wIf, wCh, wNil, wCons, wTup, wLe, wSz, wFn, wFnJ, wFnB, wFnJB, wBNil, wBCons, wBOwn, rsvP, rsvJ, wNext, wRet, wRetN, wDrop, wIfS, wSet, wSetOwn, wNever, wAug, wOpO, wIxO, wOpR, wClO, wApp, wSetIt, wFrz, wFor, wRg1, wRg2, wSq, wEnum, wZip, wZipM, wZipS, wZipU, wgN, wgT, wgNil, wgCons, wYes, wAsgT, wgLs, wLenS, wIxS, wFnS, wFnJL, wFnX, wRaise, wRaiseF, wForFn, forFnW, wMet, hide, wIsi, wListOf, wRev, edP, edJ, enP, enJ, enS, NotOwn, Flat, List.map_cons, List.map_nil, List.length_cons, List.length_nil, List.replicate_succ, List.replicate_zero, List.cons_append, List.nil_append, List.append_nil, List.set_cons_zero, List.set_cons_succ, List.getElem?_cons_zero, List.getElem?_cons_succ, Nat.reduceAdd, Nat.reduceSub, Option.some.injEq, Sl.imm.injEq, Sl.own.injEq, Sl.scr.injEq, exists_eq_left, exists_eq_left', exists_eq_right, exists_eq, exists_eq', exists_and_left, and_assoc, and_true, true_and, ne_eq, not_false_eq_true, Nat.succ_ne_zero, or_true, true_or, true_implies, forall_eq', forall_eq, PyData.int.injEq, PyData.bool.injEq, PyData.list.injEq, PyData.tuple.injEq, List.cons.injEq, i_add, i_iadd, i_sub, i_mul, i_mod, i_fdiv, i_fdivG, i_pow, i_neg, i_le, i_ge, i_gt, i_lt, i_eq, i_ne, i_intI, i_intB, i_abs, i_max, i_min, i_lenL, i_lenT, i_ixL, i_ixT, i_tupL, i_tupT, i_truB, Bool.not_true, Bool.not_false, Bool.false_eq_true, if_true, if_false, reduceIte]
  exact ⟨h, rs, s, rfl, hS, hF, hs, q⟩
theorem fr_ne1 {q : Rat} (h : q ≠ 1) : [q.num, (q.den : Int)] ≠ [1, 1] := fun e => by
  injection e with e1 e2
  injection e2 with e2 _
  exact h (Rat.ext e1 (by have : (1 : Rat).den = 1 := rfl
                          omega))
theorem pu_check_not_all (ds Q R) (hl : ds.length = 1) (h : wf_check_not_all ds Q R) : ws_check_not_all (fun e _ => R e) (edP Q) (enP N_check_not_all ds) := by
  obtain ⟨q, rfl, hq, k⟩ := h
  unfold ws_check_not_all
  simp -failIfUnchanged only [N_check_not_all, wCallW, wForFv, forFvW, wMkX, wDic1, wMtX, wForPr, forPrW, wPNil, wPCons, wVar, wC, wOp, wUn, wCl, wB, wTr, wAnd, wOr, wNot, wAndV, wOrV, wNotV, wIf, wCh, wNil, wCons, wTup, wLe, wSz, wFn, wFnJ, wFnB, wFnJB, wBNil, wBCons, wBOwn, rsvP, rsvJ, wNext, wRet, wRetN, wDrop, wIfS, wSet, wSetOwn, wNever, wAug, wOpO, wIxO, wOpR, wClO, wApp, wSetIt, wFrz, wFor, wRg1, wRg2, wSq, wEnum, wZip, wZipM, wZipS, wZipU, wgN, wgT, wgNil, wgCons, wYes, wAsgT, wgLs, wLenS, wIxS, wFnS, wFnJL, wFnX, wRaise, wRaiseF, wForFn, forFnW, wMet, hide, wIsi, wListOf, wRev, edP, edJ, enP, enJ, enS, NotOwn, Flat, List.map_cons, List.map_nil, List.length_cons, List.length_nil, List.replicate_succ, List.replicate_zero, List.cons_append, List.nil_append, List.append_nil, List.set_cons_zero, List.set_cons_succ, List.getElem?_cons_zero, List.getElem?_cons_succ, Nat.reduceAdd, Nat.reduceSub, Option.some.injEq, Sl.imm.injEq, Sl.own.injEq, Sl.scr.injEq, exists_eq_left, exists_eq_left', exists_eq_right, exists_eq, exists_eq', exists_and_left, and_assoc, and_true, true_and, ne_eq, not_false_eq_true, Nat.succ_ne_zero, or_true, true_or, true_implies, forall_eq', forall_eq, PyData.int.injEq, PyData.bool.injEq, PyData.list.injEq, PyData.tuple.injEq, List.cons.injEq, i_add, i_iadd, i_sub, i_mul, i_mod, i_fdiv, i_fdivG, i_pow, i_neg, i_le, i_ge, i_gt, i_lt, i_eq, i_ne, i_intI, i_intB, i_abs, i_max, i_min, i_lenL, i_lenT, i_ixL, i_ixT, i_tupL, i_tupT, i_truB, Bool.not_true, Bool.not_false, Bool.false_eq_true, if_true, if_false, reduceIte]
  refine ⟨_, encR.eq (by decide) (a := [q.num, (q.den : Int)]) (b := [1, 1]) |>.mpr rfl, false, congrArg PyData.bool (decide_eq_false (fr_ne1 hq)), ?_⟩
  rw [if_neg Bool.false_ne_true]
  exact k
theorem pu_shared_for_one (ds Q) (hl : ds.length = 1) (h : wf_shared_for_one ds Q) : ws_shared_for_one (edP Q) (enP N_shared_for_one ds) := by
  obtain ⟨q, r, rfl, hq, r1, r2, k⟩ := h
  simp only [ws_shared_for_one, N_shared_for_one, wCallW, wForFv, forFvW, wMkX, wDic1, wMtX, wForPr, forPrW, wPNil, wPCons, wVar, wC, wOp, wUn, wCl, wB, wTr, wAnd, wOr, wNot, wAndV, wOrV, wNotV, wIf, wCh, wNil, wCons, wTup, wLe, wSz, wFn, wFnJ, wFnB, wFnJB, wBNil, wBCons, wBOwn, rsvP, rsvJ, wNext, wSeq, wRet, wRetN, wDrop, wIfS, wSet, wSetOwn, wNever, wAug, wOpO, wIxO, wOpR, wClO, wApp, wSetIt, wFrz, wFor, wRg1, wRg2, wSq, wEnum, wZip, wZipM, wZipS, wZipU, wgN, wgT, wgNil, wgCons, wYes, wAsgT, wgLs, wLenS, wIxS, wFnS, wFnJL, wFnX, wRaise, wRaiseF, wForFn, forFnW, wMet, hide, wIsi, wListOf, wRev, edP, edJ, enP, enJ, enS, NotOwn, Flat, List.map_cons, List.map_nil, List.length_cons, List.length_nil, List.replicate_succ, List.replicate_zero, List.cons_append, List.nil_append, List.append_nil, List.set_cons_zero, List.set_cons_succ, List.getElem?_cons_zero, List.getElem?_cons_succ, Nat.reduceAdd, Nat.reduceSub, Option.some.injEq, Sl.imm.injEq, Sl.own.injEq, Sl.scr.injEq, exists_eq_left, exists_eq_left', exists_eq_right, exists_eq, exists_eq', exists_and_left, and_assoc, and_true, true_and, ne_eq, not_false_eq_true, Nat.succ_ne_zero, or_true, true_or, true_implies, forall_eq', forall_eq, PyData.int.injEq, PyData.bool.injEq, PyData.list.injEq, PyData.tuple.injEq, List.cons.injEq, i_add, i_iadd, i_sub, i_mul, i_mod, i_fdiv, i_fdivG, i_pow, i_neg, i_le, i_ge, i_gt, i_lt, i_eq, i_ne, i_intI, i_intB, i_abs, i_max, i_min, i_lenL, i_lenT, i_ixL, i_ixT, i_tupL, i_tupT, i_truB, Bool.not_true, Bool.not_false, Bool.false_eq_true, if_true, if_false, reduceIte]
  refine ⟨by decide, q, -1, rfl, hq, ⟨by decide +kernel, by decide +kernel⟩, _, rfl, ?_⟩
  rw [← r1, ← r2]
  exact k
theorem gpB_sm {p : Rat} : ∀ {n : Nat} {m : Rat}, gpB p n m = true → Sm BB m
  | 0, m, h => by
    unfold gpB at h
    rw [Bool.and_eq_true, decide_eq_true_eq, decide_eq_true_eq] at h
    exact h
  | n + 1, m, h => by
    unfold gpB at h
    rw [Bool.and_eq_true, Bool.and_eq_true, decide_eq_true_eq, decide_eq_true_eq] at h
    exact h.1
theorem gp_loop {q p : Rat} {b l : D} {R : Ed} (e1 : p.num = (q.den : Int)) (e2 : (p.den : Int) = q.num) (hp : Sm BB p) : ∀ (xs : List D) (m : Rat) (s4 : Sl), gpB p xs.length m = true → (∀ s4, R.nx [.imm (fr q), .imm b, .imm l, .imm (fr (gpA p xs.length m)), s4]) →
    forW (wgN 4) (wSet 3 (wFn 2 wf_product_of_two (wCons (wVar 3) (wCons (wFn 1 wf_turned (wCons (wVar 0) wNil)) wNil)))) R xs [.imm (fr q), .imm b, .imm l, .imm (fr m), s4]
  | [], m, s4, _, k => k s4
  | x :: xs, m, s4, hw, k => by
    have hm := gpB_sm hw
    have hw2 : gpB p xs.length (m * p) = true := by
      rw [List.length_cons] at hw
      unfold gpB at hw
      rw [Bool.and_eq_true] at hw
      exact hw.2
    have rec_ := fun s4 => gp_loop (b := b) (l := l) (R := R) e1 e2 hp xs (m * p) s4 hw2 k
    unfold forW
    generalize forW (wgN 4) _ R xs = N at rec_ ⊢
    simp -failIfUnchanged only [wCallW, wForFv, forFvW, wMkX, wDic1, wMtX, wForPr, forPrW, wPNil, wPCons, wVar, wC, wOp, wUn, wCl, wB, wTr, wAnd, wOr, wNot, wAndV, wOrV, wNotV, wIf, wCh, wNil, wCons, wTup, wLe, wSz, wFn, wFnJ, wFnB, wFnJB, wBNil, wBCons, wBOwn, rsvP, rsvJ, wNext, wRet, wRetN, wDrop, wIfS, wSet, wSetOwn, wNever, wAug, wOpO, wIxO, wOpR, wClO, wApp, wSetIt, wFrz, wFor, wRg1, wRg2, wSq, wEnum, wZip, wZipM, wZipS, wZipU, wgN, wgT, wgNil, wgCons, wYes, wAsgT, wgLs, wLenS, wIxS, wFnS, wFnJL, wFnX, wRaise, wRaiseF, wForFn, forFnW, wMet, hide, wIsi, wListOf, wRev, edP, edJ, enP, enJ, enS, NotOwn, Flat, List.map_cons, List.map_nil, List.length_cons, List.length_nil, List.replicate_succ, List.replicate_zero, List.cons_append, List.nil_append, List.append_nil, List.set_cons_zero, List.set_cons_succ, List.getElem?_cons_zero, List.getElem?_cons_succ, Nat.reduceAdd, Nat.reduceSub, Option.some.injEq, Sl.imm.injEq, Sl.own.injEq, Sl.scr.injEq, exists_eq_left, exists_eq_left', exists_eq_right, exists_eq, exists_eq', exists_and_left, and_assoc, and_true, true_and, ne_eq, not_false_eq_true, Nat.succ_ne_zero, or_true, true_or, true_implies, forall_eq', forall_eq, PyData.int.injEq, PyData.bool.injEq, PyData.list.injEq, PyData.tuple.injEq, List.cons.injEq, i_add, i_iadd, i_sub, i_mul, i_mod, i_fdiv, i_fdivG, i_pow, i_neg, i_le, i_ge, i_gt, i_lt, i_eq, i_ne, i_intI, i_intB, i_abs, i_max, i_min, i_lenL, i_lenT, i_ixL, i_ixT, i_tupL, i_tupT, i_truB, Bool.not_true, Bool.not_false, Bool.false_eq_true, if_true, if_false, reduceIte]
    refine ⟨q, rfl, m, p, ?_, hm, hp, rec_ _⟩
    unfold fr
    rw [e1, e2]
theorem pu_gap_of (ds Q) (hl : ds.length = 3) (h : wf_gap_of ds Q) : ws_gap_of (edP Q) (enP N_gap_of ds) := by
  obtain ⟨q, p, r, n, l, rfl, n1, n20, l1, l100, ⟨g1, g2, g3, g4, g5, g6, g7, g8, g9⟩, k⟩ := h
  unfold ws_gap_of
  (try dsimp only); rw [wSeq_eq]; simp -failIfUnchanged only [N_gap_of, wCallW, wForFv, forFvW, wMkX, wDic1, wMtX, wForPr, forPrW, wPNil, wPCons, wVar, wC, wOp, wUn, wCl, wB, wTr, wAnd, wOr, wNot, wAndV, wOrV, wNotV, wIf, wCh, wNil, wCons, wTup, wLe, wSz, wFn, wFnJ, wFnB, wFnJB, wBNil, wBCons, wBOwn, rsvP, rsvJ, wNext, wRet, wRetN, wDrop, wIfS, wSet, wSetOwn, wNever, wAug, wOpO, wIxO, wOpR, wClO, wApp, wSetIt, wFrz, wFor, wRg1, wRg2, wSq, wEnum, wZip, wZipM, wZipS, wZipU, wgN, wgT, wgNil, wgCons, wYes, wAsgT, wgLs, wLenS, wIxS, wFnS, wFnJL, wFnX, wRaise, wRaiseF, wForFn, forFnW, wMet, hide, wIsi, wListOf, wRev, edP, edJ, enP, enJ, enS, NotOwn, Flat, List.map_cons, List.map_nil, List.length_cons, List.length_nil, List.replicate_succ, List.replicate_zero, List.cons_append, List.nil_append, List.append_nil, List.set_cons_zero, List.set_cons_succ, List.getElem?_cons_zero, List.getElem?_cons_succ, Nat.reduceAdd, Nat.reduceSub, Option.some.injEq, Sl.imm.injEq, Sl.own.injEq, Sl.scr.injEq, exists_eq_left, exists_eq_left', exists_eq_right, exists_eq, exists_eq', exists_and_left, and_assoc, and_true, true_and, ne_eq, not_false_eq_true, Nat.succ_ne_zero, or_true, true_or, true_implies, forall_eq', forall_eq, PyData.int.injEq, PyData.bool.injEq, PyData.list.injEq, PyData.tuple.injEq, List.cons.injEq, i_add, i_iadd, i_sub, i_mul, i_mod, i_fdiv, i_fdivG, i_pow, i_neg, i_le, i_ge, i_gt, i_lt, i_eq, i_ne, i_intI, i_intB, i_abs, i_max, i_min, i_lenL, i_lenT, i_ixL, i_ixT, i_tupL, i_tupT, i_truB, Bool.not_true, Bool.not_false, Bool.false_eq_true, if_true, if_false, reduceIte]
  refine ⟨_, ⟨rfl, rfl⟩, false, rfl, ?_⟩
  rw [if_neg Bool.false_ne_true]
  (try dsimp only); rw [wSeq_eq]; simp -failIfUnchanged only [wCallW, wForFv, forFvW, wMkX, wDic1, wMtX, wForPr, forPrW, wPNil, wPCons, wVar, wC, wOp, wUn, wCl, wB, wTr, wAnd, wOr, wNot, wAndV, wOrV, wNotV, wIf, wCh, wNil, wCons, wTup, wLe, wSz, wFn, wFnJ, wFnB, wFnJB, wBNil, wBCons, wBOwn, rsvP, rsvJ, wNext, wRet, wRetN, wDrop, wIfS, wSet, wSetOwn, wNever, wAug, wOpO, wIxO, wOpR, wClO, wApp, wSetIt, wFrz, wFor, wRg1, wRg2, wSq, wEnum, wZip, wZipM, wZipS, wZipU, wgN, wgT, wgNil, wgCons, wYes, wAsgT, wgLs, wLenS, wIxS, wFnS, wFnJL, wFnX, wRaise, wRaiseF, wForFn, forFnW, wMet, hide, wIsi, wListOf, wRev, edP, edJ, enP, enJ, enS, NotOwn, Flat, List.map_cons, List.map_nil, List.length_cons, List.length_nil, List.replicate_succ, List.replicate_zero, List.cons_append, List.nil_append, List.append_nil, List.set_cons_zero, List.set_cons_succ, List.getElem?_cons_zero, List.getElem?_cons_succ, Nat.reduceAdd, Nat.reduceSub, Option.some.injEq, Sl.imm.injEq, Sl.own.injEq, Sl.scr.injEq, exists_eq_left, exists_eq_left', exists_eq_right, exists_eq, exists_eq', exists_and_left, and_assoc, and_true, true_and, ne_eq, not_false_eq_true, Nat.succ_ne_zero, or_true, true_or, true_implies, forall_eq', forall_eq, PyData.int.injEq, PyData.bool.injEq, PyData.list.injEq, PyData.tuple.injEq, List.cons.injEq, i_add, i_iadd, i_sub, i_mul, i_mod, i_fdiv, i_fdivG, i_pow, i_neg, i_le, i_ge, i_gt, i_lt, i_eq, i_ne, i_intI, i_intB, i_abs, i_max, i_min, i_lenL, i_lenT, i_ixL, i_ixT, i_tupL, i_tupT, i_truB, Bool.not_true, Bool.not_false, Bool.false_eq_true, if_true, if_false, reduceIte]
  refine ⟨by decide, q, r, rfl, g2, g6, g7, ?_⟩
  rw [fr_int]
  refine ⟨_, _, rfl, ⟨?_, ?_⟩, g8, ?_⟩
  · rw [Rat.num_intCast]
    exact Nat.lt_trans (show l.natAbs < 2 ^ 31 by omega) (by unfold BB; exact Nat.pow_lt_pow_right (by decide) (by decide))
  · rw [Rat.den_intCast]
    unfold BB; exact Nat.one_lt_two_pow (by decide)
  (try dsimp only); rw [wSeq_eq]; simp -failIfUnchanged only [wCallW, wForFv, forFvW, wMkX, wDic1, wMtX, wForPr, forPrW, wPNil, wPCons, wVar, wC, wOp, wUn, wCl, wB, wTr, wAnd, wOr, wNot, wAndV, wOrV, wNotV, wIf, wCh, wNil, wCons, wTup, wLe, wSz, wFn, wFnJ, wFnB, wFnJB, wBNil, wBCons, wBOwn, rsvP, rsvJ, wNext, wRet, wRetN, wDrop, wIfS, wSet, wSetOwn, wNever, wAug, wOpO, wIxO, wOpR, wClO, wApp, wSetIt, wFrz, wFor, wRg1, wRg2, wSq, wEnum, wZip, wZipM, wZipS, wZipU, wgN, wgT, wgNil, wgCons, wYes, wAsgT, wgLs, wLenS, wIxS, wFnS, wFnJL, wFnX, wRaise, wRaiseF, wForFn, forFnW, wMet, hide, wIsi, wListOf, wRev, edP, edJ, enP, enJ, enS, NotOwn, Flat, List.map_cons, List.map_nil, List.length_cons, List.length_nil, List.replicate_succ, List.replicate_zero, List.cons_append, List.nil_append, List.append_nil, List.set_cons_zero, List.set_cons_succ, List.getElem?_cons_zero, List.getElem?_cons_succ, Nat.reduceAdd, Nat.reduceSub, Option.some.injEq, Sl.imm.injEq, Sl.own.injEq, Sl.scr.injEq, exists_eq_left, exists_eq_left', exists_eq_right, exists_eq, exists_eq', exists_and_left, and_assoc, and_true, true_and, ne_eq, not_false_eq_true, Nat.succ_ne_zero, or_true, true_or, true_implies, forall_eq', forall_eq, PyData.int.injEq, PyData.bool.injEq, PyData.list.injEq, PyData.tuple.injEq, List.cons.injEq, i_add, i_iadd, i_sub, i_mul, i_mod, i_fdiv, i_fdivG, i_pow, i_neg, i_le, i_ge, i_gt, i_lt, i_eq, i_ne, i_intI, i_intB, i_abs, i_max, i_min, i_lenL, i_lenT, i_ixL, i_ixT, i_tupL, i_tupT, i_truB, Bool.not_true, Bool.not_false, Bool.false_eq_true, if_true, if_false, reduceIte]
  refine ⟨by omega, by omega, gp_loop g3 g4 g5 _ _ _ ?_ fun s4 => ?_⟩
  · rw [rngD_len, show ((n : Int) - 1).toNat = n - 1 by omega]
    exact g9
  simp -failIfUnchanged only [wCallW, wForFv, forFvW, wMkX, wDic1, wMtX, wForPr, forPrW, wPNil, wPCons, wVar, wC, wOp, wUn, wCl, wB, wTr, wAnd, wOr, wNot, wAndV, wOrV, wNotV, wIf, wCh, wNil, wCons, wTup, wLe, wSz, wFn, wFnJ, wFnB, wFnJB, wBNil, wBCons, wBOwn, rsvP, rsvJ, wNext, wRet, wRetN, wDrop, wIfS, wSet, wSetOwn, wNever, wAug, wOpO, wIxO, wOpR, wClO, wApp, wSetIt, wFrz, wFor, wRg1, wRg2, wSq, wEnum, wZip, wZipM, wZipS, wZipU, wgN, wgT, wgNil, wgCons, wYes, wAsgT, wgLs, wLenS, wIxS, wFnS, wFnJL, wFnX, wRaise, wRaiseF, wForFn, forFnW, wMet, hide, wIsi, wListOf, wRev, edP, edJ, enP, enJ, enS, NotOwn, Flat, List.map_cons, List.map_nil, List.length_cons, List.length_nil, List.replicate_succ, List.replicate_zero, List.cons_append, List.nil_append, List.append_nil, List.set_cons_zero, List.set_cons_succ, List.getElem?_cons_zero, List.getElem?_cons_succ, Nat.reduceAdd, Nat.reduceSub, Option.some.injEq, Sl.imm.injEq, Sl.own.injEq, Sl.scr.injEq, exists_eq_left, exists_eq_left', exists_eq_right, exists_eq, exists_eq', exists_and_left, and_assoc, and_true, true_and, ne_eq, not_false_eq_true, Nat.succ_ne_zero, or_true, true_or, true_implies, forall_eq', forall_eq, PyData.int.injEq, PyData.bool.injEq, PyData.list.injEq, PyData.tuple.injEq, List.cons.injEq, i_add, i_iadd, i_sub, i_mul, i_mod, i_fdiv, i_fdivG, i_pow, i_neg, i_le, i_ge, i_gt, i_lt, i_eq, i_ne, i_intI, i_intB, i_abs, i_max, i_min, i_lenL, i_lenT, i_ixL, i_ixT, i_tupL, i_tupT, i_truB, Bool.not_true, Bool.not_false, Bool.false_eq_true, if_true, if_false, reduceIte]
  rw [rngD_len, show ((n : Int) - 1).toNat = n - 1 by omega]
  exact k
theorem pu_gap (ds Q R) (hl : ds.length = 4) (h : wf_gap ds Q R) : ws_gap (fun e _ => R e) (edP Q) (enP N_gap ds) := by
  obtain ⟨h, rs, s, p, r, n, l, rfl, hS, hF, hs, n1, n20, l1, l100, hO, q⟩ := h
  obtain ⟨h1, h6, hL⟩ := id hS
  unfold ws_gap
  (try dsimp only); rw [wSeq_eq]; simp -failIfUnchanged only [N_gap, wCallW, wForFv, forFvW, wMkX, wDic1, wMtX, wForPr, forPrW, wPNil, wPCons, wVar, wC, wOp, wUn, wCl, wB, wTr, wAnd, wOr, wNot, wAndV, wOrV, wNotV, wIf, wCh, wNil, wCons, wTup, wLe, wSz, wFn, wFnJ, wFnB, wFnJB, wBNil, wBCons, wBOwn, rsvP, rsvJ, wNext, wRet, wRetN, wDrop, wIfS, wSet, wSetOwn, wNever, wAug, wOpO, wIxO, wOpR, wClO, wApp, wSetIt, wFrz, wFor, wRg1, wRg2, wSq, wEnum, wZip, wZipM, wZipS, wZipU, wgN, wgT, wgNil, wgCons, wYes, wAsgT, wgLs, wLenS, wIxS, wFnS, wFnJL, wFnX, wRaise, wRaiseF, wForFn, forFnW, wMet, hide, wIsi, wListOf, wRev, edP, edJ, enP, enJ, enS, NotOwn, Flat, List.map_cons, List.map_nil, List.length_cons, List.length_nil, List.replicate_succ, List.replicate_zero, List.cons_append, List.nil_append, List.append_nil, List.set_cons_zero, List.set_cons_succ, List.getElem?_cons_zero, List.getElem?_cons_succ, Nat.reduceAdd, Nat.reduceSub, Option.some.injEq, Sl.imm.injEq, Sl.own.injEq, Sl.scr.injEq, exists_eq_left, exists_eq_left', exists_eq_right, exists_eq, exists_eq', exists_and_left, and_assoc, and_true, true_and, ne_eq, not_false_eq_true, Nat.succ_ne_zero, or_true, true_or, true_implies, forall_eq', forall_eq, PyData.int.injEq, PyData.bool.injEq, PyData.list.injEq, PyData.tuple.injEq, List.cons.injEq, i_add, i_iadd, i_sub, i_mul, i_mod, i_fdiv, i_fdivG, i_pow, i_neg, i_le, i_ge, i_gt, i_lt, i_eq, i_ne, i_intI, i_intB, i_abs, i_max, i_min, i_lenL, i_lenT, i_ixL, i_ixT, i_tupL, i_tupT, i_truB, Bool.not_true, Bool.not_false, Bool.false_eq_true, if_true, if_false, reduceIte]
  refine ⟨_, _, rfl, hcY (by omega) (by omega) hL ?_⟩
  (try dsimp only); rw [wSeq_eq]; simp -failIfUnchanged only [wCallW, wForFv, forFvW, wMkX, wDic1, wMtX, wForPr, forPrW, wPNil, wPCons, wVar, wC, wOp, wUn, wCl, wB, wTr, wAnd, wOr, wNot, wAndV, wOrV, wNotV, wIf, wCh, wNil, wCons, wTup, wLe, wSz, wFn, wFnJ, wFnB, wFnJB, wBNil, wBCons, wBOwn, rsvP, rsvJ, wNext, wRet, wRetN, wDrop, wIfS, wSet, wSetOwn, wNever, wAug, wOpO, wIxO, wOpR, wClO, wApp, wSetIt, wFrz, wFor, wRg1, wRg2, wSq, wEnum, wZip, wZipM, wZipS, wZipU, wgN, wgT, wgNil, wgCons, wYes, wAsgT, wgLs, wLenS, wIxS, wFnS, wFnJL, wFnX, wRaise, wRaiseF, wForFn, forFnW, wMet, hide, wIsi, wListOf, wRev, edP, edJ, enP, enJ, enS, NotOwn, Flat, List.map_cons, List.map_nil, List.length_cons, List.length_nil, List.replicate_succ, List.replicate_zero, List.cons_append, List.nil_append, List.append_nil, List.set_cons_zero, List.set_cons_succ, List.getElem?_cons_zero, List.getElem?_cons_succ, Nat.reduceAdd, Nat.reduceSub, Option.some.injEq, Sl.imm.injEq, Sl.own.injEq, Sl.scr.injEq, exists_eq_left, exists_eq_left', exists_eq_right, exists_eq, exists_eq', exists_and_left, and_assoc, and_true, true_and, ne_eq, not_false_eq_true, Nat.succ_ne_zero, or_true, true_or, true_implies, forall_eq', forall_eq, PyData.int.injEq, PyData.bool.injEq, PyData.list.injEq, PyData.tuple.injEq, List.cons.injEq, i_add, i_iadd, i_sub, i_mul, i_mod, i_fdiv, i_fdivG, i_pow, i_neg, i_le, i_ge, i_gt, i_lt, i_eq, i_ne, i_intI, i_intB, i_abs, i_max, i_min, i_lenL, i_lenT, i_ixL, i_ixT, i_tupL, i_tupT, i_truB, Bool.not_true, Bool.not_false, Bool.false_eq_true, if_true, if_false, reduceIte]
  refine ⟨_, rfl, inB_of (by omega) (by omega), ?_⟩
  (try dsimp only); rw [wSeq_eq]; simp -failIfUnchanged only [wCallW, wForFv, forFvW, wMkX, wDic1, wMtX, wForPr, forPrW, wPNil, wPCons, wVar, wC, wOp, wUn, wCl, wB, wTr, wAnd, wOr, wNot, wAndV, wOrV, wNotV, wIf, wCh, wNil, wCons, wTup, wLe, wSz, wFn, wFnJ, wFnB, wFnJB, wBNil, wBCons, wBOwn, rsvP, rsvJ, wNext, wRet, wRetN, wDrop, wIfS, wSet, wSetOwn, wNever, wAug, wOpO, wIxO, wOpR, wClO, wApp, wSetIt, wFrz, wFor, wRg1, wRg2, wSq, wEnum, wZip, wZipM, wZipS, wZipU, wgN, wgT, wgNil, wgCons, wYes, wAsgT, wgLs, wLenS, wIxS, wFnS, wFnJL, wFnX, wRaise, wRaiseF, wForFn, forFnW, wMet, hide, wIsi, wListOf, wRev, edP, edJ, enP, enJ, enS, NotOwn, Flat, List.map_cons, List.map_nil, List.length_cons, List.length_nil, List.replicate_succ, List.replicate_zero, List.cons_append, List.nil_append, List.append_nil, List.set_cons_zero, List.set_cons_succ, List.getElem?_cons_zero, List.getElem?_cons_succ, Nat.reduceAdd, Nat.reduceSub, Option.some.injEq, Sl.imm.injEq, Sl.own.injEq, Sl.scr.injEq, exists_eq_left, exists_eq_left', exists_eq_right, exists_eq, exists_eq', exists_and_left, and_assoc, and_true, true_and, ne_eq, not_false_eq_true, Nat.succ_ne_zero, or_true, true_or, true_implies, forall_eq', forall_eq, PyData.int.injEq, PyData.bool.injEq, PyData.list.injEq, PyData.tuple.injEq, List.cons.injEq, i_add, i_iadd, i_sub, i_mul, i_mod, i_fdiv, i_fdivG, i_pow, i_neg, i_le, i_ge, i_gt, i_lt, i_eq, i_ne, i_intI, i_intB, i_abs, i_max, i_min, i_lenL, i_lenT, i_ixL, i_ixT, i_tupL, i_tupT, i_truB, Bool.not_true, Bool.not_false, Bool.false_eq_true, if_true, if_false, reduceIte]
  refine ⟨_, rfl, inB_of (by omega) (by omega), ?_⟩
  (try dsimp only); rw [wSeq_eq]; simp -failIfUnchanged only [wCallW, wForFv, forFvW, wMkX, wDic1, wMtX, wForPr, forPrW, wPNil, wPCons, wVar, wC, wOp, wUn, wCl, wB, wTr, wAnd, wOr, wNot, wAndV, wOrV, wNotV, wIf, wCh, wNil, wCons, wTup, wLe, wSz, wFn, wFnJ, wFnB, wFnJB, wBNil, wBCons, wBOwn, rsvP, rsvJ, wNext, wRet, wRetN, wDrop, wIfS, wSet, wSetOwn, wNever, wAug, wOpO, wIxO, wOpR, wClO, wApp, wSetIt, wFrz, wFor, wRg1, wRg2, wSq, wEnum, wZip, wZipM, wZipS, wZipU, wgN, wgT, wgNil, wgCons, wYes, wAsgT, wgLs, wLenS, wIxS, wFnS, wFnJL, wFnX, wRaise, wRaiseF, wForFn, forFnW, wMet, hide, wIsi, wListOf, wRev, edP, edJ, enP, enJ, enS, NotOwn, Flat, List.map_cons, List.map_nil, List.length_cons, List.length_nil, List.replicate_succ, List.replicate_zero, List.cons_append, List.nil_append, List.append_nil, List.set_cons_zero, List.set_cons_succ, List.getElem?_cons_zero, List.getElem?_cons_succ, Nat.reduceAdd, Nat.reduceSub, Option.some.injEq, Sl.imm.injEq, Sl.own.injEq, Sl.scr.injEq, exists_eq_left, exists_eq_left', exists_eq_right, exists_eq, exists_eq', exists_and_left, and_assoc, and_true, true_and, ne_eq, not_false_eq_true, Nat.succ_ne_zero, or_true, true_or, true_implies, forall_eq', forall_eq, PyData.int.injEq, PyData.bool.injEq, PyData.list.injEq, PyData.tuple.injEq, List.cons.injEq, i_add, i_iadd, i_sub, i_mul, i_mod, i_fdiv, i_fdivG, i_pow, i_neg, i_le, i_ge, i_gt, i_lt, i_eq, i_ne, i_intI, i_intB, i_abs, i_max, i_min, i_lenL, i_lenT, i_ixL, i_ixT, i_tupL, i_tupT, i_truB, Bool.not_true, Bool.not_false, Bool.false_eq_true, if_true, if_false, reduceIte]
  refine ⟨h, rs, s, rfl, hS, hF, hs, ?_⟩
  (try dsimp only); rw [wSeq_eq]; simp -failIfUnchanged only [wCallW, wForFv, forFvW, wMkX, wDic1, wMtX, wForPr, forPrW, wPNil, wPCons, wVar, wC, wOp, wUn, wCl, wB, wTr, wAnd, wOr, wNot, wAndV, wOrV, wNotV, wIf, wCh, wNil, wCons, wTup, wLe, wSz, wFn, wFnJ, wFnB, wFnJB, wBNil, wBCons, wBOwn, rsvP, rsvJ, wNext, wRet, wRetN, wDrop, wIfS, wSet, wSetOwn, wNever, wAug, wOpO, wIxO, wOpR, wClO, wApp, wSetIt, wFrz, wFor, wRg1, wRg2, wSq, wEnum, wZip, wZipM, wZipS, wZipU, wgN, wgT, wgNil, wgCons, wYes, wAsgT, wgLs, wLenS, wIxS, wFnS, wFnJL, wFnX, wRaise, wRaiseF, wForFn, forFnW, wMet, hide, wIsi, wListOf, wRev, edP, edJ, enP, enJ, enS, NotOwn, Flat, List.map_cons, List.map_nil, List.length_cons, List.length_nil, List.replicate_succ, List.replicate_zero, List.cons_append, List.nil_append, List.append_nil, List.set_cons_zero, List.set_cons_succ, List.getElem?_cons_zero, List.getElem?_cons_succ, Nat.reduceAdd, Nat.reduceSub, Option.some.injEq, Sl.imm.injEq, Sl.own.injEq, Sl.scr.injEq, exists_eq_left, exists_eq_left', exists_eq_right, exists_eq, exists_eq', exists_and_left, and_assoc, and_true, true_and, ne_eq, not_false_eq_true, Nat.succ_ne_zero, or_true, true_or, true_implies, forall_eq', forall_eq, PyData.int.injEq, PyData.bool.injEq, PyData.list.injEq, PyData.tuple.injEq, List.cons.injEq, i_add, i_iadd, i_sub, i_mul, i_mod, i_fdiv, i_fdivG, i_pow, i_neg, i_le, i_ge, i_gt, i_lt, i_eq, i_ne, i_intI, i_intB, i_abs, i_max, i_min, i_lenL, i_lenT, i_ixL, i_ixT, i_tupL, i_tupT, i_truB, Bool.not_true, Bool.not_false, Bool.false_eq_true, if_true, if_false, reduceIte]
  refine ⟨_, rfl, hO.1, ?_⟩
  simp -failIfUnchanged only [wCallW, wForFv, forFvW, wMkX, wDic1, wMtX, wForPr, forPrW, wPNil, wPCons, wVar, wC, wOp, wUn, wCl, wB, wTr, wAnd, wOr, wNot, wAndV, wOrV, wNotV, wIf, wCh, wNil, wCons, wTup, wLe, wSz, wFn, wFnJ, wFnB, wFnJB, wBNil, wBCons, wBOwn, rsvP, rsvJ, wNext, wRet, wRetN, wDrop, wIfS, wSet, wSetOwn, wNever, wAug, wOpO, wIxO, wOpR, wClO, wApp, wSetIt, wFrz, wFor, wRg1, wRg2, wSq, wEnum, wZip, wZipM, wZipS, wZipU, wgN, wgT, wgNil, wgCons, wYes, wAsgT, wgLs, wLenS, wIxS, wFnS, wFnJL, wFnX, wRaise, wRaiseF, wForFn, forFnW, wMet, hide, wIsi, wListOf, wRev, edP, edJ, enP, enJ, enS, NotOwn, Flat, List.map_cons, List.map_nil, List.length_cons, List.length_nil, List.replicate_succ, List.replicate_zero, List.cons_append, List.nil_append, List.append_nil, List.set_cons_zero, List.set_cons_succ, List.getElem?_cons_zero, List.getElem?_cons_succ, Nat.reduceAdd, Nat.reduceSub, Option.some.injEq, Sl.imm.injEq, Sl.own.injEq, Sl.scr.injEq, exists_eq_left, exists_eq_left', exists_eq_right, exists_eq, exists_eq', exists_and_left, and_assoc, and_true, true_and, ne_eq, not_false_eq_true, Nat.succ_ne_zero, or_true, true_or, true_implies, forall_eq', forall_eq, PyData.int.injEq, PyData.bool.injEq, PyData.list.injEq, PyData.tuple.injEq, List.cons.injEq, i_add, i_iadd, i_sub, i_mul, i_mod, i_fdiv, i_fdivG, i_pow, i_neg, i_le, i_ge, i_gt, i_lt, i_eq, i_ne, i_intI, i_intB, i_abs, i_max, i_min, i_lenL, i_lenT, i_ixL, i_ixT, i_tupL, i_tupT, i_truB, Bool.not_true, Bool.not_false, Bool.false_eq_true, if_true, if_false, reduceIte]
  exact ⟨_, p, r, n, l, rfl, n1, n20, l1, l100, hO, q⟩
theorem ad_loop {q : Rat} {b : D} {R : Ed} (hq : Sm BB q) : ∀ (xs : List D) (m : Rat × Rat) (s4 : Sl), adB q xs.length m → (∀ s4, R.nx [.imm (fr q), .imm b, .imm (fr (adA q xs.length m).1), .imm (fr (adA q xs.length m).2), s4]) →
    forW (wgN 4) (wPar 2 3 (wFn 2 wf__law_fu_plus (wCons (wVar 2) (wCons (wVar 3) wNil))) (wFn 2 wf__law_fu_times (wCons (wVar 3) (wCons (wVar 0) wNil)))) R xs [.imm (fr q), .imm b, .imm (fr m.1), .imm (fr m.2), s4]
  | [], m, s4, _, k => k s4
  | x :: xs, m, s4, hw, k => by
    obtain ⟨h1, h2, h3⟩ := hw
    have rec_ := fun s4 => ad_loop (b := b) (R := R) hq xs (m.1 + m.2, m.2 * q) s4 h3 k
    unfold forW
    generalize forW (wgN 4) _ R xs = N at rec_ ⊢
    simp -failIfUnchanged only [wPar, wCallW, wForFv, forFvW, wMkX, wDic1, wMtX, wForPr, forPrW, wPNil, wPCons, wVar, wC, wOp, wUn, wCl, wB, wTr, wAnd, wOr, wNot, wAndV, wOrV, wNotV, wIf, wCh, wNil, wCons, wTup, wLe, wSz, wFn, wFnJ, wFnB, wFnJB, wBNil, wBCons, wBOwn, rsvP, rsvJ, wNext, wRet, wRetN, wDrop, wIfS, wSet, wSetOwn, wNever, wAug, wOpO, wIxO, wOpR, wClO, wApp, wSetIt, wFrz, wFor, wRg1, wRg2, wSq, wEnum, wZip, wZipM, wZipS, wZipU, wgN, wgT, wgNil, wgCons, wYes, wAsgT, wgLs, wLenS, wIxS, wFnS, wFnJL, wFnX, wRaise, wRaiseF, wForFn, forFnW, wMet, hide, wIsi, wListOf, wRev, edP, edJ, enP, enJ, enS, NotOwn, Flat, List.map_cons, List.map_nil, List.length_cons, List.length_nil, List.replicate_succ, List.replicate_zero, List.cons_append, List.nil_append, List.append_nil, List.set_cons_zero, List.set_cons_succ, List.getElem?_cons_zero, List.getElem?_cons_succ, Nat.reduceAdd, Nat.reduceSub, Option.some.injEq, Sl.imm.injEq, Sl.own.injEq, Sl.scr.injEq, exists_eq_left, exists_eq_left', exists_eq_right, exists_eq, exists_eq', exists_and_left, and_assoc, and_true, true_and, ne_eq, not_false_eq_true, Nat.succ_ne_zero, or_true, true_or, true_implies, forall_eq', forall_eq, PyData.int.injEq, PyData.bool.injEq, PyData.list.injEq, PyData.tuple.injEq, List.cons.injEq, i_add, i_iadd, i_sub, i_mul, i_mod, i_fdiv, i_fdivG, i_pow, i_neg, i_le, i_ge, i_gt, i_lt, i_eq, i_ne, i_intI, i_intB, i_abs, i_max, i_min, i_lenL, i_lenT, i_ixL, i_ixT, i_tupL, i_tupT, i_truB, Bool.not_true, Bool.not_false, Bool.false_eq_true, if_true, if_false, reduceIte]
    exact ⟨m.1, m.2, rfl, h1, h2, m.2, q, rfl, h2, hq, rec_ _⟩
theorem pu__law_added (ds Q) (hl : ds.length = 2) (h : wf__law_added ds Q) : ws__law_added (edP Q) (enP N__law_added ds) := by
  obtain ⟨q, n, rfl, hn, hq, hb, k⟩ := h
  unfold ws__law_added
  (try dsimp only); rw [wSeq_eq]; simp -failIfUnchanged only [N__law_added, wCallW, wForFv, forFvW, wMkX, wDic1, wMtX, wForPr, forPrW, wPNil, wPCons, wVar, wC, wOp, wUn, wCl, wB, wTr, wAnd, wOr, wNot, wAndV, wOrV, wNotV, wIf, wCh, wNil, wCons, wTup, wLe, wSz, wFn, wFnJ, wFnB, wFnJB, wBNil, wBCons, wBOwn, rsvP, rsvJ, wNext, wRet, wRetN, wDrop, wIfS, wSet, wSetOwn, wNever, wAug, wOpO, wIxO, wOpR, wClO, wApp, wSetIt, wFrz, wFor, wRg1, wRg2, wSq, wEnum, wZip, wZipM, wZipS, wZipU, wgN, wgT, wgNil, wgCons, wYes, wAsgT, wgLs, wLenS, wIxS, wFnS, wFnJL, wFnX, wRaise, wRaiseF, wForFn, forFnW, wMet, hide, wIsi, wListOf, wRev, edP, edJ, enP, enJ, enS, NotOwn, Flat, List.map_cons, List.map_nil, List.length_cons, List.length_nil, List.replicate_succ, List.replicate_zero, List.cons_append, List.nil_append, List.append_nil, List.set_cons_zero, List.set_cons_succ, List.getElem?_cons_zero, List.getElem?_cons_succ, Nat.reduceAdd, Nat.reduceSub, Option.some.injEq, Sl.imm.injEq, Sl.own.injEq, Sl.scr.injEq, exists_eq_left, exists_eq_left', exists_eq_right, exists_eq, exists_eq', exists_and_left, and_assoc, and_true, true_and, ne_eq, not_false_eq_true, Nat.succ_ne_zero, or_true, true_or, true_implies, forall_eq', forall_eq, PyData.int.injEq, PyData.bool.injEq, PyData.list.injEq, PyData.tuple.injEq, List.cons.injEq, i_add, i_iadd, i_sub, i_mul, i_mod, i_fdiv, i_fdivG, i_pow, i_neg, i_le, i_ge, i_gt, i_lt, i_eq, i_ne, i_intI, i_intB, i_abs, i_max, i_min, i_lenL, i_lenT, i_ixL, i_ixT, i_tupL, i_tupT, i_truB, Bool.not_true, Bool.not_false, Bool.false_eq_true, if_true, if_false, reduceIte]
  refine ⟨by decide, by decide, by decide, ?_⟩
  (try dsimp only); rw [wSeq_eq]; simp -failIfUnchanged only [wCallW, wForFv, forFvW, wMkX, wDic1, wMtX, wForPr, forPrW, wPNil, wPCons, wVar, wC, wOp, wUn, wCl, wB, wTr, wAnd, wOr, wNot, wAndV, wOrV, wNotV, wIf, wCh, wNil, wCons, wTup, wLe, wSz, wFn, wFnJ, wFnB, wFnJB, wBNil, wBCons, wBOwn, rsvP, rsvJ, wNext, wRet, wRetN, wDrop, wIfS, wSet, wSetOwn, wNever, wAug, wOpO, wIxO, wOpR, wClO, wApp, wSetIt, wFrz, wFor, wRg1, wRg2, wSq, wEnum, wZip, wZipM, wZipS, wZipU, wgN, wgT, wgNil, wgCons, wYes, wAsgT, wgLs, wLenS, wIxS, wFnS, wFnJL, wFnX, wRaise, wRaiseF, wForFn, forFnW, wMet, hide, wIsi, wListOf, wRev, edP, edJ, enP, enJ, enS, NotOwn, Flat, List.map_cons, List.map_nil, List.length_cons, List.length_nil, List.replicate_succ, List.replicate_zero, List.cons_append, List.nil_append, List.append_nil, List.set_cons_zero, List.set_cons_succ, List.getElem?_cons_zero, List.getElem?_cons_succ, Nat.reduceAdd, Nat.reduceSub, Option.some.injEq, Sl.imm.injEq, Sl.own.injEq, Sl.scr.injEq, exists_eq_left, exists_eq_left', exists_eq_right, exists_eq, exists_eq', exists_and_left, and_assoc, and_true, true_and, ne_eq, not_false_eq_true, Nat.succ_ne_zero, or_true, true_or, true_implies, forall_eq', forall_eq, PyData.int.injEq, PyData.bool.injEq, PyData.list.injEq, PyData.tuple.injEq, List.cons.injEq, i_add, i_iadd, i_sub, i_mul, i_mod, i_fdiv, i_fdivG, i_pow, i_neg, i_le, i_ge, i_gt, i_lt, i_eq, i_ne, i_intI, i_intB, i_abs, i_max, i_min, i_lenL, i_lenT, i_ixL, i_ixT, i_tupL, i_tupT, i_truB, Bool.not_true, Bool.not_false, Bool.false_eq_true, if_true, if_false, reduceIte]
  refine ⟨by omega, by omega, ?_⟩
  show forW _ _ _ _ [_, _, Sl.imm (fr ((0 : Rat), (1 : Rat)).1), Sl.imm (fr ((0 : Rat), (1 : Rat)).2), _]
  refine ad_loop hq _ (0, 1) .un ?_ fun s4 => ?_
  · rw [rngD_len, Int.toNat_natCast]
    exact hb
  simp -failIfUnchanged only [wCallW, wForFv, forFvW, wMkX, wDic1, wMtX, wForPr, forPrW, wPNil, wPCons, wVar, wC, wOp, wUn, wCl, wB, wTr, wAnd, wOr, wNot, wAndV, wOrV, wNotV, wIf, wCh, wNil, wCons, wTup, wLe, wSz, wFn, wFnJ, wFnB, wFnJB, wBNil, wBCons, wBOwn, rsvP, rsvJ, wNext, wRet, wRetN, wDrop, wIfS, wSet, wSetOwn, wNever, wAug, wOpO, wIxO, wOpR, wClO, wApp, wSetIt, wFrz, wFor, wRg1, wRg2, wSq, wEnum, wZip, wZipM, wZipS, wZipU, wgN, wgT, wgNil, wgCons, wYes, wAsgT, wgLs, wLenS, wIxS, wFnS, wFnJL, wFnX, wRaise, wRaiseF, wForFn, forFnW, wMet, hide, wIsi, wListOf, wRev, edP, edJ, enP, enJ, enS, NotOwn, Flat, List.map_cons, List.map_nil, List.length_cons, List.length_nil, List.replicate_succ, List.replicate_zero, List.cons_append, List.nil_append, List.append_nil, List.set_cons_zero, List.set_cons_succ, List.getElem?_cons_zero, List.getElem?_cons_succ, Nat.reduceAdd, Nat.reduceSub, Option.some.injEq, Sl.imm.injEq, Sl.own.injEq, Sl.scr.injEq, exists_eq_left, exists_eq_left', exists_eq_right, exists_eq, exists_eq', exists_and_left, and_assoc, and_true, true_and, ne_eq, not_false_eq_true, Nat.succ_ne_zero, or_true, true_or, true_implies, forall_eq', forall_eq, PyData.int.injEq, PyData.bool.injEq, PyData.list.injEq, PyData.tuple.injEq, List.cons.injEq, i_add, i_iadd, i_sub, i_mul, i_mod, i_fdiv, i_fdivG, i_pow, i_neg, i_le, i_ge, i_gt, i_lt, i_eq, i_ne, i_intI, i_intB, i_abs, i_max, i_min, i_lenL, i_lenT, i_ixL, i_ixT, i_tupL, i_tupT, i_truB, Bool.not_true, Bool.not_false, Bool.false_eq_true, if_true, if_false, reduceIte]
  rw [rngD_len, Int.toNat_natCast]
  exact ⟨by decide, k⟩

end K14

set_option Elab.async false
set_option linter.all false
set_option maxRecDepth 100000
set_option maxHeartbeats 4000000
namespace K14
open PySem PySem.Spec PyProof.Rows L2 Pd
instance {b : Nat} {q : Rat} : Decidable (Sm b q) := by unfold Sm; exact inferInstance
/-- at the n-th turn: made (P), the sum, the power -/
def stB (q : Rat) (n : Nat) (P S w : Rat) : Bool :=
  ((decide (Sm TN P) && decide (Sm TN (q * P))) && (decide (Sm TN (1 + q * P)) && (decide (Sm TN S) && decide (Sm TN w)))) && (decide (P = S) &&
    (if q = 1 then decide (P = ((n : Nat) : Rat)) else
      (decide (Sm TN (1 + q * -1)) && (decide (Sm TN (1 + w * -1)) && (decide (P * (1 + q * -1) = 1 + w * -1)))) &&
      ((if 0 < q.num then decide (ordI (1 + q * P) P = 1) else true) &&
      (if 0 < q.num ∧ q.num < (q.den : Int) then
        (decide (Sm TN (1 + -q)) && (decide ((1 + -q).num ≠ 0) && decide (Sm TN (ovr 1 (1 + -q))))) &&
        (decide (Sm TN (ovr 1 (1 + -q) + -P)) && (decide (0 < (ovr 1 (1 + -q) + -P).num) && decide ((ovr 1 (1 + -q) + -P) * q = ovr 1 (1 + -q) + -(1 + q * P))))
      else true))))
def goB (q : Rat) : Nat → Nat → Rat → Rat → Rat → Bool
  | 0, _, _, _, _ => true
  | f + 1, n, P, S, w => stB q n P S w && goB q f (n + 1) (1 + q * P) (S + w) (w * q)
def allB (a : Int) (b : Nat) : Bool := decide (Sm TN (Rat.divInt a (b : Int))) && goB (Rat.divInt a (b : Int)) 30 1 1 1 (Rat.divInt a (b : Int))
theorem all_dec1 : (List.range 10).all (fun a => (List.range 9).all fun b => allB ((a : Nat) : Int) (b + 1)) = true := by decide +kernel
theorem all_dec2 : (List.range 10).all (fun a => (List.range 9).all fun b => allB (-((a : Nat) : Int)) (b + 1)) = true := by decide +kernel
theorem all_ok {q : Rat} (h1 : q.num.natAbs ≤ 9) (h2 : q.den ≤ 9) : Sm TN q ∧ goB q 30 1 1 1 q = true := by
  have hd := q.den_pos
  have e : Rat.divInt q.num (q.den : Int) = q := Rat.num_divInt_den q
  have key : allB q.num q.den = true := by
    rcases Int.le_total 0 q.num with h0 | h0
    · have h := List.all_eq_true.mp (List.all_eq_true.mp all_dec1 q.num.natAbs (List.mem_range.mpr (by omega))) (q.den - 1) (List.mem_range.mpr (by omega))
      rw [show ((q.num.natAbs : Nat) : Int) = q.num by omega, show q.den - 1 + 1 = q.den by omega] at h
      exact h
    · have h := List.all_eq_true.mp (List.all_eq_true.mp all_dec2 q.num.natAbs (List.mem_range.mpr (by omega))) (q.den - 1) (List.mem_range.mpr (by omega))
      rw [show -((q.num.natAbs : Nat) : Int) = q.num by omega, show q.den - 1 + 1 = q.den by omega] at h
      exact h
  unfold allB at key
  rw [e, Bool.and_eq_true, decide_eq_true_eq] at key
  exact key
theorem pw_shift {q : Rat} : ∀ (n : Nat) (m : Rat), pwA q n (1 + q * m) = 1 + q * pwA q n m
  | 0, _ => rfl
  | n + 1, m => pw_shift n (1 + q * m)
theorem pw_up {q : Rat} (n : Nat) : pwA q (n + 1) 1 = 1 + q * pwA q n 1 := pw_shift n 1
theorem ad_shift {q : Rat} : ∀ (n : Nat) (m : Rat × Rat), adA q n (m.1 + m.2, m.2 * q) = ((adA q n m).1 + (adA q n m).2, (adA q n m).2 * q)
  | 0, _ => rfl
  | n + 1, m => ad_shift n (m.1 + m.2, m.2 * q)
theorem ad_up {q : Rat} (n : Nat) (m : Rat × Rat) : adA q (n + 1) m = ((adA q n m).1 + (adA q n m).2, (adA q n m).2 * q) := ad_shift n m
theorem go_get {q : Rat} : ∀ (f k : Nat), goB q f (k + 1) (pwA q k 1) (adA q (k + 1) (0, 1)).1 (adA q (k + 1) (0, 1)).2 = true → ∀ n, k + 1 ≤ n → n < k + 1 + f → stB q n (pwA q (n - 1) 1) (adA q n (0, 1)).1 (adA q n (0, 1)).2 = true
  | 0, k, _, n, h1, h2 => by omega
  | f + 1, k, h, n, h1, h2 => by
    unfold goB at h
    rw [Bool.and_eq_true] at h
    rcases Nat.lt_or_ge (k + 1) n with hn | hn
    · refine go_get f (k + 1) ?_ n hn (by omega)
      rw [pw_up, ad_up (k + 1)]
      exact h.2
    · have : n = k + 1 := by omega
      subst this
      exact h.1
theorem st_ok {q : Rat} (h : goB q 30 1 1 1 q = true) {n : Nat} (h1 : 1 ≤ n) (h2 : n ≤ 30) : stB q n (pwA q (n - 1) 1) (adA q n (0, 1)).1 (adA q n (0, 1)).2 = true := by
  refine go_get 30 0 ?_ n (by omega) (by omega)
  have e : adA q (0 + 1) (0, 1) = ((1 : Rat), q) := by
    show ((0 : Rat) + 1, 1 * q) = (1, q)
    rw [Rat.zero_add, Rat.one_mul]
  rw [e]
  exact h
theorem pws_all {q : Rat} : ∀ (n : Nat) (m : Rat), (∀ t < n, Sm BB (pwA q t m) ∧ Sm BB (q * pwA q t m)) → Pws q n m
  | 0, _, _ => trivial
  | n + 1, m, h => ⟨(h 0 (by omega)).1, (h 0 (by omega)).2, pws_all n _ fun t ht => h (t + 1) (by omega)⟩
theorem adb_all {q : Rat} : ∀ (n : Nat) (m : Rat × Rat), (∀ t < n, Sm BB (adA q t m).1 ∧ Sm BB (adA q t m).2) → adB q n m
  | 0, _, _ => trivial
  | n + 1, m, h => ⟨(h 0 (by omega)).1, (h 0 (by omega)).2, adb_all n _ fun t ht => h (t + 1) (by omega)⟩
/-- what is told of one and many -/
structure Rt (q : Rat) (n : Nat) : Prop where
  sq : Sm TN q
  pws : Pws q n 1
  adb : adB q n (0, 1)
  sP : Sm TN (pwA q (n - 1) 1)
  sP1 : Sm TN (1 + q * pwA q (n - 1) 1)
  sqP : Sm TN (q * pwA q (n - 1) 1)
  sw : Sm TN (adA q n (0, 1)).2
  due : pwA q (n - 1) 1 = (adA q n (0, 1)).1
  one : q = 1 → pwA q (n - 1) 1 = ((n : Nat) : Rat)
  rst : q ≠ 1 → Sm TN (1 + q * -1) ∧ Sm TN (1 + (adA q n (0, 1)).2 * -1) ∧ pwA q (n - 1) 1 * (1 + q * -1) = 1 + (adA q n (0, 1)).2 * -1
  gt : q ≠ 1 → 0 < q.num → ordI (1 + q * pwA q (n - 1) 1) (pwA q (n - 1) 1) = 1
  ovr : q ≠ 1 → 0 < q.num → q.num < (q.den : Int) → Sm TN (1 + -q) ∧ (1 + -q).num ≠ 0 ∧ Sm TN (ovr 1 (1 + -q)) ∧ Sm TN (ovr 1 (1 + -q) + -pwA q (n - 1) 1) ∧ 0 < (ovr 1 (1 + -q) + -pwA q (n - 1) 1).num ∧ (ovr 1 (1 + -q) + -pwA q (n - 1) 1) * q = ovr 1 (1 + -q) + -(1 + q * pwA q (n - 1) 1)
theorem st_rt {q : Rat} {n : Nat} {P S w : Rat} (h : stB q n P S w = true) : (Sm TN P ∧ Sm TN (q * P) ∧ Sm TN (1 + q * P) ∧ Sm TN S ∧ Sm TN w) ∧ P = S ∧ (q = 1 → P = ((n : Nat) : Rat)) ∧ (q ≠ 1 → Sm TN (1 + q * -1) ∧ Sm TN (1 + w * -1) ∧ P * (1 + q * -1) = 1 + w * -1) ∧ (q ≠ 1 → 0 < q.num → ordI (1 + q * P) P = 1) ∧
    (q ≠ 1 → 0 < q.num → q.num < (q.den : Int) → Sm TN (1 + -q) ∧ (1 + -q).num ≠ 0 ∧ Sm TN (ovr 1 (1 + -q)) ∧ Sm TN (ovr 1 (1 + -q) + -P) ∧ 0 < (ovr 1 (1 + -q) + -P).num ∧ (ovr 1 (1 + -q) + -P) * q = ovr 1 (1 + -q) + -(1 + q * P)) := by
  unfold stB at h
  rw [Bool.and_eq_true, Bool.and_eq_true, Bool.and_eq_true, Bool.and_eq_true, Bool.and_eq_true, Bool.and_eq_true] at h
  simp only [decide_eq_true_eq] at h
  obtain ⟨⟨⟨a1, a2⟩, a3, a4, a5⟩, b1, b2⟩ := h
  refine ⟨⟨a1, a2, a3, a4, a5⟩, b1, fun e => ?_, fun e => ?_, fun e p => ?_, fun e p1 p2 => ?_⟩
  · rw [if_pos e, decide_eq_true_eq] at b2; exact b2
  · rw [if_neg e, Bool.and_eq_true, Bool.and_eq_true, Bool.and_eq_true] at b2
    simp only [decide_eq_true_eq] at b2
    exact b2.1
  · rw [if_neg e, Bool.and_eq_true] at b2
    have b3 := b2.2
    rw [Bool.and_eq_true, if_pos p, decide_eq_true_eq] at b3
    exact b3.1
  · rw [if_neg e, Bool.and_eq_true] at b2
    have b4 := b2.2
    rw [Bool.and_eq_true] at b4
    have b3 := b4.2
    rw [if_pos (show 0 < q.num ∧ q.num < (q.den : Int) from ⟨p1, p2⟩)] at b3
    simp only [Bool.and_eq_true, decide_eq_true_eq] at b3
    exact ⟨b3.1.1, b3.1.2.1, b3.1.2.2, b3.2.1, b3.2.2.1, b3.2.2.2⟩
theorem rt_of {q : Rat} (h1 : q.num.natAbs ≤ 9) (h2 : q.den ≤ 9) {n : Nat} (n1 : 1 ≤ n) (n2 : n ≤ 30) : Rt q n := by
  obtain ⟨sq, go⟩ := all_ok h1 h2
  have st := fun (t : Nat) (t1 : 1 ≤ t) (t2 : t ≤ 30) => st_rt (st_ok go t1 t2)
  obtain ⟨⟨a1, a2, a3, a4, a5⟩, b1, b2, b3, b4, b5⟩ := st n n1 n2
  refine ⟨sq, pws_all n 1 fun t ht => ?_, adb_all n _ fun t ht => ?_, a1, a3, a2, a5, b1, b2, b3, b4, b5⟩
  · have := (st (t + 1) (by omega) (by omega)).1
    exact ⟨tn_bb this.1, tn_bb this.2.1⟩
  · cases t with
    | zero =>
      show Sm BB (0 : Rat) ∧ Sm BB (1 : Rat)
      exact ⟨⟨by decide +kernel, by decide +kernel⟩, ⟨by decide +kernel, by decide +kernel⟩⟩
    | succ t =>
      have := (st (t + 1) (by omega) (by omega)).1
      exact ⟨tn_bb this.2.2.2.1, tn_bb this.2.2.2.2⟩

end K14

set_option Elab.async false
set_option linter.all false
set_option maxRecDepth 100000
set_option maxHeartbeats 4000000
namespace K14
open PySem PySem.Spec PyProof.Rows L2 Pd
theorem fr1 : PyData.tuple [.int 1, .int 1] = fr 1 := rfl
theorem frm1 : PyData.tuple [.int (-1), .int 1] = fr (-1) := rfl
theorem sm1 : Sm BB (1 : Rat) := ⟨by decide +kernel, by decide +kernel⟩
theorem smm1 : Sm BB (-1 : Rat) := ⟨by decide +kernel, by decide +kernel⟩
theorem smT1 : Sm TN (1 : Rat) := ⟨by decide +kernel, by decide +kernel⟩
theorem pu__law_right (dj ds Q) (hl : ds.length + 1 = 1) (h : wf__law_right dj ds Q) : ws__law_right (edJ Q) (enJ N__law_right dj ds) := by
  obtain ⟨g, m, c, rfl, rfl, fin⟩ := h
  unfold ws__law_right
  (try dsimp only); rw [wSeq_eq]; simp -failIfUnchanged only [N__law_right, wf__law_sip, wCallW, wForFv, forFvW, wMkX, wDic1, wMtX, wForPr, forPrW, wPNil, wPCons, wVar, wC, wOp, wUn, wCl, wB, wTr, wAnd, wOr, wNot, wAndV, wOrV, wNotV, wIf, wCh, wNil, wCons, wTup, wLe, wSz, wFn, wFnJ, wFnB, wFnJB, wBNil, wBCons, wBOwn, rsvP, rsvJ, wNext, wRet, wRetN, wDrop, wIfS, wSet, wSetOwn, wNever, wAug, wOpO, wIxO, wOpR, wClO, wApp, wSetIt, wFrz, wFor, wRg1, wRg2, wSq, wEnum, wZip, wZipM, wZipS, wZipU, wgN, wgT, wgNil, wgCons, wYes, wAsgT, wgLs, wLenS, wIxS, wFnS, wFnJL, wFnX, wRaise, wRaiseF, wForFn, forFnW, wMet, hide, wIsi, wListOf, wRev, edP, edJ, enP, enJ, enS, NotOwn, Flat, List.map_cons, List.map_nil, List.length_cons, List.length_nil, List.replicate_succ, List.replicate_zero, List.cons_append, List.nil_append, List.append_nil, List.set_cons_zero, List.set_cons_succ, List.getElem?_cons_zero, List.getElem?_cons_succ, Nat.reduceAdd, Nat.reduceSub, Option.some.injEq, Sl.imm.injEq, Sl.own.injEq, Sl.scr.injEq, exists_eq_left, exists_eq_left', exists_eq_right, exists_eq, exists_eq', exists_and_left, and_assoc, and_true, true_and, ne_eq, not_false_eq_true, Nat.succ_ne_zero, or_true, true_or, true_implies, forall_eq', forall_eq, PyData.int.injEq, PyData.bool.injEq, PyData.list.injEq, PyData.tuple.injEq, List.cons.injEq, i_add, i_iadd, i_sub, i_mul, i_mod, i_fdiv, i_fdivG, i_pow, i_neg, i_le, i_ge, i_gt, i_lt, i_eq, i_ne, i_intI, i_intB, i_abs, i_max, i_min, i_lenL, i_lenT, i_ixL, i_ixT, i_tupL, i_tupT, i_truB, Bool.not_true, Bool.not_false, Bool.false_eq_true, if_true, if_false, reduceIte]
  repeat ((with_reducible refine And.intro ?_ ?_); (focus first | decide | exact pow_ok (by decide +kernel) | (simp; done)))
  refine fun sz hsz g m c => ?_
  have hs : ∃ n : Int, sz = .int n ∧ 0 < n ∧ n ≤ 9 := by
    simp only [List.mem_cons, List.not_mem_nil, or_false] at hsz
    rcases hsz with rfl | rfl | rfl | rfl
    · exact ⟨1, rfl, by decide, by decide⟩
    · exact ⟨3, rfl, by decide, by decide⟩
    · exact ⟨9, rfl, by decide, by decide⟩
    · exact ⟨9, rfl, by decide, by decide⟩
  obtain ⟨n, rfl, n0, n9⟩ := hs
  (try dsimp only); rw [wSeq_eq]; simp -failIfUnchanged only [wPar, wCallW, wForFv, forFvW, wMkX, wDic1, wMtX, wForPr, forPrW, wPNil, wPCons, wVar, wC, wOp, wUn, wCl, wB, wTr, wAnd, wOr, wNot, wAndV, wOrV, wNotV, wIf, wCh, wNil, wCons, wTup, wLe, wSz, wFn, wFnJ, wFnB, wFnJB, wBNil, wBCons, wBOwn, rsvP, rsvJ, wNext, wRet, wRetN, wDrop, wIfS, wSet, wSetOwn, wNever, wAug, wOpO, wIxO, wOpR, wClO, wApp, wSetIt, wFrz, wFor, wRg1, wRg2, wSq, wEnum, wZip, wZipM, wZipS, wZipU, wgN, wgT, wgNil, wgCons, wYes, wAsgT, wgLs, wLenS, wIxS, wFnS, wFnJL, wFnX, wRaise, wRaiseF, wForFn, forFnW, wMet, hide, wIsi, wListOf, wRev, edP, edJ, enP, enJ, enS, NotOwn, Flat, List.map_cons, List.map_nil, List.length_cons, List.length_nil, List.replicate_succ, List.replicate_zero, List.cons_append, List.nil_append, List.append_nil, List.set_cons_zero, List.set_cons_succ, List.getElem?_cons_zero, List.getElem?_cons_succ, Nat.reduceAdd, Nat.reduceSub, Option.some.injEq, Sl.imm.injEq, Sl.own.injEq, Sl.scr.injEq, exists_eq_left, exists_eq_left', exists_eq_right, exists_eq, exists_eq', exists_and_left, and_assoc, and_true, true_and, ne_eq, not_false_eq_true, Nat.succ_ne_zero, or_true, true_or, true_implies, forall_eq', forall_eq, PyData.int.injEq, PyData.bool.injEq, PyData.list.injEq, PyData.tuple.injEq, List.cons.injEq, i_add, i_iadd, i_sub, i_mul, i_mod, i_fdiv, i_fdivG, i_pow, i_neg, i_le, i_ge, i_gt, i_lt, i_eq, i_ne, i_intI, i_intB, i_abs, i_max, i_min, i_lenL, i_lenT, i_ixL, i_ixT, i_tupL, i_tupT, i_truB, Bool.not_true, Bool.not_false, Bool.false_eq_true, if_true, if_false, reduceIte]
  refine ⟨g, m, c, n, rfl, rfl, n0, by omega, fun q g m c q1 q2 => ?_⟩
  refine ⟨by decide, g, m, c, _, rfl, rfl, by decide, by decide, fun tt htt g m c => ?_⟩
  have hs : ∃ t : Int, tt = .int t ∧ 0 < t ∧ t ≤ 30 := by
    simp only [List.mem_cons, List.not_mem_nil, or_false] at htt
    rcases htt with rfl | rfl | rfl
    · exact ⟨3, rfl, by decide, by decide⟩
    · exact ⟨8, rfl, by decide, by decide⟩
    · exact ⟨30, rfl, by decide, by decide⟩
  obtain ⟨t, rfl, t0, t30⟩ := hs
  refine ⟨g, m, c, t, rfl, rfl, t0, log_lt (by omega) (by omega), fun r g m c r0 r1 => ?_⟩
  obtain ⟨k, rfl⟩ := Int.eq_ofNat_of_zero_le r0
  refine ⟨.int ((k + 1 : Nat) : Int), i_add.mpr (by congr 1; omega), ?_⟩
  have RT := rt_of (q := q) (by omega) (by omega) (n := k + 1) (by omega) (by omega)
  obtain ⟨sq, pws, adb, sP, sP1, sqP, sw, due, one, rst, gt, ov⟩ := RT
  have fg := fin g m c
  clear fin
  have pA : pwA q (k + 1 - 1) 1 = pwA q k 1 := rfl
  rw [pA] at sP sP1 sqP due one rst gt ov
  have pA1 : pwA q (k + 2 - 1) 1 = 1 + q * pwA q k 1 := pw_up k
  generalize hP : pwA q k 1 = P at sP sP1 sqP due one rst gt ov pA1
  have pws0 : Pws q k 1 := by
    refine pws_all k 1 fun t ht => ?_
    have := rt_of (q := q) (by omega) (by omega) (n := t + 1) (by omega) (by omega)
    exact ⟨tn_bb this.sP, tn_bb this.sqP⟩
  have told : ∀ {R : Exc → Prop} {Q : D → Prop}, Q (fr P) → wf_powers_added [fr q, .int ((k + 1 : Nat) : Int)] Q R := fun {R Q} k1 => ⟨q, k + 1, rfl, by omega, by omega, sq, pws0, by rw [show k + 1 - 1 = k by omega, hP]; exact k1⟩
  have told1 : ∀ {R : Exc → Prop} {Q : D → Prop}, Q (fr (1 + q * P)) → wf_powers_added [fr q, .int (((k + 1 : Nat) : Int) + 1)] Q R := fun {R Q} k1 => ⟨q, k + 2, by congr 2, by omega, by omega, sq, by rw [show k + 2 - 1 = k + 1 by omega]; exact pws, by rw [pA1]; exact k1⟩
  (try dsimp only); rw [wSeq_eq]; simp -failIfUnchanged only [wCallW, wForFv, forFvW, wMkX, wDic1, wMtX, wForPr, forPrW, wPNil, wPCons, wVar, wC, wOp, wUn, wCl, wB, wTr, wAnd, wOr, wNot, wAndV, wOrV, wNotV, wIf, wCh, wNil, wCons, wTup, wLe, wSz, wFn, wFnJ, wFnB, wFnJB, wBNil, wBCons, wBOwn, rsvP, rsvJ, wNext, wRet, wRetN, wDrop, wIfS, wSet, wSetOwn, wNever, wAug, wOpO, wIxO, wOpR, wClO, wApp, wSetIt, wFrz, wFor, wRg1, wRg2, wSq, wEnum, wZip, wZipM, wZipS, wZipU, wgN, wgT, wgNil, wgCons, wYes, wAsgT, wgLs, wLenS, wIxS, wFnS, wFnJL, wFnX, wRaise, wRaiseF, wForFn, forFnW, wMet, hide, wIsi, wListOf, wRev, edP, edJ, enP, enJ, enS, NotOwn, Flat, List.map_cons, List.map_nil, List.length_cons, List.length_nil, List.replicate_succ, List.replicate_zero, List.cons_append, List.nil_append, List.append_nil, List.set_cons_zero, List.set_cons_succ, List.getElem?_cons_zero, List.getElem?_cons_succ, Nat.reduceAdd, Nat.reduceSub, Option.some.injEq, Sl.imm.injEq, Sl.own.injEq, Sl.scr.injEq, exists_eq_left, exists_eq_left', exists_eq_right, exists_eq, exists_eq', exists_and_left, and_assoc, and_true, true_and, ne_eq, not_false_eq_true, Nat.succ_ne_zero, or_true, true_or, true_implies, forall_eq', forall_eq, PyData.int.injEq, PyData.bool.injEq, PyData.list.injEq, PyData.tuple.injEq, List.cons.injEq, i_add, i_iadd, i_sub, i_mul, i_mod, i_fdiv, i_fdivG, i_pow, i_neg, i_le, i_ge, i_gt, i_lt, i_eq, i_ne, i_intI, i_intB, i_abs, i_max, i_min, i_lenL, i_lenT, i_ixL, i_ixT, i_tupL, i_tupT, i_truB, Bool.not_true, Bool.not_false, Bool.false_eq_true, if_true, if_false, reduceIte]
  refine told ?_
  refine ⟨q, k + 1, rfl, by omega, tn_bb sq, adb, ?_⟩
  rw [← due]
  generalize (adA q (k + 1) (0, 1)).2 = w at sw rst
  simp -failIfUnchanged only [wCallW, wForFv, forFvW, wMkX, wDic1, wMtX, wForPr, forPrW, wPNil, wPCons, wVar, wC, wOp, wUn, wCl, wB, wTr, wAnd, wOr, wNot, wAndV, wOrV, wNotV, wIf, wCh, wNil, wCons, wTup, wLe, wSz, wFn, wFnJ, wFnB, wFnJB, wBNil, wBCons, wBOwn, rsvP, rsvJ, wNext, wRet, wRetN, wDrop, wIfS, wSet, wSetOwn, wNever, wAug, wOpO, wIxO, wOpR, wClO, wApp, wSetIt, wFrz, wFor, wRg1, wRg2, wSq, wEnum, wZip, wZipM, wZipS, wZipU, wgN, wgT, wgNil, wgCons, wYes, wAsgT, wgLs, wLenS, wIxS, wFnS, wFnJL, wFnX, wRaise, wRaiseF, wForFn, forFnW, wMet, hide, wIsi, wListOf, wRev, edP, edJ, enP, enJ, enS, NotOwn, Flat, List.map_cons, List.map_nil, List.length_cons, List.length_nil, List.replicate_succ, List.replicate_zero, List.cons_append, List.nil_append, List.append_nil, List.set_cons_zero, List.set_cons_succ, List.getElem?_cons_zero, List.getElem?_cons_succ, Nat.reduceAdd, Nat.reduceSub, Option.some.injEq, Sl.imm.injEq, Sl.own.injEq, Sl.scr.injEq, exists_eq_left, exists_eq_left', exists_eq_right, exists_eq, exists_eq', exists_and_left, and_assoc, and_true, true_and, ne_eq, not_false_eq_true, Nat.succ_ne_zero, or_true, true_or, true_implies, forall_eq', forall_eq, PyData.int.injEq, PyData.bool.injEq, PyData.list.injEq, PyData.tuple.injEq, List.cons.injEq, i_add, i_iadd, i_sub, i_mul, i_mod, i_fdiv, i_fdivG, i_pow, i_neg, i_le, i_ge, i_gt, i_lt, i_eq, i_ne, i_intI, i_intB, i_abs, i_max, i_min, i_lenL, i_lenT, i_ixL, i_ixT, i_tupL, i_tupT, i_truB, Bool.not_true, Bool.not_false, Bool.false_eq_true, if_true, if_false, reduceIte]
  refine ⟨by decide, ?_⟩
  (try dsimp only); rw [wSeq_eq]; simp -failIfUnchanged only [wCallW, wForFv, forFvW, wMkX, wDic1, wMtX, wForPr, forPrW, wPNil, wPCons, wVar, wC, wOp, wUn, wCl, wB, wTr, wAnd, wOr, wNot, wAndV, wOrV, wNotV, wIf, wCh, wNil, wCons, wTup, wLe, wSz, wFn, wFnJ, wFnB, wFnJB, wBNil, wBCons, wBOwn, rsvP, rsvJ, wNext, wRet, wRetN, wDrop, wIfS, wSet, wSetOwn, wNever, wAug, wOpO, wIxO, wOpR, wClO, wApp, wSetIt, wFrz, wFor, wRg1, wRg2, wSq, wEnum, wZip, wZipM, wZipS, wZipU, wgN, wgT, wgNil, wgCons, wYes, wAsgT, wgLs, wLenS, wIxS, wFnS, wFnJL, wFnX, wRaise, wRaiseF, wForFn, forFnW, wMet, hide, wIsi, wListOf, wRev, edP, edJ, enP, enJ, enS, NotOwn, Flat, List.map_cons, List.map_nil, List.length_cons, List.length_nil, List.replicate_succ, List.replicate_zero, List.cons_append, List.nil_append, List.append_nil, List.set_cons_zero, List.set_cons_succ, List.getElem?_cons_zero, List.getElem?_cons_succ, Nat.reduceAdd, Nat.reduceSub, Option.some.injEq, Sl.imm.injEq, Sl.own.injEq, Sl.scr.injEq, exists_eq_left, exists_eq_left', exists_eq_right, exists_eq, exists_eq', exists_and_left, and_assoc, and_true, true_and, ne_eq, not_false_eq_true, Nat.succ_ne_zero, or_true, true_or, true_implies, forall_eq', forall_eq, PyData.int.injEq, PyData.bool.injEq, PyData.list.injEq, PyData.tuple.injEq, List.cons.injEq, i_add, i_iadd, i_sub, i_mul, i_mod, i_fdiv, i_fdivG, i_pow, i_neg, i_le, i_ge, i_gt, i_lt, i_eq, i_ne, i_intI, i_intB, i_abs, i_max, i_min, i_lenL, i_lenT, i_ixL, i_ixT, i_tupL, i_tupT, i_truB, Bool.not_true, Bool.not_false, Bool.false_eq_true, if_true, if_false, reduceIte]
  refine ⟨_, i_neF.mpr rfl, false, by simp, ?_⟩
  rw [if_neg Bool.false_ne_true]
  refine ⟨q, 1, rfl, by decide, by decide, sq, trivial, by decide, ?_⟩
  rw [fr1]
  refine ⟨_, i_neF.mpr rfl, false, congrArg PyData.bool (decide_eq_false (fun e => e rfl)), ?_⟩
  rw [if_neg Bool.false_ne_true]
  (try dsimp only); rw [wSeq_eq]; simp -failIfUnchanged only [wCallW, wForFv, forFvW, wMkX, wDic1, wMtX, wForPr, forPrW, wPNil, wPCons, wVar, wC, wOp, wUn, wCl, wB, wTr, wAnd, wOr, wNot, wAndV, wOrV, wNotV, wIf, wCh, wNil, wCons, wTup, wLe, wSz, wFn, wFnJ, wFnB, wFnJB, wBNil, wBCons, wBOwn, rsvP, rsvJ, wNext, wRet, wRetN, wDrop, wIfS, wSet, wSetOwn, wNever, wAug, wOpO, wIxO, wOpR, wClO, wApp, wSetIt, wFrz, wFor, wRg1, wRg2, wSq, wEnum, wZip, wZipM, wZipS, wZipU, wgN, wgT, wgNil, wgCons, wYes, wAsgT, wgLs, wLenS, wIxS, wFnS, wFnJL, wFnX, wRaise, wRaiseF, wForFn, forFnW, wMet, hide, wIsi, wListOf, wRev, edP, edJ, enP, enJ, enS, NotOwn, Flat, List.map_cons, List.map_nil, List.length_cons, List.length_nil, List.replicate_succ, List.replicate_zero, List.cons_append, List.nil_append, List.append_nil, List.set_cons_zero, List.set_cons_succ, List.getElem?_cons_zero, List.getElem?_cons_succ, Nat.reduceAdd, Nat.reduceSub, Option.some.injEq, Sl.imm.injEq, Sl.own.injEq, Sl.scr.injEq, exists_eq_left, exists_eq_left', exists_eq_right, exists_eq, exists_eq', exists_and_left, and_assoc, and_true, true_and, ne_eq, not_false_eq_true, Nat.succ_ne_zero, or_true, true_or, true_implies, forall_eq', forall_eq, PyData.int.injEq, PyData.bool.injEq, PyData.list.injEq, PyData.tuple.injEq, List.cons.injEq, i_add, i_iadd, i_sub, i_mul, i_mod, i_fdiv, i_fdivG, i_pow, i_neg, i_le, i_ge, i_gt, i_lt, i_eq, i_ne, i_intI, i_intB, i_abs, i_max, i_min, i_lenL, i_lenT, i_ixL, i_ixT, i_tupL, i_tupT, i_truB, Bool.not_true, Bool.not_false, Bool.false_eq_true, if_true, if_false, reduceIte]
  refine ⟨by decide, ?_⟩
  rw [fr1]
  refine ⟨_, i_eqF.mpr rfl, ?_⟩
  by_cases hq : q = 1
  · refine ⟨true, by rw [decide_eq_true hq], ?_⟩
    rw [if_pos rfl]
    refine ⟨by decide, .bool true, ?_, fg⟩
    rw [fr_int]
    exact i_eqF.mpr (congrArg PyData.bool (decide_eq_true (one hq)).symm)
  refine ⟨false, by rw [decide_eq_false hq], ?_⟩
  rw [if_neg Bool.false_ne_true]
  obtain ⟨t1, t2, t3⟩ := rst hq
  have t4 : Sm BB (q * -1) := by rw [Rat.mul_neg, Rat.mul_one]; exact sm_neg (tn_bb sq)
  have t5 : Sm BB (w * -1) := by rw [Rat.mul_neg, Rat.mul_one]; exact sm_neg (tn_bb sw)
  have gt := gt hq
  have ov := ov hq
  (try dsimp only); rw [wSeq_eq]; simp -failIfUnchanged only [wCallW, wForFv, forFvW, wMkX, wDic1, wMtX, wForPr, forPrW, wPNil, wPCons, wVar, wC, wOp, wUn, wCl, wB, wTr, wAnd, wOr, wNot, wAndV, wOrV, wNotV, wIf, wCh, wNil, wCons, wTup, wLe, wSz, wFn, wFnJ, wFnB, wFnJB, wBNil, wBCons, wBOwn, rsvP, rsvJ, wNext, wRet, wRetN, wDrop, wIfS, wSet, wSetOwn, wNever, wAug, wOpO, wIxO, wOpR, wClO, wApp, wSetIt, wFrz, wFor, wRg1, wRg2, wSq, wEnum, wZip, wZipM, wZipS, wZipU, wgN, wgT, wgNil, wgCons, wYes, wAsgT, wgLs, wLenS, wIxS, wFnS, wFnJL, wFnX, wRaise, wRaiseF, wForFn, forFnW, wMet, hide, wIsi, wListOf, wRev, edP, edJ, enP, enJ, enS, NotOwn, Flat, List.map_cons, List.map_nil, List.length_cons, List.length_nil, List.replicate_succ, List.replicate_zero, List.cons_append, List.nil_append, List.append_nil, List.set_cons_zero, List.set_cons_succ, List.getElem?_cons_zero, List.getElem?_cons_succ, Nat.reduceAdd, Nat.reduceSub, Option.some.injEq, Sl.imm.injEq, Sl.own.injEq, Sl.scr.injEq, exists_eq_left, exists_eq_left', exists_eq_right, exists_eq, exists_eq', exists_and_left, and_assoc, and_true, true_and, ne_eq, not_false_eq_true, Nat.succ_ne_zero, or_true, true_or, true_implies, forall_eq', forall_eq, PyData.int.injEq, PyData.bool.injEq, PyData.list.injEq, PyData.tuple.injEq, List.cons.injEq, i_add, i_iadd, i_sub, i_mul, i_mod, i_fdiv, i_fdivG, i_pow, i_neg, i_le, i_ge, i_gt, i_lt, i_eq, i_ne, i_intI, i_intB, i_abs, i_max, i_min, i_lenL, i_lenT, i_ixL, i_ixT, i_tupL, i_tupT, i_truB, Bool.not_true, Bool.not_false, Bool.false_eq_true, if_true, if_false, reduceIte]
  repeat ((with_reducible refine And.intro ?_ ?_); (focus first | decide | exact pow_ok (by decide +kernel) | (simp; done)))
  rw [fr1, frm1]
  refine ⟨q, -1, rfl, tn_bb sq, smm1, 1, q * -1, rfl, sm1, t4, ?_⟩
  (try dsimp only); rw [wSeq_eq]; simp -failIfUnchanged only [wCallW, wForFv, forFvW, wMkX, wDic1, wMtX, wForPr, forPrW, wPNil, wPCons, wVar, wC, wOp, wUn, wCl, wB, wTr, wAnd, wOr, wNot, wAndV, wOrV, wNotV, wIf, wCh, wNil, wCons, wTup, wLe, wSz, wFn, wFnJ, wFnB, wFnJB, wBNil, wBCons, wBOwn, rsvP, rsvJ, wNext, wRet, wRetN, wDrop, wIfS, wSet, wSetOwn, wNever, wAug, wOpO, wIxO, wOpR, wClO, wApp, wSetIt, wFrz, wFor, wRg1, wRg2, wSq, wEnum, wZip, wZipM, wZipS, wZipU, wgN, wgT, wgNil, wgCons, wYes, wAsgT, wgLs, wLenS, wIxS, wFnS, wFnJL, wFnX, wRaise, wRaiseF, wForFn, forFnW, wMet, hide, wIsi, wListOf, wRev, edP, edJ, enP, enJ, enS, NotOwn, Flat, List.map_cons, List.map_nil, List.length_cons, List.length_nil, List.replicate_succ, List.replicate_zero, List.cons_append, List.nil_append, List.append_nil, List.set_cons_zero, List.set_cons_succ, List.getElem?_cons_zero, List.getElem?_cons_succ, Nat.reduceAdd, Nat.reduceSub, Option.some.injEq, Sl.imm.injEq, Sl.own.injEq, Sl.scr.injEq, exists_eq_left, exists_eq_left', exists_eq_right, exists_eq, exists_eq', exists_and_left, and_assoc, and_true, true_and, ne_eq, not_false_eq_true, Nat.succ_ne_zero, or_true, true_or, true_implies, forall_eq', forall_eq, PyData.int.injEq, PyData.bool.injEq, PyData.list.injEq, PyData.tuple.injEq, List.cons.injEq, i_add, i_iadd, i_sub, i_mul, i_mod, i_fdiv, i_fdivG, i_pow, i_neg, i_le, i_ge, i_gt, i_lt, i_eq, i_ne, i_intI, i_intB, i_abs, i_max, i_min, i_lenL, i_lenT, i_ixL, i_ixT, i_tupL, i_tupT, i_truB, Bool.not_true, Bool.not_false, Bool.false_eq_true, if_true, if_false, reduceIte]
  refine ⟨P, 1 + q * -1, rfl, tn_bb sP, tn_bb t1, ?_⟩
  repeat ((with_reducible refine And.intro ?_ ?_); (focus first | decide | exact pow_ok (by decide +kernel) | (simp; done)))
  rw [fr1, frm1]
  refine ⟨w, -1, rfl, tn_bb sw, smm1, 1, w * -1, rfl, sm1, t5, _, i_neF.mpr rfl, false, by rw [t3]; simp, ?_⟩
  rw [if_neg Bool.false_ne_true]
  (try dsimp only); rw [wSeq_eq]; simp -failIfUnchanged only [wCallW, wForFv, forFvW, wMkX, wDic1, wMtX, wForPr, forPrW, wPNil, wPCons, wVar, wC, wOp, wUn, wCl, wB, wTr, wAnd, wOr, wNot, wAndV, wOrV, wNotV, wIf, wCh, wNil, wCons, wTup, wLe, wSz, wFn, wFnJ, wFnB, wFnJB, wBNil, wBCons, wBOwn, rsvP, rsvJ, wNext, wRet, wRetN, wDrop, wIfS, wSet, wSetOwn, wNever, wAug, wOpO, wIxO, wOpR, wClO, wApp, wSetIt, wFrz, wFor, wRg1, wRg2, wSq, wEnum, wZip, wZipM, wZipS, wZipU, wgN, wgT, wgNil, wgCons, wYes, wAsgT, wgLs, wLenS, wIxS, wFnS, wFnJL, wFnX, wRaise, wRaiseF, wForFn, forFnW, wMet, hide, wIsi, wListOf, wRev, edP, edJ, enP, enJ, enS, NotOwn, Flat, List.map_cons, List.map_nil, List.length_cons, List.length_nil, List.replicate_succ, List.replicate_zero, List.cons_append, List.nil_append, List.append_nil, List.set_cons_zero, List.set_cons_succ, List.getElem?_cons_zero, List.getElem?_cons_succ, Nat.reduceAdd, Nat.reduceSub, Option.some.injEq, Sl.imm.injEq, Sl.own.injEq, Sl.scr.injEq, exists_eq_left, exists_eq_left', exists_eq_right, exists_eq, exists_eq', exists_and_left, and_assoc, and_true, true_and, ne_eq, not_false_eq_true, Nat.succ_ne_zero, or_true, true_or, true_implies, forall_eq', forall_eq, PyData.int.injEq, PyData.bool.injEq, PyData.list.injEq, PyData.tuple.injEq, List.cons.injEq, i_add, i_iadd, i_sub, i_mul, i_mod, i_fdiv, i_fdivG, i_pow, i_neg, i_le, i_ge, i_gt, i_lt, i_eq, i_ne, i_intI, i_intB, i_abs, i_max, i_min, i_lenL, i_lenT, i_ixL, i_ixT, i_tupL, i_tupT, i_truB, Bool.not_true, Bool.not_false, Bool.false_eq_true, if_true, if_false, reduceIte]
  refine told1 ⟨by decide, q, P, rfl, tn_bb sq, tn_bb sP, ?_⟩
  rw [fr1]
  refine ⟨1, q * P, rfl, sm1, tn_bb sqP, _, i_neF.mpr rfl, false, by simp, ?_⟩
  rw [if_neg Bool.false_ne_true]
  (try dsimp only); rw [wSeq_eq]; simp -failIfUnchanged only [wCallW, wForFv, forFvW, wMkX, wDic1, wMtX, wForPr, forPrW, wPNil, wPCons, wVar, wC, wOp, wUn, wCl, wB, wTr, wAnd, wOr, wNot, wAndV, wOrV, wNotV, wIf, wCh, wNil, wCons, wTup, wLe, wSz, wFn, wFnJ, wFnB, wFnJB, wBNil, wBCons, wBOwn, rsvP, rsvJ, wNext, wRet, wRetN, wDrop, wIfS, wSet, wSetOwn, wNever, wAug, wOpO, wIxO, wOpR, wClO, wApp, wSetIt, wFrz, wFor, wRg1, wRg2, wSq, wEnum, wZip, wZipM, wZipS, wZipU, wgN, wgT, wgNil, wgCons, wYes, wAsgT, wgLs, wLenS, wIxS, wFnS, wFnJL, wFnX, wRaise, wRaiseF, wForFn, forFnW, wMet, hide, wIsi, wListOf, wRev, edP, edJ, enP, enJ, enS, NotOwn, Flat, List.map_cons, List.map_nil, List.length_cons, List.length_nil, List.replicate_succ, List.replicate_zero, List.cons_append, List.nil_append, List.append_nil, List.set_cons_zero, List.set_cons_succ, List.getElem?_cons_zero, List.getElem?_cons_succ, Nat.reduceAdd, Nat.reduceSub, Option.some.injEq, Sl.imm.injEq, Sl.own.injEq, Sl.scr.injEq, exists_eq_left, exists_eq_left', exists_eq_right, exists_eq, exists_eq', exists_and_left, and_assoc, and_true, true_and, ne_eq, not_false_eq_true, Nat.succ_ne_zero, or_true, true_or, true_implies, forall_eq', forall_eq, PyData.int.injEq, PyData.bool.injEq, PyData.list.injEq, PyData.tuple.injEq, List.cons.injEq, i_add, i_iadd, i_sub, i_mul, i_mod, i_fdiv, i_fdivG, i_pow, i_neg, i_le, i_ge, i_gt, i_lt, i_eq, i_ne, i_intI, i_intB, i_abs, i_max, i_min, i_lenL, i_lenT, i_ixL, i_ixT, i_tupL, i_tupT, i_truB, Bool.not_true, Bool.not_false, Bool.false_eq_true, if_true, if_false, reduceIte]
  refine ⟨_, (at0 : dIx (fr q) (.int 0) _), ?_⟩
  refine ⟨_, i_gt.mpr rfl, ?_⟩
  by_cases h0 : 0 < q.num
  · refine ⟨true, by rw [decide_eq_true h0], ?_⟩
    rw [if_pos rfl]
    refine told1 ⟨_, P, rfl, sP1, sP, _, i_ne.mpr rfl, false, congrArg PyData.bool (decide_eq_false (fun e => e (gt h0))), ?_⟩
    rw [if_neg Bool.false_ne_true]
    (try dsimp only); rw [wSeq_eq]; simp -failIfUnchanged only [wCh, wCallW, wForFv, forFvW, wMkX, wDic1, wMtX, wForPr, forPrW, wPNil, wPCons, wVar, wC, wOp, wUn, wCl, wB, wTr, wAnd, wOr, wNot, wAndV, wOrV, wNotV, wIf, wCh, wNil, wCons, wTup, wLe, wSz, wFn, wFnJ, wFnB, wFnJB, wBNil, wBCons, wBOwn, rsvP, rsvJ, wNext, wRet, wRetN, wDrop, wIfS, wSet, wSetOwn, wNever, wAug, wOpO, wIxO, wOpR, wClO, wApp, wSetIt, wFrz, wFor, wRg1, wRg2, wSq, wEnum, wZip, wZipM, wZipS, wZipU, wgN, wgT, wgNil, wgCons, wYes, wAsgT, wgLs, wLenS, wIxS, wFnS, wFnJL, wFnX, wRaise, wRaiseF, wForFn, forFnW, wMet, hide, wIsi, wListOf, wRev, edP, edJ, enP, enJ, enS, NotOwn, Flat, List.map_cons, List.map_nil, List.length_cons, List.length_nil, List.replicate_succ, List.replicate_zero, List.cons_append, List.nil_append, List.append_nil, List.set_cons_zero, List.set_cons_succ, List.getElem?_cons_zero, List.getElem?_cons_succ, Nat.reduceAdd, Nat.reduceSub, Option.some.injEq, Sl.imm.injEq, Sl.own.injEq, Sl.scr.injEq, exists_eq_left, exists_eq_left', exists_eq_right, exists_eq, exists_eq', exists_and_left, and_assoc, and_true, true_and, ne_eq, not_false_eq_true, Nat.succ_ne_zero, or_true, true_or, true_implies, forall_eq', forall_eq, PyData.int.injEq, PyData.bool.injEq, PyData.list.injEq, PyData.tuple.injEq, List.cons.injEq, i_add, i_iadd, i_sub, i_mul, i_mod, i_fdiv, i_fdivG, i_pow, i_neg, i_le, i_ge, i_gt, i_lt, i_eq, i_ne, i_intI, i_intB, i_abs, i_max, i_min, i_lenL, i_lenT, i_ixL, i_ixT, i_tupL, i_tupT, i_truB, Bool.not_true, Bool.not_false, Bool.false_eq_true, if_true, if_false, reduceIte]
    refine ⟨_, (at0 : dIx (fr q) (.int 0) _), ?_⟩
    refine ⟨true, i_lt.mpr (by rw [decide_eq_true h0]), ?_⟩
    rw [if_pos rfl]
    refine ⟨_, (at1 : dIx (fr q) (.int 1) _), _, i_lt.mpr rfl, ?_⟩
    by_cases hd : q.num < (q.den : Int)
    · refine ⟨true, by rw [decide_eq_true hd], ?_⟩
      rw [if_pos rfl]
      obtain ⟨v1, v2, v3, v4, v5, v6⟩ := ov h0 hd
      (try dsimp only); rw [wSeq_eq]; simp -failIfUnchanged only [wCallW, wForFv, forFvW, wMkX, wDic1, wMtX, wForPr, forPrW, wPNil, wPCons, wVar, wC, wOp, wUn, wCl, wB, wTr, wAnd, wOr, wNot, wAndV, wOrV, wNotV, wIf, wCh, wNil, wCons, wTup, wLe, wSz, wFn, wFnJ, wFnB, wFnJB, wBNil, wBCons, wBOwn, rsvP, rsvJ, wNext, wRet, wRetN, wDrop, wIfS, wSet, wSetOwn, wNever, wAug, wOpO, wIxO, wOpR, wClO, wApp, wSetIt, wFrz, wFor, wRg1, wRg2, wSq, wEnum, wZip, wZipM, wZipS, wZipU, wgN, wgT, wgNil, wgCons, wYes, wAsgT, wgLs, wLenS, wIxS, wFnS, wFnJL, wFnX, wRaise, wRaiseF, wForFn, forFnW, wMet, hide, wIsi, wListOf, wRev, edP, edJ, enP, enJ, enS, NotOwn, Flat, List.map_cons, List.map_nil, List.length_cons, List.length_nil, List.replicate_succ, List.replicate_zero, List.cons_append, List.nil_append, List.append_nil, List.set_cons_zero, List.set_cons_succ, List.getElem?_cons_zero, List.getElem?_cons_succ, Nat.reduceAdd, Nat.reduceSub, Option.some.injEq, Sl.imm.injEq, Sl.own.injEq, Sl.scr.injEq, exists_eq_left, exists_eq_left', exists_eq_right, exists_eq, exists_eq', exists_and_left, and_assoc, and_true, true_and, ne_eq, not_false_eq_true, Nat.succ_ne_zero, or_true, true_or, true_implies, forall_eq', forall_eq, PyData.int.injEq, PyData.bool.injEq, PyData.list.injEq, PyData.tuple.injEq, List.cons.injEq, i_add, i_iadd, i_sub, i_mul, i_mod, i_fdiv, i_fdivG, i_pow, i_neg, i_le, i_ge, i_gt, i_lt, i_eq, i_ne, i_intI, i_intB, i_abs, i_max, i_min, i_lenL, i_lenT, i_ixL, i_ixT, i_tupL, i_tupT, i_truB, Bool.not_true, Bool.not_false, Bool.false_eq_true, if_true, if_false, reduceIte]
      repeat ((with_reducible refine And.intro ?_ ?_); (focus first | decide | exact pow_ok (by decide +kernel) | (simp; done)))
      rw [fr1]
      refine ⟨1, q, rfl, smT1, sq, 1, 1 + -q, rfl, smT1, v1, v2, ?_⟩
      (try dsimp only); rw [wSeq_eq]; simp -failIfUnchanged only [wCallW, wForFv, forFvW, wMkX, wDic1, wMtX, wForPr, forPrW, wPNil, wPCons, wVar, wC, wOp, wUn, wCl, wB, wTr, wAnd, wOr, wNot, wAndV, wOrV, wNotV, wIf, wCh, wNil, wCons, wTup, wLe, wSz, wFn, wFnJ, wFnB, wFnJB, wBNil, wBCons, wBOwn, rsvP, rsvJ, wNext, wRet, wRetN, wDrop, wIfS, wSet, wSetOwn, wNever, wAug, wOpO, wIxO, wOpR, wClO, wApp, wSetIt, wFrz, wFor, wRg1, wRg2, wSq, wEnum, wZip, wZipM, wZipS, wZipU, wgN, wgT, wgNil, wgCons, wYes, wAsgT, wgLs, wLenS, wIxS, wFnS, wFnJL, wFnX, wRaise, wRaiseF, wForFn, forFnW, wMet, hide, wIsi, wListOf, wRev, edP, edJ, enP, enJ, enS, NotOwn, Flat, List.map_cons, List.map_nil, List.length_cons, List.length_nil, List.replicate_succ, List.replicate_zero, List.cons_append, List.nil_append, List.append_nil, List.set_cons_zero, List.set_cons_succ, List.getElem?_cons_zero, List.getElem?_cons_succ, Nat.reduceAdd, Nat.reduceSub, Option.some.injEq, Sl.imm.injEq, Sl.own.injEq, Sl.scr.injEq, exists_eq_left, exists_eq_left', exists_eq_right, exists_eq, exists_eq', exists_and_left, and_assoc, and_true, true_and, ne_eq, not_false_eq_true, Nat.succ_ne_zero, or_true, true_or, true_implies, forall_eq', forall_eq, PyData.int.injEq, PyData.bool.injEq, PyData.list.injEq, PyData.tuple.injEq, List.cons.injEq, i_add, i_iadd, i_sub, i_mul, i_mod, i_fdiv, i_fdivG, i_pow, i_neg, i_le, i_ge, i_gt, i_lt, i_eq, i_ne, i_intI, i_intB, i_abs, i_max, i_min, i_lenL, i_lenT, i_ixL, i_ixT, i_tupL, i_tupT, i_truB, Bool.not_true, Bool.not_false, Bool.false_eq_true, if_true, if_false, reduceIte]
      refine ⟨_, P, rfl, v3, sP, ?_⟩
      simp -failIfUnchanged only [wCallW, wForFv, forFvW, wMkX, wDic1, wMtX, wForPr, forPrW, wPNil, wPCons, wVar, wC, wOp, wUn, wCl, wB, wTr, wAnd, wOr, wNot, wAndV, wOrV, wNotV, wIf, wCh, wNil, wCons, wTup, wLe, wSz, wFn, wFnJ, wFnB, wFnJB, wBNil, wBCons, wBOwn, rsvP, rsvJ, wNext, wRet, wRetN, wDrop, wIfS, wSet, wSetOwn, wNever, wAug, wOpO, wIxO, wOpR, wClO, wApp, wSetIt, wFrz, wFor, wRg1, wRg2, wSq, wEnum, wZip, wZipM, wZipS, wZipU, wgN, wgT, wgNil, wgCons, wYes, wAsgT, wgLs, wLenS, wIxS, wFnS, wFnJL, wFnX, wRaise, wRaiseF, wForFn, forFnW, wMet, hide, wIsi, wListOf, wRev, edP, edJ, enP, enJ, enS, NotOwn, Flat, List.map_cons, List.map_nil, List.length_cons, List.length_nil, List.replicate_succ, List.replicate_zero, List.cons_append, List.nil_append, List.append_nil, List.set_cons_zero, List.set_cons_succ, List.getElem?_cons_zero, List.getElem?_cons_succ, Nat.reduceAdd, Nat.reduceSub, Option.some.injEq, Sl.imm.injEq, Sl.own.injEq, Sl.scr.injEq, exists_eq_left, exists_eq_left', exists_eq_right, exists_eq, exists_eq', exists_and_left, and_assoc, and_true, true_and, ne_eq, not_false_eq_true, Nat.succ_ne_zero, or_true, true_or, true_implies, forall_eq', forall_eq, PyData.int.injEq, PyData.bool.injEq, PyData.list.injEq, PyData.tuple.injEq, List.cons.injEq, i_add, i_iadd, i_sub, i_mul, i_mod, i_fdiv, i_fdivG, i_pow, i_neg, i_le, i_ge, i_gt, i_lt, i_eq, i_ne, i_intI, i_intB, i_abs, i_max, i_min, i_lenL, i_lenT, i_ixL, i_ixT, i_tupL, i_tupT, i_truB, Bool.not_true, Bool.not_false, Bool.false_eq_true, if_true, if_false, reduceIte]
      refine ⟨_, (at0 : dIx (fr _) (.int 0) _), _, i_gt.mpr rfl, true, by rw [decide_eq_true v5], ?_⟩
      rw [if_pos rfl]
      refine ⟨_, q, rfl, tn_bb v4, tn_bb sq, ?_⟩
      refine told1 ⟨_, _, rfl, v3, sP1, .bool true, ?_, fg⟩
      exact i_eqF.mpr (congrArg PyData.bool (decide_eq_true v6).symm)
    · refine ⟨false, by rw [decide_eq_false hd], ?_⟩
      rw [if_neg Bool.false_ne_true]
      exact fg
  · refine ⟨false, by rw [decide_eq_false h0], ?_⟩
    rw [if_neg Bool.false_ne_true]
    (try dsimp only); rw [wSeq_eq]; simp -failIfUnchanged only [wCh, wCallW, wForFv, forFvW, wMkX, wDic1, wMtX, wForPr, forPrW, wPNil, wPCons, wVar, wC, wOp, wUn, wCl, wB, wTr, wAnd, wOr, wNot, wAndV, wOrV, wNotV, wIf, wCh, wNil, wCons, wTup, wLe, wSz, wFn, wFnJ, wFnB, wFnJB, wBNil, wBCons, wBOwn, rsvP, rsvJ, wNext, wRet, wRetN, wDrop, wIfS, wSet, wSetOwn, wNever, wAug, wOpO, wIxO, wOpR, wClO, wApp, wSetIt, wFrz, wFor, wRg1, wRg2, wSq, wEnum, wZip, wZipM, wZipS, wZipU, wgN, wgT, wgNil, wgCons, wYes, wAsgT, wgLs, wLenS, wIxS, wFnS, wFnJL, wFnX, wRaise, wRaiseF, wForFn, forFnW, wMet, hide, wIsi, wListOf, wRev, edP, edJ, enP, enJ, enS, NotOwn, Flat, List.map_cons, List.map_nil, List.length_cons, List.length_nil, List.replicate_succ, List.replicate_zero, List.cons_append, List.nil_append, List.append_nil, List.set_cons_zero, List.set_cons_succ, List.getElem?_cons_zero, List.getElem?_cons_succ, Nat.reduceAdd, Nat.reduceSub, Option.some.injEq, Sl.imm.injEq, Sl.own.injEq, Sl.scr.injEq, exists_eq_left, exists_eq_left', exists_eq_right, exists_eq, exists_eq', exists_and_left, and_assoc, and_true, true_and, ne_eq, not_false_eq_true, Nat.succ_ne_zero, or_true, true_or, true_implies, forall_eq', forall_eq, PyData.int.injEq, PyData.bool.injEq, PyData.list.injEq, PyData.tuple.injEq, List.cons.injEq, i_add, i_iadd, i_sub, i_mul, i_mod, i_fdiv, i_fdivG, i_pow, i_neg, i_le, i_ge, i_gt, i_lt, i_eq, i_ne, i_intI, i_intB, i_abs, i_max, i_min, i_lenL, i_lenT, i_ixL, i_ixT, i_tupL, i_tupT, i_truB, Bool.not_true, Bool.not_false, Bool.false_eq_true, if_true, if_false, reduceIte]
    refine ⟨_, (at0 : dIx (fr q) (.int 0) _), ?_⟩
    refine ⟨false, i_lt.mpr (by rw [decide_eq_false h0]), ?_⟩
    rw [if_neg Bool.false_ne_true]
    exact fg
/-! ### lone houses -/
instance {rs : List (List Int)} : Decidable (AscR rs) := by unfold AscR; exact inferInstance
instance {m : Int} {r : List Int} : Decidable (IsLot m r) := by unfold IsLot; exact inferInstance
instance {m : Int} {rs : List (List Int)} : Decidable (IsLots m rs) := by unfold IsLots; exact inferInstance
def pwsB (q : Rat) : Nat → Rat → Bool
  | 0, _ => true
  | n + 1, m => decide (Sm BB m) && (decide (Sm BB (q * m)) && pwsB q n (1 + q * m))
theorem pws_of {q : Rat} : ∀ {n : Nat} {m : Rat}, pwsB q n m = true → Pws q n m
  | 0, _, _ => trivial
  | n + 1, m, h => by
    unfold pwsB at h
    rw [Bool.and_eq_true, Bool.and_eq_true, decide_eq_true_eq, decide_eq_true_eq] at h
    exact ⟨h.1, h.2.1, pws_of h.2.2⟩
def lone (h : Nat) : List (List Int) := (intsTo (h : Int)).map fun k => [k]
def bnB (h b : Nat) (l : Int) (s : SS) : Bool :=
  let t : Rat := Rat.divInt (topS s) s.2.2.1
  let p : Rat := ovr 1 t
  let r : Rat := (t + -1)⁻¹
  let m : Rat := (l : Rat) * pwA p (b - 1) 1
  let g : Rat := gpA p (b - 1) ((l : Rat) * r)
  ((decide (t = ((h : Int) : Rat)) && (decide (t.num ≠ 0) && decide (Sm TN t))) && ((decide (p.num = (t.den : Int)) && decide (((p.den : Nat) : Int) = t.num)) && (decide (Sm TN p) && (pwsB p (b - 1) 1 && decide (Sm BB (pwA p (b - 1) 1)))))) &&
  (((decide (t ≠ 1) && decide (Sm BB t)) && ((decide (r.num = ((t + -1).den : Int)) && decide (((r.den : Nat) : Int) = (t + -1).num)) && (decide (Sm BB r) && gpB p (b - 1) ((l : Rat) * r)))) &&
  ((decide (Sm TN (1 + -p)) && (decide ((1 + -p).num ≠ 0) && decide (Sm TN ((l : Rat))))) && ((decide (Sm TN m) && decide (Sm TN g)) && decide (m + g = ovr (l : Rat) (1 + -p)))))
def loB (h b : Nat) (l : Int) : Bool := match solS h (lone h) with
  | none => false
  | some s => (decide (IsLots h (lone h)) && decide (free h (lone h) = [])) && bnB h b l s
theorem lo_dec : (List.range 5).all (fun h => (List.range 6).all fun b => (List.range 20).all fun l => loB (h + 2) (b + 1) ((l + 1 : Nat) : Int)) = true := by decide +kernel

end K14

set_option Elab.async false
set_option linter.all false
set_option maxRecDepth 100000
set_option maxHeartbeats 4000000
namespace K14
open PySem PySem.Spec PyProof.Rows L2 Pd
structure Bn (h b : Nat) (l : Int) (s : SS) (t p r : Rat) : Prop where
  t_ : Rat.divInt (topS s) s.2.2.1 = t
  th : t = ((h : Int) : Rat)
  t0 : t.num ≠ 0
  tT : Sm TN t
  pe : p = ovr 1 t
  p1 : p.num = (t.den : Int)
  p2 : ((p.den : Nat) : Int) = t.num
  pT : Sm TN p
  pw : Pws p (b - 1) 1
  pS : Sm BB (pwA p (b - 1) 1)
  gq : OkG t p r b l
  n1 : Sm TN (1 + -p)
  n0 : (1 + -p).num ≠ 0
  lT : Sm TN ((l : Rat))
  mT : Sm TN ((l : Rat) * pwA p (b - 1) 1)
  gT : Sm TN (gpA p (b - 1) ((l : Rat) * r))
  sum : (l : Rat) * pwA p (b - 1) 1 + gpA p (b - 1) ((l : Rat) * r) = ovr (l : Rat) (1 + -p)
theorem bn_of {h b : Nat} {l : Int} {s : SS} (k : bnB h b l s = true) : ∃ t p r, Bn h b l s t p r := by
  refine ⟨Rat.divInt (topS s) s.2.2.1, ovr 1 (Rat.divInt (topS s) s.2.2.1), (Rat.divInt (topS s) s.2.2.1 + -1)⁻¹, ?_⟩
  unfold bnB at k
  simp only [Bool.and_eq_true, decide_eq_true_eq] at k
  obtain ⟨⟨⟨a1, a2, a3⟩, ⟨a4, a5⟩, a6, a7, a8⟩, ⟨⟨b1, b2⟩, ⟨b3, b4⟩, b5, b6⟩, ⟨c1, c2, c3⟩, ⟨c4, c5⟩, c6⟩ := k
  exact ⟨rfl, a1, a2, a3, rfl, a4, a5, a6, pws_of a7, a8, ⟨b1, b2, a4, a5, tn_bb a6, b3, b4, b5, b6⟩, c1, c2, c3, c4, c5, c6⟩
theorem lo_ok {h b : Nat} {l : Int} (h2 : 2 ≤ h) (h6 : h ≤ 6) (b1 : 1 ≤ b) (b6 : b ≤ 6) (l1 : 1 ≤ l) (l20 : l ≤ 20) : ∃ s t p r, solS h (lone h) = some s ∧ InS h (lone h) ∧ free h (lone h) = [] ∧ Bn h b l s t p r := by
  have k := List.all_eq_true.mp (List.all_eq_true.mp (List.all_eq_true.mp lo_dec (h - 2) (List.mem_range.mpr (by omega))) (b - 1) (List.mem_range.mpr (by omega))) (l - 1).toNat (List.mem_range.mpr (by omega))
  rw [show h - 2 + 2 = h by omega, show b - 1 + 1 = b by omega, show (((l - 1).toNat + 1 : Nat) : Int) = l by omega] at k
  unfold loB at k
  cases e : solS h (lone h) with
  | none => rw [e] at k; cases k
  | some s =>
    rw [e] at k
    simp only [Bool.and_eq_true, decide_eq_true_eq] at k
    obtain ⟨⟨k1, k2⟩, k3⟩ := k
    obtain ⟨t, p, r, hb⟩ := bn_of k3
    exact ⟨s, t, p, r, rfl, ⟨by omega, h6, k1⟩, k2, hb⟩
theorem pu__law_bounds_right (dj ds Q) (hl : ds.length + 1 = 1) (h : wf__law_bounds_right dj ds Q) : ws__law_bounds_right (edJ Q) (enJ N__law_bounds_right dj ds) := by
  obtain ⟨g, m, c, rfl, rfl, fin⟩ := h
  unfold ws__law_bounds_right
  (try dsimp only); rw [wSeq_eq]; simp -failIfUnchanged only [N__law_bounds_right, wPar3, wCallW, wForFv, forFvW, wMkX, wDic1, wMtX, wForPr, forPrW, wPNil, wPCons, wVar, wC, wOp, wUn, wCl, wB, wTr, wAnd, wOr, wNot, wAndV, wOrV, wNotV, wIf, wCh, wNil, wCons, wTup, wLe, wSz, wFn, wFnJ, wFnB, wFnJB, wBNil, wBCons, wBOwn, rsvP, rsvJ, wNext, wRet, wRetN, wDrop, wIfS, wSet, wSetOwn, wNever, wAug, wOpO, wIxO, wOpR, wClO, wApp, wSetIt, wFrz, wFor, wRg1, wRg2, wSq, wEnum, wZip, wZipM, wZipS, wZipU, wgN, wgT, wgNil, wgCons, wYes, wAsgT, wgLs, wLenS, wIxS, wFnS, wFnJL, wFnX, wRaise, wRaiseF, wForFn, forFnW, wMet, hide, wIsi, wListOf, wRev, edP, edJ, enP, enJ, enS, NotOwn, Flat, List.map_cons, List.map_nil, List.length_cons, List.length_nil, List.replicate_succ, List.replicate_zero, List.cons_append, List.nil_append, List.append_nil, List.set_cons_zero, List.set_cons_succ, List.getElem?_cons_zero, List.getElem?_cons_succ, Nat.reduceAdd, Nat.reduceSub, Option.some.injEq, Sl.imm.injEq, Sl.own.injEq, Sl.scr.injEq, exists_eq_left, exists_eq_left', exists_eq_right, exists_eq, exists_eq', exists_and_left, and_assoc, and_true, true_and, ne_eq, not_false_eq_true, Nat.succ_ne_zero, or_true, true_or, true_implies, forall_eq', forall_eq, PyData.int.injEq, PyData.bool.injEq, PyData.list.injEq, PyData.tuple.injEq, List.cons.injEq, i_add, i_iadd, i_sub, i_mul, i_mod, i_fdiv, i_fdivG, i_pow, i_neg, i_le, i_ge, i_gt, i_lt, i_eq, i_ne, i_intI, i_intB, i_abs, i_max, i_min, i_lenL, i_lenT, i_ixL, i_ixT, i_tupL, i_tupT, i_truB, Bool.not_true, Bool.not_false, Bool.false_eq_true, if_true, if_false, reduceIte]
  refine ⟨g, m, c, 5, rfl, rfl, by decide, log_lt (by decide) (by decide), fun a g m c a0 a1 => ?_⟩
  obtain ⟨h, rfl⟩ := Int.eq_ofNat_of_zero_le a0
  refine ⟨.int ((h + 2 : Nat) : Int), i_add.mpr (by congr 1; omega), ?_⟩
  refine ⟨g, m, c, 6, rfl, rfl, by decide, log_lt (by decide) (by decide), fun a g m c b0 b1 => ?_⟩
  obtain ⟨b, rfl⟩ := Int.eq_ofNat_of_zero_le b0
  refine ⟨.int ((b + 1 : Nat) : Int), i_add.mpr (by congr 1; omega), ?_⟩
  refine ⟨g, m, c, 20, rfl, rfl, by decide, log_lt (by decide) (by decide), fun l g m c l0 l1 => ?_⟩
  refine ⟨.int (1 + l), i_add.mpr rfl, ?_⟩
  generalize hH : h + 2 = H
  generalize hB : b + 1 = B
  generalize hL : 1 + l = L
  obtain ⟨s, t, p, r, hs, hS, hF, ⟨t_, th, t0, tT, pe, p1, p2, pT, pw, pS, gq, n1, n0, lT, mT, gT, sum⟩⟩ := lo_ok (h := H) (b := B) (l := L) (by omega) (by omega) (by omega) (by omega) (by omega) (by omega)
  have fg := fin g m c
  clear fin
  (try dsimp only); rw [wSeq_eq]; simp -failIfUnchanged only [wCallW, wForFv, forFvW, wMkX, wDic1, wMtX, wForPr, forPrW, wPNil, wPCons, wVar, wC, wOp, wUn, wCl, wB, wTr, wAnd, wOr, wNot, wAndV, wOrV, wNotV, wIf, wCh, wNil, wCons, wTup, wLe, wSz, wFn, wFnJ, wFnB, wFnJB, wBNil, wBCons, wBOwn, rsvP, rsvJ, wNext, wRet, wRetN, wDrop, wIfS, wSet, wSetOwn, wNever, wAug, wOpO, wIxO, wOpR, wClO, wApp, wSetIt, wFrz, wFor, wRg1, wRg2, wSq, wEnum, wZip, wZipM, wZipS, wZipU, wgN, wgT, wgNil, wgCons, wYes, wAsgT, wgLs, wLenS, wIxS, wFnS, wFnJL, wFnX, wRaise, wRaiseF, wForFn, forFnW, wMet, hide, wIsi, wListOf, wRev, edP, edJ, enP, enJ, enS, NotOwn, Flat, List.map_cons, List.map_nil, List.length_cons, List.length_nil, List.replicate_succ, List.replicate_zero, List.cons_append, List.nil_append, List.append_nil, List.set_cons_zero, List.set_cons_succ, List.getElem?_cons_zero, List.getElem?_cons_succ, Nat.reduceAdd, Nat.reduceSub, Option.some.injEq, Sl.imm.injEq, Sl.own.injEq, Sl.scr.injEq, exists_eq_left, exists_eq_left', exists_eq_right, exists_eq, exists_eq', exists_and_left, and_assoc, and_true, true_and, ne_eq, not_false_eq_true, Nat.succ_ne_zero, or_true, true_or, true_implies, forall_eq', forall_eq, PyData.int.injEq, PyData.bool.injEq, PyData.list.injEq, PyData.tuple.injEq, List.cons.injEq, i_add, i_iadd, i_sub, i_mul, i_mod, i_fdiv, i_fdivG, i_pow, i_neg, i_le, i_ge, i_gt, i_lt, i_eq, i_ne, i_intI, i_intB, i_abs, i_max, i_min, i_lenL, i_lenT, i_ixL, i_ixT, i_tupL, i_tupT, i_truB, Bool.not_true, Bool.not_false, Bool.false_eq_true, if_true, if_false, reduceIte]
  refine lcY (α := Int) (e1 := [.own [.int g, .int m, .int c], .imm (.int H), .imm (.int B), .imm (.int L), .un, .un, .un, .un, .un, .un]) (X := .int) (f := fun k => rowD [k]) (xs := intsTo H) (fun k => [.own [.int g, .int m, .int c], .imm (.int H), .imm (.int B), .imm (.int L), .un, .un, .un, .un, .un, .imm (.int k)]) (by decide) (fun Q q => ?_) (no1 trivial) (by rw [intsTo_len]; exact sl200 (by omega)) (fun _ => rfl) (fun k hk Q q => ?_) (fun k hk Q q => ?_) ?_
  · simp -failIfUnchanged only [wCallW, wForFv, forFvW, wMkX, wDic1, wMtX, wForPr, forPrW, wPNil, wPCons, wVar, wC, wOp, wUn, wCl, wB, wTr, wAnd, wOr, wNot, wAndV, wOrV, wNotV, wIf, wCh, wNil, wCons, wTup, wLe, wSz, wFn, wFnJ, wFnB, wFnJB, wBNil, wBCons, wBOwn, rsvP, rsvJ, wNext, wRet, wRetN, wDrop, wIfS, wSet, wSetOwn, wNever, wAug, wOpO, wIxO, wOpR, wClO, wApp, wSetIt, wFrz, wFor, wRg1, wRg2, wSq, wEnum, wZip, wZipM, wZipS, wZipU, wgN, wgT, wgNil, wgCons, wYes, wAsgT, wgLs, wLenS, wIxS, wFnS, wFnJL, wFnX, wRaise, wRaiseF, wForFn, forFnW, wMet, hide, wIsi, wListOf, wRev, edP, edJ, enP, enJ, enS, NotOwn, Flat, List.map_cons, List.map_nil, List.length_cons, List.length_nil, List.replicate_succ, List.replicate_zero, List.cons_append, List.nil_append, List.append_nil, List.set_cons_zero, List.set_cons_succ, List.getElem?_cons_zero, List.getElem?_cons_succ, Nat.reduceAdd, Nat.reduceSub, Option.some.injEq, Sl.imm.injEq, Sl.own.injEq, Sl.scr.injEq, exists_eq_left, exists_eq_left', exists_eq_right, exists_eq, exists_eq', exists_and_left, and_assoc, and_true, true_and, ne_eq, not_false_eq_true, Nat.succ_ne_zero, or_true, true_or, true_implies, forall_eq', forall_eq, PyData.int.injEq, PyData.bool.injEq, PyData.list.injEq, PyData.tuple.injEq, List.cons.injEq, i_add, i_iadd, i_sub, i_mul, i_mod, i_fdiv, i_fdivG, i_pow, i_neg, i_le, i_ge, i_gt, i_lt, i_eq, i_ne, i_intI, i_intB, i_abs, i_max, i_min, i_lenL, i_lenT, i_ixL, i_ixT, i_tupL, i_tupT, i_truB, Bool.not_true, Bool.not_false, Bool.false_eq_true, if_true, if_false, reduceIte]
    rw [rng_ints]
    exact ⟨by omega, by omega, q⟩
  · simp -failIfUnchanged only [wip, wCallW, wForFv, forFvW, wMkX, wDic1, wMtX, wForPr, forPrW, wPNil, wPCons, wVar, wC, wOp, wUn, wCl, wB, wTr, wAnd, wOr, wNot, wAndV, wOrV, wNotV, wIf, wCh, wNil, wCons, wTup, wLe, wSz, wFn, wFnJ, wFnB, wFnJB, wBNil, wBCons, wBOwn, rsvP, rsvJ, wNext, wRet, wRetN, wDrop, wIfS, wSet, wSetOwn, wNever, wAug, wOpO, wIxO, wOpR, wClO, wApp, wSetIt, wFrz, wFor, wRg1, wRg2, wSq, wEnum, wZip, wZipM, wZipS, wZipU, wgN, wgT, wgNil, wgCons, wYes, wAsgT, wgLs, wLenS, wIxS, wFnS, wFnJL, wFnX, wRaise, wRaiseF, wForFn, forFnW, wMet, hide, wIsi, wListOf, wRev, edP, edJ, enP, enJ, enS, NotOwn, Flat, List.map_cons, List.map_nil, List.length_cons, List.length_nil, List.replicate_succ, List.replicate_zero, List.cons_append, List.nil_append, List.append_nil, List.set_cons_zero, List.set_cons_succ, List.getElem?_cons_zero, List.getElem?_cons_succ, Nat.reduceAdd, Nat.reduceSub, Option.some.injEq, Sl.imm.injEq, Sl.own.injEq, Sl.scr.injEq, exists_eq_left, exists_eq_left', exists_eq_right, exists_eq, exists_eq', exists_and_left, and_assoc, and_true, true_and, ne_eq, not_false_eq_true, Nat.succ_ne_zero, or_true, true_or, true_implies, forall_eq', forall_eq, PyData.int.injEq, PyData.bool.injEq, PyData.list.injEq, PyData.tuple.injEq, List.cons.injEq, i_add, i_iadd, i_sub, i_mul, i_mod, i_fdiv, i_fdivG, i_pow, i_neg, i_le, i_ge, i_gt, i_lt, i_eq, i_ne, i_intI, i_intB, i_abs, i_max, i_min, i_lenL, i_lenT, i_ixL, i_ixT, i_tupL, i_tupT, i_truB, Bool.not_true, Bool.not_false, Bool.false_eq_true, if_true, if_false, reduceIte]
    exact q
  · simp -failIfUnchanged only [wCallW, wForFv, forFvW, wMkX, wDic1, wMtX, wForPr, forPrW, wPNil, wPCons, wVar, wC, wOp, wUn, wCl, wB, wTr, wAnd, wOr, wNot, wAndV, wOrV, wNotV, wIf, wCh, wNil, wCons, wTup, wLe, wSz, wFn, wFnJ, wFnB, wFnJB, wBNil, wBCons, wBOwn, rsvP, rsvJ, wNext, wRet, wRetN, wDrop, wIfS, wSet, wSetOwn, wNever, wAug, wOpO, wIxO, wOpR, wClO, wApp, wSetIt, wFrz, wFor, wRg1, wRg2, wSq, wEnum, wZip, wZipM, wZipS, wZipU, wgN, wgT, wgNil, wgCons, wYes, wAsgT, wgLs, wLenS, wIxS, wFnS, wFnJL, wFnX, wRaise, wRaiseF, wForFn, forFnW, wMet, hide, wIsi, wListOf, wRev, edP, edJ, enP, enJ, enS, NotOwn, Flat, List.map_cons, List.map_nil, List.length_cons, List.length_nil, List.replicate_succ, List.replicate_zero, List.cons_append, List.nil_append, List.append_nil, List.set_cons_zero, List.set_cons_succ, List.getElem?_cons_zero, List.getElem?_cons_succ, Nat.reduceAdd, Nat.reduceSub, Option.some.injEq, Sl.imm.injEq, Sl.own.injEq, Sl.scr.injEq, exists_eq_left, exists_eq_left', exists_eq_right, exists_eq, exists_eq', exists_and_left, and_assoc, and_true, true_and, ne_eq, not_false_eq_true, Nat.succ_ne_zero, or_true, true_or, true_implies, forall_eq', forall_eq, PyData.int.injEq, PyData.bool.injEq, PyData.list.injEq, PyData.tuple.injEq, List.cons.injEq, i_add, i_iadd, i_sub, i_mul, i_mod, i_fdiv, i_fdivG, i_pow, i_neg, i_le, i_ge, i_gt, i_lt, i_eq, i_ne, i_intI, i_intB, i_abs, i_max, i_min, i_lenL, i_lenT, i_ixL, i_ixT, i_tupL, i_tupT, i_truB, Bool.not_true, Bool.not_false, Bool.false_eq_true, if_true, if_false, reduceIte]
    exact ⟨by decide, q⟩
  have le : PyData.tuple ((intsTo (H : Int)).map fun k => rowD [k]) = rowsD (lone H) := by unfold rowsD lone; rw [List.map_map]; rfl
  simp -failIfUnchanged only [wCallW, wForFv, forFvW, wMkX, wDic1, wMtX, wForPr, forPrW, wPNil, wPCons, wVar, wC, wOp, wUn, wCl, wB, wTr, wAnd, wOr, wNot, wAndV, wOrV, wNotV, wIf, wCh, wNil, wCons, wTup, wLe, wSz, wFn, wFnJ, wFnB, wFnJB, wBNil, wBCons, wBOwn, rsvP, rsvJ, wNext, wRet, wRetN, wDrop, wIfS, wSet, wSetOwn, wNever, wAug, wOpO, wIxO, wOpR, wClO, wApp, wSetIt, wFrz, wFor, wRg1, wRg2, wSq, wEnum, wZip, wZipM, wZipS, wZipU, wgN, wgT, wgNil, wgCons, wYes, wAsgT, wgLs, wLenS, wIxS, wFnS, wFnJL, wFnX, wRaise, wRaiseF, wForFn, forFnW, wMet, hide, wIsi, wListOf, wRev, edP, edJ, enP, enJ, enS, NotOwn, Flat, List.map_cons, List.map_nil, List.length_cons, List.length_nil, List.replicate_succ, List.replicate_zero, List.cons_append, List.nil_append, List.append_nil, List.set_cons_zero, List.set_cons_succ, List.getElem?_cons_zero, List.getElem?_cons_succ, Nat.reduceAdd, Nat.reduceSub, Option.some.injEq, Sl.imm.injEq, Sl.own.injEq, Sl.scr.injEq, exists_eq_left, exists_eq_left', exists_eq_right, exists_eq, exists_eq', exists_and_left, and_assoc, and_true, true_and, ne_eq, not_false_eq_true, Nat.succ_ne_zero, or_true, true_or, true_implies, forall_eq', forall_eq, PyData.int.injEq, PyData.bool.injEq, PyData.list.injEq, PyData.tuple.injEq, List.cons.injEq, i_add, i_iadd, i_sub, i_mul, i_mod, i_fdiv, i_fdivG, i_pow, i_neg, i_le, i_ge, i_gt, i_lt, i_eq, i_ne, i_intI, i_intB, i_abs, i_max, i_min, i_lenL, i_lenT, i_ixL, i_ixT, i_tupL, i_tupT, i_truB, Bool.not_true, Bool.not_false, Bool.false_eq_true, if_true, if_false, reduceIte]
  rw [le]
  have um : ∀ {Q : D → Prop} {R : Exc → Prop}, Q (fr ((L : Rat) * pwA p (B - 1) 1)) → wf_least_mean [.int (H : Nat), rowsD (lone H), .int (B : Nat), .int L] Q R := fun {Q R} k => ⟨H, lone H, s, p, B, L, rfl, hS, hF, hs, by omega, by omega, by omega, by omega, by rw [t_]; exact ⟨p1, p2, pT, pw, pS⟩, k⟩
  (try dsimp only); rw [wSeq_eq]; simp -failIfUnchanged only [wCallW, wForFv, forFvW, wMkX, wDic1, wMtX, wForPr, forPrW, wPNil, wPCons, wVar, wC, wOp, wUn, wCl, wB, wTr, wAnd, wOr, wNot, wAndV, wOrV, wNotV, wIf, wCh, wNil, wCons, wTup, wLe, wSz, wFn, wFnJ, wFnB, wFnJB, wBNil, wBCons, wBOwn, rsvP, rsvJ, wNext, wRet, wRetN, wDrop, wIfS, wSet, wSetOwn, wNever, wAug, wOpO, wIxO, wOpR, wClO, wApp, wSetIt, wFrz, wFor, wRg1, wRg2, wSq, wEnum, wZip, wZipM, wZipS, wZipU, wgN, wgT, wgNil, wgCons, wYes, wAsgT, wgLs, wLenS, wIxS, wFnS, wFnJL, wFnX, wRaise, wRaiseF, wForFn, forFnW, wMet, hide, wIsi, wListOf, wRev, edP, edJ, enP, enJ, enS, NotOwn, Flat, List.map_cons, List.map_nil, List.length_cons, List.length_nil, List.replicate_succ, List.replicate_zero, List.cons_append, List.nil_append, List.append_nil, List.set_cons_zero, List.set_cons_succ, List.getElem?_cons_zero, List.getElem?_cons_succ, Nat.reduceAdd, Nat.reduceSub, Option.some.injEq, Sl.imm.injEq, Sl.own.injEq, Sl.scr.injEq, exists_eq_left, exists_eq_left', exists_eq_right, exists_eq, exists_eq', exists_and_left, and_assoc, and_true, true_and, ne_eq, not_false_eq_true, Nat.succ_ne_zero, or_true, true_or, true_implies, forall_eq', forall_eq, PyData.int.injEq, PyData.bool.injEq, PyData.list.injEq, PyData.tuple.injEq, List.cons.injEq, i_add, i_iadd, i_sub, i_mul, i_mod, i_fdiv, i_fdivG, i_pow, i_neg, i_le, i_ge, i_gt, i_lt, i_eq, i_ne, i_intI, i_intB, i_abs, i_max, i_min, i_lenL, i_lenT, i_ixL, i_ixT, i_tupL, i_tupT, i_truB, Bool.not_true, Bool.not_false, Bool.false_eq_true, if_true, if_false, reduceIte]
  refine ⟨H, lone H, s, rfl, hS, hF, hs, ?_⟩
  rw [t_]
  (try dsimp only); rw [wSeq_eq]; simp -failIfUnchanged only [wCallW, wForFv, forFvW, wMkX, wDic1, wMtX, wForPr, forPrW, wPNil, wPCons, wVar, wC, wOp, wUn, wCl, wB, wTr, wAnd, wOr, wNot, wAndV, wOrV, wNotV, wIf, wCh, wNil, wCons, wTup, wLe, wSz, wFn, wFnJ, wFnB, wFnJB, wBNil, wBCons, wBOwn, rsvP, rsvJ, wNext, wRet, wRetN, wDrop, wIfS, wSet, wSetOwn, wNever, wAug, wOpO, wIxO, wOpR, wClO, wApp, wSetIt, wFrz, wFor, wRg1, wRg2, wSq, wEnum, wZip, wZipM, wZipS, wZipU, wgN, wgT, wgNil, wgCons, wYes, wAsgT, wgLs, wLenS, wIxS, wFnS, wFnJL, wFnX, wRaise, wRaiseF, wForFn, forFnW, wMet, hide, wIsi, wListOf, wRev, edP, edJ, enP, enJ, enS, NotOwn, Flat, List.map_cons, List.map_nil, List.length_cons, List.length_nil, List.replicate_succ, List.replicate_zero, List.cons_append, List.nil_append, List.append_nil, List.set_cons_zero, List.set_cons_succ, List.getElem?_cons_zero, List.getElem?_cons_succ, Nat.reduceAdd, Nat.reduceSub, Option.some.injEq, Sl.imm.injEq, Sl.own.injEq, Sl.scr.injEq, exists_eq_left, exists_eq_left', exists_eq_right, exists_eq, exists_eq', exists_and_left, and_assoc, and_true, true_and, ne_eq, not_false_eq_true, Nat.succ_ne_zero, or_true, true_or, true_implies, forall_eq', forall_eq, PyData.int.injEq, PyData.bool.injEq, PyData.list.injEq, PyData.tuple.injEq, List.cons.injEq, i_add, i_iadd, i_sub, i_mul, i_mod, i_fdiv, i_fdivG, i_pow, i_neg, i_le, i_ge, i_gt, i_lt, i_eq, i_ne, i_intI, i_intB, i_abs, i_max, i_min, i_lenL, i_lenT, i_ixL, i_ixT, i_tupL, i_tupT, i_truB, Bool.not_true, Bool.not_false, Bool.false_eq_true, if_true, if_false, reduceIte]
  refine ⟨by decide, ?_⟩
  rw [fr1]
  refine ⟨1, t, rfl, smT1, tT, t0, ?_⟩
  rw [← pe]
  (try dsimp only); rw [wSeq_eq]; simp -failIfUnchanged only [wCallW, wForFv, forFvW, wMkX, wDic1, wMtX, wForPr, forPrW, wPNil, wPCons, wVar, wC, wOp, wUn, wCl, wB, wTr, wAnd, wOr, wNot, wAndV, wOrV, wNotV, wIf, wCh, wNil, wCons, wTup, wLe, wSz, wFn, wFnJ, wFnB, wFnJB, wBNil, wBCons, wBOwn, rsvP, rsvJ, wNext, wRet, wRetN, wDrop, wIfS, wSet, wSetOwn, wNever, wAug, wOpO, wIxO, wOpR, wClO, wApp, wSetIt, wFrz, wFor, wRg1, wRg2, wSq, wEnum, wZip, wZipM, wZipS, wZipU, wgN, wgT, wgNil, wgCons, wYes, wAsgT, wgLs, wLenS, wIxS, wFnS, wFnJL, wFnX, wRaise, wRaiseF, wForFn, forFnW, wMet, hide, wIsi, wListOf, wRev, edP, edJ, enP, enJ, enS, NotOwn, Flat, List.map_cons, List.map_nil, List.length_cons, List.length_nil, List.replicate_succ, List.replicate_zero, List.cons_append, List.nil_append, List.append_nil, List.set_cons_zero, List.set_cons_succ, List.getElem?_cons_zero, List.getElem?_cons_succ, Nat.reduceAdd, Nat.reduceSub, Option.some.injEq, Sl.imm.injEq, Sl.own.injEq, Sl.scr.injEq, exists_eq_left, exists_eq_left', exists_eq_right, exists_eq, exists_eq', exists_and_left, and_assoc, and_true, true_and, ne_eq, not_false_eq_true, Nat.succ_ne_zero, or_true, true_or, true_implies, forall_eq', forall_eq, PyData.int.injEq, PyData.bool.injEq, PyData.list.injEq, PyData.tuple.injEq, List.cons.injEq, i_add, i_iadd, i_sub, i_mul, i_mod, i_fdiv, i_fdivG, i_pow, i_neg, i_le, i_ge, i_gt, i_lt, i_eq, i_ne, i_intI, i_intB, i_abs, i_max, i_min, i_lenL, i_lenT, i_ixL, i_ixT, i_tupL, i_tupT, i_truB, Bool.not_true, Bool.not_false, Bool.false_eq_true, if_true, if_false, reduceIte]
  refine ⟨by decide, p, B, rfl, by omega, by omega, pT, pw, ?_⟩
  rw [fr_int]
  refine ⟨_, _, rfl, tn_bb lT, pS, ?_⟩
  (try dsimp only); rw [wSeq_eq]; simp -failIfUnchanged only [wCallW, wForFv, forFvW, wMkX, wDic1, wMtX, wForPr, forPrW, wPNil, wPCons, wVar, wC, wOp, wUn, wCl, wB, wTr, wAnd, wOr, wNot, wAndV, wOrV, wNotV, wIf, wCh, wNil, wCons, wTup, wLe, wSz, wFn, wFnJ, wFnB, wFnJB, wBNil, wBCons, wBOwn, rsvP, rsvJ, wNext, wRet, wRetN, wDrop, wIfS, wSet, wSetOwn, wNever, wAug, wOpO, wIxO, wOpR, wClO, wApp, wSetIt, wFrz, wFor, wRg1, wRg2, wSq, wEnum, wZip, wZipM, wZipS, wZipU, wgN, wgT, wgNil, wgCons, wYes, wAsgT, wgLs, wLenS, wIxS, wFnS, wFnJL, wFnX, wRaise, wRaiseF, wForFn, forFnW, wMet, hide, wIsi, wListOf, wRev, edP, edJ, enP, enJ, enS, NotOwn, Flat, List.map_cons, List.map_nil, List.length_cons, List.length_nil, List.replicate_succ, List.replicate_zero, List.cons_append, List.nil_append, List.append_nil, List.set_cons_zero, List.set_cons_succ, List.getElem?_cons_zero, List.getElem?_cons_succ, Nat.reduceAdd, Nat.reduceSub, Option.some.injEq, Sl.imm.injEq, Sl.own.injEq, Sl.scr.injEq, exists_eq_left, exists_eq_left', exists_eq_right, exists_eq, exists_eq', exists_and_left, and_assoc, and_true, true_and, ne_eq, not_false_eq_true, Nat.succ_ne_zero, or_true, true_or, true_implies, forall_eq', forall_eq, PyData.int.injEq, PyData.bool.injEq, PyData.list.injEq, PyData.tuple.injEq, List.cons.injEq, i_add, i_iadd, i_sub, i_mul, i_mod, i_fdiv, i_fdivG, i_pow, i_neg, i_le, i_ge, i_gt, i_lt, i_eq, i_ne, i_intI, i_intB, i_abs, i_max, i_min, i_lenL, i_lenT, i_ixL, i_ixT, i_tupL, i_tupT, i_truB, Bool.not_true, Bool.not_false, Bool.false_eq_true, if_true, if_false, reduceIte]
  repeat ((with_reducible refine And.intro ?_ ?_); (focus first | decide | exact pow_ok (by decide +kernel) | (simp; done)))
  rw [fr_int]
  refine ⟨_, i_neF.mpr rfl, false, by rw [th]; simp, ?_⟩
  rw [if_neg Bool.false_ne_true]
  refine um ⟨_, i_neF.mpr rfl, false, by simp, ?_⟩
  rw [if_neg Bool.false_ne_true]
  (try dsimp only); rw [wSeq_eq]; simp -failIfUnchanged only [wCallW, wForFv, forFvW, wMkX, wDic1, wMtX, wForPr, forPrW, wPNil, wPCons, wVar, wC, wOp, wUn, wCl, wB, wTr, wAnd, wOr, wNot, wAndV, wOrV, wNotV, wIf, wCh, wNil, wCons, wTup, wLe, wSz, wFn, wFnJ, wFnB, wFnJB, wBNil, wBCons, wBOwn, rsvP, rsvJ, wNext, wRet, wRetN, wDrop, wIfS, wSet, wSetOwn, wNever, wAug, wOpO, wIxO, wOpR, wClO, wApp, wSetIt, wFrz, wFor, wRg1, wRg2, wSq, wEnum, wZip, wZipM, wZipS, wZipU, wgN, wgT, wgNil, wgCons, wYes, wAsgT, wgLs, wLenS, wIxS, wFnS, wFnJL, wFnX, wRaise, wRaiseF, wForFn, forFnW, wMet, hide, wIsi, wListOf, wRev, edP, edJ, enP, enJ, enS, NotOwn, Flat, List.map_cons, List.map_nil, List.length_cons, List.length_nil, List.replicate_succ, List.replicate_zero, List.cons_append, List.nil_append, List.append_nil, List.set_cons_zero, List.set_cons_succ, List.getElem?_cons_zero, List.getElem?_cons_succ, Nat.reduceAdd, Nat.reduceSub, Option.some.injEq, Sl.imm.injEq, Sl.own.injEq, Sl.scr.injEq, exists_eq_left, exists_eq_left', exists_eq_right, exists_eq, exists_eq', exists_and_left, and_assoc, and_true, true_and, ne_eq, not_false_eq_true, Nat.succ_ne_zero, or_true, true_or, true_implies, forall_eq', forall_eq, PyData.int.injEq, PyData.bool.injEq, PyData.list.injEq, PyData.tuple.injEq, List.cons.injEq, i_add, i_iadd, i_sub, i_mul, i_mod, i_fdiv, i_fdivG, i_pow, i_neg, i_le, i_ge, i_gt, i_lt, i_eq, i_ne, i_intI, i_intB, i_abs, i_max, i_min, i_lenL, i_lenT, i_ixL, i_ixT, i_tupL, i_tupT, i_truB, Bool.not_true, Bool.not_false, Bool.false_eq_true, if_true, if_false, reduceIte]
  repeat ((with_reducible refine And.intro ?_ ?_); (focus first | decide | exact pow_ok (by decide +kernel) | (simp; done)))
  rw [fr1, fr_int]
  refine ⟨1, p, rfl, smT1, pT, _, _, rfl, lT, n1, n0, ?_⟩
  simp -failIfUnchanged only [wCallW, wForFv, forFvW, wMkX, wDic1, wMtX, wForPr, forPrW, wPNil, wPCons, wVar, wC, wOp, wUn, wCl, wB, wTr, wAnd, wOr, wNot, wAndV, wOrV, wNotV, wIf, wCh, wNil, wCons, wTup, wLe, wSz, wFn, wFnJ, wFnB, wFnJB, wBNil, wBCons, wBOwn, rsvP, rsvJ, wNext, wRet, wRetN, wDrop, wIfS, wSet, wSetOwn, wNever, wAug, wOpO, wIxO, wOpR, wClO, wApp, wSetIt, wFrz, wFor, wRg1, wRg2, wSq, wEnum, wZip, wZipM, wZipS, wZipU, wgN, wgT, wgNil, wgCons, wYes, wAsgT, wgLs, wLenS, wIxS, wFnS, wFnJL, wFnX, wRaise, wRaiseF, wForFn, forFnW, wMet, hide, wIsi, wListOf, wRev, edP, edJ, enP, enJ, enS, NotOwn, Flat, List.map_cons, List.map_nil, List.length_cons, List.length_nil, List.replicate_succ, List.replicate_zero, List.cons_append, List.nil_append, List.append_nil, List.set_cons_zero, List.set_cons_succ, List.getElem?_cons_zero, List.getElem?_cons_succ, Nat.reduceAdd, Nat.reduceSub, Option.some.injEq, Sl.imm.injEq, Sl.own.injEq, Sl.scr.injEq, exists_eq_left, exists_eq_left', exists_eq_right, exists_eq, exists_eq', exists_and_left, and_assoc, and_true, true_and, ne_eq, not_false_eq_true, Nat.succ_ne_zero, or_true, true_or, true_implies, forall_eq', forall_eq, PyData.int.injEq, PyData.bool.injEq, PyData.list.injEq, PyData.tuple.injEq, List.cons.injEq, i_add, i_iadd, i_sub, i_mul, i_mod, i_fdiv, i_fdivG, i_pow, i_neg, i_le, i_ge, i_gt, i_lt, i_eq, i_ne, i_intI, i_intB, i_abs, i_max, i_min, i_lenL, i_lenT, i_ixL, i_ixT, i_tupL, i_tupT, i_truB, Bool.not_true, Bool.not_false, Bool.false_eq_true, if_true, if_false, reduceIte]
  refine um ?_
  refine ⟨H, lone H, s, p, r, B, L, rfl, hS, hF, hs, by omega, by omega, by omega, by omega, by rw [t_]; exact gq, ?_⟩
  refine ⟨_, _, rfl, mT, gT, .bool true, ?_, fg⟩
  exact i_eqF.mpr (congrArg PyData.bool (decide_eq_true sum).symm)

end K14

set_option Elab.async false
set_option linter.all false
set_option maxRecDepth 100000
set_option maxHeartbeats 4000000
namespace K14
open PySem PySem.Spec PyProof.Rows L2 Pd
theorem frOf {a b : Int} {q : Rat} (h1 : q.num = a) (h2 : (q.den : Int) = b) : fr q = PyData.tuple [.int a, .int b] := by subst h1 h2; rfl
theorem pa_of {q : Rat} {n : Nat} {a b x y : Int} {Q : D → Prop} {R : Exc → Prop} (h1 : q.num = a) (h2 : (q.den : Int) = b) (n1 : 1 ≤ n) (n2 : n ≤ 100) (hq : Sm TN q) (hw : pwsB q (n - 1) 1 = true) (hx : (pwA q (n - 1) 1).num = x) (hy : ((pwA q (n - 1) 1).den : Int) = y) (k : Q (.tuple [.int x, .int y])) : wf_powers_added [.tuple [.int a, .int b], .int (n : Nat)] Q R := by
  rw [← frOf h1 h2]
  refine ⟨q, n, rfl, n1, n2, hq, pws_of hw, ?_⟩
  rw [frOf hx hy]
  exact k
theorem in_loop {ns : List Int} {s1 s4 : Sl} {R : Ed} : ∀ (xs : List D) (s3 : Sl) (g m c : Int), (∀ (s3 : Sl) (g m c : Int), R.nx [.scr ns, s1, .own [.int g, .int m, .int c], s3, s4]) →
    forW (wgN 3) (wIfS (wOr (wNot (wTr (wFnJ 2 1 wf__law_right wNil))) (wNot (wTr (wFnJ 2 1 wf__law_bounds_right wNil)))) (wRet (wC (.bool false))) wNext) R xs [.scr ns, s1, .own [.int g, .int m, .int c], s3, s4]
  | [], s3, g, m, c, q => q s3 g m c
  | x :: xs, s3, g, m, c, q => by
    have rec_ := fun s3 g m c => in_loop (ns := ns) (s1 := s1) (s4 := s4) (R := R) xs s3 g m c q
    unfold forW
    generalize forW (wgN 3) _ R xs = N at rec_ ⊢
    simp -failIfUnchanged only [wf__law_right, wCallW, wForFv, forFvW, wMkX, wDic1, wMtX, wForPr, forPrW, wPNil, wPCons, wVar, wC, wOp, wUn, wCl, wB, wTr, wAnd, wOr, wNot, wAndV, wOrV, wNotV, wIf, wCh, wNil, wCons, wTup, wLe, wSz, wFn, wFnJ, wFnB, wFnJB, wBNil, wBCons, wBOwn, rsvP, rsvJ, wNext, wRet, wRetN, wDrop, wIfS, wSet, wSetOwn, wNever, wAug, wOpO, wIxO, wOpR, wClO, wApp, wSetIt, wFrz, wFor, wRg1, wRg2, wSq, wEnum, wZip, wZipM, wZipS, wZipU, wgN, wgT, wgNil, wgCons, wYes, wAsgT, wgLs, wLenS, wIxS, wFnS, wFnJL, wFnX, wRaise, wRaiseF, wForFn, forFnW, wMet, hide, wIsi, wListOf, wRev, edP, edJ, enP, enJ, enS, NotOwn, Flat, List.map_cons, List.map_nil, List.length_cons, List.length_nil, List.replicate_succ, List.replicate_zero, List.cons_append, List.nil_append, List.append_nil, List.set_cons_zero, List.set_cons_succ, List.getElem?_cons_zero, List.getElem?_cons_succ, Nat.reduceAdd, Nat.reduceSub, Option.some.injEq, Sl.imm.injEq, Sl.own.injEq, Sl.scr.injEq, exists_eq_left, exists_eq_left', exists_eq_right, exists_eq, exists_eq', exists_and_left, and_assoc, and_true, true_and, ne_eq, not_false_eq_true, Nat.succ_ne_zero, or_true, true_or, true_implies, forall_eq', forall_eq, PyData.int.injEq, PyData.bool.injEq, PyData.list.injEq, PyData.tuple.injEq, List.cons.injEq, i_add, i_iadd, i_sub, i_mul, i_mod, i_fdiv, i_fdivG, i_pow, i_neg, i_le, i_ge, i_gt, i_lt, i_eq, i_ne, i_intI, i_intB, i_abs, i_max, i_min, i_lenL, i_lenT, i_ixL, i_ixT, i_tupL, i_tupT, i_truB, Bool.not_true, Bool.not_false, Bool.false_eq_true, if_true, if_false, reduceIte]
    refine fun g m c => ?_
    simp -failIfUnchanged only [wCallW, wForFv, forFvW, wMkX, wDic1, wMtX, wForPr, forPrW, wPNil, wPCons, wVar, wC, wOp, wUn, wCl, wB, wTr, wAnd, wOr, wNot, wAndV, wOrV, wNotV, wIf, wCh, wNil, wCons, wTup, wLe, wSz, wFn, wFnJ, wFnB, wFnJB, wBNil, wBCons, wBOwn, rsvP, rsvJ, wNext, wRet, wRetN, wDrop, wIfS, wSet, wSetOwn, wNever, wAug, wOpO, wIxO, wOpR, wClO, wApp, wSetIt, wFrz, wFor, wRg1, wRg2, wSq, wEnum, wZip, wZipM, wZipS, wZipU, wgN, wgT, wgNil, wgCons, wYes, wAsgT, wgLs, wLenS, wIxS, wFnS, wFnJL, wFnX, wRaise, wRaiseF, wForFn, forFnW, wMet, hide, wIsi, wListOf, wRev, edP, edJ, enP, enJ, enS, NotOwn, Flat, List.map_cons, List.map_nil, List.length_cons, List.length_nil, List.replicate_succ, List.replicate_zero, List.cons_append, List.nil_append, List.append_nil, List.set_cons_zero, List.set_cons_succ, List.getElem?_cons_zero, List.getElem?_cons_succ, Nat.reduceAdd, Nat.reduceSub, Option.some.injEq, Sl.imm.injEq, Sl.own.injEq, Sl.scr.injEq, exists_eq_left, exists_eq_left', exists_eq_right, exists_eq, exists_eq', exists_and_left, and_assoc, and_true, true_and, ne_eq, not_false_eq_true, Nat.succ_ne_zero, or_true, true_or, true_implies, forall_eq', forall_eq, PyData.int.injEq, PyData.bool.injEq, PyData.list.injEq, PyData.tuple.injEq, List.cons.injEq, i_add, i_iadd, i_sub, i_mul, i_mod, i_fdiv, i_fdivG, i_pow, i_neg, i_le, i_ge, i_gt, i_lt, i_eq, i_ne, i_intI, i_intB, i_abs, i_max, i_min, i_lenL, i_lenT, i_ixL, i_ixT, i_tupL, i_tupT, i_truB, Bool.not_true, Bool.not_false, Bool.false_eq_true, if_true, if_false, reduceIte]
    refine ⟨g, m, c, rfl, rfl, fun g m c => ?_⟩
    refine ⟨_, rfl, ?_⟩
    rw [if_neg (by simp)]
    exact rec_ _ _ _ _
theorem out_loop {ns : List Int} {s4 : Sl} {R : Ed} : ∀ (xs : List D), (∀ x ∈ xs, ∃ i : Nat, x = .int i) → ∀ (s1 s2 s3 : Sl), (∀ (s1 s2 s3 : Sl), R.nx [.scr ns, s1, s2, s3, s4]) →
    forW (wgN 1) (wSeq (wSetOwn 2 (wFnS 0 2 wf__law_jug (wCons (wVar 1) wNil))) (wFor (wRg1 (wCons (wC (.int 5)) wNil)) (wgN 3) (wIfS (wOr (wNot (wTr (wFnJ 2 1 wf__law_right wNil))) (wNot (wTr (wFnJ 2 1 wf__law_bounds_right wNil)))) (wRet (wC (.bool false))) wNext))) R xs [.scr ns, s1, s2, s3, s4]
  | [], _, s1, s2, s3, q => q s1 s2 s3
  | x :: xs, hx, s1, s2, s3, q => by
    obtain ⟨i, rfl⟩ := hx x List.mem_cons_self
    have rec_ := fun s1 s2 s3 => out_loop (ns := ns) (s4 := s4) (R := R) xs (fun x hx' => hx x (List.mem_cons_of_mem _ hx')) s1 s2 s3 q
    unfold forW
    generalize forW (wgN 1) _ R xs = N at rec_ ⊢
    simp -failIfUnchanged only [wCallW, wForFv, forFvW, wMkX, wDic1, wMtX, wForPr, forPrW, wPNil, wPCons, wVar, wC, wOp, wUn, wCl, wB, wTr, wAnd, wOr, wNot, wAndV, wOrV, wNotV, wIf, wCh, wNil, wCons, wTup, wLe, wSz, wFn, wFnJ, wFnB, wFnJB, wBNil, wBCons, wBOwn, rsvP, rsvJ, wNext, wRet, wRetN, wDrop, wIfS, wSet, wSetOwn, wNever, wAug, wOpO, wIxO, wOpR, wClO, wApp, wSetIt, wFrz, wFor, wRg1, wRg2, wSq, wEnum, wZip, wZipM, wZipS, wZipU, wgN, wgT, wgNil, wgCons, wYes, wAsgT, wgLs, wLenS, wIxS, wFnS, wFnJL, wFnX, wRaise, wRaiseF, wForFn, forFnW, wMet, hide, wIsi, wListOf, wRev, edP, edJ, enP, enJ, enS, NotOwn, Flat, List.map_cons, List.map_nil, List.length_cons, List.length_nil, List.replicate_succ, List.replicate_zero, List.cons_append, List.nil_append, List.append_nil, List.set_cons_zero, List.set_cons_succ, List.getElem?_cons_zero, List.getElem?_cons_succ, Nat.reduceAdd, Nat.reduceSub, Option.some.injEq, Sl.imm.injEq, Sl.own.injEq, Sl.scr.injEq, exists_eq_left, exists_eq_left', exists_eq_right, exists_eq, exists_eq', exists_and_left, and_assoc, and_true, true_and, ne_eq, not_false_eq_true, Nat.succ_ne_zero, or_true, true_or, true_implies, forall_eq', forall_eq, PyData.int.injEq, PyData.bool.injEq, PyData.list.injEq, PyData.tuple.injEq, List.cons.injEq, i_add, i_iadd, i_sub, i_mul, i_mod, i_fdiv, i_fdivG, i_pow, i_neg, i_le, i_ge, i_gt, i_lt, i_eq, i_ne, i_intI, i_intB, i_abs, i_max, i_min, i_lenL, i_lenT, i_ixL, i_ixT, i_tupL, i_tupT, i_truB, Bool.not_true, Bool.not_false, Bool.false_eq_true, if_true, if_false, reduceIte]
    (try dsimp only); rw [wSeq_eq]; simp -failIfUnchanged only [wf__law_jug, wCallW, wForFv, forFvW, wMkX, wDic1, wMtX, wForPr, forPrW, wPNil, wPCons, wVar, wC, wOp, wUn, wCl, wB, wTr, wAnd, wOr, wNot, wAndV, wOrV, wNotV, wIf, wCh, wNil, wCons, wTup, wLe, wSz, wFn, wFnJ, wFnB, wFnJB, wBNil, wBCons, wBOwn, rsvP, rsvJ, wNext, wRet, wRetN, wDrop, wIfS, wSet, wSetOwn, wNever, wAug, wOpO, wIxO, wOpR, wClO, wApp, wSetIt, wFrz, wFor, wRg1, wRg2, wSq, wEnum, wZip, wZipM, wZipS, wZipU, wgN, wgT, wgNil, wgCons, wYes, wAsgT, wgLs, wLenS, wIxS, wFnS, wFnJL, wFnX, wRaise, wRaiseF, wForFn, forFnW, wMet, hide, wIsi, wListOf, wRev, edP, edJ, enP, enJ, enS, NotOwn, Flat, List.map_cons, List.map_nil, List.length_cons, List.length_nil, List.replicate_succ, List.replicate_zero, List.cons_append, List.nil_append, List.append_nil, List.set_cons_zero, List.set_cons_succ, List.getElem?_cons_zero, List.getElem?_cons_succ, Nat.reduceAdd, Nat.reduceSub, Option.some.injEq, Sl.imm.injEq, Sl.own.injEq, Sl.scr.injEq, exists_eq_left, exists_eq_left', exists_eq_right, exists_eq, exists_eq', exists_and_left, and_assoc, and_true, true_and, ne_eq, not_false_eq_true, Nat.succ_ne_zero, or_true, true_or, true_implies, forall_eq', forall_eq, PyData.int.injEq, PyData.bool.injEq, PyData.list.injEq, PyData.tuple.injEq, List.cons.injEq, i_add, i_iadd, i_sub, i_mul, i_mod, i_fdiv, i_fdivG, i_pow, i_neg, i_le, i_ge, i_gt, i_lt, i_eq, i_ne, i_intI, i_intB, i_abs, i_max, i_min, i_lenL, i_lenT, i_ixL, i_ixT, i_tupL, i_tupT, i_truB, Bool.not_true, Bool.not_false, Bool.false_eq_true, if_true, if_false, reduceIte]
    refine ⟨ns, [(i : Int)], rfl, rfl, rfl, i, rfl, fun g m c => ⟨[g, m, c], rfl, by decide, by decide, ?_⟩⟩
    exact in_loop _ _ g m c fun s3 g m c => rec_ _ _ _
theorem rng_nat {n : Nat} : ∀ x ∈ rngD 0 n, ∃ i : Nat, x = .int i ∧ i < n := fun x hx => by
  obtain ⟨i, hi⟩ := List.getElem?_of_mem hx
  obtain ⟨e, h⟩ := rngD_get hi
  exact ⟨i, by rw [e, Int.zero_add], h⟩
theorem pu_law (ns ds Q) (hl : ds.length + 1 = 1) (h : wf_law ns ds Q) : ws_law (edP Q) (enS N_law ns ds) := by
  obtain ⟨rfl, hn, q⟩ := h
  unfold ws_law
  (try dsimp only); rw [wSeq_eq]; simp -failIfUnchanged only [N_law, wCallW, wForFv, forFvW, wMkX, wDic1, wMtX, wForPr, forPrW, wPNil, wPCons, wVar, wC, wOp, wUn, wCl, wB, wTr, wAnd, wOr, wNot, wAndV, wOrV, wNotV, wIf, wCh, wNil, wCons, wTup, wLe, wSz, wFn, wFnJ, wFnB, wFnJB, wBNil, wBCons, wBOwn, rsvP, rsvJ, wNext, wRet, wRetN, wDrop, wIfS, wSet, wSetOwn, wNever, wAug, wOpO, wIxO, wOpR, wClO, wApp, wSetIt, wFrz, wFor, wRg1, wRg2, wSq, wEnum, wZip, wZipM, wZipS, wZipU, wgN, wgT, wgNil, wgCons, wYes, wAsgT, wgLs, wLenS, wIxS, wFnS, wFnJL, wFnX, wRaise, wRaiseF, wForFn, forFnW, wMet, hide, wIsi, wListOf, wRev, edP, edJ, enP, enJ, enS, NotOwn, Flat, List.map_cons, List.map_nil, List.length_cons, List.length_nil, List.replicate_succ, List.replicate_zero, List.cons_append, List.nil_append, List.append_nil, List.set_cons_zero, List.set_cons_succ, List.getElem?_cons_zero, List.getElem?_cons_succ, Nat.reduceAdd, Nat.reduceSub, Option.some.injEq, Sl.imm.injEq, Sl.own.injEq, Sl.scr.injEq, exists_eq_left, exists_eq_left', exists_eq_right, exists_eq, exists_eq', exists_and_left, and_assoc, and_true, true_and, ne_eq, not_false_eq_true, Nat.succ_ne_zero, or_true, true_or, true_implies, forall_eq', forall_eq, PyData.int.injEq, PyData.bool.injEq, PyData.list.injEq, PyData.tuple.injEq, List.cons.injEq, i_add, i_iadd, i_sub, i_mul, i_mod, i_fdiv, i_fdivG, i_pow, i_neg, i_le, i_ge, i_gt, i_lt, i_eq, i_ne, i_intI, i_intB, i_abs, i_max, i_min, i_lenL, i_lenT, i_ixL, i_ixT, i_tupL, i_tupT, i_truB, Bool.not_true, Bool.not_false, Bool.false_eq_true, if_true, if_false, reduceIte]
  refine ⟨by split <;> (try split) <;> omega, by split <;> (try split) <;> omega, ?_⟩
  refine out_loop _ (fun x hx => (rng_nat x hx).imp fun _ h => h.1) _ _ _ fun s1 s2 s3 => ?_
  (try dsimp only); rw [wSeq_eq]; simp -failIfUnchanged only [wCallW, wForFv, forFvW, wMkX, wDic1, wMtX, wForPr, forPrW, wPNil, wPCons, wVar, wC, wOp, wUn, wCl, wB, wTr, wAnd, wOr, wNot, wAndV, wOrV, wNotV, wIf, wCh, wNil, wCons, wTup, wLe, wSz, wFn, wFnJ, wFnB, wFnJB, wBNil, wBCons, wBOwn, rsvP, rsvJ, wNext, wRet, wRetN, wDrop, wIfS, wSet, wSetOwn, wNever, wAug, wOpO, wIxO, wOpR, wClO, wApp, wSetIt, wFrz, wFor, wRg1, wRg2, wSq, wEnum, wZip, wZipM, wZipS, wZipU, wgN, wgT, wgNil, wgCons, wYes, wAsgT, wgLs, wLenS, wIxS, wFnS, wFnJL, wFnX, wRaise, wRaiseF, wForFn, forFnW, wMet, hide, wIsi, wListOf, wRev, edP, edJ, enP, enJ, enS, NotOwn, Flat, List.map_cons, List.map_nil, List.length_cons, List.length_nil, List.replicate_succ, List.replicate_zero, List.cons_append, List.nil_append, List.append_nil, List.set_cons_zero, List.set_cons_succ, List.getElem?_cons_zero, List.getElem?_cons_succ, Nat.reduceAdd, Nat.reduceSub, Option.some.injEq, Sl.imm.injEq, Sl.own.injEq, Sl.scr.injEq, exists_eq_left, exists_eq_left', exists_eq_right, exists_eq, exists_eq', exists_and_left, and_assoc, and_true, true_and, ne_eq, not_false_eq_true, Nat.succ_ne_zero, or_true, true_or, true_implies, forall_eq', forall_eq, PyData.int.injEq, PyData.bool.injEq, PyData.list.injEq, PyData.tuple.injEq, List.cons.injEq, i_add, i_iadd, i_sub, i_mul, i_mod, i_fdiv, i_fdivG, i_pow, i_neg, i_le, i_ge, i_gt, i_lt, i_eq, i_ne, i_intI, i_intB, i_abs, i_max, i_min, i_lenL, i_lenT, i_ixL, i_ixT, i_tupL, i_tupT, i_truB, Bool.not_true, Bool.not_false, Bool.false_eq_true, if_true, if_false, reduceIte]
  refine ⟨by decide, pa_of (q := Rat.divInt (2) 3) (n := 3) (x := 19) (y := 9) (by decide +kernel) (by decide +kernel) (by decide) (by decide) ⟨by decide +kernel, by decide +kernel⟩ (by decide +kernel) (by decide +kernel) (by decide +kernel) ?_⟩
  refine ⟨by decide, pa_of (q := Rat.divInt (1) 1) (n := 100) (x := 100) (y := 1) (by decide +kernel) (by decide +kernel) (by decide) (by decide) ⟨by decide +kernel, by decide +kernel⟩ (by decide +kernel) (by decide +kernel) (by decide +kernel) ?_⟩
  refine ⟨by decide, pa_of (q := Rat.divInt (1) 2) (n := 10) (x := 1023) (y := 512) (by decide +kernel) (by decide +kernel) (by decide) (by decide) ⟨by decide +kernel, by decide +kernel⟩ (by decide +kernel) (by decide +kernel) (by decide +kernel) ?_⟩
  refine ⟨by decide, pa_of (q := Rat.divInt (-1) 1) (n := 4) (x := 0) (y := 1) (by decide +kernel) (by decide +kernel) (by decide) (by decide) ⟨by decide +kernel, by decide +kernel⟩ (by decide +kernel) (by decide +kernel) (by decide +kernel) ?_⟩
  refine ⟨by decide, ?_⟩
  (try dsimp only); rw [wSeq_eq]; simp -failIfUnchanged only [wCallW, wForFv, forFvW, wMkX, wDic1, wMtX, wForPr, forPrW, wPNil, wPCons, wVar, wC, wOp, wUn, wCl, wB, wTr, wAnd, wOr, wNot, wAndV, wOrV, wNotV, wIf, wCh, wNil, wCons, wTup, wLe, wSz, wFn, wFnJ, wFnB, wFnJB, wBNil, wBCons, wBOwn, rsvP, rsvJ, wNext, wRet, wRetN, wDrop, wIfS, wSet, wSetOwn, wNever, wAug, wOpO, wIxO, wOpR, wClO, wApp, wSetIt, wFrz, wFor, wRg1, wRg2, wSq, wEnum, wZip, wZipM, wZipS, wZipU, wgN, wgT, wgNil, wgCons, wYes, wAsgT, wgLs, wLenS, wIxS, wFnS, wFnJL, wFnX, wRaise, wRaiseF, wForFn, forFnW, wMet, hide, wIsi, wListOf, wRev, edP, edJ, enP, enJ, enS, NotOwn, Flat, List.map_cons, List.map_nil, List.length_cons, List.length_nil, List.replicate_succ, List.replicate_zero, List.cons_append, List.nil_append, List.append_nil, List.set_cons_zero, List.set_cons_succ, List.getElem?_cons_zero, List.getElem?_cons_succ, Nat.reduceAdd, Nat.reduceSub, Option.some.injEq, Sl.imm.injEq, Sl.own.injEq, Sl.scr.injEq, exists_eq_left, exists_eq_left', exists_eq_right, exists_eq, exists_eq', exists_and_left, and_assoc, and_true, true_and, ne_eq, not_false_eq_true, Nat.succ_ne_zero, or_true, true_or, true_implies, forall_eq', forall_eq, PyData.int.injEq, PyData.bool.injEq, PyData.list.injEq, PyData.tuple.injEq, List.cons.injEq, i_add, i_iadd, i_sub, i_mul, i_mod, i_fdiv, i_fdivG, i_pow, i_neg, i_le, i_ge, i_gt, i_lt, i_eq, i_ne, i_intI, i_intB, i_abs, i_max, i_min, i_lenL, i_lenT, i_ixL, i_ixT, i_tupL, i_tupT, i_truB, Bool.not_true, Bool.not_false, Bool.false_eq_true, if_true, if_false, reduceIte]
  refine ⟨by decide, pa_of (q := Rat.divInt (0) 1) (n := 7) (x := 1) (y := 1) (by decide +kernel) (by decide +kernel) (by decide) (by decide) ⟨by decide +kernel, by decide +kernel⟩ (by decide +kernel) (by decide +kernel) (by decide +kernel) ?_⟩
  simp -failIfUnchanged only [wCallW, wForFv, forFvW, wMkX, wDic1, wMtX, wForPr, forPrW, wPNil, wPCons, wVar, wC, wOp, wUn, wCl, wB, wTr, wAnd, wOr, wNot, wAndV, wOrV, wNotV, wIf, wCh, wNil, wCons, wTup, wLe, wSz, wFn, wFnJ, wFnB, wFnJB, wBNil, wBCons, wBOwn, rsvP, rsvJ, wNext, wRet, wRetN, wDrop, wIfS, wSet, wSetOwn, wNever, wAug, wOpO, wIxO, wOpR, wClO, wApp, wSetIt, wFrz, wFor, wRg1, wRg2, wSq, wEnum, wZip, wZipM, wZipS, wZipU, wgN, wgT, wgNil, wgCons, wYes, wAsgT, wgLs, wLenS, wIxS, wFnS, wFnJL, wFnX, wRaise, wRaiseF, wForFn, forFnW, wMet, hide, wIsi, wListOf, wRev, edP, edJ, enP, enJ, enS, NotOwn, Flat, List.map_cons, List.map_nil, List.length_cons, List.length_nil, List.replicate_succ, List.replicate_zero, List.cons_append, List.nil_append, List.append_nil, List.set_cons_zero, List.set_cons_succ, List.getElem?_cons_zero, List.getElem?_cons_succ, Nat.reduceAdd, Nat.reduceSub, Option.some.injEq, Sl.imm.injEq, Sl.own.injEq, Sl.scr.injEq, exists_eq_left, exists_eq_left', exists_eq_right, exists_eq, exists_eq', exists_and_left, and_assoc, and_true, true_and, ne_eq, not_false_eq_true, Nat.succ_ne_zero, or_true, true_or, true_implies, forall_eq', forall_eq, PyData.int.injEq, PyData.bool.injEq, PyData.list.injEq, PyData.tuple.injEq, List.cons.injEq, i_add, i_iadd, i_sub, i_mul, i_mod, i_fdiv, i_fdivG, i_pow, i_neg, i_le, i_ge, i_gt, i_lt, i_eq, i_ne, i_intI, i_intB, i_abs, i_max, i_min, i_lenL, i_lenT, i_ixL, i_ixT, i_tupL, i_tupT, i_truB, Bool.not_true, Bool.not_false, Bool.false_eq_true, if_true, if_false, reduceIte]
  repeat ((with_reducible refine And.intro ?_ ?_); (focus first | decide | exact pow_ok (by decide +kernel) | (simp; done)))
  refine ⟨_, i_addL.mpr ⟨by decide, rfl⟩, ?_⟩
  simp -failIfUnchanged only [wCallW, wForFv, forFvW, wMkX, wDic1, wMtX, wForPr, forPrW, wPNil, wPCons, wVar, wC, wOp, wUn, wCl, wB, wTr, wAnd, wOr, wNot, wAndV, wOrV, wNotV, wIf, wCh, wNil, wCons, wTup, wLe, wSz, wFn, wFnJ, wFnB, wFnJB, wBNil, wBCons, wBOwn, rsvP, rsvJ, wNext, wRet, wRetN, wDrop, wIfS, wSet, wSetOwn, wNever, wAug, wOpO, wIxO, wOpR, wClO, wApp, wSetIt, wFrz, wFor, wRg1, wRg2, wSq, wEnum, wZip, wZipM, wZipS, wZipU, wgN, wgT, wgNil, wgCons, wYes, wAsgT, wgLs, wLenS, wIxS, wFnS, wFnJL, wFnX, wRaise, wRaiseF, wForFn, forFnW, wMet, hide, wIsi, wListOf, wRev, edP, edJ, enP, enJ, enS, NotOwn, Flat, List.map_cons, List.map_nil, List.length_cons, List.length_nil, List.replicate_succ, List.replicate_zero, List.cons_append, List.nil_append, List.append_nil, List.set_cons_zero, List.set_cons_succ, List.getElem?_cons_zero, List.getElem?_cons_succ, Nat.reduceAdd, Nat.reduceSub, Option.some.injEq, Sl.imm.injEq, Sl.own.injEq, Sl.scr.injEq, exists_eq_left, exists_eq_left', exists_eq_right, exists_eq, exists_eq', exists_and_left, and_assoc, and_true, true_and, ne_eq, not_false_eq_true, Nat.succ_ne_zero, or_true, true_or, true_implies, forall_eq', forall_eq, PyData.int.injEq, PyData.bool.injEq, PyData.list.injEq, PyData.tuple.injEq, List.cons.injEq, i_add, i_iadd, i_sub, i_mul, i_mod, i_fdiv, i_fdivG, i_pow, i_neg, i_le, i_ge, i_gt, i_lt, i_eq, i_ne, i_intI, i_intB, i_abs, i_max, i_min, i_lenL, i_lenT, i_ixL, i_ixT, i_tupL, i_tupT, i_truB, Bool.not_true, Bool.not_false, Bool.false_eq_true, if_true, if_false, reduceIte]
  repeat ((with_reducible refine And.intro ?_ ?_); (focus first | decide | exact pow_ok (by decide +kernel) | (simp; done)))
  refine ⟨_, encRl.ne (by decide) (a := [[19, 9], [100, 1], [1023, 512], [0, 1], [1, 1]]) (b := [[19, 9], [100, 1], [1023, 512], [0, 1], [1, 1]]) |>.mpr rfl, false, congrArg PyData.bool (by decide), ?_⟩
  rw [if_neg Bool.false_ne_true]
  simp -failIfUnchanged only [wCallW, wForFv, forFvW, wMkX, wDic1, wMtX, wForPr, forPrW, wPNil, wPCons, wVar, wC, wOp, wUn, wCl, wB, wTr, wAnd, wOr, wNot, wAndV, wOrV, wNotV, wIf, wCh, wNil, wCons, wTup, wLe, wSz, wFn, wFnJ, wFnB, wFnJB, wBNil, wBCons, wBOwn, rsvP, rsvJ, wNext, wRet, wRetN, wDrop, wIfS, wSet, wSetOwn, wNever, wAug, wOpO, wIxO, wOpR, wClO, wApp, wSetIt, wFrz, wFor, wRg1, wRg2, wSq, wEnum, wZip, wZipM, wZipS, wZipU, wgN, wgT, wgNil, wgCons, wYes, wAsgT, wgLs, wLenS, wIxS, wFnS, wFnJL, wFnX, wRaise, wRaiseF, wForFn, forFnW, wMet, hide, wIsi, wListOf, wRev, edP, edJ, enP, enJ, enS, NotOwn, Flat, List.map_cons, List.map_nil, List.length_cons, List.length_nil, List.replicate_succ, List.replicate_zero, List.cons_append, List.nil_append, List.append_nil, List.set_cons_zero, List.set_cons_succ, List.getElem?_cons_zero, List.getElem?_cons_succ, Nat.reduceAdd, Nat.reduceSub, Option.some.injEq, Sl.imm.injEq, Sl.own.injEq, Sl.scr.injEq, exists_eq_left, exists_eq_left', exists_eq_right, exists_eq, exists_eq', exists_and_left, and_assoc, and_true, true_and, ne_eq, not_false_eq_true, Nat.succ_ne_zero, or_true, true_or, true_implies, forall_eq', forall_eq, PyData.int.injEq, PyData.bool.injEq, PyData.list.injEq, PyData.tuple.injEq, List.cons.injEq, i_add, i_iadd, i_sub, i_mul, i_mod, i_fdiv, i_fdivG, i_pow, i_neg, i_le, i_ge, i_gt, i_lt, i_eq, i_ne, i_intI, i_intB, i_abs, i_max, i_min, i_lenL, i_lenT, i_ixL, i_ixT, i_tupL, i_tupT, i_truB, Bool.not_true, Bool.not_false, Bool.false_eq_true, if_true, if_false, reduceIte]
  refine ⟨by decide, pa_of (q := Rat.divInt (10) 1) (n := 100) (x := 1111111111111111111111111111111111111111111111111111111111111111111111111111111111111111111111111111) (y := 1) (by decide +kernel) (by decide +kernel) (by decide) (by decide) ⟨by decide +kernel, by decide +kernel⟩ (by decide +kernel) (by decide +kernel) (by decide +kernel) ?_⟩
  have e1 : dMulS (.str "1") (.int 100) (.str (repS "1" 100)) := ⟨"1", 100, rfl, rfl, by decide +kernel, by decide, by decide, by decide +kernel, rfl⟩
  have e2 : dIntT [.str (repS "1" 100)] (.int 1111111111111111111111111111111111111111111111111111111111111111111111111111111111111111111111111111) := ⟨_, _, rfl, by decide +kernel, by decide +kernel, rfl⟩
  refine ⟨_, e1, _, e2, by decide, .bool true, ?_, q⟩
  exact encR.eq (by decide) (a := [1111111111111111111111111111111111111111111111111111111111111111111111111111111111111111111111111111, 1]) (b := [1111111111111111111111111111111111111111111111111111111111111111111111111111111111111111111111111111, 1]) |>.mpr (by simp)

end K14

set_option Elab.async false
set_option linter.all false
set_option maxRecDepth 100000
set_option maxHeartbeats 0
namespace K14
open PySem PySem.Spec PyProof.Rows L2 Pd
open Hd
theorem bind0 {K : PySem.W.Frag} {fd : FuncData} {ps : List Str} (h : ∀ (s : Shared) (us : List Value), us.length = ps.length → BindsTo s fd ⟨us, []⟩ (ps.zip us)) : Binds K fd ps [] := fun s us _ hl => by
  rw [List.append_nil] at hl ⊢
  exact h s us hl
theorem facts {P : Program} {w : World} {K : PySem.W.Frag} {h h0 : Heap} {mg : Str → Option Value} {f : Addr} (X : K.In h) (G : h.Ns mainGlobals mg) (hfa : mg ("law" : Str) = some (.ref f)) (cb : He.SaysX fa fn [] tfD ex w h0 K) :
    ∃ fd : FuncData, (∀ (s : Shared) (v : Value), BindsTo s fd ⟨[v], []⟩ [("script", v)]) ∧ ∀ base : Heap, K.In base → base.Ns mainGlobals mg → TabsB K mg base tabF → FnG P w K mg base 11 f fd ["script"] (spST K (tabsT K tabF) 1 wf_law) := by
  have c := cb.t.d
  have T : Tb K mg := ⟨trivial, He.free_ok X G (c.fact 62 (f := He.Fa.free "abs") rfl), He.free_ok X G (c.fact 63 (f := He.Fa.free "all") rfl), He.free_ok X G (c.fact 64 (f := He.Fa.free "any") rfl), He.free_ok X G (c.fact 65 (f := He.Fa.free "bool") rfl), He.free_ok X G (c.fact 66 (f := He.Fa.free "enumerate") rfl), He.free_ok X G (c.fact 67 (f := He.Fa.free "int") rfl), He.free_ok X G (c.fact 68 (f := He.Fa.free "isinstance") rfl), He.free_ok X G (c.fact 69 (f := He.Fa.free "len") rfl), He.free_ok X G (c.fact 70 (f := He.Fa.free "max") rfl), He.free_ok X G (c.fact 71 (f := He.Fa.free "min") rfl), He.free_ok X G (c.fact 72 (f := He.Fa.free "range") rfl), He.free_ok X G (c.fact 73 (f := He.Fa.free "tuple") rfl), He.free_ok X G (c.fact 74 (f := He.Fa.free "zip") rfl), exo_cls (c.fact 79 (f := He.Fa.exc "InvalidFraction") rfl) (He.glo_ok X G (c.fact 75 (f := He.Fa.glo "InvalidFraction") rfl)), exo_cls (c.fact 80 (f := He.Fa.exc "InvalidLots") rfl) (He.glo_ok X G (c.fact 76 (f := He.Fa.glo "InvalidLots") rfl)), He.int_ok X G (c.fact 56 (f := He.Fa.int "MOST_BOOKS" 20) rfl), He.int_ok X G (c.fact 57 (f := He.Fa.int "MOST_HOUSES" 6) rfl), He.int_ok X G (c.fact 58 (f := He.Fa.int "MOST_LOTS" 12) rfl), He.int_ok X G (c.fact 59 (f := He.Fa.int "MOST_POWERS" 100) rfl), He.int_ok X G (c.fact 60 (f := He.Fa.int "MOST_WIDTH" 100) rfl), He.int_ok X G (c.fact 61 (f := He.Fa.int "TOO_LONG" 1000000000000000000000000000000000000000000000000000000000000) rfl), gtup_ok X G (yfa cb.more 3 (f := YF.gtup "NONE" [0, 1]) rfl), gtup_ok X G (yfa cb.more 4 (f := YF.gtup "WHOLE" [1, 1]) rfl), bf_ok X G (yfa cb.more 0 (f := .x (.bf "gcd" "math.gcd")) rfl)⟩
  obtain ⟨_, F_is_whole⟩ := c.def_ 0 (d := dd "is_whole" 9) rfl
  obtain ⟨_, F_is_integer⟩ := c.def_ 1 (d := dd "is_integer" 10) rfl
  obtain ⟨_, F_is_between⟩ := c.def_ 2 (d := dd "is_between" 11) rfl
  obtain ⟨_, F_check_between⟩ := c.def_ 3 (d := dd "check_between" 12) rfl
  obtain ⟨_, F_is_ascending⟩ := c.def_ 4 (d := dd "is_ascending" 13) rfl
  obtain ⟨_, F_is_fraction⟩ := c.def_ 5 (d := dd "is_fraction" 16) rfl
  obtain ⟨_, F_check_fraction⟩ := c.def_ 6 (d := dd "check_fraction" 17) rfl
  obtain ⟨_, F_check_two⟩ := c.def_ 7 (d := dd "check_two" 18) rfl
  obtain ⟨_, F_lowest⟩ := c.def_ 8 (d := dd "lowest" 19) rfl
  obtain ⟨_, F_sum_of_two⟩ := c.def_ 9 (d := dd "sum_of_two" 20) rfl
  obtain ⟨_, F_product_of_two⟩ := c.def_ 10 (d := dd "product_of_two" 21) rfl
  obtain ⟨_, F_order_of_two⟩ := c.def_ 11 (d := dd "order_of_two" 22) rfl
  obtain ⟨_, F_plus⟩ := c.def_ 12 (d := dd "plus" 23) rfl
  obtain ⟨_, F_less⟩ := c.def_ 13 (d := dd "less" 24) rfl
  obtain ⟨_, F_over⟩ := c.def_ 14 (d := dd "over" 25) rfl
  obtain ⟨_, F_compared⟩ := c.def_ 15 (d := dd "compared" 26) rfl
  obtain ⟨_, F_powers_added⟩ := c.def_ 16 (d := dd "powers_added" 27) rfl
  obtain ⟨_, F_check_houses⟩ := c.def_ 17 (d := dd "check_houses" 32) rfl
  obtain ⟨_, F_are_lots⟩ := c.def_ 18 (d := dd "are_lots" 33) rfl
  obtain ⟨_, F_check_lots⟩ := c.def_ 19 (d := dd "check_lots" 34) rfl
  obtain ⟨_, F_check_housed⟩ := c.def_ 20 (d := dd "check_housed" 35) rfl
  obtain ⟨_, F_is_within⟩ := c.def_ 21 (d := dd "is_within" 36) rfl
  obtain ⟨_, F_is_within_any⟩ := c.def_ 22 (d := dd "is_within_any" 37) rfl
  obtain ⟨_, F_free_in⟩ := c.def_ 23 (d := dd "free_in" 38) rfl
  obtain ⟨_, F_first_table⟩ := c.def_ 24 (d := dd "first_table" 40) rfl
  obtain ⟨_, F_entering⟩ := c.def_ 25 (d := dd "entering" 41) rfl
  obtain ⟨_, F_is_sooner⟩ := c.def_ 26 (d := dd "is_sooner" 42) rfl
  obtain ⟨_, F_leaving⟩ := c.def_ 27 (d := dd "leaving" 43) rfl
  obtain ⟨_, F_cleared_row⟩ := c.def_ 28 (d := dd "cleared_row" 44) rfl
  obtain ⟨_, F_exchanged⟩ := c.def_ 29 (d := dd "exchanged" 45) rfl
  obtain ⟨_, F_held_number⟩ := c.def_ 30 (d := dd "held_number" 46) rfl
  obtain ⟨_, F_solved⟩ := c.def_ 31 (d := dd "solved" 47) rfl
  obtain ⟨_, F_weights_answer⟩ := c.def_ 32 (d := dd "weights_answer" 49) rfl
  obtain ⟨_, F_check_counted⟩ := c.def_ 33 (d := dd "check_counted" 54) rfl
  obtain ⟨_, F_check_long⟩ := c.def_ 34 (d := dd "check_long" 55) rfl
  obtain ⟨_, F_check_not_all⟩ := c.def_ 35 (d := dd "check_not_all" 56) rfl
  obtain ⟨_, F_scale_of⟩ := c.def_ 36 (d := dd "scale_of" 57) rfl
  obtain ⟨_, F_turned⟩ := c.def_ 37 (d := dd "turned" 58) rfl
  obtain ⟨_, F_least_for_one⟩ := c.def_ 38 (d := dd "least_for_one" 59) rfl
  obtain ⟨_, F_shared_for_one⟩ := c.def_ 39 (d := dd "shared_for_one" 60) rfl
  obtain ⟨_, F_gap_of⟩ := c.def_ 40 (d := dd "gap_of" 61) rfl
  obtain ⟨_, F_scale⟩ := c.def_ 41 (d := dd "scale" 62) rfl
  obtain ⟨_, F_least_mean⟩ := c.def_ 42 (d := dd "least_mean" 63) rfl
  obtain ⟨_, F_gap⟩ := c.def_ 43 (d := dd "gap" 64) rfl
  obtain ⟨_, F__law_jug⟩ := c.def_ 44 (d := dd "_law_jug" 66) rfl
  obtain ⟨_, F__law_pour⟩ := c.def_ 45 (d := dd "_law_pour" 67) rfl
  obtain ⟨_, F__law_sip⟩ := c.def_ 46 (d := dd "_law_sip" 68) rfl
  obtain ⟨_, F__law_fu_shared⟩ := c.def_ 47 (d := dd "_law_fu_shared" 69) rfl
  obtain ⟨_, F__law_fu_part⟩ := c.def_ 48 (d := dd "_law_fu_part" 70) rfl
  obtain ⟨_, F__law_fu_plus⟩ := c.def_ 49 (d := dd "_law_fu_plus" 71) rfl
  obtain ⟨_, F__law_fu_times⟩ := c.def_ 50 (d := dd "_law_fu_times" 72) rfl
  obtain ⟨_, F__law_ta_fraction⟩ := c.def_ 51 (d := dd "_law_ta_fraction" 73) rfl
  obtain ⟨_, F__law_added⟩ := c.def_ 52 (d := dd "_law_added" 74) rfl
  obtain ⟨_, F__law_right⟩ := c.def_ 53 (d := dd "_law_right" 75) rfl
  obtain ⟨_, F__law_bounds_right⟩ := c.def_ 54 (d := dd "_law_bounds_right" 76) rfl
  obtain ⟨_, F_InvalidNumber___init__⟩ := c.def_ 56 (d := ddm "InvalidNumber" "__init__" 5 0) rfl
  obtain ⟨_, F_Refused___init__⟩ := c.def_ 57 (d := ddm "Refused" "__init__" 6 0) rfl
  obtain ⟨fd, F⟩ := c.def_ 55 (d := dd "law" 77) rfl
  have e := hfa.symm.trans (He.glo_ok X G (c.fact 55 (f := He.Fa.glo "law") rfl))
  cases e
  have b := FunD.bindsA (ps := ["script"]) F fun _ _ _ _ _ _ us hl => match us, hl with | [_], _ => rfl
  have ap : Apart K tabF := apart_nil
  refine ⟨fd, fun s v => b s [v] rfl, fun base _ _ tb => ?_⟩
  have C_InvalidNumber___init__ : ExfC P w K mg base "InvalidNumber" "given" := oex_ok (yfa cb.more 1 (f := YF.oex "InvalidNumber" "IndexError" "given") rfl) (He.glo_ok X G (c.fact 77 (f := He.Fa.glo "InvalidNumber") rfl)) F_InvalidNumber___init__ (s := "self") (g := "given") ⟨rfl, rfl, rfl, by decide +kernel, rfl, by decide +kernel, by decide +kernel⟩ rfl (by first | exact .inl rfl | exact .inr (.inl rfl)) (by first | exact .inl rfl | exact .inr (.inl rfl)) (bind0 (FunD.bindsA (ps := ["self", "given"]) F_InvalidNumber___init__ fun _ _ _ _ _ _ us hl => match us, hl with | [_, _], _ => rfl))
  have C_Refused___init__ : ExfC P w K mg base "Refused" "reason" := oex_ok (yfa cb.more 2 (f := YF.oex "Refused" "ArithmeticError" "reason") rfl) (He.glo_ok X G (c.fact 78 (f := He.Fa.glo "Refused") rfl)) F_Refused___init__ (s := "self") (g := "reason") ⟨rfl, rfl, rfl, by decide +kernel, rfl, by decide +kernel, by decide +kernel⟩ rfl (by first | exact .inl rfl | exact .inr (.inl rfl)) (by first | exact .inl rfl | exact .inr (.inl rfl)) (bind0 (FunD.bindsA (ps := ["self", "reason"]) F_Refused___init__ fun _ _ _ _ _ _ us hl => match us, hl with | [_, _], _ => rfl))
  have C__law_jug : Cal P w K mg base 1 "_law_jug" ["script", "spot"] (spS K 2 wf__law_jug) := ok__law_jug T  F__law_jug (He.glo_ok X G (c.fact 44 (f := He.Fa.glo "_law_jug") rfl)) pu__law_jug
  have C__law_pour : Cal P w K mg base 1 "_law_pour" ["jug", "total"] (spJ K 2 wf__law_pour) := ok__law_pour T  F__law_pour (He.glo_ok X G (c.fact 45 (f := He.Fa.glo "_law_pour") rfl)) pu__law_pour
  have C_is_whole : Cal P w K mg base 1 "is_whole" ["value"] (spP K 1 wf_is_whole) := ok_is_whole T  F_is_whole (He.glo_ok X G (c.fact 0 (f := He.Fa.glo "is_whole") rfl)) pu_is_whole
  have C_is_between : Cal P w K mg base 2 "is_between" ["value", "least", "most"] (spP K 3 wf_is_between) := ok_is_between T C_is_whole F_is_between (He.glo_ok X G (c.fact 2 (f := He.Fa.glo "is_between") rfl)) pu_is_between
  have C_check_between : CalX P w K mg base 3 "check_between" ["value", "least", "most"] (spX K 3 wf_check_between) := ok_check_between T C_is_between C_InvalidNumber___init__ F_check_between (He.glo_ok X G (c.fact 3 (f := He.Fa.glo "check_between") rfl)) pu_check_between
  have C_check_houses : CalX P w K mg base 4 "check_houses" ["houses"] (spX K 1 wf_check_houses) := ok_check_houses T C_check_between F_check_houses (He.glo_ok X G (c.fact 17 (f := He.Fa.glo "check_houses") rfl)) pu_check_houses
  have C_is_ascending : Cal P w K mg base 3 "is_ascending" ["value", "many"] (spP K 2 wf_is_ascending) := ok_is_ascending T C_is_between F_is_ascending (He.glo_ok X G (c.fact 4 (f := He.Fa.glo "is_ascending") rfl)) pu_is_ascending
  have C_are_lots : Cal P w K mg base 4 "are_lots" ["houses", "value"] (spP K 2 wf_are_lots) := ok_are_lots T C_is_ascending F_are_lots (He.glo_ok X G (c.fact 18 (f := He.Fa.glo "are_lots") rfl)) pu_are_lots
  have C_check_lots : CalX P w K mg base 5 "check_lots" ["houses", "lots"] (spX K 2 wf_check_lots) := ok_check_lots T C_are_lots F_check_lots (He.glo_ok X G (c.fact 19 (f := He.Fa.glo "check_lots") rfl)) pu_check_lots
  have C_check_housed : CalX P w K mg base 6 "check_housed" ["houses", "lots"] (spX K 2 wf_check_housed) := ok_check_housed T C_check_houses C_check_lots F_check_housed (He.glo_ok X G (c.fact 20 (f := He.Fa.glo "check_housed") rfl)) pu_check_housed
  have C_is_within : Cal P w K mg base 1 "is_within" ["lot", "other"] (spP K 2 wf_is_within) := ok_is_within T  F_is_within (He.glo_ok X G (c.fact 21 (f := He.Fa.glo "is_within") rfl)) pu_is_within
  have C_is_within_any : Cal P w K mg base 2 "is_within_any" ["lot", "others"] (spP K 2 wf_is_within_any) := ok_is_within_any T C_is_within F_is_within_any (He.glo_ok X G (c.fact 22 (f := He.Fa.glo "is_within_any") rfl)) pu_is_within_any
  have C_free_in : Cal P w K mg base 3 "free_in" ["houses", "lots"] (spP K 2 wf_free_in) := ok_free_in T C_is_within_any F_free_in (He.glo_ok X G (c.fact 23 (f := He.Fa.glo "free_in") rfl)) pu_free_in
  have C_first_table : Cal P w K mg base 1 "first_table" ["houses", "lots"] (spP K 2 wf_first_table) := ok_first_table T  F_first_table (He.glo_ok X G (c.fact 24 (f := He.Fa.glo "first_table") rfl)) pu_first_table
  have C_entering : Cal P w K mg base 1 "entering" ["table"] (spP K 1 wf_entering) := ok_entering T  F_entering (He.glo_ok X G (c.fact 25 (f := He.Fa.glo "entering") rfl)) pu_entering
  have C_is_sooner : Cal P w K mg base 1 "is_sooner" ["table", "held", "column", "row", "best"] (spP K 5 wf_is_sooner) := ok_is_sooner T  F_is_sooner (He.glo_ok X G (c.fact 26 (f := He.Fa.glo "is_sooner") rfl)) pu_is_sooner
  have C_leaving : Cal P w K mg base 2 "leaving" ["table", "held", "column"] (spP K 3 wf_leaving) := ok_leaving T C_is_sooner F_leaving (He.glo_ok X G (c.fact 27 (f := He.Fa.glo "leaving") rfl)) pu_leaving
  have C_cleared_row : Cal P w K mg base 1 "cleared_row" ["row", "lead", "column", "bottom"] (spP K 4 wf_cleared_row) := ok_cleared_row T  F_cleared_row (He.glo_ok X G (c.fact 28 (f := He.Fa.glo "cleared_row") rfl)) pu_cleared_row
  have C_exchanged : Cal P w K mg base 2 "exchanged" ["table", "row", "column", "bottom"] (spP K 4 wf_exchanged) := ok_exchanged T C_cleared_row F_exchanged (He.glo_ok X G (c.fact 29 (f := He.Fa.glo "exchanged") rfl)) pu_exchanged
  have C_held_number : Cal P w K mg base 1 "held_number" ["table", "held", "column"] (spP K 3 wf_held_number) := ok_held_number T  F_held_number (He.glo_ok X G (c.fact 30 (f := He.Fa.glo "held_number") rfl)) pu_held_number
  have C_solved : Cal P w K mg base 3 "solved" ["houses", "lots"] (spP K 2 wf_solved) := ok_solved T C_first_table C_entering C_leaving C_exchanged C_held_number F_solved (He.glo_ok X G (c.fact 31 (f := He.Fa.glo "solved") rfl)) pu_solved
  have C_lowest : Cal P w K mg base 1 "lowest" ["top", "bottom"] (spP K 2 wf_lowest) := ok_lowest T  F_lowest (He.glo_ok X G (c.fact 8 (f := He.Fa.glo "lowest") rfl)) pu_lowest
  have C_weights_answer : CalX P w K mg base 7 "weights_answer" ["houses", "lots"] (spX K 2 wf_weights_answer) := ok_weights_answer T C_check_housed C_free_in C_solved C_lowest F_weights_answer (He.glo_ok X G (c.fact 32 (f := He.Fa.glo "weights_answer") rfl)) pu_weights_answer
  have C_scale_of : CalX P w K mg base 8 "scale_of" ["houses", "lots"] (spX K 2 wf_scale_of) := ok_scale_of T C_weights_answer F_scale_of (He.glo_ok X G (c.fact 36 (f := He.Fa.glo "scale_of") rfl)) pu_scale_of
  have C_scale : CalX P w K mg base 9 "scale" ["houses", "lots"] (spX K 2 wf_scale) := ok_scale T C_check_housed C_scale_of F_scale (He.glo_ok X G (c.fact 41 (f := He.Fa.glo "scale") rfl)) pu_scale
  have C_is_integer : Cal P w K mg base 2 "is_integer" ["value"] (spP K 1 wf_is_integer) := ok_is_integer T C_is_whole F_is_integer (He.glo_ok X G (c.fact 1 (f := He.Fa.glo "is_integer") rfl)) pu_is_integer
  have C_is_fraction : Cal P w K mg base 3 "is_fraction" ["value"] (spP K 1 wf_is_fraction) := ok_is_fraction T C_is_integer F_is_fraction (He.glo_ok X G (c.fact 5 (f := He.Fa.glo "is_fraction") rfl)) pu_is_fraction
  have C_check_fraction : CalX P w K mg base 4 "check_fraction" ["value"] (spX K 1 wf_check_fraction) := ok_check_fraction T C_is_fraction F_check_fraction (He.glo_ok X G (c.fact 6 (f := He.Fa.glo "check_fraction") rfl)) pu_check_fraction
  have C_check_two : CalX P w K mg base 5 "check_two" ["one", "other"] (spX K 2 wf_check_two) := ok_check_two T C_check_fraction F_check_two (He.glo_ok X G (c.fact 7 (f := He.Fa.glo "check_two") rfl)) pu_check_two
  have C_over : CalX P w K mg base 6 "over" ["one", "other"] (spX K 2 wf_over) := ok_over T C_check_two C_lowest C_Refused___init__ F_over (He.glo_ok X G (c.fact 14 (f := He.Fa.glo "over") rfl)) pu_over
  have C__law_fu_shared : Cal P w K mg base 1 "_law_fu_shared" ["one", "other"] (spP K 2 wf__law_fu_shared) := ok__law_fu_shared T  F__law_fu_shared (He.glo_ok X G (c.fact 47 (f := He.Fa.glo "_law_fu_shared") rfl)) pu__law_fu_shared
  have C__law_fu_part : Cal P w K mg base 2 "_law_fu_part" ["top", "bottom"] (spP K 2 wf__law_fu_part) := ok__law_fu_part T C__law_fu_shared F__law_fu_part (He.glo_ok X G (c.fact 48 (f := He.Fa.glo "_law_fu_part") rfl)) pu__law_fu_part
  have C__law_fu_times : Cal P w K mg base 3 "_law_fu_times" ["one", "other"] (spP K 2 wf__law_fu_times) := ok__law_fu_times T C__law_fu_part F__law_fu_times (He.glo_ok X G (c.fact 50 (f := He.Fa.glo "_law_fu_times") rfl)) pu__law_fu_times
  have C_sum_of_two : Cal P w K mg base 2 "sum_of_two" ["one", "other"] (spP K 2 wf_sum_of_two) := ok_sum_of_two T C_lowest F_sum_of_two (He.glo_ok X G (c.fact 9 (f := He.Fa.glo "sum_of_two") rfl)) pu_sum_of_two
  have C_product_of_two : Cal P w K mg base 2 "product_of_two" ["one", "other"] (spP K 2 wf_product_of_two) := ok_product_of_two T C_lowest F_product_of_two (He.glo_ok X G (c.fact 10 (f := He.Fa.glo "product_of_two") rfl)) pu_product_of_two
  have C_powers_added : CalX P w K mg base 5 "powers_added" ["one", "many"] (spX K 2 wf_powers_added) := ok_powers_added T C_check_fraction C_check_between C_sum_of_two C_product_of_two F_powers_added (He.glo_ok X G (c.fact 16 (f := He.Fa.glo "powers_added") rfl)) pu_powers_added
  have C_check_counted : CalX P w K mg base 4 "check_counted" ["books"] (spX K 1 wf_check_counted) := ok_check_counted T C_check_between F_check_counted (He.glo_ok X G (c.fact 33 (f := He.Fa.glo "check_counted") rfl)) pu_check_counted
  have C_check_long : CalX P w K mg base 4 "check_long" ["length"] (spX K 1 wf_check_long) := ok_check_long T C_check_between F_check_long (He.glo_ok X G (c.fact 34 (f := He.Fa.glo "check_long") rfl)) pu_check_long
  have C_turned : Cal P w K mg base 1 "turned" ["some"] (spP K 1 wf_turned) := ok_turned T  F_turned (He.glo_ok X G (c.fact 37 (f := He.Fa.glo "turned") rfl)) pu_turned
  have C_least_for_one : CalX P w K mg base 6 "least_for_one" ["s", "books"] (spX K 2 wf_least_for_one) := ok_least_for_one T C_powers_added C_turned F_least_for_one (He.glo_ok X G (c.fact 38 (f := He.Fa.glo "least_for_one") rfl)) pu_least_for_one
  have C_least_mean : CalX P w K mg base 9 "least_mean" ["houses", "lots", "books", "length"] (spX K 4 wf_least_mean) := ok_least_mean T C_check_housed C_check_counted C_check_long C_product_of_two C_least_for_one C_scale_of F_least_mean (He.glo_ok X G (c.fact 42 (f := He.Fa.glo "least_mean") rfl)) pu_least_mean
  have C_less : CalX P w K mg base 6 "less" ["one", "other"] (spX K 2 wf_less) := ok_less T C_check_two C_sum_of_two F_less (He.glo_ok X G (c.fact 13 (f := He.Fa.glo "less") rfl)) pu_less
  have C_plus : CalX P w K mg base 6 "plus" ["one", "other"] (spX K 2 wf_plus) := ok_plus T C_check_two C_sum_of_two F_plus (He.glo_ok X G (c.fact 12 (f := He.Fa.glo "plus") rfl)) pu_plus
  have C_check_not_all : CalX P w K mg base 3 "check_not_all" ["s"] (spX K 1 wf_check_not_all) := ok_check_not_all T C_Refused___init__ F_check_not_all (He.glo_ok X G (c.fact 35 (f := He.Fa.glo "check_not_all") rfl)) pu_check_not_all
  have C_shared_for_one : Cal P w K mg base 3 "shared_for_one" ["s"] (spP K 1 wf_shared_for_one) := ok_shared_for_one T C_turned C_sum_of_two F_shared_for_one (He.glo_ok X G (c.fact 39 (f := He.Fa.glo "shared_for_one") rfl)) pu_shared_for_one
  have C_gap_of : Cal P w K mg base 4 "gap_of" ["s", "books", "length"] (spP K 3 wf_gap_of) := ok_gap_of T C_product_of_two C_shared_for_one C_turned F_gap_of (He.glo_ok X G (c.fact 40 (f := He.Fa.glo "gap_of") rfl)) pu_gap_of
  have C_gap : CalX P w K mg base 9 "gap" ["houses", "lots", "books", "length"] (spX K 4 wf_gap) := ok_gap T C_check_housed C_check_counted C_check_long C_scale_of C_check_not_all C_gap_of F_gap (He.glo_ok X G (c.fact 43 (f := He.Fa.glo "gap") rfl)) pu_gap
  have C__law_bounds_right : Cal P w K mg base 10 "_law_bounds_right" ["jug"] (spJ K 1 wf__law_bounds_right) := ok__law_bounds_right T C__law_pour C_scale C_over C__law_fu_times C_powers_added C_least_mean C_less C_plus C_gap F__law_bounds_right (He.glo_ok X G (c.fact 54 (f := He.Fa.glo "_law_bounds_right") rfl)) pu__law_bounds_right
  have C__law_sip : Cal P w K mg base 2 "_law_sip" ["jug", "items"] (spJ K 2 wf__law_sip) := ok__law_sip T C__law_pour F__law_sip (He.glo_ok X G (c.fact 46 (f := He.Fa.glo "_law_sip") rfl)) pu__law_sip
  have C__law_ta_fraction : Cal P w K mg base 3 "_law_ta_fraction" ["jug", "size"] (spJ K 2 wf__law_ta_fraction) := ok__law_ta_fraction T C__law_fu_part C__law_pour F__law_ta_fraction (He.glo_ok X G (c.fact 51 (f := He.Fa.glo "_law_ta_fraction") rfl)) pu__law_ta_fraction
  have C__law_fu_plus : Cal P w K mg base 3 "_law_fu_plus" ["one", "other"] (spP K 2 wf__law_fu_plus) := ok__law_fu_plus T C__law_fu_part F__law_fu_plus (He.glo_ok X G (c.fact 49 (f := He.Fa.glo "_law_fu_plus") rfl)) pu__law_fu_plus
  have C__law_added : Cal P w K mg base 4 "_law_added" ["one", "many"] (spP K 2 wf__law_added) := ok__law_added T C__law_fu_plus C__law_fu_times F__law_added (He.glo_ok X G (c.fact 52 (f := He.Fa.glo "_law_added") rfl)) pu__law_added
  have C_order_of_two : Cal P w K mg base 1 "order_of_two" ["one", "other"] (spP K 2 wf_order_of_two) := ok_order_of_two T  F_order_of_two (He.glo_ok X G (c.fact 11 (f := He.Fa.glo "order_of_two") rfl)) pu_order_of_two
  have C_compared : CalX P w K mg base 6 "compared" ["one", "other"] (spX K 2 wf_compared) := ok_compared T C_check_two C_order_of_two F_compared (He.glo_ok X G (c.fact 15 (f := He.Fa.glo "compared") rfl)) pu_compared
  have C__law_right : Cal P w K mg base 7 "_law_right" ["jug"] (spJ K 1 wf__law_right) := ok__law_right T C__law_sip C__law_ta_fraction C__law_pour C__law_added C_powers_added C__law_fu_plus C__law_fu_times C_compared C_over C_less F__law_right (He.glo_ok X G (c.fact 53 (f := He.Fa.glo "_law_right") rfl)) pu__law_right
  exact ok_law T C__law_jug C__law_bounds_right C__law_right C_powers_added ap tb F pu_law
end K14
open PySem PySem.W PySem.Calls PyProof.Rows
theorem PySem.Challenge.cw_fetchunseen_k14_whole_powers_added_holds : PySem.Challenge.rw_fetchunseen_k14_whole_powers_added.Holds := by
  w_on; o_law
  refine HandSHeadRun.head_imp (r := OpenLaw.row K14.RR) (q := view (OpenLaw.row K14.RR).prog [0, 77]) (H := K14.Hd.hk) (ob := K14.Hd.ob) (M := 9000) (loose := K14.Hd.loose) (d := HandSHeadRun.topDef (OpenLaw.row K14.RR).prog 77) (kwd := []) K14.Hd.ob_eq
    K14.Hd.run (by kernel_rfl) (by kernel_rfl) (by kernel_rfl) (by rfl) (by first | assumption | decide +kernel) (by decide +kernel) ⟨rfl, rfl, rfl, rfl, rfl, by decide +kernel⟩ ?hw ?hc
  case hw => w_witness2
  case hc =>
    refine Pd.walk_ofG (l := PySem.Challenge.rw_fetchunseen_k14_whole_powers_added) (n := 63) (k := 11) (x := "script") rfl (by decide) (by kernel_rfl) ⟨rfl, by decide, by decide⟩ ?F
    intro w mg fa h Y G hmg0
    obtain ⟨K, KX, c⟩ := Y
    have hmg : mg ("law" : PySem.Str) = some (.ref fa) := by
      have e : (HandSHeadRun.topDef (OpenLaw.row K14.RR).prog 77).name = ("law" : PySem.Str) := by kernel_rfl
      rw [← e]
      exact hmg0
    obtain ⟨fd, hb, hF⟩ := K14.facts (P := (PySem.Challenge.rw_fetchunseen_k14_whole_powers_added).prog) (w := w) KX G hmg c
    have mm : ∀ p ∈ K14.tabF.map (fun f => He.cT K (f, none)), ∃ q ∈ K14.Hd.tfD, p = He.cT K q := fun p hp => by
      obtain ⟨f, hf, rfl⟩ := List.mem_map.mp hp
      exact ⟨(f, none), (List.mem_map.mpr ⟨f, hf, rfl⟩ : ((f, none) : He.Defn) ∈ K14.tabF.map fun f => ((f, none) : He.Defn)), rfl⟩
    refine ⟨K, fd, K14.tabF.map (fun f => He.cT K (f, none)), Pd.spST K (Pd.tabsT K K14.tabF) 1 K14.wf_law, KX, fun p hp => ?_, fun p hp => ?_, fun p hp => ?_, hb, fun H a vs ns hl ho S => Pd.law_start hl (fun f hf => c.empty _ (List.mem_map.mpr ⟨f, hf, rfl⟩ : ((f, none) : He.Defn) ∈ K14.tabF.map fun f => ((f, none) : He.Defn))) ho S, fun base B N tb => hF base B N fun f hf => tb _ (List.mem_map.mpr ⟨f, hf, rfl⟩)⟩
    · obtain ⟨q, hq, rfl⟩ := mm p hp
      exact c.empty q hq
    · obtain ⟨q, hq, rfl⟩ := mm p hp
      exact c.out q hq
    · obtain ⟨q, hq, rfl⟩ := mm p hp
      exact PySem.W.codeHd_of_K KX (c.hd q hq)

