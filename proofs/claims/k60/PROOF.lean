import PyProof.Rows.All
import Wide.All
import OpenK.AllK
import Wide.FinOn
import HandS.ForMost
import HandS.Evl
import HandS.Wide
import HandS.IsInst
import HandS.Gcd
import HandS.Zip
import HandS.TupAny
import HandS.TupMul
import HandS.Style
import HandS.Defaults
import HandS.WordsExc
import KE.GoesMore
import KE.GoesEnum
import HandS.HeadHook2
import HandS.HeadEnd
import HandS.Head2
import HandS.RaiseMore
import HandS.NoneIn
import HandS.Head3
import HandS.Dict
import HandS.SortInts
import HandS.TupSets
import HandS.NamedTupSort
import HandS.Conv
import KE.KTupSum
import HandS.SetFor
import HandS.Strs
import KE.GoesZip
import PyProof.ConsumeWalk
import PyProof.WalksMore
import PySem.Challenge.RW_fetchunseen_k60_whole_keys_and_asked_num
set_option Elab.async false
set_option linter.all false
set_option maxRecDepth 100000
set_option maxHeartbeats 4000000
/-! A pure reading over data: slots hold data or one's own lists, expressions and statements are read over these alone. -/
namespace Pd
open PySem PySem.Spec PyProof.Rows L2
abbrev D := PyData
abbrev Sg := List (Option V)
abbrev Ex (H H' : Hp) : Prop := ∀ a o, H a = some o → H' a = some o
theorem Ex.rf (H : Hp) : Ex H H := fun _ _ h => h
theorem Ex.tr {H H1 H2 : Hp} (a : Ex H H1) (b : Ex H1 H2) : Ex H H2 := fun x o h => b x o (a x o h)
theorem Ex.up {H : Hp} {p : Addr} {o : HO} (h : H p = none) : Ex H (upd H p o) := fun a u e => by
  rw [upd_ne (ne_of_none e h)]; exact e
theorem Ex.no {H H' : Hp} {p : Addr} (e : Ex H H') (h : H' p = none) : H p = none := by
  cases h1 : H p with
  | none => rfl
  | some o => rw [e p o h1] at h; cases h
/-! a value stands for data: tracked lists, tuples of any kind -/
mutual
inductive Da (K : PySem.W.Frag) (H : Hp) : V → PyData → Prop
  | non : Da K H .non .none
  | bl (b : Bool) : Da K H (.bl b) (.bool b)
  | int (i : Int) : Da K H (.int i) (.int i)
  | str (x : Str) : Da K H (.str x) (.str x)
  | lst {a : Addr} {xs : List V} {ds : List PyData} : H a = some (.lst xs) → DaAll K H xs ds → Da K H (.ref a) (.list ds)
  | tup {a : Addr} {xs : List V} {ds : List PyData} : SqT K H a xs → DaAll K H xs ds → Da K H (.ref a) (.tuple ds)
  /-- {}, never written -/
  | dic {a : Addr} : H a = some (.dK []) → Da K H (.ref a) (.dict [])
inductive DaAll (K : PySem.W.Frag) (H : Hp) : List V → List PyData → Prop
  | nil : DaAll K H [] []
  | cons {v : V} {vs : List V} {d : PyData} {ds : List PyData} : Da K H v d → DaAll K H vs ds → DaAll K H (v :: vs) (d :: ds)
end
section
variable {K : PySem.W.Frag} {H H' : Hp}
theorem rd_ex {a : Addr} {u : HO} (e : Ex H H') (h : Rd H a u) : Rd H' a u := by
  rcases h with h | ⟨o, h⟩
  · exact Or.inl (e a _ h)
  · exact Or.inr ⟨o, e a _ h⟩
theorem sql_ex {a : Addr} {xs : List V} (e : Ex H H') (h : SqL K H a xs) : SqL K H' a xs := by
  rcases h with h | h
  · exact Or.inl (rd_ex e h)
  · exact Or.inr h
theorem sqt_ex {a : Addr} {xs : List V} (e : Ex H H') (h : SqT K H a xs) : SqT K H' a xs := by
  rcases h with h | h
  · exact Or.inl (rd_ex e h)
  · exact Or.inr h
mutual
theorem dp_ex (e : Ex H H') : ∀ (d : D) (v : V), Da K H v d → Da K H' v d
  | .none, _, h => by cases h; exact .non
  | .bool b, _, h => by cases h; exact .bl b
  | .int i, _, h => by cases h; exact .int i
  | .str x, _, h => by cases h; exact .str x
  | .list ds, _, h => by
    cases h with
    | lst hs ha => exact .lst (e _ _ hs) (dpa_ex e ds _ ha)
  | .tuple ds, _, h => by
    cases h with
    | tup hs ha => exact .tup (sqt_ex e hs) (dpa_ex e ds _ ha)
  | .dict _, _, h => by
    cases h with
    | dic h => exact .dic (e _ _ h)
theorem dpa_ex (e : Ex H H') : ∀ (ds : List D) (vs : List V), DaAll K H vs ds → DaAll K H' vs ds
  | [], _, h => by cases h; exact .nil
  | d :: ds, _, h => by
    cases h with
    | cons h1 h2 => exact .cons (dp_ex e d _ h1) (dpa_ex e ds _ h2)
end
theorem Da.up {v : V} {d : D} (h : Da K H v d) (e : Ex H H') : Da K H' v d := dp_ex e d v h
theorem DaAll.up {vs : List V} {ds : List D} (h : DaAll K H vs ds) (e : Ex H H') : DaAll K H' vs ds := dpa_ex e ds vs h
mutual
theorem da_dp : ∀ (d : D) (v : V), PyData.canLay0 d = true → Da K H v d → Dp K H v d
  | .none, _, _, h => by cases h; exact .non
  | .bool b, _, _, h => by cases h; exact .bl b
  | .int i, _, _, h => by cases h; exact .int i
  | .str x, _, _, h => by cases h; exact .str x
  | .list ds, _, c, h => by
    cases h with
    | lst hs ha => exact .lst (SqL.of hs) (daa_dp ds _ c ha)
  | .tuple ds, _, c, h => by
    cases h with
    | tup hs ha => exact .tup hs (daa_dp ds _ c ha)
  | .dict _, _, c, _ => by cases c
theorem daa_dp : ∀ (ds : List D) (vs : List V), PyData.canLayAll0 ds = true → DaAll K H vs ds → DpAll K H vs ds
  | [], _, _, h => by cases h; exact .nil
  | d :: ds, _, c, h => by
    have c' : (PyData.canLay0 d && PyData.canLayAll0 ds) = true := c
    rw [Bool.and_eq_true] at c'
    cases h with
    | cons h1 h2 => exact .cons (da_dp d _ c'.1 h1) (daa_dp ds _ c'.2 h2)
end
theorem Da.dp {v : V} {d : D} (h : Da K H v d) (c : SeqAt.shaped d = true) : Dp K H v d := da_dp d v (SeqAt.canLay_of_shaped c) h
theorem dpa_len : ∀ {vs : List V} {ds : List D}, DaAll K H vs ds → vs.length = ds.length
  | _, _, .nil => rfl
  | _, _, .cons _ t => congrArg (· + 1) (dpa_len t)
theorem dpa_get : ∀ {vs : List V} {ds : List D} {i : Nat} {d : D}, DaAll K H vs ds → ds[i]? = some d → ∃ v, vs[i]? = some v ∧ Da K H v d
  | _, _, _, _, .nil, h => by simp at h
  | _, _, 0, _, .cons a _, h => by simp at h; subst h; exact ⟨_, rfl, a⟩
  | _, _, i + 1, d, .cons _ t, h => by
    obtain ⟨v, h1, h2⟩ := dpa_get (i := i) (d := d) t (by simpa using h)
    exact ⟨v, by simpa using h1, h2⟩
theorem dpa_get' : ∀ {vs : List V} {ds : List D} {i : Nat} {v : V}, DaAll K H vs ds → vs[i]? = some v → ∃ d, ds[i]? = some d ∧ Da K H v d
  | _, _, _, _, .nil, h => by simp at h
  | _, _, 0, _, .cons a _, h => by simp at h; subst h; exact ⟨_, rfl, a⟩
  | _, _, i + 1, d, .cons _ t, h => by
    obtain ⟨v, h1, h2⟩ := dpa_get' (i := i) t (by simpa using h)
    exact ⟨v, by simpa using h1, h2⟩
theorem dpa_app : ∀ {vs us : List V} {ds es : List D}, DaAll K H vs ds → DaAll K H us es → DaAll K H (vs ++ us) (ds ++ es)
  | _, _, _, _, .nil, h => h
  | _, _, _, _, .cons a t, h => .cons a (dpa_app t h)
theorem dpa_take : ∀ {vs : List V} {ds : List D} (n : Nat), DaAll K H vs ds → DaAll K H (vs.take n) (ds.take n)
  | _, _, 0, _ => .nil
  | _, _, _ + 1, .nil => .nil
  | _, _, n + 1, .cons r t => .cons r (dpa_take n t)
theorem dpa_drop : ∀ {vs : List V} {ds : List D} (n : Nat), DaAll K H vs ds → DaAll K H (vs.drop n) (ds.drop n)
  | _, _, 0, h => h
  | _, _, _ + 1, .nil => .nil
  | _, _, n + 1, .cons _ t => dpa_drop n t
theorem dpa_set : ∀ {vs : List V} {ds : List D} {v : V} {d : D} (n : Nat), DaAll K H vs ds → Da K H v d → DaAll K H (vs.set n v) (ds.set n d)
  | _, _, _, _, _, .nil, _ => .nil
  | _, _, _, _, 0, .cons _ t, h => .cons h t
  | _, _, _, _, n + 1, .cons r t, h => .cons r (dpa_set n t h)
theorem dpa_erase : ∀ {vs : List V} {ds : List D} (n : Nat), DaAll K H vs ds → DaAll K H (vs.eraseIdx n) (ds.eraseIdx n)
  | _, _, _, .nil => .nil
  | _, _, 0, .cons _ t => t
  | _, _, n + 1, .cons r t => .cons r (dpa_erase n t)
theorem dpa_rev : ∀ {vs : List V} {ds : List D}, DaAll K H vs ds → DaAll K H vs.reverse ds.reverse
  | _, _, .nil => .nil
  | _, _, .cons r t => by
    rw [List.reverse_cons, List.reverse_cons]
    exact dpa_app (dpa_rev t) (.cons r .nil)
theorem dpa_ints : ∀ (ns : List Int), DaAll K H (ns.map V.int) (ns.map PyData.int)
  | [] => .nil
  | n :: ns => .cons (.int n) (dpa_ints ns)
theorem dpa_ints_inv : ∀ {vs : List V} (ns : List Int), DaAll K H vs (ns.map PyData.int) → vs = ns.map V.int
  | _, [], h => by cases h; rfl
  | _, n :: ns, h => by
    cases h with
    | cons a t => cases a; rw [dpa_ints_inv ns t]; rfl
theorem dpa_bls_inv : ∀ {vs : List V} (ns : List Bool), DaAll K H vs (ns.map PyData.bool) → vs = ns.map V.bl
  | _, [], h => by cases h; rfl
  | _, n :: ns, h => by
    cases h with
    | cons a t => cases a; rw [dpa_bls_inv ns t]; rfl
end

/-! ### slots -/
inductive Sl where
  /-- data -/
  | imm (d : D)
  /-- a list of one's own, which may change -/
  | own (ds : List D)
  /-- the law's own list of ints, never written -/
  | scr (ns : List Int)
  | un
abbrev En := List Sl
/-- a list that is never written: locked, or of the module -/
def SqS (K : PySem.W.Frag) (H : Hp) (a : Addr) (xs : List V) : Prop := (∃ o, H a = some (.frz o (.lst xs))) ∨ ∀ H', SqL K H' a xs
theorem SqS.l {K : PySem.W.Frag} {H : Hp} {a : Addr} {xs : List V} (h : SqS K H a xs) : SqL K H a xs := by
  rcases h with ⟨o, h⟩ | h
  · exact Or.inl (Or.inr ⟨o, h⟩)
  · exact h H
theorem sqs_ex {K : PySem.W.Frag} {H H' : Hp} {a : Addr} {xs : List V} (e : Ex H H') (h : SqS K H a xs) : SqS K H' a xs := by
  rcases h with ⟨o, h⟩ | h
  · exact Or.inl ⟨o, e _ _ h⟩
  · exact Or.inr h
def SlOk (K : PySem.W.Frag) (I H : Hp) (v : Option (Option V)) : Sl → Prop
  | .un => True
  | .imm d => ∃ x, v = some (some x) ∧ Da K I x d
  | .own ds => ∃ l vs, v = some (some (.ref l)) ∧ I l = none ∧ H l = some (.lst vs) ∧ DaAll K I vs ds
  | .scr ns => ∃ a, v = some (some (.ref a)) ∧ SqS K I a (ns.map V.int)
structure Gh where
  He : Hp
  I0 : Hp
  J : Option Addr
  /-- objects of the code around, which stay as they are -/
  P : List (Addr × HO) := []
/-- slot i holds one's own list at l -/
def OwnAt (σ : Sg) (en : En) (i : Nat) (l : Addr) : Prop := σ[i]? = some (some (V.ref l)) ∧ ∃ ds, en[i]? = some (.own ds)
structure Ok (K : PySem.W.Frag) (G : Gh) (σ : Sg) (en : En) (H I : Hp) : Prop where
  i0 : Ex G.I0 I
  iH : Ex I H
  nw : ∀ a, G.He a ≠ none → G.I0 a = none → I a = none
  fr : ∀ a o, G.He a = some o → G.J ≠ some a → H a = some o
  ln : σ.length = en.length
  sl : ∀ (i : Nat) (s : Sl), en[i]? = some s → SlOk K I H σ[i]? s
  ml : ∀ (i : Nat) (l : Addr), OwnAt σ en i l → G.J = some l ∨ G.He l = none
  ds : ∀ (i j : Nat) (l : Addr), OwnAt σ en i l → OwnAt σ en j l → i = j
  pj : ∀ l, G.J = some l → OwnAt σ en 0 l
  pr : ∀ p ∈ G.P, H p.1 = some p.2 ∧ I p.1 = none ∧ ∀ i, ¬ OwnAt σ en i p.1
section
variable {K : PySem.W.Frag} {G : Gh} {σ : Sg} {en : En} {H I H' I' : Hp}
theorem Ok.own (o : Ok K G σ en H I) {i : Nat} {ds : List D} (h : en[i]? = some (.own ds)) : ∃ l vs, σ[i]? = some (some (.ref l)) ∧ I l = none ∧ H l = some (.lst vs) ∧ DaAll K I vs ds := o.sl i _ h
theorem Ok.imm (o : Ok K G σ en H I) {i : Nat} {d : D} (h : en[i]? = some (.imm d)) : ∃ x, σ[i]? = some (some x) ∧ Da K I x d := o.sl i _ h
/-- the heap grows by what is new -/
theorem Ok.grow (o : Ok K G σ en H I) (e1 : Ex H H') (e2 : Ex I I') (e3 : Ex I' H') (n : ∀ a, I' a ≠ none → I a = none → H a = none) : Ok K G σ en H' I' := by
  refine ⟨o.i0.tr e2, e3, fun a h1 h2 => ?_, fun a u h1 h2 => e1 a u (o.fr a u h1 h2), o.ln, fun i s h => ?_, o.ml, o.ds, o.pj, fun p hp => ?_⟩
  · have h3 := o.nw a h1 h2
    by_cases h4 : I' a = none
    · exact h4
    · have h5 := n a h4 h3
      by_cases hj : G.J = some a
      · obtain ⟨q, ds, q2⟩ := o.pj a hj
        obtain ⟨l, vs, q3, _, q5, _⟩ := o.own q2
        rw [q] at q3
        have q4 : a = l := by injection q3 with q3; injection q3 with q3; injection q3
        rw [q4, q5] at h5
        cases h5
      · cases h6 : G.He a with
        | none => exact absurd h6 h1
        | some u => rw [o.fr a u h6 hj] at h5; cases h5
  · have q := o.sl i s h
    cases s with
    | un => trivial
    | scr ns => obtain ⟨a, q1, q2⟩ := q; exact ⟨a, q1, sqs_ex e2 q2⟩
    | imm d =>
      obtain ⟨x, q1, q2⟩ := q
      exact ⟨x, q1, q2.up e2⟩
    | own ds =>
      obtain ⟨l, vs, q1, q2, q3, q4⟩ := q
      refine ⟨l, vs, q1, ?_, e1 _ _ q3, q4.up e2⟩
      by_cases h4 : I' l = none
      · exact h4
      · have h5 := n l h4 q2
        rw [q3] at h5
        cases h5
  · obtain ⟨q1, q2, q3⟩ := o.pr p hp
    refine ⟨e1 _ _ q1, ?_, q3⟩
    by_cases h4 : I' p.1 = none
    · exact h4
    · have h5 := n p.1 h4 q2
      rw [q1] at h5
      cases h5
/-- one new object, known from now on -/
theorem Ok.new (o : Ok K G σ en H I) {p : Addr} {u : HO} (hp : H p = none) : Ok K G σ en (upd H p u) (upd I p u) ∧ Ex I (upd I p u) := by
  have hi : I p = none := o.iH.no hp
  refine ⟨o.grow (Ex.up hp) (Ex.up hi) (fun a v h => ?_) fun a h1 h2 => ?_, Ex.up hi⟩
  · by_cases e : a = p
    · subst e; rw [upd_same] at h ⊢; exact h
    · rw [upd_ne e] at h ⊢; exact o.iH a v h
  · by_cases e : a = p
    · subst e; exact hp
    · rw [upd_ne e] at h1; exact absurd h2 h1
end

/-! ### readings over data -/
abbrev WE := En → (D → En → Prop) → Prop
abbrev WT := En → (Bool → En → Prop) → Prop
abbrev WA := En → (List D → En → Prop) → Prop
structure Ed where
  nx : En → Prop
  rt : D → En → Prop
  bk : En → Prop := fun _ => False
  ct : En → Prop := fun _ => False
abbrev WS := Ed → En → Prop
section
variable (K : PySem.W.Frag)
def lE (w : WE) : TE := fun σ H Q => ∃ (G : Gh) (en : En) (I : Hp) (Q' : D → En → Prop), Ok K G σ en H I ∧ w en Q' ∧
  ∀ v H' I' en' d, Ok K G σ en' H' I' → Ex I I' → Da K I' v d → Q' d en' → Q v H'
def lT (w : WT) : TT := fun σ H Q => ∃ (G : Gh) (en : En) (I : Hp) (Q' : Bool → En → Prop), Ok K G σ en H I ∧ w en Q' ∧
  ∀ b H' I' en', Ok K G σ en' H' I' → Ex I I' → Q' b en' → Q b H'
def lA (w : WA) : TA := fun σ H Q => ∃ (G : Gh) (en : En) (I : Hp) (Q' : List D → En → Prop), Ok K G σ en H I ∧ w en Q' ∧
  ∀ vs H' I' en' ds, Ok K G σ en' H' I' → Ex I I' → DaAll K I' vs ds → Q' ds en' → Q vs H'
def lS (w : WS) : TS := fun R σ H => ∃ (G : Gh) (en : En) (I : Hp) (R' : Ed), Ok K G σ en H I ∧ w R' en ∧
  (∀ σ' H' I' en', Ok K G σ' en' H' I' → R'.nx en' → R.nx σ' H') ∧
  (∀ v σ' H' I' en' d, Ok K G σ' en' H' I' → Da K I' v d → R'.rt d en' → R.rt v H') ∧
  (∀ σ' H' I' en', Ok K G σ' en' H' I' → R'.bk en' → R.bk σ' H') ∧
  (∀ σ' H' I' en', Ok K G σ' en' H' I' → R'.ct en' → R.ct σ' H')
end
theorem _root_.L2.PE.mo {X : Cx} {e : Expr} {t t' : TE} (h : PE X e t) (m : ∀ σ H Q, t' σ H Q → t σ H Q) : PE X e t' := ⟨fun pins s σ H Q I q => h.run pins s σ H Q I (m σ H Q q)⟩
theorem _root_.L2.PT.mo {X : Cx} {e : Expr} {t t' : TT} (h : PT X e t) (m : ∀ σ H Q, t' σ H Q → t σ H Q) : PT X e t' := ⟨fun pins s σ H Q I q => h.run pins s σ H Q I (m σ H Q q)⟩
theorem _root_.L2.PW.mo {X : Cx} {e : Expr} {t t' : TT} (h : PW X e t) (m : ∀ σ H Q, t' σ H Q → t σ H Q) : PW X e t' := ⟨fun wh pins s σ H Q I q => h.run wh pins s σ H Q I (m σ H Q q)⟩
theorem _root_.L2.PA.mo {X : Cx} {e : List Expr} {t t' : TA} (h : PA X e t) (m : ∀ σ H Q, t' σ H Q → t σ H Q) : PA X e t' := ⟨fun pos pins s σ H Q I q => h.run pos pins s σ H Q I (m σ H Q q)⟩
theorem _root_.L2.PS.mo {X : Cx} {e : Stmt} {t t' : TS} (h : PS X e t) (m : ∀ D σ H, t' D σ H → t D σ H) : PS X e t' := ⟨fun pins s σ H D I q => h.run pins s σ H D I (m D σ H q)⟩
theorem _root_.L2.PSs.mo {X : Cx} {e : List Stmt} {t t' : TS} (h : PSs X e t) (m : ∀ D σ H, t' D σ H → t D σ H) : PSs X e t' := ⟨fun pins s σ H D I q => h.run pins s σ H D I (m D σ H q)⟩
end Pd

set_option Elab.async false
set_option linter.all false
set_option maxRecDepth 100000
set_option maxHeartbeats 4000000
namespace Pd
open PySem PySem.Spec PyProof.Rows L2
/-! ### names, constants -/
def wVar (i : Nat) : WE := fun en Q => ∃ d, en[i]? = some (.imm d) ∧ Q d en
def wC (d : D) : WE := fun en Q => Q d en
section
variable {X : Cx} {e a b c : Expr} {es : List Expr} {pos : Pos} {wa wb wc : WE}
theorem d_var {i : Nat} (h : PE X e (tVar i)) : PE X e (lE X.K (wVar i)) := h.mo fun σ H Q ⟨G, en, I, Q', o, ⟨d, hd, q⟩, k⟩ => by
  obtain ⟨x, h1, h2⟩ := o.imm hd
  exact ⟨x, h1, k x H I en d o (Ex.rf I) h2 q⟩
theorem d_c {v : V} {d : D} (h : PE X e (tC v)) (hd : ∀ H, Da X.K H v d) : PE X e (lE X.K (wC d)) := h.mo fun σ H Q ⟨G, en, I, Q', o, q, k⟩ => k v H I en d o (Ex.rf I) (hd I) q
theorem d_int {i j pos} : PE X (.Constant (.int i) j pos) (lE X.K (wC (.int i))) := d_c pe_int fun _ => .int i
theorem d_bl {b j pos} : PE X (.Constant (.bool b) j pos) (lE X.K (wC (.bool b))) := d_c pe_bl fun _ => .bl b
theorem d_non {j pos} : PE X (.Constant .none j pos) (lE X.K (wC .none)) := d_c pe_non fun _ => .non
theorem d_str {x j pos} : PE X (.Constant (.str x) j pos) (lE X.K (wC (.str x))) := d_c pe_str fun _ => .str x

/-! ### operators -/
/-- what comes of an operation: the heap grown by what is new -/
structure Gr (H I H' I' : Hp) : Prop where
  h : Ex H H'
  i : Ex I I'
  s : Ex I' H'
  n : ∀ a, I' a ≠ none → I a = none → H a = none
theorem Gr.rf {H I : Hp} (e : Ex I H) : Gr H I H I := ⟨Ex.rf _, Ex.rf _, e, fun a h1 h2 => absurd h2 h1⟩
theorem Gr.nw {H I : Hp} {p : Addr} {u : HO} (e : Ex I H) (hp : H p = none) : Gr H I (upd H p u) (upd I p u) := by
  have hi : I p = none := e.no hp
  refine ⟨Ex.up hp, Ex.up hi, fun a v h => ?_, fun a h1 h2 => ?_⟩
  · by_cases q : a = p
    · subst q; rw [upd_same] at h ⊢; exact h
    · rw [upd_ne q] at h ⊢; exact e a v h
  · by_cases q : a = p
    · subst q; exact hp
    · rw [upd_ne q] at h1; exact absurd h2 h1
theorem Ok.gr {K : PySem.W.Frag} {G : Gh} {σ : Sg} {en : En} {H I H' I' : Hp} (o : Ok K G σ en H I) (g : Gr H I H' I') : Ok K G σ en H' I' := o.grow g.h g.i g.s g.n
/-- r does on values what f tells of data -/
def SndOp (K : PySem.W.Frag) (r : R2) (f : D → D → D → Prop) : Prop := ∀ (H I : Hp) (x y : V) (d e z : D), Ex I H → Da K I x d → Da K I y e → f d e z → ∀ Q : VK, (∀ v H' I', Gr H I H' I' → Da K I' v z → Q v H') → r x y H Q
def SndUn (K : PySem.W.Frag) (r : V → Hp → VK → Prop) (f : D → D → Prop) : Prop := ∀ (H I : Hp) (x : V) (d z : D), Ex I H → Da K I x d → f d z → ∀ Q : VK, (∀ v H' I', Gr H I H' I' → Da K I' v z → Q v H') → r x H Q
def SndCl (K : PySem.W.Frag) (r : List V → Hp → VK → Prop) (f : List D → D → Prop) : Prop := ∀ (H I : Hp) (xs : List V) (ds : List D) (z : D), Ex I H → DaAll K I xs ds → f ds z → ∀ Q : VK, (∀ v H' I', Gr H I H' I' → Da K I' v z → Q v H') → r xs H Q
def wOp (f : D → D → D → Prop) (wa wb : WE) : WE := fun en Q => wa en fun x e1 => wb e1 fun y e2 => ∃ z, f x y z ∧ Q z e2
def wUn (f : D → D → Prop) (wa : WE) : WE := fun en Q => wa en fun x e1 => ∃ z, f x z ∧ Q z e1
def wCl (f : List D → D → Prop) (wa : WA) : WE := fun en Q => wa en fun xs e1 => ∃ z, f xs z ∧ Q z e1
theorem lop {r : R2} {f : D → D → D → Prop} (h : SndOp X.K r f) {σ : Sg} {H : Hp} {Q : VK} (q : lE X.K (wOp f wa wb) σ H Q) : tOp r (lE X.K wa) (lE X.K wb) σ H Q := by
  obtain ⟨G, en, I, Q', o, q, k⟩ := q
  refine ⟨G, en, I, _, o, q, fun v H1 I1 e1 d o1 x1 dv q1 => ?_⟩
  refine ⟨G, e1, I1, _, o1, q1, fun u H2 I2 e2 d2 o2 x2 du q2 => ?_⟩
  obtain ⟨z, fz, q2⟩ := q2
  exact h H2 I2 v u d d2 z o2.iH (dv.up x2) du fz Q fun v' H3 I3 g dz => k v' H3 I3 e2 z (o2.gr g) ((x1.tr x2).tr g.i) dz q2
theorem d_op {op : Operator} {r : R2} {f : D → D → D → Prop} (ho : OpR X (binaryOp op) r) (hs : SndOp X.K r f) (ha : PE X a (lE X.K wa)) (hb : PE X b (lE X.K wb)) : PE X (.BinOp a op b pos) (lE X.K (wOp f wa wb)) :=
  (pe_op ho ha hb).mo fun σ H Q q => lop hs q
theorem d_un {op : UnaryOp} {r : V → Hp → VK → Prop} {f : D → D → Prop} (ho : UnR X (unaryOp op) r) (hs : SndUn X.K r f) (ha : PE X a (lE X.K wa)) : PE X (.UnaryOp op a pos) (lE X.K (wUn f wa)) :=
  (pe_un ho ha).mo fun σ H Q ⟨G, en, I, Q', o, q, k⟩ => ⟨G, en, I, _, o, q, fun v H1 I1 e1 d o1 x1 dv ⟨z, fz, q1⟩ => hs H1 I1 v d z o1.iH dv fz Q fun v' H3 I3 g dz => k v' H3 I3 e1 z (o1.gr g) (x1.tr g.i) dz q1⟩
theorem d_cmp {op : CmpOp} {r : R2} {f : D → D → D → Prop} (ho : OpR X (compareOp op) r) (hs : SndOp X.K r f) (ha : PE X a (lE X.K wa)) (hb : PE X b (lE X.K wb)) (hm : behindInMarks op b = false) : PE X (.Compare a [op] [b] pos) (lE X.K (wOp f wa wb)) :=
  (pe_cmpR ho ha hb hm).mo fun σ H Q q => lop hs q
/-! ### tests -/
/-- a bool -/
def wB (w : WE) : WT := fun en Q => w en fun d e1 => ∃ c, d = .bool c ∧ Q c e1
def Tru : D → Bool → Prop
  | .none, k => k = false
  | .bool b, k => k = b
  | .int i, k => k = (i != 0)
  | .str y, k => y.length ≤ sizeLine ∧ k = ((y.length : Int) != 0)
  | .list ds, k => k = !ds.isEmpty
  | .tuple ds, k => k = !ds.isEmpty
  | .dict _, _ => False
def wTr (w : WE) : WT := fun en Q => w en fun d e1 => ∃ c, Tru d c ∧ Q c e1
theorem dp_bl {K : PySem.W.Frag} {I : Hp} {v : V} {c : Bool} (h : Da K I v (.bool c)) : v = .bl c := by cases h; rfl
theorem dp_int {K : PySem.W.Frag} {I : Hp} {v : V} {c : Int} (h : Da K I v (.int c)) : v = .int c := by cases h; rfl
theorem dpa_emp {K : PySem.W.Frag} {I : Hp} {vs : List V} {ds : List D} (h : DaAll K I vs ds) : vs.isEmpty = ds.isEmpty := by cases h <;> rfl
theorem ltst {σ : Sg} {H : Hp} {Q : Bool → Hp → Prop} {w : WE} (q : lT X.K (wB w) σ H Q) : lE X.K w σ H fun x H' => ∃ k, x = .bl k ∧ Q k H' := by
  obtain ⟨G, en, I, Q', o, q, k⟩ := q
  refine ⟨G, en, I, _, o, q, fun v H1 I1 e1 d o1 x1 dv q1 => ?_⟩
  obtain ⟨c, rfl, q1⟩ := q1
  exact ⟨c, dp_bl dv, k c H1 I1 e1 o1 x1 q1⟩
theorem t_cmp {op : CmpOp} {r : R2} {f : D → D → D → Prop} (ho : OpR X (compareOp op) r) (hs : SndOp X.K r f) (ha : PE X a (lE X.K wa)) (hb : PE X b (lE X.K wb)) (hm : behindInMarks op b = false) : PT X (.Compare a [op] [b] pos) (lT X.K (wB (wOp f wa wb))) :=
  (pt_cmpR ho ha hb hm).mo fun σ H Q q => by
    obtain ⟨G, en, I, Q2, o, q2, k⟩ := ltst q
    exact lop hs ⟨G, en, I, Q2, o, q2, k⟩
theorem t_val {w : WE} (h : PE X e (lE X.K w)) (he : ∀ whole, isTrue e X.env whole = (do let v ← whole; standAt e.pos; holding [v] (truthy v)) := by intro _; rfl) : PT X e (lT X.K (wB w)) :=
  (pt_val h he).mo fun σ H Q q => ltst q
theorem t_tru {w : WE} (h : PE X e (lE X.K w)) (he : ∀ whole, isTrue e X.env whole = (do let v ← whole; standAt e.pos; holding [v] (truthy v)) := by intro _; rfl) : PT X e (lT X.K (wTr w)) :=
  (pt_truth h he).mo fun σ H Q ⟨G, en, I, Q', o, q, k⟩ => ⟨G, en, I, _, o, q, fun v H1 I1 e1 d o1 x1 dv ⟨c, hc, q1⟩ => ⟨c, by
    cases dv with
    | non => exact hc
    | bl b => exact hc
    | int i => exact hc
    | dic h => exact hc.elim
    | str x => exact hc
    | lst hs ha =>
      have h2 : c = !_ := hc
      exact Or.inl ⟨_, SqL.of (o1.iH _ _ hs), by rw [dpa_emp ha]; exact h2⟩
    | tup hs ha =>
      have h2 : c = !_ := hc
      exact Or.inr (Or.inl ⟨_, sqt_ex o1.iH hs, by rw [dpa_emp ha]; exact h2⟩), k c H1 I1 e1 o1 x1 q1⟩⟩
def wAnd (t u : WT) : WT := fun en Q => t en fun c e1 => if c = true then u e1 Q else Q false e1
def wOr (t u : WT) : WT := fun en Q => t en fun c e1 => if c = true then Q true e1 else u e1 Q
def wNot (t : WT) : WT := fun en Q => t en fun c e1 => Q (!c) e1
variable {t u : WT} {rest : List Expr}
theorem t_and1 (ha : PT X a (lT X.K t)) : PW X (.BoolOp .And [a] pos) (lT X.K t) := pw_and1 ha
theorem t_or1 (ha : PT X a (lT X.K t)) : PW X (.BoolOp .Or [a] pos) (lT X.K t) := pw_or1 ha
theorem t_and (ha : PT X a (lT X.K t)) (hb : PW X (.BoolOp .And (b :: rest) pos) (lT X.K u)) : PW X (.BoolOp .And (a :: b :: rest) pos) (lT X.K (wAnd t u)) :=
  (pw_and ha hb).mo fun σ H Q ⟨G, en, I, Q', o, q, k⟩ => ⟨G, en, I, _, o, q, fun c H1 I1 e1 o1 x1 q1 => by
    cases c with
    | true => exact ⟨G, e1, I1, Q', o1, q1, fun b H2 I2 e2 o2 x2 q2 => k b H2 I2 e2 o2 (x1.tr x2) q2⟩
    | false => exact k false H1 I1 e1 o1 x1 q1⟩
theorem t_or (ha : PT X a (lT X.K t)) (hb : PW X (.BoolOp .Or (b :: rest) pos) (lT X.K u)) : PW X (.BoolOp .Or (a :: b :: rest) pos) (lT X.K (wOr t u)) :=
  (pw_or ha hb).mo fun σ H Q ⟨G, en, I, Q', o, q, k⟩ => ⟨G, en, I, _, o, q, fun c H1 I1 e1 o1 x1 q1 => by
    cases c with
    | false => exact ⟨G, e1, I1, Q', o1, q1, fun b H2 I2 e2 o2 x2 q2 => k b H2 I2 e2 o2 (x1.tr x2) q2⟩
    | true => exact k true H1 I1 e1 o1 x1 q1⟩
theorem t_not (ha : PT X a (lT X.K t)) : PT X (.UnaryOp .Not a pos) (lT X.K (wNot t)) :=
  (pt_not ha).mo fun σ H Q ⟨G, en, I, Q', o, q, k⟩ => ⟨G, en, I, _, o, q, fun c H1 I1 e1 o1 x1 q1 => k (!c) H1 I1 e1 o1 x1 q1⟩
def wAndV (wa wb : WE) : WE := fun en Q => wa en fun d e1 => ∃ c, d = .bool c ∧ if c = true then wb e1 Q else Q (.bool false) e1
def wOrV (wa wb : WE) : WE := fun en Q => wa en fun d e1 => ∃ c, d = .bool c ∧ if c = true then Q (.bool true) e1 else wb e1 Q
def wNotV (wa : WE) : WE := fun en Q => wa en fun d e1 => ∃ c, d = .bool c ∧ Q (.bool (!c)) e1
theorem d_one {op} (h : PE X a (lE X.K wa)) : PE X (.BoolOp op [a] pos) (lE X.K wa) := pe_one h
theorem d_and (ha : PE X a (lE X.K wa)) (hb : PE X (.BoolOp .And (b :: rest) pos) (lE X.K wb)) : PE X (.BoolOp .And (a :: b :: rest) pos) (lE X.K (wAndV wa wb)) :=
  (pe_and ha hb).mo fun σ H Q ⟨G, en, I, Q', o, q, k⟩ => ⟨G, en, I, _, o, q, fun v H1 I1 e1 d o1 x1 dv ⟨c, hc, q1⟩ => by
    subst hc
    refine ⟨c, dp_bl dv, ?_⟩
    cases c with
    | true => exact ⟨G, e1, I1, Q', o1, q1, fun v H2 I2 e2 d2 o2 x2 dv2 q2 => k v H2 I2 e2 d2 o2 (x1.tr x2) dv2 q2⟩
    | false => exact k (.bl false) H1 I1 e1 _ o1 x1 (.bl false) q1⟩
theorem d_or (ha : PE X a (lE X.K wa)) (hb : PE X (.BoolOp .Or (b :: rest) pos) (lE X.K wb)) : PE X (.BoolOp .Or (a :: b :: rest) pos) (lE X.K (wOrV wa wb)) :=
  (pe_or ha hb).mo fun σ H Q ⟨G, en, I, Q', o, q, k⟩ => ⟨G, en, I, _, o, q, fun v H1 I1 e1 d o1 x1 dv ⟨c, hc, q1⟩ => by
    subst hc
    refine ⟨c, dp_bl dv, ?_⟩
    cases c with
    | false => exact ⟨G, e1, I1, Q', o1, q1, fun v H2 I2 e2 d2 o2 x2 dv2 q2 => k v H2 I2 e2 d2 o2 (x1.tr x2) dv2 q2⟩
    | true => exact k (.bl true) H1 I1 e1 _ o1 x1 (.bl true) q1⟩
theorem d_not (ha : PE X a (lE X.K wa)) : PE X (.UnaryOp .Not a pos) (lE X.K (wNotV wa)) :=
  (pe_not ha).mo fun σ H Q ⟨G, en, I, Q', o, q, k⟩ => ⟨G, en, I, _, o, q, fun v H1 I1 e1 d o1 x1 dv ⟨c, hc, q1⟩ => by
    subst hc
    exact ⟨c, dp_bl dv, k (.bl (!c)) H1 I1 e1 _ o1 x1 (.bl _) q1⟩⟩
def wIf (t : WT) (wa wb : WE) : WE := fun en Q => t en fun c e1 => if c = true then wa e1 Q else wb e1 Q
theorem d_if (hc : PT X c (lT X.K t)) (ha : PE X a (lE X.K wa)) (hb : PE X b (lE X.K wb)) : PE X (.IfExp c a b pos) (lE X.K (wIf t wa wb)) :=
  (pe_ifExp hc ha hb).mo fun σ H Q ⟨G, en, I, Q', o, q, k⟩ => ⟨G, en, I, _, o, q, fun c H1 I1 e1 o1 x1 q1 => by
    cases c with
    | true => exact ⟨G, e1, I1, Q', o1, q1, fun v H2 I2 e2 d2 o2 x2 dv2 q2 => k v H2 I2 e2 d2 o2 (x1.tr x2) dv2 q2⟩
    | false => exact ⟨G, e1, I1, Q', o1, q1, fun v H2 I2 e2 d2 o2 x2 dv2 q2 => k v H2 I2 e2 d2 o2 (x1.tr x2) dv2 q2⟩⟩
/-- a chain of two comparisons -/
def wCh (f g : D → D → D → Prop) (wa wb wc : WE) : WE := fun en Q => wa en fun x e1 => wb e1 fun y e2 => ∃ b, f x y (.bool b) ∧ if b = true then wc e2 fun z e3 => ∃ r, g y z r ∧ Q r e3 else Q (.bool false) e2
/-! ### argument lists, displays -/
def wNil : WA := fun en Q => Q [] en
def wCons (w : WE) (r : WA) : WA := fun en Q => w en fun d e1 => r e1 fun ds e2 => Q (d :: ds) e2
theorem a_nil : PA X [] (lA X.K wNil) := pa_nil.mo fun σ H Q ⟨G, en, I, Q', o, q, k⟩ => k [] H I en [] o (Ex.rf I) .nil q
theorem a_cons {w : WE} {r : WA} (ha : PE X e (lE X.K w)) (hr : PA X es (lA X.K r)) (hs : starEach (e :: es) X.env = (false, eval e X.env) :: starEach es X.env := by rfl) : PA X (e :: es) (lA X.K (wCons w r)) :=
  (pa_cons ha hr hs).mo fun σ H Q ⟨G, en, I, Q', o, q, k⟩ => ⟨G, en, I, _, o, q, fun v H1 I1 e1 d o1 x1 dv q1 => ⟨G, e1, I1, _, o1, q1, fun vs H2 I2 e2 ds o2 x2 dvs q2 => k (v :: vs) H2 I2 e2 (d :: ds) o2 (x1.tr x2) (.cons (dv.up x2) dvs) q2⟩⟩
def wTup (w : WA) : WE := fun en Q => w en fun ds e1 => ds.length ≤ sizeLine ∧ Q (.tuple ds) e1
theorem d_tup {x1} {w : WA} (h : PA X es (lA X.K w)) : PE X (.Tuple es x1 pos) (lE X.K (wTup w)) :=
  (pe_tup h).mo fun σ H Q ⟨G, en, I, Q', o, q, k⟩ => ⟨G, en, I, _, o, q, fun vs H1 I1 e1 ds o1 x1 dvs ⟨hl, q1⟩ => ⟨by rw [dpa_len dvs]; exact hl, fun p hp => by
    obtain ⟨o2, x2⟩ := o1.new (u := .tup vs) hp
    exact k (.ref p) _ _ e1 _ o2 (x1.tr x2) (.tup (SqT.of upd_same) (dvs.up x2)) q1⟩⟩
/-- a list of one's own: new, its items known -/
def lL (K : PySem.W.Frag) (w : WA) : TE := fun σ H Q => ∃ (G : Gh) (en : En) (I : Hp) (Q' : List D → En → Prop), Ok K G σ en H I ∧ w en Q' ∧
  ∀ p vs H' I' en' ds, Ok K G σ en' H' I' → Ex I I' → H' p = none → DaAll K I' vs ds → Q' ds en' → Q (.ref p) (upd H' p (.lst vs))
def wLe (w : WA) : WE := fun en Q => w en fun ds e1 => Q (.list ds) e1
theorem d_lL {w : WA} (h : PE X e (lL X.K w)) : PE X e (lE X.K (wLe w)) := h.mo fun σ H Q ⟨G, en, I, Q', o, q, k⟩ => ⟨G, en, I, _, o, q, fun p vs H1 I1 e1 ds o1 x1 hp dvs q1 => by
  obtain ⟨o2, x2⟩ := o1.new (u := .lst vs) hp
  exact k (.ref p) _ _ e1 _ o2 (x1.tr x2) (.lst upd_same (dvs.up x2)) q1⟩
def wSz (w : WA) : WA := fun en Q => w en fun ds e1 => ds.length ≤ sizeLine ∧ Q ds e1
theorem l_lst {w : WA} (h : PA X es (lA X.K w)) : PE X (.List es pos) (lL X.K (wSz w)) :=
  (pe_lst h).mo fun σ H Q ⟨G, en, I, Q', o, q, k⟩ => ⟨G, en, I, _, o, q, fun vs H1 I1 e1 ds o1 x1 dvs ⟨hl, q1⟩ => ⟨by rw [dpa_len dvs]; exact hl, fun p hp => k p vs H1 I1 e1 ds o1 x1 hp dvs q1⟩⟩
theorem d_lst {w : WA} (h : PA X es (lA X.K w)) : PE X (.List es pos) (lE X.K (wLe (wSz w))) := d_lL (l_lst h)
/-- a call of a built-in by values -/
theorem lcl {r : List V → Hp → VK → Prop} {f : List D → D → Prop} {w : WA} (hs : SndCl X.K r f) {σ : Sg} {H : Hp} {Q : VK} (q : lE X.K (wCl f w) σ H Q) : tCB r (lA X.K w) σ H Q := by
  obtain ⟨G, en, I, Q', o, q, k⟩ := q
  exact ⟨G, en, I, _, o, q, fun vs H1 I1 e1 ds o1 x1 dvs ⟨z, fz, q1⟩ => hs H1 I1 vs ds z o1.iH dvs fz Q fun v' H3 I3 g dz => k v' H3 I3 e1 z (o1.gr g) (x1.tr g.i) dz q1⟩
end
end Pd

set_option Elab.async false
set_option linter.all false
set_option maxRecDepth 100000
set_option maxHeartbeats 4000000
namespace Pd
open PySem PySem.Spec PyProof.Rows L2
/-! ### what a def promises over data -/
abbrev WF := List D → (D → Prop) → Prop
abbrev WJ := List D → List D → (D → List D → Prop) → Prop
def spP (K : PySem.W.Frag) (n : Nat) (wf : WF) : Sp := fun vs H Q _ => ∃ (I : Hp) (ds : List D) (Q' : D → Prop), Ex I H ∧ DaAll K I vs ds ∧ ds.length = n ∧ wf ds Q' ∧
  ∀ v H' I' d, Gr H I H' I' → Da K I' v d → Q' d → Q v H'
def spJ (K : PySem.W.Frag) (n : Nat) (wf : WJ) : Sp := fun vs H Q _ => ∃ (j : Addr) (vj : List V) (dj : List D) (us : List V) (ds : List D) (I : Hp) (Q' : D → List D → Prop),
  vs = .ref j :: us ∧ I j = none ∧ H j = some (.lst vj) ∧ DaAll K I vj dj ∧ Ex I H ∧ DaAll K I us ds ∧ ds.length + 1 = n ∧ wf dj ds Q' ∧
  ∀ v H' I' d vj' dj', (∀ a o, a ≠ j → H a = some o → H' a = some o) → Ex I I' → Ex I' H' → (∀ a, I' a ≠ none → I a = none → H a = none) → H' j = some (.lst vj') → DaAll K I' vj' dj' → Da K I' v d → Q' d dj' → Q v H'
section
variable {K : PySem.W.Frag} {G : Gh} {σ : Sg} {en : En} {H I H' I' : Hp}
theorem set_get {α : Type} {l : List α} {i j : Nat} {x y : α} (h : (l.set i x)[j]? = some y) : (i = j ∧ y = x) ∨ (i ≠ j ∧ l[j]? = some y) := by
  by_cases e : i = j
  · subst e
    rw [List.getElem?_set] at h
    simp only [if_true] at h
    split at h
    · injection h with h; exact Or.inl ⟨rfl, h.symm⟩
    · cases h
  · rw [List.getElem?_set_ne e] at h
    exact Or.inr ⟨e, h⟩
/-- one's own list at slot i has turned -/
theorem Ok.turn (o : Ok K G σ en H I) {i : Nat} {l : Addr} {vs : List V} {ds : List D} (hi : OwnAt σ en i l) (k : ∀ a u, a ≠ l → H a = some u → H' a = some u) (e2 : Ex I I') (e3 : Ex I' H') (n : ∀ a, I' a ≠ none → I a = none → H a = none)
    (hl : H' l = some (.lst vs)) (hd : DaAll K I' vs ds) : Ok K G σ (en.set i (.own ds)) H' I' := by
  obtain ⟨h1, ds0, h2⟩ := hi
  have hi : OwnAt σ en i l := ⟨h1, ds0, h2⟩
  have Hl : ∃ u, H l = some u := by
    obtain ⟨l', vs', q1, q2, q3, q4⟩ := o.own h2
    rw [h1] at q1
    have q5 : l = l' := by injection q1 with q1; injection q1 with q1; injection q1
    rw [q5]; exact ⟨_, q3⟩
  have Il : I l = none := by
    obtain ⟨l', vs', q1, q2, q3, q4⟩ := o.own h2
    rw [h1] at q1
    have q5 : l = l' := by injection q1 with q1; injection q1 with q1; injection q1
    rw [q5]; exact q2
  have nIl : ∀ b u, H b = some u → I b = none → I' b = none := fun b u hb ib => by
    by_cases h4 : I' b = none
    · exact h4
    · have h5 := n b h4 ib
      rw [hb] at h5; cases h5
  have own' : ∀ j b, OwnAt σ (en.set i (.own ds)) j b → OwnAt σ en j b := fun j b ⟨q1, es, q2⟩ => by
    rcases set_get q2 with ⟨e, _⟩ | ⟨_, q3⟩
    · subst e; exact ⟨q1, ds0, h2⟩
    · exact ⟨q1, es, q3⟩
  refine ⟨o.i0.tr e2, e3, fun a q1 q2 => ?_, fun a u q1 q2 => ?_, by rw [List.length_set]; exact o.ln, fun j s q => ?_, fun j b q => o.ml j b (own' j b q), fun a b c q1 q2 => o.ds a b c (own' a c q1) (own' b c q2), fun b q => ?_, fun p hp => ?_⟩
  · have q3 := o.nw a q1 q2
    cases q4 : G.He a with
    | none => exact absurd q4 q1
    | some u =>
      by_cases hj : G.J = some a
      · obtain ⟨r1, es, r2⟩ := o.pj a hj
        obtain ⟨l', vs', r3, r4, r5, r6⟩ := o.own r2
        rw [r1] at r3
        have q5 : a = l' := by injection r3 with r3; injection r3 with r3; injection r3
        rw [← q5] at r5
        exact nIl a _ r5 q3
      · exact nIl a u (o.fr a u q4 hj) q3
  · have q3 := o.fr a u q1 q2
    refine k a u (fun e => ?_) q3
    subst e
    rcases o.ml i a hi with r | r
    · exact q2 r
    · rw [q1] at r; cases r
  · rcases set_get q with ⟨e, q2⟩ | ⟨ne, q2⟩
    · subst e q2
      exact ⟨l, vs, h1, nIl l _ Hl.choose_spec Il, hl, hd⟩
    · have r := o.sl j s q2
      cases s with
      | un => trivial
      | scr ns => obtain ⟨a, q1, q2⟩ := r; exact ⟨a, q1, sqs_ex e2 q2⟩
      | imm d =>
        obtain ⟨x, r1, r2⟩ := r
        exact ⟨x, r1, r2.up e2⟩
      | own es =>
        obtain ⟨l', vs', r1, r2, r3, r4⟩ := r
        refine ⟨l', vs', r1, nIl l' _ r3 r2, k l' _ (fun e => ?_) r3, r4.up e2⟩
        subst e
        exact ne (o.ds i j l' hi ⟨r1, es, q2⟩)
  · obtain ⟨r1, es, r2⟩ := o.pj b q
    refine ⟨r1, ?_⟩
    by_cases e : i = 0
    · subst e
      refine ⟨ds, ?_⟩
      rw [List.getElem?_set, if_pos rfl]
      have : 0 < en.length := (List.getElem?_eq_some_iff.mp r2).1
      simp [this]
    · exact ⟨es, by rw [List.getElem?_set_ne e]; exact r2⟩
  · obtain ⟨q1, q2, q3⟩ := o.pr p hp
    exact ⟨k _ _ (fun e => q3 i (by rw [e]; exact hi)) q1, nIl _ _ q1 q2, fun j q => q3 j (own' j _ q)⟩
/-- slot i gets data (it is not the one that the caller handed in) -/
theorem Ok.put (o : Ok K G σ en H I) {i : Nat} {v : V} {d : D} (hd : Da K I v d) (hi : i ≠ 0 ∨ ∀ ds, en[i]? ≠ some (.own ds)) : Ok K G (σ.set i (some v)) (en.set i (.imm d)) H I := by
  have own' : ∀ j b, OwnAt (σ.set i (some v)) (en.set i (.imm d)) j b → OwnAt σ en j b := fun j b ⟨q1, es, q2⟩ => by
    rcases set_get q2 with ⟨e, q⟩ | ⟨ne, q3⟩
    · cases q
    · rw [List.getElem?_set_ne ne] at q1
      exact ⟨q1, es, q3⟩
  refine ⟨o.i0, o.iH, o.nw, o.fr, by rw [List.length_set, List.length_set]; exact o.ln, fun j s q => ?_, fun j b q => o.ml j b (own' j b q), fun a b c q1 q2 => o.ds a b c (own' a c q1) (own' b c q2), fun b q => ?_, fun p hp => ⟨(o.pr p hp).1, (o.pr p hp).2.1, fun j q => (o.pr p hp).2.2 j (own' j _ q)⟩⟩
  · rcases set_get q with ⟨e, q2⟩ | ⟨ne, q2⟩
    · subst e q2
      refine ⟨v, ?_, hd⟩
      rw [List.getElem?_set, if_pos rfl]
      have : i < (en.set i (.imm d)).length := (List.getElem?_eq_some_iff.mp q).1
      rw [List.length_set] at this
      simp [o.ln, this]
    · rw [List.getElem?_set_ne ne]
      exact o.sl j s q2
  · obtain ⟨r1, es, r2⟩ := o.pj b q
    by_cases e : i = 0
    · subst e
      rcases hi with hi | hi
      · exact absurd rfl hi
      · exact absurd r2 (hi es)
    · exact ⟨by rw [List.getElem?_set_ne e]; exact r1, es, by rw [List.getElem?_set_ne e]; exact r2⟩
/-- slot i gets a new list of its own -/
theorem Ok.putOwn (o : Ok K G σ en H I) {i : Nat} {p : Addr} {vs : List V} {ds : List D} (hp : H p = none) (hd : DaAll K I vs ds) (hi : i ≠ 0) : Ok K G (σ.set i (some (.ref p))) (en.set i (.own ds)) (upd H p (.lst vs)) I := by
  have ip : I p = none := o.iH.no hp
  have hep : G.He p = none := by
    cases q : G.He p with
    | none => rfl
    | some u =>
      by_cases hj : G.J = some p
      · obtain ⟨r1, es, r2⟩ := o.pj p hj
        obtain ⟨l', vs', r3, r4, r5, r6⟩ := o.own r2
        rw [r1] at r3
        have q5 : p = l' := by injection r3 with r3; injection r3 with r3; injection r3
        rw [← q5, hp] at r5; cases r5
      · rw [o.fr p u q hj] at hp; cases hp
  have np : ∀ j, ¬ OwnAt σ en j p := fun j ⟨q1, es, q2⟩ => by
    obtain ⟨l', vs', r3, r4, r5, r6⟩ := o.own q2
    rw [q1] at r3
    have q5 : p = l' := by injection r3 with r3; injection r3 with r3; injection r3
    rw [← q5, hp] at r5; cases r5
  have own' : ∀ j b, OwnAt (σ.set i (some (.ref p))) (en.set i (.own ds)) j b → (i = j ∧ b = p) ∨ (i ≠ j ∧ OwnAt σ en j b) := fun j b ⟨q1, es, q2⟩ => by
    rcases set_get q1 with ⟨e, q⟩ | ⟨ne, q3⟩
    · injection q with q; injection q with q; exact Or.inl ⟨e, q⟩
    · rw [List.getElem?_set_ne ne] at q2
      exact Or.inr ⟨ne, q3, es, q2⟩
  refine ⟨o.i0, fun a u h => ?_, o.nw, fun a u h1 h2 => ?_, by rw [List.length_set, List.length_set]; exact o.ln, fun j s q => ?_, fun j b q => ?_, fun a b c q1 q2 => ?_, fun b q => ?_, fun p' hp' => ?_⟩
  · rw [upd_ne (ne_of_none h ip)]; exact o.iH a u h
  · have h3 := o.fr a u h1 h2
    rw [upd_ne (ne_of_none h3 hp)]; exact h3
  · rcases set_get q with ⟨e, q2⟩ | ⟨ne, q2⟩
    · subst e q2
      refine ⟨p, vs, ?_, ip, upd_same, hd⟩
      rw [List.getElem?_set, if_pos rfl]
      have : i < (en.set i (.own ds)).length := (List.getElem?_eq_some_iff.mp q).1
      rw [List.length_set] at this
      simp [o.ln, this]
    · rw [List.getElem?_set_ne ne]
      have r := o.sl j s q2
      cases s with
      | un => trivial
      | scr ns => exact r
      | imm d => exact r
      | own es =>
        obtain ⟨l', vs', r1, r2, r3, r4⟩ := r
        exact ⟨l', vs', r1, r2, by rw [upd_ne (ne_of_none r3 hp)]; exact r3, r4⟩
  · rcases own' j b q with ⟨_, e⟩ | ⟨_, q⟩
    · subst e; exact Or.inr hep
    · exact o.ml j b q
  · rcases own' a c q1 with ⟨e1, e2⟩ | ⟨e1, z1⟩
    · rcases own' b c q2 with ⟨e3, e4⟩ | ⟨e3, z2⟩
      · exact e1.symm.trans e3
      · exact absurd (e2 ▸ z2) (np b)
    · rcases own' b c q2 with ⟨e3, e4⟩ | ⟨e3, z2⟩
      · exact absurd (e4 ▸ z1) (np a)
      · exact o.ds a b c z1 z2
  · obtain ⟨r1, es, r2⟩ := o.pj b q
    exact ⟨by rw [List.getElem?_set_ne hi]; exact r1, es, by rw [List.getElem?_set_ne hi]; exact r2⟩
  · obtain ⟨q1, q2, q3⟩ := o.pr p' hp'
    refine ⟨by rw [upd_ne (ne_of_none q1 hp)]; exact q1, q2, fun j q => ?_⟩
    rcases own' j _ q with ⟨_, e⟩ | ⟨_, q⟩
    · rw [e, hp] at q1; cases q1
    · exact q3 j q
/-- slot i forgotten -/
theorem Ok.forget (o : Ok K G σ en H I) {i : Nat} {v : Option V} (hi : i ≠ 0 ∨ ∀ ds, en[i]? ≠ some (.own ds)) : Ok K G (σ.set i v) (en.set i .un) H I := by
  have own' : ∀ j b, OwnAt (σ.set i v) (en.set i .un) j b → OwnAt σ en j b := fun j b ⟨q1, es, q2⟩ => by
    rcases set_get q2 with ⟨e, q⟩ | ⟨ne, q3⟩
    · cases q
    · rw [List.getElem?_set_ne ne] at q1
      exact ⟨q1, es, q3⟩
  refine ⟨o.i0, o.iH, o.nw, o.fr, by rw [List.length_set, List.length_set]; exact o.ln, fun j s q => ?_, fun j b q => o.ml j b (own' j b q), fun a b c q1 q2 => o.ds a b c (own' a c q1) (own' b c q2), fun b q => ?_, fun p hp => ⟨(o.pr p hp).1, (o.pr p hp).2.1, fun j q => (o.pr p hp).2.2 j (own' j _ q)⟩⟩
  · rcases set_get q with ⟨e, q2⟩ | ⟨ne, q2⟩
    · subst e q2; trivial
    · rw [List.getElem?_set_ne ne]
      exact o.sl j s q2
  · obtain ⟨r1, es, r2⟩ := o.pj b q
    by_cases e : i = 0
    · subst e
      rcases hi with hi | hi
      · exact absurd rfl hi
      · exact absurd r2 (hi es)
    · exact ⟨by rw [List.getElem?_set_ne e]; exact r1, es, by rw [List.getElem?_set_ne e]; exact r2⟩
/-- a new object, protected from now on -/
theorem Ok.prot (o : Ok K G σ en H I) {p : Addr} {u : HO} (hp : H p = none) : Ok K { G with P := (p, u) :: G.P } σ en (upd H p u) I := by
  have ip : I p = none := o.iH.no hp
  have np : ∀ j, ¬ OwnAt σ en j p := fun j ⟨q1, es, q2⟩ => by
    obtain ⟨l', vs', r3, r4, r5, r6⟩ := o.own q2
    rw [q1] at r3
    have q5 : p = l' := by injection r3 with r3; injection r3 with r3; injection r3
    rw [← q5, hp] at r5; cases r5
  refine ⟨o.i0, fun a v h => by rw [upd_ne (ne_of_none h ip)]; exact o.iH a v h, o.nw, fun a v h1 h2 => ?_, o.ln, fun j s q => ?_, o.ml, o.ds, o.pj, fun q hq => ?_⟩
  · have h3 := o.fr a v h1 h2
    rw [upd_ne (ne_of_none h3 hp)]; exact h3
  · have r := o.sl j s q
    cases s with
    | un => trivial
    | scr ns => exact r
    | imm d => exact r
    | own es =>
      obtain ⟨l', vs', r1, r2, r3, r4⟩ := r
      exact ⟨l', vs', r1, r2, by rw [upd_ne (ne_of_none r3 hp)]; exact r3, r4⟩
  · rcases List.mem_cons.mp hq with e | hq
    · subst e; exact ⟨upd_same, ip, np⟩
    · obtain ⟨q1, q2, q3⟩ := o.pr q hq
      exact ⟨by rw [upd_ne (ne_of_none q1 hp)]; exact q1, q2, q3⟩
/-- the protected object is written by the code around -/
theorem Ok.rewr {P : List (Addr × HO)} {p : Addr} {u w : HO} (o : Ok K { G with P := (p, u) :: P } σ en H I) (hj : G.J ≠ some p) (he : G.He p = none) (hP : ∀ q ∈ P, q.1 ≠ p) : Ok K { G with P := (p, w) :: P } σ en (upd H p w) I := by
  obtain ⟨h1, h2, h3⟩ := o.pr (p, u) List.mem_cons_self
  refine ⟨o.i0, fun a v h => ?_, o.nw, fun a v h1 h2 => ?_, o.ln, fun j s q => ?_, o.ml, o.ds, o.pj, fun q hq => ?_⟩
  · have : a ≠ p := fun e => by subst e; rw [h2] at h; cases h
    rw [upd_ne this]; exact o.iH a v h
  · have : a ≠ p := fun e => by subst e; rw [he] at h1; cases h1
    rw [upd_ne this]; exact o.fr a v h1 h2
  · have r := o.sl j s q
    cases s with
    | un => trivial
    | scr ns => exact r
    | imm d => exact r
    | own es =>
      obtain ⟨l', vs', r1, r2, r3, r4⟩ := r
      have : l' ≠ p := fun e => by subst e; exact h3 j ⟨r1, es, q⟩
      exact ⟨l', vs', r1, r2, by rw [upd_ne this]; exact r3, r4⟩
  · rcases List.mem_cons.mp hq with e | hq
    · subst e; exact ⟨upd_same, h2, h3⟩
    · obtain ⟨q1, q2, q3⟩ := o.pr q (List.mem_cons_of_mem _ hq)
      exact ⟨by rw [upd_ne (hP q hq)]; exact q1, q2, q3⟩
theorem Ok.unprot {P : List (Addr × HO)} {p : Addr × HO} (o : Ok K { G with P := p :: P } σ en H I) : Ok K { G with P := P } σ en H I :=
  ⟨o.i0, o.iH, o.nw, o.fr, o.ln, o.sl, o.ml, o.ds, o.pj, fun q hq => o.pr q (List.mem_cons_of_mem _ hq)⟩
end
end Pd

set_option Elab.async false
set_option linter.all false
set_option maxRecDepth 100000
set_option maxHeartbeats 4000000
namespace Pd
open PySem PySem.Spec PyProof.Rows L2
/-! ### calls -/
def wFn (n : Nat) (wf : WF) (w : WA) : WE := fun en Q => w en fun ds e1 => ds.length = n ∧ wf ds fun d => Q d e1
def wFnJ (i n : Nat) (wf : WJ) (w : WA) : WE := fun en Q => (∃ dj, en[i]? = some (.own dj)) ∧ w en fun ds e1 => ds.length + 1 = n ∧ ∃ dj, e1[i]? = some (.own dj) ∧ wf dj ds fun d dj' => Q d (e1.set i (.own dj'))
section
variable {X : Cx} {e : Expr} {es : List Expr} {pos p : Pos} {x : Str} {k n : Nat} {f : Addr} {fd : FuncData} {ps : List Str}
theorem d_call {wf : WF} {w : WA} (F : FnOk X.prog X.w X.K X.mg X.base CX0 k f fd ps (spP X.K n wf)) (hr : Room k X.A) (hm : X.mg x = some (.ref f)) (hk : PySem.W.keepIn X.K (.ref f) = true) (hb : Binds X.K fd ps []) (ha : PA X (e :: es) (lA X.K w)) (hg : Gl X x := by rfl)
    (hdb : (x == ("__debug__" : Str)) = false := by decide) (he : starEach (e :: es) X.env = (false, eval e X.env) :: starEach es X.env := by rfl) (hpl : (backTo pos (starEach es X.env)).any (·.1) = false := by rfl) :
    PE X (.Call (.Name x p) (e :: es) [] pos) (lE X.K (wFn n wf w)) :=
  (pe_call F hr hg hm hk hb .nil pass0 ha hdb he hpl).mo fun σ H Q ⟨G, en, I, Q', o, q, k⟩ => ⟨G, en, I, _, o, q, fun vs H1 I1 e1 ds o1 x1 dvs ⟨hn, q1⟩ => by
    refine ⟨I1, ds, _, o1.iH, by rw [List.append_nil]; exact dvs, hn, q1, fun v H2 I2 d g dv q2 => ?_⟩
    exact k v H2 I2 e1 d (o1.gr g) (x1.tr g.i) dv q2⟩
theorem d_call0 {wf : WF} (F : FnOk X.prog X.w X.K X.mg X.base CX0 k f fd ps (spP X.K 0 wf)) (hr : Room k X.A) (hm : X.mg x = some (.ref f)) (hk : PySem.W.keepIn X.K (.ref f) = true) (hb : Binds X.K fd ps []) (hg : Gl X x := by rfl)
    (hdb : (x == ("__debug__" : Str)) = false := by decide) :
    PE X (.Call (.Name x p) [] [] pos) (lE X.K (wFn 0 wf wNil)) :=
  (pe_call0 F hr hg hm hk hb .nil pass0 hdb).mo fun σ H Q ⟨G, en, I, Q', o, ⟨hn, q⟩, k⟩ => by
    refine ⟨I, [], _, o.iH, .nil, hn, q, fun v H2 I2 d g dv q2 => ?_⟩
    exact k v H2 I2 en d (o.gr g) g.i dv q2
theorem d_callJ {wf : WJ} {w : WA} {i : Nat} (F : FnOk X.prog X.w X.K X.mg X.base CX0 k f fd ps (spJ X.K n wf)) (hr : Room k X.A) (hm : X.mg x = some (.ref f)) (hk : PySem.W.keepIn X.K (.ref f) = true) (hb : Binds X.K fd ps []) (h0 : PE X e (tVar i)) (ha : PA X es (lA X.K w)) (hg : Gl X x := by rfl)
    (hdb : (x == ("__debug__" : Str)) = false := by decide) (he : starEach (e :: es) X.env = (false, eval e X.env) :: starEach es X.env := by rfl) (hpl : (backTo pos (starEach es X.env)).any (·.1) = false := by rfl) :
    PE X (.Call (.Name x p) (e :: es) [] pos) (lE X.K (wFnJ i n wf w)) :=
  (pe_call F hr hg hm hk hb .nil pass0 (pa_cons h0 ha he) hdb he hpl).mo fun σ H Q ⟨G, en, I, Q', o, ⟨⟨dj0, hj0⟩, q⟩, k⟩ => by
    -- the slot's list is read ahead of the other arguments; it stands at its address behind them
    have key : ∀ (j : Addr), σ[i]? = some (some (.ref j)) → lA X.K w σ H fun vs H1 => spJ X.K n wf ((V.ref j :: vs) ++ []) H1 Q E0 := fun j hj => by
      refine ⟨G, en, I, _, o, q, fun vs H1 I1 e1 ds o1 x1 dvs ⟨hn, dj, hd, q1⟩ => ?_⟩
      obtain ⟨l, vj, r1, r2, r3, r4⟩ := o1.own hd
      rw [hj] at r1
      have q5 : j = l := by injection r1 with r1; injection r1 with r1; injection r1
      subst q5
      refine ⟨j, vj, dj, vs, ds, I1, _, by rw [List.append_nil], r2, r3, r4, o1.iH, dvs, hn, q1, fun v H2 I2 d vj' dj' k1 k2 k3 k4 k5 k6 k7 k8 => ?_⟩
      exact k v H2 I2 _ d (o1.turn ⟨hj, dj, hd⟩ k1 k2 k3 k4 k5 k6) (x1.tr k2) k7 k8
    obtain ⟨j, _, hj, _⟩ := o.own hj0
    exact ⟨.ref j, hj, key j hj⟩
theorem d_cb {id : String} {r : List V → Hp → VK → Prop} {g : List D → D → Prop} {w : WA} (hc : CallR X (.builtin id) r) (hs : SndCl X.K r g) (hm : X.mg x = none) (hv : bootBuiltins x = some (.builtin id)) (ha : PA X (e :: es) (lA X.K w)) (hg : Gl X x := by rfl)
    (hn : x ≠ "__name__" := by decide) (hdb : (x == ("__debug__" : Str)) = false := by decide)
    (he : starEach (e :: es) X.env = (false, eval e X.env) :: starEach es X.env := by rfl) (hpl : (backTo pos (starEach es X.env)).any (·.1) = false := by rfl) : PE X (.Call (.Name x p) (e :: es) [] pos) (lE X.K (wCl g w)) :=
  (pe_callB hc hg hm hv ha hn hdb he hpl).mo fun σ H Q q => lcl hs q
theorem d_cty {T : String} {r : List V → Hp → VK → Prop} {g : List D → D → Prop} {w : WA} (hc : CallR X (.type T) r) (hs : SndCl X.K r g) (hm : X.mg x = none) (hv : bootBuiltins x = some (.type T)) (ha : PA X (e :: es) (lA X.K w)) (hg : Gl X x := by rfl)
    (hn : x ≠ "__name__" := by decide) (hdb : (x == ("__debug__" : Str)) = false := by decide)
    (he : starEach (e :: es) X.env = (false, eval e X.env) :: starEach es X.env := by rfl) (hpl : (backTo pos (starEach es X.env)).any (·.1) = false := by rfl) : PE X (.Call (.Name x p) (e :: es) [] pos) (lE X.K (wCl g w)) :=
  (pe_callTy hc hg hm hv ha hn hdb he hpl).mo fun σ H Q q => lcl hs q
end
/-! ### statements -/
def KS (K : PySem.W.Frag) (G : Gh) (R' : Ed) (R : Ends) : Prop :=
  (∀ σ' H' I' en', Ok K G σ' en' H' I' → R'.nx en' → R.nx σ' H') ∧
  (∀ v σ' H' I' en' d, Ok K G σ' en' H' I' → Da K I' v d → R'.rt d en' → R.rt v H') ∧
  (∀ σ' H' I' en', Ok K G σ' en' H' I' → R'.bk en' → R.bk σ' H') ∧
  (∀ σ' H' I' en', Ok K G σ' en' H' I' → R'.ct en' → R.ct σ' H')
theorem lS_mk {K : PySem.W.Frag} {w : WS} {R : Ends} {σ : Sg} {H : Hp} {G : Gh} {en : En} {I : Hp} {R' : Ed} (o : Ok K G σ en H I) (q : w R' en) (k : KS K G R' R) : lS K w R σ H := ⟨G, en, I, R', o, q, k⟩
def wNext : WS := fun R en => R.nx en
def wSeq (t u : WS) : WS := fun R en => t { R with nx := u R } en
def wRet (w : WE) : WS := fun R en => w en R.rt
def wRetN : WS := fun R en => R.rt .none en
def wDrop (w : WE) : WS := fun R en => w en fun _ e1 => R.nx e1
def wIfS (t : WT) (u v : WS) : WS := fun R en => t en fun c e1 => if c = true then u R e1 else v R e1
def NotOwn : Option Sl → Prop
  | some (.own _) => False
  | _ => True
theorem notOwn_ne {s : Option Sl} (h : NotOwn s) : ∀ ds, s ≠ some (.own ds) := fun ds e => by subst e; exact h
def wSet (i : Nat) (w : WE) : WS := fun R en => w en fun d e1 => (i ≠ 0 ∨ NotOwn e1[i]?) ∧ R.nx (e1.set i (.imm d))
def wSetOwn (i : Nat) (w : WA) : WS := fun R en => w en fun ds e1 => i ≠ 0 ∧ R.nx (e1.set i (.own ds))
def wNever : WS := fun _ _ => False
section
variable {X : Cx} {e : Expr} {st : Stmt} {sts rest : List Stmt} {pos : Pos} {t u v : WS} {w : WE} {x : Str} {i : Nat}
theorem s_nil : PSs X [] (lS X.K wNext) := pss_nil.mo fun R σ H ⟨G, en, I, R', o, q, k⟩ => k.1 σ H I en o q
theorem s_cons (h1 : PS X st (lS X.K t)) (h2 : PSs X rest (lS X.K u)) : PSs X (st :: rest) (lS X.K (wSeq t u)) :=
  (pss_cons h1 h2).mo fun R σ H ⟨G, en, I, R', o, q, k⟩ => ⟨G, en, I, _, o, q, fun σ1 H1 I1 e1 o1 q1 => lS_mk o1 q1 k, k.2.1, k.2.2.1, k.2.2.2⟩
theorem s_one (h1 : PS X st (lS X.K t)) : PSs X [st] (lS X.K t) := pss_one h1
theorem s_pass : PS X (.Pass pos) (lS X.K wNext) := ps_pass.mo fun R σ H ⟨G, en, I, R', o, q, k⟩ => k.1 σ H I en o q
def wBrk : WS := fun R en => R.bk en
def wCnt : WS := fun R en => R.ct en
theorem s_break : PS X (.Break pos) (lS X.K wBrk) := ps_break.mo fun R σ H ⟨G, en, I, R', o, q, k⟩ => k.2.2.1 σ H I en o q
theorem s_cont : PS X (.Continue pos) (lS X.K wCnt) := ps_continue.mo fun R σ H ⟨G, en, I, R', o, q, k⟩ => k.2.2.2 σ H I en o q
theorem s_ret (h : PE X e (lE X.K w)) : PS X (.Return (some e) pos) (lS X.K (wRet w)) :=
  (ps_ret h).mo fun R σ H ⟨G, en, I, R', o, q, k⟩ => ⟨G, en, I, _, o, q, fun v H1 I1 e1 d o1 x1 dv q1 => k.2.1 v σ H1 I1 e1 d o1 dv q1⟩
theorem s_retN : PS X (.Return none pos) (lS X.K wRetN) := ps_retN.mo fun R σ H ⟨G, en, I, R', o, q, k⟩ => k.2.1 .non σ H I en .none o .non q
theorem s_expr (h : PE X e (lE X.K w)) (hs : swapsWith e none pos.line X.env = pure false := by rfl) : PS X (.Expr e pos) (lS X.K (wDrop w)) :=
  (ps_expr h hs).mo fun R σ H ⟨G, en, I, R', o, q, k⟩ => ⟨G, en, I, _, o, q, fun v H1 I1 e1 d o1 x1 dv q1 => k.1 σ H1 I1 e1 o1 q1⟩
theorem s_if {c : Expr} {a b : List Stmt} {tc : WT} (hc : PT X c (lT X.K tc)) (ha : PSs X a (lS X.K t)) (hb : PSs X b (lS X.K u)) : PS X (.If c a b pos) (lS X.K (wIfS tc t u)) :=
  (ps_if hc ha hb).mo fun R σ H ⟨G, en, I, R', o, q, k⟩ => ⟨G, en, I, _, o, q, fun c H1 I1 e1 o1 x1 q1 => by
    cases c with
    | true => exact lS_mk o1 q1 k
    | false => exact lS_mk o1 q1 k⟩
theorem s_never : PS X st (lS X.K wNever) := ps_never.mo fun R σ H ⟨G, en, I, R', o, q, k⟩ => q.elim
theorem ss_never : PSs X sts (lS X.K wNever) := pss_never.mo fun R σ H ⟨G, en, I, R', o, q, k⟩ => q.elim
theorem s_set {pos' : Pos} (hN : X.N.Nodup) (hi : X.N[i]? = some x) (hx : Loc X.env.scope x) (he : PE X e (lE X.K w)) (hs : swapsWith e (some (.Name x pos')) pos.line X.env = pure false := by rfl) (hf : X.fn x = true ∨ X.env.scope.names.lookup x = some .local := by first | exact .inl rfl | exact .inr rfl | assumption) :
    PS X (.Assign [.Name x pos'] e pos) (lS X.K (wSet i w)) :=
  (ps_set hN hi hx he hs hf).mo fun R σ H ⟨G, en, I, R', o, q, k⟩ => ⟨G, en, I, _, o, q, fun v H1 I1 e1 d o1 x1 dv ⟨hi, q1⟩ => k.1 _ H1 I1 _ (o1.put dv (hi.imp id notOwn_ne)) q1⟩
theorem s_setOwn {pos' : Pos} {w : WA} (hN : X.N.Nodup) (hi : X.N[i]? = some x) (hx : Loc X.env.scope x) (he : PE X e (lL X.K w)) (hs : swapsWith e (some (.Name x pos')) pos.line X.env = pure false := by rfl) (hf : X.fn x = true ∨ X.env.scope.names.lookup x = some .local := by first | exact .inl rfl | exact .inr rfl | assumption) :
    PS X (.Assign [.Name x pos'] e pos) (lS X.K (wSetOwn i w)) :=
  (ps_set hN hi hx he hs hf).mo fun R σ H ⟨G, en, I, R', o, q, k⟩ => ⟨G, en, I, _, o, q, fun p vs H1 I1 e1 ds o1 x1 hp dvs ⟨hi, q1⟩ => k.1 _ _ I1 _ (o1.putOwn hp dvs hi) q1⟩
/-- an augmented assignment to a name -/
def wAug (i : Nat) (f : D → D → D → Prop) (w : WE) : WS := fun R en => (∃ d0, en[i]? = some (.imm d0)) ∧ w en fun y e1 => ∃ d, e1[i]? = some (.imm d) ∧ (∀ d0, en[i]? = some (.imm d0) → d0 = d) ∧ ∃ z, f d y z ∧ R.nx (e1.set i (.imm z))
theorem s_aug {op : Operator} {r : R2} {f : D → D → D → Prop} {pos' : Pos} (hN : X.N.Nodup) (hi : X.N[i]? = some x) (hx : Loc X.env.scope x) (he : PE X e (lE X.K w)) (ho : PIp X op r) (hs : SndOp X.K r f) (hf : X.fn x = true ∨ X.env.scope.names.lookup x = some .local := by first | exact .inl rfl | exact .inr rfl | assumption) :
    PS X (.AugAssign (.Name x pos') op e pos) (lS X.K (wAug i f w)) :=
  (ps_aug hN hi hx he ho hf).mo fun R σ H ⟨G, en, I, R', o, ⟨⟨d0, h0⟩, q⟩, k⟩ => by
    obtain ⟨v0, hv, dv0⟩ := o.imm h0
    refine ⟨v0, hv, G, en, I, _, o, q, fun v H1 I1 e1 y o1 x1 dv ⟨d, hd, hdd, z, fz, q1⟩ => ?_⟩
    have e0 : d0 = d := hdd d0 h0
    subst e0
    refine hs H1 I1 v0 v d0 y z o1.iH (dv0.up x1) dv fz _ fun v' H3 I3 g dz => ?_
    exact k.1 _ H3 I3 _ ((o1.gr g).put dz (Or.inr fun ds h => by rw [hd] at h; cases h)) q1
end
end Pd

set_option Elab.async false
set_option linter.all false
set_option maxRecDepth 100000
set_option maxHeartbeats 4000000
namespace Pd
open PySem PySem.Spec PyProof.Rows L2
theorem or_op {X : Cx} {f : Value → Value → Sem Value} {r1 r2 : R2} (h1 : OpR X f r1) (h2 : OpR X f r2) : OpR X f (fun x y H Q => r1 x y H Q ∨ r2 x y H Q) := fun pins s σ H x y v u Q I rx ry h => by
  rcases h with h | h
  · exact h1 pins s σ H x y v u Q I rx ry h
  · exact h2 pins s σ H x y v u Q I rx ry h
theorem fin_tup {K : PySem.W.Frag} {H I : Hp} {p : Addr} {vs : List V} {ds : List D} {Q : VK} (iH : Ex I H) (hp : H p = none) (a : DaAll K I vs ds) (k : ∀ v H' I', Gr H I H' I' → Da K I' v (.tuple ds) → Q v H') : Q (.ref p) (upd H p (.tup vs)) :=
  k _ _ _ (Gr.nw (u := .tup vs) iH hp) (.tup (SqT.of upd_same) (a.up (Gr.nw (u := .tup vs) iH hp).i))
theorem fin_lst {K : PySem.W.Frag} {H I : Hp} {p : Addr} {vs : List V} {ds : List D} {Q : VK} (iH : Ex I H) (hp : H p = none) (a : DaAll K I vs ds) (k : ∀ v H' I', Gr H I H' I' → Da K I' v (.list ds) → Q v H') : Q (.ref p) (upd H p (.lst vs)) :=
  k _ _ _ (Gr.nw (u := .lst vs) iH hp) (.lst upd_same (a.up (Gr.nw (u := .lst vs) iH hp).i))
section
variable {K : PySem.W.Frag} {X : Cx}
/-! ### + -/
def dAdd : D → D → D → Prop
  | .int i, .int j, z => z = .int (i + j)
  | .tuple xs, .tuple ys, z => xs.length + ys.length ≤ sizeLine ∧ z = .tuple (xs ++ ys)
  | .list xs, .list ys, z => xs.length + ys.length ≤ sizeLine ∧ z = .list (xs ++ ys)
  | .str a, .str b, z => a.length + b.length ≤ sizeLine ∧ z = .str (a ++ b)
  | _, _, _ => False
def rAddS : R2 := fun x y H Q => ∃ i j, x = .str i ∧ y = .str j ∧ i.length + j.length ≤ sizeLine ∧ Q (.str (i ++ j)) H
def rAddD (K : PySem.W.Frag) : R2 := fun x y H Q => (rI0 fun i j => .int (i + j)) x y H Q ∨ (rCatA K x y H Q ∨ (rCat x y H Q ∨ rAddS x y H Q))
theorem op_addD : OpR X (binaryOp .Add) (rAddD X.K) := or_op op_add (or_op op_catA (or_op op_cat op_add_str))
theorem snd_add : SndOp K (rAddD K) dAdd := by
  intro H I x y d e z iH hx hy hf Q k
  unfold dAdd at hf
  split at hf
  · subst hf; cases hx; cases hy
    exact Or.inl ⟨_, _, rfl, rfl, k _ H I (Gr.rf iH) (.int _)⟩
  · rename_i xs ys
    obtain ⟨hl, rfl⟩ := hf
    cases hx with
    | tup h1 a1 =>
      cases hy with
      | tup h2 a2 =>
        refine Or.inr (Or.inl ⟨_, _, _, _, rfl, rfl, sqt_ex iH h1, sqt_ex iH h2, by rw [dpa_len a1, dpa_len a2]; exact hl, fun q => ?_, fun _ q => ?_, fun _ _ p hp => ?_⟩)
        · subst q; cases a1
          exact k _ H I (Gr.rf iH) (.tup h2 a2)
        · subst q; cases a2
          exact k _ H I (Gr.rf iH) (by rw [List.append_nil]; exact .tup h1 a1)
        · exact fin_tup iH hp (dpa_app a1 a2) k
  · rename_i xs ys
    obtain ⟨hl, rfl⟩ := hf
    cases hx with
    | lst h1 a1 =>
      cases hy with
      | lst h2 a2 =>
        refine Or.inr (Or.inr (Or.inl ⟨_, _, _, _, rfl, rfl, iH _ _ h1, iH _ _ h2, by rw [dpa_len a1, dpa_len a2]; exact hl, fun p hp => ?_⟩))
        exact fin_lst iH hp (dpa_app a1 a2) k
  · obtain ⟨hl, rfl⟩ := hf
    cases hx; cases hy
    exact Or.inr (Or.inr (Or.inr ⟨_, _, rfl, rfl, hl, k _ H I (Gr.rf iH) (.str _)⟩))
  · exact hf.elim
/-! ### ints -/
def dInt (C : Int → Int → Prop) (g : Int → Int → D) : D → D → D → Prop := fun x y z => ∃ i j, x = .int i ∧ y = .int j ∧ C i j ∧ z = g i j
theorem snd_int {C : Int → Int → Prop} {g : Int → Int → Int} : SndOp K (rI C fun i j => .int (g i j)) (dInt C fun i j => .int (g i j)) := by
  rintro H I x y d e z iH hx hy ⟨i, j, rfl, rfl, hc, rfl⟩ Q k
  cases hx; cases hy
  exact ⟨i, j, rfl, rfl, hc, k _ H I (Gr.rf iH) (.int _)⟩
theorem snd_int0 {g : Int → Int → Int} : SndOp K (rI0 fun i j => .int (g i j)) (dInt (fun _ _ => True) fun i j => .int (g i j)) := by
  rintro H I x y d e z iH hx hy ⟨i, j, rfl, rfl, hc, rfl⟩ Q k
  cases hx; cases hy
  exact ⟨i, j, rfl, rfl, k _ H I (Gr.rf iH) (.int _)⟩
def dSub : D → D → D → Prop := dInt (fun _ _ => True) fun i j => .int (i - j)
theorem snd_sub : SndOp K (rI0 fun i j => .int (i - j)) dSub := snd_int0
/-- two factors, one of them small, or together below a million bits -/
def MulOk (i j : Int) : Prop := CMul i j ∨ CMulW i j
def dMulI : D → D → D → Prop := dInt MulOk fun i j => .int (i * j)
def dMul : D → D → D → Prop := fun x y z => dMulI x y z ∨ (∃ xs k, x = .tuple xs ∧ y = .int k ∧ xs ≠ [] ∧ 2 ≤ k ∧ k ≤ 1000 ∧ xs.length ≤ 1000 ∧ z = .tuple (List.replicate k.toNat xs).flatten) ∨
  (∃ xs k, x = .list xs ∧ y = .int k ∧ -(2 ^ 63) ≤ k ∧ k < 2 ^ 63 ∧ xs.length * k.toNat ≤ sizeLine ∧ z = .list (List.replicate k.toNat xs).flatten)
theorem op_mulA : OpR X (binaryOp .Mult) (rI MulOk fun i j => .int (i * j)) := fun pins s σ H x y v u Q I rx ry h => by
  obtain ⟨i, j, e1, e2, hc, q⟩ := h
  rcases hc with hc | hc
  · exact op_mul pins s σ H x y v u Q I rx ry ⟨i, j, e1, e2, hc, q⟩
  · exact op_mulW pins s σ H x y v u Q I rx ry ⟨i, j, e1, e2, hc, q⟩
def rMulD (K : PySem.W.Frag) : R2 := fun x y H Q => (rI MulOk fun i j => .int (i * j)) x y H Q ∨ (rRepT K x y H Q ∨ rRep x y H Q)
theorem op_mulD : OpR X (binaryOp .Mult) (rMulD X.K) := or_op op_mulA (or_op op_repT op_rep)
theorem dpa_rep {I : Hp} {vs : List V} {ds : List D} (h : DaAll K I vs ds) : ∀ n : Nat, DaAll K I (List.replicate n vs).flatten (List.replicate n ds).flatten
  | 0 => .nil
  | n + 1 => by
    rw [List.replicate_succ, List.replicate_succ, List.flatten_cons, List.flatten_cons]
    exact dpa_app h (dpa_rep h n)
theorem snd_mul : SndOp K (rMulD K) dMul := by
  rintro H I x y d e z iH hx hy hf Q k
  rcases hf with ⟨i, j, rfl, rfl, hc, rfl⟩ | ⟨xs, m, rfl, rfl, h1, h2, h3, h4, rfl⟩ | ⟨xs, m, rfl, rfl, h1, h2, h3, rfl⟩
  · cases hx; cases hy
    exact Or.inl ⟨i, j, rfl, rfl, hc, k _ H I (Gr.rf iH) (.int _)⟩
  · cases hy
    cases hx with
    | tup q1 a1 =>
      refine Or.inr (Or.inl ⟨_, m, _, rfl, rfl, sqt_ex iH q1, fun e => ?_, h2, h3, by rw [dpa_len a1]; exact h4, fun p hp => ?_⟩)
      · subst e; cases a1; exact h1 rfl
      · exact fin_tup iH hp (dpa_rep a1 _) k
  · cases hy
    cases hx with
    | lst q1 a1 =>
      refine Or.inr (Or.inr ⟨_, m, _, rfl, rfl, iH _ _ q1, h1, h2, by rw [dpa_len a1]; exact h3, fun p hp => ?_⟩)
      exact fin_lst iH hp (dpa_rep a1 _) k
/-- // by a positive divisor below 2 ^ 9000 -/
def dFdiv : D → D → D → Prop := dInt CDivW fun i j => .int (i / j)
theorem snd_fdiv : SndOp K (rI CDivW fun i j => .int (i / j)) dFdiv := snd_int
def dMod : D → D → D → Prop := dInt (fun _ j => 0 < j) fun i j => .int (i % j)
theorem snd_mod : SndOp K (rI (fun _ j => 0 < j) fun i j => .int (i % j)) dMod := snd_int
def PowOk (i j : Int) : Prop := 0 ≤ j ∧ (Builtin.Int.intBits i : Int) * j ≤ 2 ^ 27
theorem op_powW : OpR X (binaryOp .Pow) (rI PowOk fun i j => .int (i ^ j.toNat)) := opI fun _ _ _ _ _ _ _ hc q => pow_int hc.1 hc.2 q
def dPow : D → D → D → Prop := dInt PowOk fun i j => .int (i ^ j.toNat)
theorem snd_pow : SndOp K (rI PowOk fun i j => .int (i ^ j.toNat)) dPow := snd_int
def dNeg : D → D → Prop := fun x z => ∃ i, x = .int i ∧ z = .int (-i)
theorem snd_neg : SndUn K (rU fun i => .int (-i)) dNeg := by
  rintro H I x d z iH hx ⟨i, rfl, rfl⟩ Q k
  cases hx
  exact ⟨i, rfl, k _ H I (Gr.rf iH) (.int _)⟩
/-! ### comparisons -/
def dEq : D → D → D → Prop := fun x y z => SeqAt.shaped x = true ∧ SeqAt.shaped y = true ∧ z = .bool (PyData.eqv x y)
def dNe : D → D → D → Prop := fun x y z => SeqAt.shaped x = true ∧ SeqAt.shaped y = true ∧ z = .bool (!PyData.eqv x y)
theorem snd_eq : SndOp K (rEqD K) dEq := by
  rintro H I x y d e z iH hx hy ⟨h1, h2, rfl⟩ Q k
  exact ⟨d, e, (hx.up iH).dp h1, (hy.up iH).dp h2, h1, h2, k _ H I (Gr.rf iH) (.bl _)⟩
theorem snd_ne : SndOp K (rNeD K) dNe := by
  rintro H I x y d e z iH hx hy ⟨h1, h2, rfl⟩ Q k
  exact ⟨d, e, (hx.up iH).dp h1, (hy.up iH).dp h2, h1, h2, k _ H I (Gr.rf iH) (.bl _)⟩
def dBoo (g : Int → Int → Bool) : D → D → D → Prop := fun x y z => ∃ i j, x = .int i ∧ y = .int j ∧ z = .bool (g i j)
theorem snd_boo {g : Int → Int → Bool} : SndOp K (rI0 fun i j => .bl (g i j)) (dBoo g) := by
  rintro H I x y d e z iH hx hy ⟨i, j, rfl, rfl, rfl⟩ Q k
  cases hx; cases hy
  exact ⟨i, j, rfl, rfl, k _ H I (Gr.rf iH) (.bl _)⟩
def dLe : D → D → D → Prop := dBoo fun i j => decide (i ≤ j)
def dGt : D → D → D → Prop := dBoo fun i j => decide (j < i)
def dGe : D → D → D → Prop := dBoo fun i j => decide (j ≤ i)
def dLtI : D → D → D → Prop := dBoo fun i j => decide (i < j)
def dLt : D → D → D → Prop := fun x y z => dLtI x y z ∨ ∃ ns ms : List Int, x = .tuple (ns.map .int) ∧ y = .tuple (ms.map .int) ∧ z = .bool (HT.lexLt ns ms)
def rLtD (K : PySem.W.Frag) : R2 := fun x y H Q => (rI0 fun i j => .bl (decide (i < j))) x y H Q ∨ rLtT K x y H Q
theorem op_ltD (hu : X.A.units < cLine) : OpR X (compareOp .Lt) (rLtD X.K) := or_op op_lt (op_ltT hu)
theorem snd_lt : SndOp K (rLtD K) dLt := by
  rintro H I x y d e z iH hx hy hf Q k
  rcases hf with hf | ⟨ns, ms, rfl, rfl, rfl⟩
  · exact Or.inl (snd_boo H I x y d e z iH hx hy hf Q k)
  · cases hx with
    | tup h1 a1 =>
      cases hy with
      | tup h2 a2 =>
        have e1 := dpa_ints_inv ns a1
        have e2 := dpa_ints_inv ms a2
        subst e1 e2
        exact Or.inr ⟨_, _, ns, ms, rfl, rfl, sqt_ex iH h1, sqt_ex iH h2, k _ H I (Gr.rf iH) (.bl _)⟩
theorem snd_le : SndOp K (rI0 fun i j => .bl (decide (i ≤ j))) dLe := snd_boo
theorem snd_gt : SndOp K (rI0 fun i j => .bl (decide (j < i))) dGt := snd_boo
theorem snd_ge : SndOp K (rI0 fun i j => .bl (decide (j ≤ i))) dGe := snd_boo
/-- is None -/
def rIsN : R2 := fun x y H Q => y = .non ∧ Q (.bl (decide (x = .non))) H
def rNotN : R2 := fun x y H Q => y = .non ∧ Q (.bl (!decide (x = .non))) H
def isNone : D → Bool
  | .none => true
  | _ => false
def dIsN : D → D → D → Prop := fun x y z => y = .none ∧ z = .bool (isNone x)
def dNotN : D → D → D → Prop := fun x y z => y = .none ∧ z = .bool (!isNone x)
theorem isN_eq {I : Hp} {v : V} {d : D} (h : Da K I v d) : decide (v = .non) = isNone d := by
  cases h <;> simp [isNone]
theorem snd_isN : SndOp K rIsN dIsN := by
  rintro H I x y d e z iH hx hy ⟨rfl, rfl⟩ Q k
  cases hy
  exact ⟨rfl, k _ H I (Gr.rf iH) (by rw [isN_eq hx]; exact .bl _)⟩
theorem snd_notN : SndOp K rNotN dNotN := by
  rintro H I x y d e z iH hx hy ⟨rfl, rfl⟩ Q k
  cases hy
  exact ⟨rfl, k _ H I (Gr.rf iH) (by rw [isN_eq hx]; exact .bl _)⟩
/-! ### chains -/
variable {a b c : Expr} {pos : Pos} {wa wb wc : WE} {r r' : R2} {f g : D → D → D → Prop} {op op' : CmpOp}
theorem lch (hs : SndOp X.K r f) (hs' : SndOp X.K r' g) {σ : Sg} {H : Hp} {Q : VK} (q : lE X.K (wCh f g wa wb wc) σ H Q) : tChain r r' (lE X.K wa) (lE X.K wb) (lE X.K wc) σ H Q := by
  obtain ⟨G, en, I, Q', o, q, k⟩ := q
  refine ⟨G, en, I, _, o, q, fun v H1 I1 e1 d o1 x1 dv q1 => ⟨G, e1, I1, _, o1, q1, fun u H2 I2 e2 d2 o2 x2 du ⟨bb, fz, q2⟩ => ?_⟩⟩
  refine hs H2 I2 v u d d2 (.bool bb) o2.iH (dv.up x2) du fz _ fun v' H3 I3 gg dz => ?_
  refine ⟨bb, dp_bl dz, ?_⟩
  have o3 := o2.gr gg
  cases bb with
  | true =>
    refine ⟨G, e2, I3, _, o3, q2, fun t H4 I4 e4 d4 o4 x4 dt ⟨z, gz, q4⟩ => ?_⟩
    exact hs' H4 I4 u t d2 d4 z o4.iH ((du.up gg.i).up x4) dt gz Q fun v5 H5 I5 g5 d5 => k v5 H5 I5 e4 z (o4.gr g5) ((((x1.tr x2).tr gg.i).tr x4).tr g5.i) d5 q4
  | false => exact k (.bl false) H3 I3 e2 (.bool false) o3 ((x1.tr x2).tr gg.i) (.bl false) q2
theorem d_ch (ho : OpR X (compareOp op) r) (hs : SndOp X.K r f) (ho' : OpR X (compareOp op') r') (hs' : SndOp X.K r' g) (ha : PE X a (lE X.K wa)) (hb : PE X b (lE X.K wb)) (hc : PE X c (lE X.K wc))
    (hm : lastMarks [op, op'] [b, c] = false := by with_unfolding_all rfl) : PE X (.Compare a [op, op'] [b, c] pos) (lE X.K (wCh f g wa wb wc)) := (pe_chain ho ho' ha hb hc hm).mo fun σ H Q q => lch hs hs' q
theorem t_ch (ho : OpR X (compareOp op) r) (hs : SndOp X.K r f) (ho' : OpR X (compareOp op') r') (hs' : SndOp X.K r' g) (ha : PE X a (lE X.K wa)) (hb : PE X b (lE X.K wb)) (hc : PE X c (lE X.K wc))
    (hm : lastMarks [op, op'] [b, c] = false := by with_unfolding_all rfl) : PT X (.Compare a [op, op'] [b, c] pos) (lT X.K (wB (wCh f g wa wb wc))) := (pt_chain ho ho' ha hb hc hm).mo fun σ H Q q => by
  obtain ⟨G, en, I, Q2, o, q2, k⟩ := ltst q
  exact lch hs hs' ⟨G, en, I, Q2, o, q2, k⟩
/-! ### built-ins -/
def dLen : List D → D → Prop
  | [.list xs], z => z = .int xs.length
  | [.tuple xs], z => z = .int xs.length
  | [.str x], z => x.length ≤ sizeLine ∧ z = .int x.length
  | _, _ => False
def rLenD (K : PySem.W.Frag) : List V → Hp → VK → Prop := fun xs H Q => ∃ x n, xs = [x] ∧ LenV K x H n ∧ Q (.int n) H
theorem snd_len : SndCl K (rLenD K) dLen := by
  intro H I xs ds z iH hx hf Q k
  unfold dLen at hf
  split at hf
  · subst hf
    cases hx with
    | cons h t =>
      cases t; cases h with
      | lst h a => exact ⟨_, _, rfl, Or.inl ⟨_, SqL.of (iH _ _ h), (dpa_len a).symm⟩, k _ H I (Gr.rf iH) (.int _)⟩
  · subst hf
    cases hx with
    | cons h t =>
      cases t; cases h with
      | tup h a => exact ⟨_, _, rfl, Or.inr ⟨_, sqt_ex iH h, (dpa_len a).symm⟩, k _ H I (Gr.rf iH) (.int _)⟩
  · obtain ⟨hl, rfl⟩ := hf
    cases hx with
    | cons h t =>
      cases t; cases h
      exact ⟨_, _, rfl, ⟨hl, rfl⟩, k _ H I (Gr.rf iH) (.int _)⟩
  · exact hf.elim
def dIntOf : List D → D → Prop
  | [.int i], z => z = .int i
  | [.bool b], z => z = .int (if b then 1 else 0)
  | _, _ => False
def rIntD : List V → Hp → VK → Prop := fun xs H Q => (∃ i, xs = [.int i] ∧ Q (.int i) H) ∨ ∃ k, xs = [.bl k] ∧ Q (.int (if k then 1 else 0)) H
theorem snd_intOf : SndCl K rIntD dIntOf := by
  intro H I xs ds z iH hx hf Q k
  unfold dIntOf at hf
  split at hf
  · subst hf; cases hx with
    | cons h t => cases t; cases h; exact Or.inl ⟨_, rfl, k _ H I (Gr.rf iH) (.int _)⟩
  · subst hf; cases hx with
    | cons h t => cases t; cases h; exact Or.inr ⟨_, rfl, k _ H I (Gr.rf iH) (.int _)⟩
  · exact hf.elim
def dAbs : List D → D → Prop := fun xs z => ∃ i, xs = [.int i] ∧ z = .int (if i < 0 then -i else i)
theorem snd_abs : SndCl K (fun xs H Q => ∃ i, xs = [.int i] ∧ Q (.int (if i < 0 then -i else i)) H) dAbs := by
  rintro H I xs ds z iH hx ⟨i, rfl, rfl⟩ Q k
  cases hx with
  | cons h t => cases t; cases h; exact ⟨_, rfl, k _ H I (Gr.rf iH) (.int _)⟩
def dMax2 : List D → D → Prop := fun xs z => ∃ i j, xs = [.int i, .int j] ∧ z = .int (if j > i then j else i)
def dMin2 : List D → D → Prop := fun xs z => ∃ i j, xs = [.int i, .int j] ∧ z = .int (if j < i then j else i)
theorem snd_max2 : SndCl K (fun xs H Q => ∃ i j, xs = [.int i, .int j] ∧ Q (.int (if j > i then j else i)) H) dMax2 := by
  rintro H I xs ds z iH hx ⟨i, j, rfl, rfl⟩ Q k
  cases hx with
  | cons h t => cases t with
    | cons h2 t => cases t; cases h; cases h2; exact ⟨_, _, rfl, k _ H I (Gr.rf iH) (.int _)⟩
theorem snd_min2 : SndCl K (fun xs H Q => ∃ i j, xs = [.int i, .int j] ∧ Q (.int (if j < i then j else i)) H) dMin2 := by
  rintro H I xs ds z iH hx ⟨i, j, rfl, rfl⟩ Q k
  cases hx with
  | cons h t => cases t with
    | cons h2 t => cases t; cases h; cases h2; exact ⟨_, _, rfl, k _ H I (Gr.rf iH) (.int _)⟩
def dSum : List D → D → Prop := fun xs z => ∃ ns : List Int, xs = [.list (ns.map .int)] ∧ z = .int ns.sum
theorem snd_sum : SndCl K (rSum K) dSum := by
  rintro H I xs ds z iH hx ⟨ns, rfl, rfl⟩ Q k
  cases hx with
  | cons h t => cases t; cases h with
    | lst h a =>
      have e := dpa_ints_inv ns a
      subst e
      exact ⟨_, ns, rfl, SqL.of (iH _ _ h), k _ H I (Gr.rf iH) (.int _)⟩
def dAll : List D → D → Prop := fun xs z => ∃ bs : List Bool, xs = [.list (bs.map .bool)] ∧ z = .bool (bs.all id)
def dAny : List D → D → Prop := fun xs z => ∃ bs : List Bool, xs = [.list (bs.map .bool)] ∧ z = .bool (bs.any id)
theorem snd_all : SndCl K (rAll K) dAll := by
  rintro H I xs ds z iH hx ⟨ns, rfl, rfl⟩ Q k
  cases hx with
  | cons h t => cases t; cases h with
    | lst h a =>
      have e := dpa_bls_inv ns a
      subst e
      exact ⟨_, ns, rfl, SqL.of (iH _ _ h), k _ H I (Gr.rf iH) (.bl _)⟩
theorem snd_any : SndCl K (rAny K) dAny := by
  rintro H I xs ds z iH hx ⟨ns, rfl, rfl⟩ Q k
  cases hx with
  | cons h t => cases t; cases h with
    | lst h a =>
      have e := dpa_bls_inv ns a
      subst e
      exact ⟨_, ns, rfl, SqL.of (iH _ _ h), k _ H I (Gr.rf iH) (.bl _)⟩
def dTupOf : List D → D → Prop
  | [.list xs], z => z = .tuple xs
  | [.tuple xs], z => z = .tuple xs
  | _, _ => False
def rTupD (K : PySem.W.Frag) : List V → Hp → VK → Prop := fun xs H Q => ∃ p ys, xs = [.ref p] ∧ ((SqL K H p ys ∧ ∀ l, H l = none → Q (.ref l) (upd H l (.tup ys))) ∨ (SqT K H p ys ∧ Q (.ref p) H))
theorem snd_tupOf : SndCl K (rTupD K) dTupOf := by
  intro H I xs ds z iH hx hf Q k
  unfold dTupOf at hf
  split at hf
  · subst hf; cases hx with
    | cons h t => cases t; cases h with
      | lst h a => exact ⟨_, _, rfl, Or.inl ⟨SqL.of (iH _ _ h), fun l hl => fin_tup iH hl a k⟩⟩
  · subst hf; cases hx with
    | cons h t => cases t; cases h with
      | tup h a => exact ⟨_, _, rfl, Or.inr ⟨sqt_ex iH h, k _ H I (Gr.rf iH) (.tup h a)⟩⟩
  · exact hf.elim
def dListOf : List D → List D → Prop
  | [.list xs], z => z = xs
  | [.tuple xs], z => z = xs
  | _, _ => False
/-- isinstance: x of the type T -/
def tyName : D → String
  | .none => "NoneType"
  | .bool _ => "bool"
  | .int _ => "int"
  | .str _ => "str"
  | .list _ => "list"
  | .tuple _ => "tuple"
  | .dict _ => "dict"
def rGcdD : List V → Hp → VK → Prop := rGcd
def dGcd : List D → D → Prop := fun xs z => ∃ i j : Int, xs = [.int i, .int j] ∧ z = .int ((Nat.gcd i.natAbs j.natAbs : Nat) : Int)
theorem snd_gcd : SndCl K rGcd dGcd := by
  rintro H I xs ds z iH hx ⟨i, j, rfl, rfl⟩ Q k
  cases hx with
  | cons h t => cases t with
    | cons h2 t => cases t; cases h; cases h2; exact ⟨_, _, rfl, k _ H I (Gr.rf iH) (.int _)⟩
end
end Pd

set_option Elab.async false
set_option linter.all false
set_option maxRecDepth 100000
set_option maxHeartbeats 4000000
namespace Pd
open PySem PySem.Spec PyProof.Rows L2
section
variable {K : PySem.W.Frag} {X : Cx} {a b c e : Expr} {es : List Expr} {pos p p2 : Pos} {x : Str} {wa wb wc : WE}
/-! ### subscripts -/
theorem dpa_at {I : Hp} {vs : List V} {ds : List D} {i : Int} {z : D} (h : DaAll K I vs ds) (hz : atI ds i = some z) : ∃ v, atI vs i = some v ∧ Da K I v z := by
  unfold atI at hz ⊢
  rw [dpa_len h]
  cases q : ixN ds.length i with
  | none => rw [q] at hz; cases hz
  | some j =>
    rw [q] at hz
    exact dpa_get h hz
def dIx : D → D → D → Prop
  | .list xs, .int i, z => atI xs i = some z
  | .tuple xs, .int i, z => atI xs i = some z
  | _, _, _ => False
theorem snd_ix : SndOp K (rIx K) dIx := by
  intro H I x y d e z iH hx hy hf Q k
  unfold dIx at hf
  split at hf
  · cases hy
    cases hx with
    | lst h a =>
      obtain ⟨v, h1, h2⟩ := dpa_at a hf
      exact Or.inl ⟨_, _, _, v, rfl, rfl, SqL.of (iH _ _ h), h1, k v H I (Gr.rf iH) h2⟩
  · cases hy
    cases hx with
    | tup h a =>
      obtain ⟨v, h1, h2⟩ := dpa_at a hf
      exact Or.inr (Or.inl ⟨_, _, _, v, rfl, rfl, sqt_ex iH h, h1, k v H I (Gr.rf iH) h2⟩)
  · exact hf.elim
theorem d_ix (ha : PE X a (lE X.K wa)) (hb : PE X b (lE X.K wb)) (hs : PlainIx b := by exact fun _ _ => rfl) : PE X (.Subscript a b pos) (lE X.K (wOp dIx wa wb)) :=
  (pe_ix ix_seq ha hb hs).mo fun σ H Q q => lop snd_ix q
def cutA {α : Type} (xs : List α) (lo hi : Option Int) : List α := (xs.drop (HT.sIx xs.length 0 lo)).take (HT.sIx xs.length xs.length hi - HT.sIx xs.length 0 lo)
theorem dpa_cut {I : Hp} {vs : List V} {ds : List D} {lo hi : Option Int} (h : DaAll K I vs ds) : DaAll K I (cutV vs lo hi) (cutA ds lo hi) := by
  unfold cutV cutA
  rw [dpa_len h]
  exact dpa_take _ (dpa_drop _ h)
abbrev WO := En → (Option Int → En → Prop) → Prop
def lO (K : PySem.W.Frag) (w : WO) : TO := fun σ H Q => ∃ (G : Gh) (en : En) (I : Hp) (Q' : Option Int → En → Prop), Ok K G σ en H I ∧ w en Q' ∧
  ∀ o H' I' en', Ok K G σ en' H' I' → Ex I I' → Q' o en' → Q o H'
def wNoP : WO := fun en Q => Q none en
def wPart (w : WE) : WO := fun en Q => w en fun d e1 => ∃ i, d = .int i ∧ Q (some i) e1
theorem o_none : PO X none (lO X.K wNoP) := ⟨fun pins s σ H Q I h => po_none.run pins s σ H Q I (by obtain ⟨G, en, I, Q', o, q, k⟩ := h; exact k none H I en o (Ex.rf I) q)⟩
theorem o_some (h : PE X e (lE X.K wa)) : PO X (some e) (lO X.K (wPart wa)) := ⟨fun pins s σ H Q I h' => (po_some h).run pins s σ H Q I (by
  obtain ⟨G, en, I, Q', o, q, k⟩ := h'
  exact ⟨G, en, I, _, o, q, fun v H1 I1 e1 d o1 x1 dv ⟨i, hi, q1⟩ => ⟨i, by subst hi; exact dp_int dv, k (some i) H1 I1 e1 o1 x1 q1⟩⟩)⟩
def wSl (wa : WE) (wl wh : WO) : WE := fun en Q => wa en fun d e1 => wl e1 fun l e2 => wh e2 fun h e3 => (∃ xs, d = .list xs ∧ Q (.list (cutA xs l h)) e3) ∨ (∃ xs, d = .tuple xs ∧ Q (.tuple (cutA xs l h)) e3)
theorem d_sl {lo hi : Option Expr} {wl wh : WO} (ha : PE X a (lE X.K wa)) (hl : PO X lo (lO X.K wl)) (hh : PO X hi (lO X.K wh)) : PE X (.Subscript a (.Slice lo hi none p2) pos) (lE X.K (wSl wa wl wh)) :=
  (pe_slice (sl_list.or sl_tupA) ha hl hh).mo fun σ H Q ⟨G, en, I, Q', o, q, k⟩ => ⟨G, en, I, _, o, q, fun v H1 I1 e1 d o1 x1 dv q1 => ⟨G, e1, I1, _, o1, q1, fun l H2 I2 e2 o2 x2 q2 => ⟨G, e2, I2, _, o2, q2, fun h H3 I3 e3 o3 x3 q3 => by
    have dv3 := (dv.up x2).up x3
    have x := (x1.tr x2).tr x3
    rcases q3 with ⟨xs, rfl, q3⟩ | ⟨xs, rfl, q3⟩
    · cases dv3 with
      | lst hs ha => exact Or.inl ⟨_, _, rfl, SqL.of (o3.iH _ _ hs), fun p hp => fin_lst (ds := cutA xs l h) o3.iH hp (dpa_cut ha) fun v' H4 I4 g dz => k v' H4 I4 e3 _ (o3.gr g) (x.tr g.i) dz q3⟩
    · cases dv3 with
      | tup hs ha =>
        refine Or.inr ⟨_, _, rfl, sqt_ex o3.iH hs, fun hw => ?_, fun _ p hp => fin_tup (ds := cutA xs l h) o3.iH hp (dpa_cut ha) fun v' H4 I4 g dz => k v' H4 I4 e3 _ (o3.gr g) (x.tr g.i) dz q3⟩
        have e0 : cutA xs l h = xs := by
          unfold cutA
          rw [← dpa_len ha, hw.1, hw.2, List.drop_zero, Nat.sub_zero, dpa_len ha, List.take_length]
        rw [e0] at q3
        exact k _ H3 I3 e3 _ o3 x (.tup hs ha) q3⟩⟩⟩
/-- xs[::-1], a list -/
def wRev (wa : WE) : WA := fun en Q => wa en fun d e1 => ∃ xs, d = .list xs ∧ Q xs.reverse e1
theorem l_rev {k : Nat} {p1 p2 p3 : Pos} (ha : PE X a (lE X.K wa)) : PE X (.Subscript a (.Slice none none (some (.UnaryOp .USub (.Constant (.int 1) k p1) p2)) p3) pos) (lL X.K (wRev wa)) :=
  (pe_revL ha).mo fun σ H Q ⟨G, en, I, Q', o, q, k⟩ => ⟨G, en, I, _, o, q, fun v H1 I1 e1 d o1 x1 dv ⟨xs, hd, q1⟩ => by
    subst hd
    cases dv with
    | lst hs ha => exact ⟨_, _, rfl, SqL.of (o1.iH _ _ hs), fun p hp => k p _ H1 I1 e1 _ o1 x1 hp (dpa_rev ha) q1⟩⟩
def wListOf (w : WA) : WA := fun en Q => w en fun ds e1 => ∃ z, dListOf ds z ∧ Q z e1
theorem l_listOf {w : WA} (hm : X.mg "list" = none) (ha : PA X (e :: es) (lA X.K w)) (hg : Gl X "list" := by rfl)
    (he : starEach (e :: es) X.env = (false, eval e X.env) :: starEach es X.env := by rfl) (hpl : (backTo pos (starEach es X.env)).any (·.1) = false := by rfl) :
    PE X (.Call (.Name "list" p) (e :: es) [] pos) (lL X.K (wListOf w)) :=
  (pe_callTy call_list_of hg hm (by decide +kernel) ha (by decide) (by decide) he hpl).mo fun σ H Q ⟨G, en, I, Q', o, q, k⟩ => ⟨G, en, I, _, o, q, fun vs H1 I1 e1 ds o1 x1 dvs ⟨z, hz, q1⟩ => by
    unfold dListOf at hz
    split at hz
    · subst hz
      cases dvs with
      | cons h t => cases t; cases h with
        | lst hs ha => exact ⟨_, _, rfl, Or.inl (SqL.of (o1.iH _ _ hs)), fun l hl => k l _ H1 I1 e1 _ o1 x1 hl ha q1⟩
    · subst hz
      cases dvs with
      | cons h t => cases t; cases h with
        | tup hs ha => exact ⟨_, _, rfl, Or.inr (sqt_ex o1.iH hs), fun l hl => k l _ H1 I1 e1 _ o1 x1 hl ha q1⟩
    · exact hz.elim⟩
/-! ### isinstance -/
def wIsi (T : String) (wa : WE) : WE := fun en Q => wa en fun d e1 => ∃ r, kitB (tyName d) T = some r ∧ Q (.bool r) e1
theorem da_ty {H I : Hp} {v : V} {d : D} (iH : Ex I H) (h : Da K I v d) : TyX K H v (.type (tyName d)) := by
  cases h with
  | non => exact .base .non
  | bl b => exact .base (.bl b)
  | int i => exact .base (.int i)
  | str x => exact .base (.str x)
  | lst h a => exact .base (.lst (iH _ _ h))
  | dic h => exact .base (.dK (iH _ _ h))
  | tup h a =>
    rcases sqt_ex iH h with (h | ⟨o, h⟩) | ⟨o, its, n, h1, h2, h3, h4, h5⟩
    · exact .base (.tup h)
    · exact .fTuple h
    · exact .kTuple h1 h2
theorem d_isi {T : Str} {T' : String} (hm : X.mg "isinstance" = none) (hmT : X.mg T = none) (hT : bootBuiltins T = some (.type T')) (ha : PE X a (lE X.K wa)) (hg : Gl X "isinstance" := by rfl) (hgT : Gl X T := by rfl) (hn : T ≠ "__name__" := by decide) (hdb : (T == ("__debug__" : Str)) = false := by decide)
    (he : starEach (a :: [.Name T p2]) X.env = (false, eval a X.env) :: starEach [.Name T p2] X.env := by rfl) (he2 : starEach (.Name T p2 :: []) X.env = (false, eval (.Name T p2) X.env) :: starEach [] X.env := by rfl) (hpl : (backTo pos (starEach [.Name T p2] X.env)).any (·.1) = false := by rfl) :
    PE X (.Call (.Name "isinstance" p) [a, .Name T p2] [] pos) (lE X.K (wIsi T' wa)) :=
  (pe_callB call_isi hg hm (by decide +kernel) (pa_cons ha (pa_cons (pe_bltn (v := .ty T') hgT hmT hT rfl hn hdb) pa_nil he2) he) (by decide) (by decide) he hpl).mo fun σ H Q ⟨G, en, I, Q', o, q, k⟩ => ⟨G, en, I, _, o, q, fun v H1 I1 e1 d o1 x1 dv ⟨r, hr, q1⟩ => by
    exact ⟨v, .ty T', .type (tyName d), .type T', r, rfl, .ty T', da_ty o1.iH dv, kit_ty hr, k (.bl r) H1 I1 e1 _ o1 x1 (.bl r) q1⟩⟩
/-! ### one's own list, read and written -/
def Flat : D → Prop
  | .none | .bool _ | .int _ | .str _ => True
  | _ => False
theorem flat_any {I J : Hp} {v : V} {d : D} (h : Da K I v d) (f : Flat d) : Da K J v d := by
  cases h with
  | non => exact .non
  | bl b => exact .bl b
  | int i => exact .int i
  | str x => exact .str x
  | lst h a => exact f.elim
  | tup h a => exact f.elim
  | dic h => exact f.elim
/-- the region with one's own list within -/
theorem Ok.withOwn {G : Gh} {σ : Sg} {en : En} {H I : Hp} (o : Ok K G σ en H I) {i : Nat} {ds : List D} (h : en[i]? = some (.own ds)) : ∃ l vs, σ[i]? = some (some (.ref l)) ∧ H l = some (.lst vs) ∧ Ex I (upd I l (.lst vs)) ∧ Ex (upd I l (.lst vs)) H ∧ Da K (upd I l (.lst vs)) (.ref l) (.list ds) := by
  obtain ⟨l, vs, h1, h2, h3, h4⟩ := o.own h
  have e1 : Ex I (upd I l (.lst vs)) := Ex.up h2
  refine ⟨l, vs, h1, h3, e1, fun a u h => ?_, .lst upd_same (h4.up e1)⟩
  by_cases q : a = l
  · subst q; rw [upd_same] at h; rw [h3]; exact h
  · rw [upd_ne q] at h; exact o.iH a u h
def wOpO (i : Nat) (f : D → D → D → Prop) (wb : WE) : WE := fun en Q => (∃ ds, en[i]? = some (.own ds)) ∧ wb en fun y e1 => ∃ ds z, e1[i]? = some (.own ds) ∧ f (.list ds) y z ∧ Flat z ∧ Q z e1
def wOpR (i : Nat) (f : D → D → D → Prop) (wa : WE) : WE := fun en Q => wa en fun x e1 => ∃ ds z, e1[i]? = some (.own ds) ∧ f x (.list ds) z ∧ Flat z ∧ Q z e1
def wClO (i : Nat) (g : List D → D → Prop) : WE := fun en Q => ∃ ds z, en[i]? = some (.own ds) ∧ g [.list ds] z ∧ Flat z ∧ Q z en
theorem ok_same {G : Gh} {σ : Sg} {en : En} {H I H' I' J : Hp} (o : Ok K G σ en H I) (g : Gr H J H' I') (e : Ex I J) : Ok K G σ en H' I := o.grow g.h (Ex.rf I) (o.iH.tr g.h) fun a h1 h2 => absurd h2 h1
theorem lopO {r : R2} {f : D → D → D → Prop} {i : Nat} (h : SndOp X.K r f) {σ : Sg} {H : Hp} {Q : VK} (q : lE X.K (wOpO i f wb) σ H Q) : tOp r (tVar i) (lE X.K wb) σ H Q := by
  obtain ⟨G, en, I, Q', o, ⟨⟨ds0, hi⟩, q⟩, k⟩ := q
  obtain ⟨l, vs0, r1, _⟩ := o.own hi
  refine ⟨.ref l, r1, G, en, I, _, o, q, fun u H2 I2 e2 d2 o2 x2 du ⟨ds, z, hd, fz, fl, q2⟩ => ?_⟩
  obtain ⟨l', vs, s1, s2, s3, s4, s5⟩ := o2.withOwn hd
  rw [r1] at s1
  have q5 : l = l' := by injection s1 with s1; injection s1 with s1; injection s1
  subst q5
  exact h H2 _ (.ref l) u (.list ds) d2 z s4 s5 (du.up s3) fz Q fun v' H3 I3 g dz => k v' H3 I2 e2 z (ok_same o2 g s3) x2 (flat_any dz fl) q2
theorem lopR {r : R2} {f : D → D → D → Prop} {i : Nat} (h : SndOp X.K r f) {σ : Sg} {H : Hp} {Q : VK} (q : lE X.K (wOpR i f wa) σ H Q) : tOp r (lE X.K wa) (tVar i) σ H Q := by
  obtain ⟨G, en, I, Q', o, q, k⟩ := q
  refine ⟨G, en, I, _, o, q, fun u H2 I2 e2 d2 o2 x2 du ⟨ds, z, hd, fz, fl, q2⟩ => ?_⟩
  obtain ⟨l, vs, s1, s2, s3, s4, s5⟩ := o2.withOwn hd
  exact ⟨.ref l, s1, h H2 _ u (.ref l) d2 (.list ds) z s4 (du.up s3) s5 fz Q fun v' H3 I3 g dz => k v' H3 I2 e2 z (ok_same o2 g s3) x2 (flat_any dz fl) q2⟩
theorem d_ixO {i : Nat} (ha : PE X a (tVar i)) (hb : PE X b (lE X.K wb)) (hs : PlainIx b := by exact fun _ _ => rfl) : PE X (.Subscript a b pos) (lE X.K (wOpO i dIx wb)) :=
  (pe_ix ix_seq ha hb hs).mo fun σ H Q q => lopO snd_ix q
theorem d_cmpO {op : CmpOp} {r : R2} {f : D → D → D → Prop} {i : Nat} (ho : OpR X (compareOp op) r) (hs : SndOp X.K r f) (ha : PE X a (tVar i)) (hb : PE X b (lE X.K wb)) (hm : behindInMarks op b = false) : PE X (.Compare a [op] [b] pos) (lE X.K (wOpO i f wb)) :=
  (pe_cmpR ho ha hb hm).mo fun σ H Q q => lopO hs q
theorem t_cmpO {op : CmpOp} {r : R2} {f : D → D → D → Prop} {i : Nat} (ho : OpR X (compareOp op) r) (hs : SndOp X.K r f) (ha : PE X a (tVar i)) (hb : PE X b (lE X.K wb)) (hm : behindInMarks op b = false) : PT X (.Compare a [op] [b] pos) (lT X.K (wB (wOpO i f wb))) :=
  (pt_cmpR ho ha hb hm).mo fun σ H Q q => by
    obtain ⟨G, en, I, Q2, o, q2, k⟩ := ltst q
    exact lopO hs ⟨G, en, I, Q2, o, q2, k⟩
theorem d_cmpR {op : CmpOp} {r : R2} {f : D → D → D → Prop} {i : Nat} (ho : OpR X (compareOp op) r) (hs : SndOp X.K r f) (ha : PE X a (lE X.K wa)) (hb : PE X b (tVar i)) (hm : behindInMarks op b = false) : PE X (.Compare a [op] [b] pos) (lE X.K (wOpR i f wa)) :=
  (pe_cmpR ho ha hb hm).mo fun σ H Q q => lopR hs q
theorem t_cmpR {op : CmpOp} {r : R2} {f : D → D → D → Prop} {i : Nat} (ho : OpR X (compareOp op) r) (hs : SndOp X.K r f) (ha : PE X a (lE X.K wa)) (hb : PE X b (tVar i)) (hm : behindInMarks op b = false) : PT X (.Compare a [op] [b] pos) (lT X.K (wB (wOpR i f wa))) :=
  (pt_cmpR ho ha hb hm).mo fun σ H Q q => by
    obtain ⟨G, en, I, Q2, o, q2, k⟩ := ltst q
    exact lopR hs ⟨G, en, I, Q2, o, q2, k⟩
theorem d_cbO {id : String} {r : List V → Hp → VK → Prop} {g : List D → D → Prop} {i : Nat} (hc : CallR X (.builtin id) r) (hs : SndCl X.K r g) (hm : X.mg x = none) (hv : bootBuiltins x = some (.builtin id)) (ha : PE X e (tVar i)) (hg : Gl X x := by rfl)
    (hn : x ≠ "__name__" := by decide) (hdb : (x == ("__debug__" : Str)) = false := by decide)
    (he : starEach (e :: []) X.env = (false, eval e X.env) :: starEach [] X.env := by rfl) (hpl : (backTo pos (starEach [] X.env)).any (·.1) = false := by rfl) : PE X (.Call (.Name x p) [e] [] pos) (lE X.K (wClO i g)) :=
  (pe_callB hc hg hm hv (pa_cons ha pa_nil he) hn hdb he hpl).mo fun σ H Q ⟨G, en, I, Q', o, ⟨ds, z, hd, fz, fl, q⟩, k⟩ => by
    obtain ⟨l, vs, s1, s2, s3, s4, s5⟩ := o.withOwn hd
    exact ⟨.ref l, s1, hs H _ [.ref l] [.list ds] z s4 (.cons s5 .nil) fz Q fun v' H3 I3 g dz => k v' H3 I en z (ok_same o g s3) (Ex.rf I) (flat_any dz fl) q⟩
end
section
variable {X : Cx} {e o idx : Expr} {st : Stmt} {sts : List Stmt} {pos p1 p2 : Pos} {t u : WS} {w wi : WE} {x : Str} {i : Nat}
/-- xs.append(e) -/
def wApp (i : Nat) (w : WE) : WS := fun R en => (∃ ds, en[i]? = some (.own ds)) ∧ w en fun d e1 => ∃ ds, e1[i]? = some (.own ds) ∧ ds.length < sizeLine ∧ R.nx (e1.set i (.own (ds ++ [d])))
theorem s_app (ho : PE X o (tVar i)) (he : PE X e (lE X.K w))
    (hs : swapsWith (.Call (.Attribute o "append" p1) [e] [] p2) none pos.line X.env = pure false := by rfl)
    (pe : PE X (.Call (.Attribute o "append" p1) [e] [] p2) (tBM X.K "list" rAppend (tVar i) (tCons (lE X.K w) tNil)) := by exact (pe_bm PySem.F.plainAttrs_list PySem.F.slot_list_append PySem.F.type_list_append mt_append (by assumption) (pa_cons (by assumption) pa_nil))) :
    PS X (.Expr (.Call (.Attribute o "append" p1) [e] [] p2) pos) (lS X.K (wApp i w)) :=
  (ps_expr pe hs).mo fun R σ H ⟨G, en, I, R', ok, ⟨⟨ds0, h0⟩, q⟩, k⟩ => by
    obtain ⟨l, vs0, r1, r2, r3, r4⟩ := ok.own h0
    refine ⟨.ref l, r1, Or.inl ⟨rfl, vs0, SqL.of r3⟩, G, en, I, _, ok, q, fun v H1 I1 e1 d o1 x1 dv ⟨ds, hd, hz, q1⟩ => ?_⟩
    obtain ⟨l', vs, s1, s2, s3, s4⟩ := o1.own hd
    rw [r1] at s1
    have q5 : l = l' := by injection s1 with s1; injection s1 with s1; injection s1
    subst q5
    refine ⟨l, vs, v, rfl, rfl, s3, by rw [dpa_len s4]; exact hz, ?_⟩
    refine k.1 σ _ I1 _ (o1.turn (H' := upd H1 l (.lst (vs ++ [v]))) (vs := vs ++ [v]) ⟨r1, ds, hd⟩ (fun a u ha h => by rw [upd_ne ha]; exact h) (Ex.rf I1) (fun a u h => ?_) (fun a h1 h2 => absurd h2 h1) upd_same (dpa_app s4 (.cons dv .nil))) q1
    have : a ≠ l := fun ea => by subst ea; rw [s2] at h; cases h
    rw [upd_ne this]; exact o1.iH a u h
/-- xs[k] = e -/
def wSetIt (i : Nat) (wi w : WE) : WS := fun R en => w en fun d e1 => (∃ ds, e1[i]? = some (.own ds)) ∧ wi e1 fun k e2 => ∃ ds m j, e2[i]? = some (.own ds) ∧ k = .int m ∧ ixN ds.length m = some j ∧ R.nx (e2.set i (.own (ds.set j d)))
theorem s_setIt (ps : PS X st (tAsg (lE X.K w) (gSub (tVar i) (lE X.K wi) rSetL))) : PS X st (lS X.K (wSetIt i wi w)) :=
  ps.mo fun R σ H ⟨G, en, I, R', ok, q, k⟩ => ⟨G, en, I, _, ok, q, fun v H1 I1 e1 d o1 x1 dv ⟨⟨ds0, h0⟩, q1⟩ => by
    obtain ⟨l, vs0, r1, r2, r3, r4⟩ := o1.own h0
    refine ⟨.ref l, r1, G, e1, I1, _, o1, q1, fun m H2 I2 e2 dm o2 x2 dvm ⟨ds, mm, j, hd, hm, hj, q2⟩ => ?_⟩
    subst hm
    obtain ⟨l', vs, s1, s2, s3, s4⟩ := o2.own hd
    rw [r1] at s1
    have q5 : l = l' := by injection s1 with s1; injection s1 with s1; injection s1
    subst q5
    refine ⟨l, vs, mm, j, rfl, dp_int dvm, s3, by rw [dpa_len s4]; exact hj, ?_⟩
    refine k.1 σ _ I2 _ (o2.turn (H' := upd H2 l (.lst (vs.set j v))) (vs := vs.set j v) ⟨r1, ds, hd⟩ (fun a u ha h => by rw [upd_ne ha]; exact h) (Ex.rf I2) (fun a u h => ?_) (fun a h1 h2 => absurd h2 h1) upd_same (dpa_set j s4 (dv.up x2))) q2
    have : a ≠ l := fun ea => by subst ea; rw [s2] at h; cases h
    rw [upd_ne this]; exact o2.iH a u h⟩
/-- from here on slot i is data -/
def wFrz (i : Nat) (t : WS) : WS := fun R en => ∃ ds, en[i]? = some (.own ds) ∧ i ≠ 0 ∧ t R (en.set i (.imm (.list ds)))
theorem Ok.freeze {K : PySem.W.Frag} {G : Gh} {σ : Sg} {en : En} {H I : Hp} (o : Ok K G σ en H I) {i : Nat} {ds : List D} (h : en[i]? = some (.own ds)) (hi : i ≠ 0) : ∃ I', Ok K G σ (en.set i (.imm (.list ds))) H I' ∧ Ex I I' := by
  obtain ⟨l, vs, h1, h2, h3, h4⟩ := o.own h
  have ow : OwnAt σ en i l := ⟨h1, ds, h⟩
  have nj : G.J ≠ some l := fun e => hi (o.ds i 0 l ow (o.pj l e))
  have he : G.He l = none := (o.ml i l ow).resolve_left nj
  have e1 : Ex I (upd I l (.lst vs)) := Ex.up h2
  have own' : ∀ j b, OwnAt σ (en.set i (.imm (.list ds))) j b → i ≠ j ∧ OwnAt σ en j b := fun j b ⟨q1, es, q2⟩ => by
    rcases set_get q2 with ⟨e, q⟩ | ⟨ne, q3⟩
    · cases q
    · exact ⟨ne, q1, es, q3⟩
  refine ⟨upd I l (.lst vs), ⟨o.i0.tr e1, fun a u q => ?_, fun a q1 q2 => ?_, o.fr, by rw [List.length_set]; exact o.ln, fun j s q => ?_, fun j b q => o.ml j b (own' j b q).2, fun a b c q1 q2 => o.ds a b c (own' a c q1).2 (own' b c q2).2, fun b q => ?_, fun p hp => ?_⟩, e1⟩
  · by_cases e : a = l
    · subst e; rw [upd_same] at q; rw [h3]; exact q
    · rw [upd_ne e] at q; exact o.iH a u q
  · have : a ≠ l := fun e => by subst e; exact q1 he
    rw [upd_ne this]; exact o.nw a q1 q2
  · rcases set_get q with ⟨e, q2⟩ | ⟨ne, q2⟩
    · subst e q2
      exact ⟨_, h1, .lst upd_same (h4.up e1)⟩
    · have r := o.sl j s q2
      cases s with
      | un => trivial
      | scr ns => obtain ⟨a, q1, q2⟩ := r; exact ⟨a, q1, sqs_ex e1 q2⟩
      | imm d =>
        obtain ⟨y, r1, r2⟩ := r
        exact ⟨y, r1, r2.up e1⟩
      | own es =>
        obtain ⟨l', vs', r1, r2, r3, r4⟩ := r
        have : l' ≠ l := fun e => by subst e; exact ne (o.ds i j l' ow ⟨r1, es, q2⟩)
        exact ⟨l', vs', r1, by rw [upd_ne this]; exact r2, r3, r4.up e1⟩
  · obtain ⟨r1, es, r2⟩ := o.pj b q
    exact ⟨r1, es, by rw [List.getElem?_set_ne hi]; exact r2⟩
  · obtain ⟨q1, q2, q3⟩ := o.pr p hp
    have : p.1 ≠ l := fun e => q3 i (by rw [e]; exact ow)
    exact ⟨q1, by rw [upd_ne this]; exact q2, fun j q => q3 j (own' j _ q).2⟩
theorem s_frz (h : PS X st (lS X.K t)) : PS X st (lS X.K (wFrz i t)) := h.mo fun R σ H ⟨G, en, I, R', ok, ⟨ds, hd, hi, q⟩, k⟩ => by
  obtain ⟨I', o', e'⟩ := ok.freeze hd hi
  exact lS_mk o' q k
theorem ss_frz (h : PSs X sts (lS X.K t)) : PSs X sts (lS X.K (wFrz i t)) := h.mo fun R σ H ⟨G, en, I, R', ok, ⟨ds, hd, hi, q⟩, k⟩ => by
  obtain ⟨I', o', e'⟩ := ok.freeze hd hi
  exact lS_mk o' q k
/-! ### while -/
def wWhile (tc : WT) (tb : WS) : WS := fun R en => ∃ W : Nat → En → Prop, (∃ m, W m en) ∧ ∀ m e, W m e → tc e fun b e1 => if b = true then tb { R with nx := fun e' => ∃ m', m' < m ∧ W m' e', ct := fun e' => ∃ m', m' < m ∧ W m' e', bk := R.nx } e1 else R.nx e1
theorem s_while {c : Expr} {body : List Stmt} {tc : WT} {tb : WS} (hp : PassesOwn (model X.prog X.w) X.A X.env X.xe) (hc : PT X c (lT X.K tc)) (hb : PSs X body (lS X.K tb)) : PS X (.While c body [] pos) (lS X.K (wWhile tc tb)) :=
  (ps_while hp hc hb).mo fun R σ H ⟨G, en, I, R', ok, ⟨W, ⟨m0, w0⟩, turn⟩, k⟩ => by
    refine ⟨fun m σ H => ∃ en I, Ok X.K G σ en H I ∧ W m en, ⟨m0, en, I, ok, w0⟩, fun m σ1 H1 ⟨e1, I1, o1, w1⟩ => ?_⟩
    refine ⟨G, e1, I1, _, o1, turn m e1 w1, fun b H2 I2 e2 o2 x2 q2 => ?_⟩
    cases b with
    | true =>
      refine ⟨fun σ H => ∃ m', m' < m ∧ ∃ en I, Ok X.K G σ en H I ∧ W m' en, fun _ _ h => h, G, e2, I2, _, o2, q2, ?_⟩
      exact ⟨fun σ' H' I' en' o' ⟨m', hm, w'⟩ => ⟨m', hm, en', I', o', w'⟩, k.2.1, fun σ' H' I' en' o' q' => k.1 σ' H' I' en' o' q', fun σ' H' I' en' o' ⟨m', hm, w'⟩ => ⟨m', hm, en', I', o', w'⟩⟩
    | false => exact k.1 σ1 H2 I2 e2 o2 q2
end
end Pd

set_option Elab.async false
set_option linter.all false
set_option maxRecDepth 100000
set_option maxHeartbeats 4000000
namespace Pd
open PySem PySem.Spec PyProof.Rows L2
/-! ### what is walked -/
/-- the iterator yields these data, turn by turn -/
structure ItD (K : PySem.W.Frag) (J : It) (I0 : Hp) (xs : List D) : Prop where
  go : ∀ i H I, Ex I0 I → Ex I H → i < xs.length → J.go i H
  stop : ∀ H I, Ex I0 I → Ex I H → J.stop xs.length H
  yld : ∀ i H I v H' d, Ex I0 I → Ex I H → xs[i]? = some d → J.yld i H v H' → ∃ I', Gr H I H' I' ∧ Da K I' v d
def lI (K : PySem.W.Frag) (w : WA) : TI := fun σ H R => ∃ (G : Gh) (en : En) (I : Hp) (Q' : List D → En → Prop), Ok K G σ en H I ∧ w en Q' ∧
  ∀ J H' I' en' xs, Ok K G σ en' H' I' → Ex I I' → ItD K J I' xs → Q' xs en' → R J H'
theorem _root_.L2.PI.mo {X : Cx} {tg e : Expr} {t t' : TI} (h : PI X tg e t) (m : ∀ σ H R, t' σ H R → t σ H R) : PI X tg e t' := ⟨fun pins s σ H Q I q => h.run pins s σ H Q I (m σ H Q q)⟩
section
variable {K : PySem.W.Frag} {X : Cx} {tg e a b : Expr} {es : List Expr} {pos p tpos : Pos} {w wb : WE} {wa : WA}
theorem itd_list {I : Hp} {a : Addr} {vs : List V} {ds : List D} (h : I a = some (.lst vs)) (hd : DaAll K I vs ds) : ItD K (Itl K a) I ds where
  go := fun i H I1 e1 e2 hi => by
    obtain ⟨v, hv, _⟩ := dpa_get hd (List.getElem?_eq_getElem hi)
    exact ⟨vs, v, SqL.of (e2 _ _ (e1 _ _ h)), hv⟩
  stop := fun H I1 e1 e2 => ⟨vs, SqL.of (e2 _ _ (e1 _ _ h)), by rw [dpa_len hd]; exact Nat.le_refl _⟩
  yld := fun i H I1 v H' d e1 e2 hd' ⟨eH, hv⟩ => by
    subst eH
    obtain ⟨v', hv', q⟩ := dpa_get hd hd'
    have := hv vs (SqL.of (e2 _ _ (e1 _ _ h)))
    rw [hv'] at this
    cases this
    exact ⟨I1, Gr.rf e2, q.up e1⟩
theorem itd_tup {I : Hp} {a : Addr} {vs : List V} {ds : List D} (h : SqT K I a vs) (hd : DaAll K I vs ds) : ItD K (Itt K a) I ds where
  go := fun i H I1 e1 e2 hi => by
    obtain ⟨v, hv, _⟩ := dpa_get hd (List.getElem?_eq_getElem hi)
    exact ⟨vs, v, sqt_ex (e1.tr e2) h, hv⟩
  stop := fun H I1 e1 e2 => ⟨vs, sqt_ex (e1.tr e2) h, by rw [dpa_len hd]; exact Nat.le_refl _⟩
  yld := fun i H I1 v H' d e1 e2 hd' ⟨eH, hv⟩ => by
    subst eH
    obtain ⟨v', hv', q⟩ := dpa_get hd hd'
    have := hv vs (sqt_ex (e1.tr e2) h)
    rw [hv'] at this
    cases this
    exact ⟨I1, Gr.rf e2, q.up e1⟩
def iSeq (K : PySem.W.Frag) (tl : TE) : TI := fun σ H R => tl σ H fun x H1 => ∃ a, x = .ref a ∧ (((∃ xs, SqL K H1 a xs) ∧ R (Itl K a) H1) ∨ ((∃ xs, SqT K H1 a xs) ∧ R (Itt K a) H1))
theorem pi_seq {l : Expr} {tl : TE} (hl : PE X l tl) : PI X tg l (iSeq X.K tl) := by
  refine ⟨fun pins s σ H R I h => ?_⟩
  refine thn (hl.run pins s σ H _ I h) fun v s1 ⟨x, H1, I1, r1, q1⟩ => ?_
  obtain ⟨a, e, q⟩ := q1
  subst e
  cases r1
  rcases q with ⟨⟨xs, hq⟩, q⟩ | ⟨⟨xs, hq⟩, q⟩
  · obtain ⟨its, rv, p, hz⟩ := I1.list hq
    refine wpAny_pyIter_list p.isList ?_
    refine ⟨s1.heap.objs.size, [s1.heap.objs.size], _, _, H1, rfl, I1.kept (t' := s1.toks) fun b o e => Heap.get?_push_of_some _ e, turn_list a _, ⟨_, Heap.get?_push_size _ rfl, rfl, rfl⟩, fun b hb => ?_, q⟩
    have e : b = s1.heap.objs.size := by simpa using hb
    subst e
    exact I1.fpOk (Nat.le_refl _) (I1.hok.fresh (Nat.le_refl _))
  · obtain ⟨its, rv, p, hz⟩ := I1.tuple hq
    refine wpAny_pyIter_tuple (show s1.heap.IsTuple a its.toArray from p) ?_
    refine ⟨s1.heap.objs.size, [s1.heap.objs.size], _, _, H1, rfl, I1.kept (t' := s1.toks) fun b o e => Heap.get?_push_of_some _ e, turn_tuple a _, ⟨_, Heap.get?_push_size _ rfl, rfl, rfl⟩, fun b hb => ?_, q⟩
    have e : b = s1.heap.objs.size := by simpa using hb
    subst e
    exact I1.fpOk (Nat.le_refl _) (I1.hok.fresh (Nat.le_refl _))
/-- over a list or a tuple -/
def wSq (w : WE) : WA := fun en Q => w en fun d e1 => ∃ xs, (d = .list xs ∨ d = .tuple xs) ∧ Q xs e1
theorem i_seq (h : PE X e (lE X.K w)) : PI X tg e (lI X.K (wSq w)) :=
  (pi_seq h).mo fun σ H R ⟨G, en, I, Q', o, q, k⟩ => ⟨G, en, I, _, o, q, fun v H1 I1 e1 d o1 x1 dv ⟨xs, hd, q1⟩ => by
    rcases hd with rfl | rfl
    · cases dv with
      | lst hs ha => exact ⟨_, rfl, Or.inl ⟨⟨_, SqL.of (o1.iH _ _ hs)⟩, k _ H1 I1 e1 xs o1 x1 (itd_list hs ha) q1⟩⟩
    · cases dv with
      | tup hs ha => exact ⟨_, rfl, Or.inr ⟨⟨_, sqt_ex o1.iH hs⟩, k _ H1 I1 e1 xs o1 x1 (itd_tup hs ha) q1⟩⟩⟩
/-- the ints lo, lo + 1, .., n of them -/
def rngD (lo : Int) (n : Nat) : List D := (List.range n).map fun i => PyData.int (lo + (i : Nat))
theorem rngD_len (lo : Int) (n : Nat) : (rngD lo n).length = n := by unfold rngD; rw [List.length_map, List.length_range]
theorem rngD_get {lo : Int} {n i : Nat} {d : D} (h : (rngD lo n)[i]? = some d) : d = .int (lo + (i : Nat)) ∧ i < n := by
  unfold rngD at h
  rw [List.getElem?_map] at h
  cases q : (List.range n)[i]? with
  | none => rw [q] at h; cases h
  | some j =>
    rw [q] at h
    obtain ⟨h1, h2⟩ := List.getElem?_eq_some_iff.mp q
    rw [List.getElem_range] at h2
    subst h2
    cases h
    exact ⟨rfl, by simpa using h1⟩
theorem itd_rng {I : Hp} {lo : Int} {n : Nat} : ItD K (Itr lo n) I (rngD lo n) where
  go := fun i H I1 e1 e2 hi => by rw [rngD_len] at hi; exact hi
  stop := fun H I1 e1 e2 => by rw [rngD_len]; exact Nat.le_refl _
  yld := fun i H I1 v H' d e1 e2 hd ⟨eH, hv⟩ => by
    subst eH hv
    obtain ⟨h1, h2⟩ := rngD_get hd
    subst h1
    exact ⟨I1, Gr.rf e2, .int _⟩
def wRg1 (w : WA) : WA := fun en Q => w en fun ds e1 => ∃ j : Int, ds = [.int j] ∧ -(2 ^ 62) ≤ j ∧ j < 2 ^ 62 ∧ Q (rngD 0 j.toNat) e1
def wRg2 (w : WA) : WA := fun en Q => w en fun ds e1 => ∃ i j : Int, ds = [.int i, .int j] ∧ (-(2 ^ 62) ≤ i ∧ i < 2 ^ 62 ∧ -(2 ^ 62) ≤ j ∧ j < 2 ^ 62) ∧ Q (rngD i (j - i).toNat) e1
theorem i_rng1 (hm : X.mg "range" = none) (ha : PA X [a] (lA X.K wa)) (hg : Gl X "range" := by rfl) (hs : starEach [a] X.env = [(false, eval a X.env)] := by rfl) : PI X tg (.Call (.Name "range" p) [a] [] pos) (lI X.K (wRg1 wa)) :=
  (pi_range1 hg hm ha hs).mo fun σ H R ⟨G, en, I, Q', o, q, k⟩ => ⟨G, en, I, _, o, q, fun vs H1 I1 e1 ds o1 x1 dvs ⟨j, hd, h1, h2, q1⟩ => by
    subst hd
    cases dvs with
    | cons h t => cases t; cases h; exact ⟨j, rfl, h1, h2, k _ H1 I1 e1 _ o1 x1 itd_rng q1⟩⟩
theorem i_rng2 (hm : X.mg "range" = none) (ha : PA X [a, b] (lA X.K wa)) (hg : Gl X "range" := by rfl) (hs : starEach [a, b] X.env = [(false, eval a X.env), (false, eval b X.env)] := by rfl) (hs2 : starEach [b] X.env = [(false, eval b X.env)] := by rfl) : PI X tg (.Call (.Name "range" p) [a, b] [] pos) (lI X.K (wRg2 wa)) :=
  (pi_range2 hg hm ha hs hs2).mo fun σ H R ⟨G, en, I, Q', o, q, k⟩ => ⟨G, en, I, _, o, q, fun vs H1 I1 e1 ds o1 x1 dvs ⟨i, j, hd, h1, q1⟩ => by
    subst hd
    cases dvs with
    | cons h t => cases t with
      | cons h2 t => cases t; cases h; cases h2; exact ⟨i, j, rfl, h1, k _ H1 I1 e1 _ o1 x1 itd_rng q1⟩⟩
/-! ### targets -/
abbrev WG := D → En → (En → Prop) → Prop
/-- is: the slots that are stored -/
def lG (K : PySem.W.Frag) (is : List Nat) (w : WG) : TG := fun v σ H Q => ∃ (G : Gh) (en : En) (I : Hp) (d : D) (Q' : En → Prop), Ok K G σ en H I ∧ Da K I v d ∧ w d en Q' ∧
  ∀ σ' H' I' en', Ok K G σ' en' H' I' → Ex I I' → σ'.length = σ.length → (∀ j, j ∉ is → σ'[j]? = σ[j]?) → Q' en' → Q σ' H'
theorem _root_.L2.PG.mo {X : Cx} {tg : Expr} {t t' : TG} (h : PG X tg t) (m : ∀ v σ H Q, t' v σ H Q → t v σ H Q) : PG X tg t' := ⟨fun pins s σ H v u Q I r q => h.run pins s σ H v u Q I r (m v σ H Q q)⟩
def wgN (i : Nat) : WG := fun d en Q => (i ≠ 0 ∨ NotOwn en[i]?) ∧ Q (en.set i (.imm d))
theorem g_name {i : Nat} {x : Str} (hN : X.N.Nodup) (hi : X.N[i]? = some x) (hx : Loc X.env.scope x) (hf : X.fn x = true ∨ X.env.scope.names.lookup x = some .local := by first | exact .inl rfl | exact .inr rfl | assumption) : PG X (.Name x pos) (lG X.K [i] (wgN i)) :=
  (pg_name hN hi hx hf).mo fun v σ H Q ⟨G, en, I, d, Q', o, dv, ⟨hi, q⟩, k⟩ =>
    k _ H I _ (o.put dv (hi.imp id notOwn_ne)) (Ex.rf I) (by rw [List.length_set]) (fun j hj => by rw [List.getElem?_set_ne]; exact fun e => hj (by rw [e]; exact List.mem_singleton.mpr rfl)) q
abbrev WGs := List D → En → (En → Prop) → Prop
def lGs (K : PySem.W.Frag) (is : List Nat) (w : WGs) : TGs := fun vs σ H Q => ∃ (G : Gh) (en : En) (I : Hp) (ds : List D) (Q' : En → Prop), Ok K G σ en H I ∧ DaAll K I vs ds ∧ w ds en Q' ∧
  ∀ σ' H' I' en', Ok K G σ' en' H' I' → Ex I I' → σ'.length = σ.length → (∀ j, j ∉ is → σ'[j]? = σ[j]?) → Q' en' → Q σ' H'
def wgNil : WGs := fun ds en Q => ds = [] ∧ Q en
def wgCons (g : WG) (r : WGs) : WGs := fun ds en Q => ∃ d t, ds = d :: t ∧ g d en fun e1 => r t e1 Q
theorem gs_nil : PGs X [] (lGs X.K [] wgNil) := ⟨fun pins s σ H vs us Q I r h => pgs_nil.run pins s σ H vs us Q I r (by
  obtain ⟨G, en, I, ds, Q', o, dvs, ⟨hd, q⟩, k⟩ := h
  subst hd; cases dvs
  exact ⟨rfl, k σ H I en o (Ex.rf I) rfl (fun _ _ => rfl) q⟩)⟩
theorem gs_cons {is js : List Nat} {g : WG} {r : WGs} (h1 : PG X e (lG X.K is g)) (h2 : PGs X es (lGs X.K js r)) (hs : (assignEach (e :: es) X.env).map (·.2) = assign e X.env :: (assignEach es X.env).map (·.2) := by rfl) : PGs X (e :: es) (lGs X.K (is ++ js) (wgCons g r)) := ⟨fun pins s σ H vs us Q I rr h => (pgs_cons h1 h2 hs).run pins s σ H vs us Q I rr (by
  obtain ⟨G, en, I, ds, Q', o, dvs, ⟨d, t, hd, q⟩, k⟩ := h
  subst hd
  cases dvs with
  | cons dv dvs =>
    refine ⟨_, _, rfl, G, en, I, d, _, o, dv, q, fun σ1 H1 I1 e1 o1 x1 l1 k1 q1 => ?_⟩
    refine ⟨G, e1, I1, t, _, o1, dvs.up x1, q1, fun σ2 H2 I2 e2 o2 x2 l2 k2 q2 => ?_⟩
    exact k σ2 H2 I2 e2 o2 (x1.tr x2) (l2.trans l1) (fun j hj => (k2 j fun h => hj (List.mem_append_right _ h)).trans (k1 j fun h => hj (List.mem_append_left _ h))) q2)⟩
def wgT (n : Nat) (r : WGs) : WG := fun d en Q => ∃ ds, d = .tuple ds ∧ ds.length = n ∧ r ds en Q
theorem g_tup {is : List Nat} {k n : Nat} {r : WGs} (hc : X.calm = true) (h : PGs X es (lGs X.K is r)) (pg : PG X (.Tuple es k pos) (gTup X.K n (lGs X.K is r))) : PG X (.Tuple es k pos) (lG X.K is (wgT n r)) :=
  pg.mo fun v σ H Q ⟨G, en, I, d, Q', o, dv, ⟨ds, hd, hn, q⟩, kk⟩ => by
    subst hd
    cases dv with
    | tup hs ha => exact ⟨_, _, rfl, sqt_ex o.iH hs, by rw [dpa_len ha]; exact hn, G, en, I, ds, Q', o, ha, q, kk⟩
end
/-! ### for -/
def forW (g : WG) (b : WS) (R : Ed) : List D → En → Prop
  | [], en => R.nx en
  | x :: xs, en => g x en fun e1 => b { R with nx := forW g b R xs, ct := forW g b R xs, bk := R.nx } e1
def wFor (wi : WA) (g : WG) (b : WS) : WS := fun R en => wi en fun xs e1 => forW g b R xs e1
theorem Ok.base {K : PySem.W.Frag} {G : Gh} {σ σ1 : Sg} {en e1 : En} {H H1 I I1 : Hp} (o1 : Ok K G σ1 e1 H1 I1) (o : Ok K G σ en H I) (x : Ex I1 I) : Ok K { G with I0 := I1 } σ en H I :=
  ⟨x, o.iH, fun a h1 h2 => o.nw a h1 (o1.i0.no h2), o.fr, o.ln, o.sl, o.ml, o.ds, o.pj, o.pr⟩
theorem Ok.back {K : PySem.W.Frag} {G : Gh} {σ σ1 : Sg} {en e1 : En} {H H1 I I1 : Hp} (o1 : Ok K G σ1 e1 H1 I1) (o : Ok K { G with I0 := I1 } σ en H I) : Ok K G σ en H I ∧ Ex I1 I :=
  ⟨⟨o1.i0.tr o.i0, o.iH, fun a h1 h2 => o.nw a h1 (o1.nw a h1 h2), o.fr, o.ln, o.sl, o.ml, o.ds, o.pj, o.pr⟩, o.i0⟩
theorem s_for {X : Cx} {tg iter : Expr} {body : List Stmt} {pos : Pos} {wi : WA} {is : List Nat} {g : WG} {b : WS} (hp : PassesOwn (model X.prog X.w) X.A X.env X.xe) (hc : X.calm = true) (hi : PI X tg iter (lI X.K wi)) (hg : PG X tg (lG X.K is g)) (hb : PSs X body (lS X.K b))
    (hs : ∀ x, foldedSetIterable iter X.env x = pure x := by intro _; rfl) : PS X (.For tg iter body [] pos) (lS X.K (wFor wi g b)) :=
  (ps_for hp hc hi hg hb hs).mo fun R σ H ⟨G, en, I, R', ok, q, k⟩ => ⟨G, en, I, _, ok, q, fun J H1 I1 e1 xs o1 x1 it q1 => by
    refine ⟨fun i m σ H => m = xs.length - i ∧ i ≤ xs.length ∧ ∃ en I, Ok X.K { G with I0 := I1 } σ en H I ∧ forW g b R' (xs.drop i) en, ⟨xs.length, by omega, Nat.zero_le _, e1, I1, o1.base o1 (Ex.rf I1), q1⟩, ?_⟩
    rintro i m σ2 H2 ⟨hm, hi, e2, I2, o2, q2⟩
    by_cases hlt : i < xs.length
    · rw [List.drop_eq_getElem_cons hlt] at q2
      refine Or.inr ⟨it.go i H2 I2 o2.i0 o2.iH hlt, fun σ H => ∃ en I, Ok X.K { G with I0 := I1 } σ en H I ∧ forW g b R' (xs.drop (i + 1)) en, fun σ' H' h => ⟨xs.length - (i + 1), by omega, rfl, hlt, h⟩, fun v H3 y3 => ?_⟩
      obtain ⟨I3, g3, d3⟩ := it.yld i H2 I2 v H3 _ o2.i0 o2.iH (List.getElem?_eq_getElem hlt) y3
      refine ⟨{ G with I0 := I1 }, e2, I3, xs[i], _, o2.gr g3, d3, q2, fun σ4 H4 I4 e4 o4 x4 _ _ q4 => ?_⟩
      refine ⟨{ G with I0 := I1 }, e4, I4, _, o4, q4, fun σ' H' I' en' o' h => ⟨en', I', o', h⟩, fun v σ' H' I' en' d o' dv h => ?_, fun σ' H' I' en' o' h => ?_, fun σ' H' I' en' o' h => ⟨en', I', o', h⟩⟩
      · exact k.2.1 v σ' H' I' en' d (o1.back o').1 dv h
      · exact k.1 σ' H' I' en' (o1.back o').1 h
    · have e : i = xs.length := by omega
      subst e
      rw [List.drop_length] at q2
      exact Or.inl ⟨it.stop H2 I2 o2.i0 o2.iH, k.1 σ2 H2 I2 e2 (o1.back o2).1 q2⟩⟩
/-! ### list comprehensions -/
theorem _root_.L2.PTs.mo {X : Cx} {ifs : List Expr} {t t' : TT} (h : PTs X ifs t) (m : ∀ σ H Q, t' σ H Q → t σ H Q) : PTs X ifs t' := ⟨fun pins s σ H Q I q => h.run pins s σ H Q I (m σ H Q q)⟩
def wYes : WT := fun en Q => Q true en
theorem ts_nil {X : Cx} : PTs X [] (lT X.K wYes) := pts_nil.mo fun σ H Q ⟨G, en, I, Q', o, q, k⟩ => k true H I en o (Ex.rf I) q
theorem ts_one {X : Cx} {c : Expr} {t : WT} (h : PT X c (lT X.K t)) : PTs X [c] (lT X.K t) := pts_one h
/-- the slots vs forgotten -/
def wip : List Nat → En → En
  | [], en => en
  | v :: vs, en => (wip vs en).set v .un
theorem wip_get : ∀ {vs : List Nat} {en : En} {i : Nat} {s : Sl}, (wip vs en)[i]? = some s → (i ∈ vs ∧ s = .un) ∨ (i ∉ vs ∧ en[i]? = some s)
  | [], en, i, s, h => Or.inr ⟨by simp, h⟩
  | v :: vs, en, i, s, h => by
    rcases set_get h with ⟨e, q⟩ | ⟨ne, q⟩
    · exact Or.inl ⟨by rw [e]; exact List.mem_cons_self, q⟩
    · rcases wip_get q with ⟨h1, h2⟩ | ⟨h1, h2⟩
      · exact Or.inl ⟨List.mem_cons_of_mem _ h1, h2⟩
      · exact Or.inr ⟨fun h => (List.mem_cons.mp h).elim (fun e => ne e.symm) h1, h2⟩
/-- none of the slots vs holds the caller's list -/
def FreeS (en : En) (vs : List Nat) : Prop := ∀ v ∈ vs, v ≠ 0 ∨ NotOwn en[v]?
theorem Ok.wip {K : PySem.W.Frag} {G : Gh} {σ : Sg} {en : En} {H I : Hp} (o : Ok K G σ en H I) : ∀ {vs : List Nat}, FreeS en vs → Ok K G (wipe σ vs) (wip vs en) H I
  | [], _ => o
  | v :: vs, h => by
    have o1 := Ok.wip o (vs := vs) fun u hu => h u (List.mem_cons_of_mem _ hu)
    refine o1.forget ?_
    rcases h v List.mem_cons_self with q | q
    · exact Or.inl q
    · refine Or.inr fun ds e => ?_
      rcases wip_get e with ⟨_, e2⟩ | ⟨_, e2⟩
      · cases e2
      · rw [e2] at q; exact q
/-- the slots vs as they were -/
def bak (vs : List Nat) (en e : En) : En := (List.range e.length).map fun i => if i ∈ vs then en.getD i .un else e.getD i .un
def lcW (g : WG) (t : WT) (w : WE) (vs : List Nat) : List D → List D → En → (List D → En → Prop) → Prop
  | [], acc, e, Q => Q acc e
  | x :: xs, acc, e, Q => g x e fun e1 => t e1 fun b e2 => FreeS e2 vs ∧ if b = true then w e2 fun y e3 => FreeS e3 vs ∧ lcW g t w vs xs (acc ++ [y]) (wip vs e3) Q else lcW g t w vs xs acc (wip vs e2) Q
def wLc (wi : WA) (g : WG) (t : WT) (w : WE) (vs : List Nat) : WA := fun en Q => wi en fun xs e1 => FreeS e1 vs ∧ (∀ v ∈ vs, NotOwn e1[v]?) ∧ xs.length ≤ sizeLine ∧ lcW g t w vs xs [] (wip vs e1) fun ys e2 => Q ys (bak vs e1 e2)
theorem wipe_out {i : Nat} : ∀ {σ : Sg} {vs : List Nat}, i ∉ vs → (wipe σ vs)[i]? = σ[i]?
  | σ, [], _ => rfl
  | σ, v :: vs, hi => by
    show ((wipe σ vs).set v none)[i]? = σ[i]?
    rw [List.getElem?_set_ne fun e => hi (by rw [e]; exact List.mem_cons_self)]
    exact wipe_out fun q => hi (List.mem_cons_of_mem _ q)
theorem wipe_in {i : Nat} {σ : Sg} (hl : i < σ.length) : ∀ {vs : List Nat}, i ∈ vs → (wipe σ vs)[i]? = some none
  | [], h => by cases h
  | v :: vs, hi => by
    show ((wipe σ vs).set v none)[i]? = some none
    by_cases e : v = i
    · subst e; rw [List.getElem?_set_self]; rw [wipe_length]; exact hl
    · rw [List.getElem?_set_ne e]
      exact wipe_in hl ((List.mem_cons.mp hi).resolve_left fun q => e q.symm)
theorem wipe_of {σ σ' : Sg} (hl : σ'.length = σ.length) {vs : List Nat} (h : ∀ j, j ∉ vs → σ'[j]? = σ[j]?) : wipe σ' vs = wipe σ vs := by
  refine List.ext_getElem? fun i => ?_
  by_cases hi : i ∈ vs
  · by_cases hl2 : i < σ.length
    · rw [wipe_in (by omega) hi, wipe_in hl2 hi]
    · rw [List.getElem?_eq_none (by rw [wipe_length]; omega), List.getElem?_eq_none (by rw [wipe_length]; omega)]
  · rw [wipe_out hi, wipe_out hi, h i hi]
theorem bak_get {vs : List Nat} {en e : En} {i : Nat} {s : Sl} (h : (bak vs en e)[i]? = some s) : i < e.length ∧ ((i ∈ vs ∧ s = en.getD i .un) ∨ (i ∉ vs ∧ e[i]? = some s)) := by
  unfold bak at h
  rw [List.getElem?_map] at h
  cases q : (List.range e.length)[i]? with
  | none => rw [q] at h; cases h
  | some j =>
    rw [q] at h
    obtain ⟨h1, h2⟩ := List.getElem?_eq_some_iff.mp q
    rw [List.getElem_range] at h2
    subst h2
    rw [List.length_range] at h1
    refine ⟨h1, ?_⟩
    have h3 : (if i ∈ vs then en.getD i .un else e.getD i .un) = s := Option.some.inj h
    by_cases hi : i ∈ vs
    · rw [if_pos hi] at h3; exact Or.inl ⟨hi, h3.symm⟩
    · rw [if_neg hi] at h3
      refine Or.inr ⟨hi, ?_⟩
      rw [List.getElem?_eq_getElem h1]
      rw [List.getD_eq_getElem?_getD, List.getElem?_eq_getElem h1] at h3
      exact congrArg some h3
theorem Ok.bak {K : PySem.W.Frag} {G : Gh} {σ : Sg} {e1 e : En} {H1 I1 H I : Hp} {vs : List Nat} (o1 : Ok K G σ e1 H1 I1) (n : ∀ v ∈ vs, NotOwn e1[v]?) (o : Ok K G (wipe σ vs) e H I) (x : Ex I1 I) : Ok K G σ (bak vs e1 e) H I := by
  have hl : σ.length = e.length := by rw [← o.ln, wipe_length]
  have own' : ∀ i b, OwnAt σ (Pd.bak vs e1 e) i b → OwnAt (wipe σ vs) e i b := fun i b ⟨q1, es, q2⟩ => by
    rcases (bak_get q2).2 with ⟨h1, h2⟩ | ⟨h1, h2⟩
    · have q := n i h1
      have h3 : e1[i]? = some (.own es) := by
        rw [List.getD_eq_getElem?_getD] at h2
        cases z : e1[i]? with
        | none => rw [z] at h2; cases h2
        | some y => rw [z] at h2; exact congrArg some h2.symm
      rw [h3] at q; exact q.elim
    · exact ⟨by rw [wipe_out h1]; exact q1, es, h2⟩
  refine ⟨o.i0, o.iH, o.nw, o.fr, by unfold Pd.bak; rw [List.length_map, List.length_range]; exact hl, fun i s q => ?_, fun i b q => o.ml i b (own' i b q), fun a b c q1 q2 => o.ds a b c (own' a c q1) (own' b c q2), fun b q => ?_, fun p hp => ⟨(o.pr p hp).1, (o.pr p hp).2.1, fun j q => (o.pr p hp).2.2 j (own' j _ q)⟩⟩
  · obtain ⟨hlt, q⟩ := bak_get q
    rcases q with ⟨h1, h2⟩ | ⟨h1, h2⟩
    · have q := n i h1
      rw [List.getD_eq_getElem?_getD] at h2
      cases z : e1[i]? with
      | none => rw [z] at h2; subst h2; trivial
      | some y =>
        rw [z] at h2 q
        have h3 : s = y := h2
        subst h3
        have r := o1.sl i s z
        cases s with
        | un => trivial
        | scr ns => obtain ⟨a, q1, q2⟩ := r; exact ⟨a, q1, sqs_ex x q2⟩
        | imm d =>
          obtain ⟨v, r1, r2⟩ := r
          exact ⟨v, r1, r2.up x⟩
        | own es => exact q.elim
    · have r := o.sl i s h2
      rw [wipe_out h1] at r
      exact r
  · obtain ⟨q1, es, q2⟩ := o.pj b q
    obtain ⟨q3, q4⟩ := wipe_some q1
    refine ⟨q3, es, ?_⟩
    have hlt : 0 < e.length := (List.getElem?_eq_some_iff.mp q2).1
    unfold Pd.bak
    rw [List.getElem?_map, List.getElem?_eq_getElem (by rw [List.length_range]; exact hlt), List.getElem_range]
    show some (if 0 ∈ vs then e1.getD 0 .un else e.getD 0 .un) = _
    rw [if_neg q4, List.getD_eq_getElem?_getD, q2]
    rfl
def hid (H : Hp) (p : Addr) : Hp := fun b => if b = p then none else H b
theorem hid_ne {H : Hp} {p a : Addr} (h : a ≠ p) : hid H p a = H a := if_neg h
theorem hid_at {H : Hp} {p : Addr} : hid H p p = none := if_pos rfl
/-- a protected object that is new since the entry is taken out of sight -/
theorem Ok.drop {K : PySem.W.Frag} {G : Gh} {σ : Sg} {en : En} {H I : Hp} {P : List (Addr × HO)} {p : Addr} {u : HO} (o : Ok K { G with P := (p, u) :: P } σ en H I) (he : G.He p = none) (hP : ∀ q ∈ P, q.1 ≠ p) : Ok K { G with P := P } σ en (hid H p) I ∧ H = upd (hid H p) p u := by
  obtain ⟨h1, h2, h3⟩ := o.pr (p, u) List.mem_cons_self
  refine ⟨⟨o.i0, fun a v h => ?_, o.nw, fun a v h1 h2 => ?_, o.ln, fun j s q => ?_, o.ml, o.ds, o.pj, fun q hq => ?_⟩, ?_⟩
  · have e : a ≠ p := fun e => by rw [e, h2] at h; cases h
    rw [hid_ne e]; exact o.iH a v h
  · have h1' : G.He a = some v := h1
    have e : a ≠ p := fun e => by rw [e, he] at h1'; cases h1'
    rw [hid_ne e]; exact o.fr a v h1 h2
  · have r := o.sl j s q
    cases s with
    | un => trivial
    | scr ns => exact r
    | imm d => exact r
    | own es =>
      obtain ⟨l', vs', r1, r2, r3, r4⟩ := r
      have e : l' ≠ p := fun e => h3 j ⟨by rw [r1, e], es, q⟩
      exact ⟨l', vs', r1, r2, by rw [hid_ne e]; exact r3, r4⟩
  · obtain ⟨q1, q2, q3⟩ := o.pr q (List.mem_cons_of_mem _ hq)
    exact ⟨by rw [hid_ne (hP q hq)]; exact q1, q2, q3⟩
  · funext b
    by_cases e : b = p
    · rw [e, upd_same, h1]
    · rw [upd_ne e, hid_ne e]
theorem Ok.fresh {K : PySem.W.Frag} {G : Gh} {σ : Sg} {en : En} {H I : Hp} (o : Ok K G σ en H I) {p : Addr} (hp : H p = none) : G.J ≠ some p ∧ G.He p = none ∧ ∀ q ∈ G.P, q.1 ≠ p := by
  have nj : G.J ≠ some p := fun hj => by
    obtain ⟨r1, es, r2⟩ := o.pj p hj
    obtain ⟨l', vs', r3, r4, r5, r6⟩ := o.own r2
    rw [r1] at r3
    have q5 : p = l' := by injection r3 with r3; injection r3 with r3; injection r3
    rw [← q5, hp] at r5; cases r5
  refine ⟨nj, ?_, fun q hq e => by rw [← e, (o.pr q hq).1] at hp; cases hp⟩
  cases q : G.He p with
  | none => rfl
  | some u => rw [o.fr p u q nj] at hp; cases hp
theorem lcm {K : PySem.W.Frag} {wi : WA} {is : List Nat} {g : WG} {t : WT} {w : WE} {vs : List Nat} {σ : Sg} {H : Hp} {Q : VK} (his : ∀ i ∈ is, i ∈ vs) (h : lL K (wLc wi g t w vs) σ H Q) : tLc (lI K wi) (lG K is g) (lT K t) (lE K w) vs σ H Q := by
  obtain ⟨G, en, I, Q', o, q, k⟩ := h
  refine ⟨G, en, I, _, o, q, fun J H1 I1 e1 xs o1 x1 it ⟨fr1, no1, hz, q1⟩ => fun D hD => ?_⟩
  obtain ⟨nj, hn, hP⟩ := o1.fresh hD
  have id2 : wipe (wipe σ vs) vs = wipe σ vs := wipe_of (wipe_length σ vs) fun j hj => wipe_out hj
  refine ⟨fun i m H => m = xs.length - i ∧ i ≤ xs.length ∧ ∃ e I acc vacc, Ok K { G with I0 := I1, P := (D, .lst vacc) :: G.P } (wipe σ vs) e H I ∧ DaAll K I vacc acc ∧ acc.length ≤ i ∧ lcW g t w vs (xs.drop i) acc e fun ys e2 => Q' ys (bak vs e1 e2),
    ⟨xs.length, by omega, Nat.zero_le _, wip vs e1, I1, [], [], ((o1.base o1 (Ex.rf I1)).wip fr1).prot hD, .nil, Nat.le_refl _, q1⟩, ?_⟩
  rintro i m H2 ⟨hm, hi, e2, I2, acc, vacc, o2, da2, hacc, q2⟩
  by_cases hlt : i < xs.length
  · rw [List.drop_eq_getElem_cons hlt] at q2
    refine Or.inr ⟨it.go i H2 I2 o2.i0 o2.iH hlt, fun H => ∃ e I acc vacc, Ok K { G with I0 := I1, P := (D, .lst vacc) :: G.P } (wipe σ vs) e H I ∧ DaAll K I vacc acc ∧ acc.length ≤ i + 1 ∧ lcW g t w vs (xs.drop (i + 1)) acc e fun ys e2 => Q' ys (bak vs e1 e2),
      fun H' h => ⟨xs.length - (i + 1), by omega, rfl, hlt, h⟩, fun v H3 y3 => ?_⟩
    obtain ⟨I3, g3, d3⟩ := it.yld i H2 I2 v H3 _ o2.i0 o2.iH (List.getElem?_eq_getElem hlt) y3
    refine ⟨_, e2, I3, xs[i], _, o2.gr g3, d3, q2, fun σ4 H4 I4 e4 o4 x4 l4 k4 q4 => ?_⟩
    have e4' : wipe σ4 vs = wipe σ vs := (wipe_of l4 fun j hj => k4 j fun h => hj (his j h)).trans id2
    refine ⟨e4', _, e4, I4, _, o4, q4, fun b H5 I5 e5 o5 x5 ⟨f5, q5⟩ => ?_⟩
    cases b with
    | false =>
      have o5' := o5.wip f5
      rw [e4'] at o5'
      exact ⟨wip vs e5, I5, acc, vacc, o5', ((da2.up g3.i).up x4).up x5, by omega, q5⟩
    | true =>
      refine ⟨_, e5, I5, _, o5, q5, fun y H6 I6 e6 d6 o6 x6 dv6 ⟨f6, q6⟩ => ?_⟩
      have da6 := (((da2.up g3.i).up x4).up x5).up x6
      refine ⟨vacc, (o6.pr _ List.mem_cons_self).1, by rw [dpa_len da6]; omega, ?_⟩
      have o6' := o6.wip f6
      rw [e4'] at o6'
      exact ⟨wip vs e6, I6, acc ++ [d6], vacc ++ [y], Ok.rewr (G := { G with I0 := I1 }) o6' nj hn hP, dpa_app da6 (.cons dv6 .nil), by rw [List.length_append, List.length_singleton]; omega, q6⟩
  · have e : i = xs.length := by omega
    subst e
    rw [List.drop_length] at q2
    refine Or.inl ⟨it.stop H2 I2 o2.i0 o2.iH, ?_⟩
    obtain ⟨o3, eH⟩ := Ok.drop (G := { G with I0 := I1 }) o2 hn hP
    rw [eH]
    have o3' : Ok K { G with I0 := I1 } (wipe σ vs) e2 (hid H2 D) I2 := o3
    obtain ⟨o4, x4⟩ := o1.back o3'
    exact k D vacc _ I2 _ acc (o1.bak no1 o4 x4) (x1.tr x4) hid_at da2 q2
theorem l_lc {X : Cx} {elt tg iter : Expr} {ifs : List Expr} {scope : Scope} {own : List (Str × Nat)} {pos : Pos} {wi : WA} {is : List Nat} {g : WG} {t : WT} {w : WE} (hc : X.calm = true) (hN : X.N.Nodup) (hi : PI X tg iter (lI X.K wi)) (ok : BlkOk X.N X.env.scope scope own)
    (hg : ∀ (s : Shared) (H : Hp) (C : Addr) (cl : List (Str × Addr)) (fp : List Addr), PG (X.blk s H scope (compEnvC scope cl C X.env) fp) tg (lG X.K is g)) (ht : ∀ (s : Shared) (H : Hp) (C : Addr) (cl : List (Str × Addr)) (fp : List Addr), PTs (X.blk s H scope (compEnvC scope cl C X.env) fp) ifs (lT X.K t))
    (he : ∀ (s : Shared) (H : Hp) (C : Addr) (cl : List (Str × Addr)) (fp : List Addr), PE (X.blk s H scope (compEnvC scope cl C X.env) fp) elt (lE X.K w)) (hs : ∀ x, foldedSetIterable iter X.env x = pure x := by intro _; rfl)
    (his : ∀ i ∈ is, i ∈ own.map (·.2) := by decide) :
    PE X (.ListComp elt [⟨tg, iter, ifs, 0⟩] scope pos) (lL X.K (wLc wi g t w (own.map (·.2)))) :=
  (pe_lc hc hN hi ok hg ht he hs).mo fun σ H Q h => lcm his h
end Pd

set_option Elab.async false
set_option linter.all false
set_option maxRecDepth 100000
set_option maxHeartbeats 4000000
namespace Pd
open PySem PySem.Spec PyProof.Rows L2
section
variable {X : Cx}
/-- x = [..] on one line -/
theorem s_lc {i : Nat} {y : Str} {py : Pos} {elt tg iter : Expr} {ifs : List Expr} {scope : Scope} {own : List (Str × Nat)} {pos spos : Pos} {wi : WA} {is : List Nat} {g : WG} {t : WT} {w : WE} (hc : X.calm = true) (hN : X.N.Nodup) (hy : X.N[i]? = some y) (hyl : X.env.scope.names.lookup y = some .local)
    (hsw : swapsWith (.ListComp elt [⟨tg, iter, ifs, 0⟩] scope pos) (some (.Name y py)) spos.line X.env = pure true) (hi : PI X tg iter (lI X.K wi)) (ok : BlkOk X.N X.env.scope scope own)
    (hg : ∀ (s : Shared) (H : Hp) (C : Addr) (cl : List (Str × Addr)) (fp : List Addr), PG (X.blk s H scope (compEnvC scope cl C X.env) fp) tg (lG X.K is g)) (ht : ∀ (s : Shared) (H : Hp) (C : Addr) (cl : List (Str × Addr)) (fp : List Addr), PTs (X.blk s H scope (compEnvC scope cl C X.env) fp) ifs (lT X.K t))
    (he : ∀ (s : Shared) (H : Hp) (C : Addr) (cl : List (Str × Addr)) (fp : List Addr), PE (X.blk s H scope (compEnvC scope cl C X.env) fp) elt (lE X.K w)) (hs : ∀ x, foldedSetIterable iter X.env x = pure x := by intro _; rfl)
    (his : ∀ i ∈ is, i ∈ own.map (·.2) := by decide) :
    PS X (.Assign [.Name y py] (.ListComp elt [⟨tg, iter, ifs, 0⟩] scope pos) spos) (lS X.K (wSet i (wLe (wLc wi g t w (own.map (·.2)))))) :=
  (ps_setLc hc hN hy hyl hsw hi ok hg ht he hs).mo fun R σ H ⟨G, en, I, R', o, q, k⟩ => lcm his ⟨G, en, I, _, o, q, fun p vs H1 I1 e1 ds o1 x1 hp dvs ⟨hi, q1⟩ => by
    obtain ⟨o2, x2⟩ := o1.new (u := .lst vs) hp
    exact k.1 _ _ _ _ (o2.put (.lst upd_same (dvs.up x2)) (hi.imp id notOwn_ne)) q1⟩
theorem s_lcOwn {i : Nat} {y : Str} {py : Pos} {elt tg iter : Expr} {ifs : List Expr} {scope : Scope} {own : List (Str × Nat)} {pos spos : Pos} {wi : WA} {is : List Nat} {g : WG} {t : WT} {w : WE} (hc : X.calm = true) (hN : X.N.Nodup) (hy : X.N[i]? = some y) (hyl : X.env.scope.names.lookup y = some .local)
    (hsw : swapsWith (.ListComp elt [⟨tg, iter, ifs, 0⟩] scope pos) (some (.Name y py)) spos.line X.env = pure true) (hi : PI X tg iter (lI X.K wi)) (ok : BlkOk X.N X.env.scope scope own)
    (hg : ∀ (s : Shared) (H : Hp) (C : Addr) (cl : List (Str × Addr)) (fp : List Addr), PG (X.blk s H scope (compEnvC scope cl C X.env) fp) tg (lG X.K is g)) (ht : ∀ (s : Shared) (H : Hp) (C : Addr) (cl : List (Str × Addr)) (fp : List Addr), PTs (X.blk s H scope (compEnvC scope cl C X.env) fp) ifs (lT X.K t))
    (he : ∀ (s : Shared) (H : Hp) (C : Addr) (cl : List (Str × Addr)) (fp : List Addr), PE (X.blk s H scope (compEnvC scope cl C X.env) fp) elt (lE X.K w)) (hs : ∀ x, foldedSetIterable iter X.env x = pure x := by intro _; rfl)
    (his : ∀ i ∈ is, i ∈ own.map (·.2) := by decide) :
    PS X (.Assign [.Name y py] (.ListComp elt [⟨tg, iter, ifs, 0⟩] scope pos) spos) (lS X.K (wSetOwn i (wLc wi g t w (own.map (·.2))))) :=
  (ps_setLc hc hN hy hyl hsw hi ok hg ht he hs).mo fun R σ H ⟨G, en, I, R', o, q, k⟩ => lcm his ⟨G, en, I, _, o, q, fun p vs H1 I1 e1 ds o1 x1 hp dvs ⟨hi, q1⟩ => k.1 _ _ _ _ (o1.putOwn hp dvs hi) q1⟩
/-! ### a, b = e1, e2 -/
def wPar (i j : Nat) (wa wb : WE) : WS := fun R en => wa en fun x e1 => wb e1 fun y e2 => (i ≠ 0 ∨ NotOwn e2[i]?) ∧ (j ≠ 0 ∨ NotOwn (e2.set i (.imm x))[j]?) ∧ R.nx ((e2.set i (.imm x)).set j (.imm y))
def wParOO (i j : Nat) (wa wb : WA) : WS := fun R en => wa en fun x e1 => wb e1 fun y e2 => i ≠ 0 ∧ j ≠ 0 ∧ R.nx ((e2.set i (.own x)).set j (.own y))
def wParOI (i j : Nat) (wa : WA) (wb : WE) : WS := fun R en => wa en fun x e1 => wb e1 fun y e2 => i ≠ 0 ∧ j ≠ 0 ∧ R.nx ((e2.set i (.own x)).set j (.imm y))
def wParIO (i j : Nat) (wa : WE) (wb : WA) : WS := fun R en => wa en fun x e1 => wb e1 fun y e2 => i ≠ 0 ∧ j ≠ 0 ∧ R.nx ((e2.set i (.imm x)).set j (.own y))
variable {i j : Nat} {x y : Str} {a b : Expr} {px py pt pos pt2 : Pos} {kt k2 : Nat}
theorem s_par {wa wb : WE} (h : PS X (.Assign [.Tuple [.Name x px, .Name y py] kt pt] (.Tuple [a, b] k2 pt2) pos) (tPar i j (tCons (lE X.K wa) (tCons (lE X.K wb) tNil)))) :
    PS X (.Assign [.Tuple [.Name x px, .Name y py] kt pt] (.Tuple [a, b] k2 pt2) pos) (lS X.K (wPar i j wa wb)) :=
  h.mo fun R σ H ⟨G, en, I, R', o, q, k⟩ => ⟨G, en, I, _, o, q, fun v H1 I1 e1 d o1 x1 dv q1 => ⟨G, e1, I1, _, o1, q1, fun u H2 I2 e2 d2 o2 x2 du ⟨h1, h2, q2⟩ => ⟨v, u, rfl, k.1 _ H2 I2 _ ((o2.put (dv.up x2) (h1.imp id notOwn_ne)).put du (h2.imp id notOwn_ne)) q2⟩⟩⟩
theorem s_parOO {wa wb : WA} (h : PS X (.Assign [.Tuple [.Name x px, .Name y py] kt pt] (.Tuple [a, b] k2 pt2) pos) (tPar i j (tCons (lL X.K wa) (tCons (lL X.K wb) tNil)))) :
    PS X (.Assign [.Tuple [.Name x px, .Name y py] kt pt] (.Tuple [a, b] k2 pt2) pos) (lS X.K (wParOO i j wa wb)) :=
  h.mo fun R σ H ⟨G, en, I, R', o, q, k⟩ => ⟨G, en, I, _, o, q, fun p vs H1 I1 e1 ds o1 x1 hp dvs q1 => by
    obtain ⟨nj, hn, hP⟩ := o1.fresh hp
    refine ⟨_, e1, I1, _, o1.prot (u := .lst vs) hp, q1, fun p2 us H2 I2 e2 es o2 x2 hp2 dus ⟨h1, h2, q2⟩ => ?_⟩
    obtain ⟨o3, eH⟩ := Ok.drop (G := G) (P := G.P) o2 hn hP
    have o4 := o3.putOwn (i := i) (p := p) (vs := vs) (ds := ds) hid_at (dvs.up x2) h1
    rw [← eH] at o4
    exact ⟨_, _, rfl, k.1 _ _ I2 _ (o4.putOwn hp2 dus h2) q2⟩⟩
theorem s_parOI {wa : WA} {wb : WE} (h : PS X (.Assign [.Tuple [.Name x px, .Name y py] kt pt] (.Tuple [a, b] k2 pt2) pos) (tPar i j (tCons (lL X.K wa) (tCons (lE X.K wb) tNil)))) :
    PS X (.Assign [.Tuple [.Name x px, .Name y py] kt pt] (.Tuple [a, b] k2 pt2) pos) (lS X.K (wParOI i j wa wb)) :=
  h.mo fun R σ H ⟨G, en, I, R', o, q, k⟩ => ⟨G, en, I, _, o, q, fun p vs H1 I1 e1 ds o1 x1 hp dvs q1 => by
    obtain ⟨nj, hn, hP⟩ := o1.fresh hp
    refine ⟨_, e1, I1, _, o1.prot (u := .lst vs) hp, q1, fun u H2 I2 e2 d2 o2 x2 du ⟨h1, h2, q2⟩ => ?_⟩
    obtain ⟨o3, eH⟩ := Ok.drop (G := G) (P := G.P) o2 hn hP
    have o4 := o3.putOwn (i := i) (p := p) (vs := vs) (ds := ds) hid_at (dvs.up x2) h1
    rw [← eH] at o4
    exact ⟨_, _, rfl, k.1 _ _ I2 _ (o4.put du (Or.inl h2)) q2⟩⟩
theorem s_parIO {wa : WE} {wb : WA} (h : PS X (.Assign [.Tuple [.Name x px, .Name y py] kt pt] (.Tuple [a, b] k2 pt2) pos) (tPar i j (tCons (lE X.K wa) (tCons (lL X.K wb) tNil)))) :
    PS X (.Assign [.Tuple [.Name x px, .Name y py] kt pt] (.Tuple [a, b] k2 pt2) pos) (lS X.K (wParIO i j wa wb)) :=
  h.mo fun R σ H ⟨G, en, I, R', o, q, k⟩ => ⟨G, en, I, _, o, q, fun v H1 I1 e1 d o1 x1 dv q1 => ⟨G, e1, I1, _, o1, q1, fun p us H2 I2 e2 es o2 x2 hp dus ⟨h1, h2, q2⟩ =>
    ⟨_, _, rfl, k.1 _ _ I2 _ ((o2.put (dv.up x2) (Or.inl h1)).putOwn hp dus h2) q2⟩⟩⟩
end
/-! ### a def of the text -/
section
variable {P : Program} {w : World} {K : PySem.W.Frag} {mg : Str → Option Value} {base : Heap} {x qual : Str} {params : Arguments} {body : List Stmt} {scope : Scope} {f : Addr} {fd : FuncData} {N ps : List Str} {k : Nat}
/-- what is wanted behind the body -/
def edP (Q' : D → Prop) : Ed := { nx := fun _ => Q' .none, rt := fun d _ => Q' d }
def edJ (Q' : D → List D → Prop) : Ed := { nx := fun en => ∀ dj, en[0]? = some (.own dj) → Q' .none dj, rt := fun d en => ∀ dj, en[0]? = some (.own dj) → Q' d dj }
def enP (N : List Str) (ds : List D) : En := ds.map .imm ++ List.replicate (N.length - ds.length) .un
def enJ (N : List Str) (dj ds : List D) : En := .own dj :: (ds.map .imm ++ List.replicate (N.length - (ds.length + 1)) .un)
theorem fnP {wf : WF} {ws : WS} (F : FunD K x qual params body scope [] [] f fd) (S : FnScope N ps scope)
    (hb : ∀ (cdv : Value) (A : Around) (outer : List Env) (s : Shared) (H : Hp) (E : XK), Room k (A.deeper (envOfC qual scope s.heap.objs.size f cdv)) → PSs (cxOf CX0 P w K mg base N qual scope f cdv A outer s H E).nox body (lS K ws))
    (hp : ∀ ds Q', ds.length = ps.length → wf ds Q' → ws (edP Q') (enP N ds)) : FnOk P w K mg base CX0 (k + 1) f fd ps (spP K ps.length wf) := by
  refine F.ok S (fun vs H Q E h => ?_) (fun cdv A outer s H vs Q E hr h => ?_)
  · obtain ⟨I, ds, Q', _, h2, h3, _⟩ := h
    rw [dpa_len h2, h3]
  · obtain ⟨I, ds, Q', h1, h2, h3, h4, h5⟩ := h
    refine ⟨lS K ws, PSs.nox (hb cdv A outer s H E hr), ?_⟩
    have hpl : ps.length ≤ N.length := by have := congrArg List.length S.pre; rw [List.length_take] at this; omega
    have hl : vs.length = ds.length := dpa_len h2
    have gsl : ∀ (i : Nat) (s : Sl), (enP N ds)[i]? = some s → SlOk K I H (L2.start N vs)[i]? s := fun i s hs => by
      unfold enP at hs
      by_cases hi : i < ds.length
      · rw [List.getElem?_append_left (by rw [List.length_map]; exact hi), List.getElem?_map] at hs
        cases q : ds[i]? with
        | none => rw [q] at hs; cases hs
        | some d =>
          rw [q] at hs
          cases hs
          obtain ⟨v, hv, dv⟩ := dpa_get h2 q
          refine ⟨v, ?_, dv⟩
          unfold L2.start
          rw [List.getElem?_append_left (by rw [List.length_map, hl]; exact hi), List.getElem?_map, hv]
          rfl
      · rw [List.getElem?_append_right (by rw [List.length_map]; omega), List.getElem?_replicate] at hs
        split at hs
        · cases hs; trivial
        · cases hs
    have nown : ∀ (i : Nat) (l : Addr), ¬ OwnAt (L2.start N vs) (enP N ds) i l := fun i l ⟨q1, es, q2⟩ => by
      unfold enP at q2
      by_cases hi : i < ds.length
      · rw [List.getElem?_append_left (by rw [List.length_map]; exact hi), List.getElem?_map] at q2
        cases q : ds[i]? with
        | none => rw [q] at q2; cases q2
        | some d => rw [q] at q2; cases q2
      · rw [List.getElem?_append_right (by rw [List.length_map]; omega), List.getElem?_replicate] at q2
        split at q2
        · cases q2
        · cases q2
    have o : Ok K ⟨H, I, none, []⟩ (L2.start N vs) (enP N ds) H I :=
      ⟨Ex.rf I, h1, fun a _ h => h, fun a o h _ => h, by unfold L2.start enP; simp [hl], gsl, fun i l h => absurd h (nown i l), fun i j l h => absurd h (nown i l), fun l h => (by cases h), fun p hp => (by cases hp)⟩
    refine lS_mk o (hp ds Q' h3 h4) ⟨fun σ' H' I' en' o' q => ?_, fun v σ' H' I' en' d o' dv q => ?_, fun _ _ _ _ _ q => q.elim, fun _ _ _ _ _ q => q.elim⟩
    · exact h5 .non H' I' .none ⟨fun a u q => o'.fr a u q (by simp), o'.i0, o'.iH, fun a h1 h2 => by
        cases q : H a with
        | none => rfl
        | some u => exact absurd (o'.nw a (show H a ≠ none by rw [q]; simp) h2) h1⟩ .non q
    · exact h5 v H' I' d ⟨fun a u q => o'.fr a u q (by simp), o'.i0, o'.iH, fun a h1 h2 => by
        cases q : H a with
        | none => rfl
        | some u => exact absurd (o'.nw a (show H a ≠ none by rw [q]; simp) h2) h1⟩ dv q
theorem fnJ {wf : WJ} {ws : WS} {n : Nat} (F : FunD K x qual params body scope [] [] f fd) (S : FnScope N ps scope) (hn : ps.length = n)
    (hb : ∀ (cdv : Value) (A : Around) (outer : List Env) (s : Shared) (H : Hp) (E : XK), Room k (A.deeper (envOfC qual scope s.heap.objs.size f cdv)) → PSs (cxOf CX0 P w K mg base N qual scope f cdv A outer s H E).nox body (lS K ws))
    (hp : ∀ dj ds Q', ds.length + 1 = n → wf dj ds Q' → ws (edJ Q') (enJ N dj ds)) : FnOk P w K mg base CX0 (k + 1) f fd ps (spJ K n wf) := by
  refine F.ok S (fun vs H Q E h => ?_) (fun cdv A outer s H vs Q E hr h => ?_)
  · obtain ⟨j, vj, dj, us, ds, I, Q', rfl, _, _, _, _, h6, h7, _⟩ := h
    rw [List.length_cons, dpa_len h6, h7, hn]
  · obtain ⟨j, vj, dj, us, ds, I, Q', rfl, g1, g2, g3, h1, h2, h3, h4, h5⟩ := h
    refine ⟨lS K ws, PSs.nox (hb cdv A outer s H E hr), ?_⟩
    have hpl : ps.length ≤ N.length := by have := congrArg List.length S.pre; rw [List.length_take] at this; omega
    have hl : us.length = ds.length := dpa_len h2
    have get_ : ∀ (i : Nat) (s : Sl), (enJ N dj ds)[i]? = some s → (i = 0 ∧ s = .own dj) ∨ (∃ d v, ds[i - 1]? = some d ∧ us[i - 1]? = some v ∧ Da K I v d ∧ s = .imm d ∧ 1 ≤ i ∧ (L2.start N (V.ref j :: us))[i]? = some (some v)) ∨ s = .un := fun i s hs => by
      unfold enJ at hs
      cases i with
      | zero => exact Or.inl ⟨rfl, by simpa using hs.symm⟩
      | succ i =>
        rw [List.getElem?_cons_succ] at hs
        by_cases hi : i < ds.length
        · rw [List.getElem?_append_left (by rw [List.length_map]; exact hi), List.getElem?_map] at hs
          cases q : ds[i]? with
          | none => rw [q] at hs; cases hs
          | some d =>
            rw [q] at hs
            cases hs
            obtain ⟨v, hv, dv⟩ := dpa_get h2 q
            refine Or.inr (Or.inl ⟨d, v, q, hv, dv, rfl, by omega, ?_⟩)
            unfold L2.start
            rw [List.getElem?_append_left (by rw [List.length_map, List.length_cons, hl]; omega), List.getElem?_map, List.getElem?_cons_succ, hv]
            rfl
        · rw [List.getElem?_append_right (by rw [List.length_map]; omega), List.getElem?_replicate] at hs
          split at hs
          · cases hs; exact Or.inr (Or.inr rfl)
          · cases hs
    have s0 : (L2.start N (V.ref j :: us))[0]? = some (some (V.ref j)) := by unfold L2.start; simp
    have own0 : ∀ (i : Nat) (l : Addr), OwnAt (L2.start N (V.ref j :: us)) (enJ N dj ds) i l → i = 0 ∧ l = j := fun i l ⟨q1, es, q2⟩ => by
      rcases get_ i _ q2 with ⟨e, _⟩ | ⟨d, v, _, _, _, e, _⟩ | e
      · subst e
        rw [s0] at q1
        injection q1 with q1; injection q1 with q1; injection q1 with q1
        exact ⟨rfl, q1.symm⟩
      · cases e
      · cases e
    have o : Ok K ⟨H, I, some j, []⟩ (L2.start N (V.ref j :: us)) (enJ N dj ds) H I := by
      refine ⟨Ex.rf I, h1, fun a _ h => h, fun a o h _ => h, ?_, fun i s hs => ?_, fun i l h => ?_, fun a b l h g => ?_, fun l h => ?_, fun p hp => (by cases hp)⟩
      · unfold L2.start enJ
        rw [List.length_append, List.length_map, List.length_replicate, List.length_cons, List.length_cons, List.length_append, List.length_map, List.length_replicate]
        omega
      · rcases get_ i s hs with ⟨e1, e2⟩ | ⟨d, v, q1, q2, q3, e, q4, q5⟩ | e
        · subst e1 e2
          exact ⟨j, vj, s0, g1, g2, g3⟩
        · subst e
          exact ⟨v, q5, q3⟩
        · subst e; trivial
      · obtain ⟨_, e⟩ := own0 i l h
        exact Or.inl (by rw [e])
      · rw [(own0 a l h).1, (own0 b l g).1]
      · have e : j = l := Option.some.inj h
        subst e
        exact ⟨s0, dj, rfl⟩
    have fin : ∀ {v σ' H' I' en' d}, Ok K ⟨H, I, some j, []⟩ σ' en' H' I' → Da K I' v d → (∀ dj, en'[0]? = some (.own dj) → Q' d dj) → Q v H' := fun {v σ' H' I' en' d} o' dv q => by
      obtain ⟨p1, dj', p2⟩ := o'.pj j rfl
      obtain ⟨l, vs', r1, r2, r3, r4⟩ := o'.own p2
      rw [p1] at r1
      have e : j = l := by injection r1 with r1; injection r1 with r1; injection r1
      subst e
      refine h5 v H' I' d vs' dj' (fun a u ha q => o'.fr a u q fun e => ha (Option.some.inj e).symm) o'.i0 o'.iH (fun a h1 h2 => ?_) r3 r4 dv (q dj' p2)
      cases z : H a with
      | none => rfl
      | some u => exact absurd (o'.nw a (show H a ≠ none by rw [z]; simp) h2) h1
    exact lS_mk o (hp dj ds Q' h3 h4) ⟨fun σ' H' I' en' o' q => fin o' .non q, fun v σ' H' I' en' d o' dv q => fin o' dv q, fun _ _ _ _ _ q => q.elim, fun _ _ _ _ _ q => q.elim⟩
end
end Pd

set_option Elab.async false
set_option linter.all false
set_option maxRecDepth 100000
set_option maxHeartbeats 4000000
namespace Pd
open PySem PySem.Spec PyProof.Rows L2
section
variable {K : PySem.W.Frag} {X : Cx}
/-! ### in, not in, over flat items -/
def flatD : D → Bool
  | .none | .bool _ | .int _ | .str _ => true
  | _ => false
theorem flat_da {I : Hp} {v : V} {d : D} (h : Da K I v d) (f : flatD d = true) : flatV v = true := by
  cases h <;> first | rfl | exact absurd f (by simp [flatD])
theorem eqv_da {I J : Hp} {v u : V} {d e : D} (h : Da K I v d) (g : Da K J u e) (f : flatD d = true) (f2 : flatD e = true) : eqV v u = PyData.eqv d e := by
  cases h <;> cases g <;> first | rfl | (simp [flatD] at f; done) | (simp [flatD] at f2; done) | simp [eqV, PyData.eqv]
theorem all_da {I : Hp} : ∀ {vs : List V} {ds : List D}, DaAll K I vs ds → ds.all flatD = true → vs.all flatV = true
  | _, _, .nil, _ => rfl
  | _, _, .cons h t, f => by
    rw [List.all_cons, Bool.and_eq_true] at f ⊢
    exact ⟨flat_da h f.1, all_da t f.2⟩
theorem in_da {I J : Hp} {v : V} {d : D} (h : Da K J v d) (fd : flatD d = true) : ∀ {vs : List V} {ds : List D}, DaAll K I vs ds → ds.all flatD = true → inV v vs = ds.any fun y => PyData.eqv y d
  | _, _, .nil, _ => rfl
  | _, _, .cons (v := w) (vs := vs) a t, f => by
    rw [List.all_cons, Bool.and_eq_true] at f
    show (w :: vs).any (fun y => eqV y v) = _
    rw [List.any_cons, List.any_cons, eqv_da a h f.1 fd]
    have q := in_da h fd t f.2
    unfold inV at q
    rw [q]
def dIn (neg : Bool) : D → D → D → Prop := fun x y z => ∃ ys, (y = .list ys ∨ y = .tuple ys) ∧ flatD x = true ∧ ys.all flatD = true ∧ z = .bool (if neg then !(ys.any fun y => PyData.eqv y x) else ys.any fun y => PyData.eqv y x)
theorem snd_in {neg : Bool} : SndOp K (rIn K neg) (dIn neg) := by
  rintro H I x y d e z iH hx hy ⟨ys, hy', fx, fy, rfl⟩ Q k
  rcases hy' with rfl | rfl
  · cases hy with
    | lst h a => exact ⟨_, _, rfl, Or.inl (SqL.of (iH _ _ h)), flat_da hx fx, all_da a fy, by rw [in_da hx fx a fy]; exact k _ H I (Gr.rf iH) (.bl _)⟩
  · cases hy with
    | tup h a => exact ⟨_, _, rfl, Or.inr (sqt_ex iH h), flat_da hx fx, all_da a fy, by rw [in_da hx fx a fy]; exact k _ H I (Gr.rf iH) (.bl _)⟩
/-! ### list + list, list * int, as new lists of one's own -/
variable {a b e : Expr} {pos : Pos} {wa wb : WE} {wl : WA}
def wCatL (wa wb : WE) : WA := fun en Q => wa en fun x e1 => wb e1 fun y e2 => ∃ xs ys, x = .list xs ∧ y = .list ys ∧ xs.length + ys.length ≤ sizeLine ∧ Q (xs ++ ys) e2
theorem l_cat (ha : PE X a (lE X.K wa)) (hb : PE X b (lE X.K wb)) : PE X (.BinOp a .Add b pos) (lL X.K (wCatL wa wb)) :=
  (pe_op op_cat ha hb).mo fun σ H Q ⟨G, en, I, Q', o, q, k⟩ => ⟨G, en, I, _, o, q, fun v H1 I1 e1 d o1 x1 dv q1 => ⟨G, e1, I1, _, o1, q1, fun u H2 I2 e2 d2 o2 x2 du ⟨xs, ys, hx, hy, hl, q2⟩ => by
    subst hx hy
    have dv2 := dv.up x2
    cases dv2 with
    | lst h1 a1 =>
      cases du with
      | lst h2 a2 => exact ⟨_, _, _, _, rfl, rfl, o2.iH _ _ h1, o2.iH _ _ h2, by rw [dpa_len a1, dpa_len a2]; exact hl, fun p hp => k p _ H2 I2 e2 _ o2 (x1.tr x2) hp (dpa_app a1 a2) q2⟩⟩⟩
def wRepL (wa wb : WE) : WA := fun en Q => wa en fun x e1 => wb e1 fun y e2 => ∃ xs m, x = .list xs ∧ y = .int m ∧ -(2 ^ 63) ≤ m ∧ m < 2 ^ 63 ∧ xs.length * m.toNat ≤ sizeLine ∧ Q (List.replicate m.toNat xs).flatten e2
theorem l_rep (ha : PE X a (lE X.K wa)) (hb : PE X b (lE X.K wb)) : PE X (.BinOp a .Mult b pos) (lL X.K (wRepL wa wb)) :=
  (pe_op op_rep ha hb).mo fun σ H Q ⟨G, en, I, Q', o, q, k⟩ => ⟨G, en, I, _, o, q, fun v H1 I1 e1 d o1 x1 dv q1 => ⟨G, e1, I1, _, o1, q1, fun u H2 I2 e2 d2 o2 x2 du ⟨xs, m, hx, hy, h1, h2, hl, q2⟩ => by
    subst hx hy
    have dv2 := dv.up x2
    cases du
    cases dv2 with
    | lst g1 a1 => exact ⟨_, m, _, rfl, rfl, o2.iH _ _ g1, h1, h2, by rw [dpa_len a1]; exact hl, fun p hp => k p _ H2 I2 e2 _ o2 (x1.tr x2) hp (dpa_rep a1 _) q2⟩⟩⟩
/-! ### calls by a bundle -/
def Cal (P : Program) (w : World) (K : PySem.W.Frag) (mg : Str → Option Value) (base : Heap) (k : Nat) (x : Str) (ps : List Str) (sp : Sp) : Prop :=
  ∃ (f : Addr) (fd : FuncData), FnOk P w K mg base CX0 k f fd ps sp ∧ mg x = some (.ref f) ∧ PySem.W.keepIn K (.ref f) = true ∧ Binds K fd ps []
variable {p : Pos} {x : Str} {k n : Nat} {ps : List Str} {es : List Expr}
theorem c_call {wf : WF} {w : WA} (C : Cal X.prog X.w X.K X.mg X.base k x ps (spP X.K n wf)) (hr : Room k X.A) (ha : PA X (e :: es) (lA X.K w)) (hg : Gl X x := by rfl)
    (hdb : (x == ("__debug__" : Str)) = false := by decide) (he : starEach (e :: es) X.env = (false, eval e X.env) :: starEach es X.env := by rfl) (hpl : (backTo pos (starEach es X.env)).any (·.1) = false := by rfl) :
    PE X (.Call (.Name x p) (e :: es) [] pos) (lE X.K (wFn n wf w)) := by
  obtain ⟨f, fd, F, hm, hk, hb⟩ := C
  exact d_call F hr hm hk hb ha hg hdb he hpl
theorem c_call0 {wf : WF} (C : Cal X.prog X.w X.K X.mg X.base k x ps (spP X.K 0 wf)) (hr : Room k X.A) (hg : Gl X x := by rfl) (hdb : (x == ("__debug__" : Str)) = false := by decide) : PE X (.Call (.Name x p) [] [] pos) (lE X.K (wFn 0 wf wNil)) := by
  obtain ⟨f, fd, F, hm, hk, hb⟩ := C
  exact d_call0 F hr hm hk hb hg hdb
theorem c_callJ {wf : WJ} {w : WA} {i : Nat} (C : Cal X.prog X.w X.K X.mg X.base k x ps (spJ X.K n wf)) (hr : Room k X.A) (h0 : PE X e (tVar i)) (ha : PA X es (lA X.K w)) (hg : Gl X x := by rfl)
    (hdb : (x == ("__debug__" : Str)) = false := by decide) (he : starEach (e :: es) X.env = (false, eval e X.env) :: starEach es X.env := by rfl) (hpl : (backTo pos (starEach es X.env)).any (·.1) = false := by rfl) :
    PE X (.Call (.Name x p) (e :: es) [] pos) (lE X.K (wFnJ i n wf w)) := by
  obtain ⟨f, fd, F, hm, hk, hb⟩ := C
  exact d_callJ F hr hm hk hb h0 ha hg hdb he hpl
/-- an int of the module -/
theorem d_gint {i : Int} (hm : ∃ t, X.mg x = some (.int i t)) (hg : Gl X x := by rfl) (hd : (x == ("__debug__" : Str)) = false := by decide) : PE X (.Name x pos) (lE X.K (wC (.int i))) := by
  obtain ⟨t, hm⟩ := hm
  exact d_c (pe_glob (v := .int i) hg hm ⟨t, rfl⟩ hd) fun _ => .int i
/-! ### greater powers -/
end
end Pd

set_option Elab.async false
set_option linter.all false
set_option maxRecDepth 100000
set_option maxHeartbeats 4000000
namespace Pd
open PySem PySem.Spec PyProof.Rows L2
open AutoSeq1 (wpAny_loadPart')
/-! ### enumerate over a tuple -/
theorem meets_enum1 {v : Value} {o : Obj} {H : Heap → Prop} (B : Begins v o H) :
    Meets (Builtin.«enumerate.__new__» ⟨[.type "enumerate", v], []⟩) (fun _ R s => H s.heap ∧
      R (.ok (.ret (.ref (s.heap.push o).objs.size))) { s with heap := (s.heap.push o).push { cls := .type "enumerate", data := .fields #[.none, .bool false, .ref s.heap.objs.size, rawInt 0, .none, .none] } }) :=
  .of_wp fun prog w A R s h => by
    obtain ⟨hp, g, d, tk, os⟩ := s; obtain ⟨hl, h⟩ := h
    have hsub := sub_enumerate
    have hB := fun (A : Around) (E : Value → Shared → Prop) (Q : Value → Shared → Prop) (q : Q (.ref hp.objs.size) ⟨hp.push o, g, d, tk, os⟩) => B.iter prog w A E ⟨hp, g, d, tk, os⟩ Q hl q
    wp_walk
    refine wpAny_stack_any fun st => wpAny_pure ?_
    split
    · rename_i c _ _ _ _ _
      cases (c == Value.type "enumerate")
      · wp_walk using hB
        exact ⟨_, rfl, h⟩
      · wp_walk using hB
        exact ⟨_, rfl, h⟩
    · wp_walk using hB
      exact ⟨_, rfl, h⟩
theorem call_enum1 {prog : Program} {w : World} {A : Around} {E : Value → Shared → Prop} {s : Shared} {v : Value} {o : Obj} {H : Heap → Prop} (B : Begins v o H) {Q : Value → Shared → Prop} (h1 : H s.heap)
    (h : ∀ h', IsEnum h' (s.heap.objs.size + 1) s.heap.objs.size 0 .none → h'.get? s.heap.objs.size = some o → h'.objs.size = s.heap.objs.size + 2 →
      (∀ b o, s.heap.get? b = some o → h'.get? b = some o) → Q (.ref (s.heap.objs.size + 1)) { s with heap := h' }) :
    wpAny (model prog w) A (call (.type "enumerate") [v]) Q E s := by
  refine callType_new F.called_enumerate (by decide) (F.typeCall_enumerate_1 _) (F.newCall_enumerate_1 _) (fun obj => F.args_object_init_2 obj _) F.entry_enumerate_new
    (meets_enum1 B) ⟨h1, ?_⟩
  have hz : (s.heap.push o).objs.size = s.heap.objs.size + 1 := Heap.size_push ..
  show _ ∧ _
  rw [hz]
  have he : IsEnum ((s.heap.push o).push { cls := .type "enumerate", data := .fields #[.none, .bool false, .ref s.heap.objs.size, rawInt 0, .none, .none] }) (s.heap.objs.size + 1) s.heap.objs.size 0 .none := by
    have := Heap.get?_push_size (s.heap.push o) (o := { cls := .type "enumerate", data := .fields #[.none, .bool false, .ref s.heap.objs.size, rawInt 0, .none, .none] }) rfl
    rw [hz] at this; exact this
  refine ⟨⟨_, he, rfl⟩, h _ he (Heap.get?_push_of_some _ (Heap.get?_push_size _ B.free)) (by rw [Heap.size_push, hz]) fun b o x => Heap.get?_push_of_some _ (Heap.get?_push_of_some _ x)⟩
theorem enum_endT {prog : Program} {w : World} {A : Around} {E : Value → Shared → Prop} {s : Shared} {e it l : Addr} {i : Nat} {items : Array Value} {old : Value} {Q : Option Value → Shared → Prop} (hh : A.handled = none)
    (he : IsEnum s.heap e it i old) (hit : s.heap.IsTupleIter it l i) (hl : s.heap.IsTuple l items) (hx : items[i]? = none)
    (hQ : ∀ h', Heap.ExtBut it s.heap h' → Q none { s with heap := h' }) : wpAny (model prog w) A (pyNext (.ref e)) Q E s := by
  have hT : s.TypeIs (.ref e) "enumerate" := ⟨_, he, rfl⟩
  unfold pyNext
  refine wpAny_bind (wpAny_attempt (wpAny_callSpecial?_slot (name := Str.ofString "__next__") hT F.slot_enumerate_next
    (wpAny_call_entry F.slot_enumerate_next hT F.entry_enumerate_next ?_ (F.args_enumerate_next_1 _))))
  show wpAny _ _ (field (.ref e) 2 >>= _) _ _ _
  refine wpAny_bind (wpAny_field he rfl (x := .ref it) rfl ?_)
  refine wpAny_bind (wpAny_nextOf_tuple_end (show A.in1.handled = none from hh) hit hl hx fun h' x he' hx' => ?_)
  obtain ⟨o, ho, hc⟩ := hx'
  refine wpAny_bind (wpAny_isInstance (T := "StopIteration") (b := true) ⟨o, ho, hc⟩ isSubtype_stop ?_)
  exact wpAny_pure (hQ _ he')
/-- the tuple at a as it stands at each turn, each item in a new pair -/
def IteT (K : PySem.W.Frag) (a : Addr) : It :=
  ⟨fun i H => ∃ (xs : List V) (x : V), SqT K H a xs ∧ xs[i]? = some x, fun i H v H' => ∃ T x, v = .ref T ∧ H T = none ∧ H' = upd H T (.tup [.int (i : Nat), x]) ∧ ∀ xs, SqT K H a xs → xs[i]? = some x, fun i H => ∃ xs : List V, SqT K H a xs ∧ xs.length ≤ i⟩
theorem ne_tup {h : Heap} {e it a : Addr} {c : Int} {old : Value} {items : Array Value} (he : IsEnum h e it c old) (ht : h.IsTuple a items) : e ≠ a := fun z => by
  obtain ⟨o, ho, hc, _⟩ := ht
  subst z
  have he' : h.get? e = some _ := he
  rw [he'] at ho
  have e := Option.some.inj ho
  rw [← e] at hc
  have hc' : Value.type "enumerate" = Value.type "tuple" := hc
  injection hc' with hc'
  exact absurd hc' (by decide)
theorem turn_enumT {P : Program} {w : World} {K : PySem.W.Frag} {elts : List Expr} {kk : Nat} {tpos : Pos} (a e it : Addr) (hai : a ≠ it) :
    Turn P w K (.Tuple elts kk tpos) (IteT K a) [e, it] e (fun i h => (∃ old, IsEnum h e it ((i : Nat) : Int) old) ∧ h.IsTupleIter it a i ∧ e ≠ it) where
  mem := by simp
  obj := fun i h st b hb => by
    obtain ⟨⟨old, he⟩, ⟨o, ho, hc, hd⟩, _⟩ := st
    have e' : b = e ∨ b = it := by simpa using hb
    rcases e' with z | z
    · rw [z]; exact ⟨_, he, fun v q => nomatch q⟩
    · rw [z]; exact ⟨o, ho, fun v q => by rw [hd] at q; cases q⟩
  keep := fun i h h' st k => let ⟨⟨old, he⟩, hi, hne⟩ := st; ⟨⟨old, k e (by simp) _ he⟩, hi.at fun o q => k it (by simp) o q, hne⟩
  item := by
    intro X hP hw hK hc i pins s σ H E I hf st hg
    subst hP hw hK
    obtain ⟨⟨old, he⟩, hit, hne⟩ := st
    obtain ⟨xs, x, hq, hx⟩ := hg
    obtain ⟨its, rv, p, hz⟩ := I.tuple hq
    have p' : s.heap.IsTuple a its.toArray := p
    obtain ⟨u, hu, ru⟩ := rv.get hx
    have hlt : i < its.toArray.size := by
      rw [List.size_toArray]
      exact (List.getElem?_eq_some_iff.mp hu).1
    have hel : e < s.heap.objs.size := Heap.lt_size he
    have hil : it < s.heap.objs.size := by obtain ⟨_, q, _⟩ := hit; exact Heap.lt_size q
    refine wpAny_pyNext_enum_itemD (Draws.tuple (show X.A.in1.handled = none from I.ok.hd hc) it a hai its.toArray) he ⟨hit, p'⟩ hlt hne (by simp [hne, ne_tup he p']) fun y h' tk hy ho hit' hT hsz hk => ?_
    have ey : y = u := by
      have h1 : its[i]? = some y := by simpa using hy
      rw [hu] at h1
      exact (Option.some.inj h1).symm
    subst ey
    refine ⟨_, rfl, wpAny_letOwnedTupleGo_enum (s := { s with heap := h', toks := tk + 1 }) ho fun h'' he' sb => ?_⟩
    have hT2 : h''.get? s.heap.objs.size = some { cls := .type "tuple", data := .seq #[.int i tk, y] } := (sb.2 _ (Nat.ne_of_gt hel)).trans hT
    have new : ObjOk X.prog X.w (upd H s.heap.objs.size (.tup [.int (i : Nat), x])) h'' s.heap.objs.size (.tup [.int (i : Nat), x]) :=
      ⟨by show 2 ≤ sizeLine; decide, [.int i tk, y], .cons ⟨_, rfl⟩ (.cons ru .nil), ⟨_, hT2, rfl, _, rfl⟩⟩
    have I1 : Inv X pins σ (upd H s.heap.objs.size (.tup [.int (i : Nat), x])) { s with heap := h'', toks := tk + 1 } :=
      I.turnedNew (ch := [e, it]) (fun b ob hb q => (sb.2 b (fun z => hb (by simp [z]))).trans (hk b ob (fun z => hb (by simp [z])) (fun z => hb (by simp [z])) q)) hf (Nat.le_refl _) new
    refine ⟨.ref s.heap.objs.size, _, I1, rfl, ⟨_, x, rfl, I.hok.fresh (Nat.le_refl _), rfl, fun ys hy => by rw [I.tuple_inj hy hq]; exact hx⟩, ⟨⟨y, ?_⟩, hit'.1.at fun o q => (sb.2 it (Ne.symm hne)).trans q, hne⟩, fun b hb => ?_⟩
    · have e1 : ((i + 1 : Nat) : Int) = (i : Int) + 1 := by omega
      rw [e1]; exact he'
    · have hb' : b < s.heap.objs.size := by
        have e' : b = e ∨ b = it := by simpa using hb
        rcases e' with z | z
        · rw [z]; exact hel
        · rw [z]; exact hil
      rw [upd_ne (Nat.ne_of_lt hb')]
      exact (hf b hb).1
  done := by
    intro X hP hw hK hc i pins s σ H E I hf st hg
    subst hP hw hK
    obtain ⟨⟨old, he⟩, hit, hne⟩ := st
    obtain ⟨xs, hq, hx⟩ := hg
    obtain ⟨its, rv, p, hz⟩ := I.tuple hq
    have p' : s.heap.IsTuple a its.toArray := p
    obtain ⟨f0, f1, f2, f3, f4, f5⟩ := hf it (by simp)
    have hl := rv.length
    exact enum_endT (I.ok.hd hc) he hit p' (by simp; omega) fun h' eb => ⟨rfl, I.turned (t' := s.toks) (fun b o hb q => eb b o hb q) f0 f1 f3 f4 f5⟩
  self := fun A i s Q E st h => let ⟨⟨_, he⟩, _⟩ := st; wpAny_pyIter_enum he h
def iEnA (K : PySem.W.Frag) (ta : TA) : TI := fun σ H R => ta σ H fun vs H1 => ∃ a, vs = [.ref a] ∧ ((∃ xs, SqL K H1 a xs ∧ R (Ite K a) H1) ∨ (∃ xs, SqT K H1 a xs ∧ R (IteT K a) H1))
theorem pi_enA {X : Cx} {e : Expr} {ta : TA} {p pos tpos : Pos} {elts : List Expr} {kk : Nat} (hg : Gl X "enumerate") (hm : X.mg "enumerate" = none) (ha : PA X [e] ta) (hs : starEach [e] X.env = [(false, eval e X.env)] := by rfl) :
    PI X (.Tuple elts kk tpos) (.Call (.Name "enumerate" p) [e] [] pos) (iEnA X.K ta) := by
  refine ⟨fun pins s σ H R I h => ?_⟩
  refine Call_ (ld_blt I hg hm boot_enumerate (PyProof.Rows.callWith_type1 (thn (ha.run pos pins s σ H _ I h) fun us s1 ⟨vs, H1, I1, r1, q1⟩ => ?_) hs rfl))
  obtain ⟨a, ex, q1⟩ := q1
  subst ex
  cases r1 with
  | cons r rr =>
    cases rr
    cases r
    have tail : ∀ b ∈ [s1.heap.objs.size + 1, s1.heap.objs.size], FpOk X pins H1 b := fun b hb => by
      have e' : b = s1.heap.objs.size + 1 ∨ b = s1.heap.objs.size := by simpa using hb
      have hle : s1.heap.objs.size ≤ b := by
        rcases e' with z | z
        · rw [z]; exact Nat.le_add_right _ _
        · rw [z]; exact Nat.le_refl _
      exact I1.fpOk hle (I1.hok.fresh hle)
    rcases q1 with ⟨xs, hq, q⟩ | ⟨xs, hq, q⟩
    · obtain ⟨its, rv, p', hz⟩ := I1.list hq
      refine call_enumerate_list p'.isList fun h' he hit hsz hk => wpAny_pyIter_enum he ?_
      have I2 : Inv X pins σ H1 { s1 with heap := h' } := I1.kept (t' := s1.toks) hk
      exact ⟨s1.heap.objs.size + 1, [s1.heap.objs.size + 1, s1.heap.objs.size], _, _, H1, rfl, I2, turn_enum a (s1.heap.objs.size + 1) s1.heap.objs.size, ⟨⟨.none, he⟩, hit, Nat.succ_ne_self _⟩, tail, q⟩
    · obtain ⟨its, rv, p', hz⟩ := I1.tuple hq
      have al : a < s1.heap.objs.size := by obtain ⟨_, z, _⟩ := p'; exact Heap.lt_size z
      refine call_enum1 (begins_tuple a its.toArray) p' fun h' he hit hsz hk => wpAny_pyIter_enum he ?_
      have I2 : Inv X pins σ H1 { s1 with heap := h' } := I1.kept (t' := s1.toks) hk
      exact ⟨s1.heap.objs.size + 1, [s1.heap.objs.size + 1, s1.heap.objs.size], _, _, H1, rfl, I2, turn_enumT a (s1.heap.objs.size + 1) s1.heap.objs.size (Nat.ne_of_lt al), ⟨⟨.none, he⟩, ⟨_, hit, rfl, rfl⟩, Nat.succ_ne_self _⟩, tail, q⟩
/-- pairs of number and item -/
def enuD : Nat → List D → List D
  | _, [] => []
  | i, x :: xs => .tuple [.int (i : Nat), x] :: enuD (i + 1) xs
theorem enuD_len : ∀ (i : Nat) (xs : List D), (enuD i xs).length = xs.length
  | _, [] => rfl
  | i, x :: xs => congrArg (· + 1) (enuD_len (i + 1) xs)
theorem enuD_get : ∀ {j : Nat} {xs : List D} {i : Nat} {d : D}, (enuD j xs)[i]? = some d → ∃ x, xs[i]? = some x ∧ d = .tuple [.int ((j + i : Nat) : Int), x]
  | _, [], _, _, h => by simp [enuD] at h
  | j, x :: xs, 0, d, h => by
    have e : PyData.tuple [.int (j : Nat), x] = d := Option.some.inj h
    exact ⟨x, rfl, e.symm⟩
  | j, x :: xs, i + 1, d, h => by
    have h' : (enuD (j + 1) xs)[i]? = some d := h
    obtain ⟨y, h1, h2⟩ := enuD_get h'
    refine ⟨y, h1, ?_⟩
    rw [h2, show j + 1 + i = j + (i + 1) by omega]
def zipD : List D → List D → List D
  | x :: xs, y :: ys => .tuple [x, y] :: zipD xs ys
  | _, _ => []
theorem zipD_get : ∀ {xs ys : List D} {i : Nat} {d : D}, (zipD xs ys)[i]? = some d → ∃ x y, xs[i]? = some x ∧ ys[i]? = some y ∧ d = .tuple [x, y]
  | [], _, _, _, h => by simp [zipD] at h
  | _ :: _, [], _, _, h => by simp [zipD] at h
  | x :: xs, y :: ys, 0, d, h => by
    have e : PyData.tuple [x, y] = d := Option.some.inj h
    exact ⟨x, y, rfl, rfl, e.symm⟩
  | x :: xs, y :: ys, i + 1, d, h => by
    have h' : (zipD xs ys)[i]? = some d := h
    obtain ⟨a, b, h1, h2, h3⟩ := zipD_get h'
    exact ⟨a, b, h1, h2, h3⟩
theorem zipD_len : ∀ (xs ys : List D), (zipD xs ys).length = min xs.length ys.length
  | [], ys => by simp [zipD]
  | x :: xs, [] => by simp [zipD]
  | x :: xs, y :: ys => by simp [zipD, zipD_len xs ys]
section
variable {K : PySem.W.Frag} {X : Cx} {tg e a b : Expr} {es elts : List Expr} {kk : Nat} {pos p tpos : Pos} {w : WA}
theorem pair_gr {H I : Hp} {T : Addr} {x y : V} {d e : D} (iH : Ex I H) (hT : H T = none) (hx : Da K I x d) (hy : Da K I y e) : ∃ I', Gr H I (upd H T (.tup [x, y])) I' ∧ Da K I' (.ref T) (.tuple [d, e]) :=
  ⟨_, Gr.nw (u := .tup [x, y]) iH hT, .tup (SqT.of upd_same) ((DaAll.cons hx (.cons hy .nil)).up (Gr.nw (u := .tup [x, y]) iH hT).i)⟩
theorem itd_enL {I : Hp} {a : Addr} {vs : List V} {ds : List D} (h : I a = some (.lst vs)) (hd : DaAll K I vs ds) : ItD K (Ite K a) I (enuD 0 ds) where
  go := fun i H I1 e1 e2 hi => by
    rw [enuD_len] at hi
    obtain ⟨v, hv, _⟩ := dpa_get hd (List.getElem?_eq_getElem hi)
    exact ⟨vs, v, SqL.of (e2 _ _ (e1 _ _ h)), hv⟩
  stop := fun H I1 e1 e2 => ⟨vs, SqL.of (e2 _ _ (e1 _ _ h)), by rw [enuD_len, dpa_len hd]; exact Nat.le_refl _⟩
  yld := fun i H I1 v H' d e1 e2 hd' ⟨T, x, ev, hT, eH, hv⟩ => by
    subst ev eH
    obtain ⟨y, hy, ed⟩ := enuD_get hd'
    obtain ⟨v', hv', q⟩ := dpa_get hd hy
    have := hv vs (SqL.of (e2 _ _ (e1 _ _ h)))
    rw [hv'] at this
    cases this
    subst ed
    rw [Nat.zero_add]
    exact pair_gr e2 hT (.int _) (q.up e1)
theorem itd_enT {I : Hp} {a : Addr} {vs : List V} {ds : List D} (h : SqT K I a vs) (hd : DaAll K I vs ds) : ItD K (IteT K a) I (enuD 0 ds) where
  go := fun i H I1 e1 e2 hi => by
    rw [enuD_len] at hi
    obtain ⟨v, hv, _⟩ := dpa_get hd (List.getElem?_eq_getElem hi)
    exact ⟨vs, v, sqt_ex (e1.tr e2) h, hv⟩
  stop := fun H I1 e1 e2 => ⟨vs, sqt_ex (e1.tr e2) h, by rw [enuD_len, dpa_len hd]; exact Nat.le_refl _⟩
  yld := fun i H I1 v H' d e1 e2 hd' ⟨T, x, ev, hT, eH, hv⟩ => by
    subst ev eH
    obtain ⟨y, hy, ed⟩ := enuD_get hd'
    obtain ⟨v', hv', q⟩ := dpa_get hd hy
    have := hv vs (sqt_ex (e1.tr e2) h)
    rw [hv'] at this
    cases this
    subst ed
    rw [Nat.zero_add]
    exact pair_gr e2 hT (.int _) (q.up e1)
def wEnum (w : WA) : WA := fun en Q => w en fun ds e1 => ∃ xs, (ds = [.list xs] ∨ ds = [.tuple xs]) ∧ Q (enuD 0 xs) e1
theorem i_enum (hm : X.mg "enumerate" = none) (ha : PA X [e] (lA X.K w)) (hg : Gl X "enumerate" := by rfl) (hs : starEach [e] X.env = [(false, eval e X.env)] := by rfl) : PI X (.Tuple elts kk tpos) (.Call (.Name "enumerate" p) [e] [] pos) (lI X.K (wEnum w)) :=
  (pi_enA hg hm ha hs).mo fun σ H R ⟨G, en, I, Q', o, q, k⟩ => ⟨G, en, I, _, o, q, fun vs H1 I1 e1 ds o1 x1 dvs ⟨xs, hd, q1⟩ => by
    rcases hd with rfl | rfl
    · cases dvs with
      | cons h t => cases t; cases h with
        | lst hs ha => exact ⟨_, rfl, Or.inl ⟨_, SqL.of (o1.iH _ _ hs), k _ H1 I1 e1 _ o1 x1 (itd_enL hs ha) q1⟩⟩
    · cases dvs with
      | cons h t => cases t; cases h with
        | tup hs ha => exact ⟨_, rfl, Or.inr ⟨_, sqt_ex o1.iH hs, k _ H1 I1 e1 _ o1 x1 (itd_enT hs ha) q1⟩⟩⟩
theorem itd_zipL {I : Hp} {a b : Addr} {vs us : List V} {ds es : List D} (h : I a = some (.lst vs)) (hd : DaAll K I vs ds) (g : I b = some (.lst us)) (he : DaAll K I us es) : ItD K (Itz K a b) I (zipD ds es) where
  go := fun i H I1 e1 e2 hi => by
    rw [zipD_len] at hi
    obtain ⟨v, hv, _⟩ := dpa_get hd (List.getElem?_eq_getElem (i := i) (by omega))
    obtain ⟨u, hu, _⟩ := dpa_get he (List.getElem?_eq_getElem (i := i) (by omega))
    exact ⟨vs, us, v, u, SqL.of (e2 _ _ (e1 _ _ h)), SqL.of (e2 _ _ (e1 _ _ g)), hv, hu⟩
  stop := fun H I1 e1 e2 => ⟨vs, us, SqL.of (e2 _ _ (e1 _ _ h)), SqL.of (e2 _ _ (e1 _ _ g)), by rw [zipD_len, dpa_len hd, dpa_len he]; omega⟩
  yld := fun i H I1 v H' d e1 e2 hd' ⟨T, x, y, ev, hT, eH, hv, hu⟩ => by
    subst ev eH
    obtain ⟨x', y', hx, hy, ed⟩ := zipD_get hd'
    obtain ⟨v', hv', q⟩ := dpa_get hd hx
    obtain ⟨u', hu', q'⟩ := dpa_get he hy
    have t1 := hv vs (SqL.of (e2 _ _ (e1 _ _ h)))
    have t2 := hu us (SqL.of (e2 _ _ (e1 _ _ g)))
    rw [hv'] at t1
    rw [hu'] at t2
    cases t1; cases t2
    subst ed
    exact pair_gr e2 hT (q.up e1) (q'.up e1)
theorem itd_zipT {I : Hp} {a b : Addr} {vs us : List V} {ds es : List D} (h : SqT K I a vs) (hd : DaAll K I vs ds) (g : SqT K I b us) (he : DaAll K I us es) : ItD K (RZ.ItzT K a b) I (zipD ds es) where
  go := fun i H I1 e1 e2 hi => by
    rw [zipD_len] at hi
    obtain ⟨v, hv, _⟩ := dpa_get hd (List.getElem?_eq_getElem (i := i) (by omega))
    obtain ⟨u, hu, _⟩ := dpa_get he (List.getElem?_eq_getElem (i := i) (by omega))
    exact ⟨vs, us, v, u, sqt_ex (e1.tr e2) h, sqt_ex (e1.tr e2) g, hv, hu⟩
  stop := fun H I1 e1 e2 => ⟨vs, us, sqt_ex (e1.tr e2) h, sqt_ex (e1.tr e2) g, by rw [zipD_len, dpa_len hd, dpa_len he]; omega⟩
  yld := fun i H I1 v H' d e1 e2 hd' ⟨T, x, y, ev, hT, eH, hv, hu⟩ => by
    subst ev eH
    obtain ⟨x', y', hx, hy, ed⟩ := zipD_get hd'
    obtain ⟨v', hv', q⟩ := dpa_get hd hx
    obtain ⟨u', hu', q'⟩ := dpa_get he hy
    have t1 := hv vs (sqt_ex (e1.tr e2) h)
    have t2 := hu us (sqt_ex (e1.tr e2) g)
    rw [hv'] at t1
    rw [hu'] at t2
    cases t1; cases t2
    subst ed
    exact pair_gr e2 hT (q.up e1) (q'.up e1)
def wZip (w : WA) : WA := fun en Q => w en fun ds e1 => ∃ xs ys, (ds = [.list xs, .list ys] ∨ ds = [.tuple xs, .tuple ys]) ∧ Q (zipD xs ys) e1
theorem i_zip (hm : X.mg "zip" = none) (ha : PA X [a, b] (lA X.K w)) (hg : Gl X "zip" := by rfl) (hs : starEach [a, b] X.env = (false, eval a X.env) :: starEach [b] X.env := by rfl) (hpl : (backTo pos (starEach [b] X.env)).any (·.1) = false := by rfl) :
    PI X (.Tuple elts kk tpos) (.Call (.Name "zip" p) [a, b] [] pos) (lI X.K (wZip w)) :=
  (RZ.pi_zipA hg hm ha hs hpl).mo fun σ H R ⟨G, en, I, Q', o, q, k⟩ => ⟨G, en, I, _, o, q, fun vs H1 I1 e1 ds o1 x1 dvs ⟨xs, ys, hd, q1⟩ => by
    rcases hd with rfl | rfl
    · cases dvs with
      | cons h t => cases t with
        | cons h2 t => cases t; cases h with
          | lst hs ha => cases h2 with
            | lst hs2 ha2 => exact ⟨_, _, _, _, rfl, Or.inl ⟨SqL.of (o1.iH _ _ hs), SqL.of (o1.iH _ _ hs2), k _ H1 I1 e1 _ o1 x1 (itd_zipL hs ha hs2 ha2) q1⟩⟩
    · cases dvs with
      | cons h t => cases t with
        | cons h2 t => cases t; cases h with
          | tup hs ha => cases h2 with
            | tup hs2 ha2 => exact ⟨_, _, _, _, rfl, Or.inr ⟨sqt_ex o1.iH hs, sqt_ex o1.iH hs2, k _ H1 I1 e1 _ o1 x1 (itd_zipT hs ha hs2 ha2) q1⟩⟩⟩
end
end Pd

set_option Elab.async false
set_option linter.all false
set_option maxRecDepth 100000
set_option maxHeartbeats 4000000
namespace Pd
open PySem PySem.Spec PyProof.Rows L2
section
variable {K : PySem.W.Frag} {X : Cx} {e a b : Expr} {es : List Expr} {pos p : Pos} {wb : WE} {x : Str} {k n : Nat} {ps : List Str}
/-! ### the law's own list -/
def wLenS (i : Nat) : WE := fun en Q => ∃ ns, en[i]? = some (.scr ns) ∧ Q (.int (ns.length : Nat)) en
theorem d_lenS {i : Nat} (hm : X.mg "len" = none) (ha : PE X e (tVar i)) (hg : Gl X "len" := by rfl)
    (he : starEach (e :: []) X.env = (false, eval e X.env) :: starEach [] X.env := by rfl) (hpl : (backTo pos (starEach [] X.env)).any (·.1) = false := by rfl) : PE X (.Call (.Name "len" p) [e] [] pos) (lE X.K (wLenS i)) :=
  (pe_callB call_len hg hm (by decide +kernel) (pa_cons ha pa_nil he) (by decide) (by decide) he hpl).mo fun σ H Q ⟨G, en, I, Q', o, ⟨ns, hd, q⟩, k⟩ => by
    obtain ⟨a, h1, h2⟩ := o.sl i _ hd
    exact ⟨.ref a, h1, _, ns.length, rfl, Or.inl ⟨_, (sqs_ex o.iH h2).l, by rw [List.length_map]⟩, k _ H I en _ o (Ex.rf I) (.int _) q⟩
def wIxS (i : Nat) (wb : WE) : WE := fun en Q => (∃ ns, en[i]? = some (.scr ns)) ∧ wb en fun y e1 => ∃ ns j m, e1[i]? = some (.scr ns) ∧ y = .int j ∧ atI ns j = some m ∧ Q (.int m) e1
theorem at_map {ns : List Int} {j m : Int} (h : atI ns j = some m) : atI (ns.map V.int) j = some (.int m) := by
  unfold atI at h ⊢
  rw [List.length_map]
  cases q : ixN ns.length j with
  | none => rw [q] at h; cases h
  | some t =>
    rw [q] at h
    have h' : ns[t]? = some m := h
    show (ns.map V.int)[t]? = _
    rw [List.getElem?_map, h']
    rfl
theorem d_ixS {i : Nat} (ha : PE X a (tVar i)) (hb : PE X b (lE X.K wb)) (hs : PlainIx b := by exact fun _ _ => rfl) : PE X (.Subscript a b pos) (lE X.K (wIxS i wb)) :=
  (pe_ix ix_seq ha hb hs).mo fun σ H Q ⟨G, en, I, Q', o, ⟨⟨ns0, hd0⟩, q⟩, k⟩ => by
    obtain ⟨l, h1, h2⟩ := o.sl i _ hd0
    refine ⟨.ref l, h1, G, en, I, _, o, q, fun u H1 I1 e1 d o1 x1 du ⟨ns, j, m, hd, hj, hm, q1⟩ => ?_⟩
    subst hj
    obtain ⟨l', h3, h4⟩ := o1.sl i _ hd
    rw [h1] at h3
    have q5 : l = l' := by injection h3 with h3; injection h3 with h3; injection h3
    subst q5
    exact Or.inl ⟨l, _, j, _, rfl, dp_int du, (sqs_ex o1.iH h4).l, at_map hm, k _ H1 I1 e1 _ o1 x1 (.int m) q1⟩
abbrev WSc := List Int → List D → (D → Prop) → Prop
/-- a def whose first argument is the law's list -/
def spS (K : PySem.W.Frag) (n : Nat) (wf : WSc) : Sp := fun vs H Q _ => ∃ (a : Addr) (ns : List Int) (us : List V) (ds : List D) (I : Hp) (Q' : D → Prop),
  vs = .ref a :: us ∧ Ex I H ∧ SqS K I a (ns.map V.int) ∧ DaAll K I us ds ∧ ds.length + 1 = n ∧ wf ns ds Q' ∧ ∀ v H' I' d, Gr H I H' I' → Da K I' v d → Q' d → Q v H'
/-- a call of such a def that hands back a new list of ints: one's own -/
def wFnS (i n : Nat) (wf : WSc) (w : WA) : WA := fun en Q => (∃ ns, en[i]? = some (.scr ns)) ∧ w en fun ds e1 => ∃ (ns js : List Int), ds = js.map PyData.int ∧ js.length + 1 = n ∧ e1[i]? = some (.scr ns) ∧ wf ns ds fun d => ∃ ms : List Int, d = .list (ms.map .int) ∧ Q (ms.map .int) e1
theorem c_callS {wf : WSc} {w : WA} {i : Nat} (C : Cal X.prog X.w X.K X.mg X.base k x ps (spS X.K n wf)) (hr : Room k X.A) (h0 : PE X e (tVar i)) (ha : PA X es (lA X.K w)) (hg : Gl X x := by rfl)
    (hdb : (x == ("__debug__" : Str)) = false := by decide) (he : starEach (e :: es) X.env = (false, eval e X.env) :: starEach es X.env := by rfl) (hpl : (backTo pos (starEach es X.env)).any (·.1) = false := by rfl) :
    PE X (.Call (.Name x p) (e :: es) [] pos) (lL X.K (wFnS i n wf w)) := by
  obtain ⟨f, fd, F, hm, hk, hb⟩ := C
  refine (pe_call F hr hg hm hk hb .nil pass0 (pa_cons h0 ha he) hdb he hpl).mo fun σ H Q ⟨G, en, I, Q', o, ⟨⟨ns0, hd0⟩, q⟩, k⟩ => ?_
  obtain ⟨l, h1, h2⟩ := o.sl i _ hd0
  refine ⟨.ref l, h1, G, en, I, _, o, q, fun vs H1 I1 e1 ds o1 x1 dvs ⟨ns, js, hjs, hn, hd, q1⟩ => ?_⟩
  obtain ⟨l', h3, h4⟩ := o1.sl i _ hd
  rw [h1] at h3
  have q5 : l = l' := by injection h3 with h3; injection h3 with h3; injection h3
  subst q5 hjs
  have evs := dpa_ints_inv js dvs
  subst evs
  -- the callee sees nothing but the law's list
  obtain ⟨J, jI, jl, jn⟩ : ∃ J : Hp, Ex J I1 ∧ SqS X.K J l (ns.map V.int) ∧ ∀ b xs, J b ≠ some (.lst xs) := by
    rcases h4 with ⟨w, h4⟩ | h4
    · refine ⟨fun b => if b = l then some (.frz w (.lst (ns.map V.int))) else none, fun b u hb => ?_, Or.inl ⟨w, if_pos rfl⟩, fun b xs hb => ?_⟩
      · by_cases eb : b = l
        · have hb' : (if b = l then some (HO.frz w (.lst (ns.map V.int))) else none) = some u := hb
          rw [if_pos eb] at hb'
          rw [eb, h4]; exact hb'
        · have hb' : (if b = l then some (HO.frz w (.lst (ns.map V.int))) else none) = some u := hb
          rw [if_neg eb] at hb'; cases hb'
      · have hb' : (if b = l then some (HO.frz w (.lst (ns.map V.int))) else none) = some (HO.lst xs) := hb
        split at hb' <;> cases hb'
    · exact ⟨fun _ => none, fun b u hb => (by cases hb), Or.inr h4, fun b xs hb => (by cases hb)⟩
  show spS X.K n wf ((V.ref l :: js.map V.int) ++ []) H1 Q E0
  rw [List.append_nil]
  refine ⟨l, ns, js.map V.int, js.map .int, J, _, rfl, jI.tr o1.iH, jl, dpa_ints js, by rw [List.length_map]; exact hn, q1, fun v H2 I2 d g dv ⟨ms, hms, q2⟩ => ?_⟩
  subst hms
  cases dv with
  | lst hp ha =>
    rename_i pp vs
    have ev := dpa_ints_inv ms ha
    subst ev
    have fresh : H1 pp = none := g.n pp (by rw [hp]; simp) (by
      cases z : J pp with
      | none => rfl
      | some u =>
        have z2 := g.i pp u z
        rw [hp] at z2
        cases z2
        exact absurd z (jn _ _))
    have e2 : Ex H1 (hid H2 pp) := fun b u hb => by
      have ne : b ≠ pp := fun e => by rw [e, fresh] at hb; cases hb
      rw [hid_ne ne]; exact g.h b u hb
    have eH : H2 = upd (hid H2 pp) pp (.lst (ms.map V.int)) := by
      funext b
      by_cases e : b = pp
      · rw [e, upd_same]; exact g.s _ _ hp
      · rw [upd_ne e, hid_ne e]
    rw [eH]
    exact k pp _ _ I1 e1 _ (o1.grow e2 (Ex.rf I1) (o1.iH.tr e2) fun a h1 h2 => absurd h2 h1) x1 hid_at (dpa_ints ms) q2
/-! ### the defs that take the law's list -/
def enS (N : List Str) (ns : List Int) (ds : List D) : En := .scr ns :: (ds.map .imm ++ List.replicate (N.length - (ds.length + 1)) .un)
end
section
variable {P : Program} {w : World} {K : PySem.W.Frag} {mg : Str → Option Value} {base : Heap} {x qual : Str} {params : Arguments} {body : List Stmt} {scope : Scope} {f : Addr} {fd : FuncData} {N ps : List Str} {k : Nat}
theorem fnS {wf : WSc} {ws : WS} {n : Nat} (F : FunD K x qual params body scope [] [] f fd) (S : FnScope N ps scope) (hn : ps.length = n)
    (hb : ∀ (cdv : Value) (A : Around) (outer : List Env) (s : Shared) (H : Hp) (E : XK), Room k (A.deeper (envOfC qual scope s.heap.objs.size f cdv)) → PSs (cxOf CX0 P w K mg base N qual scope f cdv A outer s H E).nox body (lS K ws))
    (hp : ∀ ns ds Q', ds.length + 1 = n → wf ns ds Q' → ws (edP Q') (enS N ns ds)) : FnOk P w K mg base CX0 (k + 1) f fd ps (spS K n wf) := by
  refine F.ok S (fun vs H Q E h => ?_) (fun cdv A outer s H vs Q E hr h => ?_)
  · obtain ⟨a, ns, us, ds, I, Q', rfl, _, _, h6, h7, _⟩ := h
    rw [List.length_cons, dpa_len h6, h7, hn]
  · obtain ⟨a, ns, us, ds, I, Q', rfl, h1, h0, h2, h3, h4, h5⟩ := h
    refine ⟨lS K ws, PSs.nox (hb cdv A outer s H E hr), ?_⟩
    have hpl : ps.length ≤ N.length := by have := congrArg List.length S.pre; rw [List.length_take] at this; omega
    have hl : us.length = ds.length := dpa_len h2
    have get_ : ∀ (i : Nat) (s : Sl), (enS N ns ds)[i]? = some s → (i = 0 ∧ s = .scr ns) ∨ (∃ d v, ds[i - 1]? = some d ∧ us[i - 1]? = some v ∧ Da K I v d ∧ s = .imm d ∧ 1 ≤ i ∧ (L2.start N (V.ref a :: us))[i]? = some (some v)) ∨ s = .un := fun i s hs => by
      unfold enS at hs
      cases i with
      | zero => exact Or.inl ⟨rfl, by simpa using hs.symm⟩
      | succ i =>
        rw [List.getElem?_cons_succ] at hs
        by_cases hi : i < ds.length
        · rw [List.getElem?_append_left (by rw [List.length_map]; exact hi), List.getElem?_map] at hs
          cases q : ds[i]? with
          | none => rw [q] at hs; cases hs
          | some d =>
            rw [q] at hs
            cases hs
            obtain ⟨v, hv, dv⟩ := dpa_get h2 q
            refine Or.inr (Or.inl ⟨d, v, q, hv, dv, rfl, by omega, ?_⟩)
            unfold L2.start
            rw [List.getElem?_append_left (by rw [List.length_map, List.length_cons, hl]; omega), List.getElem?_map, List.getElem?_cons_succ, hv]
            rfl
        · rw [List.getElem?_append_right (by rw [List.length_map]; omega), List.getElem?_replicate] at hs
          split at hs
          · cases hs; exact Or.inr (Or.inr rfl)
          · cases hs
    have s0 : (L2.start N (V.ref a :: us))[0]? = some (some (V.ref a)) := by unfold L2.start; simp
    have nown : ∀ (i : Nat) (l : Addr), ¬ OwnAt (L2.start N (V.ref a :: us)) (enS N ns ds) i l := fun i l ⟨q1, es, q2⟩ => by
      rcases get_ i _ q2 with ⟨e, e2⟩ | ⟨d, v, _, _, _, e, _⟩ | e
      · cases e2
      · cases e
      · cases e
    have o : Ok K ⟨H, I, none, []⟩ (L2.start N (V.ref a :: us)) (enS N ns ds) H I := by
      refine ⟨Ex.rf I, h1, fun a _ h => h, fun a o h _ => h, ?_, fun i s hs => ?_, fun i l h => absurd h (nown i l), fun i j l h => absurd h (nown i l), fun l h => (by cases h), fun p hp => (by cases hp)⟩
      · unfold L2.start enS
        rw [List.length_append, List.length_map, List.length_replicate, List.length_cons, List.length_cons, List.length_append, List.length_map, List.length_replicate]
        omega
      · rcases get_ i s hs with ⟨e1, e2⟩ | ⟨d, v, q1, q2, q3, e, q4, q5⟩ | e
        · subst e1 e2
          exact ⟨a, s0, h0⟩
        · subst e
          exact ⟨v, q5, q3⟩
        · subst e; trivial
    have fin : ∀ {v σ' H' I' en' d}, Ok K ⟨H, I, none, []⟩ σ' en' H' I' → Da K I' v d → Q' d → Q v H' := fun {v σ' H' I' en' d} o' dv q =>
      h5 v H' I' d ⟨fun a u q => o'.fr a u q (by simp), o'.i0, o'.iH, fun a h1 h2 => by
        cases z : H a with
        | none => rfl
        | some u => exact absurd (o'.nw a (show H a ≠ none by rw [z]; simp) h2) h1⟩ dv q
    exact lS_mk o (hp ns ds Q' h3 h4) ⟨fun σ' H' I' en' o' q => fin o' .non q, fun v σ' H' I' en' d o' dv q => fin o' dv q, fun _ _ _ _ _ q => q.elim, fun _ _ _ _ _ q => q.elim⟩
/-- the law hands back True -/
def wfLaw (n : Nat) : WSc := fun ns ds Q => ds = [] ∧ ns.length ≤ n ∧ Q (.bool true)
theorem law_sp {n : Nat} {H : Hp} {a : Addr} {ns : List Int} (hn : ns.length ≤ n) (hO : Only H) (hS : SqL K H a (ns.map V.int)) : spS K 1 (wfLaw n) [.ref a] H (fun v _ => v = .bl true) fun _ _ _ => False := by
  have h : SqS K H a (ns.map V.int) := by
    rcases hS with (h | ⟨o, h⟩) | h
    · rcases hO a with q | ⟨o, xs, q⟩
      · rw [q] at h; cases h
      · rw [q] at h; cases h
    · exact Or.inl ⟨o, h⟩
    · exact Or.inr fun _ => Or.inr h
  exact ⟨a, ns, [], [], H, fun d => d = .bool true, rfl, Ex.rf H, h, .nil, rfl, ⟨rfl, hn, rfl⟩, fun v H' I' d g dv hd => by
    subst hd
    exact dp_bl dv⟩
end
end Pd

set_option Elab.async false
set_option linter.all false
set_option maxRecDepth 100000
set_option maxHeartbeats 4000000
namespace Pd
open PySem PySem.Spec PyProof.Rows L2
section
variable {K : PySem.W.Frag} {X : Cx}
def dIadd : D → D → D → Prop := dInt (fun _ _ => True) fun i j => .int (i + j)
def dIsub : D → D → D → Prop := dInt (fun _ _ => True) fun i j => .int (i - j)
theorem snd_ipadd : SndOp K (ipI fun i j => i + j) dIadd := by
  rintro H I x y d e z iH hx hy ⟨i, j, rfl, rfl, _, rfl⟩ Q k
  cases hx; cases hy
  exact ⟨i, j, rfl, rfl, k _ H I (Gr.rf iH) (.int _)⟩
theorem snd_ipsub : SndOp K (ipI fun i j => i - j) dIsub := by
  rintro H I x y d e z iH hx hy ⟨i, j, rfl, rfl, _, rfl⟩ Q k
  cases hx; cases hy
  exact ⟨i, j, rfl, rfl, k _ H I (Gr.rf iH) (.int _)⟩
/-- math.gcd by the module's name -/
theorem d_gcd {p pos : Pos} {x : Str} {e : Expr} {es : List Expr} {w : WA} (hm : X.mg x = some (.builtin "math.gcd")) (ha : PA X (e :: es) (lA X.K w)) (hg : Gl X x := by rfl) (hdb : (x == ("__debug__" : Str)) = false := by decide)
    (he : starEach (e :: es) X.env = (false, eval e X.env) :: starEach es X.env := by rfl) (hpl : (backTo pos (starEach es X.env)).any (·.1) = false := by rfl) : PE X (.Call (.Name x p) (e :: es) [] pos) (lE X.K (wCl dGcd w)) :=
  (pe_callBfun cr_gcd hg hm ha hdb he hpl).mo fun σ H Q q => lcl snd_gcd q
/-- a target takes a value -/
def wAsgT (w : WE) (g : WG) : WS := fun R en => w en fun d e1 => g d e1 R.nx
theorem s_asgT {st : Stmt} {is : List Nat} {w : WE} {g : WG} (h : PS X st (tAsg (lE X.K w) (lG X.K is g))) : PS X st (lS X.K (wAsgT w g)) :=
  h.mo fun R σ H ⟨G, en, I, R', o, q, k⟩ => ⟨G, en, I, _, o, q, fun v H1 I1 e1 d o1 x1 dv q1 => ⟨G, e1, I1, d, R'.nx, o1, dv, q1, fun σ' H' I' en' o' x' l' k' q' => k.1 σ' H' I' en' o' q'⟩⟩
end
/-! ### readings of ints -/
theorem i_add {i j : Int} {z : D} : dAdd (.int i) (.int j) z ↔ z = .int (i + j) := Iff.rfl
theorem i_iadd {i j : Int} {z : D} : dIadd (.int i) (.int j) z ↔ z = .int (i + j) := ⟨fun ⟨_, _, rfl, rfl, _, h⟩ => h, fun h => ⟨_, _, rfl, rfl, trivial, h⟩⟩
theorem i_sub {i j : Int} {z : D} : dSub (.int i) (.int j) z ↔ z = .int (i - j) := ⟨fun ⟨_, _, rfl, rfl, _, h⟩ => h, fun h => ⟨_, _, rfl, rfl, trivial, h⟩⟩
theorem i_mul {i j : Int} {z : D} : dMul (.int i) (.int j) z ↔ MulOk i j ∧ z = .int (i * j) := by
  constructor
  · intro h
    rcases h with ⟨_, _, e1, e2, c, h⟩ | ⟨_, _, h, _⟩ | ⟨_, _, h, _⟩
    · cases e1; cases e2; exact ⟨c, h⟩
    · cases h
    · cases h
  · rintro ⟨c, h⟩
    exact Or.inl ⟨_, _, rfl, rfl, c, h⟩
theorem i_mod {i j : Int} {z : D} : dMod (.int i) (.int j) z ↔ 0 < j ∧ z = .int (i % j) := ⟨fun ⟨_, _, rfl, rfl, c, h⟩ => ⟨c, h⟩, fun ⟨c, h⟩ => ⟨_, _, rfl, rfl, c, h⟩⟩
theorem i_fdiv {i j : Int} {z : D} : dFdiv (.int i) (.int j) z ↔ CDivW i j ∧ z = .int (i / j) := ⟨fun ⟨_, _, rfl, rfl, c, h⟩ => ⟨c, h⟩, fun ⟨c, h⟩ => ⟨_, _, rfl, rfl, c, h⟩⟩
theorem i_pow {i j : Int} {z : D} : dPow (.int i) (.int j) z ↔ PowOk i j ∧ z = .int (i ^ j.toNat) := ⟨fun ⟨_, _, rfl, rfl, c, h⟩ => ⟨c, h⟩, fun ⟨c, h⟩ => ⟨_, _, rfl, rfl, c, h⟩⟩
theorem i_neg {i : Int} {z : D} : dNeg (.int i) z ↔ z = .int (-i) := ⟨fun ⟨_, rfl, h⟩ => h, fun h => ⟨_, rfl, h⟩⟩
theorem i_le {i j : Int} {z : D} : dLe (.int i) (.int j) z ↔ z = .bool (decide (i ≤ j)) := ⟨fun ⟨_, _, rfl, rfl, h⟩ => h, fun h => ⟨_, _, rfl, rfl, h⟩⟩
theorem i_ge {i j : Int} {z : D} : dGe (.int i) (.int j) z ↔ z = .bool (decide (j ≤ i)) := ⟨fun ⟨_, _, rfl, rfl, h⟩ => h, fun h => ⟨_, _, rfl, rfl, h⟩⟩
theorem i_gt {i j : Int} {z : D} : dGt (.int i) (.int j) z ↔ z = .bool (decide (j < i)) := ⟨fun ⟨_, _, rfl, rfl, h⟩ => h, fun h => ⟨_, _, rfl, rfl, h⟩⟩
theorem i_lt {i j : Int} {z : D} : dLt (.int i) (.int j) z ↔ z = .bool (decide (i < j)) := by
  constructor
  · intro h
    rcases h with ⟨_, _, e1, e2, h⟩ | ⟨_, _, e, _⟩
    · cases e1; cases e2; exact h
    · cases e
  · exact fun h => Or.inl ⟨_, _, rfl, rfl, h⟩
theorem ints_inj : ∀ {as bs : List Int}, as.map PyData.int = bs.map PyData.int → as = bs
  | [], [], _ => rfl
  | [], _ :: _, h => by cases h
  | _ :: _, [], h => by cases h
  | a :: as, b :: bs, h => by
    simp only [List.map_cons, List.cons.injEq, PyData.int.injEq] at h
    rw [h.1, ints_inj h.2]
theorem i_ltT {ns ms : List Int} {z : D} : dLt (.tuple (ns.map .int)) (.tuple (ms.map .int)) z ↔ z = .bool (HT.lexLt ns ms) := by
  constructor
  · intro h
    rcases h with ⟨_, _, e1, e2, h⟩ | ⟨ns', ms', e1, e2, h⟩
    · cases e1
    · simp only [PyData.tuple.injEq] at e1 e2
      rw [ints_inj e1, ints_inj e2]; exact h
  · exact fun h => Or.inr ⟨_, _, rfl, rfl, h⟩
theorem eqv_int {i j : Int} : PyData.eqv (.int i) (.int j) = decide (i = j) := by simp [PyData.eqv]; rfl
theorem i_eq {i j : Int} {z : D} : dEq (.int i) (.int j) z ↔ z = .bool (decide (i = j)) := by
  unfold dEq; rw [eqv_int]; exact ⟨fun h => h.2.2, fun h => ⟨rfl, rfl, h⟩⟩
theorem i_ne {i j : Int} {z : D} : dNe (.int i) (.int j) z ↔ z = .bool (decide (i ≠ j)) := by
  unfold dNe; rw [eqv_int, decide_not]; exact ⟨fun h => h.2.2, fun h => ⟨rfl, rfl, h⟩⟩
theorem i_intI {i : Int} {z : D} : dIntOf [.int i] z ↔ z = .int i := Iff.rfl
theorem i_intB {b : Bool} {z : D} : dIntOf [.bool b] z ↔ z = .int (if b then 1 else 0) := Iff.rfl
theorem i_abs {i : Int} {z : D} : dAbs [.int i] z ↔ z = .int (if i < 0 then -i else i) := ⟨fun ⟨_, e, h⟩ => by cases e; exact h, fun h => ⟨_, rfl, h⟩⟩
theorem i_max {i j : Int} {z : D} : dMax2 [.int i, .int j] z ↔ z = .int (if j > i then j else i) := ⟨fun ⟨_, _, e, h⟩ => by cases e; exact h, fun h => ⟨_, _, rfl, h⟩⟩
theorem i_min {i j : Int} {z : D} : dMin2 [.int i, .int j] z ↔ z = .int (if j < i then j else i) := ⟨fun ⟨_, _, e, h⟩ => by cases e; exact h, fun h => ⟨_, _, rfl, h⟩⟩
theorem i_lenL {xs : List D} {z : D} : dLen [.list xs] z ↔ z = .int xs.length := Iff.rfl
theorem i_lenT {xs : List D} {z : D} : dLen [.tuple xs] z ↔ z = .int xs.length := Iff.rfl
theorem i_ixL {xs : List D} {i : Int} {z : D} : dIx (.list xs) (.int i) z ↔ atI xs i = some z := Iff.rfl
theorem i_ixT {xs : List D} {i : Int} {z : D} : dIx (.tuple xs) (.int i) z ↔ atI xs i = some z := Iff.rfl
theorem i_tupL {xs : List D} {z : D} : dTupOf [.list xs] z ↔ z = .tuple xs := Iff.rfl
theorem i_tupT {xs : List D} {z : D} : dTupOf [.tuple xs] z ↔ z = .tuple xs := Iff.rfl
theorem i_truB {b c : Bool} : Tru (.bool b) c ↔ c = b := by unfold Tru; constructor <;> intro h <;> first | exact h | exact h.symm
end Pd

set_option Elab.async false
set_option linter.all false
set_option maxRecDepth 100000
set_option maxHeartbeats 4000000
namespace Pd
open PySem PySem.Spec PyProof.Rows L2
theorem small_l {i j : Int} (h : -(2 ^ 64) < i) (h2 : i < 2 ^ 64) : MulOk i j := Or.inl (Or.inl ⟨h, h2⟩)
theorem small_r {i j : Int} (h : -(2 ^ 64) < j) (h2 : j < 2 ^ 64) : MulOk i j := Or.inl (Or.inr ⟨h, h2⟩)
theorem pow_ok {i j : Int} (h : decide (0 ≤ j) && decide ((Builtin.Int.intBits i : Int) * j ≤ 2 ^ 27) = true) : PowOk i j := by
  simp only [Bool.and_eq_true, decide_eq_true_eq] at h
  exact h
theorem at0 {α : Type} {a : α} {l : List α} : atI (a :: l) 0 = some a := by
  unfold atI ixN; simp
theorem at_nat {α : Type} {l : List α} {i : Nat} (h : i < l.length) : atI l (i : Int) = some l[i] := by
  unfold atI ixN
  rw [if_pos (by omega), if_pos (by omega)]
  show l[(i : Int).toNat]? = _
  rw [show (i : Int).toNat = i by omega, List.getElem?_eq_getElem h]
theorem at_int {α : Type} {l : List α} {i : Int} (h0 : 0 ≤ i) (h : i < l.length) : ∃ x, atI l i = some x ∧ x ∈ l := by
  obtain ⟨k, rfl⟩ := Int.eq_ofNat_of_zero_le h0
  exact ⟨_, at_nat (by omega), List.getElem_mem _⟩
theorem at1 {α : Type} {a b : α} {l : List α} : atI (a :: b :: l) 1 = some b := at_nat (i := 1) (by simp)
theorem at2 {α : Type} {a b c : α} {l : List α} : atI (a :: b :: c :: l) 2 = some c := at_nat (i := 2) (by simp)
theorem ix30 : ixN 3 0 = some 0 := rfl
theorem ix31 : ixN 3 1 = some 1 := rfl
theorem ix32 : ixN 3 2 = some 2 := rfl
/-! ### comparisons of sequences of ints -/
theorem lay_ints : ∀ ls : List Int, PyData.canLayAll0 (ls.map .int) = true
  | [] => rfl
  | _ :: ls => lay_ints ls
theorem dep_ints : ∀ ls : List Int, PyData.depthAll (ls.map .int) = 0
  | [] => rfl
  | _ :: ls => by
    show max 0 (PyData.depthAll (ls.map .int)) = 0
    rw [dep_ints ls]; rfl
theorem shaped_tup (ls : List Int) : SeqAt.shaped (.tuple (ls.map .int)) = true := by
  show (PyData.canLayAll0 (ls.map .int) && decide (PyData.depthAll (ls.map .int) + 1 ≤ 64)) = true
  rw [lay_ints, dep_ints]; rfl
theorem shaped_lst (ls : List Int) : SeqAt.shaped (.list (ls.map .int)) = true := by
  show (PyData.canLayAll0 (ls.map .int) && decide (PyData.depthAll (ls.map .int) + 1 ≤ 64)) = true
  rw [lay_ints, dep_ints]; rfl
theorem eqv_ints : ∀ as bs : List Int, PyData.eqvAll (as.map .int) (bs.map .int) = decide (as = bs)
  | [], [] => rfl
  | [], _ :: _ => rfl
  | _ :: _, [] => rfl
  | a :: as, b :: bs => by
    show (PyData.eqv (.int a) (.int b) && PyData.eqvAll (as.map .int) (bs.map .int)) = _
    rw [eqv_int, eqv_ints as bs, ← Bool.decide_and]
    exact decide_eq_decide.mpr (by rw [List.cons.injEq])
theorem i_eqT {as bs : List Int} {z : D} : dEq (.tuple (as.map .int)) (.tuple (bs.map .int)) z ↔ z = .bool (decide (as = bs)) := by
  unfold dEq
  rw [show PyData.eqv (.tuple (as.map .int)) (.tuple (bs.map .int)) = decide (as = bs) from eqv_ints as bs]
  exact ⟨fun h => h.2.2, fun h => ⟨shaped_tup _, shaped_tup _, h⟩⟩
theorem i_neT {as bs : List Int} {z : D} : dNe (.tuple (as.map .int)) (.tuple (bs.map .int)) z ↔ z = .bool (decide (as ≠ bs)) := by
  unfold dNe
  rw [show PyData.eqv (.tuple (as.map .int)) (.tuple (bs.map .int)) = decide (as = bs) from eqv_ints as bs, decide_not]
  exact ⟨fun h => h.2.2, fun h => ⟨shaped_tup _, shaped_tup _, h⟩⟩
theorem i_eqL {as bs : List Int} {z : D} : dEq (.list (as.map .int)) (.list (bs.map .int)) z ↔ z = .bool (decide (as = bs)) := by
  unfold dEq
  rw [show PyData.eqv (.list (as.map .int)) (.list (bs.map .int)) = decide (as = bs) from eqv_ints as bs]
  exact ⟨fun h => h.2.2, fun h => ⟨shaped_lst _, shaped_lst _, h⟩⟩
theorem i_neL {as bs : List Int} {z : D} : dNe (.list (as.map .int)) (.list (bs.map .int)) z ↔ z = .bool (decide (as ≠ bs)) := by
  unfold dNe
  rw [show PyData.eqv (.list (as.map .int)) (.list (bs.map .int)) = decide (as = bs) from eqv_ints as bs, decide_not]
  exact ⟨fun h => h.2.2, fun h => ⟨shaped_lst _, shaped_lst _, h⟩⟩
theorem i_eqB {a b : Bool} {z : D} : dEq (.bool a) (.bool b) z ↔ z = .bool (a == b) := by
  unfold dEq; exact ⟨fun h => h.2.2, fun h => ⟨rfl, rfl, h⟩⟩
theorem i_neB {a b : Bool} {z : D} : dNe (.bool a) (.bool b) z ↔ z = .bool (!(a == b)) := by
  unfold dNe; exact ⟨fun h => h.2.2, fun h => ⟨rfl, rfl, h⟩⟩
/-! ### comprehensions -/
theorem lc_pure {j : Nat} {f : D → D} {w : WE} {en : En} (hj : j ≠ 0) : ∀ {xs acc : List D} {Q : List D → En → Prop}, (∀ x ∈ xs, ∀ Q : D → En → Prop, Q (f x) (en.set j (.imm x)) → w (en.set j (.imm x)) Q) → Q (acc ++ xs.map f) (en.set j .un) → lcW (wgN j) wYes w [j] xs acc (en.set j .un) Q
  | [], acc, Q, _, q => by rw [List.map_nil, List.append_nil] at q; exact q
  | x :: xs, acc, Q, h, q => by
    refine ⟨Or.inl hj, ?_⟩
    show FreeS _ [j] ∧ _
    rw [List.set_set]
    refine ⟨fun v hv => Or.inl (by rw [List.mem_singleton] at hv; rw [hv]; exact hj), ?_⟩
    rw [if_pos rfl]
    refine h x List.mem_cons_self _ ⟨fun v hv => Or.inl (by rw [List.mem_singleton] at hv; rw [hv]; exact hj), ?_⟩
    show lcW _ _ _ _ _ _ ((en.set j (.imm x)).set j .un) _
    rw [List.set_set]
    refine lc_pure hj (fun y hy => h y (List.mem_cons_of_mem _ hy)) ?_
    rw [List.append_assoc]
    exact q
theorem bak_one {j : Nat} {en : En} : bak [j] en (en.set j .un) = en := by
  refine List.ext_getElem? fun i => ?_
  unfold bak
  rw [List.getElem?_map, List.length_set]
  by_cases hi : i < en.length
  · rw [List.getElem?_eq_getElem (by rw [List.length_range]; exact hi), List.getElem_range, List.getElem?_eq_getElem hi]
    show some (if i ∈ [j] then en.getD i .un else (en.set j .un).getD i .un) = _
    by_cases hm : i ∈ [j]
    · rw [if_pos hm, List.getD_eq_getElem?_getD, List.getElem?_eq_getElem hi]; rfl
    · rw [if_neg hm, List.getD_eq_getElem?_getD, List.getElem?_set_ne (fun e => hm (by rw [e]; exact List.mem_singleton.mpr rfl)), List.getElem?_eq_getElem hi]; rfl
  · rw [List.getElem?_eq_none (by rw [List.length_range]; omega), List.getElem?_eq_none (by omega)]; rfl
theorem free_one {j : Nat} {en : En} (hj : j ≠ 0) : FreeS en [j] := fun v hv => Or.inl (by rw [List.mem_singleton] at hv; rw [hv]; exact hj)
/-- a comprehension without a test over one name, of no change -/
theorem lc1 {wi : WA} {j : Nat} {f : D → D} {w : WE} {en e1 : En} {xs : List D} {Q : List D → En → Prop} (hj : j ≠ 0) (hi : ∀ Q : List D → En → Prop, Q xs e1 → wi en Q) (hn : NotOwn e1[j]?) (hl : xs.length ≤ sizeLine)
    (hw : ∀ x ∈ xs, ∀ Q : D → En → Prop, Q (f x) (e1.set j (.imm x)) → w (e1.set j (.imm x)) Q) (q : Q (xs.map f) e1) : wLc wi (wgN j) wYes w [j] en Q := by
  refine hi _ ⟨free_one hj, fun v hv => by rw [List.mem_singleton] at hv; rw [hv]; exact hn, hl, ?_⟩
  show lcW _ _ _ _ _ _ (e1.set j .un) _
  refine lc_pure hj hw ?_
  show Q ([] ++ xs.map f) (bak [j] e1 (e1.set j .un))
  rw [bak_one]; exact q
/-- a comprehension with a test, of no change -/
theorem lc_if {j : Nat} {f : D → D} {c : D → Bool} {t : WT} {w : WE} {en : En} (hj : j ≠ 0) : ∀ {xs acc : List D} {Q : List D → En → Prop}, (∀ x ∈ xs, ∀ Q : Bool → En → Prop, Q (c x) (en.set j (.imm x)) → t (en.set j (.imm x)) Q) →
    (∀ x ∈ xs, c x = true → ∀ Q : D → En → Prop, Q (f x) (en.set j (.imm x)) → w (en.set j (.imm x)) Q) → Q (acc ++ (xs.filter c).map f) (en.set j .un) → lcW (wgN j) t w [j] xs acc (en.set j .un) Q
  | [], acc, Q, _, _, q => by
    have q' : Q (acc ++ []) (en.set j .un) := q
    rw [List.append_nil] at q'; exact q'
  | x :: xs, acc, Q, ht, h, q => by
    refine ⟨Or.inl hj, ?_⟩
    show t ((en.set j .un).set j (.imm x)) _
    rw [List.set_set]
    refine ht x List.mem_cons_self _ ⟨free_one hj, ?_⟩
    cases hc : c x with
    | true =>
      rw [if_pos rfl]
      refine h x List.mem_cons_self hc _ ⟨free_one hj, ?_⟩
      show lcW _ _ _ _ _ _ ((en.set j (.imm x)).set j .un) _
      rw [List.set_set]
      refine lc_if hj (fun y hy => ht y (List.mem_cons_of_mem _ hy)) (fun y hy => h y (List.mem_cons_of_mem _ hy)) ?_
      rw [List.append_assoc]
      rw [List.filter_cons_of_pos hc, List.map_cons] at q
      exact q
    | false =>
      rw [if_neg (by decide)]
      show lcW _ _ _ _ _ _ ((en.set j (.imm x)).set j .un) _
      rw [List.set_set]
      refine lc_if hj (fun y hy => ht y (List.mem_cons_of_mem _ hy)) (fun y hy => h y (List.mem_cons_of_mem _ hy)) ?_
      rw [List.filter_cons_of_neg (by rw [hc]; decide)] at q
      exact q
theorem lc1if {wi : WA} {j : Nat} {f : D → D} {c : D → Bool} {t : WT} {w : WE} {en e1 : En} {xs : List D} {Q : List D → En → Prop} (hj : j ≠ 0) (hi : ∀ Q : List D → En → Prop, Q xs e1 → wi en Q) (hn : NotOwn e1[j]?) (hl : xs.length ≤ sizeLine)
    (ht : ∀ x ∈ xs, ∀ Q : Bool → En → Prop, Q (c x) (e1.set j (.imm x)) → t (e1.set j (.imm x)) Q)
    (hw : ∀ x ∈ xs, c x = true → ∀ Q : D → En → Prop, Q (f x) (e1.set j (.imm x)) → w (e1.set j (.imm x)) Q) (q : Q ((xs.filter c).map f) e1) : wLc wi (wgN j) t w [j] en Q := by
  refine hi _ ⟨free_one hj, fun v hv => by rw [List.mem_singleton] at hv; rw [hv]; exact hn, hl, ?_⟩
  show lcW _ _ _ _ _ _ (e1.set j .un) _
  refine lc_if hj ht hw ?_
  show Q ([] ++ (xs.filter c).map f) (bak [j] e1 (e1.set j .un))
  rw [bak_one]; exact q
theorem log_lt {t : Int} (h0 : 0 < t) (h : t < 2 ^ 64) : t.natAbs.log2 < 9000 := by
  have h3 : t.natAbs.log2 < 64 := (Nat.log2_lt (by omega)).mpr (by omega)
  omega
theorem div_ok {i t : Int} (h0 : 0 < t) (h : t < 2 ^ 64) : CDivW i t := ⟨h0, log_lt h0 h⟩
end Pd

set_option Elab.async false
set_option linter.all false
set_option maxRecDepth 100000
set_option maxHeartbeats 4000000
namespace Pd
open PySem PySem.Spec PyProof.Rows L2
section
variable {K : PySem.W.Frag} {X : Cx} {e o : Expr} {w : WE}
/-! ### repr of a bool -/
def rReprB : List V → Hp → VK → Prop := fun xs H Q => ∃ b, xs = [.bl b] ∧ Q (.str (if b then "True" else "False")) H
theorem call_repr_bl : CallR X (.builtin "repr") rReprB := by
  intro pins s σ H xs us Q I r h
  obtain ⟨b, rfl, q⟩ := h
  cases r with
  | cons r1 r2 =>
    cases r2
    cases r1
    exact PySem.P.repr_of_bool ⟨.str _, H, I.tok _, ⟨_, rfl⟩, q⟩
def dReprB : List D → D → Prop := fun xs z => ∃ b : Bool, xs = [.bool b] ∧ z = .str (if b then "True" else "False")
theorem snd_reprB : SndCl K rReprB dReprB := by
  rintro H I xs ds z iH hx ⟨b, rfl, rfl⟩ Q k
  cases hx with
  | cons h t => cases t; cases h; exact ⟨b, rfl, k _ H I (Gr.rf iH) (.str _)⟩
theorem i_reprB {b : Bool} {z : D} : dReprB [.bool b] z ↔ z = .str (if b then "True" else "False") := ⟨fun ⟨_, e, h⟩ => by cases e; exact h, fun h => ⟨_, rfl, h⟩⟩
theorem i_neRB {a b : Bool} {z : D} : dNe (.str (if a then "True" else "False")) (.str (if b then "True" else "False")) z ↔ z = .bool (!(a == b)) := by
  cases a <;> cases b <;> exact ⟨fun h => h.2.2.trans (by rfl), fun h => ⟨by decide +kernel, by decide +kernel, h.trans (by rfl)⟩⟩
/-! ### xs.pop(i), xs one's own -/
def wPopO (i : Nat) (w : WE) : WE := fun en Q => (∃ ds, en[i]? = some (.own ds)) ∧ w en fun d e1 => ∃ ds j x, e1[i]? = some (.own ds) ∧ d = .int (j : Nat) ∧ j < 2 ^ 62 ∧ ds[j]? = some x ∧ Q x (e1.set i (.own (ds.eraseIdx j)))
theorem d_popO {i : Nat} {p1 p2 : Pos} (pe : PE X (.Call (.Attribute o "pop" p1) [e] [] p2) (tBM X.K "list" rPopAt (tVar i) (tCons (lE X.K w) tNil))) : PE X (.Call (.Attribute o "pop" p1) [e] [] p2) (lE X.K (wPopO i w)) :=
  pe.mo fun σ H Q ⟨G, en, I, Q', ok, ⟨⟨ds0, h0⟩, q⟩, k⟩ => by
    obtain ⟨l, vs0, r1, r2, r3, r4⟩ := ok.own h0
    refine ⟨.ref l, r1, Or.inl ⟨rfl, vs0, SqL.of r3⟩, G, en, I, _, ok, q, fun v H1 I1 e1 d o1 x1 dv ⟨ds, j, x, hd, hj, hz, hx, q1⟩ => ?_⟩
    subst hj
    obtain ⟨l', vs, s1, s2, s3, s4⟩ := o1.own hd
    rw [r1] at s1
    have q5 : l = l' := by injection s1 with s1; injection s1 with s1; injection s1
    subst q5
    obtain ⟨y, hy, dy⟩ := dpa_get s4 hx
    have hlt : j < vs.length := (List.getElem?_eq_some_iff.mp hy).1
    refine ⟨l, vs, j, j, y, rfl, by rw [dp_int dv], s3, by omega, by omega, ?_, hy, ?_⟩
    · unfold seqIndex?
      have h0 : ¬ ((j : Nat) : Int) < 0 := by omega
      simp only [h0, if_false]
      simp [hlt]
    · refine k y _ I1 _ x (o1.turn (H' := upd H1 l (.lst (vs.eraseIdx j))) (vs := vs.eraseIdx j) ⟨r1, ds, hd⟩ (fun a u ha h => by rw [upd_ne ha]; exact h) (Ex.rf I1) (fun a u h => ?_) (fun a h1 h2 => absurd h2 h1) upd_same (dpa_erase j s4)) x1 dy q1
      have : a ≠ l := fun ea => by subst ea; rw [s2] at h; cases h
      rw [upd_ne this]; exact o1.iH a u h
end
end Pd

set_option Elab.async false
set_option linter.all false
set_option maxRecDepth 100000
set_option maxHeartbeats 4000000
namespace Pd
open PySem PySem.Spec PyProof.Rows L2
/-! ### a head's facts, with the module's names of built-in functions -/
abbrev AlB : Type := He.AlD × Bool
def isBf (K : PySem.W.Frag) (b : Str × String) : Bool :=
  He.eqO (PySem.W.nsIn K mainGlobals b.1) (some (some (.builtin b.2)))
def obB (fa : List He.Fa) (fn : List He.DefD) (bs : List (Str × String)) (K : PySem.W.Frag) : AlB := ⟨He.obsD fa fn K, bs.all (isBf K)⟩
def obBG (n : Nat) (fa : List He.Fa) (fn : List He.DefD) (bs : List (Str × String)) (g : Addr → Option Obj) : AlB :=
  obB fa fn bs (He.frG g (He.asD g n))
def SaysB (fa : List He.Fa) (fn : List He.DefD) (bs : List (Str × String)) (K : PySem.W.Frag) : Prop := obB fa fn bs K = ⟨He.valD fn, true⟩
def hkB (n : Nat) (fa : List He.Fa) (fn : List He.DefD) (bs : List (Str × String)) : PySem.W.Hook where
  α := AlB
  val _ := ⟨He.valD fn, true⟩
  obs s := obBG n fa fn bs s.heap.get?
  says _ h := ∃ K, PySem.W.Frag.In K h ∧ SaysB fa fn bs K
  of _ _ e := ⟨_, He.frG_in, e⟩
  keeps _ _ _ := fun ⟨K, i, c⟩ k => ⟨K, PySem.W.Frag.In.keeps i k, c⟩
theorem obB_eq {n : Nat} {fa : List He.Fa} {fn : List He.DefD} {bs : List (Str × String)} {g : Addr → Option Obj} {s : Shared} (h : ∀ a, g a = s.heap.get? a) : obBG n fa fn bs g = (hkB n fa fn bs).obs s := by
  rw [show g = s.heap.get? from funext h]
  rfl
section
variable {fa : List He.Fa} {fn : List He.DefD} {bs : List (Str × String)} {K : PySem.W.Frag} {h : Heap} {mg : Str → Option Value}
theorem SaysB.d (c : SaysB fa fn bs K) : He.SaysD fa fn K := congrArg Prod.fst c
theorem SaysB.bf (c : SaysB fa fn bs K) (X : K.In h) (G : h.Ns mainGlobals mg) (i : Nat) {b : Str × String} (e : bs[i]? = some b := by rfl) : mg b.1 = some (.builtin b.2) := by
  have q : bs.all (isBf K) = true := congrArg Prod.snd c
  exact PySem.W.mg_of X G (He.eqO_ok (List.all_eq_true.mp q b (List.mem_of_getElem? e)))
end
/-! ### // by any divisor but 0 -/
def CDivG (_ j : Int) : Prop := j ≠ 0 ∧ j.natAbs.log2 < 9000
theorem op_fdivG {X : Cx} : OpR X (binaryOp .FloorDiv) (rI CDivG fun i j => .int (i.fdiv j)) := opI fun i j _ _ _ _ _ hc q =>
  floordiv_int hc.1 q (.inl (PyProof.noPylong_of_log2 hc.2))
def dFdivG : D → D → D → Prop := dInt CDivG fun i j => .int (i.fdiv j)
theorem snd_fdivG {K : PySem.W.Frag} : SndOp K (rI CDivG fun i j => .int (i.fdiv j)) dFdivG := snd_int
theorem i_fdivG {i j : Int} {z : D} : dFdivG (.int i) (.int j) z ↔ CDivG i j ∧ z = .int (i.fdiv j) := ⟨fun ⟨_, _, rfl, rfl, c, h⟩ => ⟨c, h⟩, fun ⟨c, h⟩ => ⟨_, _, rfl, rfl, c, h⟩⟩
theorem divG {i t : Int} (h0 : 0 < t) (h : t.natAbs.log2 < 9000) : CDivG i t := ⟨by omega, h⟩
/-! ### a, b, c = a list -/
def wgLs (n : Nat) (r : WGs) : WG := fun d en Q => ∃ ds, d = .list ds ∧ ds.length = n ∧ r ds en Q
theorem g_unl {X : Cx} {es : List Expr} {pos : Pos} {is : List Nat} {k n : Nat} {r : WGs} (hc : X.calm = true) (h : PGs X es (lGs X.K is r)) (pg : PG X (.Tuple es k pos) (gUnl X.K n (lGs X.K is r))) : PG X (.Tuple es k pos) (lG X.K is (wgLs n r)) :=
  pg.mo fun v σ H Q ⟨G, en, I, d, Q', o, dv, ⟨ds, hd, hn, q⟩, kk⟩ => by
    subst hd
    cases dv with
    | lst hs ha => exact ⟨_, _, rfl, SqL.of (o.iH _ _ hs), by rw [dpa_len ha]; exact hn, G, en, I, ds, Q', o, ha, q, kk⟩
end Pd

set_option Elab.async false
set_option linter.all false
set_option maxRecDepth 100000
set_option maxHeartbeats 4000000
namespace Pd
open PySem PySem.Spec PyProof.Rows L2
/-! ### fractions -/
def BB : Nat := 2 ^ 4000
theorem bb_pos : 0 < BB := by unfold BB; exact Nat.pow_pos (by decide)
theorem bb_sq : BB * BB ≤ 2 ^ 9000 := by decide +kernel
theorem bb_le : BB ≤ BB * BB := Nat.le_mul_of_pos_left _ bb_pos
theorem log_bb {n : Nat} (h : n < BB * BB) : n.log2 < 9000 := by
  by_cases h0 : n = 0
  · rw [h0]; decide
  · exact (Nat.log2_lt h0).mpr (Nat.lt_of_lt_of_le h bb_sq)
theorem mul_bb {i j : Int} (h : i.natAbs < BB) (h2 : j.natAbs < BB) : MulOk i j := by
  have h3 := log_bb (Nat.lt_of_lt_of_le h bb_le)
  have h4 := log_bb (Nat.lt_of_lt_of_le h2 bb_le)
  refine Or.inr ?_
  show _ < 1000000
  omega
/-- a fraction, as the program has it -/
def fr (q : Rat) : D := .tuple [.int q.num, .int q.den]
/-- its parts are below b -/
def Sm (b : Nat) (q : Rat) : Prop := q.num.natAbs < b ∧ q.den < b
theorem gcd_pos {t b : Int} (hb : b ≠ 0) : 0 < Int.gcd t b := Int.gcd_pos_of_ne_zero_right t hb
theorem gcd_le {t b : Int} (hb : b ≠ 0) : Int.gcd t b ≤ b.natAbs := Nat.le_of_dvd (by omega) (Nat.gcd_dvd_right _ _)
theorem low_den {t b : Int} (hb : b ≠ 0) : ((Rat.divInt t b).den : Int) = (b.natAbs : Int) / (Int.gcd t b : Int) := by
  rw [Rat.den_divInt, if_neg hb, Int.gcd_comm]; rfl
theorem low_num {t b : Int} (hb : b ≠ 0) : (Rat.divInt t b).num = b.sign * t / (Int.gcd t b : Int) := by
  rw [Rat.num_divInt, Int.gcd_comm]
theorem low_pos {t b : Int} (hb : 0 < b) : .tuple [.int (t / (Int.gcd t b : Int)), .int (b / (Int.gcd t b : Int))] = fr (Rat.divInt t b) := by
  unfold fr
  rw [low_den (by omega), low_num (by omega), Int.sign_eq_one_of_pos hb, Int.one_mul, Int.natAbs_of_nonneg (by omega)]
theorem low_neg {t b : Int} (hb : b < 0) : .tuple [.int ((-t) / (Int.gcd t b : Int)), .int ((-b) / (Int.gcd t b : Int))] = fr (Rat.divInt t b) := by
  unfold fr
  rw [low_den (by omega), low_num (by omega), Int.sign_eq_neg_one_of_neg hb, Int.neg_mul, Int.one_mul, Int.ofNat_natAbs_of_nonpos (by omega)]
theorem fdiv_pos {a b : Int} (h : 0 < b) : a.fdiv b = a / b := Int.fdiv_eq_ediv_of_nonneg a (by omega)
theorem fdiv_neg' {a b : Int} (h : 0 < b) (hd : b ∣ a) : a.fdiv (-b) = (-a) / b := by
  rw [Int.fdiv_neg (by omega), if_pos hd, fdiv_pos h, Int.neg_ediv_of_dvd hd]
theorem gcd_dvd_l {t b : Int} : (Int.gcd t b : Int) ∣ t := Int.gcd_dvd_left t b
theorem gcd_dvd_r {t b : Int} : (Int.gcd t b : Int) ∣ b := Int.gcd_dvd_right t b
theorem fr_add (p q : Rat) : Rat.divInt (p.num * q.den + q.num * p.den) (p.den * q.den) = p + q := by
  have hp : (p.den : Int) ≠ 0 := by have := p.den_pos; omega
  have hq : (q.den : Int) ≠ 0 := by have := q.den_pos; omega
  conv => rhs; rw [← Rat.num_divInt_den p, ← Rat.num_divInt_den q]
  rw [Rat.divInt_add_divInt _ _ hp hq]
theorem fr_mul (p q : Rat) : Rat.divInt (p.num * q.num) (p.den * q.den) = p * q := by
  conv => rhs; rw [← Rat.num_divInt_den p, ← Rat.num_divInt_den q]
  rw [Rat.divInt_mul_divInt]
theorem num_le {t b : Int} : (Rat.divInt t b).num.natAbs ≤ t.natAbs := by
  by_cases hb : b = 0
  · subst hb; rw [Rat.divInt_zero]; exact Nat.zero_le _
  · rw [low_num hb]
    have h1 : (b.sign * t / (Int.gcd t b : Int)).natAbs ≤ (b.sign * t).natAbs := by
      rw [Int.natAbs_ediv_of_dvd (Int.dvd_mul_of_dvd_right gcd_dvd_l)]
      exact Nat.div_le_self _ _
    rw [Int.natAbs_mul] at h1
    have h2 : b.sign.natAbs = 1 := Int.natAbs_sign_of_ne_zero hb
    rw [h2, Nat.one_mul] at h1
    exact h1
theorem den_le {t b : Int} (hb : b ≠ 0) : (Rat.divInt t b).den ≤ b.natAbs := by
  rw [Rat.den_divInt, if_neg hb]
  exact Nat.div_le_self _ _
theorem add_num_le (p q : Rat) : (p + q).num.natAbs ≤ p.num.natAbs * q.den + q.num.natAbs * p.den := by
  rw [← fr_add]
  refine Nat.le_trans num_le (Nat.le_trans (Int.natAbs_add_le _ _) ?_)
  rw [Int.natAbs_mul, Int.natAbs_mul]
  exact Nat.le_refl _
theorem add_den_le (p q : Rat) : (p + q).den ≤ p.den * q.den := by
  rw [← fr_add]
  have hp := p.den_pos
  have hq := q.den_pos
  have h := Nat.mul_pos hp hq
  refine Nat.le_trans (den_le (by rw [← Int.natCast_mul]; omega)) ?_
  rw [Int.natAbs_mul]
  exact Nat.le_refl _
theorem mul_num_le (p q : Rat) : (p * q).num.natAbs ≤ p.num.natAbs * q.num.natAbs := by
  rw [← fr_mul]
  refine Nat.le_trans num_le ?_
  rw [Int.natAbs_mul]
  exact Nat.le_refl _
theorem mul_den_le (p q : Rat) : (p * q).den ≤ p.den * q.den := by
  rw [← fr_mul]
  have hp := p.den_pos
  have hq := q.den_pos
  have h := Nat.mul_pos hp hq
  refine Nat.le_trans (den_le (by rw [← Int.natCast_mul]; omega)) ?_
  rw [Int.natAbs_mul]
  exact Nat.le_refl _
/-- parts of at most n -/
def Le (n : Nat) (q : Rat) : Prop := q.num.natAbs ≤ n ∧ q.den ≤ n
theorem le_add {p q : Rat} {a b : Nat} (hp : Le a p) (hq : Le b q) : Le (2 * (a * b)) (p + q) := by
  refine ⟨Nat.le_trans (add_num_le p q) ?_, Nat.le_trans (add_den_le p q) ?_⟩
  · have h1 := Nat.mul_le_mul hp.1 hq.2
    have h2 := Nat.mul_le_mul hq.1 hp.2
    rw [Nat.mul_comm b a] at h2
    omega
  · have h1 := Nat.mul_le_mul hp.2 hq.2
    omega
theorem le_mul {p q : Rat} {a b : Nat} (hp : Le a p) (hq : Le b q) : Le (a * b) (p * q) :=
  ⟨Nat.le_trans (mul_num_le p q) (Nat.mul_le_mul hp.1 hq.1), Nat.le_trans (mul_den_le p q) (Nat.mul_le_mul hp.2 hq.2)⟩
theorem le_neg {q : Rat} {b : Nat} (hq : Le b q) : Le b (-q) := ⟨by rw [Rat.neg_num, Int.natAbs_neg]; exact hq.1, by rw [Rat.neg_den]; exact hq.2⟩
theorem Le.sm {q : Rat} {n b : Nat} (h : Le n q) (hn : n < b) : Sm b q := ⟨Nat.lt_of_le_of_lt h.1 hn, Nat.lt_of_le_of_lt h.2 hn⟩
theorem Sm.up {q : Rat} {n b : Nat} (h : Sm n q) (hn : n ≤ b) : Sm b q := ⟨Nat.lt_of_lt_of_le h.1 hn, Nat.lt_of_lt_of_le h.2 hn⟩
theorem fr_inj {p q : Rat} (h : p.num = q.num) (h2 : (p.den : Int) = q.den) : p = q := Rat.ext h (by omega)
theorem fr_tup (q : Rat) : fr q = .tuple ([q.num, (q.den : Int)].map .int) := rfl
theorem i_neF {p q : Rat} {z : D} : dNe (fr p) (fr q) z ↔ z = .bool (decide (p ≠ q)) := by
  rw [fr_tup, fr_tup, i_neT]
  have e : ([p.num, (p.den : Int)] ≠ [q.num, (q.den : Int)]) = (p ≠ q) := propext ⟨fun h e => h (by rw [e]), fun h e => by
    simp only [List.cons.injEq, and_true] at e
    exact h (fr_inj e.1 e.2)⟩
  simp only [e]
theorem i_eqF {p q : Rat} {z : D} : dEq (fr p) (fr q) z ↔ z = .bool (decide (p = q)) := by
  rw [fr_tup, fr_tup, i_eqT]
  have e : ([p.num, (p.den : Int)] = [q.num, (q.den : Int)]) = (p = q) := propext ⟨fun e => by
    simp only [List.cons.injEq, and_true] at e
    exact fr_inj e.1 e.2, fun e => by rw [e]⟩
  simp only [e]
/-! ### any data beside itself -/
mutual
def plainD : D → Bool
  | .none | .bool _ | .int _ => true
  | .str _ => true
  | .list xs => plainA xs
  | .tuple xs => plainA xs
  | .dict _ => false
def plainA : List D → Bool
  | [] => true
  | x :: xs => plainD x && plainA xs
end
mutual
theorem eqv_rfl : ∀ d : D, plainD d = true → PyData.eqv d d = true
  | .none, _ => rfl
  | .bool b, _ => by show (b == b) = true; exact beq_self_eq_true b
  | .int i, _ => by show (i == i) = true; exact beq_self_eq_true i
  | .str x, _ => by show (x == x) = true; exact beq_self_eq_true x
  | .list xs, h => eqvA_rfl xs h
  | .tuple xs, h => eqvA_rfl xs h
  | .dict _, h => by cases h
theorem eqvA_rfl : ∀ ds : List D, plainA ds = true → PyData.eqvAll ds ds = true
  | [], _ => rfl
  | d :: ds, h => by
    have h' : (plainD d && plainA ds) = true := h
    rw [Bool.and_eq_true] at h'
    show (PyData.eqv d d && PyData.eqvAll ds ds) = true
    rw [eqv_rfl d h'.1, eqvA_rfl ds h'.2]; rfl
end
theorem ne_self {d : D} (h : plainD d = true) (s : SeqAt.shaped d = true) {z : D} : dNe d d z ↔ z = .bool false := by
  unfold dNe
  rw [eqv_rfl d h]
  exact ⟨fun q => q.2.2, fun q => ⟨s, s, q⟩⟩
theorem eq_self' {d : D} (h : plainD d = true) (s : SeqAt.shaped d = true) {z : D} : dEq d d z ↔ z = .bool true := by
  unfold dEq
  rw [eqv_rfl d h]
  exact ⟨fun q => q.2.2, fun q => ⟨s, s, q⟩⟩
/-! ### small steps -/
theorem wSeq_eq {t u : WS} {R : Ed} {en : En} : wSeq t u R en = t { R with nx := u R } en := rfl
theorem wLc_eq {wi : WA} {g : WG} {t : WT} {w : WE} {vs : List Nat} {en : En} {Q : List D → En → Prop} : wLc wi g t w vs en Q = wi en fun xs e1 => FreeS e1 vs ∧ (∀ v ∈ vs, NotOwn e1[v]?) ∧ xs.length ≤ sizeLine ∧ lcW g t w vs xs [] (wip vs e1) fun ys e2 => Q ys (bak vs e1 e2) := rfl
theorem no1 {en : En} {a : Nat} (h : NotOwn en[a]?) : ∀ v ∈ [a], NotOwn en[v]? := fun v hv => by
  rw [List.mem_singleton] at hv; rw [hv]; exact h
theorem no2 {en : En} {a b : Nat} (h : NotOwn en[a]?) (h2 : NotOwn en[b]?) : ∀ v ∈ [a, b], NotOwn en[v]? := fun v hv => by
  rcases List.mem_cons.mp hv with rfl | hv
  · exact h
  · exact no1 h2 v hv
theorem bak_self {vs : List Nat} {en : En} : bak vs en en = en := by
  refine List.ext_getElem? fun i => ?_
  unfold bak
  rw [List.getElem?_map]
  by_cases hi : i < en.length
  · rw [List.getElem?_eq_getElem (by rw [List.length_range]; exact hi), List.getElem_range, List.getElem?_eq_getElem hi]
    show some (if i ∈ vs then en.getD i .un else en.getD i .un) = _
    rw [ite_self, List.getD_eq_getElem?_getD, List.getElem?_eq_getElem hi]; rfl
  · rw [List.getElem?_eq_none (by rw [List.length_range]; omega), List.getElem?_eq_none (by omega)]; rfl
theorem free_of {en : En} {vs : List Nat} (h : ∀ v ∈ vs, v ≠ 0) : FreeS en vs := fun v hv => Or.inl (h v hv)
theorem bak_of {vs : List Nat} {en e : En} (h : ∀ v ∈ vs, en.getD v .un = e.getD v .un) : bak vs en e = e := by
  refine List.ext_getElem? fun i => ?_
  unfold bak
  rw [List.getElem?_map]
  by_cases hi : i < e.length
  · rw [List.getElem?_eq_getElem (by rw [List.length_range]; exact hi), List.getElem_range, List.getElem?_eq_getElem hi]
    show some (if i ∈ vs then en.getD i .un else e.getD i .un) = _
    have e1 : (if i ∈ vs then en.getD i .un else e.getD i .un) = e.getD i .un := by
      by_cases hm : i ∈ vs
      · rw [if_pos hm, h i hm]
      · rw [if_neg hm]
    rw [e1, List.getD_eq_getElem?_getD, List.getElem?_eq_getElem hi]; rfl
  · rw [List.getElem?_eq_none (by rw [List.length_range]; omega), List.getElem?_eq_none (by omega)]; rfl
theorem bak1 {j : Nat} {en e : En} (h : en.getD j .un = e.getD j .un) : bak [j] en e = e := bak_of fun v hv => by rw [List.mem_singleton] at hv; subst hv; exact h
/-! ### small sizes -/
theorem sz0 : (0 ≤ sizeLine) = True := eq_true (by decide)
theorem sz1 : (1 ≤ sizeLine) = True := eq_true (by decide)
theorem sz2 : (2 ≤ sizeLine) = True := eq_true (by decide)
theorem sz3 : (3 ≤ sizeLine) = True := eq_true (by decide)
theorem sz4 : (4 ≤ sizeLine) = True := eq_true (by decide)
theorem sz5 : (5 ≤ sizeLine) = True := eq_true (by decide)
theorem sz6 : (6 ≤ sizeLine) = True := eq_true (by decide)
theorem sz7 : (7 ≤ sizeLine) = True := eq_true (by decide)
theorem sz8 : (8 ≤ sizeLine) = True := eq_true (by decide)
theorem sz9 : (9 ≤ sizeLine) = True := eq_true (by decide)
theorem sz10 : (10 ≤ sizeLine) = True := eq_true (by decide)
theorem sz11 : (11 ≤ sizeLine) = True := eq_true (by decide)
theorem sz12 : (12 ≤ sizeLine) = True := eq_true (by decide)
theorem sz13 : (13 ≤ sizeLine) = True := eq_true (by decide)
theorem sz14 : (14 ≤ sizeLine) = True := eq_true (by decide)
theorem sz15 : (15 ≤ sizeLine) = True := eq_true (by decide)
theorem sz16 : (16 ≤ sizeLine) = True := eq_true (by decide)
theorem sz17 : (17 ≤ sizeLine) = True := eq_true (by decide)
theorem sz18 : (18 ≤ sizeLine) = True := eq_true (by decide)
theorem sz19 : (19 ≤ sizeLine) = True := eq_true (by decide)
theorem sz20 : (20 ≤ sizeLine) = True := eq_true (by decide)
theorem sz21 : (21 ≤ sizeLine) = True := eq_true (by decide)
theorem sz22 : (22 ≤ sizeLine) = True := eq_true (by decide)
theorem sz23 : (23 ≤ sizeLine) = True := eq_true (by decide)
theorem sz24 : (24 ≤ sizeLine) = True := eq_true (by decide)
theorem sz25 : (25 ≤ sizeLine) = True := eq_true (by decide)
theorem sz26 : (26 ≤ sizeLine) = True := eq_true (by decide)
theorem sz27 : (27 ≤ sizeLine) = True := eq_true (by decide)
theorem sz28 : (28 ≤ sizeLine) = True := eq_true (by decide)
theorem sz29 : (29 ≤ sizeLine) = True := eq_true (by decide)
theorem sz30 : (30 ≤ sizeLine) = True := eq_true (by decide)
theorem sz31 : (31 ≤ sizeLine) = True := eq_true (by decide)
theorem sz32 : (32 ≤ sizeLine) = True := eq_true (by decide)
theorem sz33 : (33 ≤ sizeLine) = True := eq_true (by decide)
theorem sz34 : (34 ≤ sizeLine) = True := eq_true (by decide)
theorem sz35 : (35 ≤ sizeLine) = True := eq_true (by decide)
theorem sz36 : (36 ≤ sizeLine) = True := eq_true (by decide)
theorem sz37 : (37 ≤ sizeLine) = True := eq_true (by decide)
theorem sz38 : (38 ≤ sizeLine) = True := eq_true (by decide)
theorem sz39 : (39 ≤ sizeLine) = True := eq_true (by decide)
theorem sz40 : (40 ≤ sizeLine) = True := eq_true (by decide)
theorem i_addL {xs ys : List D} {z : D} : dAdd (.list xs) (.list ys) z ↔ xs.length + ys.length ≤ sizeLine ∧ z = .list (xs ++ ys) := Iff.rfl
theorem i_addT {xs ys : List D} {z : D} : dAdd (.tuple xs) (.tuple ys) z ↔ xs.length + ys.length ≤ sizeLine ∧ z = .tuple (xs ++ ys) := Iff.rfl
theorem join {c : Prop} [Decidable c] {A B : Prop} (f : c → B → A) (b : B) : if c then A else B := by
  by_cases h : c
  · rw [if_pos h]; exact f h b
  · rw [if_neg h]; exact b
end Pd

set_option Elab.async false
set_option linter.all false
set_option maxRecDepth 100000
set_option maxHeartbeats 4000000
namespace Pd
open PySem PySem.Spec PyProof.Rows L2
theorem lc_gen {α : Type} {g : WG} {t : WT} {w : WE} {vs : List Nat} {W : En} {X f : α → D} {E : α → En} {c : α → Bool} (hv : ∀ v ∈ vs, v ≠ 0) (hE : ∀ x, wip vs (E x) = W) : ∀ {xs : List α} {acc : List D} {Q : List D → En → Prop},
    (∀ x ∈ xs, ∀ Q : En → Prop, Q (E x) → g (X x) W Q) → (∀ x ∈ xs, ∀ Q : Bool → En → Prop, Q (c x) (E x) → t (E x) Q) → (∀ x ∈ xs, c x = true → ∀ Q : D → En → Prop, Q (f x) (E x) → w (E x) Q) →
    Q (acc ++ (xs.filter c).map f) W → lcW g t w vs (xs.map X) acc W Q
  | [], acc, Q, _, _, _, q => by
    have q' : Q (acc ++ []) W := q
    rw [List.append_nil] at q'; exact q'
  | x :: xs, acc, Q, hg, ht, hw, q => by
    rw [List.map_cons]
    show g (X x) W _
    refine hg x List.mem_cons_self _ (ht x List.mem_cons_self _ ⟨free_of hv, ?_⟩)
    have next : ∀ acc, Q (acc ++ (xs.filter c).map f) W → lcW g t w vs (xs.map X) acc (wip vs (E x)) Q := fun acc q => by
      rw [hE]
      exact lc_gen hv hE (fun y hy => hg y (List.mem_cons_of_mem _ hy)) (fun y hy => ht y (List.mem_cons_of_mem _ hy)) (fun y hy => hw y (List.mem_cons_of_mem _ hy)) q
    cases hc : c x with
    | true =>
      rw [if_pos rfl]
      refine hw x List.mem_cons_self hc _ ⟨free_of hv, next _ ?_⟩
      rw [List.append_assoc]
      rw [List.filter_cons_of_pos hc, List.map_cons] at q
      exact q
    | false =>
      rw [if_neg (by decide)]
      refine next _ ?_
      rw [List.filter_cons_of_neg (by rw [hc]; decide)] at q
      exact q
theorem wip_len : ∀ (vs : List Nat) (e : En), (wip vs e).length = e.length
  | [], _ => rfl
  | v :: vs, e => by
    show ((wip vs e).set v .un).length = _
    rw [List.length_set, wip_len vs e]
theorem wip_out {i : Nat} : ∀ {vs : List Nat} {e : En}, i ∉ vs → (wip vs e)[i]? = e[i]?
  | [], _, _ => rfl
  | v :: vs, e, hi => by
    show ((wip vs e).set v .un)[i]? = _
    rw [List.getElem?_set_ne (fun h => hi (by rw [h]; exact List.mem_cons_self))]
    exact wip_out fun h => hi (List.mem_cons_of_mem _ h)
theorem bak_wip {vs : List Nat} {e : En} : bak vs e (wip vs e) = e := by
  refine List.ext_getElem? fun i => ?_
  unfold bak
  rw [List.getElem?_map, wip_len]
  by_cases hi : i < e.length
  · rw [List.getElem?_eq_getElem (by rw [List.length_range]; exact hi), List.getElem_range, List.getElem?_eq_getElem hi]
    show some (if i ∈ vs then e.getD i .un else (wip vs e).getD i .un) = _
    by_cases hm : i ∈ vs
    · rw [if_pos hm, List.getD_eq_getElem?_getD, List.getElem?_eq_getElem hi]; rfl
    · rw [if_neg hm, List.getD_eq_getElem?_getD, wip_out hm, List.getElem?_eq_getElem hi]; rfl
  · rw [List.getElem?_eq_none (by rw [List.length_range]; omega), List.getElem?_eq_none (by omega)]; rfl
/-- a comprehension that changes nothing: E x the slots at the turn x -/
theorem lcG {α : Type} {wi : WA} {g : WG} {t : WT} {w : WE} {vs : List Nat} {en e1 : En} {X f : α → D} (E : α → En) (c : α → Bool) {xs : List α} {Q : List D → En → Prop} (hv : ∀ v ∈ vs, v ≠ 0) (hi : ∀ Q : List D → En → Prop, Q (xs.map X) e1 → wi en Q)
    (hn : ∀ v ∈ vs, NotOwn e1[v]?) (hl : xs.length ≤ sizeLine) (hE : ∀ x, wip vs (E x) = wip vs e1) (hg : ∀ x ∈ xs, ∀ Q : En → Prop, Q (E x) → g (X x) (wip vs e1) Q) (ht : ∀ x ∈ xs, ∀ Q : Bool → En → Prop, Q (c x) (E x) → t (E x) Q)
    (hw : ∀ x ∈ xs, c x = true → ∀ Q : D → En → Prop, Q (f x) (E x) → w (E x) Q) (q : Q ((xs.filter c).map f) e1) : wLc wi g t w vs en Q := by
  refine hi _ ⟨free_of hv, hn, by rw [List.length_map]; exact hl, ?_⟩
  refine lc_gen hv hE hg ht hw ?_
  show Q ([] ++ (xs.filter c).map f) (bak vs e1 (wip vs e1))
  rw [bak_wip]
  exact q
theorem filter_all {α : Type} : ∀ xs : List α, xs.filter (fun _ => true) = xs
  | [] => rfl
  | x :: xs => by rw [List.filter_cons_of_pos rfl, filter_all xs]
/-- .. without a test -/
theorem lcY {α : Type} {wi : WA} {g : WG} {w : WE} {vs : List Nat} {en e1 : En} {X f : α → D} (E : α → En) {xs : List α} {Q : List D → En → Prop} (hv : ∀ v ∈ vs, v ≠ 0) (hi : ∀ Q : List D → En → Prop, Q (xs.map X) e1 → wi en Q)
    (hn : ∀ v ∈ vs, NotOwn e1[v]?) (hl : xs.length ≤ sizeLine) (hE : ∀ x, wip vs (E x) = wip vs e1) (hg : ∀ x ∈ xs, ∀ Q : En → Prop, Q (E x) → g (X x) (wip vs e1) Q)
    (hw : ∀ x ∈ xs, ∀ Q : D → En → Prop, Q (f x) (E x) → w (E x) Q) (q : Q (xs.map f) e1) : wLc wi g wYes w vs en Q :=
  lcG E (fun _ => true) hv hi hn hl hE hg (fun _ _ _ q => q) (fun x hx _ => hw x hx) (by rw [filter_all]; exact q)
theorem no3 {en : En} {a b c : Nat} (h : NotOwn en[a]?) (h2 : NotOwn en[b]?) (h3 : NotOwn en[c]?) : ∀ v ∈ [a, b, c], NotOwn en[v]? := fun v hv => by
  rcases List.mem_cons.mp hv with rfl | hv
  · exact h
  · exact no2 h2 h3 v hv
end Pd

set_option Elab.async false
set_option linter.all false
set_option maxRecDepth 100000
set_option maxHeartbeats 4000000
namespace Pd
open PySem PySem.Spec PyProof.Rows L2
section
variable {K : PySem.W.Frag} {X : Cx} {e o : Expr} {w wb : WE}
/-! ### {} -/
def wDic : WE := fun en Q => Q (.dict []) en
theorem d_dic {pos : Pos} : PE X (.Dict [] [] pos) (lE X.K wDic) := pe_dnewK.mo fun σ H Q ⟨G, en, I, Q', ok, q, k⟩ => fun p hp => by
  obtain ⟨o1, x1⟩ := ok.new (u := .dK []) hp
  exact k _ _ _ en _ o1 x1 (.dic upd_same) q
/-! ### is of two bools -/
def rIsB : R2 := fun x y H Q => ∃ a b, x = .bl a ∧ y = .bl b ∧ Q (.bl (a == b)) H
theorem op_isB : OpR X (compareOp .Is) rIsB := by
  intro pins s σ H x y v u Q I rx ry h
  obtain ⟨a, b, rfl, rfl, q⟩ := h
  cases rx; cases ry
  refine wpAny_is_plain rfl ?_
  refine ⟨.bl (a == b), H, I, ?_, q⟩
  show Value.bool (Value.bool a == Value.bool b) = Value.bool (a == b)
  cases a <;> cases b <;> rfl
def dIsB : D → D → D → Prop := fun x y z => ∃ a b, x = .bool a ∧ y = .bool b ∧ z = .bool (a == b)
theorem snd_isB : SndOp K rIsB dIsB := by
  rintro H I x y d e z iH hx hy ⟨a, b, rfl, rfl, rfl⟩ Q k
  cases hx; cases hy
  exact ⟨a, b, rfl, rfl, k _ H I (Gr.rf iH) (.bl _)⟩
theorem i_isB {a b : Bool} {z : D} : dIsB (.bool a) (.bool b) z ↔ z = .bool (a == b) := ⟨fun ⟨_, _, e1, e2, h⟩ => by cases e1; cases e2; exact h, fun h => ⟨_, _, rfl, rfl, h⟩⟩
/-! ### xs.index(e), xs a list of flat items -/
def dIndex (xs : List D) (y : D) (j : Nat) : Prop := xs.all flatD = true ∧ flatD y = true ∧ (∃ z, xs[j]? = some z ∧ PyData.eqv z y = true) ∧ ∀ m z, m < j → xs[m]? = some z → PyData.eqv z y = false
def wIndex (wa wb : WE) : WE := fun en Q => wa en fun x e1 => (∃ xs, x = .list xs) ∧ wb e1 fun y e2 => ∃ xs j, x = .list xs ∧ dIndex xs y j ∧ Q (.int (j : Nat)) e2
theorem d_index {wa : WE} {p1 p2 : Pos} (pe : PE X (.Call (.Attribute o "index" p1) [e] [] p2) (tBM X.K "list" (rIndex X.K) (lE X.K wa) (tCons (lE X.K wb) tNil))) : PE X (.Call (.Attribute o "index" p1) [e] [] p2) (lE X.K (wIndex wa wb)) :=
  pe.mo fun σ H Q ⟨G, en, I, Q', ok, q, k⟩ => ⟨G, en, I, _, ok, q, fun v H1 I1 e1 d o1 x1 dv ⟨⟨xs, hx⟩, q1⟩ => by
    subst hx
    cases dv with
    | lst hs ha =>
      rename_i l vs
      refine ⟨Or.inl ⟨rfl, _, SqL.of (o1.iH _ _ hs)⟩, G, e1, I1, _, o1, q1, fun u H2 I2 e2 y o2 x2 du ⟨ys, j, hy, ⟨f1, f2, ⟨z, hz, hzy⟩, hno⟩, q2⟩ => ?_⟩
      cases hy
      have ha2 := ha.up x2
      obtain ⟨vz, hvz, dz⟩ := dpa_get ha2 hz
      have fz : flatD z = true := List.all_eq_true.mp f1 z (List.mem_of_getElem? hz)
      refine ⟨l, vs, u, j, vz, rfl, rfl, SqL.of (o2.iH _ _ (x2 _ _ hs)), flat_da du f2, all_da ha2 f1, hvz, by rw [eqv_da dz du fz f2]; exact hzy, fun m z' hm hz' => ?_, k _ H2 I2 e2 _ o2 (x1.tr x2) (.int _) q2⟩
      obtain ⟨dm, hdm, hdz⟩ := dpa_get' ha2 hz'
      rw [eqv_da hdz du (List.all_eq_true.mp f1 dm (List.mem_of_getElem? hdm)) f2]
      exact hno m dm hm hdm⟩
/-! ### sorted(xs), xs a list of ints -/
def wSorted (w : WE) : WA := fun en Q => w en fun d e1 => ∃ ns : List Int, d = .list (ns.map .int) ∧ ∀ ns' : List Int, ns'.Perm ns → ns'.Pairwise (· ≤ ·) → Q (ns'.map .int) e1
theorem l_sorted {p pos : Pos} (hm : X.mg "sorted" = none) (ha : PE X e (lE X.K w)) (hg : Gl X "sorted" := by rfl)
    (he : starEach (e :: []) X.env = (false, eval e X.env) :: starEach [] X.env := by rfl) (hpl : (backTo pos (starEach [] X.env)).any (·.1) = false := by rfl) :
    PE X (.Call (.Name "sorted" p) [e] [] pos) (lL X.K (wSorted w)) :=
  (pe_callB cr_sortedI hg hm (by decide +kernel) (pa_cons ha pa_nil he) (by decide) (by decide) he hpl).mo fun σ H Q ⟨G, en, I, Q', ok, q, k⟩ => ⟨G, en, I, _, ok, q, fun v H1 I1 e1 d o1 x1 dv ⟨ns, hd, q1⟩ => by
    subst hd
    cases dv with
    | lst hs ha =>
      have ev := dpa_ints_inv ns ha
      subst ev
      exact ⟨_, ns, rfl, SqL.of (o1.iH _ _ hs), fun ns' p h1 h2 hp => k p _ H1 I1 e1 _ o1 x1 hp (dpa_ints ns') (q1 ns' h1 h2)⟩⟩
/-! ### xs + e, xs one's own: a new list -/
variable {o' : Expr} {pos : Pos}
def wCatO (i : Nat) (wb : WE) : WA := fun en Q => (∃ xs, en[i]? = some (.own xs)) ∧ wb en fun y e1 => ∃ xs ys, e1[i]? = some (.own xs) ∧ y = .list ys ∧ xs.length + ys.length ≤ sizeLine ∧ Q (xs ++ ys) e1
theorem l_catO {i : Nat} (ha : PE X o (tVar i)) (hb : PE X o' (lE X.K wb)) : PE X (.BinOp o .Add o' pos) (lL X.K (wCatO i wb)) :=
  (pe_op op_cat ha hb).mo fun σ H Q ⟨G, en, I, Q', ok, ⟨⟨xs0, h0⟩, q⟩, k⟩ => by
    obtain ⟨l, vs0, r1, _⟩ := ok.own h0
    refine ⟨.ref l, r1, G, en, I, _, ok, q, fun u H2 I2 e2 d2 o2 x2 du ⟨xs, ys, hx, hy, hl, q2⟩ => ?_⟩
    subst hy
    obtain ⟨l', vs, s1, s2, s3, s4⟩ := o2.own hx
    rw [r1] at s1
    have q5 : l = l' := by injection s1 with s1; injection s1 with s1; injection s1
    subst q5
    cases du with
    | lst hs ha => exact ⟨_, _, _, _, rfl, rfl, s3, o2.iH _ _ hs, by rw [dpa_len s4, dpa_len ha]; exact hl, fun p hp => k p _ H2 I2 e2 _ o2 x2 hp (dpa_app s4 ha) q2⟩
/-! ### xs.extend(e) -/
def wExt (i : Nat) (w : WE) : WS := fun R en => (∃ ds, en[i]? = some (.own ds)) ∧ w en fun d e1 => ∃ ds ys, e1[i]? = some (.own ds) ∧ d = .list ys ∧ ds.length + ys.length ≤ sizeLine ∧ R.nx (e1.set i (.own (ds ++ ys)))
theorem s_ext {i : Nat} {p1 p2 : Pos} (pe : PE X (.Call (.Attribute o "extend" p1) [e] [] p2) (tBM X.K "list" rExtend (tVar i) (tCons (lE X.K w) tNil)))
    (hs : swapsWith (.Call (.Attribute o "extend" p1) [e] [] p2) none pos.line X.env = pure false := by rfl) : PS X (.Expr (.Call (.Attribute o "extend" p1) [e] [] p2) pos) (lS X.K (wExt i w)) :=
  (ps_expr pe hs).mo fun R σ H ⟨G, en, I, R', ok, ⟨⟨ds0, h0⟩, q⟩, k⟩ => by
    obtain ⟨l, vs0, r1, r2, r3, r4⟩ := ok.own h0
    refine ⟨.ref l, r1, Or.inl ⟨rfl, vs0, SqL.of r3⟩, G, en, I, _, ok, q, fun v H1 I1 e1 d o1 x1 dv ⟨ds, ys, hd, hy, hz, q1⟩ => ?_⟩
    subst hy
    obtain ⟨l', vs, s1, s2, s3, s4⟩ := o1.own hd
    rw [r1] at s1
    have q5 : l = l' := by injection s1 with s1; injection s1 with s1; injection s1
    subst q5
    cases dv with
    | lst hs ha =>
      rename_i b us
      refine ⟨l, b, vs, us, rfl, rfl, s3, o1.iH _ _ hs, by rw [dpa_len s4, dpa_len ha]; exact hz, ?_⟩
      refine k.1 σ _ I1 _ (o1.turn (H' := upd H1 l (.lst (vs ++ us))) (vs := vs ++ us) ⟨r1, ds, hd⟩ (fun a u ha h => by rw [upd_ne ha]; exact h) (Ex.rf I1) (fun a u h => ?_) (fun a h1 h2 => absurd h2 h1) upd_same (dpa_app s4 ha)) q1
      have : a ≠ l := fun ea => by subst ea; rw [s2] at h; cases h
      rw [upd_ne this]; exact o1.iH a u h
end
/-! ### a def that calls itself: the promise that is never asked -/
section
variable {P : Program} {w : World} {K : PySem.W.Frag} {mg : Str → Option Value} {base : Heap} {x qual : Str} {params : Arguments} {body : List Stmt} {scope : Scope} {f : Addr} {fd : FuncData} {N ps : List Str}
theorem fn_no (F : FunD K x qual params body scope [] [] f fd) (S : FnScope N ps scope) (k : Nat) : FnOk P w K mg base CX0 (k + 1) f fd ps (spP K ps.length fun _ _ => False) :=
  fnP (ws := wNever) F S (fun cdv A outer s H E hr => ss_never) fun ds Q' _ h => h.elim
end
end Pd

set_option Elab.async false
set_option linter.all false
set_option maxRecDepth 100000
set_option maxHeartbeats 4000000
/-! sorted(xs), xs tuples of ints of any lengths, also () among them -/
namespace Pd
open PySem PySem.W PySem.Calls PyProof.Rows
section
variable {prog : Program} {w : World} {A : Around} {E : Value → Shared → Prop} {s : Shared}
/-- each of the values is a tuple of ints -/
def RowsIn (h : Heap) (vs : List Value) : Prop := ∀ u ∈ vs, ∃ ks, TS.TupInts h u ks
theorem RowsIn.keeps {h h' : Heap} {vs : List Value} (x : RowsIn h vs) (k : ∀ b o, h.get? b = some o → o.cls = .type "tuple" → h'.get? b = some o) : RowsIn h' vs := fun u hu => by
  obtain ⟨ks, t⟩ := x u hu; exact ⟨ks, t.keeps k⟩
/-- comparing item by item -/
theorem rowLex {b : Bool} {Q : Bool → Shared → Prop} : ∀ {xs ys : List Value} {ks ms : List Int} (i : Nat), IntsAre xs ks → IntsAre ys ms → Q (HT.lexLt ks ms) s → KatLex prog w A b (decide (xs.length < ys.length)) Q (xs.zip ys) i s
  | _, _, _, _, _, .nil, .nil, q => kat_nil q
  | _, _, _, _, _, .nil, .cons m u r, q => by
    refine kat_nil ?_
    rw [show decide (([] : List Value).length < (Value.int m u :: _).length) = true from decide_eq_true (by simp)]; exact q
  | _, _, _, _, _, .cons k t r, .nil, q => by
    refine kat_nil ?_
    rw [show decide ((Value.int k t :: _).length < ([] : List Value).length) = false from decide_eq_false (by simp)]; exact q
  | _, _, _, _, i, @IntsAre.cons k t xs ks r, @IntsAre.cons m u ys ms r', q => by
    rw [show decide ((Value.int k t :: xs).length < (Value.int m u :: ys).length) = decide (xs.length < ys.length) from decide_eq_decide.mpr (by simp)]
    refine kat_cons (wpAny_eqBool_int ?_)
    rw [HT.lexLt_cons] at q
    by_cases e : k = m
    · subst e
      rw [if_pos rfl] at q
      rw [beq_self_eq_true]
      exact kat_yes (rowLex (i + 1) r r' q)
    · rw [if_neg e] at q
      rw [show (k == m) = false from beq_eq_false_iff_ne.mpr e]
      exact kat_no (TS.oneLt_ints _ q)
/-- the first items that list.sort looks at -/
theorem rowFirsts {h : Heap} : ∀ {vs : List Value}, RowsIn h vs → ∃ fs : List (Option Value), fs.length = vs.length ∧ (∀ f ∈ fs, f = none ∨ ∃ k t, f = some (Value.int k t)) ∧
    ∀ (A : Around) (E : Value → Shared → Prop) (s : Shared) (Q : List (Option Value) → Shared → Prop), s.heap = h → Q fs s → wpAny (model prog w) A (vs.mapM firstOfTuple') Q E s
  | [], _ => ⟨[], rfl, fun f hf => (by cases hf), fun A E s Q _ q => by rw [List.mapM_nil]; exact wpAny_pure q⟩
  | v :: vs, x => by
    obtain ⟨fs, e1, e2, e3⟩ := rowFirsts fun u hu => x u (List.mem_cons_of_mem _ hu)
    obtain ⟨ks, a, xs, rfl, ⟨o, ho, hc, n, hd⟩, hi⟩ := x v List.mem_cons_self
    refine ⟨xs[0]? :: fs, by rw [List.length_cons, List.length_cons, e1], fun f hf => ?_, fun A E s Q hs q => ?_⟩
    · rcases List.mem_cons.mp hf with rfl | hf
      · cases z : xs[0]? with
        | none => exact Or.inl rfl
        | some y =>
          obtain ⟨k, t, e⟩ := hi.all y (by rw [Array.mem_toList_iff]; exact Array.mem_of_getElem? z)
          exact Or.inr ⟨k, t, by rw [e]⟩
      · exact e2 f hf
    · subst hs
      rw [List.mapM_cons]
      refine wpAny_bind ?_
      rw [kas_first_eq]
      refine wpAny_bind (Looks.here (show Looks _ s.heap (typeOf (.ref a)) o.cls from (Looks.ld ho).andThen .now) ?_)
      rw [hc, if_neg (by first | decide | simp)]
      refine wpAny_bind (listItems_at ho hd (wpAny_pure ?_))
      exact wpAny_bind (e3 A E s (fun bs s' => wpAny _ A (pure (xs[0]? :: bs)) Q E s') rfl (wpAny_pure q))
def KindOk (κ : SortKind) : Prop := κ = tuples' true ∨ κ = general' ∨ κ = oneType'
theorem rowKind {vs : List Value} (h2 : 2 ≤ vs.length) (x : RowsIn s.heap vs) : ∃ κ, KindOk κ ∧ ∀ (Q : SortKind → Shared → Prop) (E : Value → Shared → Prop), Q κ s → wpAny (model prog w) A (keyKind' vs.toArray) Q E s := by
  obtain ⟨fs, e1, e2, e3⟩ := rowFirsts (prog := prog) (w := w) x
  cases hall : fs.all (·.isSome) with
  | true =>
    refine ⟨tuples' true, Or.inl rfl, fun Q E q => ?_⟩
    rw [kat_kind_eq, List.mapM_toArray, map_eq_pure_bind]
    refine wpAny_bind (wpAny_bind (e3 A E s _ rfl (wpAny_pure ?_)))
    rw [if_pos (by rw [List.all_toArray]; exact hall)]
    refine wpAny_bind (wpAny_rule ?_)
    have ef : (fs.toArray.filterMap id) = (fs.filterMap id).toArray := by simp
    have hne : (fs.filterMap id).length = fs.length := by
      clear e1 e2 e3 ef
      induction fs with
      | nil => rfl
      | cons f fs ih =>
        rw [List.all_cons, Bool.and_eq_true] at hall
        cases f with
        | none => cases hall.1
        | some y => rw [List.filterMap_cons]; simp only [id]; rw [List.length_cons, List.length_cons, ih hall.2]
    have hin : ∀ y ∈ fs.filterMap id, ∃ k t, y = Value.int k t := fun y hy => by
      obtain ⟨f, hf, e⟩ := List.mem_filterMap.mp hy
      simp only [id] at e
      subst e
      rcases e2 _ hf with z | ⟨k, t, z⟩
      · cases z
      · exact ⟨k, t, by injection z⟩
    rw [ef, oneTypeOnly'_eq, List.mapM_toArray, map_eq_pure_bind]
    obtain ⟨y0, yr, ey⟩ : ∃ y0 yr, fs.filterMap id = y0 :: yr := by
      cases z : fs.filterMap id with
      | nil => rw [z] at hne; simp at hne; omega
      | cons a b => exact ⟨a, b, rfl⟩
    refine wpAny_bind (wpAny_bind (wpAny_bind (kas_mapM (r := Value.type "int") _ (fun v hv Q' hq => ?_) (wpAny_pure ?_))))
    · obtain ⟨k, t, rfl⟩ := hin v hv
      exact (Looks.of_pure rfl : Looks _ s.heap (typeOf (.int k t)) (.type "int")).here hq
    · rw [ey]
      have h0 : ((y0 :: yr).map fun _ => Value.type "int").toArray[0]? = some (Value.type "int") := by simp
      have ha : ((List.map (fun _ => Value.type "int") (y0 :: yr)).toArray.all fun x => x == Value.type "int") = true := by
        simp only [List.all_toArray, List.all_map, List.all_eq_true]; intro _ _; rfl
      rw [h0]
      simp only [ha, if_true]
      refine wpAny_pure (wpAny_pure ?_)
      have e : (some (Value.type "int")).any (fun x => x != Value.type "tuple") = true := by decide +kernel
      rw [e]; exact q
  | false =>
    have hn : ¬ ((fs.toArray.all fun x => x.isSome) = true) := by rw [List.all_toArray, hall]; exact Bool.false_ne_true
    cases hf : (fs.toArray[0]?.bind id).isSome with
    | true =>
      refine ⟨general', Or.inr (Or.inl rfl), fun Q E q => ?_⟩
      rw [kat_kind_eq, List.mapM_toArray, map_eq_pure_bind]
      refine wpAny_bind (wpAny_bind (e3 A E s _ rfl (wpAny_pure ?_)))
      rw [if_neg hn, if_pos hf]
      exact wpAny_pure q
    | false =>
      refine ⟨oneType', Or.inr (Or.inr rfl), fun Q E q => ?_⟩
      rw [kat_kind_eq, List.mapM_toArray, map_eq_pure_bind]
      refine wpAny_bind (wpAny_bind (e3 A E s _ rfl (wpAny_pure ?_)))
      rw [if_neg hn, if_neg (by rw [hf]; exact Bool.false_ne_true)]
      rw [oneTypeOnly'_eq, List.mapM_toArray, map_eq_pure_bind]
      refine wpAny_bind (wpAny_bind (wpAny_bind (kas_mapM (r := Value.type "tuple") _ (fun v hv Q' hq => ?_) (wpAny_pure ?_))))
      · obtain ⟨ks, a, xs, rfl, ⟨o, ho, hc, n, hd⟩, hi⟩ := x v hv
        refine Looks.here (show Looks _ s.heap (typeOf (.ref a)) (.type "tuple") from ?_) hq
        rw [← hc]; exact (Looks.ld ho).andThen .now
      · match vs, h2 with
        | v0 :: vr, _ =>
          have h0 : ((v0 :: vr).map fun _ => Value.type "tuple").toArray[0]? = some (Value.type "tuple") := by simp
          have ha : ((List.map (fun _ => Value.type "tuple") (v0 :: vr)).toArray.all fun x => x == Value.type "tuple") = true := by
            simp only [List.all_toArray, List.all_map, List.all_eq_true]; intro _ _; rfl
          rw [h0]
          simp only [ha, if_true]
          exact wpAny_pure (wpAny_pure q)
abbrev rowB (h : Heap) : Value → Value → Bool := fun v u => HT.lexLt (TS.intsOf h v) (TS.intsOf h u)
theorem rowCmp {vs : List Value} {κ : SortKind} (hk : KindOk κ) (hu : A.units < cLine) (x : RowsIn s.heap vs) : SrtO.Cmp prog w A s κ (fun p => p.1 ∈ vs) (SrtO.lt2 (rowB s.heap)) := by
  intro p q hp hq
  obtain ⟨ks, t1⟩ := x _ hp
  obtain ⟨ms, t2⟩ := x _ hq
  have e1 := t1.ints
  have e2 := t2.ints
  have fin : (fun (r : Bool) (s' : Shared) => s' = s ∧ r = SrtO.lt2 (rowB s.heap) p q) (HT.lexLt ks ms) s := ⟨rfl, by
    show HT.lexLt ks ms = HT.lexLt (TS.intsOf s.heap p.1) (TS.intsOf s.heap q.1)
    rw [e1, e2]⟩
  obtain ⟨a, xs, ea, ia, ra⟩ := t1
  obtain ⟨b, ys, eb, ib, rb⟩ := t2
  rw [ea, eb]
  rcases hk with rfl | rfl | rfl
  · obtain ⟨o, ho, hc, n, hd⟩ := ia
    obtain ⟨o', ho', hc', n', hd'⟩ := ib
    refine kat_lt ho hd ho' hd' ?_
    have := rowLex (prog := prog) (w := w) (A := A) (s := s) (b := true) (Q := fun (r : Bool) (s' : Shared) => s' = s ∧ r = SrtO.lt2 (rowB s.heap) p q) 0 ra rb fin
    rw [show xs.size = xs.toList.length by simp, show ys.size = ys.toList.length by simp]
    exact this
  · exact kat_one _ _ (HT.lt_tupInts (Q := PySem.W.BoolBack _) ia ib ra rb hu fin)
  · rw [keyLt'_oneType, oneLt'_eq]
    simp only [if_true]
    refine wpAny_bind (wpAny_cRoomFor hu ?_)
    obtain ⟨⟨cls, dd, data, sl⟩, ho, hc, n, hd⟩ := ia
    obtain ⟨⟨cls2, dd2, data2, sl2⟩, ho2, hc2, n2, hd2⟩ := ib
    simp only at hc hd hc2 hd2
    subst hc hd hc2 hd2
    refine wpAny_bind (wpAny_callSpecialIfBound?_slot (T := "tuple") ⟨_, ho, rfl⟩ PySem.F.slot_tuple_lt (call_meets PySem.F.slot_tuple_lt ⟨_, ho, rfl⟩ PySem.F.entry_tuple_lt (PySem.F.args_tuple_lt_2 _ _) (HT.tuple_lt_ints a b xs ys n n2 dd dd2 sl sl2 ks ms ra rb) ⟨ho, ho2, ?_⟩))
    exact wpAny_truthy_bool fin
theorem rowSortable {a : Addr} {vs : List Value} {k : Value → List Int} (h2 : 2 ≤ vs.length) (hu : A.units < cLine) (x : ∀ v ∈ vs, TS.TupInts s.heap v (k v)) (ha : ∀ o, s.heap.get? a = some o → o.cls ≠ .type "tuple") : SrtO.SortableO prog w A s a vs fun v u => HT.lexLt (k v) (k u) := by
  intro h' keep
  have kt : ∀ b o, s.heap.get? b = some o → o.cls = .type "tuple" → h'.get? b = some o := fun b o e c => keep b o (fun z => by subst z; exact ha o e c) e
  have x' : ∀ v ∈ vs, TS.TupInts h' v (k v) := fun v hv => (x v hv).keeps kt
  have r' : RowsIn h' vs := fun v hv => ⟨_, x' v hv⟩
  obtain ⟨κ, hk, hkk⟩ := rowKind (prog := prog) (w := w) (A := A) (s := { s with heap := h' }) h2 r'
  refine ⟨κ, hkk, fun p q hp hq => ?_⟩
  refine wpAny_mono (rowCmp (prog := prog) (w := w) (s := { s with heap := h' }) hk hu r' p q hp hq) (fun r s' hr => ⟨hr.1, ?_⟩) fun _ _ z => z
  rw [hr.2]
  show HT.lexLt (TS.intsOf h' p.1) (TS.intsOf h' q.1) = HT.lexLt (k p.1) (k q.1)
  rw [(x' _ hp).ints, (x' _ hq).ints]
end
end Pd

set_option Elab.async false
set_option linter.all false
set_option maxRecDepth 100000
set_option maxHeartbeats 4000000
namespace Pd
open PySem PySem.Spec PyProof.Rows L2
/-! ### sorted(xs), xs a list of rows -/
theorem back_refs : ∀ {ks : List (Addr × List Int)} {L : List Value}, (∀ v ∈ L, ∃ q ∈ ks, v = Value.ref q.1) → ∃ ks' : List (Addr × List Int), L = ks'.map (fun q => Value.ref q.1) ∧ ∀ q ∈ ks', q ∈ ks
  | ks, [], _ => ⟨[], rfl, fun _ h => (by cases h)⟩
  | ks, v :: L, h => by
    obtain ⟨q, hq, e⟩ := h v List.mem_cons_self
    obtain ⟨ks', e1, h1⟩ := back_refs (L := L) fun u hu => h u (List.mem_cons_of_mem _ hu)
    refine ⟨q :: ks', by rw [List.map_cons, e, e1], fun r hr => ?_⟩
    rcases List.mem_cons.mp hr with z | z
    · rw [z]; exact hq
    · exact h1 r z
def rSortedR (K : PySem.W.Frag) : List V → Hp → VK → Prop := fun vs H Q => ∃ (a : Addr) (ks : List (Addr × List Int)), vs = [V.ref a] ∧ SqL K H a (ks.map fun q => V.ref q.1) ∧ (∀ q ∈ ks, SqT K H q.1 (q.2.map V.int)) ∧
  ∀ (ks' : List (Addr × List Int)) (p : Addr), (∀ q ∈ ks', q ∈ ks) → (ks'.map (·.2)).Perm (ks.map (·.2)) → (ks'.map (·.2)).Pairwise (fun a b => HT.lexLt b a = false) → H p = none → Q (.ref p) (upd H p (.lst (ks'.map fun q => V.ref q.1)))
section
variable {X : Cx}
theorem cr_sortedR (hu : X.A.units + 64 < cLine) : CallR X (.builtin "sorted") (rSortedR X.K) := by
  intro pins s σ H vs us Q I r h
  obtain ⟨a, ks, rfl, hs, hk, q⟩ := h
  obtain ⟨its, rv, hl, hz⟩ := I.list hs
  have ei := refs_of_vals rv
  rw [Vals.ref1 r]
  have tup : ∀ q ∈ ks, TS.TupInts s.heap (.ref q.1) q.2 := fun q hq => tupI_raw I (hk q hq)
  have tv : ∀ v ∈ its, TS.TupInts s.heap v (TS.intsOf s.heap v) := fun v hv => by
    rw [ei] at hv
    obtain ⟨q, hq, e⟩ := List.mem_map.mp hv
    have t := tup q hq
    rw [← e, t.ints]; exact t
  have hlen : its.length = ks.length := by rw [ei, List.length_map]
  refine SrtO.sorted_ord (ltv := fun v u => HT.lexLt (TS.intsOf s.heap v) (TS.intsOf s.heap u)) (NtL.swo_lexL _) hl.isList (by rw [hlen]; simpa using hz) (fun h2 h₁ a' ha' keep => ?_) fun out h1 h2 => ?_
  · refine rowSortable h2 (by show X.A.units + 2 < cLine; omega) (fun v hv => (tv v hv).keeps fun b o e c => (keep b o e).2) fun o e => ?_
    rw [ha'] at e
    cases e
    intro c
    exact absurd (Value.type.inj c) (by decide)
  · obtain ⟨ep, he'⟩ := PyProof.Rows.sortedAll_at s.heap its out.toArray
    obtain ⟨ks', eo, hsub⟩ := back_refs (ks := ks) (L := out) fun v hv => by
      have := h2.perm.mem_iff.mp hv
      rw [ei] at this
      obtain ⟨q, hq, e⟩ := List.mem_map.mp this
      exact ⟨q, hq, e.symm⟩
    have hi : ∀ L : List (Addr × List Int), (∀ q ∈ L, q ∈ ks) → (L.map fun q => Value.ref q.1).map (TS.intsOf s.heap) = L.map (·.2) := fun L hL => by
      rw [List.map_map]
      exact List.map_congr_left fun q hq => (tup q (hL q hq)).ints
    have pm : (ks'.map (·.2)).Perm (ks.map (·.2)) := by
      have p := (h2.perm.map (TS.intsOf s.heap))
      rw [eo, ei, hi ks' hsub, hi ks fun _ h => h] at p
      exact p
    have pw : (ks'.map (·.2)).Pairwise (fun a b => HT.lexLt b a = false) := by
      rw [← hi ks' hsub, ← eo]
      exact List.pairwise_map.mpr h1
    have hl2 : (ks'.map fun q => V.ref q.1).length ≤ sizeLine := by
      have := pm.length_eq
      simp only [List.length_map] at this hz ⊢
      rw [this]; exact hz
    exact ⟨.ref _, upd H (s.heap.objs.size + 1) (.lst (ks'.map fun q => V.ref q.1)), I.laid (t' := s.toks) (fun _ _ => PyProof.Rows.sortedAll_old) (Nat.le_succ _) ⟨hl2, out, ep, by rw [eo]; exact vals_of_refs ks', he'⟩, rfl, q ks' _ hsub pm pw (I.hok.fresh (Nat.le_succ _))⟩
end
/-! ### over data -/
def rowD (ns : List Int) : D := .tuple (ns.map .int)
section
variable {K : PySem.W.Frag}
/-- the rows of a list of data -/
theorem da_rows {I : Hp} : ∀ {rs : List (List Int)} {vs : List V}, DaAll K I vs (rs.map rowD) → ∃ ks : List (Addr × List Int), vs = ks.map (fun q => V.ref q.1) ∧ ks.map (·.2) = rs ∧ ∀ q ∈ ks, SqT K I q.1 (q.2.map V.int)
  | [], _, h => by cases h; exact ⟨[], rfl, rfl, fun _ h => (by cases h)⟩
  | r :: rs, _, h => by
    cases h with
    | cons h1 h2 =>
      obtain ⟨ks, e1, e2, e3⟩ := da_rows h2
      cases h1 with
      | tup hs ha =>
        rename_i a xs
        have ev := dpa_ints_inv r ha
        subst ev
        refine ⟨(a, r) :: ks, by rw [List.map_cons, e1], by rw [List.map_cons, e2], fun q hq => ?_⟩
        rcases List.mem_cons.mp hq with z | z
        · subst z; exact hs
        · exact e3 q z
theorem rows_da {I : Hp} {ks0 : List (Addr × List Int)} (hk : ∀ q ∈ ks0, SqT K I q.1 (q.2.map V.int)) : ∀ ks : List (Addr × List Int), (∀ q ∈ ks, q ∈ ks0) → DaAll K I (ks.map fun q => V.ref q.1) ((ks.map (·.2)).map rowD)
  | [], _ => .nil
  | q :: ks, h => .cons (.tup (hk q (h q List.mem_cons_self)) (dpa_ints q.2)) (rows_da hk ks fun r hr => h r (List.mem_cons_of_mem _ hr))
end
section
variable {X : Cx} {e : Expr} {w : WE}
/-- ascending, equal ones beside one another -/
def AscR (rs : List (List Int)) : Prop := rs.Pairwise fun a b => HT.lexLt b a = false
def wSortedR (w : WE) : WA := fun en Q => w en fun d e1 => ∃ rs : List (List Int), d = .list (rs.map rowD) ∧ ∀ rs' : List (List Int), rs'.Perm rs → AscR rs' → Q (rs'.map rowD) e1
theorem l_sortedR (hu : X.A.units + 64 < cLine) {p pos : Pos} (hm : X.mg "sorted" = none) (ha : PE X e (lE X.K w)) (hg : Gl X "sorted" := by rfl)
    (he : starEach (e :: []) X.env = (false, eval e X.env) :: starEach [] X.env := by rfl) (hpl : (backTo pos (starEach [] X.env)).any (·.1) = false := by rfl) :
    PE X (.Call (.Name "sorted" p) [e] [] pos) (lL X.K (wSortedR w)) :=
  (pe_callB (cr_sortedR hu) hg hm (by decide +kernel) (pa_cons ha pa_nil he) (by decide) (by decide) he hpl).mo fun σ H Q ⟨G, en, I, Q', ok, q, k⟩ => ⟨G, en, I, _, ok, q, fun v H1 I1 e1 d o1 x1 dv ⟨rs, hd, q1⟩ => by
    subst hd
    cases dv with
    | lst hs ha =>
      obtain ⟨ks, e1', e2', e3'⟩ := da_rows ha
      subst e1'
      refine ⟨_, ks, rfl, SqL.of (o1.iH _ _ hs), fun q hq => sqt_ex o1.iH (e3' q hq), fun ks' p hsub pm pw hp => ?_⟩
      rw [e2'] at pm
      exact k p _ H1 I1 e1 _ o1 x1 hp (rows_da e3' ks' hsub) (q1 _ pm pw)⟩
end
end Pd

set_option Elab.async false
set_option linter.all false
set_option maxRecDepth 100000
set_option maxHeartbeats 4000000
namespace Pd
open PySem PySem.Spec PyProof.Rows L2
/-! ### sorted(set(xs)), xs a list of rows -/
section
variable {P : Program} {w : World} {A : Around} {E : Value → Shared → Prop} {s : Shared}
theorem sortSetRows {a : Addr} {L : List (Addr × List Int)} {es : Array (Int × Value)} {ep : Nat} {t : SetTable} {Q : Value → Shared → Prop} (R : SetTR P w s.heap a L es ep t) (hh : A.handled = none) (hu : A.units + 64 < cLine)
    (fin : ∀ s' p (out : Array Value) (c : Nat) (L' : List (Addr × List Int)), (∀ b o, s.heap.get? b = some o → s'.heap.get? b = some o) → s'.gens = s.gens → s'.os = s.os → s.heap.objs.size ≤ p → s'.heap.get? p = some (seqObj "list" out c) →
      out.toList = L'.map (fun z => Value.ref z.1) → (∀ z ∈ L', z ∈ L) → (L'.map (·.2)).Perm (L.map (·.2)) → (L'.map (·.2)).Pairwise (fun x y => HT.lexLt y x = false) → Q (.ref p) s') :
    wpAny (model P w) A (call (.builtin "sorted") [.ref a]) Q E s := by
  obtain ⟨o, ho, hex, hd⟩ := R.ob
  have hsz := R.size; have hfew := R.few
  refine Calls.call_function_entry kind_sorted plain_sorted entry_sorted (args_sorted1 _) ?_
  unfold Builtin.«sorted»; refine wpAny_bind (m := checkCount "sorted" 1 1 _) (wpAny_pure ?_)
  refine wpAny_bind (collect_set (A := A.in1) hh ⟨o, ho, hex.1, hd⟩ R.fits (by unfold scanBound; omega) R.tab.ris R.led fun s1 us k1 hz g1 o1 pm => ?_)
  have hes : es.toList.map (·.2) = L.map fun z => Value.ref z.1 := by rw [R.rows]; unfold rowsOf; rw [List.map_map] <;> rfl
  rw [hes] at pm
  have hvl : us.length < 64 := by rw [pm.length_eq, List.length_map]; exact hfew
  refine wpAny_bind (wpAny_newList ?_ (by rw [sizeLine_eq]; omega))
  have hoL : (s1.heap.push (seqObj "list" us.toArray 0)).get? s1.heap.objs.size = some (seqObj "list" us.toArray 0) := Heap.get?_push_size _ rfl
  have tk : ∀ z ∈ L, TS.TupInts (s1.heap.push (seqObj "list" us.toArray 0)) (.ref z.1) z.2 := fun z hq => tupInts_of (P := P) (w := w) (isT_keep (R.tup z hq) fun b u e => Heap.get?_push_of_some _ (k1 b u e))
  have from_ : ∀ v ∈ us, ∃ z ∈ L, v = Value.ref z.1 := fun v hv => by
    obtain ⟨z, hq, e⟩ := List.mem_map.mp (pm.mem_iff.mp hv); exact ⟨z, hq, e.symm⟩
  have tv : ∀ v ∈ us, TS.TupInts (s1.heap.push (seqObj "list" us.toArray 0)) v (TS.intsOf (s1.heap.push (seqObj "list" us.toArray 0)) v) := fun v hv => by
    obtain ⟨z, hq, e⟩ := from_ v hv
    have t := tk z hq; rw [e, t.ints]; exact t
  refine wpAny_bind (wpAny_holding (wpAny_call_entry PyProof.Rows.slot_list_sort ⟨_, hoL, rfl⟩ PyProof.Rows.entry_list_sort
    (SrtO.list_sort_ord (s := { s1 with heap := s1.heap.push (seqObj "list" us.toArray 0) }) (ltv := fun v u => HT.lexLt (TS.intsOf (s1.heap.push (seqObj "list" us.toArray 0)) v) (TS.intsOf (s1.heap.push (seqObj "list" us.toArray 0)) u)) (NtL.swo_lexL _) hoL (by rw [sizeLine_eq]; omega)
      (fun h2 => rowSortable h2 ?_ tv fun o e => ?_) fun out h1 h2 => ⟨.none, rfl, ?_⟩) (PyProof.Rows.args_list_sort _)))
  · show A.units + 2 < cLine; omega
  · have e' : some o = some (seqObj "list" us.toArray 0) := e.symm.trans hoL
    cases e'; intro c
    exact absurd (Value.type.inj c) (by decide)
  · obtain ⟨c, hc⟩ := sortedHeap_at (vs := us) (out := out.toArray) hoL
    obtain ⟨L', eo, hsub⟩ := back_refs (ks := L) (L := out) fun v hv => from_ v (h2.perm.mem_iff.mp hv)
    have hi : ∀ M : List (Addr × List Int), (∀ z ∈ M, z ∈ L) → (M.map fun z => Value.ref z.1).map (TS.intsOf (s1.heap.push (seqObj "list" us.toArray 0))) = M.map (·.2) := fun M hM => by
      rw [List.map_map]; exact List.map_congr_left fun z hq => (tk z (hM z hq)).ints
    have pL : (L'.map (·.2)).Perm (L.map (·.2)) := by
      have p := (h2.perm.trans pm).map (TS.intsOf (s1.heap.push (seqObj "list" us.toArray 0)))
      rw [eo, hi L' hsub, hi L fun _ h => h] at p; exact p
    have pw : (L'.map (·.2)).Pairwise (fun x y => HT.lexLt y x = false) := by rw [← hi L' hsub, ← eo]; exact List.pairwise_map.mpr h1
    refine wpAny_pure ⟨_, rfl, fin _ s1.heap.objs.size out.toArray c L' (fun b u e => ?_) g1 o1 hz hc eo hsub pL pw⟩
    have q := k1 b u e; have hlt := Heap.lt_size q
    show (sortedHeap (s1.heap.push (seqObj "list" us.toArray 0)) s1.heap.objs.size us out.toArray).get? b = some u
    rw [sortedHeap_old (Nat.ne_of_lt hlt) (by rw [size_push']; exact Nat.lt_succ_of_lt hlt)]; exact Heap.get?_push_of_some _ q
end
def rSortedSR (K : PySem.W.Frag) (P : Program) (w : World) : List V → Hp → VK → Prop := fun vs H Q => ∃ (a : Addr) (L : List (Addr × List Int)), vs = [V.ref a] ∧ H a = some (SetTO P w a L) ∧ (∀ z ∈ L, SqT K H z.1 (z.2.map V.int)) ∧
  ∀ (L' : List (Addr × List Int)) (p : Addr), (∀ z ∈ L', z ∈ L) → (L'.map (·.2)).Perm (L.map (·.2)) → (L'.map (·.2)).Nodup → (L'.map (·.2)).Pairwise (fun x y => HT.lexLt y x = false) → H p = none → Q (.ref p) (upd H p (.lst (L'.map fun z => V.ref z.1)))
section
variable {X : Cx}
theorem cr_sortedSR (hc : X.calm = true) (hu : X.A.units + 64 < cLine) : CallR X (.builtin "sorted") (rSortedSR X.K X.prog X.w) := by
  intro pins s σ H vs us Q I r h
  obtain ⟨a, L, rfl, ha, hk, q⟩ := h
  have R0 : SetT0 X.prog X.w s.heap a L := (I.hok a _ ha).1
  obtain ⟨es, ep, t, R⟩ := R0.full fun z hz => I.isT (hk z hz)
  rw [Vals.ref1 r]
  refine sortSetRows R (I.ok.hd hc) hu fun s' p out c L' k g o hp hg hout hsub pm pw => ?_
  have hlen : (L'.map fun z => V.ref z.1).length ≤ sizeLine := by
    have := pm.length_eq; have := R.few
    simp only [List.length_map] at *
    rw [sizeLine_eq]; omega
  have nd : (L'.map (·.2)).Nodup := pm.nodup_iff.mpr R.nd
  have hn : H p = none := I.hok.fresh hp
  have J : Inv X pins σ (upd H p (.lst (L'.map fun z => V.ref z.1))) { heap := s'.heap, gens := s'.gens, drawn := s'.drawn, toks := s'.toks, os := s.os } :=
    I.call (ch := []) (Un.laid k hp hn) (I.hok.laid k hp ⟨hlen, out.toList, c, by rw [hout]; exact vals_of_refs L', hg⟩) (by rw [g]; exact I.bare) (fun _ z => nomatch z)
  have e : s' = { heap := s'.heap, gens := s'.gens, drawn := s'.drawn, toks := s'.toks, os := s.os } := by rw [← o]
  rw [e]
  exact ⟨.ref p, _, J, rfl, q L' p hsub pm nd pw hn⟩
end
/-- strictly ascending -/
def AscS (rs : List (List Int)) : Prop := rs.Pairwise fun a b => HT.lexLt a b = true
theorem lex_or : ∀ a b : List Int, HT.lexLt a b = true ∨ a = b ∨ HT.lexLt b a = true
  | [], [] => Or.inr (Or.inl rfl)
  | [], _ :: _ => Or.inl rfl
  | _ :: _, [] => Or.inr (Or.inr rfl)
  | x :: a, y :: b => by
    rw [HT.lexLt_cons, HT.lexLt_cons]
    by_cases e : x = y
    · subst e
      rw [if_pos rfl, if_pos rfl]
      rcases lex_or a b with h | h | h
      · exact Or.inl h
      · subst h; exact Or.inr (Or.inl rfl)
      · exact Or.inr (Or.inr h)
    · rw [if_neg e, if_neg (Ne.symm e)]
      by_cases l : x < y
      · exact Or.inl (decide_eq_true l)
      · exact Or.inr (Or.inr (decide_eq_true (by omega)))
theorem lex_irr : ∀ a : List Int, HT.lexLt a a = false
  | [] => rfl
  | x :: a => by rw [HT.lexLt_cons, if_pos rfl]; exact lex_irr a
theorem lex_ne {a b : List Int} (h : HT.lexLt a b = true) : a ≠ b := fun e => by subst e; rw [lex_irr] at h; cases h
theorem asc_strict {rs : List (List Int)} (h : AscR rs) (n : rs.Nodup) : AscS rs := by
  refine List.Pairwise.imp (fun {a b} hab => ?_) (List.Pairwise.and h n)
  rcases lex_or a b with z | z | z
  · exact z
  · exact absurd z hab.2
  · rw [z] at hab; cases hab.1
/-- strictly ascending lists with the same members are one -/
theorem asc_ext : ∀ {as bs : List (List Int)}, AscS as → AscS bs → (∀ r, r ∈ as ↔ r ∈ bs) → as = bs
  | [], [], _, _, _ => rfl
  | [], b :: bs, _, _, h => absurd ((h b).mpr List.mem_cons_self) (by simp)
  | a :: as, [], _, _, h => absurd ((h a).mp List.mem_cons_self) (by simp)
  | a :: as, b :: bs, h1, h2, h => by
    obtain ⟨p1, q1⟩ := List.pairwise_cons.mp h1
    obtain ⟨p2, q2⟩ := List.pairwise_cons.mp h2
    have e : a = b := by
      rcases List.mem_cons.mp ((h a).mp List.mem_cons_self) with e | m
      · exact e
      · rcases List.mem_cons.mp ((h b).mpr List.mem_cons_self) with e | m2
        · exact e.symm
        · have z1 := p2 a m
          have z2 := p1 b m2
          rw [NtL.lex_asym _ _ z1] at z2; cases z2
    subst e
    have hn1 : a ∉ as := fun m => lex_ne (p1 a m) rfl
    have hn2 : a ∉ bs := fun m => lex_ne (p2 a m) rfl
    rw [asc_ext q1 q2 fun r => ⟨fun m => ?_, fun m => ?_⟩]
    · rcases List.mem_cons.mp ((h r).mp (List.mem_cons_of_mem _ m)) with e | m2
      · subst e; exact absurd m hn1
      · exact m2
    · rcases List.mem_cons.mp ((h r).mpr (List.mem_cons_of_mem _ m)) with e | m2
      · subst e; exact absurd m hn2
      · exact m2
section
variable {X : Cx} {e : Expr} {w : WE}
/-- sorted(set(rows)) -/
def wSetR (w : WE) : WA := fun en Q => w en fun d e1 => ∃ rs : List (List Int), d = .list (rs.map rowD) ∧ rs.length < 64 ∧ ∀ rs' : List (List Int), AscS rs' → (∀ r, r ∈ rs' ↔ r ∈ rs) → Q (rs'.map rowD) e1
theorem l_setR (hc : X.calm = true) (hu : X.A.units + 64 < cLine) {p p' pos pos' : Pos} (hm : X.mg "sorted" = none) (hm' : X.mg "set" = none) (ha : PE X e (lE X.K w)) (hg : Gl X "sorted" := by rfl) (hg' : Gl X "set" := by rfl)
    (he : starEach (e :: []) X.env = (false, eval e X.env) :: starEach [] X.env := by rfl) (hpl : (backTo pos' (starEach [] X.env)).any (·.1) = false := by rfl)
    (he' : starEach (.Call (.Name "set" p') [e] [] pos' :: []) X.env = (false, eval (.Call (.Name "set" p') [e] [] pos') X.env) :: starEach [] X.env := by rfl) (hpl' : (backTo pos (starEach [] X.env)).any (·.1) = false := by rfl) :
    PE X (.Call (.Name "sorted" p) [.Call (.Name "set" p') [e] [] pos'] [] pos) (lL X.K (wSetR w)) :=
  (pe_callB (cr_sortedSR hc hu) hg hm (by decide +kernel) (pa_cons (pe_callTy (cr_setOfT hc hu) hg' hm' (by decide +kernel) (pa_cons ha pa_nil he) (by decide) (by decide) he hpl) pa_nil he') (by decide) (by decide) he' hpl').mo fun σ H Q ⟨G, en, I, Q', ok, q, k⟩ => ⟨G, en, I, _, ok, q, fun v H1 I1 e1 d o1 x1 dv ⟨rs, hd, hl, q1⟩ => by
    subst hd
    cases dv with
    | lst hs ha =>
      obtain ⟨ks, e1', e2', e3'⟩ := da_rows ha
      subst e1'
      refine ⟨_, ks, rfl, SqL.of (o1.iH _ _ hs), fun q hq => sqt_ex o1.iH (e3' q hq), by rw [← e2', List.length_map] at hl; exact hl, fun a L hn hsub hall => ?_⟩
      have hne : ∀ (b : Addr) (o : HO), H1 b = some o → upd H1 a (SetTO X.prog X.w a L) b = some o := fun b o hb => by rw [upd_ne (ne_of_none hb hn)]; exact hb
      have sqt : ∀ z ∈ L, SqT X.K (upd H1 a (SetTO X.prog X.w a L)) z.1 (z.2.map V.int) := fun z hz => sqt_ex hne (sqt_ex o1.iH (e3' z (hsub z hz)))
      refine ⟨a, L, rfl, upd_same, sqt, fun L' p h1 pm nd pw hp => ?_⟩
      have hap : p ≠ a := fun z => by rw [z, upd_same] at hp; cases hp
      have hp1 : H1 p = none := by rw [upd_ne hap] at hp; exact hp
      have g : Ok X.K G σ e1 (upd H1 a (SetTO X.prog X.w a L)) I1 := o1.grow (Ex.up hn) (Ex.rf I1) (o1.iH.tr (Ex.up hn)) fun b z1 z2 => absurd z2 z1
      refine k p _ _ I1 e1 _ g x1 hp (rows_da e3' L' fun z hz => hsub z (h1 z hz)) (q1 _ (asc_strict pw nd) fun r => ?_)
      rw [pm.mem_iff, ← e2']
      constructor
      · intro hr
        obtain ⟨z, hz, e⟩ := List.mem_map.mp hr
        exact List.mem_map.mpr ⟨z, hsub z hz, e⟩
      · intro hr
        obtain ⟨z, hz, e⟩ := List.mem_map.mp hr
        rw [← e]; exact hall z hz⟩
end
end Pd

set_option Elab.async false
set_option linter.all false
set_option maxRecDepth 100000
set_option maxHeartbeats 4000000
namespace Pd
open PySem PySem.Spec PyProof.Rows L2
/-! ### sorted(t), t a tuple of ints -/
section
variable {prog : Program} {w : World} {A : Around} {E : Value → Shared → Prop} {s : Shared}
theorem gatherT {l : Addr} {vs : List Value} {Q : List Value → Shared → Prop} (hl : s.heap.IsTuple l vs.toArray) (hz : vs.length ≤ sizeLine)
    (q : Q vs { s with heap := (s.heap.push (seqObj "list" #[] 0)).update s.heap.objs.size (Obj.mapSeq (· ++ vs.toArray)) }) : wpAny (model prog w) A (collect (.ref l)) Q E s := by
  obtain ⟨o, ho, hc, n, hd⟩ := id hl
  unfold collect; refine wpAny_bind (wpAny_runValue (codeAny_builtin entry_proto_collect' ?_))
  show wpAny _ _ (do again (.builtin "list.__iadd__" ⟨[← newList [], .ref l], []⟩)) _ _ s
  refine wpAny_bind (wpAny_newList (wpAny_pure ⟨Code.quiet_builtin _ (by decide +kernel), codeAny_builtin entry_list_iadd' ?_⟩))
  show wpAny _ _ (Builtin.List.listExtendWith (.ref s.heap.objs.size) (.ref l) (.ref s.heap.objs.size)) _ _ { s with heap := s.heap.push (seqObj "list" #[] 0) }
  unfold Builtin.List.listExtendWith
  have ho' : (s.heap.push (seqObj "list" #[] 0)).get? l = some o := Heap.get?_push_of_some _ ho
  refine wpAny_bind (wpAny_typeOf (T := "tuple") ⟨o, ho', hc⟩ ?_)
  have h1 : (Value.type "tuple" == Value.type "list") = false := by decide +kernel
  have h2 : (Value.type "tuple" == Value.type "tuple") = true := by decide +kernel
  rw [if_pos (by rw [h1, h2]; simp)]; refine wpAny_bind (listItems_at ho' hd ?_)
  refine wpAny_bind (listItems_at (xs := #[]) (n := 0) (Heap.get?_push_size _ rfl) rfl ?_); rw [if_neg (by simp)]
  refine wpAny_bind (listUpdate_at (xs := #[]) (n := 0) (Heap.get?_push_size _ rfl) rfl (wpAny_pure ?_) (Nat.zero_le _) (by show (#[] ++ vs.toArray).size ≤ sizeLine + 1; simp only [Array.size_append, List.size_toArray, List.length_nil]; omega))
  show wpAny (model prog w) A (do { let o ← load s.heap.objs.size; match o.data with | .seq xs _ => pure xs.toList | _ => unsupported "internal:collect" }) Q E { s with heap := (s.heap.push (seqObj "list" #[] 0)).update s.heap.objs.size (Obj.mapSeq (· ++ vs.toArray)) }
  refine wpAny_bind (wpAny_load (get?_update_seq (Heap.get?_push_size _ rfl) _) ?_)
  show wpAny _ _ (pure ((#[] : Array Value) ++ vs.toArray).toList) Q E _
  rw [show ((#[] : Array Value) ++ vs.toArray).toList = vs by simp]; exact wpAny_pure q
theorem sortTupInts {l : Addr} {vs : List Value} {ns : List Int} {Q : Value → Shared → Prop} (hl : s.heap.IsTuple l vs.toArray) (hi : IntsAre vs ns) (hz : vs.length ≤ sizeLine)
    (fin : ∀ out : List Value, SrtO.Srtd SrtO.ltIv out → SrtO.Stb SrtO.ltIv out vs → Q (.ref (s.heap.objs.size + 1)) { s with heap := sortedAll s.heap vs out.toArray }) : wpAny (model prog w) A (call (.builtin "sorted") [.ref l]) Q E s := by
  refine Calls.call_function_entry kind_sorted plain_sorted entry_sorted (args_sorted1 _) ?_
  unfold Builtin.«sorted»; refine wpAny_bind (m := checkCount "sorted" 1 1 _) (wpAny_pure ?_)
  refine wpAny_bind (gatherT hl hz ?_); refine wpAny_bind (wpAny_newList ?_ hz)
  have hsz : ((s.heap.push (seqObj "list" #[] 0)).update s.heap.objs.size (Obj.mapSeq (· ++ vs.toArray))).objs.size = s.heap.objs.size + 1 := by rw [Heap.size_update, size_push']
  have hoL : (((s.heap.push (seqObj "list" #[] 0)).update s.heap.objs.size (Obj.mapSeq (· ++ vs.toArray))).push (seqObj "list" vs.toArray 0)).get? (s.heap.objs.size + 1) = some (seqObj "list" vs.toArray 0) := by rw [← hsz]; exact Heap.get?_push_size _ rfl
  show wpAny _ _ _ _ _ { s with heap := ((s.heap.push (seqObj "list" #[] 0)).update s.heap.objs.size (Obj.mapSeq (· ++ vs.toArray))).push (seqObj "list" vs.toArray 0) }
  rw [hsz]
  refine wpAny_bind (wpAny_holding (wpAny_call_entry slot_list_sort ⟨_, hoL, rfl⟩ entry_list_sort (SrtO.list_sort_ord SrtO.swo_int hoL hz (fun h2 => SrtO.ints_sortable hi h2) fun out hs hb => ⟨_, rfl, ?_⟩) (args_list_sort _)))
  exact wpAny_pure ⟨_, rfl, fin out hs hb⟩
theorem sortTup {l : Addr} {vs : List Value} {ltv : Value → Value → Bool} {Q : Value → Shared → Prop} (O : SrtO.Swo ltv) (hl : s.heap.IsTuple l vs.toArray) (hz : vs.length ≤ sizeLine)
    (hS : 2 ≤ vs.length → ∀ (h₁ : Heap) (a : Addr), h₁.get? a = some (seqObj "list" vs.toArray 0) → (∀ b o, s.heap.get? b = some o → h₁.get? b = some o) → SrtO.SortableO prog w A.in1.in1 { s with heap := h₁ } a vs ltv)
    (fin : ∀ out : List Value, SrtO.Srtd ltv out → SrtO.Stb ltv out vs → Q (.ref (s.heap.objs.size + 1)) { s with heap := sortedAll s.heap vs out.toArray }) : wpAny (model prog w) A (call (.builtin "sorted") [.ref l]) Q E s := by
  refine Calls.call_function_entry kind_sorted plain_sorted entry_sorted (args_sorted1 _) ?_
  unfold Builtin.«sorted»; refine wpAny_bind (m := checkCount "sorted" 1 1 _) (wpAny_pure ?_)
  refine wpAny_bind (gatherT hl hz ?_); refine wpAny_bind (wpAny_newList ?_ hz)
  have hsz : ((s.heap.push (seqObj "list" #[] 0)).update s.heap.objs.size (Obj.mapSeq (· ++ vs.toArray))).objs.size = s.heap.objs.size + 1 := by rw [Heap.size_update, size_push']
  have hoL : (((s.heap.push (seqObj "list" #[] 0)).update s.heap.objs.size (Obj.mapSeq (· ++ vs.toArray))).push (seqObj "list" vs.toArray 0)).get? (s.heap.objs.size + 1) = some (seqObj "list" vs.toArray 0) := by rw [← hsz]; exact Heap.get?_push_size _ rfl
  have keep : ∀ b o, s.heap.get? b = some o → (((s.heap.push (seqObj "list" #[] 0)).update s.heap.objs.size (Obj.mapSeq (· ++ vs.toArray))).push (seqObj "list" vs.toArray 0)).get? b = some o := fun b o q => by
    have hlt := Heap.lt_size q; refine Heap.get?_push_of_some _ ?_; rw [Heap.get?_update_ne _ _ _ _ (Nat.ne_of_lt hlt)]; exact Heap.get?_push_of_some _ q
  show wpAny _ _ _ _ _ { s with heap := ((s.heap.push (seqObj "list" #[] 0)).update s.heap.objs.size (Obj.mapSeq (· ++ vs.toArray))).push (seqObj "list" vs.toArray 0) }
  rw [hsz]
  refine wpAny_bind (wpAny_holding (wpAny_call_entry slot_list_sort ⟨_, hoL, rfl⟩ entry_list_sort (SrtO.list_sort_ord O hoL hz (fun h2 => hS h2 _ _ hoL keep) fun out hs hb => ⟨_, rfl, ?_⟩) (args_list_sort _)))
  exact wpAny_pure ⟨_, rfl, fin out hs hb⟩
theorem sumTup {t : Addr} {its : List Value} {ns : List Int} {Q : Value → Shared → Prop} (hh : A.handled = none) (hl : s.heap.IsTuple t its.toArray) (hi : IntsAre its ns)
    (h : ∀ h' tk t', (∀ b o, s.heap.get? b = some o → h'.get? b = some o) → Q (.int ns.sum t') { s with heap := h', toks := tk }) : wpAny (model prog w) A (call (.builtin "sum") [.ref t]) Q E s := by
  obtain ⟨xs, e⟩ := hi.allInts.items
  have hn : numsOf (intItems xs).toList = ns := by rw [← e]; exact hi.numsOf
  rw [nums_intItems] at hn; rw [e] at hl
  refine PySem.W.ktm_sumG hh hl fun h' tk t' hk => ?_
  have := h h' tk t' hk
  rw [preSum_eq, List.take_of_length_le (by simp), hn]; exact this
end
def rSortedTI (K : PySem.W.Frag) : List V → Hp → VK → Prop := fun vs H Q => ∃ (a : Addr) (ns : List Int), vs = [V.ref a] ∧ SqT K H a (ns.map V.int) ∧ ∀ (ns' : List Int) (p : Addr), ns'.Perm ns → ns'.Pairwise (· ≤ ·) → H p = none → Q (.ref p) (upd H p (.lst (ns'.map V.int)))
def rSortedTR (K : PySem.W.Frag) : List V → Hp → VK → Prop := fun vs H Q => ∃ (a : Addr) (ks : List (Addr × List Int)), vs = [V.ref a] ∧ SqT K H a (ks.map fun q => V.ref q.1) ∧ (∀ q ∈ ks, SqT K H q.1 (q.2.map V.int)) ∧
  ∀ (ks' : List (Addr × List Int)) (p : Addr), (∀ q ∈ ks', q ∈ ks) → (ks'.map (·.2)).Perm (ks.map (·.2)) → (ks'.map (·.2)).Pairwise (fun a b => HT.lexLt b a = false) → H p = none → Q (.ref p) (upd H p (.lst (ks'.map fun q => V.ref q.1)))
def rSumT (K : PySem.W.Frag) : List V → Hp → VK → Prop := fun vs H Q => ∃ (a : Addr) (ns : List Int), vs = [V.ref a] ∧ SqT K H a (ns.map V.int) ∧ Q (.int ns.sum) H
section
variable {X : Cx}
theorem or_call {id : Value} {r r' : List V → Hp → VK → Prop} (a : CallR X id r) (b : CallR X id r') : CallR X id fun xs H Q => r xs H Q ∨ r' xs H Q := fun pins s σ H vs us Q I rr h => by
  rcases h with h | h
  · exact a pins s σ H vs us Q I rr h
  · exact b pins s σ H vs us Q I rr h
theorem cr_sortedTI : CallR X (.builtin "sorted") (rSortedTI X.K) := by
  intro pins s σ H vs us Q I r h
  obtain ⟨a, ns, rfl, hs, q⟩ := h
  obtain ⟨its, rv, hl, hz⟩ := I.tuple hs
  rw [Vals.ref1 r]
  have hi := intsAre_of rv
  refine sortTupInts hl hi (by rw [← rv.length]; exact hz) fun out h1 h2 => ?_
  obtain ⟨k1, k2, k3⟩ := SrtO.ints_out hi h1 h2
  obtain ⟨ep, he'⟩ := PyProof.Rows.sortedAll_at s.heap its out.toArray
  have hlen : ((out.map SrtO.iv).map V.int).length ≤ sizeLine := by rw [List.length_map, k2.length_eq]; rw [List.length_map] at hz; exact hz
  exact ⟨.ref _, upd H (s.heap.objs.size + 1) (.lst ((out.map SrtO.iv).map V.int)), I.laid (t' := s.toks) (fun _ _ => PyProof.Rows.sortedAll_old) (Nat.le_succ _) ⟨hlen, out, ep, vals_of_ints k1, he'⟩, rfl, q _ _ k2 k3 (I.hok.fresh (Nat.le_succ _))⟩
theorem cr_sortedTR (hu : X.A.units + 64 < cLine) : CallR X (.builtin "sorted") (rSortedTR X.K) := by
  intro pins s σ H vs us Q I r h
  obtain ⟨a, ks, rfl, hs, hk, q⟩ := h
  obtain ⟨its, rv, hl, hz⟩ := I.tuple hs
  have ei := refs_of_vals rv
  rw [Vals.ref1 r]
  have tup : ∀ q ∈ ks, TS.TupInts s.heap (.ref q.1) q.2 := fun q hq => tupI_raw I (hk q hq)
  have tv : ∀ v ∈ its, TS.TupInts s.heap v (TS.intsOf s.heap v) := fun v hv => by
    rw [ei] at hv
    obtain ⟨q, hq, e⟩ := List.mem_map.mp hv
    have t := tup q hq
    rw [← e, t.ints]; exact t
  have hlen : its.length = ks.length := by rw [ei, List.length_map]
  refine sortTup (ltv := fun v u => HT.lexLt (TS.intsOf s.heap v) (TS.intsOf s.heap u)) (NtL.swo_lexL _) hl (by rw [hlen]; simpa using hz) (fun h2 h₁ a' ha' keep => ?_) fun out h1 h2 => ?_
  · refine rowSortable h2 (by show X.A.units + 2 < cLine; omega) (fun v hv => (tv v hv).keeps fun b o e c => keep b o e) fun o e => ?_
    rw [ha'] at e; cases e
    intro c; exact absurd (Value.type.inj c) (by decide)
  · obtain ⟨ep, he'⟩ := PyProof.Rows.sortedAll_at s.heap its out.toArray
    obtain ⟨ks', eo, hsub⟩ := back_refs (ks := ks) (L := out) fun v hv => by
      have := h2.perm.mem_iff.mp hv
      rw [ei] at this
      obtain ⟨q, hq, e⟩ := List.mem_map.mp this
      exact ⟨q, hq, e.symm⟩
    have hi : ∀ L : List (Addr × List Int), (∀ q ∈ L, q ∈ ks) → (L.map fun q => Value.ref q.1).map (TS.intsOf s.heap) = L.map (·.2) := fun L hL => by
      rw [List.map_map]
      exact List.map_congr_left fun q hq => (tup q (hL q hq)).ints
    have pm : (ks'.map (·.2)).Perm (ks.map (·.2)) := by
      have p := (h2.perm.map (TS.intsOf s.heap))
      rw [eo, ei, hi ks' hsub, hi ks fun _ h => h] at p
      exact p
    have pw : (ks'.map (·.2)).Pairwise (fun a b => HT.lexLt b a = false) := by
      rw [← hi ks' hsub, ← eo]; exact List.pairwise_map.mpr h1
    have hl2 : (ks'.map fun q => V.ref q.1).length ≤ sizeLine := by
      have := pm.length_eq
      simp only [List.length_map] at this hz ⊢
      rw [this]; exact hz
    exact ⟨.ref _, upd H (s.heap.objs.size + 1) (.lst (ks'.map fun q => V.ref q.1)), I.laid (t' := s.toks) (fun _ _ => PyProof.Rows.sortedAll_old) (Nat.le_succ _) ⟨hl2, out, ep, by rw [eo]; exact vals_of_refs ks', he'⟩, rfl, q ks' _ hsub pm pw (I.hok.fresh (Nat.le_succ _))⟩
theorem cr_sumT (hc : X.calm = true) : CallR X (.builtin "sum") (rSumT X.K) := by
  intro pins s σ H vs us Q I r h
  obtain ⟨a, ns, rfl, hs, q⟩ := h
  obtain ⟨its, rv, hl, _⟩ := I.tuple hs
  rw [Vals.ref1 r]
  exact sumTup (I.ok.hd hc) hl (intsAre_of rv) fun h' tk t' hk => ⟨.int _, H, I.kept hk, ⟨_, rfl⟩, q⟩
def dSumA : List D → D → Prop := fun xs z => ∃ ns : List Int, (xs = [.list (ns.map .int)] ∨ xs = [.tuple (ns.map .int)]) ∧ z = .int ns.sum
theorem cr_sumA (hc : X.calm = true) : CallR X (.builtin "sum") (fun xs H Q => rSum X.K xs H Q ∨ rSumT X.K xs H Q) := or_call (cr_sum hc) (cr_sumT hc)
theorem snd_sumA {K : PySem.W.Frag} : SndCl K (fun xs H Q => rSum K xs H Q ∨ rSumT K xs H Q) dSumA := by
  rintro H I xs ds z iH hx ⟨ns, rfl | rfl, rfl⟩ Q k
  · cases hx with
    | cons h t => cases t; cases h with
      | lst h a =>
        have e := dpa_ints_inv ns a
        subst e
        exact Or.inl ⟨_, ns, rfl, SqL.of (iH _ _ h), k _ H I (Gr.rf iH) (.int _)⟩
  · cases hx with
    | cons h t => cases t; cases h with
      | tup h a =>
        have e := dpa_ints_inv ns a
        subst e
        exact Or.inr ⟨_, ns, rfl, sqt_ex iH h, k _ H I (Gr.rf iH) (.int _)⟩
theorem i_sumL {ns : List Int} {z : D} : dSumA [.list (ns.map .int)] z ↔ z = .int ns.sum := by
  constructor
  · rintro ⟨ms, h | h, e⟩
    · injection h with h _; injection h with h; rw [ints_inj h]; exact e
    · injection h with h _; cases h
  · exact fun e => ⟨ns, Or.inl rfl, e⟩
theorem i_sumT {ns : List Int} {z : D} : dSumA [.tuple (ns.map .int)] z ↔ z = .int ns.sum := by
  constructor
  · rintro ⟨ms, h | h, e⟩
    · injection h with h _; cases h
    · injection h with h _; injection h with h; rw [ints_inj h]; exact e
  · exact fun e => ⟨ns, Or.inr rfl, e⟩
/-! ### sorted(x): ints of a list or a tuple, rows of a list -/
variable {e : Expr} {w : WE}
def wSortA (w : WE) : WA := fun en Q => w en fun d e1 =>
  (∃ ns : List Int, (d = .list (ns.map .int) ∨ d = .tuple (ns.map .int)) ∧ ∀ ns' : List Int, ns'.Perm ns → ns'.Pairwise (· ≤ ·) → Q (ns'.map .int) e1) ∨
  (∃ rs : List (List Int), (d = .list (rs.map rowD) ∨ d = .tuple (rs.map rowD)) ∧ ∀ rs' : List (List Int), rs'.Perm rs → AscR rs' → Q (rs'.map rowD) e1)
theorem l_sortA (hu : X.A.units + 64 < cLine) {p pos : Pos} (hm : X.mg "sorted" = none) (ha : PE X e (lE X.K w)) (hg : Gl X "sorted" := by rfl)
    (he : starEach (e :: []) X.env = (false, eval e X.env) :: starEach [] X.env := by rfl) (hpl : (backTo pos (starEach [] X.env)).any (·.1) = false := by rfl) :
    PE X (.Call (.Name "sorted" p) [e] [] pos) (lL X.K (wSortA w)) :=
  (pe_callB (or_call (or_call cr_sortedI cr_sortedTI) (or_call (cr_sortedR hu) (cr_sortedTR hu))) hg hm (by decide +kernel) (pa_cons ha pa_nil he) (by decide) (by decide) he hpl).mo fun σ H Q ⟨G, en, I, Q', ok, q, k⟩ => ⟨G, en, I, _, ok, q, fun v H1 I1 e1 d o1 x1 dv h => by
    rcases h with ⟨ns, hd | hd, q1⟩ | ⟨rs, hd | hd, q1⟩
    · subst hd
      cases dv with
      | lst hs ha =>
        have ev := dpa_ints_inv ns ha
        subst ev
        exact Or.inl (Or.inl ⟨_, ns, rfl, SqL.of (o1.iH _ _ hs), fun ns' p h1 h2 hp => k p _ H1 I1 e1 _ o1 x1 hp (dpa_ints ns') (q1 ns' h1 h2)⟩)
    · subst hd
      cases dv with
      | tup hs ha =>
        have ev := dpa_ints_inv ns ha
        subst ev
        exact Or.inl (Or.inr ⟨_, ns, rfl, sqt_ex o1.iH hs, fun ns' p h1 h2 hp => k p _ H1 I1 e1 _ o1 x1 hp (dpa_ints ns') (q1 ns' h1 h2)⟩)
    · subst hd
      cases dv with
      | lst hs ha =>
        obtain ⟨ks, e1', e2', e3'⟩ := da_rows ha
        subst e1'
        refine Or.inr (Or.inl ⟨_, ks, rfl, SqL.of (o1.iH _ _ hs), fun q hq => sqt_ex o1.iH (e3' q hq), fun ks' p hsub pm pw hp => ?_⟩)
        rw [e2'] at pm
        exact k p _ H1 I1 e1 _ o1 x1 hp (rows_da e3' ks' hsub) (q1 _ pm pw)
    · subst hd
      cases dv with
      | tup hs ha =>
        obtain ⟨ks, e1', e2', e3'⟩ := da_rows ha
        subst e1'
        refine Or.inr (Or.inr ⟨_, ks, rfl, sqt_ex o1.iH hs, fun q hq => sqt_ex o1.iH (e3' q hq), fun ks' p hsub pm pw hp => ?_⟩)
        rw [e2'] at pm
        exact k p _ H1 I1 e1 _ o1 x1 hp (rows_da e3' ks' hsub) (q1 _ pm pw)⟩
/-! ### list(range(..)), tuple(range(..)) -/
theorem rgV_da {K : PySem.W.Frag} {I : Hp} (a b : Int) : DaAll K I (rgV a b) (rngD a (b - a).toNat) := by
  unfold rngD
  have : ∀ (n : Nat) (f : Nat → Int), DaAll K I ((List.range n).map fun i => V.int (f i)) ((List.range n).map fun i => PyData.int (f i)) := fun n f => by
    have := dpa_ints (K := K) (H := I) ((List.range n).map f)
    rw [List.map_map, List.map_map] at this
    exact this
  exact this _ _
variable {a b : Expr} {wa wb : WE} {p p' pos pos' : Pos}
def wLR1 (wa : WE) : WA := fun en Q => wa en fun d e1 => ∃ j : Int, d = .int j ∧ -(2 ^ 62) ≤ j ∧ j ≤ 2 ^ 24 ∧ Q (rngD 0 j.toNat) e1
def wLR2 (wa wb : WE) : WA := fun en Q => wa en fun d e1 => wb e1 fun d2 e2 => ∃ i j : Int, d = .int i ∧ d2 = .int j ∧ RgOk i j ∧ Q (rngD i (j - i).toNat) e2
theorem rg_ok1 {j : Int} (h : -(2 ^ 62) ≤ j) (h2 : j ≤ 2 ^ 24) : RgOk 0 j := ⟨by omega, by omega, by omega, by omega, by omega⟩
theorem l_listR1 (hc : X.calm = true) (hm : X.mg "list" = none) (hm' : X.mg "range" = none) (ha : PE X a (lE X.K wa)) (hg : Gl X "list" := by rfl) (hg' : Gl X "range" := by rfl) (na : starEach [a] X.env = (false, eval a X.env) :: starEach [] X.env := by rfl) :
    PE X (.Call (.Name "list" p) [.Call (.Name "range" p') [a] [] pos'] [] pos) (lL X.K (wLR1 wa)) :=
  (pe_listRg hc hg hm (prg_1 hg' hm' ha na)).mo fun σ H Q ⟨G, en, I, Q', ok, q, k⟩ => ⟨G, en, I, _, ok, q, fun v H1 I1 e1 d o1 x1 dv ⟨j, hd, h1, h2, q1⟩ => by
    subst hd; cases dv
    refine ⟨j, rfl, rg_ok1 h1 h2, fun q hq => ?_⟩
    have r := rgV_da (K := X.K) (I := I1) 0 j
    rw [Int.sub_zero] at r
    exact k q _ H1 I1 e1 _ o1 x1 hq r q1⟩
theorem l_listR2 (hc : X.calm = true) (hm : X.mg "list" = none) (hm' : X.mg "range" = none) (ha : PE X a (lE X.K wa)) (hb : PE X b (lE X.K wb)) (hg : Gl X "list" := by rfl) (hg' : Gl X "range" := by rfl) (na : starEach [a, b] X.env = (false, eval a X.env) :: starEach [b] X.env := by rfl) (nb : starEach [b] X.env = (false, eval b X.env) :: starEach [] X.env := by rfl) (hp : (backTo pos' (starEach [b] X.env)).any (·.1) = false := by rfl) :
    PE X (.Call (.Name "list" p) [.Call (.Name "range" p') [a, b] [] pos'] [] pos) (lL X.K (wLR2 wa wb)) :=
  (pe_listRg hc hg hm (prg_2 hg' hm' ha hb na nb hp)).mo fun σ H Q ⟨G, en, I, Q', ok, q, k⟩ => ⟨G, en, I, _, ok, q, fun v H1 I1 e1 d o1 x1 dv q1 => ⟨G, e1, I1, _, o1, q1, fun v2 H2 I2 e2 d2 o2 x2 dv2 ⟨i, j, hd, hd2, hr, q2⟩ => by
    subst hd hd2; cases dv; cases dv2
    exact ⟨i, j, rfl, rfl, hr, fun q hq => k q _ H2 I2 e2 _ o2 (x1.tr x2) hq (rgV_da i j) q2⟩⟩⟩
def wTR1 (wa : WE) : WE := fun en Q => wa en fun d e1 => ∃ j : Int, d = .int j ∧ -(2 ^ 62) ≤ j ∧ j ≤ 2 ^ 24 ∧ Q (.tuple (rngD 0 j.toNat)) e1
theorem d_tupR1 (hc : X.calm = true) (hm : X.mg "tuple" = none) (hm' : X.mg "range" = none) (ha : PE X a (lE X.K wa)) (hg : Gl X "tuple" := by rfl) (hg' : Gl X "range" := by rfl) (na : starEach [a] X.env = (false, eval a X.env) :: starEach [] X.env := by rfl) :
    PE X (.Call (.Name "tuple" p) [.Call (.Name "range" p') [a] [] pos'] [] pos) (lE X.K (wTR1 wa)) :=
  (pe_tupRg hc hg hm (prg_1 hg' hm' ha na)).mo fun σ H Q ⟨G, en, I, Q', ok, q, k⟩ => ⟨G, en, I, _, ok, q, fun v H1 I1 e1 d o1 x1 dv ⟨j, hd, h1, h2, q1⟩ => by
    subst hd; cases dv
    refine ⟨j, rfl, rg_ok1 h1 h2, fun q hq => ?_⟩
    have r := rgV_da (K := X.K) (I := I1) 0 j
    rw [Int.sub_zero] at r
    obtain ⟨o2, x2⟩ := o1.new (u := .tup (rgV 0 j)) hq
    exact k (.ref q) _ _ e1 _ o2 (x1.tr x2) (.tup (SqT.of upd_same) (r.up x2)) q1⟩
/-! ### t.index(x), t a tuple of flat data -/
def rIndexTp (K : PySem.W.Frag) : V → List V → Hp → VK → Prop := fun x xs H Q => ∃ (a : Addr) (ys : List V) (y : V) (j : Nat) (z : V), x = V.ref a ∧ xs = [y] ∧ SqT K H a ys ∧ flatV y = true ∧ ys.all flatV = true ∧ ys[j]? = some z ∧ eqV z y = true ∧ (∀ m u, m < j → ys[m]? = some u → eqV u y = false) ∧ Q (.int (j : Nat)) H
end
end Pd

set_option Elab.async false
set_option linter.all false
set_option maxRecDepth 100000
set_option maxHeartbeats 4000000
namespace Pd
open PySem PySem.Spec PyProof.Rows L2
/-! ### set(t), t a tuple of rows -/
abbrev mtSet (w : World) : Obj := { cls := .type "set", dict := none, data := .set #[] 0 (.fresh 0 0 (!w.params.followText "set-order")) }
section
variable {P : Program} {w : World} {A : Around} {E : Value → Shared → Prop} {s : Shared}
set_option maxHeartbeats 3200000 in
theorem setOfTup {l : Addr} {items : Array Value} (ks : List (Addr × List Int)) {Q : Value → Shared → Prop} (hh : A.handled = none) (hl : s.heap.IsTuple l items) (hit : items.toList = ks.map fun z => Value.ref z.1) (hk : ∀ z ∈ ks, IsT P w s.heap z.2 z.1) (hfew : ks.length < 64) (hu : A.units + 3 < cLine)
    (fin : ∀ (h' : Heap) (tk : Nat) L es ep t, SetTR P w h' s.heap.objs.size L es ep t → Got ks ks.length L → (∀ b o, s.heap.get? b = some o → h'.get? b = some o) → Q (.ref s.heap.objs.size) { s with heap := h', toks := tk }) : wpAny (model P w) A (call (.type "set") [.ref l]) Q E s := by
  have hn : items.size = ks.length := by have q := congrArg List.length hit; rw [Array.length_toList, List.length_map] at q; exact q
  obtain ⟨c, tl, hmro⟩ := F.called_set.mro
  have hmade := F.called_set.made; have hsub := F.called_set.sub
  refine wpAny_call (codeAny_of_tree ?_); show wpAny _ _ (callAny (.type "set") _) _ _ _
  refine wpAny_pure ⟨Code.quiet_builtin _ (by decide +kernel), codeAny_builtin F.entry_type_call ?_⟩
  rw [Around.under_plain (weight_type_call_type "set" [.ref l] []) rfl]
  have h1 := F.called_set.notType; have h2 := F.called_set.canCreate; have hct := F.typeCall_set_1 (.ref l)
  repeat (any_goals (first | assumption | wp_step))
  refine codeAny_mono (code_set_led1 (.ref l) (E := E) (Q₁ := fun obj s₁ => obj = .ref s.heap.objs.size ∧ s₁ = { s with heap := s.heap.push (mtSet w) }) ⟨rfl, rfl⟩) fun r s₁ hr => ?_
  cases r with
  | error e => exact hr
  | ok fl =>
    cases fl with
    | ret obj =>
      obtain ⟨rfl, rfl⟩ := hr
      have hS : (s.heap.push (mtSet w)).get? s.heap.objs.size = some (mtSet w) := Heap.get?_push_size _ rfl
      have hT : Shared.TypeIs { s with heap := s.heap.push (mtSet w) } (.ref s.heap.objs.size) "set" := ⟨_, hS, rfl⟩
      have hli := F.called_set.init.lookup; have hbi := F.called_set.init.bind (.ref s.heap.objs.size)
      repeat (any_goals (first | assumption | wp_step))
      refine codeAny_mono (codeAny_call_builtin (R := wants (fun r s₂ => r = .none ∧ ∃ h' tk L es ep t, s₂ = { s with heap := h', toks := tk } ∧ SetTR P w h' s.heap.objs.size L es ep t ∧ Got ks ks.length L ∧ (∀ b o, s.heap.get? b = some o → h'.get? b = some o)) E) F.called_set.init.plain F.entry_set_init (check_set_init_1 hT ?_)) fun r₂ s₂ hr₂ => ?_
      · obtain ⟨ol, hol, hcl, nl, hdl⟩ := hl
        obtain ⟨ocls, odict, odata, oslots⟩ := ol
        simp only at hcl hdl; subst hcl; subst hdl
        have hol' : (s.heap.push (mtSet w)).get? l = some { cls := .type "tuple", dict := odict, data := .seq items nl, slots := oslots } := Heap.get?_push_of_some _ hol
        have hsls := F.sub_tuple_set; have hslf := F.sub_tuple_frozenset
        have hne : (Value.type "tuple" == Value.type "dict") = false := by decide
        have hl1 : (s.heap.push (mtSet w)).IsTuple l items := ⟨_, hol', rfl, nl, rfl⟩
        unfold Builtin.«set.__init__» noKeywords Builtin.Frozenset.updateFrom
        generalize hPI : pyIter = PI; wp_walk; subst hPI
        refine wpAny_pyIter_tuple hl1 ?_; refine wpAny_bind (wpAny_runValue ?_)
        have hlS : l < s.heap.objs.size := Heap.lt_size hol
        have hh3 : A.in1.in1.in1.handled = none := by simp [hh]
        have hz1 : (s.heap.push (mtSet w)).objs.size = s.heap.objs.size + 1 := Heap.size_push ..
        have hneI : l ≠ (s.heap.push (mtSet w)).objs.size := by rw [Heap.size_push]; exact Nat.ne_of_lt (Nat.lt_succ_of_lt hlS)
        have hSf : s.heap.objs.size ∉ [(s.heap.push (mtSet w)).objs.size, l] := by
          rw [Heap.size_push]; simp only [List.mem_cons, List.mem_singleton, List.not_mem_nil, or_false, not_or]; exact ⟨Nat.ne_of_lt (Nat.lt_succ_self _), Nat.ne_of_gt hlS⟩
        have hval : ∀ (i : Nat) (v : Value), items[i]? = some v → ∃ z, ks[i]? = some z ∧ v = .ref z.1 := fun i v hv => by
          have q : items.toList[i]? = some v := by rw [Array.getElem?_toList]; exact hv
          rw [hit, List.getElem?_map] at q
          cases hq : ks[i]? with
          | none => rw [hq] at q; cases q
          | some z => rw [hq] at q; exact ⟨z, rfl, (Option.some.inj q).symm⟩
        have none_of : ∀ b, s.heap.objs.size ≤ b → s.heap.get? b = none := fun b hb => by
          cases q : s.heap.get? b with
          | none => rfl
          | some o => exact absurd (Nat.lt_of_lt_of_le (Heap.lt_size q) hb) (Nat.lt_irrefl _)
        refine set_update_tups ((Walks.tuple hh3 _ l hneI items).toS) s.heap.objs.size hSf ks hn hfew hval s.heap hk (none_of _ (Nat.le_refl _)) (fun b hb => none_of b (by rw [List.mem_singleton.mp hb, Heap.size_push]; exact Nat.le_succ _)) hu (items.size - 0) 0 _ (by omega) (Nat.zero_le _)
          ⟨⟨_, Heap.get?_push_size _ rfl, rfl, rfl⟩, (hl1.push _)⟩ (fun b o e => Heap.get?_push_of_some _ (Heap.get?_push_of_some _ e)) ?hS0 ?hR
        case hS0 => exact ⟨[], #[], 0, _, setTR_fresh (Heap.get?_push_of_some _ hS), Got.zero ks⟩
        case hR =>
          intro s' L es ep t hm hS' g' hkp
          obtain ⟨h', g2, d', tk', os'⟩ := s'
          have eg : g2 = s.gens := hm.gens; have ed : d' = s.drawn := hm.drawn; have eo : os' = s.os := hm.os
          subst eg; subst ed; subst eo
          show wpAny _ _ _ _ _ _; refine wpAny_pure ?_; show wpAny _ _ (ret Value.none) _ _ _
          rw [hn] at g'; exact wpAny_pure ⟨rfl, h', tk', L, es, ep, t, rfl, hS', g', hkp⟩
      · cases r₂ with
        | error e => exact hr₂
        | ok fl₂ =>
          cases fl₂ with
          | ret r =>
            obtain ⟨rfl, h', tk, L, es, ep, t, rfl, hS', g', hk'⟩ := hr₂
            repeat (any_goals (first | assumption | wp_step))
            exact fin _ _ _ _ _ _ hS' g' hk'
          | _ => exact hr₂.elim
    | _ => exact hr.elim
end
def rSetTup (K : PySem.W.Frag) (P : Program) (w : World) : List V → Hp → VK → Prop := fun xs H Q => ∃ (l : Addr) (ks : List (Addr × List Int)), xs = [V.ref l] ∧ SqT K H l (ks.map fun z => V.ref z.1) ∧ (∀ z ∈ ks, SqT K H z.1 (z.2.map V.int)) ∧ ks.length < 64 ∧
  ∀ a L, H a = none → (∀ z ∈ L, z ∈ ks) → (∀ z ∈ ks, z.2 ∈ L.map (·.2)) → Q (.ref a) (upd H a (SetTO P w a L))
def rSetTI (K : PySem.W.Frag) (w : World) : List V → Hp → VK → Prop := fun xs H Q => ∃ (l : Addr) (ns : List Int), xs = [V.ref l] ∧ SqT K H l (ns.map V.int) ∧ ns.length < 60 ∧ ∀ a c, H a = none → c ≤ ns.length → Q (.ref a) (upd H a (SetO w a (fun j => decide (j ∈ ns)) c))
section
variable {X : Cx}
theorem cr_setTup (hc : X.calm = true) (hu : X.A.units + 64 < cLine) : CallR X (.type "set") (rSetTup X.K X.prog X.w) := by
  intro pins s σ H xs us Q I r h
  obtain ⟨l, ks, rfl, hl, hk, hf, q⟩ := h
  rw [Vals.ref1 r]
  obtain ⟨its, rv, pl, hz⟩ := I.tuple hl
  refine setOfTup (P := X.prog) (w := X.w) ks (I.ok.hd hc) pl (by simpa using refs_of_vals rv) (fun z hz => I.isT (hk z hz)) hf (by omega) fun h' tk L es ep t R g k => ?_
  refine ⟨.ref s.heap.objs.size, upd H s.heap.objs.size (SetTO X.prog X.w s.heap.objs.size L), I.laid (t' := tk) k (Nat.le_refl _) (setTO_new R.t0), rfl, q _ L (I.hok.fresh (Nat.le_refl _)) (fun z hz => List.mem_of_mem_take (g.sub z hz)) fun z hz => g.all z (by rw [List.take_length]; exact hz)⟩
theorem cr_setTI (hc : X.calm = true) : CallR X (.type "set") (rSetTI X.K X.w) := by
  intro pins s σ H xs us Q I r h
  obtain ⟨l, ns, rfl, hl, hf, q⟩ := h
  rw [Vals.ref1 r]
  obtain ⟨its, rv, pl, hz⟩ := I.tuple hl
  refine call_set_tupI ns (I.ok.hd hc) pl (intsAre_of rv) (by unfold scanBound; omega) fun h' tk c R hcl k => ?_
  exact ⟨.ref s.heap.objs.size, upd H s.heap.objs.size (SetO X.w s.heap.objs.size (fun j => decide (j ∈ ns)) c), I.laid (t' := tk) k (Nat.le_refl _) (setO_new R), rfl, q _ c (I.hok.fresh (Nat.le_refl _)) hcl⟩
end
end Pd

set_option Elab.async false
set_option linter.all false
set_option maxRecDepth 100000
set_option maxHeartbeats 4000000
namespace Pd
open PySem PySem.Spec PyProof.Rows L2
section
variable {X : Cx} {e : Expr} {w : WE}
/-- sorted(set(x)): rows of a list or a tuple, ints of a tuple -/
def wSetA (w : WE) : WA := fun en Q => w en fun d e1 =>
  (∃ rs : List (List Int), (d = .list (rs.map rowD) ∨ d = .tuple (rs.map rowD)) ∧ rs.length < 64 ∧ ∀ rs' : List (List Int), AscS rs' → (∀ r, r ∈ rs' ↔ r ∈ rs) → Q (rs'.map rowD) e1) ∨
  (∃ ns : List Int, d = .tuple (ns.map .int) ∧ ns.length < 60 ∧ ∀ ns' : List Int, ns'.Pairwise (· < ·) → (∀ k, k ∈ ns' ↔ k ∈ ns) → Q (ns'.map .int) e1)
theorem rows_fin {σ : Sg} {H1 I1 : Hp} {G : Gh} {e1 : En} {Q : VK} {Q' : List D → En → Prop} {I : Hp} {P : Program} {w : World} {K : PySem.W.Frag} (o1 : Ok K G σ e1 H1 I1) (x1 : Ex I I1) {ks : List (Addr × List Int)} (hk : ∀ q ∈ ks, SqT K I1 q.1 (q.2.map V.int))
    (k : ∀ p vs H' I' en' ds, Ok K G σ en' H' I' → Ex I I' → H' p = none → DaAll K I' vs ds → Q' ds en' → Q (.ref p) (upd H' p (.lst vs))) (q1 : ∀ rs' : List (List Int), AscS rs' → (∀ r, r ∈ rs' ↔ r ∈ ks.map (·.2)) → Q' (rs'.map rowD) e1)
    {a : Addr} {L : List (Addr × List Int)} (hn : H1 a = none) (hsub : ∀ p ∈ L, p ∈ ks) (hall : ∀ p ∈ ks, p.2 ∈ L.map (·.2)) : rSortedSR K P w [.ref a] (upd H1 a (SetTO P w a L)) Q := by
  have hne : ∀ (b : Addr) (o : HO), H1 b = some o → upd H1 a (SetTO P w a L) b = some o := fun b o hb => by rw [upd_ne (ne_of_none hb hn)]; exact hb
  refine ⟨a, L, rfl, upd_same, fun z hz => sqt_ex hne (sqt_ex o1.iH (hk z (hsub z hz))), fun L' p h1 pm nd pw hp => ?_⟩
  have hap : p ≠ a := fun z => by rw [z, upd_same] at hp; cases hp
  have g : Ok K G σ e1 (upd H1 a (SetTO P w a L)) I1 := o1.grow (Ex.up hn) (Ex.rf I1) (o1.iH.tr (Ex.up hn)) fun b z1 z2 => absurd z2 z1
  refine k p _ _ I1 e1 _ g x1 hp (rows_da hk L' fun z hz => hsub z (h1 z hz)) (q1 _ (asc_strict pw nd) fun r => ?_)
  rw [pm.mem_iff]
  constructor
  · intro hr
    obtain ⟨z, hz, e⟩ := List.mem_map.mp hr
    exact List.mem_map.mpr ⟨z, hsub z hz, e⟩
  · intro hr
    obtain ⟨z, hz, e⟩ := List.mem_map.mp hr
    rw [← e]; exact hall z hz
theorem l_setA (hc : X.calm = true) (hu : X.A.units + 64 < cLine) {p p' pos pos' : Pos} (hm : X.mg "sorted" = none) (hm' : X.mg "set" = none) (ha : PE X e (lE X.K w)) (hg : Gl X "sorted" := by rfl) (hg' : Gl X "set" := by rfl)
    (he : starEach (e :: []) X.env = (false, eval e X.env) :: starEach [] X.env := by rfl) (hpl : (backTo pos' (starEach [] X.env)).any (·.1) = false := by rfl)
    (he' : starEach (.Call (.Name "set" p') [e] [] pos' :: []) X.env = (false, eval (.Call (.Name "set" p') [e] [] pos') X.env) :: starEach [] X.env := by rfl) (hpl' : (backTo pos (starEach [] X.env)).any (·.1) = false := by rfl) :
    PE X (.Call (.Name "sorted" p) [.Call (.Name "set" p') [e] [] pos'] [] pos) (lL X.K (wSetA w)) :=
  (pe_callB (or_call (cr_sortedSR hc hu) (cr_sortedSet hc)) hg hm (by decide +kernel) (pa_cons (pe_callTy (or_call (or_call (cr_setOfT hc hu) (cr_setTup hc hu)) (cr_setTI hc)) hg' hm' (by decide +kernel) (pa_cons ha pa_nil he) (by decide) (by decide) he hpl) pa_nil he') (by decide) (by decide) he' hpl').mo fun σ H Q ⟨G, en, I, Q', ok, q, k⟩ => ⟨G, en, I, _, ok, q, fun v H1 I1 e1 d o1 x1 dv h => by
    rcases h with ⟨rs, hd | hd, hl, q1⟩ | ⟨ns, hd, hl, q1⟩
    · subst hd
      cases dv with
      | lst hs ha =>
        obtain ⟨ks, e1', e2', e3'⟩ := da_rows ha
        subst e1' e2'
        exact Or.inl (Or.inl ⟨_, ks, rfl, SqL.of (o1.iH _ _ hs), fun q hq => sqt_ex o1.iH (e3' q hq), by rw [List.length_map] at hl; exact hl, fun a L hn hsub hall => Or.inl (rows_fin o1 x1 e3' k q1 hn hsub hall)⟩)
    · subst hd
      cases dv with
      | tup hs ha =>
        obtain ⟨ks, e1', e2', e3'⟩ := da_rows ha
        subst e1' e2'
        exact Or.inl (Or.inr ⟨_, ks, rfl, sqt_ex o1.iH hs, fun q hq => sqt_ex o1.iH (e3' q hq), by rw [List.length_map] at hl; exact hl, fun a L hn hsub hall => Or.inl (rows_fin o1 x1 e3' k q1 hn hsub hall)⟩)
    · subst hd
      cases dv with
      | tup hs ha =>
        have ev := dpa_ints_inv ns ha
        subst ev
        refine Or.inr ⟨_, ns, rfl, sqt_ex o1.iH hs, hl, fun a c hn hcl => Or.inr ⟨a, _, c, rfl, upd_same, by omega, fun ns' p h1 h2 h3 hp => ?_⟩⟩
        have hap : p ≠ a := fun z => by rw [z, upd_same] at hp; cases hp
        have g : Ok X.K G σ e1 (upd H1 a (SetO X.w a (fun j => decide (j ∈ ns)) c)) I1 := o1.grow (Ex.up hn) (Ex.rf I1) (o1.iH.tr (Ex.up hn)) fun b z1 z2 => absurd z2 z1
        exact k p _ _ I1 e1 _ g x1 hp (dpa_ints ns') (q1 ns' h1 fun j => by rw [h2 j]; exact decide_eq_true_iff)⟩
end
end Pd

set_option Elab.async false
set_option linter.all false
set_option maxRecDepth 100000
set_option maxHeartbeats 4000000
namespace Pd
open PySem PySem.Spec PyProof.Rows L2
/-! ### t[::-1], t a tuple -/
theorem back_pick (xs : Array Value) : ((List.range xs.size).filterMap fun (m : Nat) => xs[(((xs.size : Int) - 1) + (m : Int) * -1).toNat]?) = xs.toList.reverse := by
  apply List.ext_getElem?
  intro i
  have e : ((List.range xs.size).filterMap fun (m : Nat) => xs[(((xs.size : Int) - 1) + (m : Int) * -1).toNat]?) = (List.range xs.size).map fun m => xs.getD (xs.size - 1 - m) Value.none := by
    have key : ∀ l : List Nat, (∀ m ∈ l, m < xs.size) → (l.filterMap fun (m : Nat) => xs[(((xs.size : Int) - 1) + (m : Int) * -1).toNat]?) = l.map fun m => xs.getD (xs.size - 1 - m) Value.none := by
      intro l
      induction l with
      | nil => intro _; rfl
      | cons m l ih =>
        intro h
        have hm := h m List.mem_cons_self
        have e1 : (((xs.size : Int) - 1) + (m : Int) * -1).toNat = xs.size - 1 - m := by omega
        have hlt : xs.size - 1 - m < xs.size := by omega
        rw [List.filterMap_cons, e1, Array.getElem?_eq_getElem hlt, List.map_cons, ih fun k hk => h k (List.mem_cons_of_mem _ hk)]
        simp [Array.getD, hlt]
    exact key _ fun m hm => List.mem_range.mp hm
  rw [e, List.getElem?_map]
  by_cases hi : i < xs.size
  · have hlt : xs.size - 1 - i < xs.size := by omega
    rw [List.getElem?_range hi, List.getElem?_reverse (by simpa using hi)]
    simp [hi, Array.getD, hlt]
  · rw [List.getElem?_eq_none (by simp; omega), List.getElem?_eq_none (by simp; omega)]
    rfl
section
variable {prog : Program} {w : World} {A : Around} {E : Value → Shared → Prop} {s : Shared}
theorem tupBack {t sl : Addr} {items : Array Value} {vs : Value} {Q : Value → Shared → Prop} (ht : IsTup s.heap t items) (hs : s.heap.IsSliceOf sl .none .none vs) (ps : IsPart vs (some (-1)))
    (h : Q (.ref s.heap.objs.size) { s with heap := s.heap.push { cls := .type "tuple", data := .seq items.toList.reverse.toArray } }) (hsz : items.size ≤ sizeLine) : wpAny (model prog w) A (getItem (.ref t) (.ref sl)) Q E s := by
  have hz : sizeOk (.seq items.toList.reverse.toArray) := by
    show items.toList.reverse.toArray.size ≤ sizeLine
    rw [List.size_toArray, List.length_reverse, Array.length_toList]; exact hsz
  obtain ⟨os, hos, hcs, hds⟩ := id hs
  have hTs : s.TypeIs (.ref sl) "slice" := ⟨os, hos, hcs⟩
  cases ps with
  | int i u =>
    unfold getItem
    try with_reducible refine wpAny_holding ?_
    first | refine wpAny_bind (wpAny_pure ?_) | skip
    refine wpAny_bind (wpAny_sequenceKey ht.typeIs (by decide) ?_)
    refine wpAny_bind (wpAny_callSpecial?_slot (name := Str.ofString "__getitem__") ht.typeIs PyProof.Rows.slot_tuple_getitem (wpAny_call_entry PyProof.Rows.slot_tuple_getitem ht.typeIs entry_tuple_getitem ?_ (args_tuple_getitem _ _)))
    show wpAny _ _ (Builtin.Tuple.tupleItemsOf (.ref t) >>= _) _ _ s
    refine wpAny_bind (tupleItemsOf_ ht (wpAny_bind (wpAny_typeOf hTs ?_)))
    rw [if_pos (by decide)]
    have ap : ∀ {Q : Int × Int × Nat → Shared → Prop}, Q ((items.size : Int) - 1, -1, items.size) s → wpAny (model prog w) (A.in1) (Builtin.Slice.sliceApplied (.ref sl) (pure (items.size : Int))) Q E s := fun {Q} q => by
      unfold Builtin.Slice.sliceApplied Builtin.Slice.sliceFields
      refine wpAny_bind (wpAny_bind (wpAny_field hos hds (x := .none) rfl (wpAny_bind (wpAny_field hos hds (x := .none) rfl (wpAny_bind (wpAny_field hos hds (x := .int (-1) u) rfl (wpAny_pure ?_)))))))
      refine wpAny_bind (HT.slicePart_ (.int (-1) u) ?_)
      show wpAny _ _ (if ((-1 : Int) == 0) = true then _ else _) _ _ s
      rw [if_neg (by decide)]
      refine wpAny_bind (HT.slicePart_ .none (wpAny_bind (HT.slicePart_ .none (wpAny_bind (wpAny_pure ?_)))))
      show wpAny _ _ (match Builtin.Slice.sliceAdjust none none (-1) (items.size : Int) with | (lo, hi) => pure (lo, (-1 : Int), Builtin.Slice.slicePlaces lo hi (-1))) _ _ s
      have e1 : Builtin.Slice.sliceAdjust none none (-1) (items.size : Int) = ((items.size : Int) - 1, -1) := by
        unfold Builtin.Slice.sliceAdjust; simp
      rw [e1]
      show wpAny _ _ (pure ((items.size : Int) - 1, (-1 : Int), Builtin.Slice.slicePlaces ((items.size : Int) - 1) (-1) (-1))) _ _ s
      have e2 : Builtin.Slice.slicePlaces ((items.size : Int) - 1) (-1) (-1) = items.size := by
        unfold Builtin.Slice.slicePlaces; simp; omega
      rw [e2]; exact wpAny_pure q
    refine wpAny_bind (ap ?_)
    show wpAny _ _ (if (((items.size : Int) - 1) == 0 && (-1 : Int) == 1 && items.size == items.size) = true then _ else _) _ _ s
    rw [if_neg (by simp), back_pick]
    first
      | exact wpAny_bind (m := Builtin.Tuple.tupleExact _) (wpAny_newObj_type (wpAny_pure ⟨_, rfl, wpAny_pure h⟩) hz)
      | exact wpAny_bind (m := Builtin.Tuple.tupleExact _) (wpAny_newObj_type (wpAny_bind (wpAny_pure (wpAny_pure ⟨_, rfl, wpAny_pure h⟩))) hz)
      | exact wpAny_bind (wpAny_bind (m := Builtin.Tuple.tupleExact _) (wpAny_newObj_type (wpAny_pure (wpAny_pure ⟨_, rfl, wpAny_pure h⟩)) hz))
      | exact wpAny_bind (wpAny_bind (m := Builtin.Tuple.tupleExact _) (wpAny_newObj_type (wpAny_pure ⟨_, rfl, wpAny_pure h⟩) hz))
end
section
variable {X : Cx} {a : Expr} {wa : WE}
def tRevT (K : PySem.W.Frag) (te : TE) : TE := fun σ H Q => te σ H fun x H1 => ∃ (t : Addr) (xs : List V), x = .ref t ∧ SqT K H1 t xs ∧ ∀ p, H1 p = none → Q (.ref p) (upd H1 p (.tup xs.reverse))
theorem pe_revT {e : Expr} {te : TE} {k : Nat} {p1 p2 p3 pos : Pos} (he : PE X e te) : PE X (.Subscript e (.Slice none none (some (.UnaryOp .USub (.Constant (.int 1) k p1) p2)) p3) pos) (tRevT X.K te) := by
  refine ⟨fun pins s σ H Q I h => Subscript_ (thn (he.run pins s σ H _ I h) fun v s1 ⟨x, H1, I1, r1, a, xs, ex, hx, q⟩ => ?_)⟩
  subst ex; cases r1
  have hst : PO X (some (.UnaryOp .USub (.Constant (.int 1) k p1) p2)) (tPart (tUn (rU fun i => .int (-i)) (tC (.int 1)))) := po_some (pe_un un_neg pe_int)
  refine wpAny_Slice (thn (po_none.run pins s1 σ H1 (fun o H2 => o = none ∧ H2 = H1) I1 ⟨rfl, rfl⟩) fun vl s2 ⟨l, H2, I2, pl, el, e2⟩ => ?_)
  subst el e2; refine thn (po_none.run pins s2 σ H2 (fun o H3 => o = none ∧ H3 = H2) I2 ⟨rfl, rfl⟩) fun vu s3 ⟨u, H3, I3, pu, eu, e3⟩ => ?_
  subst eu e3; refine thn (hst.run pins s3 σ H3 (fun o H4 => o = some (-1) ∧ H4 = H3) I3 ⟨1, rfl, -1, rfl, rfl, rfl⟩) fun vs s4 ⟨o, H4, I4, ps, eo, e4⟩ => ?_
  subst eo e4
  have I5 : Inv X pins σ H4 { s4 with heap := s4.heap.push { cls := .type "slice", data := .fields #[vl, vu, vs] } } := I4.kept (t' := s4.toks) fun b ob q => Heap.get?_push_of_some _ q
  obtain ⟨its, r, ht, hz⟩ := I5.tuple hx
  have hlen := r.length
  show wpAny (model X.prog X.w) X.A (subscriptTail e (.Slice none none (some (.UnaryOp .USub (.Constant (.int 1) k p1) p2)) p3) (.ref a) (.ref s4.heap.objs.size)) (EP X pins σ Q) X.xe { s4 with heap := s4.heap.push { cls := .type "slice", data := .fields #[vl, vu, vs] } }
  refine tail_any (ops := [.ref a, .ref s4.heap.objs.size]) ht.typeIs (PyProof.Rows.slot_tuple_getitem.lookup) ?_ (by with_unfolding_all rfl)
  cases pl; cases pu
  refine tupBack ht (Heap.IsSliceOf.new _ .none .none vs) ps ?_ (by rw [List.size_toArray]; omega)
  refine ⟨.ref _, _, I5.laid (t' := s4.toks) (o := .tup xs.reverse) (fun b ob q => Heap.get?_push_of_some _ q) (Nat.le_refl _) ⟨by rw [List.length_reverse]; exact hz, _, r.reverse, IsTup.new _ _⟩, rfl, q _ (I5.hok.fresh (Nat.le_refl _))⟩
def wRevT (wa : WE) : WE := fun en Q => wa en fun d e1 => ∃ xs, d = .tuple xs ∧ Q (.tuple xs.reverse) e1
theorem d_revT {k : Nat} {p1 p2 p3 pos : Pos} (ha : PE X a (lE X.K wa)) : PE X (.Subscript a (.Slice none none (some (.UnaryOp .USub (.Constant (.int 1) k p1) p2)) p3) pos) (lE X.K (wRevT wa)) :=
  (pe_revT ha).mo fun σ H Q ⟨G, en, I, Q', o, q, k⟩ => ⟨G, en, I, _, o, q, fun v H1 I1 e1 d o1 x1 dv ⟨xs, hd, q1⟩ => by
    subst hd
    cases dv with
    | tup hs ha =>
      refine ⟨_, _, rfl, sqt_ex o1.iH hs, fun p hp => ?_⟩
      obtain ⟨o2, x2⟩ := o1.new (u := .tup _) hp
      exact k (.ref p) _ _ e1 _ o2 (x1.tr x2) (.tup (SqT.of upd_same) ((dpa_rev ha).up x2)) q1⟩
/-! ### str(i) -/
def dStrI : List D → D → Prop := fun xs z => ∃ i : Int, xs = [.int i] ∧ i.natAbs.log2 < 1920 ∧ z = .str (toString i)
theorem snd_strI {K : PySem.W.Frag} : SndCl K (fun xs H Q => ∃ i : Int, xs = [.int i] ∧ i.natAbs.log2 < 1920 ∧ Q (.str (toString i)) H) dStrI := by
  rintro H I xs ds z iH hx ⟨i, rfl, hl, rfl⟩ Q k
  cases hx with
  | cons h t => cases t; cases h; exact ⟨i, rfl, hl, k _ H I (Gr.rf iH) (.str _)⟩
theorem i_strI {i : Int} {z : D} : dStrI [.int i] z ↔ i.natAbs.log2 < 1920 ∧ z = .str (toString i) := by
  constructor
  · rintro ⟨j, h, h1, h2⟩
    injection h with h _
    injection h with h
    subst h; exact ⟨h1, h2⟩
  · exact fun h => ⟨i, rfl, h.1, h.2⟩
end
end Pd

set_option Elab.async false
set_option linter.all false
set_option maxRecDepth 100000
set_option maxHeartbeats 4000000
namespace Pd
open PySem PySem.Spec PyProof.Rows L2
/-! ### values told by data, one to one -/
structure Enc {α : Type} [DecidableEq α] (f : α → D) (n : Nat) : Prop where
  eqv : ∀ a b, PyData.eqv (f a) (f b) = decide (a = b)
  lay : ∀ a, PyData.canLay0 (f a) = true
  dep : ∀ a, PyData.depth (f a) ≤ n
section
variable {α : Type} [DecidableEq α] {f : α → D} {n : Nat}
theorem Enc.eqvs (h : Enc f n) : ∀ as bs : List α, PyData.eqvAll (as.map f) (bs.map f) = decide (as = bs)
  | [], [] => rfl
  | [], _ :: _ => rfl
  | _ :: _, [] => rfl
  | a :: as, b :: bs => by
    show (PyData.eqv (f a) (f b) && PyData.eqvAll (as.map f) (bs.map f)) = _
    rw [h.eqv, h.eqvs as bs, ← Bool.decide_and]
    exact decide_eq_decide.mpr (by rw [List.cons.injEq])
theorem Enc.lays (h : Enc f n) : ∀ as : List α, PyData.canLayAll0 (as.map f) = true
  | [] => rfl
  | a :: as => by
    show (PyData.canLay0 (f a) && PyData.canLayAll0 (as.map f)) = true
    rw [h.lay, h.lays as]; rfl
theorem Enc.deps (h : Enc f n) : ∀ as : List α, PyData.depthAll (as.map f) ≤ n
  | [] => Nat.zero_le _
  | a :: as => by
    show max (PyData.depth (f a)) (PyData.depthAll (as.map f)) ≤ n
    have := h.dep a
    have := h.deps as
    omega
theorem Enc.tup (h : Enc f n) : Enc (fun as : List α => .tuple (as.map f)) (n + 1) := ⟨h.eqvs, h.lays, fun as => Nat.succ_le_succ (h.deps as)⟩
theorem Enc.lst (h : Enc f n) : Enc (fun as : List α => .list (as.map f)) (n + 1) := ⟨h.eqvs, h.lays, fun as => Nat.succ_le_succ (h.deps as)⟩
theorem Enc.shaped (h : Enc f n) (hn : n ≤ 64) (a : α) : SeqAt.shaped (f a) = true := by
  show (PyData.canLay0 (f a) && decide (PyData.depth (f a) ≤ 64)) = true
  rw [h.lay, decide_eq_true (Nat.le_trans (h.dep a) hn)]; rfl
theorem Enc.eq (h : Enc f n) (hn : n ≤ 64) {a b : α} {z : D} : dEq (f a) (f b) z ↔ z = .bool (decide (a = b)) := by
  unfold dEq
  rw [h.eqv]
  exact ⟨fun q => q.2.2, fun q => ⟨h.shaped hn a, h.shaped hn b, q⟩⟩
theorem Enc.ne (h : Enc f n) (hn : n ≤ 64) {a b : α} {z : D} : dNe (f a) (f b) z ↔ z = .bool (decide (a ≠ b)) := by
  unfold dNe
  rw [h.eqv, decide_not]
  exact ⟨fun q => q.2.2, fun q => ⟨h.shaped hn a, h.shaped hn b, q⟩⟩
end
theorem encI : Enc PyData.int 0 := ⟨fun _ _ => eqv_int, fun _ => rfl, fun _ => Nat.le_refl _⟩
theorem encR : Enc rowD 1 := encI.tup
theorem encRs : Enc (fun rs : List (List Int) => .tuple (rs.map rowD)) 2 := encR.tup
theorem encRl : Enc (fun rs : List (List Int) => .list (rs.map rowD)) 2 := encR.lst
/-! ### all, any of what a list tells -/
theorem bools_inj : ∀ {as bs : List Bool}, as.map PyData.bool = bs.map PyData.bool → as = bs
  | [], [], _ => rfl
  | [], _ :: _, h => by cases h
  | _ :: _, [], h => by cases h
  | a :: as, b :: bs, h => by
    simp only [List.map_cons, List.cons.injEq, PyData.bool.injEq] at h
    rw [h.1, bools_inj h.2]
theorem all_map {α : Type} {xs : List α} {f : α → Bool} {z : D} : dAll [.list (xs.map fun x => .bool (f x))] z ↔ z = .bool (xs.all f) := by
  constructor
  · rintro ⟨bs, h, rfl⟩
    have h1 : (xs.map f).map PyData.bool = bs.map .bool := by
      injection h with h _
      injection h with h
      rw [List.map_map]; exact h
    rw [← bools_inj h1, List.all_map]; rfl
  · rintro rfl
    exact ⟨xs.map f, by rw [List.map_map]; rfl, by rw [List.all_map]; rfl⟩
theorem any_map {α : Type} {xs : List α} {f : α → Bool} {z : D} : dAny [.list (xs.map fun x => .bool (f x))] z ↔ z = .bool (xs.any f) := by
  constructor
  · rintro ⟨bs, h, rfl⟩
    have h1 : (xs.map f).map PyData.bool = bs.map .bool := by
      injection h with h _
      injection h with h
      rw [List.map_map]; exact h
    rw [← bools_inj h1, List.any_map]; rfl
  · rintro rfl
    exact ⟨xs.map f, by rw [List.map_map]; rfl, by rw [List.any_map]; rfl⟩
/-! ### slices -/
theorem cut_from {α : Type} {xs : List α} {k : Nat} : cutA xs (some (k : Int)) none = xs.drop k := by
  unfold cutA
  rw [HT.sIx_none, HT.sIx_nat]
  by_cases h : k ≤ xs.length
  · rw [Nat.min_eq_left h]
    exact List.take_of_length_le (by rw [List.length_drop]; omega)
  · rw [Nat.min_eq_right (by omega), List.drop_length, List.drop_of_length_le (by omega)]
    exact List.take_nil
theorem cut_to {α : Type} {xs : List α} {k : Nat} : cutA xs none (some (k : Int)) = xs.take k := by
  unfold cutA
  rw [HT.sIx_none, HT.sIx_nat]
  show (xs.take (min k xs.length - 0)) = _
  rw [Nat.sub_zero]; exact List.take_eq_take_min.symm
/-! ### neighbours -/
theorem adj {α : Type} {R : α → α → Bool} (tr : ∀ a b c, R a b = true → R b c = true → R a c = true) : ∀ l : List α, ((l.zip (l.drop 1)).all fun p => R p.1 p.2) = true ↔ l.Pairwise fun a b => R a b = true
  | [] => by simp
  | [a] => by simp
  | a :: b :: l => by
    have ih := adj tr (b :: l)
    have e : ((a :: b :: l).zip ((a :: b :: l).drop 1)) = (a, b) :: ((b :: l).zip ((b :: l).drop 1)) := rfl
    rw [e, List.all_cons, Bool.and_eq_true, ih]
    constructor
    · rintro ⟨h, p⟩
      refine List.pairwise_cons.mpr ⟨fun c hc => ?_, p⟩
      rcases List.mem_cons.mp hc with rfl | hc
      · exact h
      · exact tr a b c h ((List.pairwise_cons.mp p).1 c hc)
    · intro q
      obtain ⟨h, p⟩ := List.pairwise_cons.mp q
      exact ⟨h b List.mem_cons_self, p⟩
theorem lex_trans' {a b c : List Int} (h1 : HT.lexLt a b = true) (h2 : HT.lexLt b c = true) : HT.lexLt a c = true := (NtL.swo_lexL (fun x : List Int => x)).ltle (x := a) (y := b) (z := c) h1 (NtL.lex_asym _ _ h2)
theorem zip_map2 {α : Type} {f : α → D} : ∀ (as bs : List α), zipD (as.map f) (bs.map f) = (as.zip bs).map fun p => .tuple [f p.1, f p.2]
  | [], bs => by cases bs <;> rfl
  | _ :: _, [] => rfl
  | a :: as, b :: bs => by
    show PyData.tuple [f a, f b] :: zipD (as.map f) (bs.map f) = _
    rw [zip_map2 as bs]; rfl
end Pd

set_option Elab.async false
set_option linter.all false
set_option maxRecDepth 100000
set_option maxHeartbeats 4000000
namespace Pd
open PySem PySem.Spec PyProof.Rows L2
/-! ### comprehensions that draw from the jug -/
abbrev jl (g m c : Int) : List D := [.int g, .int m, .int c]
abbrev jg (g m c : Int) (R : En) : En := .own (jl g m c) :: R
theorem bak_jg {j : Nat} {g m c g' m' c' : Int} {R : En} : bak [j + 1] (jg g m c R) (jg g' m' c' (R.set j .un)) = jg g' m' c' R := by
  refine List.ext_getElem? fun i => ?_
  unfold bak
  rw [List.getElem?_map]
  cases i with
  | zero => simp [List.mem_singleton]
  | succ i =>
    by_cases hi : i < R.length
    · rw [List.getElem?_range (by simpa using hi), List.getElem?_cons_succ, List.getElem?_eq_getElem hi, Option.map_some]
      by_cases e : i = j
      · subst e
        rw [if_pos (List.mem_singleton.mpr rfl), List.getD_cons_succ, List.getD_eq_getElem?_getD, List.getElem?_eq_getElem hi]; rfl
      · rw [if_neg (by rw [List.mem_singleton]; omega), List.getD_cons_succ, List.getD_eq_getElem?_getD, List.getElem?_set_ne (by omega), List.getElem?_eq_getElem hi]; rfl
    · rw [List.getElem?_eq_none (by rw [List.length_range, List.length_cons, List.length_set]; omega), List.getElem?_eq_none (by rw [List.length_cons]; omega)]; rfl
theorem free_jg {j : Nat} {en : En} : FreeS en [j + 1] := free_of fun v hv => by rw [List.mem_singleton] at hv; omega
/-- with a test -/
theorem lcJ {j : Nat} {t : WT} {w : WE} {P : D → D → Prop} {R : En} : ∀ (xs acc : List D) (g m c : Int) {Q : List D → En → Prop},
    (∀ x ∈ xs, ∀ (g m c : Int) (Q' : Bool → En → Prop), (∀ (b : Bool) (g m c : Int), Q' b (jg g m c (R.set j (.imm x)))) → t (jg g m c (R.set j (.imm x))) Q') →
    (∀ x ∈ xs, ∀ (g m c : Int) (Q' : D → En → Prop), (∀ (y : D) (g m c : Int), P x y → Q' y (jg g m c (R.set j (.imm x)))) → w (jg g m c (R.set j (.imm x))) Q') →
    (∀ (zs : List (D × D)) (g m c : Int), (zs.map Prod.fst).Sublist xs → (∀ z ∈ zs, P z.1 z.2) → Q (acc ++ zs.map Prod.snd) (jg g m c (R.set j .un))) → lcW (wgN (j + 1)) t w [j + 1] xs acc (jg g m c (R.set j .un)) Q
  | [], acc, g, m, c, Q, _, _, q => by
    have := q [] g m c (List.Sublist.refl _) (fun _ h => by cases h)
    rw [List.map_nil, List.append_nil] at this; exact this
  | x :: xs, acc, g, m, c, Q, ht, hw, q => by
    refine ⟨Or.inl (by omega), ?_⟩
    show t (.own (jl g m c) :: (R.set j .un).set j (.imm x)) _
    rw [List.set_set]
    refine ht x List.mem_cons_self g m c _ fun b g m c => ⟨free_jg, ?_⟩
    have rec_ := fun acc => lcJ (j := j) (t := t) (w := w) (P := P) (R := R) xs acc
    cases b with
    | true =>
      rw [if_pos rfl]
      refine hw x List.mem_cons_self g m c _ fun y g m c hy => ⟨free_jg, ?_⟩
      show lcW _ _ _ _ _ _ (.own (jl g m c) :: (R.set j (.imm x)).set j .un) _
      rw [List.set_set]
      refine rec_ _ g m c (fun z hz => ht z (List.mem_cons_of_mem _ hz)) (fun z hz => hw z (List.mem_cons_of_mem _ hz)) fun zs g m c h1 h2 => ?_
      rw [List.append_assoc]
      refine q ((x, y) :: zs) g m c (List.Sublist.cons_cons _ h1) fun z hz => ?_
      rcases List.mem_cons.mp hz with rfl | hz
      · exact hy
      · exact h2 z hz
    | false =>
      rw [if_neg (by decide)]
      show lcW _ _ _ _ _ _ (.own (jl g m c) :: (R.set j (.imm x)).set j .un) _
      rw [List.set_set]
      exact rec_ _ g m c (fun z hz => ht z (List.mem_cons_of_mem _ hz)) (fun z hz => hw z (List.mem_cons_of_mem _ hz)) fun zs g m c h1 h2 => q zs g m c (List.Sublist.cons _ h1) h2
/-- without a test -/
theorem lcJY {j : Nat} {w : WE} {P : D → D → Prop} {R : En} : ∀ (xs acc : List D) (g m c : Int) {Q : List D → En → Prop},
    (∀ x ∈ xs, ∀ (g m c : Int) (Q' : D → En → Prop), (∀ (y : D) (g m c : Int), P x y → Q' y (jg g m c (R.set j (.imm x)))) → w (jg g m c (R.set j (.imm x))) Q') →
    (∀ (zs : List (D × D)) (g m c : Int), zs.map Prod.fst = xs → (∀ z ∈ zs, P z.1 z.2) → Q (acc ++ zs.map Prod.snd) (jg g m c (R.set j .un))) → lcW (wgN (j + 1)) wYes w [j + 1] xs acc (jg g m c (R.set j .un)) Q
  | [], acc, g, m, c, Q, _, q => by
    have := q [] g m c rfl (fun _ h => by cases h)
    rw [List.map_nil, List.append_nil] at this; exact this
  | x :: xs, acc, g, m, c, Q, hw, q => by
    refine ⟨Or.inl (by omega), ?_⟩
    show FreeS _ _ ∧ if true = true then w (.own (jl g m c) :: (R.set j .un).set j (.imm x)) _ else _
    rw [List.set_set, if_pos rfl]
    refine ⟨free_jg, hw x List.mem_cons_self g m c _ fun y g m c hy => ⟨free_jg, ?_⟩⟩
    show lcW _ _ _ _ _ _ (.own (jl g m c) :: (R.set j (.imm x)).set j .un) _
    rw [List.set_set]
    refine lcJY (j := j) (w := w) (P := P) (R := R) xs _ g m c (fun z hz => hw z (List.mem_cons_of_mem _ hz)) fun zs g m c h1 h2 => ?_
    rw [List.append_assoc]
    refine q ((x, y) :: zs) g m c (by rw [List.map_cons, h1]) fun z hz => ?_
    rcases List.mem_cons.mp hz with rfl | hz
    · exact hy
    · exact h2 z hz
/-- ascending ints with the same members are one -/
theorem int_ext : ∀ {as bs : List Int}, as.Pairwise (· < ·) → bs.Pairwise (· < ·) → (∀ r, r ∈ as ↔ r ∈ bs) → as = bs
  | [], [], _, _, _ => rfl
  | [], b :: bs, _, _, h => absurd ((h b).mpr List.mem_cons_self) (by simp)
  | a :: as, [], _, _, h => absurd ((h a).mp List.mem_cons_self) (by simp)
  | a :: as, b :: bs, h1, h2, h => by
    obtain ⟨p1, q1⟩ := List.pairwise_cons.mp h1
    obtain ⟨p2, q2⟩ := List.pairwise_cons.mp h2
    have e : a = b := by
      rcases List.mem_cons.mp ((h a).mp List.mem_cons_self) with e | m
      · exact e
      · rcases List.mem_cons.mp ((h b).mpr List.mem_cons_self) with e | m2
        · exact e.symm
        · have z1 := p2 a m
          have z2 := p1 b m2
          omega
    subst e
    rw [int_ext q1 q2 fun r => ⟨fun m => ?_, fun m => ?_⟩]
    · rcases List.mem_cons.mp ((h r).mp (List.mem_cons_of_mem _ m)) with e | m2
      · have := p1 r m; omega
      · exact m2
    · rcases List.mem_cons.mp ((h r).mpr (List.mem_cons_of_mem _ m)) with e | m2
      · have := p2 r m; omega
      · exact m2
/-- a list without doubles within another is no longer -/
theorem nodup_le {α : Type} [DecidableEq α] : ∀ {l m : List α}, l.Nodup → (∀ x ∈ l, x ∈ m) → l.length ≤ m.length
  | [], _, _, _ => Nat.zero_le _
  | x :: l, m, h, hs => by
    obtain ⟨h1, h2⟩ := List.nodup_cons.mp h
    have hx : x ∈ m := hs x List.mem_cons_self
    have := nodup_le (l := l) (m := m.erase x) h2 fun y hy => (List.mem_erase_of_ne (fun e => by subst e; exact h1 hy)).mpr (hs y (List.mem_cons_of_mem _ hy))
    rw [List.length_erase_of_mem hx] at this
    have hp := List.length_pos_of_mem hx
    rw [List.length_cons]; omega
theorem asc_nodup {rs : List (List Int)} (h : AscS rs) : rs.Nodup := List.Pairwise.imp (fun h => lex_ne h) h
end Pd

set_option Elab.async false
set_option linter.all false
set_option maxRecDepth 100000
set_option maxHeartbeats 4000000
namespace Pd
open PySem PySem.Spec PyProof.Rows L2
/-! ### lists of one's own as arguments: lent for the call -/
/-- data, or the slot of a list of one's own -/
inductive Arg where
  | d (x : D)
  | o (j : Nat)
inductive DB (K : PySem.W.Frag) (I : Hp) (σ : Sg) : List V → List Arg → Prop
  | nil : DB K I σ [] []
  | d {v : V} {x : D} {vs : List V} {as : List Arg} : Da K I v x → DB K I σ vs as → DB K I σ (v :: vs) (.d x :: as)
  | o {v : V} {j : Nat} {vs : List V} {as : List Arg} : σ[j]? = some (some v) → DB K I σ vs as → DB K I σ (v :: vs) (.o j :: as)
abbrev WB := En → (List Arg → En → Prop) → Prop
def lB (K : PySem.W.Frag) (w : WB) : TA := fun σ H Q => ∃ (G : Gh) (en : En) (I : Hp) (Q' : List Arg → En → Prop), Ok K G σ en H I ∧ w en Q' ∧
  ∀ vs H' I' en' as, Ok K G σ en' H' I' → Ex I I' → DB K I' σ vs as → Q' as en' → Q vs H'
def wBNil : WB := fun en Q => Q [] en
def wBCons (w : WE) (r : WB) : WB := fun en Q => w en fun d e1 => r e1 fun as e2 => Q (.d d :: as) e2
def wBOwn (j : Nat) (r : WB) : WB := fun en Q => (∃ xs, en[j]? = some (.own xs)) ∧ r en fun as e2 => Q (.o j :: as) e2
section
variable {X : Cx} {e : Expr} {es : List Expr}
theorem b_nil : PA X [] (lB X.K wBNil) := pa_nil.mo fun σ H Q ⟨G, en, I, Q', o, q, k⟩ => k [] H I en [] o (Ex.rf I) .nil q
theorem b_cons {w : WE} {r : WB} (ha : PE X e (lE X.K w)) (hr : PA X es (lB X.K r)) (hs : starEach (e :: es) X.env = (false, eval e X.env) :: starEach es X.env := by rfl) : PA X (e :: es) (lB X.K (wBCons w r)) :=
  (pa_cons ha hr hs).mo fun σ H Q ⟨G, en, I, Q', o, q, k⟩ => ⟨G, en, I, _, o, q, fun v H1 I1 e1 d o1 x1 dv q1 => ⟨G, e1, I1, _, o1, q1, fun vs H2 I2 e2 as o2 x2 dvs q2 => k (v :: vs) H2 I2 e2 (.d d :: as) o2 (x1.tr x2) (.d (dv.up x2) dvs) q2⟩⟩
theorem b_own {j : Nat} {r : WB} (ha : PE X e (tVar j)) (hr : PA X es (lB X.K r)) (hs : starEach (e :: es) X.env = (false, eval e X.env) :: starEach es X.env := by rfl) : PA X (e :: es) (lB X.K (wBOwn j r)) :=
  (pa_cons ha hr hs).mo fun σ H Q ⟨G, en, I, Q', o, ⟨⟨xs, hx⟩, q⟩, k⟩ => by
    obtain ⟨l, _, hl, _⟩ := o.own hx
    exact ⟨.ref l, hl, G, en, I, _, o, q, fun vs H2 I2 e2 as o2 x2 dvs q2 => k (.ref l :: vs) H2 I2 e2 (.o j :: as) o2 x2 (.o hl dvs) q2⟩
end
mutual
def noL : D → Bool
  | .list _ => false
  | .tuple xs => noLs xs
  | _ => true
def noLs : List D → Bool
  | [] => true
  | x :: xs => noL x && noLs xs
end
section
variable {K : PySem.W.Frag} {I' I2 : Hp}
mutual
theorem da_thaw (e : ∀ b o, I' b = some o → (∀ ys, o ≠ .lst ys) → I2 b = some o) : ∀ (d : D) (v : V), noL d = true → Da K I' v d → Da K I2 v d
  | .none, _, _, h => by cases h; exact .non
  | .bool b, _, _, h => by cases h; exact .bl b
  | .int i, _, _, h => by cases h; exact .int i
  | .str x, _, _, h => by cases h; exact .str x
  | .list ds, _, c, _ => by cases c
  | .tuple ds, _, c, h => by
    cases h with
    | tup hs ha =>
      refine .tup ?_ (daa_thaw e ds _ c ha)
      rcases hs with (hs | ⟨o, hs⟩) | hs
      · exact Or.inl (Or.inl (e _ _ hs fun _ z => by cases z))
      · exact Or.inl (Or.inr ⟨o, e _ _ hs fun _ z => by cases z⟩)
      · exact Or.inr hs
  | .dict _, _, _, h => by
    cases h with
    | dic h => exact .dic (e _ _ h fun _ z => by cases z)
theorem daa_thaw (e : ∀ b o, I' b = some o → (∀ ys, o ≠ .lst ys) → I2 b = some o) : ∀ (ds : List D) (vs : List V), noLs ds = true → DaAll K I' vs ds → DaAll K I2 vs ds
  | [], _, _, h => by cases h; exact .nil
  | d :: ds, _, c, h => by
    have c' : (noL d && noLs ds) = true := c
    rw [Bool.and_eq_true] at c'
    cases h with
    | cons h1 h2 => exact .cons (da_thaw e d _ c'.1 h1) (daa_thaw e ds _ c'.2 h2)
end
end
/-- the address of a list of one's own, but that at the slot i0 -/
def OwnBut (σ : Sg) (en : En) (i0 : Option Nat) (a : Addr) : Prop := ∃ i, i0 ≠ some i ∧ OwnAt σ en i a
open Classical in
noncomputable def lent (σ : Sg) (en : En) (H I : Hp) (i0 : Option Nat) : Hp := fun a => if OwnBut σ en i0 a then H a else I a
open Classical in
noncomputable def thaw (σ : Sg) (en : En) (I' : Hp) (i0 : Option Nat) : Hp := fun a => if OwnBut σ en i0 a then none else I' a
section
variable {K : PySem.W.Frag} {G : Gh} {σ : Sg} {en : En} {H I H' I' : Hp} {i0 : Option Nat}
theorem own_at (o : Ok K G σ en H I) {i : Nat} {a : Addr} (h : OwnAt σ en i a) : ∃ vs, I a = none ∧ H a = some (.lst vs) := by
  obtain ⟨h1, ds, h2⟩ := h
  obtain ⟨l, vs, r1, r2, r3, _⟩ := o.own h2
  rw [h1] at r1
  injection r1 with r1
  injection r1 with r1
  injection r1 with r1
  subst r1
  exact ⟨vs, r2, r3⟩
theorem lent_up (o : Ok K G σ en H I) : Ex I (lent σ en H I i0) := fun a u h => by
  have hno : ¬ OwnBut σ en i0 a := fun ⟨i, _, hi⟩ => by
    obtain ⟨vs, h1, _⟩ := own_at o hi
    rw [h1] at h; cases h
  unfold lent
  rw [if_neg hno]
  exact h
theorem lent_in (o : Ok K G σ en H I) : Ex (lent σ en H I i0) H := fun a u h => by
  unfold lent at h
  split at h
  · exact h
  · exact o.iH a u h
theorem thaw_up (o : Ok K G σ en H I) (e : Ex (lent σ en H I i0) I') : Ex I (thaw σ en I' i0) := fun a u h => by
  have h1 := e a u (lent_up o a u h)
  have hno : ¬ OwnBut σ en i0 a := fun ⟨i, _, hi⟩ => by
    obtain ⟨vs, h2, _⟩ := own_at o hi
    rw [h2] at h; cases h
  unfold thaw
  rw [if_neg hno]
  exact h1
theorem thaw_in (e : Ex I' H') : Ex (thaw σ en I' i0) H' := fun a u h => by
  unfold thaw at h
  split at h
  · cases h
  · exact e a u h
theorem thaw_n (n : ∀ a, I' a ≠ none → lent σ en H I i0 a = none → H a = none) : ∀ a, thaw σ en I' i0 a ≠ none → I a = none → H a = none := fun a h1 h2 => by
  unfold thaw at h1
  split at h1
  · exact absurd rfl h1
  · rename_i hn
    refine n a h1 ?_
    unfold lent
    rw [if_neg hn]; exact h2
theorem thaw_e (o : Ok K G σ en H I) (e : Ex (lent σ en H I i0) I') : ∀ b u, I' b = some u → (∀ ys, u ≠ .lst ys) → thaw σ en I' i0 b = some u := fun b u h hn => by
  have hno : ¬ OwnBut σ en i0 b := fun z => by
    obtain ⟨i, hi0, hi⟩ := z
    obtain ⟨vs, h1, h2⟩ := own_at o hi
    have h3 : lent σ en H I i0 b = some (.lst vs) := by
      unfold lent
      rw [if_pos ⟨i, hi0, hi⟩]; exact h2
    rw [e b _ h3] at h
    injection h with h
    exact hn vs h.symm
  unfold thaw
  rw [if_neg hno]
  exact h
/-- the arguments, told by data -/
def rsvP (en : En) : List Arg → (List D → Prop) → Prop
  | [], P => P []
  | .d x :: as, P => rsvP en as fun ds => P (x :: ds)
  | .o j :: as, P => ∃ xs, en[j]? = some (.own xs) ∧ rsvP en as fun ds => P (.list xs :: ds)
def rsvJ (i : Nat) (en : En) : List Arg → (List D → Prop) → Prop
  | [], P => P []
  | .d x :: as, P => rsvJ i en as fun ds => P (x :: ds)
  | .o j :: as, P => j ≠ i ∧ ∃ xs, en[j]? = some (.own xs) ∧ rsvJ i en as fun ds => P (.list xs :: ds)
theorem lent_da (o : Ok K G σ en H I) {j : Nat} {v : V} {xs : List D} (hj : i0 ≠ some j) (h : σ[j]? = some (some v)) (h2 : en[j]? = some (.own xs)) : Da K (lent σ en H I i0) v (.list xs) := by
  obtain ⟨l, vs, r1, r2, r3, r4⟩ := o.own h2
  rw [h] at r1
  injection r1 with r1
  injection r1 with r1
  subst r1
  refine .lst ?_ (r4.up (lent_up o))
  unfold lent
  rw [if_pos ⟨j, hj, h, xs, h2⟩]; exact r3
theorem rsvP_ok (o : Ok K G σ en H I) : ∀ {as : List Arg} {vs : List V} {P : List D → Prop}, DB K I σ vs as → rsvP en as P → ∃ ds, DaAll K (lent σ en H I none) vs ds ∧ P ds
  | [], _, _, .nil, h => ⟨[], .nil, h⟩
  | .d x :: as, _, _, .d hv hs, h => by
    obtain ⟨ds, h1, h2⟩ := rsvP_ok o hs h
    exact ⟨_, .cons (hv.up (lent_up o)) h1, h2⟩
  | .o j :: as, _, _, .o hv hs, ⟨xs, hx, h⟩ => by
    obtain ⟨ds, h1, h2⟩ := rsvP_ok o hs h
    exact ⟨_, .cons (lent_da o (by intro z; cases z) hv hx) h1, h2⟩
theorem rsvJ_ok {i : Nat} (o : Ok K G σ en H I) : ∀ {as : List Arg} {vs : List V} {P : List D → Prop}, DB K I σ vs as → rsvJ i en as P → ∃ ds, DaAll K (lent σ en H I (some i)) vs ds ∧ P ds
  | [], _, _, .nil, h => ⟨[], .nil, h⟩
  | .d x :: as, _, _, .d hv hs, h => by
    obtain ⟨ds, h1, h2⟩ := rsvJ_ok o hs h
    exact ⟨_, .cons (hv.up (lent_up o)) h1, h2⟩
  | .o j :: as, _, _, .o hv hs, ⟨hj, xs, hx, h⟩ => by
    obtain ⟨ds, h1, h2⟩ := rsvJ_ok o hs h
    exact ⟨_, .cons (lent_da o (fun z => hj (by injection z with z; exact z.symm)) hv hx) h1, h2⟩
end
def wFnB (n : Nat) (wf : WF) (w : WB) : WE := fun en Q => w en fun as e1 => rsvP e1 as fun ds => ds.length = n ∧ wf ds fun d => noL d = true ∧ Q d e1
def wFnJB (i n : Nat) (wf : WJ) (w : WB) : WE := fun en Q => (∃ dj, en[i]? = some (.own dj)) ∧ w en fun as e1 => rsvJ i e1 as fun ds => ds.length + 1 = n ∧ ∃ dj, e1[i]? = some (.own dj) ∧ wf dj ds fun d dj' => noL d = true ∧ noLs dj' = true ∧ Q d (e1.set i (.own dj'))
section
variable {X : Cx} {e : Expr} {es : List Expr} {pos p : Pos} {x : Str} {k n : Nat} {ps : List Str}
theorem c_callB {wf : WF} {w : WB} (C : Cal X.prog X.w X.K X.mg X.base k x ps (spP X.K n wf)) (hr : Room k X.A) (ha : PA X (e :: es) (lB X.K w)) (hg : Gl X x := by rfl)
    (hdb : (x == ("__debug__" : Str)) = false := by decide) (he : starEach (e :: es) X.env = (false, eval e X.env) :: starEach es X.env := by rfl) (hpl : (backTo pos (starEach es X.env)).any (·.1) = false := by rfl) :
    PE X (.Call (.Name x p) (e :: es) [] pos) (lE X.K (wFnB n wf w)) := by
  obtain ⟨f, fd, F, hm, hk, hb⟩ := C
  exact (pe_call F hr hg hm hk hb .nil pass0 ha hdb he hpl).mo fun σ H Q ⟨G, en, I, Q', o, q, k⟩ => ⟨G, en, I, _, o, q, fun vs H1 I1 e1 as o1 x1 dvs q1 => by
    obtain ⟨ds, d1, hn, q2⟩ := rsvP_ok o1 dvs q1
    refine ⟨lent σ e1 H1 I1 none, ds, _, lent_in o1, by rw [List.append_nil]; exact d1, hn, q2, fun v H2 I2 d g dv ⟨q3, q4⟩ => ?_⟩
    exact k v H2 (thaw σ e1 I2 none) e1 d (o1.grow g.h (thaw_up o1 g.i) (thaw_in g.s) (thaw_n g.n)) (x1.tr (thaw_up o1 g.i)) (da_thaw (thaw_e o1 g.i) d v q3 dv) q4⟩
theorem c_callJB {wf : WJ} {w : WB} {i : Nat} (C : Cal X.prog X.w X.K X.mg X.base k x ps (spJ X.K n wf)) (hr : Room k X.A) (h0 : PE X e (tVar i)) (ha : PA X es (lB X.K w)) (hg : Gl X x := by rfl)
    (hdb : (x == ("__debug__" : Str)) = false := by decide) (he : starEach (e :: es) X.env = (false, eval e X.env) :: starEach es X.env := by rfl) (hpl : (backTo pos (starEach es X.env)).any (·.1) = false := by rfl) :
    PE X (.Call (.Name x p) (e :: es) [] pos) (lE X.K (wFnJB i n wf w)) := by
  obtain ⟨f, fd, F, hm, hk, hb⟩ := C
  exact (pe_call F hr hg hm hk hb .nil pass0 (pa_cons h0 ha he) hdb he hpl).mo fun σ H Q ⟨G, en, I, Q', o, ⟨⟨dj0, hj0⟩, q⟩, k⟩ => by
    have key : ∀ (j : Addr), σ[i]? = some (some (.ref j)) → lB X.K w σ H fun vs H1 => spJ X.K n wf ((V.ref j :: vs) ++ []) H1 Q E0 := fun j hj => by
      refine ⟨G, en, I, _, o, q, fun vs H1 I1 e1 as o1 x1 dvs q1 => ?_⟩
      obtain ⟨ds, d1, hn, dj, hd, q2⟩ := rsvJ_ok o1 dvs q1
      obtain ⟨l, vj, r1, r2, r3, r4⟩ := o1.own hd
      rw [hj] at r1
      have q5 : j = l := by injection r1 with r1; injection r1 with r1; injection r1
      subst q5
      have hjn : lent σ e1 H1 I1 (some i) j = none := by
        have hno : ¬ OwnBut σ e1 (some i) j := fun ⟨i', hi', ho⟩ => hi' (by rw [o1.ds i i' j ⟨hj, dj, hd⟩ ho])
        unfold lent
        rw [if_neg hno]
        exact r2
      refine ⟨j, vj, dj, vs, ds, lent σ e1 H1 I1 (some i), _, by rw [List.append_nil], hjn, r3, r4.up (lent_up o1), lent_in o1, d1, hn, q2, fun v H2 I2 d vj' dj' k1 k2 k3 k4 k5 k6 k7 ⟨k8, k9, k10⟩ => ?_⟩
      exact k v H2 (thaw σ e1 I2 (some i)) _ d (o1.turn ⟨hj, dj, hd⟩ k1 (thaw_up o1 k2) (thaw_in k3) (thaw_n k4) k5 (daa_thaw (thaw_e o1 k2) dj' vj' k9 k6)) (x1.tr (thaw_up o1 k2)) (da_thaw (thaw_e o1 k2) d v k8 k7) k10
    obtain ⟨j, _, hj, _⟩ := o.own hj0
    exact ⟨.ref j, hj, key j hj⟩
end
end Pd

set_option Elab.async false
set_option linter.all false
set_option maxRecDepth 100000
set_option maxHeartbeats 4000000
namespace Pd
open PySem PySem.Spec PyProof.Rows L2
/-! ### zip of a list with a tuple -/
def ItzM (K : PySem.W.Frag) (a b : Addr) : It :=
  ⟨fun i H => ∃ (us vs : List V) (u v : V), SqL K H a us ∧ SqT K H b vs ∧ us[i]? = some u ∧ vs[i]? = some v,
    fun i H y H' => ∃ T u v, y = .ref T ∧ H T = none ∧ H' = upd H T (.tup [u, v]) ∧ (∀ us, SqL K H a us → us[i]? = some u) ∧ ∀ vs, SqT K H b vs → vs[i]? = some v,
    fun i H => ∃ us vs : List V, SqL K H a us ∧ SqT K H b vs ∧ i ≤ us.length ∧ i ≤ vs.length ∧ (i = us.length ∨ i = vs.length)⟩
theorem sepM {z TI TO i1 i2 a b : Addr} (D : ZipApart z TI TO i1 i2 a b) : ZipSep2 z TI TO i1 i2 [i1, a] [i2, b] where
  TIz := D.TIz
  TOz := D.TOz
  TITO := D.TITO
  TIi1 := D.TIi1
  mem1 := List.mem_cons_self
  zf1 := by simp [D.i1z.symm, D.l1z.symm]
  Tf1 := by simp [D.TOi1, D.l1TO.symm]
  TIi2 := D.TIi2
  mem2 := List.mem_cons_self
  zf2 := by simp [D.i2z.symm, D.l2z.symm]
  Tf2 := by simp [D.TOi2, D.l2TO.symm]
  sep1_2 := by simp [D.i12, D.l2i1.symm]
  sep2_1 := by simp [D.i12.symm, D.l1i2.symm]
theorem turn_zipM {P : Program} {w : World} {K : PySem.W.Frag} {elts : List Expr} {kk : Nat} {tpos : Pos} {a b z TI TO i1 i2 : Addr} (D : ZipApart z TI TO i1 i2 a b) :
    Turn P w K (.Tuple elts kk tpos) (ItzM K a b) [z, TI, TO, i1, i2] z (fun i h => IsZip h z TI TO .none ∧ IsTupOf2 h TI (.ref i1) (.ref i2) ∧ (∃ p q, IsTupOf2 h TO p q) ∧ h.IsListIter i1 a i ∧ h.IsTupleIter i2 b i) where
  mem := by simp
  obj := fun i h st c hc => by
    obtain ⟨sz, sI, ⟨p, q, sO⟩, ⟨u1, r1, _, d1⟩, ⟨u2, r2, _, d2⟩⟩ := st
    rcases (by simpa using hc : c = z ∨ c = TI ∨ c = TO ∨ c = i1 ∨ c = i2) with g | g | g | g | g
    · subst g
      exact ⟨_, sz, fun v n => nomatch n⟩
    · subst g
      exact ⟨_, sI, fun v n => nomatch n⟩
    · subst g
      exact ⟨_, sO, fun v n => nomatch n⟩
    · subst g
      exact ⟨u1, r1, fun v n => by rw [d1] at n; cases n⟩
    · subst g
      exact ⟨u2, r2, fun v n => by rw [d2] at n; cases n⟩
  keep := fun i h h' st kp => by
    obtain ⟨sz, sI, ⟨p, q, sO⟩, s1, s2⟩ := st
    refine ⟨kp z (by simp) _ sz, kp TI (by simp) _ sI, ⟨p, q, kp TO (by simp) _ sO⟩, ?_, ?_⟩
    · exact s1.at fun o g => kp i1 (by simp) o g
    · exact s2.at fun o g => kp i2 (by simp) o g
  item := by
    intro X hP hw hK hc i pins s σ H E I hf st hg
    subst hP hw hK
    obtain ⟨sz, sI, ⟨p0, q0, sO⟩, s1, s2⟩ := st
    obtain ⟨us, vs, u, v, hqu, hqv, hu, hv⟩ := hg
    obtain ⟨is1, rv1, pl, _⟩ := I.list hqu
    obtain ⟨is2, rv2, pt, _⟩ := I.tuple hqv
    have n1 : i < is1.toArray.size := by
      have := rv1.length
      have := (List.getElem?_eq_some_iff.mp hu).1
      simp; omega
    have n2 : i < is2.toArray.size := by
      have := rv2.length
      have := (List.getElem?_eq_some_iff.mp hv).1
      simp; omega
    have zlt : z < s.heap.objs.size := Heap.lt_size sz
    refine wpAny_pyNext_zipD2_item (sepM D) (Draws.list (A := X.A.in1) (by exact I.ok.hd hc) i1 a D.l1i1 is1.toArray) (Draws.tuple (A := X.A.in1) (by exact I.ok.hd hc) i2 b D.l2i2 is2.toArray) sz sI sO ⟨s1, pl.isList⟩ ⟨s2, pt⟩ n1 n2 fun y1 y2 h' tk hy1 hy2 z' TO' t1 t2 hT hsz hk => ?_
    obtain ⟨v1, gv1, rr1⟩ := rv1.get hu
    obtain ⟨v2, gv2, rr2⟩ := rv2.get hv
    have ey1 : y1 = v1 := by
      have e : is1[i]? = some y1 := by simpa using hy1
      rw [gv1] at e; injection e with e; exact e.symm
    have ey2 : y2 = v2 := by
      have e : is2[i]? = some y2 := by simpa using hy2
      rw [gv2] at e; injection e with e; exact e.symm
    subst ey1 ey2
    refine ⟨_, rfl, wpAny_letOwnedTupleGo_zip (s := { s with heap := h', toks := tk }) z' fun h'' z'' sb => ?_⟩
    have hT2 : h''.get? s.heap.objs.size = some { cls := .type "tuple", data := .seq #[y1, y2] } := (sb.2 _ (Nat.ne_of_gt zlt)).trans hT
    have fresh : ObjOk X.prog X.w (upd H s.heap.objs.size (.tup [u, v])) h'' s.heap.objs.size (.tup [u, v]) := ⟨by show 2 ≤ sizeLine; decide, [y1, y2], .cons rr1 (.cons rr2 .nil), ⟨_, hT2, rfl, _, rfl⟩⟩
    have kept : ∀ c o, c ∉ [z, TI, TO, i1, i2] → s.heap.get? c = some o → h''.get? c = some o := fun c o hb g => (sb.2 c (fun e => hb (by simp [e]))).trans (hk c o (fun e => hb (by simp [e])) (fun e => hb (by simp [e])) (fun e => hb (by simp [e])) (fun e => hb (by simp [e])) g)
    have I1 : Inv X pins σ (upd H s.heap.objs.size (.tup [u, v])) { s with heap := h'', toks := tk } := I.turnedNew (t' := tk) (ch := [z, TI, TO, i1, i2]) kept hf (Nat.le_refl _) fresh
    refine ⟨.ref s.heap.objs.size, _, I1, rfl, ⟨_, u, v, rfl, I.hok.fresh (Nat.le_refl _), rfl, fun l hl => ?_, fun l hl => ?_⟩, ⟨z'', ?_, ⟨y1, y2, ?_⟩, ?_, ?_⟩, fun c hcm => ?_⟩
    · rw [I.list_inj hl hqu]; exact hu
    · rw [I.tuple_inj hl hqv]; exact hv
    · exact (sb.2 _ D.TIz).trans (hk _ _ D.TIz D.TITO D.TIi1 D.TIi2 sI)
    · exact (sb.2 _ D.TOz).trans TO'
    · exact t1.1.at fun o g => (sb.2 _ D.i1z).trans g
    · exact t2.1.at fun o g => (sb.2 _ D.i2z).trans g
    · have below : c < s.heap.objs.size := by
        rcases (by simpa using hcm : c = z ∨ c = TI ∨ c = TO ∨ c = i1 ∨ c = i2) with g | g | g | g | g
        · rw [g]; exact zlt
        · rw [g]; exact Heap.lt_size sI
        · rw [g]; exact Heap.lt_size sO
        · rw [g]; obtain ⟨_, e1, _⟩ := s1; exact Heap.lt_size e1
        · rw [g]; obtain ⟨_, e2, _⟩ := s2; exact Heap.lt_size e2
      rw [upd_ne (Nat.ne_of_lt below)]
      exact (hf c hcm).1
  done := by
    intro X hP hw hK hc i pins s σ H E I hf st hg
    subst hP hw hK
    obtain ⟨sz, sI, ⟨p0, q0, sO⟩, s1, s2⟩ := st
    obtain ⟨us, vs, hqu, hqv, le1, le2, hend⟩ := hg
    obtain ⟨is1, rv1, pl, _⟩ := I.list hqu
    obtain ⟨is2, rv2, pt, _⟩ := I.tuple hqv
    have l1 := rv1.length
    have l2 := rv2.length
    refine wpAny_pyNext_zipD2_end (sepM D) (Draws.list (A := X.A.in1) (by exact I.ok.hd hc) i1 a D.l1i1 is1.toArray) (Draws.tuple (A := X.A.in1) (by exact I.ok.hd hc) i2 b D.l2i2 is2.toArray) sz sI sO ⟨s1, pl.isList⟩ ⟨s2, pt⟩ (by simp; omega) (by simp; omega) (by simp; omega) fun h' tk hk => ⟨rfl, ?_⟩
    exact I.turnedL (t' := tk) (ch := [z, TI, TO, i1, i2]) (fun c o hb g => hk c o (fun e => hb (by simp [e])) (fun e => hb (by simp [e])) (fun e => hb (by simp [e])) (fun e => hb (by simp [e])) g) hf
  self := fun A i s Q E st h => wpAny_pyIter_zip st.1 h
def iZipM (K : PySem.W.Frag) (ta : TA) : TI := fun σ H R => ta σ H fun ws H1 => ∃ a b us vs, ws = [.ref a, .ref b] ∧ SqL K H1 a us ∧ SqT K H1 b vs ∧ R (ItzM K a b) H1
theorem pi_zipM {X : Cx} {e e2 : Expr} {ta : TA} {p pos tpos : Pos} {elts : List Expr} {kk : Nat} (hg : Gl X "zip") (hm : X.mg "zip" = none) (ha : PA X [e, e2] ta)
    (hs : starEach [e, e2] X.env = (false, eval e X.env) :: starEach [e2] X.env := by rfl) (hpl : (backTo pos (starEach [e2] X.env)).any (·.1) = false := by rfl) : PI X (.Tuple elts kk tpos) (.Call (.Name "zip" p) [e, e2] [] pos) (iZipM X.K ta) := by
  refine ⟨fun pins s σ H R I h => Call_ (ld_blt I hg hm PyProof.Rows.boot_zip (PyProof.Rows.callWith_type1 (thn (ha.run pos pins s σ H _ I h) fun ws s1 ⟨xs, H1, I1, r1, q1⟩ => ?_) hs hpl))⟩
  obtain ⟨a, b, us, vs, ex, hqu, hqv, q⟩ := q1
  subst ex
  cases r1 with
  | cons r rr =>
    cases rr with
    | cons r' rr =>
      cases rr
      cases r
      cases r'
      obtain ⟨is1, rv1, pl, _⟩ := I1.list hqu
      obtain ⟨is2, rv2, pt, _⟩ := I1.tuple hqv
      obtain ⟨ot, hot, _⟩ := id pt
      have five : ∀ c, c ∈ [s1.heap.objs.size + 4, s1.heap.objs.size + 2, s1.heap.objs.size + 3, s1.heap.objs.size, s1.heap.objs.size + 1] → FpOk X pins H1 c := fun c hcm => by
        have le : s1.heap.objs.size ≤ c := by
          simp only [List.mem_cons, List.not_mem_nil, or_false] at hcm
          omega
        exact I1.fpOk le (I1.hok.fresh le)
      refine zip_begins2 (begins_list a is1.toArray) (begins_tuple b is2.toArray) pl.isList pt fun h' gz gI gO g1 g2 hsz hk => wpAny_pyIter_zip gz ?_
      have I2 : Inv X pins σ H1 { s1 with heap := h' } := I1.kept (t' := s1.toks) hk
      exact ⟨s1.heap.objs.size + 4, [s1.heap.objs.size + 4, s1.heap.objs.size + 2, s1.heap.objs.size + 3, s1.heap.objs.size, s1.heap.objs.size + 1], _, _, H1, rfl, I2, turn_zipM (PySem.W.ktu_apart s1.heap.objs.size a b pl.lt (Heap.lt_size hot)), ⟨gz, gI, ⟨_, _, gO⟩, ⟨_, g1, rfl, rfl⟩, ⟨_, g2, rfl, rfl⟩⟩, five, q⟩
section
variable {K : PySem.W.Frag} {X : Cx} {a b : Expr} {elts : List Expr} {kk : Nat} {pos p tpos : Pos} {w : WA}
theorem itd_zipM {I : Hp} {a b : Addr} {us vs : List V} {ds es : List D} (h : I a = some (.lst us)) (hd : DaAll K I us ds) (g : SqT K I b vs) (he : DaAll K I vs es) : ItD K (ItzM K a b) I (zipD ds es) where
  go := fun i H I1 e1 e2 hi => by
    rw [zipD_len] at hi
    obtain ⟨u, hu, _⟩ := dpa_get hd (List.getElem?_eq_getElem (i := i) (by omega))
    obtain ⟨v, hv, _⟩ := dpa_get he (List.getElem?_eq_getElem (i := i) (by omega))
    exact ⟨us, vs, u, v, SqL.of (e2 _ _ (e1 _ _ h)), sqt_ex (e1.tr e2) g, hu, hv⟩
  stop := fun H I1 e1 e2 => ⟨us, vs, SqL.of (e2 _ _ (e1 _ _ h)), sqt_ex (e1.tr e2) g, by rw [zipD_len, dpa_len hd]; omega, by rw [zipD_len, dpa_len he]; omega, by rw [zipD_len, dpa_len hd, dpa_len he]; omega⟩
  yld := fun i H I1 y H' d e1 e2 hd' ⟨T, u, v, ey, hT, eH, hu, hv⟩ => by
    subst ey eH
    obtain ⟨u', v', gu, gv, ed⟩ := zipD_get hd'
    obtain ⟨u2, hu2, q⟩ := dpa_get hd gu
    obtain ⟨v2, hv2, q'⟩ := dpa_get he gv
    have t1 := hu us (SqL.of (e2 _ _ (e1 _ _ h)))
    have t2 := hv vs (sqt_ex (e1.tr e2) g)
    rw [hu2] at t1
    rw [hv2] at t2
    cases t1; cases t2
    subst ed
    exact pair_gr e2 hT (q.up e1) (q'.up e1)
/-- zip(a list, a tuple) -/
def wZipM (w : WA) : WA := fun en Q => w en fun ds e1 => ∃ xs ys, ds = [.list xs, .tuple ys] ∧ Q (zipD xs ys) e1
theorem i_zipM (hm : X.mg "zip" = none) (ha : PA X [a, b] (lA X.K w)) (hg : Gl X "zip" := by rfl) (hs : starEach [a, b] X.env = (false, eval a X.env) :: starEach [b] X.env := by rfl) (hpl : (backTo pos (starEach [b] X.env)).any (·.1) = false := by rfl) :
    PI X (.Tuple elts kk tpos) (.Call (.Name "zip" p) [a, b] [] pos) (lI X.K (wZipM w)) :=
  (pi_zipM hg hm ha hs hpl).mo fun σ H R ⟨G, en, I, Q', o, q, k⟩ => ⟨G, en, I, _, o, q, fun vs H1 I1 e1 ds o1 x1 dvs ⟨xs, ys, hd, q1⟩ => by
    subst hd
    cases dvs with
    | cons h t => cases t with
      | cons h2 t => cases t; cases h with
        | lst hs ha => cases h2 with
          | tup hs2 ha2 => exact ⟨_, _, _, _, rfl, SqL.of (o1.iH _ _ hs), sqt_ex o1.iH hs2, k _ H1 I1 e1 _ o1 x1 (itd_zipM hs ha hs2 ha2) q1⟩⟩
end
end Pd

set_option Elab.async false
set_option linter.all false
set_option maxRecDepth 100000
set_option maxHeartbeats 4000000
namespace Pd
open PySem PySem.Spec PyProof.Rows L2
/-! ### any(t), t a tuple of ints -/
theorem truth_ints {prog : Program} {w : World} {A : Around} {ns : List Int} {its : List Value} (e : IntsAre its ns) :
    TruthOf prog w A (fun i v => its.toArray[i]? = some v) (fun i => ns.getD i 0 != 0) := fun i v s Q E hv hq => by
  have hv' : its[i]? = some v := by simpa using hv
  have key : ∀ {its : List Value} {ns : List Int}, IntsAre its ns → ∀ (i : Nat) (v : Value), its[i]? = some v → ∃ t, v = .int (ns.getD i 0) t := by
    intro its ns e
    induction e with
    | nil => intro i v h; simp at h
    | cons _ _ _ ih =>
      intro i v h
      cases i with
      | zero => simp at h; exact ⟨_, h.symm⟩
      | succ i => exact ih i v (by simpa using h)
  obtain ⟨t, rfl⟩ := key e i v hv'
  exact PySem.P.truthy_int hq
theorem ints_len : ∀ {its : List Value} {ns : List Int}, IntsAre its ns → its.length = ns.length := by
  intro its ns e
  induction e with
  | nil => rfl
  | cons _ _ _ ih => rw [List.length_cons, List.length_cons, ih]
theorem any_rangeI : ∀ ns : List Int, (List.range ns.length).any (fun i => ns.getD i 0 != 0) = ns.any (· != 0)
  | [] => rfl
  | n :: ns => by
    rw [List.length_cons, List.range_succ_eq_map, List.any_cons, List.any_map, List.any_cons, ← any_rangeI ns]
    all_goals rfl
def rAnyT (K : PySem.W.Frag) : List V → Hp → VK → Prop := fun vs H Q => ∃ (a : Addr) (ns : List Int), vs = [V.ref a] ∧ SqT K H a (ns.map V.int) ∧ Q (.bl (ns.any (· != 0))) H
section
variable {X : Cx}
theorem cr_anyT (hc : X.calm = true) : CallR X (.builtin "any") (rAnyT X.K) := by
  intro pins s σ H vs us Q I r h
  obtain ⟨a, ns, rfl, hs, q⟩ := h
  obtain ⟨its, rv, hl, _⟩ := I.tuple hs
  rw [Vals.ref1 r]
  have hi := intsAre_of rv
  have hlt : a < s.heap.objs.size := by obtain ⟨_, e, _⟩ := id hl; exact Heap.lt_size e
  refine call_any_walk (wpAny_pyIter_tuple hl ?_)
  refine ⟨_, _, _, _, _, _, _, rfl, Walks.tuple (A := X.A.in1) (I.ok.hd hc) _ a (Nat.ne_of_lt hlt) its.toArray, ⟨⟨_, Heap.get?_push_size _ rfl, rfl, rfl⟩, hl.push _⟩, truth_ints hi, fun h' tk hk => ?_⟩
  have hlen := ints_len hi
  refine ⟨.bl _, H, I.kept fun b o eo => hk b o (fun hmem => ?_) (Heap.get?_push_of_some _ eo), ?_, q⟩
  · rcases List.mem_cons.mp hmem with e1 | hmem
    · exact absurd (e1 ▸ Heap.lt_size eo) (Nat.lt_irrefl _)
    · cases hmem
  · show Value.bool _ = Value.bool _
    rw [← any_rangeI, List.size_toArray, hlen]
theorem cr_anyA (hc : X.calm = true) : CallR X (.builtin "any") (fun xs H Q => rAny X.K xs H Q ∨ rAnyT X.K xs H Q) := or_call (cr_any hc) (cr_anyT hc)
end
def dAnyA : List D → D → Prop := fun xs z => (∃ bs : List Bool, xs = [.list (bs.map .bool)] ∧ z = .bool (bs.any id)) ∨ ∃ ns : List Int, xs = [.tuple (ns.map .int)] ∧ z = .bool (ns.any (· != 0))
theorem snd_anyA {K : PySem.W.Frag} : SndCl K (fun xs H Q => rAny K xs H Q ∨ rAnyT K xs H Q) dAnyA := by
  rintro H I xs ds z iH hx (⟨bs, rfl, rfl⟩ | ⟨ns, rfl, rfl⟩) Q k
  · cases hx with
    | cons h t => cases t; cases h with
      | lst h a =>
        have e := dpa_bls_inv bs a
        subst e
        exact Or.inl ⟨_, bs, rfl, SqL.of (iH _ _ h), k _ H I (Gr.rf iH) (.bl _)⟩
  · cases hx with
    | cons h t => cases t; cases h with
      | tup h a =>
        have e := dpa_ints_inv ns a
        subst e
        exact Or.inr ⟨_, ns, rfl, sqt_ex iH h, k _ H I (Gr.rf iH) (.bl _)⟩
theorem i_anyT {ns : List Int} {z : D} : dAnyA [.tuple (ns.map .int)] z ↔ z = .bool (ns.any (· != 0)) := by
  constructor
  · rintro (⟨bs, h, _⟩ | ⟨ms, h, e⟩)
    · injection h with h _; cases h
    · injection h with h _; injection h with h; rw [ints_inj h]; exact e
  · exact fun e => Or.inr ⟨ns, rfl, e⟩
/-! ### a comprehension without a test that draws each item -/
theorem lcD {wi : WA} {w : WE} {j : Nat} {R en : En} {Pi : List D → Prop} {P : D → Prop} {Q : List D → En → Prop} (hj : R[j]? = some .un)
    (hi : ∀ Q' : List D → En → Prop, (∀ (xs : List D) (g m c : Int), Pi xs → Q' xs (jg g m c R)) → wi en Q')
    (hl : ∀ xs, Pi xs → xs.length ≤ sizeLine)
    (hw : ∀ (x : D) (g m c : Int) (Q' : D → En → Prop), (∀ (y : D) (g m c : Int), P y → Q' y (jg g m c (R.set j (.imm x)))) → w (jg g m c (R.set j (.imm x))) Q')
    (q : ∀ (xs ys : List D) (g m c : Int), Pi xs → ys.length = xs.length → (∀ y ∈ ys, P y) → Q ys (jg g m c R)) : wLc wi (wgN (j + 1)) wYes w [j + 1] en Q := by
  have eR : R.set j .un = R := by
    refine List.ext_getElem? fun i => ?_
    by_cases e : j = i
    · subst e
      rw [hj, List.getElem?_set_self (List.getElem?_eq_some_iff.mp hj).1]
    · rw [List.getElem?_set_ne e]
  refine hi _ fun xs g m c hx => ⟨free_jg, fun v hv => ?_, hl xs hx, ?_⟩
  · rw [List.mem_singleton] at hv
    subst hv
    show NotOwn R[j]?
    rw [hj]; trivial
  · show lcW (wgN (j + 1)) wYes w [j + 1] xs [] (jg g m c (R.set j .un)) _
    refine lcJY (j := j) (R := R) (P := fun _ y => P y) xs [] g m c (fun x _ g m c Q' q' => hw x g m c Q' q') fun zs g' m' c' z1 z2 => ?_
    rw [bak_jg, List.nil_append]
    refine q xs _ g' m' c' hx ?_ fun y hy => ?_
    · rw [← z1, List.length_map, List.length_map]
    · obtain ⟨z, hz, rfl⟩ := List.mem_map.mp hy
      exact z2 z hz
end Pd

set_option Elab.async false
set_option linter.all false
set_option maxRecDepth 100000
set_option maxHeartbeats 4000000
namespace Pd
open PySem PySem.Spec PyProof.Rows L2
/-! ### comprehensions of two fors -/
/-- the inner turns -/
def lc1W (g : WG) (t : WT) (w : WE) (vs : List Nat) : List D → List D → En → (List D → En → Prop) → Prop
  | [], acc, e, Q => Q acc e
  | x :: xs, acc, e, Q => g x e fun e1 => t e1 fun b e2 => FreeS e2 vs ∧ if b = true then w e2 fun y e3 => FreeS e3 vs ∧ acc.length < sizeLine ∧ lc1W g t w vs xs (acc ++ [y]) (wip vs e3) Q else lc1W g t w vs xs acc (wip vs e2) Q
def lc2W (g : WG) (t : WT) (wi1 : WA) (g1 : WG) (t1 : WT) (w : WE) (vs vs1 : List Nat) : List D → List D → En → (List D → En → Prop) → Prop
  | [], acc, e, Q => Q acc e
  | x :: xs, acc, e, Q => g x e fun e1 => t e1 fun b e2 => if b = true then wi1 e2 fun ys e3 => FreeS e3 vs1 ∧ lc1W g1 t1 w vs1 ys acc (wip vs1 e3) fun acc' e4 => FreeS e4 vs ∧ lc2W g t wi1 g1 t1 w vs vs1 xs acc' (wip vs e4) Q
    else FreeS e2 vs ∧ lc2W g t wi1 g1 t1 w vs vs1 xs acc (wip vs e2) Q
def wLc2 (wi : WA) (g : WG) (t : WT) (wi1 : WA) (g1 : WG) (t1 : WT) (w : WE) (vs vs1 : List Nat) : WA := fun en Q => wi en fun xs e1 => FreeS e1 vs ∧ (∀ v ∈ vs, NotOwn e1[v]?) ∧ lc2W g t wi1 g1 t1 w vs vs1 xs [] (wip vs e1) fun ys e2 => Q ys (bak vs e1 e2)
theorem Ok.backI {K : PySem.W.Frag} {G : Gh} {σ : Sg} {en : En} {H I I1 : Hp} (i0 : Ex G.I0 I1) (nw : ∀ a, G.He a ≠ none → G.I0 a = none → I1 a = none) (o : Ok K { G with I0 := I1 } σ en H I) : Ok K G σ en H I ∧ Ex I1 I :=
  ⟨⟨i0.tr o.i0, o.iH, fun a h1 h2 => o.nw a h1 (nw a h1 h2), o.fr, o.ln, o.sl, o.ml, o.ds, o.pj, o.pr⟩, o.i0⟩
theorem lcm2 {K : PySem.W.Frag} {wi wi1 : WA} {is is1 : List Nat} {g g1 : WG} {t t1 : WT} {w : WE} {vs vs1 : List Nat} {σ : Sg} {H : Hp} {Q : VK} (his : ∀ i ∈ is, i ∈ vs) (his1 : ∀ i ∈ is1, i ∈ vs1) (hv : ∀ i ∈ vs1, i ∈ vs) (h : lL K (wLc2 wi g t wi1 g1 t1 w vs vs1) σ H Q) :
    tLc2 (lI K wi) (lG K is g) (lT K t) (lI K wi1) (lG K is1 g1) (lT K t1) (lE K w) vs vs1 σ H Q := by
  obtain ⟨G, en, I, Q', o, q, k⟩ := h
  refine ⟨G, en, I, _, o, q, fun J H1 I1 e1 xs o1 x1 it ⟨fr1, no1, q1⟩ => fun D hD => ?_⟩
  obtain ⟨nj, hn, hP⟩ := o1.fresh hD
  have id2 : wipe (wipe σ vs) vs = wipe σ vs := wipe_of (wipe_length σ vs) fun j hj => wipe_out hj
  refine ⟨fun i m H => m = xs.length - i ∧ i ≤ xs.length ∧ ∃ e I acc vacc, Ok K { G with I0 := I1, P := (D, .lst vacc) :: G.P } (wipe σ vs) e H I ∧ DaAll K I vacc acc ∧ lc2W g t wi1 g1 t1 w vs vs1 (xs.drop i) acc e fun ys e2 => Q' ys (bak vs e1 e2),
    ⟨xs.length, by omega, Nat.zero_le _, wip vs e1, I1, [], [], ((o1.base o1 (Ex.rf I1)).wip fr1).prot hD, .nil, q1⟩, ?_⟩
  rintro i m H2 ⟨hm, hi, e2, I2, acc, vacc, o2, da2, q2⟩
  by_cases hlt : i < xs.length
  · rw [List.drop_eq_getElem_cons hlt] at q2
    refine Or.inr ⟨it.go i H2 I2 o2.i0 o2.iH hlt, fun H => ∃ e I acc vacc, Ok K { G with I0 := I1, P := (D, .lst vacc) :: G.P } (wipe σ vs) e H I ∧ DaAll K I vacc acc ∧ lc2W g t wi1 g1 t1 w vs vs1 (xs.drop (i + 1)) acc e fun ys e2 => Q' ys (bak vs e1 e2),
      fun H' h => ⟨xs.length - (i + 1), by omega, rfl, hlt, h⟩, fun v H3 y3 => ?_⟩
    obtain ⟨I3, g3, d3⟩ := it.yld i H2 I2 v H3 _ o2.i0 o2.iH (List.getElem?_eq_getElem hlt) y3
    refine ⟨_, e2, I3, xs[i], _, o2.gr g3, d3, q2, fun σ4 H4 I4 e4 o4 x4 l4 k4 q4 => ?_⟩
    have e4' : wipe σ4 vs = wipe σ vs := (wipe_of l4 fun j hj => k4 j fun h => hj (his j h)).trans id2
    refine ⟨e4', _, e4, I4, _, o4, q4, fun b H5 I5 e5 o5 x5 q5 => ?_⟩
    have da5 := ((da2.up g3.i).up x4).up x5
    cases b with
    | false =>
      obtain ⟨f5, q5⟩ := q5
      have o5' := o5.wip f5
      rw [e4'] at o5'
      exact ⟨wip vs e5, I5, acc, vacc, o5', da5, q5⟩
    | true =>
      refine ⟨_, e5, I5, _, o5, q5, fun J1 H6 I6 e6 ys o6 x6 it1 ⟨f6, q6⟩ => ?_⟩
      have hl4 : (wipe σ4 vs1).length = σ4.length := wipe_length σ4 vs1
      have id41 : wipe (wipe σ4 vs1) vs1 = wipe σ4 vs1 := wipe_of (wipe_length σ4 vs1) fun j hj => wipe_out hj
      have id4 : wipe (wipe σ4 vs1) vs = wipe σ vs := (wipe_of hl4 fun j hj => wipe_out fun h => hj (hv j h)).trans e4'
      have o6i : Ex I1 I6 := o6.i0
      have o6n : ∀ a, G.He a ≠ none → I1 a = none → I6 a = none := o6.nw
      have o6P := (o6.pr _ List.mem_cons_self)
      refine ⟨fun j k H => k = ys.length - j ∧ j ≤ ys.length ∧ ∃ e I acc' vacc', Ok K { G with I0 := I6, P := (D, .lst vacc') :: G.P } (wipe σ4 vs1) e H I ∧ DaAll K I vacc' acc' ∧ lc1W g1 t1 w vs1 (ys.drop j) acc' e fun acc'' e4 => FreeS e4 vs ∧ lc2W g t wi1 g1 t1 w vs vs1 (xs.drop (i + 1)) acc'' (wip vs e4) fun ys e2 => Q' ys (bak vs e1 e2),
        ⟨ys.length, by omega, Nat.zero_le _, wip vs1 e6, I6, acc, vacc, (o6.base o6 (Ex.rf I6)).wip f6, da5.up x6, q6⟩, ?_⟩
      rintro j k' H7 ⟨hk, hj, e7, I7, acc', vacc', o7, da7, q7⟩
      by_cases hlt1 : j < ys.length
      · rw [List.drop_eq_getElem_cons hlt1] at q7
        refine Or.inr ⟨it1.go j H7 I7 o7.i0 o7.iH hlt1, fun H => ∃ e I acc' vacc', Ok K { G with I0 := I6, P := (D, .lst vacc') :: G.P } (wipe σ4 vs1) e H I ∧ DaAll K I vacc' acc' ∧ lc1W g1 t1 w vs1 (ys.drop (j + 1)) acc' e fun acc'' e4 => FreeS e4 vs ∧ lc2W g t wi1 g1 t1 w vs vs1 (xs.drop (i + 1)) acc'' (wip vs e4) fun ys e2 => Q' ys (bak vs e1 e2),
          fun H' h => ⟨ys.length - (j + 1), by omega, rfl, hlt1, h⟩, fun v H8 y8 => ?_⟩
        obtain ⟨I8, g8, d8⟩ := it1.yld j H7 I7 v H8 _ o7.i0 o7.iH (List.getElem?_eq_getElem hlt1) y8
        refine ⟨_, e7, I8, ys[j], _, o7.gr g8, d8, q7, fun σ9 H9 I9 e9 o9 x9 l9 k9 q9 => ?_⟩
        have e9' : wipe σ9 vs1 = wipe σ4 vs1 := (wipe_of l9 fun j hj => k9 j fun h => hj (his1 j h)).trans id41
        refine ⟨e9', _, e9, I9, _, o9, q9, fun b H10 I10 e10 o10 x10 ⟨f10, q10⟩ => ?_⟩
        have da10 := ((da7.up g8.i).up x9).up x10
        cases b with
        | false =>
          have o10' := o10.wip f10
          rw [e9'] at o10'
          exact ⟨wip vs1 e10, I10, acc', vacc', o10', da10, q10⟩
        | true =>
          refine ⟨_, e10, I10, _, o10, q10, fun y H11 I11 e11 d11 o11 x11 dv11 ⟨f11, hz, q11⟩ => ?_⟩
          have da11 := da10.up x11
          refine ⟨vacc', (o11.pr _ List.mem_cons_self).1, by rw [dpa_len da11]; exact hz, ?_⟩
          have o11' := o11.wip f11
          rw [e9'] at o11'
          exact ⟨wip vs1 e11, I11, acc' ++ [d11], vacc' ++ [y], Ok.rewr (G := { G with I0 := I6 }) o11' nj hn hP, dpa_app da11 (.cons dv11 .nil), q11⟩
      · have e : j = ys.length := by omega
        subst e
        rw [List.drop_length] at q7
        obtain ⟨f7, q7⟩ := q7
        refine Or.inl ⟨it1.stop H7 I7 o7.i0 o7.iH, ?_⟩
        have o7' := o7.wip f7
        rw [id4] at o7'
        exact ⟨wip vs e7, I7, acc', vacc', (Ok.backI (G := { G with I0 := I1, P := (D, .lst vacc') :: G.P }) o6i o6n o7').1, da7, q7⟩
  · have e : i = xs.length := by omega
    subst e
    rw [List.drop_length] at q2
    refine Or.inl ⟨it.stop H2 I2 o2.i0 o2.iH, ?_⟩
    obtain ⟨o3, eH⟩ := Ok.drop (G := { G with I0 := I1 }) o2 hn hP
    rw [eH]
    have o3' : Ok K { G with I0 := I1 } (wipe σ vs) e2 (hid H2 D) I2 := o3
    obtain ⟨o4, x4⟩ := o1.back o3'
    exact k D vacc _ I2 _ acc (o1.bak no1 o4 x4) (x1.tr x4) hid_at da2 q2
section
variable {X : Cx} {elt tg iter tg1 iter1 : Expr} {ifs ifs1 : List Expr} {scope : Scope} {own : List (Str × Nat)} {vs1 : List Nat} {pos : Pos} {wi wi1 : WA} {is is1 : List Nat} {g g1 : WG} {t t1 : WT} {w : WE}
theorem l_lc2 (hc : X.calm = true) (hN : X.N.Nodup) (hi : PI X tg iter (lI X.K wi)) (ok : BlkOk X.N X.env.scope scope own) (hv : ∀ i ∈ vs1, i ∈ own.map (·.2))
    (hg : ∀ (s : Shared) (H : Hp) (C : Addr) (cl : List (Str × Addr)) (fp : List Addr), PG (X.blk s H scope (compEnvC scope cl C X.env) fp) tg (lG X.K is g)) (ht : ∀ (s : Shared) (H : Hp) (C : Addr) (cl : List (Str × Addr)) (fp : List Addr), PTs (X.blk s H scope (compEnvC scope cl C X.env) fp) ifs (lT X.K t))
    (hi1 : ∀ (s : Shared) (H : Hp) (C : Addr) (cl : List (Str × Addr)) (fp : List Addr), PI (X.blk s H scope (compEnvC scope cl C X.env) fp) tg1 iter1 (lI X.K wi1))
    (hg1 : ∀ (s : Shared) (H : Hp) (C : Addr) (cl : List (Str × Addr)) (fp : List Addr), PG (X.blk s H scope (compEnvC scope cl C X.env) fp) tg1 (lG X.K is1 g1)) (ht1 : ∀ (s : Shared) (H : Hp) (C : Addr) (cl : List (Str × Addr)) (fp : List Addr), PTs (X.blk s H scope (compEnvC scope cl C X.env) fp) ifs1 (lT X.K t1))
    (he : ∀ (s : Shared) (H : Hp) (C : Addr) (cl : List (Str × Addr)) (fp : List Addr), PE (X.blk s H scope (compEnvC scope cl C X.env) fp) elt (lE X.K w)) (hs : ∀ x, foldedSetIterable iter X.env x = pure x := by intro _; rfl) (hs1 : ∀ env x, foldedSetIterable iter1 env x = pure x := by intro _ _; rfl)
    (his : ∀ i ∈ is, i ∈ own.map (·.2) := by decide) (his1 : ∀ i ∈ is1, i ∈ vs1 := by decide) :
    PE X (.ListComp elt [⟨tg, iter, ifs, 0⟩, ⟨tg1, iter1, ifs1, 0⟩] scope pos) (lL X.K (wLc2 wi g t wi1 g1 t1 w (own.map (·.2)) vs1)) :=
  (pe_lc2 hc hN hi ok hv hg ht hi1 hg1 ht1 he hs hs1).mo fun σ H Q h => lcm2 his his1 hv h
variable {i : Nat} {y : Str} {py spos : Pos}
theorem s_lc2 (hc : X.calm = true) (hN : X.N.Nodup) (hy : X.N[i]? = some y) (hyl : X.env.scope.names.lookup y = some .local)
    (hsw : swapsWith (.ListComp elt [⟨tg, iter, ifs, 0⟩, ⟨tg1, iter1, ifs1, 0⟩] scope pos) (some (.Name y py)) spos.line X.env = pure true) (hi : PI X tg iter (lI X.K wi)) (ok : BlkOk X.N X.env.scope scope own) (hv : ∀ i ∈ vs1, i ∈ own.map (·.2))
    (hg : ∀ (s : Shared) (H : Hp) (C : Addr) (cl : List (Str × Addr)) (fp : List Addr), PG (X.blk s H scope (compEnvC scope cl C X.env) fp) tg (lG X.K is g)) (ht : ∀ (s : Shared) (H : Hp) (C : Addr) (cl : List (Str × Addr)) (fp : List Addr), PTs (X.blk s H scope (compEnvC scope cl C X.env) fp) ifs (lT X.K t))
    (hi1 : ∀ (s : Shared) (H : Hp) (C : Addr) (cl : List (Str × Addr)) (fp : List Addr), PI (X.blk s H scope (compEnvC scope cl C X.env) fp) tg1 iter1 (lI X.K wi1))
    (hg1 : ∀ (s : Shared) (H : Hp) (C : Addr) (cl : List (Str × Addr)) (fp : List Addr), PG (X.blk s H scope (compEnvC scope cl C X.env) fp) tg1 (lG X.K is1 g1)) (ht1 : ∀ (s : Shared) (H : Hp) (C : Addr) (cl : List (Str × Addr)) (fp : List Addr), PTs (X.blk s H scope (compEnvC scope cl C X.env) fp) ifs1 (lT X.K t1))
    (he : ∀ (s : Shared) (H : Hp) (C : Addr) (cl : List (Str × Addr)) (fp : List Addr), PE (X.blk s H scope (compEnvC scope cl C X.env) fp) elt (lE X.K w)) (hs : ∀ x, foldedSetIterable iter X.env x = pure x := by intro _; rfl) (hs1 : ∀ env x, foldedSetIterable iter1 env x = pure x := by intro _ _; rfl)
    (his : ∀ i ∈ is, i ∈ own.map (·.2) := by decide) (his1 : ∀ i ∈ is1, i ∈ vs1 := by decide) :
    PS X (.Assign [.Name y py] (.ListComp elt [⟨tg, iter, ifs, 0⟩, ⟨tg1, iter1, ifs1, 0⟩] scope pos) spos) (lS X.K (wSet i (wLe (wLc2 wi g t wi1 g1 t1 w (own.map (·.2)) vs1)))) :=
  (ps_setLc2 hc hN hy hyl hsw hi ok hv hg ht hi1 hg1 ht1 he hs hs1).mo fun R σ H ⟨G, en, I, R', o, q, k⟩ => lcm2 his his1 hv ⟨G, en, I, _, o, q, fun p vs H1 I1 e1 ds o1 x1 hp dvs ⟨hi, q1⟩ => by
    obtain ⟨o2, x2⟩ := o1.new (u := .lst vs) hp
    exact k.1 _ _ _ _ (o2.put (.lst upd_same (dvs.up x2)) (hi.imp id notOwn_ne)) q1⟩
end
theorem lc1_gen {β : Type} {g1 : WG} {w : WE} {vs1 : List Nat} {e0 : En} {Y : β → D} {f : β → D} (E2 : β → En) (hv1 : ∀ v ∈ vs1, v ≠ 0) (hE2 : ∀ y, wip vs1 (E2 y) = e0) : ∀ (ys : List β) (acc : List D) {Q : List D → En → Prop},
    (∀ y ∈ ys, ∀ Q : En → Prop, Q (E2 y) → g1 (Y y) e0 Q) → (∀ y ∈ ys, ∀ Q : D → En → Prop, Q (f y) (E2 y) → w (E2 y) Q) → acc.length + ys.length ≤ sizeLine → Q (acc ++ ys.map f) e0 → lc1W g1 wYes w vs1 (ys.map Y) acc e0 Q
  | [], acc, Q, _, _, _, q => by
    rw [List.map_nil, List.append_nil] at q
    exact q
  | y :: ys, acc, Q, hg, hw, hl, q => by
    rw [List.length_cons] at hl
    refine hg y List.mem_cons_self _ ⟨free_of hv1, ?_⟩
    rw [if_pos rfl]
    refine hw y List.mem_cons_self _ ⟨free_of hv1, by omega, ?_⟩
    rw [hE2 y]
    refine lc1_gen E2 hv1 hE2 ys (acc ++ [f y]) (fun z hz => hg z (List.mem_cons_of_mem _ hz)) (fun z hz => hw z (List.mem_cons_of_mem _ hz)) (by rw [List.length_append, List.length_singleton]; omega) ?_
    rw [List.append_assoc]
    exact q
/-- a comprehension of two fors that changes nothing -/
theorem lc2Y {α β : Type} {wi wi1 : WA} {g g1 : WG} {w : WE} {vs vs1 : List Nat} {en e1 : En} {X : α → D} {Y : β → D} {f : α → β → D} (E : α → En) (E2 : α → β → En) {xs : List α} {ys : α → List β} {Q : List D → En → Prop} (hv : ∀ v ∈ vs, v ≠ 0) (hv1 : ∀ v ∈ vs1, v ≠ 0)
    (hi : ∀ Q : List D → En → Prop, Q (xs.map X) e1 → wi en Q) (hn : ∀ v ∈ vs, NotOwn e1[v]?) (hE : ∀ x, wip vs (wip vs1 (E x)) = wip vs e1) (hE2 : ∀ x y, wip vs1 (E2 x y) = wip vs1 (E x))
    (hg : ∀ x ∈ xs, ∀ Q : En → Prop, Q (E x) → g (X x) (wip vs e1) Q) (hi1 : ∀ x ∈ xs, ∀ Q : List D → En → Prop, Q ((ys x).map Y) (E x) → wi1 (E x) Q)
    (hg1 : ∀ x ∈ xs, ∀ y ∈ ys x, ∀ Q : En → Prop, Q (E2 x y) → g1 (Y y) (wip vs1 (E x)) Q) (hw : ∀ x ∈ xs, ∀ y ∈ ys x, ∀ Q : D → En → Prop, Q (f x y) (E2 x y) → w (E2 x y) Q)
    (hl : (xs.flatMap fun x => (ys x).map (f x)).length ≤ sizeLine) (q : Q (xs.flatMap fun x => (ys x).map (f x)) e1) : wLc2 wi g wYes wi1 g1 wYes w vs vs1 en Q := by
  refine hi _ ⟨free_of hv, hn, ?_⟩
  have key : ∀ (zs : List α) (acc : List D), (∀ z ∈ zs, z ∈ xs) → acc ++ (zs.flatMap fun x => (ys x).map (f x)) = (xs.flatMap fun x => (ys x).map (f x)) →
      lc2W g wYes wi1 g1 wYes w vs vs1 (zs.map X) acc (wip vs e1) fun ys e2 => Q ys (bak vs e1 e2) := by
    intro zs
    induction zs with
    | nil =>
      intro acc _ he
      rw [List.flatMap_nil, List.append_nil] at he
      show Q acc (bak vs e1 (wip vs e1))
      rw [bak_wip, he]
      exact q
    | cons z zs ih =>
      intro acc hz he
      have h1 := hz z List.mem_cons_self
      rw [List.flatMap_cons] at he
      have hle : acc.length + (ys z).length ≤ sizeLine := by
        rw [← he, List.length_append, List.length_append, List.length_map] at hl
        omega
      refine hg z h1 _ ?_
      unfold wYes
      dsimp only
      rw [if_pos rfl]
      refine hi1 z h1 _ ⟨free_of hv1, ?_⟩
      refine lc1_gen (E2 z) hv1 (hE2 z) (ys z) acc (hg1 z h1) (hw z h1) hle ⟨free_of hv, ?_⟩
      rw [hE z]
      exact ih _ (fun y hy => hz y (List.mem_cons_of_mem _ hy)) (by rw [List.append_assoc]; exact he)
  exact key xs [] (fun _ h => h) rfl
end Pd

set_option Elab.async false
set_option linter.all false
set_option maxRecDepth 100000
set_option maxHeartbeats 4000000
namespace K60
open PySem PySem.Spec PyProof.Rows L2 Pd
abbrev RR : PySem.W.OpenLaw := PySem.Challenge.rw_fetchunseen_k60_whole_keys_and_asked_num
abbrev PP : Program := RR.prog
def top (i : Nat) : Stmt := PP.main.body.getD i (.Pass ⟨0, 0, 0, 0⟩)
def isW : D → Bool
  | .int _ => true
  | _ => false
def isBtw : D → Int → Int → Bool
  | .int i, a, b => decide (a ≤ i) && decide (i ≤ b)
  | _, _, _ => false
def rowsL (rs : List (List Int)) : D := .list (rs.map rowD)
def rowsD (rs : List (List Int)) : D := .tuple (rs.map rowD)
/-- m numbers from 0 to h - 1 -/
def Nm (h m : Int) (r : List Int) : Prop := (r.length : Int) = m ∧ ∀ x ∈ r, 0 ≤ x ∧ x < h
def Hs (h : Int) : Prop := 2 ≤ h ∧ h ≤ 6
def Bk (k : Int) : Prop := 1 ≤ k ∧ k ≤ 4
def pw (h : Int) (n : Nat) : List Int := (List.range (n + 1)).map fun i => h ^ i
def numL (h : Int) (w : Nat) (key : List Int) (n : Int) : List Int := key.take w ++ [(n - key.sum) % h] ++ key.drop w
def rng (h : Int) : List Int := (List.range h.toNat).map fun i => ((i : Nat) : Int)
/-- all tuples of n numbers -/
def allT (h : Int) : Nat → List (List Int)
  | 0 => [[]]
  | n + 1 => (allT h n).flatMap fun key => (rng h).map fun x => key ++ [x]
def keyD (h : Int) (w : Nat) (house : Int) (a : List Int) : D := if a.sum % h = house then rowD (a.take w ++ a.drop (w + 1)) else .none
/-! ### what each def does -/
def wf_is_whole : WF := fun ds Q => ∃ d, ds = [d] ∧ Q (.bool (isW d))
def wf_is_between : WF := fun ds Q => ∃ d a b, ds = [d, .int a, .int b] ∧ Q (.bool (isBtw d a b))
def wf_check_between : WF := fun ds Q => ∃ v a b, ds = [.int v, .int a, .int b] ∧ a ≤ v ∧ v ≤ b ∧ Q .none
def wf_powers_to : WF := fun ds Q => ∃ (h : Int) (n : Nat), ds = [.int h, .int n] ∧ 2 ≤ h ∧ h ≤ 6 ∧ n ≤ 6 ∧ Q (.list ((pw h n).map .int))
def wf_check_books : WF := fun ds Q => ∃ k, ds = [.int k] ∧ Bk k ∧ Q .none
def wf_check_lone : WF := fun ds Q => ∃ h k, ds = [.int h, .int k] ∧ Hs h ∧ Bk k ∧ Q .none
def wf_are_numbers : WF := fun ds Q => ∃ (h m : Int) (r : List Int), ds = [.int h, .int m, rowD r] ∧ Nm h m r ∧ m ≤ 6 ∧ Q (.bool true)
def wf_check_key : WF := fun ds Q => ∃ (h k : Int) (r : List Int), ds = [.int h, .int k, rowD r] ∧ Nm h (k - 1) r ∧ Bk k ∧ Q .none
def wf_check_numbers : WF := fun ds Q => ∃ (h k : Int) (r : List Int), ds = [.int h, .int k, rowD r] ∧ Nm h k r ∧ Bk k ∧ Q .none
def wf_check_few_keys : WF := fun ds Q => ∃ (h : Int) (n : Nat), ds = [.int h, .int ((n : Int) + 1)] ∧ Hs h ∧ n ≤ 3 ∧ h ^ n ≤ 64 ∧ Q .none
def wf_all_keys : WF := fun ds Q => ∃ (h : Int) (n : Nat), ds = [.int h, .int ((n : Int) + 1)] ∧ Hs h ∧ n ≤ 3 ∧ h ^ n ≤ 64 ∧ Q (rowsD (allT h n))
def wf_numbers_of : WF := fun ds Q => ∃ (h n : Int) (w : Nat) (key : List Int), ds = [.int h, .int w, rowD key, .int n] ∧ Hs h ∧ w ≤ key.length ∧ key.length ≤ 4 ∧ Q (rowD (numL h w key n))
def wf_keys : WF := fun ds Q => ∃ (h : Int) (n : Nat), ds = [.int h, .int ((n : Int) + 1)] ∧ Hs h ∧ n ≤ 3 ∧ h ^ n ≤ 64 ∧ Q (rowsD (allT h n))
def wf_asked_numbers : WF := fun ds Q => ∃ (h n : Int) (w : Nat) (key : List Int), ds = [.int h, .int ((key.length : Int) + 1), .int w, rowD key, .int n] ∧ Hs h ∧ w ≤ key.length ∧ key.length ≤ 3 ∧ 0 ≤ n ∧ n < h ∧ (∀ x ∈ key, 0 ≤ x ∧ x < h) ∧ Q (rowD (numL h w key n))
def wf_key_of : WF := fun ds Q => ∃ (h n : Int) (w : Nat) (a : List Int), ds = [.int h, .int a.length, .int w, .int n, rowD a] ∧ Hs h ∧ w < a.length ∧ a.length ≤ 4 ∧ 0 ≤ n ∧ n < h ∧ (∀ x ∈ a, 0 ≤ x ∧ x < h) ∧ Q (keyD h w n a)
def wf__law_pour : WJ := fun dj ds Q => ∃ g m c t : Int, dj = [.int g, .int m, .int c] ∧ ds = [.int t] ∧ 0 < t ∧ t.natAbs.log2 < 9000 ∧ ∀ r g m c : Int, 0 ≤ r → r < t → Q (.int r) [.int g, .int m, .int c]
def wf__law_sc_pot : WSc := fun ns ds Q => ∃ s : Nat, ds = [.int s] ∧ ∀ g m c : Int, Q (.list [.int g, .int m, .int c])
def wf__law_all : WF := fun ds Q => ∃ (h : Int) (n : Nat), ds = [.int h, .int n] ∧ Hs h ∧ n ≤ 3 ∧ h ^ n ≤ 64 ∧ Q (rowsL (allT h n))
def wf__law_numbers : WF := wf_numbers_of
def wf__law_is_key_right : WF := fun ds Q => ∃ (h : Int) (key : List Int), ds = [.int h, .int ((key.length : Int) + 1), rowD key] ∧ Hs h ∧ key.length ≤ 3 ∧ (∀ x ∈ key, 0 ≤ x ∧ x < h) ∧ Q (.bool true)
def wf__law_right : WJ := fun dj ds Q => ∃ g m c : Int, dj = [.int g, .int m, .int c] ∧ ds = [] ∧ ∀ g m c : Int, Q (.bool true) [.int g, .int m, .int c]
def wf__law_is_whole : WF := fun ds Q => ∃ (h : Int) (n : Nat), ds = [.int h, .int ((n : Int) + 1)] ∧ 2 ≤ h ∧ h ≤ 4 ∧ n ≤ 2 ∧ Q (.bool true)
abbrev wf_law : WSc := wfLaw 63
end K60

set_option Elab.async false
set_option linter.all false
set_option maxRecDepth 100000
set_option maxHeartbeats 4000000
namespace K60
open PySem PySem.Spec PyProof.Rows L2 Pd
/-- what the module's names are -/
structure Tb (mg : Str → Option Value) : Prop where
  b_abs : mg "abs" = none
  b_all : mg "all" = none
  b_bool : mg "bool" = none
  b_int : mg "int" = none
  b_isinstance : mg "isinstance" = none
  b_len : mg "len" = none
  b_max : mg "max" = none
  b_min : mg "min" = none
  b_range : mg "range" = none
  b_sorted : mg "sorted" = none
  b_sum : mg "sum" = none
  b_tuple : mg "tuple" = none
  c_MOST_COINS : ∃ t, mg "MOST_COINS" = some (.int 64 t)
  c_MOST_HELD : ∃ t, mg "MOST_HELD" = some (.int 4 t)
  c_MOST_HOUSES : ∃ t, mg "MOST_HOUSES" = some (.int 6 t)
section
variable {P : Program} {w : World} {K : PySem.W.Frag} {mg : Str → Option Value} {base : Heap}
/-! ### is_whole -/
abbrev N_is_whole : List Str := ["value"]
theorem sc_is_whole : FnScope N_is_whole ["value"] (defScope (top 6)) := ⟨rfl, rfl, rfl, by decide +kernel, rfl, by decide +kernel, by decide +kernel⟩
def ws_is_whole : WS := (wRet (wAndV (wIsi "int" (wVar 0)) (wNotV (wIsi "bool" (wVar 0)))))
theorem der_is_whole (T : Tb mg)  (f : Addr) (cdv : Value) (A : Around) (outer : List Env) (s : Shared) (H : Hp) (E : XK) (hr : Room 0 (A.deeper (envOfC "is_whole" (defScope (top 6)) s.heap.objs.size f cdv))) : PSs (cxOf CX0 P w K mg base N_is_whole "is_whole" (defScope (top 6)) f cdv A outer s H E).nox (defBody (top 6)) (lS K ws_is_whole) :=
  (s_one (s_ret (d_and (d_isi (T' := "int") T.b_isinstance T.b_int (by decide +kernel) (d_var (pv 0))) (d_one (d_not (d_isi (T' := "bool") T.b_isinstance T.b_bool (by decide +kernel) (d_var (pv 0))))))))
theorem ok_is_whole (T : Tb mg)  {f : Addr} {fd : FuncData} (F : FunD K "is_whole" "is_whole" (defArgs (top 6)) (defBody (top 6)) (defScope (top 6)) [] [] f fd) (hm : mg "is_whole" = some (.ref f)) (pu : ∀ ds Q', ds.length = 1 → wf_is_whole ds Q' → ws_is_whole (edP Q') (enP N_is_whole ds)) : Cal P w K mg base 1 "is_whole" ["value"] (spP K 1 wf_is_whole) :=
  ⟨f, fd, fnP F sc_is_whole (fun cdv A outer s H E hr => der_is_whole T  f cdv A outer s H E hr) pu, hm, F.kp, F.bindsN (ps := ["value"]) fun _ _ _ _ _ _ us hl => match us, hl with | [_], _ => rfl⟩
/-! ### is_between -/
abbrev N_is_between : List Str := ["value", "least", "most"]
theorem sc_is_between : FnScope N_is_between ["value", "least", "most"] (defScope (top 7)) := ⟨rfl, rfl, rfl, by decide +kernel, rfl, by decide +kernel, by decide +kernel⟩
def ws_is_between : WS := (wRet (wAndV (wFn 1 wf_is_whole (wCons (wVar 0) wNil)) (wCh dLe dLe (wVar 1) (wVar 0) (wVar 2))))
theorem der_is_between (T : Tb mg) (C_is_whole : Cal P w K mg base 1 "is_whole" ["value"] (spP K 1 wf_is_whole)) (f : Addr) (cdv : Value) (A : Around) (outer : List Env) (s : Shared) (H : Hp) (E : XK) (hr : Room 1 (A.deeper (envOfC "is_between" (defScope (top 7)) s.heap.objs.size f cdv))) : PSs (cxOf CX0 P w K mg base N_is_between "is_between" (defScope (top 7)) f cdv A outer s H E).nox (defBody (top 7)) (lS K ws_is_between) :=
  (s_one (s_ret (d_and (c_call C_is_whole (hr.mono (by decide)) (a_cons (d_var (pv 0)) a_nil)) (d_one (d_ch op_le snd_le op_le snd_le (d_var (pv 1)) (d_var (pv 0)) (d_var (pv 2)))))))
theorem ok_is_between (T : Tb mg) (C_is_whole : Cal P w K mg base 1 "is_whole" ["value"] (spP K 1 wf_is_whole)) {f : Addr} {fd : FuncData} (F : FunD K "is_between" "is_between" (defArgs (top 7)) (defBody (top 7)) (defScope (top 7)) [] [] f fd) (hm : mg "is_between" = some (.ref f)) (pu : ∀ ds Q', ds.length = 3 → wf_is_between ds Q' → ws_is_between (edP Q') (enP N_is_between ds)) : Cal P w K mg base 2 "is_between" ["value", "least", "most"] (spP K 3 wf_is_between) :=
  ⟨f, fd, fnP F sc_is_between (fun cdv A outer s H E hr => der_is_between T C_is_whole f cdv A outer s H E hr) pu, hm, F.kp, F.bindsN (ps := ["value", "least", "most"]) fun _ _ _ _ _ _ us hl => match us, hl with | [_, _, _], _ => rfl⟩
/-! ### check_between -/
abbrev N_check_between : List Str := ["value", "least", "most"]
theorem sc_check_between : FnScope N_check_between ["value", "least", "most"] (defScope (top 8)) := ⟨rfl, rfl, rfl, by decide +kernel, rfl, by decide +kernel, by decide +kernel⟩
def ws_check_between : WS := (wIfS (wNot (wTr (wFn 3 wf_is_between (wCons (wVar 0) (wCons (wVar 1) (wCons (wVar 2) wNil)))))) wNever wNext)
theorem der_check_between (T : Tb mg) (C_is_between : Cal P w K mg base 2 "is_between" ["value", "least", "most"] (spP K 3 wf_is_between)) (f : Addr) (cdv : Value) (A : Around) (outer : List Env) (s : Shared) (H : Hp) (E : XK) (hr : Room 2 (A.deeper (envOfC "check_between" (defScope (top 8)) s.heap.objs.size f cdv))) : PSs (cxOf CX0 P w K mg base N_check_between "check_between" (defScope (top 8)) f cdv A outer s H E).nox (defBody (top 8)) (lS K ws_check_between) :=
  (s_one (s_if (t_not (t_tru (c_call C_is_between (hr.mono (by decide)) (a_cons (d_var (pv 0)) (a_cons (d_var (pv 1)) (a_cons (d_var (pv 2)) a_nil)))))) (s_one s_never) s_nil))
theorem ok_check_between (T : Tb mg) (C_is_between : Cal P w K mg base 2 "is_between" ["value", "least", "most"] (spP K 3 wf_is_between)) {f : Addr} {fd : FuncData} (F : FunD K "check_between" "check_between" (defArgs (top 8)) (defBody (top 8)) (defScope (top 8)) [] [] f fd) (hm : mg "check_between" = some (.ref f)) (pu : ∀ ds Q', ds.length = 3 → wf_check_between ds Q' → ws_check_between (edP Q') (enP N_check_between ds)) : Cal P w K mg base 3 "check_between" ["value", "least", "most"] (spP K 3 wf_check_between) :=
  ⟨f, fd, fnP F sc_check_between (fun cdv A outer s H E hr => der_check_between T C_is_between f cdv A outer s H E hr) pu, hm, F.kp, F.bindsN (ps := ["value", "least", "most"]) fun _ _ _ _ _ _ us hl => match us, hl with | [_, _, _], _ => rfl⟩
/-! ### powers_to -/
abbrev N_powers_to : List Str := ["number", "most", "powers", "_"]
theorem sc_powers_to : FnScope N_powers_to ["number", "most"] (defScope (top 10)) := ⟨rfl, rfl, rfl, by decide +kernel, rfl, by decide +kernel, by decide +kernel⟩
def ws_powers_to : WS := (wSeq (wSetOwn 2 (wSz (wCons (wC (.int 1)) wNil))) (wSeq (wFor (wRg1 (wCons (wVar 1) wNil)) (wgN 3) (wApp 2 (wOp dMul (wOpO 2 dIx (wUn dNeg (wC (.int 1)))) (wVar 0)))) (wFrz 2 (wRet (wVar 2)))))
theorem der_powers_to (T : Tb mg)  (f : Addr) (cdv : Value) (A : Around) (outer : List Env) (s : Shared) (H : Hp) (E : XK) (hr : Room 0 (A.deeper (envOfC "powers_to" (defScope (top 10)) s.heap.objs.size f cdv))) : PSs (cxOf CX0 P w K mg base N_powers_to "powers_to" (defScope (top 10)) f cdv A outer s H E).nox (defBody (top 10)) (lS K ws_powers_to) :=
  (s_cons (s_setOwn (i := 2) sc_powers_to.nd rfl (by first | exact Or.inl rfl | exact Or.inr rfl) (l_lst (a_cons d_int a_nil))) (s_cons (s_for PassesOwn.never rfl (i_rng1 T.b_range (a_cons (d_var (pv 1)) a_nil)) (g_name (i := 3) sc_powers_to.nd rfl (by first | exact Or.inl rfl | exact Or.inr rfl)) (s_one (s_app (i := 2) (pv 2) (d_op op_mulD snd_mul (d_ixO (pv 2) (d_un un_neg snd_neg d_int)) (d_var (pv 0))) rfl (pe_bm PySem.F.plainAttrs_list PySem.F.slot_list_append PySem.F.type_list_append mt_append (pv 2) (pa_cons (d_op op_mulD snd_mul (d_ixO (pv 2) (d_un un_neg snd_neg d_int)) (d_var (pv 0))) pa_nil))))) (ss_frz (i := 2) (s_one (s_ret (d_var (pv 2)))))))
theorem ok_powers_to (T : Tb mg)  {f : Addr} {fd : FuncData} (F : FunD K "powers_to" "powers_to" (defArgs (top 10)) (defBody (top 10)) (defScope (top 10)) [] [] f fd) (hm : mg "powers_to" = some (.ref f)) (pu : ∀ ds Q', ds.length = 2 → wf_powers_to ds Q' → ws_powers_to (edP Q') (enP N_powers_to ds)) : Cal P w K mg base 1 "powers_to" ["number", "most"] (spP K 2 wf_powers_to) :=
  ⟨f, fd, fnP F sc_powers_to (fun cdv A outer s H E hr => der_powers_to T  f cdv A outer s H E hr) pu, hm, F.kp, F.bindsN (ps := ["number", "most"]) fun _ _ _ _ _ _ us hl => match us, hl with | [_, _], _ => rfl⟩
/-! ### check_books -/
abbrev N_check_books : List Str := ["books"]
theorem sc_check_books : FnScope N_check_books ["books"] (defScope (top 13)) := ⟨rfl, rfl, rfl, by decide +kernel, rfl, by decide +kernel, by decide +kernel⟩
def ws_check_books : WS := (wDrop (wFn 3 wf_check_between (wCons (wVar 0) (wCons (wC (.int 1)) (wCons (wC (.int 4)) wNil)))))
theorem der_check_books (T : Tb mg) (C_check_between : Cal P w K mg base 3 "check_between" ["value", "least", "most"] (spP K 3 wf_check_between)) (f : Addr) (cdv : Value) (A : Around) (outer : List Env) (s : Shared) (H : Hp) (E : XK) (hr : Room 3 (A.deeper (envOfC "check_books" (defScope (top 13)) s.heap.objs.size f cdv))) : PSs (cxOf CX0 P w K mg base N_check_books "check_books" (defScope (top 13)) f cdv A outer s H E).nox (defBody (top 13)) (lS K ws_check_books) :=
  (s_one (s_expr (c_call C_check_between (hr.mono (by decide)) (a_cons (d_var (pv 0)) (a_cons d_int (a_cons (d_gint T.c_MOST_HELD) a_nil))))))
theorem ok_check_books (T : Tb mg) (C_check_between : Cal P w K mg base 3 "check_between" ["value", "least", "most"] (spP K 3 wf_check_between)) {f : Addr} {fd : FuncData} (F : FunD K "check_books" "check_books" (defArgs (top 13)) (defBody (top 13)) (defScope (top 13)) [] [] f fd) (hm : mg "check_books" = some (.ref f)) (pu : ∀ ds Q', ds.length = 1 → wf_check_books ds Q' → ws_check_books (edP Q') (enP N_check_books ds)) : Cal P w K mg base 4 "check_books" ["books"] (spP K 1 wf_check_books) :=
  ⟨f, fd, fnP F sc_check_books (fun cdv A outer s H E hr => der_check_books T C_check_between f cdv A outer s H E hr) pu, hm, F.kp, F.bindsN (ps := ["books"]) fun _ _ _ _ _ _ us hl => match us, hl with | [_], _ => rfl⟩
/-! ### check_lone -/
abbrev N_check_lone : List Str := ["houses", "books"]
theorem sc_check_lone : FnScope N_check_lone ["houses", "books"] (defScope (top 17)) := ⟨rfl, rfl, rfl, by decide +kernel, rfl, by decide +kernel, by decide +kernel⟩
def ws_check_lone : WS := (wSeq (wDrop (wFn 3 wf_check_between (wCons (wVar 0) (wCons (wC (.int 2)) (wCons (wC (.int 6)) wNil))))) (wDrop (wFn 1 wf_check_books (wCons (wVar 1) wNil))))
theorem der_check_lone (T : Tb mg) (C_check_between : Cal P w K mg base 3 "check_between" ["value", "least", "most"] (spP K 3 wf_check_between)) (C_check_books : Cal P w K mg base 4 "check_books" ["books"] (spP K 1 wf_check_books)) (f : Addr) (cdv : Value) (A : Around) (outer : List Env) (s : Shared) (H : Hp) (E : XK) (hr : Room 4 (A.deeper (envOfC "check_lone" (defScope (top 17)) s.heap.objs.size f cdv))) : PSs (cxOf CX0 P w K mg base N_check_lone "check_lone" (defScope (top 17)) f cdv A outer s H E).nox (defBody (top 17)) (lS K ws_check_lone) :=
  (s_cons (s_expr (c_call C_check_between (hr.mono (by decide)) (a_cons (d_var (pv 0)) (a_cons d_int (a_cons (d_gint T.c_MOST_HOUSES) a_nil))))) (s_one (s_expr (c_call C_check_books (hr.mono (by decide)) (a_cons (d_var (pv 1)) a_nil)))))
theorem ok_check_lone (T : Tb mg) (C_check_between : Cal P w K mg base 3 "check_between" ["value", "least", "most"] (spP K 3 wf_check_between)) (C_check_books : Cal P w K mg base 4 "check_books" ["books"] (spP K 1 wf_check_books)) {f : Addr} {fd : FuncData} (F : FunD K "check_lone" "check_lone" (defArgs (top 17)) (defBody (top 17)) (defScope (top 17)) [] [] f fd) (hm : mg "check_lone" = some (.ref f)) (pu : ∀ ds Q', ds.length = 2 → wf_check_lone ds Q' → ws_check_lone (edP Q') (enP N_check_lone ds)) : Cal P w K mg base 5 "check_lone" ["houses", "books"] (spP K 2 wf_check_lone) :=
  ⟨f, fd, fnP F sc_check_lone (fun cdv A outer s H E hr => der_check_lone T C_check_between C_check_books f cdv A outer s H E hr) pu, hm, F.kp, F.bindsN (ps := ["houses", "books"]) fun _ _ _ _ _ _ us hl => match us, hl with | [_, _], _ => rfl⟩
/-! ### are_numbers -/
abbrev N_are_numbers : List Str := ["houses", "many", "value", "number"]
theorem sc_are_numbers : FnScope N_are_numbers ["houses", "many", "value"] (defScope (top 18)) := ⟨rfl, rfl, rfl, by decide +kernel, rfl, by decide +kernel, by decide +kernel⟩
def ws_are_numbers : WS := (wSeq (wIfS (wOr (wNot (wTr (wIsi "tuple" (wVar 2)))) (wB (wOp dNe (wCl dLen (wCons (wVar 2) wNil)) (wVar 1)))) (wRet (wC (.bool false))) wNext) (wRet (wCl dAll (wCons (wLe (wLc (wSq (wVar 2)) (wgN 3) wYes (wFn 3 wf_is_between (wCons (wVar 3) (wCons (wC (.int 0)) (wCons (wOp dSub (wVar 0) (wC (.int 1))) wNil)))) [3])) wNil))))
theorem der_are_numbers (T : Tb mg) (C_is_between : Cal P w K mg base 2 "is_between" ["value", "least", "most"] (spP K 3 wf_is_between)) (f : Addr) (cdv : Value) (A : Around) (outer : List Env) (s : Shared) (H : Hp) (E : XK) (hr : Room 2 (A.deeper (envOfC "are_numbers" (defScope (top 18)) s.heap.objs.size f cdv))) : PSs (cxOf CX0 P w K mg base N_are_numbers "are_numbers" (defScope (top 18)) f cdv A outer s H E).nox (defBody (top 18)) (lS K ws_are_numbers) :=
  (s_cons (s_if (PW.pt (t_or (t_not (t_tru (d_isi (T' := "tuple") T.b_isinstance T.b_tuple (by decide +kernel) (d_var (pv 2))))) (t_or1 (t_cmp (op_neD hr.units) snd_ne (d_cb call_len snd_len T.b_len (by decide +kernel) (a_cons (d_var (pv 2)) a_nil)) (d_var (pv 1)) (nomark _))))) (s_one (s_ret d_bl)) s_nil) (s_one (s_ret (d_cb (cr_all rfl) snd_all T.b_all (by decide +kernel) (a_cons (d_lL (l_lc (own := [("number", 3)]) rfl sc_are_numbers.nd (i_seq (d_var (pv 2))) (blkOk_by (N := N_are_numbers) (sc := (defScope (top 18))) (by decide +kernel)) (fun _ _ _ _ _ => (g_name (i := 3) sc_are_numbers.nd rfl (by first | exact Or.inl rfl | exact Or.inr rfl))) (fun _ _ _ _ _ => ts_nil) (fun _ _ _ _ _ => (c_call C_is_between (hr.mono (by decide)) (a_cons (d_var (pv 3)) (a_cons d_int (a_cons (d_op op_sub snd_sub (d_var (pv 0)) d_int) a_nil))))))) a_nil)))))
theorem ok_are_numbers (T : Tb mg) (C_is_between : Cal P w K mg base 2 "is_between" ["value", "least", "most"] (spP K 3 wf_is_between)) {f : Addr} {fd : FuncData} (F : FunD K "are_numbers" "are_numbers" (defArgs (top 18)) (defBody (top 18)) (defScope (top 18)) [] [] f fd) (hm : mg "are_numbers" = some (.ref f)) (pu : ∀ ds Q', ds.length = 3 → wf_are_numbers ds Q' → ws_are_numbers (edP Q') (enP N_are_numbers ds)) : Cal P w K mg base 3 "are_numbers" ["houses", "many", "value"] (spP K 3 wf_are_numbers) :=
  ⟨f, fd, fnP F sc_are_numbers (fun cdv A outer s H E hr => der_are_numbers T C_is_between f cdv A outer s H E hr) pu, hm, F.kp, F.bindsN (ps := ["houses", "many", "value"]) fun _ _ _ _ _ _ us hl => match us, hl with | [_, _, _], _ => rfl⟩
/-! ### check_key -/
abbrev N_check_key : List Str := ["houses", "books", "key"]
theorem sc_check_key : FnScope N_check_key ["houses", "books", "key"] (defScope (top 19)) := ⟨rfl, rfl, rfl, by decide +kernel, rfl, by decide +kernel, by decide +kernel⟩
def ws_check_key : WS := (wIfS (wNot (wTr (wFn 3 wf_are_numbers (wCons (wVar 0) (wCons (wOp dSub (wVar 1) (wC (.int 1))) (wCons (wVar 2) wNil)))))) wNever wNext)
theorem der_check_key (T : Tb mg) (C_are_numbers : Cal P w K mg base 3 "are_numbers" ["houses", "many", "value"] (spP K 3 wf_are_numbers)) (f : Addr) (cdv : Value) (A : Around) (outer : List Env) (s : Shared) (H : Hp) (E : XK) (hr : Room 3 (A.deeper (envOfC "check_key" (defScope (top 19)) s.heap.objs.size f cdv))) : PSs (cxOf CX0 P w K mg base N_check_key "check_key" (defScope (top 19)) f cdv A outer s H E).nox (defBody (top 19)) (lS K ws_check_key) :=
  (s_one (s_if (t_not (t_tru (c_call C_are_numbers (hr.mono (by decide)) (a_cons (d_var (pv 0)) (a_cons (d_op op_sub snd_sub (d_var (pv 1)) d_int) (a_cons (d_var (pv 2)) a_nil)))))) (s_one s_never) s_nil))
theorem ok_check_key (T : Tb mg) (C_are_numbers : Cal P w K mg base 3 "are_numbers" ["houses", "many", "value"] (spP K 3 wf_are_numbers)) {f : Addr} {fd : FuncData} (F : FunD K "check_key" "check_key" (defArgs (top 19)) (defBody (top 19)) (defScope (top 19)) [] [] f fd) (hm : mg "check_key" = some (.ref f)) (pu : ∀ ds Q', ds.length = 3 → wf_check_key ds Q' → ws_check_key (edP Q') (enP N_check_key ds)) : Cal P w K mg base 4 "check_key" ["houses", "books", "key"] (spP K 3 wf_check_key) :=
  ⟨f, fd, fnP F sc_check_key (fun cdv A outer s H E hr => der_check_key T C_are_numbers f cdv A outer s H E hr) pu, hm, F.kp, F.bindsN (ps := ["houses", "books", "key"]) fun _ _ _ _ _ _ us hl => match us, hl with | [_, _, _], _ => rfl⟩
/-! ### check_numbers -/
abbrev N_check_numbers : List Str := ["houses", "books", "numbers"]
theorem sc_check_numbers : FnScope N_check_numbers ["houses", "books", "numbers"] (defScope (top 20)) := ⟨rfl, rfl, rfl, by decide +kernel, rfl, by decide +kernel, by decide +kernel⟩
def ws_check_numbers : WS := (wIfS (wNot (wTr (wFn 3 wf_are_numbers (wCons (wVar 0) (wCons (wVar 1) (wCons (wVar 2) wNil)))))) wNever wNext)
theorem der_check_numbers (T : Tb mg) (C_are_numbers : Cal P w K mg base 3 "are_numbers" ["houses", "many", "value"] (spP K 3 wf_are_numbers)) (f : Addr) (cdv : Value) (A : Around) (outer : List Env) (s : Shared) (H : Hp) (E : XK) (hr : Room 3 (A.deeper (envOfC "check_numbers" (defScope (top 20)) s.heap.objs.size f cdv))) : PSs (cxOf CX0 P w K mg base N_check_numbers "check_numbers" (defScope (top 20)) f cdv A outer s H E).nox (defBody (top 20)) (lS K ws_check_numbers) :=
  (s_one (s_if (t_not (t_tru (c_call C_are_numbers (hr.mono (by decide)) (a_cons (d_var (pv 0)) (a_cons (d_var (pv 1)) (a_cons (d_var (pv 2)) a_nil)))))) (s_one s_never) s_nil))
theorem ok_check_numbers (T : Tb mg) (C_are_numbers : Cal P w K mg base 3 "are_numbers" ["houses", "many", "value"] (spP K 3 wf_are_numbers)) {f : Addr} {fd : FuncData} (F : FunD K "check_numbers" "check_numbers" (defArgs (top 20)) (defBody (top 20)) (defScope (top 20)) [] [] f fd) (hm : mg "check_numbers" = some (.ref f)) (pu : ∀ ds Q', ds.length = 3 → wf_check_numbers ds Q' → ws_check_numbers (edP Q') (enP N_check_numbers ds)) : Cal P w K mg base 4 "check_numbers" ["houses", "books", "numbers"] (spP K 3 wf_check_numbers) :=
  ⟨f, fd, fnP F sc_check_numbers (fun cdv A outer s H E hr => der_check_numbers T C_are_numbers f cdv A outer s H E hr) pu, hm, F.kp, F.bindsN (ps := ["houses", "books", "numbers"]) fun _ _ _ _ _ _ us hl => match us, hl with | [_, _, _], _ => rfl⟩
/-! ### check_few_keys -/
abbrev N_check_few_keys : List Str := ["houses", "books"]
theorem sc_check_few_keys : FnScope N_check_few_keys ["houses", "books"] (defScope (top 21)) := ⟨rfl, rfl, rfl, by decide +kernel, rfl, by decide +kernel, by decide +kernel⟩
def ws_check_few_keys : WS := (wIfS (wB (wOp dGt (wOp dIx (wFn 2 wf_powers_to (wCons (wVar 0) (wCons (wOp dSub (wVar 1) (wC (.int 1))) wNil))) (wUn dNeg (wC (.int 1)))) (wC (.int 64)))) wNever wNext)
theorem der_check_few_keys (T : Tb mg) (C_powers_to : Cal P w K mg base 1 "powers_to" ["number", "most"] (spP K 2 wf_powers_to)) (f : Addr) (cdv : Value) (A : Around) (outer : List Env) (s : Shared) (H : Hp) (E : XK) (hr : Room 1 (A.deeper (envOfC "check_few_keys" (defScope (top 21)) s.heap.objs.size f cdv))) : PSs (cxOf CX0 P w K mg base N_check_few_keys "check_few_keys" (defScope (top 21)) f cdv A outer s H E).nox (defBody (top 21)) (lS K ws_check_few_keys) :=
  (s_one (s_if (t_cmp op_gt snd_gt (d_ix (c_call C_powers_to (hr.mono (by decide)) (a_cons (d_var (pv 0)) (a_cons (d_op op_sub snd_sub (d_var (pv 1)) d_int) a_nil))) (d_un un_neg snd_neg d_int)) (d_gint T.c_MOST_COINS) (nomark _)) (s_one s_never) s_nil))
theorem ok_check_few_keys (T : Tb mg) (C_powers_to : Cal P w K mg base 1 "powers_to" ["number", "most"] (spP K 2 wf_powers_to)) {f : Addr} {fd : FuncData} (F : FunD K "check_few_keys" "check_few_keys" (defArgs (top 21)) (defBody (top 21)) (defScope (top 21)) [] [] f fd) (hm : mg "check_few_keys" = some (.ref f)) (pu : ∀ ds Q', ds.length = 2 → wf_check_few_keys ds Q' → ws_check_few_keys (edP Q') (enP N_check_few_keys ds)) : Cal P w K mg base 2 "check_few_keys" ["houses", "books"] (spP K 2 wf_check_few_keys) :=
  ⟨f, fd, fnP F sc_check_few_keys (fun cdv A outer s H E hr => der_check_few_keys T C_powers_to f cdv A outer s H E hr) pu, hm, F.kp, F.bindsN (ps := ["houses", "books"]) fun _ _ _ _ _ _ us hl => match us, hl with | [_, _], _ => rfl⟩
/-! ### all_keys -/
abbrev N_all_keys : List Str := ["houses", "books", "found", "_", "key", "number"]
theorem sc_all_keys : FnScope N_all_keys ["houses", "books"] (defScope (top 22)) := ⟨rfl, rfl, rfl, by decide +kernel, rfl, by decide +kernel, by decide +kernel⟩
def ws_all_keys : WS := (wSeq (wSet 2 (wLe (wSz (wCons (wTup wNil) wNil)))) (wSeq (wFor (wRg1 (wCons (wOp dSub (wVar 1) (wC (.int 1))) wNil)) (wgN 3) (wSet 2 (wLe (wLc2 (wSq (wVar 2)) (wgN 4) wYes (wRg1 (wCons (wVar 0) wNil)) (wgN 5) wYes (wOp dAdd (wVar 4) (wTup (wCons (wVar 5) wNil))) [4, 5] [5])))) (wRet (wCl dTupOf (wCons (wVar 2) wNil)))))
theorem der_all_keys (T : Tb mg)  (f : Addr) (cdv : Value) (A : Around) (outer : List Env) (s : Shared) (H : Hp) (E : XK) (hr : Room 0 (A.deeper (envOfC "all_keys" (defScope (top 22)) s.heap.objs.size f cdv))) : PSs (cxOf CX0 P w K mg base N_all_keys "all_keys" (defScope (top 22)) f cdv A outer s H E).nox (defBody (top 22)) (lS K ws_all_keys) :=
  (s_cons (s_set (i := 2) sc_all_keys.nd rfl (by first | exact Or.inl rfl | exact Or.inr rfl) (d_lL (l_lst (a_cons (d_tup a_nil) a_nil)))) (s_cons (s_for PassesOwn.never rfl (i_rng1 T.b_range (a_cons (d_op op_sub snd_sub (d_var (pv 1)) d_int) a_nil)) (g_name (i := 3) sc_all_keys.nd rfl (by first | exact Or.inl rfl | exact Or.inr rfl)) (s_one (s_lc2 (i := 2) (own := [("key", 4), ("number", 5)]) (vs1 := [5]) rfl sc_all_keys.nd rfl rfl (sw_true rfl rfl rfl (by decide +kernel)) (i_seq (d_var (pv 2))) (blkOk_by (N := N_all_keys) (sc := (defScope (top 22))) (by decide +kernel)) (by decide) (fun _ _ _ _ _ => (g_name (i := 4) sc_all_keys.nd rfl (by first | exact Or.inl rfl | exact Or.inr rfl))) (fun _ _ _ _ _ => ts_nil) (fun _ _ _ _ _ => (i_rng1 T.b_range (a_cons (d_var (pv 0)) a_nil))) (fun _ _ _ _ _ => (g_name (i := 5) sc_all_keys.nd rfl (by first | exact Or.inl rfl | exact Or.inr rfl))) (fun _ _ _ _ _ => ts_nil) (fun _ _ _ _ _ => (d_op op_addD snd_add (d_var (pv 4)) (d_tup (a_cons (d_var (pv 5)) a_nil))))))) (s_one (s_ret (d_cty call_tuple_of snd_tupOf T.b_tuple (by decide +kernel) (a_cons (d_var (pv 2)) a_nil))))))
theorem ok_all_keys (T : Tb mg)  {f : Addr} {fd : FuncData} (F : FunD K "all_keys" "all_keys" (defArgs (top 22)) (defBody (top 22)) (defScope (top 22)) [] [] f fd) (hm : mg "all_keys" = some (.ref f)) (pu : ∀ ds Q', ds.length = 2 → wf_all_keys ds Q' → ws_all_keys (edP Q') (enP N_all_keys ds)) : Cal P w K mg base 1 "all_keys" ["houses", "books"] (spP K 2 wf_all_keys) :=
  ⟨f, fd, fnP F sc_all_keys (fun cdv A outer s H E hr => der_all_keys T  f cdv A outer s H E hr) pu, hm, F.kp, F.bindsN (ps := ["houses", "books"]) fun _ _ _ _ _ _ us hl => match us, hl with | [_, _], _ => rfl⟩
/-! ### numbers_of -/
abbrev N_numbers_of : List Str := ["houses", "wish", "key", "house"]
theorem sc_numbers_of : FnScope N_numbers_of ["houses", "wish", "key", "house"] (defScope (top 23)) := ⟨rfl, rfl, rfl, by decide +kernel, rfl, by decide +kernel, by decide +kernel⟩
def ws_numbers_of : WS := (wRet (wOp dAdd (wOp dAdd (wSl (wVar 2) wNoP (wPart (wVar 1))) (wTup (wCons (wOp dMod (wOp dSub (wVar 3) (wCl dSumA (wCons (wVar 2) wNil))) (wVar 0)) wNil))) (wSl (wVar 2) (wPart (wVar 1)) wNoP)))
theorem der_numbers_of (T : Tb mg)  (f : Addr) (cdv : Value) (A : Around) (outer : List Env) (s : Shared) (H : Hp) (E : XK) (hr : Room 0 (A.deeper (envOfC "numbers_of" (defScope (top 23)) s.heap.objs.size f cdv))) : PSs (cxOf CX0 P w K mg base N_numbers_of "numbers_of" (defScope (top 23)) f cdv A outer s H E).nox (defBody (top 23)) (lS K ws_numbers_of) :=
  (s_one (s_ret (d_op op_addD snd_add (d_op op_addD snd_add (d_sl (d_var (pv 2)) o_none (o_some (d_var (pv 1)))) (d_tup (a_cons (d_op op_mod snd_mod (d_op op_sub snd_sub (d_var (pv 3)) (d_cb (cr_sumA rfl) snd_sumA T.b_sum (by decide +kernel) (a_cons (d_var (pv 2)) a_nil))) (d_var (pv 0))) a_nil))) (d_sl (d_var (pv 2)) (o_some (d_var (pv 1))) o_none))))
theorem ok_numbers_of (T : Tb mg)  {f : Addr} {fd : FuncData} (F : FunD K "numbers_of" "numbers_of" (defArgs (top 23)) (defBody (top 23)) (defScope (top 23)) [] [] f fd) (hm : mg "numbers_of" = some (.ref f)) (pu : ∀ ds Q', ds.length = 4 → wf_numbers_of ds Q' → ws_numbers_of (edP Q') (enP N_numbers_of ds)) : Cal P w K mg base 1 "numbers_of" ["houses", "wish", "key", "house"] (spP K 4 wf_numbers_of) :=
  ⟨f, fd, fnP F sc_numbers_of (fun cdv A outer s H E hr => der_numbers_of T  f cdv A outer s H E hr) pu, hm, F.kp, F.bindsN (ps := ["houses", "wish", "key", "house"]) fun _ _ _ _ _ _ us hl => match us, hl with | [_, _, _, _], _ => rfl⟩
/-! ### keys -/
abbrev N_keys : List Str := ["houses", "books"]
theorem sc_keys : FnScope N_keys ["houses", "books"] (defScope (top 24)) := ⟨rfl, rfl, rfl, by decide +kernel, rfl, by decide +kernel, by decide +kernel⟩
def ws_keys : WS := (wSeq (wDrop (wFn 2 wf_check_lone (wCons (wVar 0) (wCons (wVar 1) wNil)))) (wSeq (wDrop (wFn 2 wf_check_few_keys (wCons (wVar 0) (wCons (wVar 1) wNil)))) (wRet (wFn 2 wf_all_keys (wCons (wVar 0) (wCons (wVar 1) wNil))))))
theorem der_keys (T : Tb mg) (C_check_lone : Cal P w K mg base 5 "check_lone" ["houses", "books"] (spP K 2 wf_check_lone)) (C_check_few_keys : Cal P w K mg base 2 "check_few_keys" ["houses", "books"] (spP K 2 wf_check_few_keys)) (C_all_keys : Cal P w K mg base 1 "all_keys" ["houses", "books"] (spP K 2 wf_all_keys)) (f : Addr) (cdv : Value) (A : Around) (outer : List Env) (s : Shared) (H : Hp) (E : XK) (hr : Room 5 (A.deeper (envOfC "keys" (defScope (top 24)) s.heap.objs.size f cdv))) : PSs (cxOf CX0 P w K mg base N_keys "keys" (defScope (top 24)) f cdv A outer s H E).nox (defBody (top 24)) (lS K ws_keys) :=
  (s_cons (s_expr (c_call C_check_lone (hr.mono (by decide)) (a_cons (d_var (pv 0)) (a_cons (d_var (pv 1)) a_nil)))) (s_cons (s_expr (c_call C_check_few_keys (hr.mono (by decide)) (a_cons (d_var (pv 0)) (a_cons (d_var (pv 1)) a_nil)))) (s_one (s_ret (c_call C_all_keys (hr.mono (by decide)) (a_cons (d_var (pv 0)) (a_cons (d_var (pv 1)) a_nil)))))))
theorem ok_keys (T : Tb mg) (C_check_lone : Cal P w K mg base 5 "check_lone" ["houses", "books"] (spP K 2 wf_check_lone)) (C_check_few_keys : Cal P w K mg base 2 "check_few_keys" ["houses", "books"] (spP K 2 wf_check_few_keys)) (C_all_keys : Cal P w K mg base 1 "all_keys" ["houses", "books"] (spP K 2 wf_all_keys)) {f : Addr} {fd : FuncData} (F : FunD K "keys" "keys" (defArgs (top 24)) (defBody (top 24)) (defScope (top 24)) [] [] f fd) (hm : mg "keys" = some (.ref f)) (pu : ∀ ds Q', ds.length = 2 → wf_keys ds Q' → ws_keys (edP Q') (enP N_keys ds)) : Cal P w K mg base 6 "keys" ["houses", "books"] (spP K 2 wf_keys) :=
  ⟨f, fd, fnP F sc_keys (fun cdv A outer s H E hr => der_keys T C_check_lone C_check_few_keys C_all_keys f cdv A outer s H E hr) pu, hm, F.kp, F.bindsN (ps := ["houses", "books"]) fun _ _ _ _ _ _ us hl => match us, hl with | [_, _], _ => rfl⟩
/-! ### asked_numbers -/
abbrev N_asked_numbers : List Str := ["houses", "books", "wish", "key", "house"]
theorem sc_asked_numbers : FnScope N_asked_numbers ["houses", "books", "wish", "key", "house"] (defScope (top 25)) := ⟨rfl, rfl, rfl, by decide +kernel, rfl, by decide +kernel, by decide +kernel⟩
def ws_asked_numbers : WS := (wSeq (wDrop (wFn 2 wf_check_lone (wCons (wVar 0) (wCons (wVar 1) wNil)))) (wSeq (wDrop (wFn 3 wf_check_between (wCons (wVar 2) (wCons (wC (.int 0)) (wCons (wOp dSub (wVar 1) (wC (.int 1))) wNil))))) (wSeq (wDrop (wFn 3 wf_check_key (wCons (wVar 0) (wCons (wVar 1) (wCons (wVar 3) wNil))))) (wSeq (wDrop (wFn 3 wf_check_between (wCons (wVar 4) (wCons (wC (.int 0)) (wCons (wOp dSub (wVar 0) (wC (.int 1))) wNil))))) (wRet (wFn 4 wf_numbers_of (wCons (wVar 0) (wCons (wVar 2) (wCons (wVar 3) (wCons (wVar 4) wNil))))))))))
theorem der_asked_numbers (T : Tb mg) (C_check_lone : Cal P w K mg base 5 "check_lone" ["houses", "books"] (spP K 2 wf_check_lone)) (C_check_between : Cal P w K mg base 3 "check_between" ["value", "least", "most"] (spP K 3 wf_check_between)) (C_check_key : Cal P w K mg base 4 "check_key" ["houses", "books", "key"] (spP K 3 wf_check_key)) (C_numbers_of : Cal P w K mg base 1 "numbers_of" ["houses", "wish", "key", "house"] (spP K 4 wf_numbers_of)) (f : Addr) (cdv : Value) (A : Around) (outer : List Env) (s : Shared) (H : Hp) (E : XK) (hr : Room 5 (A.deeper (envOfC "asked_numbers" (defScope (top 25)) s.heap.objs.size f cdv))) : PSs (cxOf CX0 P w K mg base N_asked_numbers "asked_numbers" (defScope (top 25)) f cdv A outer s H E).nox (defBody (top 25)) (lS K ws_asked_numbers) :=
  (s_cons (s_expr (c_call C_check_lone (hr.mono (by decide)) (a_cons (d_var (pv 0)) (a_cons (d_var (pv 1)) a_nil)))) (s_cons (s_expr (c_call C_check_between (hr.mono (by decide)) (a_cons (d_var (pv 2)) (a_cons d_int (a_cons (d_op op_sub snd_sub (d_var (pv 1)) d_int) a_nil))))) (s_cons (s_expr (c_call C_check_key (hr.mono (by decide)) (a_cons (d_var (pv 0)) (a_cons (d_var (pv 1)) (a_cons (d_var (pv 3)) a_nil))))) (s_cons (s_expr (c_call C_check_between (hr.mono (by decide)) (a_cons (d_var (pv 4)) (a_cons d_int (a_cons (d_op op_sub snd_sub (d_var (pv 0)) d_int) a_nil))))) (s_one (s_ret (c_call C_numbers_of (hr.mono (by decide)) (a_cons (d_var (pv 0)) (a_cons (d_var (pv 2)) (a_cons (d_var (pv 3)) (a_cons (d_var (pv 4)) a_nil)))))))))))
theorem ok_asked_numbers (T : Tb mg) (C_check_lone : Cal P w K mg base 5 "check_lone" ["houses", "books"] (spP K 2 wf_check_lone)) (C_check_between : Cal P w K mg base 3 "check_between" ["value", "least", "most"] (spP K 3 wf_check_between)) (C_check_key : Cal P w K mg base 4 "check_key" ["houses", "books", "key"] (spP K 3 wf_check_key)) (C_numbers_of : Cal P w K mg base 1 "numbers_of" ["houses", "wish", "key", "house"] (spP K 4 wf_numbers_of)) {f : Addr} {fd : FuncData} (F : FunD K "asked_numbers" "asked_numbers" (defArgs (top 25)) (defBody (top 25)) (defScope (top 25)) [] [] f fd) (hm : mg "asked_numbers" = some (.ref f)) (pu : ∀ ds Q', ds.length = 5 → wf_asked_numbers ds Q' → ws_asked_numbers (edP Q') (enP N_asked_numbers ds)) : Cal P w K mg base 6 "asked_numbers" ["houses", "books", "wish", "key", "house"] (spP K 5 wf_asked_numbers) :=
  ⟨f, fd, fnP F sc_asked_numbers (fun cdv A outer s H E hr => der_asked_numbers T C_check_lone C_check_between C_check_key C_numbers_of f cdv A outer s H E hr) pu, hm, F.kp, F.bindsN (ps := ["houses", "books", "wish", "key", "house"]) fun _ _ _ _ _ _ us hl => match us, hl with | [_, _, _, _, _], _ => rfl⟩
/-! ### key_of -/
abbrev N_key_of : List Str := ["houses", "books", "wish", "house", "numbers"]
theorem sc_key_of : FnScope N_key_of ["houses", "books", "wish", "house", "numbers"] (defScope (top 26)) := ⟨rfl, rfl, rfl, by decide +kernel, rfl, by decide +kernel, by decide +kernel⟩
def ws_key_of : WS := (wSeq (wDrop (wFn 2 wf_check_lone (wCons (wVar 0) (wCons (wVar 1) wNil)))) (wSeq (wDrop (wFn 3 wf_check_between (wCons (wVar 2) (wCons (wC (.int 0)) (wCons (wOp dSub (wVar 1) (wC (.int 1))) wNil))))) (wSeq (wDrop (wFn 3 wf_check_between (wCons (wVar 3) (wCons (wC (.int 0)) (wCons (wOp dSub (wVar 0) (wC (.int 1))) wNil))))) (wSeq (wDrop (wFn 3 wf_check_numbers (wCons (wVar 0) (wCons (wVar 1) (wCons (wVar 4) wNil))))) (wSeq (wIfS (wB (wOp dNe (wOp dMod (wCl dSumA (wCons (wVar 4) wNil)) (wVar 0)) (wVar 3))) (wRet (wC .none)) wNext) (wRet (wOp dAdd (wSl (wVar 4) wNoP (wPart (wVar 2))) (wSl (wVar 4) (wPart (wOp dAdd (wVar 2) (wC (.int 1)))) wNoP))))))))
theorem der_key_of (T : Tb mg) (C_check_lone : Cal P w K mg base 5 "check_lone" ["houses", "books"] (spP K 2 wf_check_lone)) (C_check_between : Cal P w K mg base 3 "check_between" ["value", "least", "most"] (spP K 3 wf_check_between)) (C_check_numbers : Cal P w K mg base 4 "check_numbers" ["houses", "books", "numbers"] (spP K 3 wf_check_numbers)) (f : Addr) (cdv : Value) (A : Around) (outer : List Env) (s : Shared) (H : Hp) (E : XK) (hr : Room 5 (A.deeper (envOfC "key_of" (defScope (top 26)) s.heap.objs.size f cdv))) : PSs (cxOf CX0 P w K mg base N_key_of "key_of" (defScope (top 26)) f cdv A outer s H E).nox (defBody (top 26)) (lS K ws_key_of) :=
  (s_cons (s_expr (c_call C_check_lone (hr.mono (by decide)) (a_cons (d_var (pv 0)) (a_cons (d_var (pv 1)) a_nil)))) (s_cons (s_expr (c_call C_check_between (hr.mono (by decide)) (a_cons (d_var (pv 2)) (a_cons d_int (a_cons (d_op op_sub snd_sub (d_var (pv 1)) d_int) a_nil))))) (s_cons (s_expr (c_call C_check_between (hr.mono (by decide)) (a_cons (d_var (pv 3)) (a_cons d_int (a_cons (d_op op_sub snd_sub (d_var (pv 0)) d_int) a_nil))))) (s_cons (s_expr (c_call C_check_numbers (hr.mono (by decide)) (a_cons (d_var (pv 0)) (a_cons (d_var (pv 1)) (a_cons (d_var (pv 4)) a_nil))))) (s_cons (s_if (t_cmp (op_neD hr.units) snd_ne (d_op op_mod snd_mod (d_cb (cr_sumA rfl) snd_sumA T.b_sum (by decide +kernel) (a_cons (d_var (pv 4)) a_nil)) (d_var (pv 0))) (d_var (pv 3)) (nomark _)) (s_one (s_ret d_non)) s_nil) (s_one (s_ret (d_op op_addD snd_add (d_sl (d_var (pv 4)) o_none (o_some (d_var (pv 2)))) (d_sl (d_var (pv 4)) (o_some (d_op op_addD snd_add (d_var (pv 2)) d_int)) o_none)))))))))
theorem ok_key_of (T : Tb mg) (C_check_lone : Cal P w K mg base 5 "check_lone" ["houses", "books"] (spP K 2 wf_check_lone)) (C_check_between : Cal P w K mg base 3 "check_between" ["value", "least", "most"] (spP K 3 wf_check_between)) (C_check_numbers : Cal P w K mg base 4 "check_numbers" ["houses", "books", "numbers"] (spP K 3 wf_check_numbers)) {f : Addr} {fd : FuncData} (F : FunD K "key_of" "key_of" (defArgs (top 26)) (defBody (top 26)) (defScope (top 26)) [] [] f fd) (hm : mg "key_of" = some (.ref f)) (pu : ∀ ds Q', ds.length = 5 → wf_key_of ds Q' → ws_key_of (edP Q') (enP N_key_of ds)) : Cal P w K mg base 6 "key_of" ["houses", "books", "wish", "house", "numbers"] (spP K 5 wf_key_of) :=
  ⟨f, fd, fnP F sc_key_of (fun cdv A outer s H E hr => der_key_of T C_check_lone C_check_between C_check_numbers f cdv A outer s H E hr) pu, hm, F.kp, F.bindsN (ps := ["houses", "books", "wish", "house", "numbers"]) fun _ _ _ _ _ _ us hl => match us, hl with | [_, _, _, _, _], _ => rfl⟩
/-! ### _law_pour -/
abbrev N__law_pour : List Str := ["jug", "total", "found", "one", "two"]
theorem sc__law_pour : FnScope N__law_pour ["jug", "total"] (defScope (top 28)) := ⟨rfl, rfl, rfl, by decide +kernel, rfl, by decide +kernel, by decide +kernel⟩
def ws__law_pour : WS := (wSeq (wIfS (wB (wOp dGt (wOpO 0 dIx (wC (.int 0))) (wC (.int 0)))) (wSeq (wSet 2 (wOp dMod (wCl dIntOf (wCons (wOpO 0 dIx (wC (.int 0))) wNil)) (wVar 1))) (wSeq (wSetIt 0 (wC (.int 0)) (wOp dFdivG (wOpO 0 dIx (wC (.int 0))) (wVar 1))) (wRet (wVar 2)))) wNext) (wSeq (wSetIt 0 (wC (.int 2)) (wOp dAdd (wOpO 0 dIx (wC (.int 2))) (wC (.int 1)))) (wSeq (wSet 3 (wOp dMod (wCl dIntOf (wCons (wOp dAdd (wOpO 0 dIx (wC (.int 1))) (wOp dMul (wC (.int 49979687)) (wOpO 0 dIx (wC (.int 2))))) wNil)) (wC (.int 2305843009213693951)))) (wSeq (wSet 4 (wOp dAdd (wOp dMul (wOp dMod (wCl dIntOf (wCons (wOp dAdd (wOp dMul (wVar 3) (wVar 3)) (wOp dMul (wC (.int 131)) (wOpO 0 dIx (wC (.int 2))))) wNil)) (wC (.int 2305843009213693921))) (wC (.int 32452843))) (wVar 3))) (wRet (wOp dMod (wCl dIntOf (wCons (wOp dFdivG (wVar 4) (wC (.int 65539))) wNil)) (wVar 1)))))))
theorem der__law_pour (T : Tb mg)  (f : Addr) (cdv : Value) (A : Around) (outer : List Env) (s : Shared) (H : Hp) (E : XK) (hr : Room 0 (A.deeper (envOfC "_law_pour" (defScope (top 28)) s.heap.objs.size f cdv))) : PSs (cxOf CX0 P w K mg base N__law_pour "_law_pour" (defScope (top 28)) f cdv A outer s H E).nox (defBody (top 28)) (lS K ws__law_pour) :=
  (s_cons (s_if (t_cmp op_gt snd_gt (d_ixO (pv 0) d_int) d_int (nomark _)) (s_cons (s_set (i := 2) sc__law_pour.nd rfl (by first | exact Or.inl rfl | exact Or.inr rfl) (d_op op_mod snd_mod (d_cty call_int1 snd_intOf T.b_int (by decide +kernel) (a_cons (d_ixO (pv 0) d_int) a_nil)) (d_var (pv 1)))) (s_cons (s_setIt (i := 0) (ps_asg (d_op op_fdivG snd_fdivG (d_ixO (pv 0) d_int) (d_var (pv 1))) (pg_sub (pv 0) d_int set_list))) (s_one (s_ret (d_var (pv 2)))))) s_nil) (s_cons (s_setIt (i := 0) (ps_asg (d_op op_addD snd_add (d_ixO (pv 0) d_int) d_int) (pg_sub (pv 0) d_int set_list))) (s_cons (s_set (i := 3) sc__law_pour.nd rfl (by first | exact Or.inl rfl | exact Or.inr rfl) (d_op op_mod snd_mod (d_cty call_int1 snd_intOf T.b_int (by decide +kernel) (a_cons (d_op op_addD snd_add (d_ixO (pv 0) d_int) (d_op op_mulD snd_mul d_int (d_ixO (pv 0) d_int))) a_nil)) d_int)) (s_cons (s_set (i := 4) sc__law_pour.nd rfl (by first | exact Or.inl rfl | exact Or.inr rfl) (d_op op_addD snd_add (d_op op_mulD snd_mul (d_op op_mod snd_mod (d_cty call_int1 snd_intOf T.b_int (by decide +kernel) (a_cons (d_op op_addD snd_add (d_op op_mulD snd_mul (d_var (pv 3)) (d_var (pv 3))) (d_op op_mulD snd_mul d_int (d_ixO (pv 0) d_int))) a_nil)) d_int) d_int) (d_var (pv 3)))) (s_one (s_ret (d_op op_mod snd_mod (d_cty call_int1 snd_intOf T.b_int (by decide +kernel) (a_cons (d_op op_fdivG snd_fdivG (d_var (pv 4)) d_int) a_nil)) (d_var (pv 1)))))))))
theorem ok__law_pour (T : Tb mg)  {f : Addr} {fd : FuncData} (F : FunD K "_law_pour" "_law_pour" (defArgs (top 28)) (defBody (top 28)) (defScope (top 28)) [] [] f fd) (hm : mg "_law_pour" = some (.ref f)) (pu : ∀ dj ds Q', ds.length + 1 = 2 → wf__law_pour dj ds Q' → ws__law_pour (edJ Q') (enJ N__law_pour dj ds)) : Cal P w K mg base 1 "_law_pour" ["jug", "total"] (spJ K 2 wf__law_pour) :=
  ⟨f, fd, fnJ F sc__law_pour rfl (fun cdv A outer s H E hr => der__law_pour T  f cdv A outer s H E hr) pu, hm, F.kp, F.bindsN (ps := ["jug", "total"]) fun _ _ _ _ _ _ us hl => match us, hl with | [_, _], _ => rfl⟩
/-! ### _law_sc_pot -/
abbrev N__law_sc_pot : List Str := ["script", "spot", "cell", "great"]
theorem sc__law_sc_pot : FnScope N__law_sc_pot ["script", "spot"] (defScope (top 29)) := ⟨rfl, rfl, rfl, by decide +kernel, rfl, by decide +kernel, by decide +kernel⟩
def ws__law_sc_pot : WS := (wSeq (wSet 2 (wIf (wB (wOp dLt (wVar 1) (wLenS 0))) (wCl dIntOf (wCons (wIxS 0 (wVar 1)) wNil)) (wOp dAdd (wOp dMul (wC (.int 463)) (wVar 1)) (wC (.int 79))))) (wSeq (wSet 3 (wOp dMod (wCl dIntOf (wCons (wCl dAbs (wCons (wVar 2) wNil)) wNil)) (wOp dPow (wOp dPow (wC (.int 10)) (wC (.int 53))) (wC (.int 6))))) (wRet (wLe (wSz (wCons (wCl dMax2 (wCons (wC (.int 0)) (wCons (wOp dSub (wVar 3) (wOp dPow (wC (.int 10)) (wC (.int 16)))) wNil))) (wCons (wOp dAdd (wOp dAdd (wOp dAdd (wOp dMul (wOp dMod (wCl dIntOf (wCons (wVar 3) wNil)) (wC (.int 2305843009213693613))) (wC (.int 89))) (wOp dMul (wC (.int 1019)) (wVar 1))) (wOp dMul (wC (.int 43)) (wCl dIntOf (wCons (wOp dLt (wVar 2) (wC (.int 0))) wNil)))) (wC (.int 31))) (wCons (wC (.int 0)) wNil))))))))
theorem der__law_sc_pot (T : Tb mg)  (f : Addr) (cdv : Value) (A : Around) (outer : List Env) (s : Shared) (H : Hp) (E : XK) (hr : Room 0 (A.deeper (envOfC "_law_sc_pot" (defScope (top 29)) s.heap.objs.size f cdv))) : PSs (cxOf CX0 P w K mg base N__law_sc_pot "_law_sc_pot" (defScope (top 29)) f cdv A outer s H E).nox (defBody (top 29)) (lS K ws__law_sc_pot) :=
  (s_cons (s_set (i := 2) sc__law_sc_pot.nd rfl (by first | exact Or.inl rfl | exact Or.inr rfl) (d_if (t_cmp (op_ltD hr.units0) snd_lt (d_var (pv 1)) (d_lenS (i := 0) T.b_len (pv 0)) (nomark _)) (d_cty call_int1 snd_intOf T.b_int (by decide +kernel) (a_cons (d_ixS (i := 0) (pv 0) (d_var (pv 1))) a_nil)) (d_op op_addD snd_add (d_op op_mulD snd_mul d_int (d_var (pv 1))) d_int))) (s_cons (s_set (i := 3) sc__law_sc_pot.nd rfl (by first | exact Or.inl rfl | exact Or.inr rfl) (d_op op_mod snd_mod (d_cty call_int1 snd_intOf T.b_int (by decide +kernel) (a_cons (d_cb call_abs snd_abs T.b_abs (by decide +kernel) (a_cons (d_var (pv 2)) a_nil)) a_nil)) (d_op op_powW snd_pow (d_op op_powW snd_pow d_int d_int) d_int))) (s_one (s_ret (d_lL (l_lst (a_cons (d_cb (call_max2 rfl) snd_max2 T.b_max (by decide +kernel) (a_cons d_int (a_cons (d_op op_sub snd_sub (d_var (pv 3)) (d_op op_powW snd_pow d_int d_int)) a_nil))) (a_cons (d_op op_addD snd_add (d_op op_addD snd_add (d_op op_addD snd_add (d_op op_mulD snd_mul (d_op op_mod snd_mod (d_cty call_int1 snd_intOf T.b_int (by decide +kernel) (a_cons (d_var (pv 3)) a_nil)) d_int) d_int) (d_op op_mulD snd_mul d_int (d_var (pv 1)))) (d_op op_mulD snd_mul d_int (d_cty call_int1 snd_intOf T.b_int (by decide +kernel) (a_cons (d_cmp (op_ltD hr.units0) snd_lt (d_var (pv 2)) d_int (nomark _)) a_nil)))) d_int) (a_cons d_int a_nil)))))))))
theorem ok__law_sc_pot (T : Tb mg)  {f : Addr} {fd : FuncData} (F : FunD K "_law_sc_pot" "_law_sc_pot" (defArgs (top 29)) (defBody (top 29)) (defScope (top 29)) [] [] f fd) (hm : mg "_law_sc_pot" = some (.ref f)) (pu : ∀ ns ds Q', ds.length + 1 = 2 → wf__law_sc_pot ns ds Q' → ws__law_sc_pot (edP Q') (enS N__law_sc_pot ns ds)) : Cal P w K mg base 1 "_law_sc_pot" ["script", "spot"] (spS K 2 wf__law_sc_pot) :=
  ⟨f, fd, fnS F sc__law_sc_pot rfl (fun cdv A outer s H E hr => der__law_sc_pot T  f cdv A outer s H E hr) pu, hm, F.kp, F.bindsN (ps := ["script", "spot"]) fun _ _ _ _ _ _ us hl => match us, hl with | [_, _], _ => rfl⟩
/-! ### _law_all -/
abbrev N__law_all : List Str := ["most", "many", "found", "turn", "longer", "one", "number"]
theorem sc__law_all : FnScope N__law_all ["most", "many"] (defScope (top 30)) := ⟨rfl, rfl, rfl, by decide +kernel, rfl, by decide +kernel, by decide +kernel⟩
def ws__law_all : WS := (wSeq (wSet 2 (wLe (wSz (wCons (wTup wNil) wNil)))) (wSeq (wFor (wRg1 (wCons (wVar 1) wNil)) (wgN 3) (wSeq (wSetOwn 4 (wSz wNil)) (wSeq (wFor (wSq (wVar 2)) (wgN 5) (wExt 4 (wLe (wLc (wRg1 (wCons (wVar 0) wNil)) (wgN 6) wYes (wOp dAdd (wVar 5) (wTup (wCons (wVar 6) wNil))) [6])))) (wFrz 4 (wSet 2 (wVar 4)))))) (wRet (wVar 2))))
theorem der__law_all (T : Tb mg)  (f : Addr) (cdv : Value) (A : Around) (outer : List Env) (s : Shared) (H : Hp) (E : XK) (hr : Room 0 (A.deeper (envOfC "_law_all" (defScope (top 30)) s.heap.objs.size f cdv))) : PSs (cxOf CX0 P w K mg base N__law_all "_law_all" (defScope (top 30)) f cdv A outer s H E).nox (defBody (top 30)) (lS K ws__law_all) :=
  (s_cons (s_set (i := 2) sc__law_all.nd rfl (by first | exact Or.inl rfl | exact Or.inr rfl) (d_lL (l_lst (a_cons (d_tup a_nil) a_nil)))) (s_cons (s_for PassesOwn.never rfl (i_rng1 T.b_range (a_cons (d_var (pv 1)) a_nil)) (g_name (i := 3) sc__law_all.nd rfl (by first | exact Or.inl rfl | exact Or.inr rfl)) (s_cons (s_setOwn (i := 4) sc__law_all.nd rfl (by first | exact Or.inl rfl | exact Or.inr rfl) (l_lst a_nil)) (s_cons (s_for PassesOwn.never rfl (i_seq (d_var (pv 2))) (g_name (i := 5) sc__law_all.nd rfl (by first | exact Or.inl rfl | exact Or.inr rfl)) (s_one (s_ext (i := 4) (pe_bm PySem.F.plainAttrs_list PySem.F.slot_list_extend PySem.F.type_list_extend mt_extend (pv 4) (pa_cons (d_lL (l_lc (own := [("number", 6)]) rfl sc__law_all.nd (i_rng1 T.b_range (a_cons (d_var (pv 0)) a_nil)) (blkOk_by (N := N__law_all) (sc := (defScope (top 30))) (by decide +kernel)) (fun _ _ _ _ _ => (g_name (i := 6) sc__law_all.nd rfl (by first | exact Or.inl rfl | exact Or.inr rfl))) (fun _ _ _ _ _ => ts_nil) (fun _ _ _ _ _ => (d_op op_addD snd_add (d_var (pv 5)) (d_tup (a_cons (d_var (pv 6)) a_nil)))))) pa_nil))))) (ss_frz (i := 4) (s_one (s_set (i := 2) sc__law_all.nd rfl (by first | exact Or.inl rfl | exact Or.inr rfl) (d_var (pv 4)))))))) (s_one (s_ret (d_var (pv 2))))))
theorem ok__law_all (T : Tb mg)  {f : Addr} {fd : FuncData} (F : FunD K "_law_all" "_law_all" (defArgs (top 30)) (defBody (top 30)) (defScope (top 30)) [] [] f fd) (hm : mg "_law_all" = some (.ref f)) (pu : ∀ ds Q', ds.length = 2 → wf__law_all ds Q' → ws__law_all (edP Q') (enP N__law_all ds)) : Cal P w K mg base 1 "_law_all" ["most", "many"] (spP K 2 wf__law_all) :=
  ⟨f, fd, fnP F sc__law_all (fun cdv A outer s H E hr => der__law_all T  f cdv A outer s H E hr) pu, hm, F.kp, F.bindsN (ps := ["most", "many"]) fun _ _ _ _ _ _ us hl => match us, hl with | [_, _], _ => rfl⟩
/-! ### _law_numbers -/
abbrev N__law_numbers : List Str := ["houses", "wish", "key", "house"]
theorem sc__law_numbers : FnScope N__law_numbers ["houses", "wish", "key", "house"] (defScope (top 31)) := ⟨rfl, rfl, rfl, by decide +kernel, rfl, by decide +kernel, by decide +kernel⟩
def ws__law_numbers : WS := (wRet (wOp dAdd (wOp dAdd (wSl (wVar 2) wNoP (wPart (wVar 1))) (wTup (wCons (wOp dMod (wOp dSub (wVar 3) (wCl dSumA (wCons (wVar 2) wNil))) (wVar 0)) wNil))) (wSl (wVar 2) (wPart (wVar 1)) wNoP)))
theorem der__law_numbers (T : Tb mg)  (f : Addr) (cdv : Value) (A : Around) (outer : List Env) (s : Shared) (H : Hp) (E : XK) (hr : Room 0 (A.deeper (envOfC "_law_numbers" (defScope (top 31)) s.heap.objs.size f cdv))) : PSs (cxOf CX0 P w K mg base N__law_numbers "_law_numbers" (defScope (top 31)) f cdv A outer s H E).nox (defBody (top 31)) (lS K ws__law_numbers) :=
  (s_one (s_ret (d_op op_addD snd_add (d_op op_addD snd_add (d_sl (d_var (pv 2)) o_none (o_some (d_var (pv 1)))) (d_tup (a_cons (d_op op_mod snd_mod (d_op op_sub snd_sub (d_var (pv 3)) (d_cb (cr_sumA rfl) snd_sumA T.b_sum (by decide +kernel) (a_cons (d_var (pv 2)) a_nil))) (d_var (pv 0))) a_nil))) (d_sl (d_var (pv 2)) (o_some (d_var (pv 1))) o_none))))
theorem ok__law_numbers (T : Tb mg)  {f : Addr} {fd : FuncData} (F : FunD K "_law_numbers" "_law_numbers" (defArgs (top 31)) (defBody (top 31)) (defScope (top 31)) [] [] f fd) (hm : mg "_law_numbers" = some (.ref f)) (pu : ∀ ds Q', ds.length = 4 → wf__law_numbers ds Q' → ws__law_numbers (edP Q') (enP N__law_numbers ds)) : Cal P w K mg base 1 "_law_numbers" ["houses", "wish", "key", "house"] (spP K 4 wf__law_numbers) :=
  ⟨f, fd, fnP F sc__law_numbers (fun cdv A outer s H E hr => der__law_numbers T  f cdv A outer s H E hr) pu, hm, F.kp, F.bindsN (ps := ["houses", "wish", "key", "house"]) fun _ _ _ _ _ _ us hl => match us, hl with | [_, _, _, _], _ => rfl⟩
/-! ### _law_is_key_right -/
abbrev N__law_is_key_right : List Str := ["houses", "books", "key", "wish", "house", "due"]
theorem sc__law_is_key_right : FnScope N__law_is_key_right ["houses", "books", "key"] (defScope (top 32)) := ⟨rfl, rfl, rfl, by decide +kernel, rfl, by decide +kernel, by decide +kernel⟩
def ws__law_is_key_right : WS := (wSeq (wFor (wRg1 (wCons (wVar 1) wNil)) (wgN 3) (wFor (wRg1 (wCons (wVar 0) wNil)) (wgN 4) (wSeq (wSet 5 (wFn 4 wf__law_numbers (wCons (wVar 0) (wCons (wVar 3) (wCons (wVar 2) (wCons (wVar 4) wNil)))))) (wSeq (wIfS (wOr (wB (wOp dNe (wFn 5 wf_asked_numbers (wCons (wVar 0) (wCons (wVar 1) (wCons (wVar 3) (wCons (wVar 2) (wCons (wVar 4) wNil)))))) (wVar 5))) (wB (wOp dNe (wOp dMod (wCl dSumA (wCons (wVar 5) wNil)) (wVar 0)) (wVar 4)))) (wRet (wC (.bool false))) wNext) (wIfS (wB (wOp dNe (wFn 5 wf_key_of (wCons (wVar 0) (wCons (wVar 1) (wCons (wVar 3) (wCons (wVar 4) (wCons (wVar 5) wNil)))))) (wVar 2))) (wRet (wC (.bool false))) wNext))))) (wRet (wC (.bool true))))
theorem der__law_is_key_right (T : Tb mg) (C__law_numbers : Cal P w K mg base 1 "_law_numbers" ["houses", "wish", "key", "house"] (spP K 4 wf__law_numbers)) (C_asked_numbers : Cal P w K mg base 6 "asked_numbers" ["houses", "books", "wish", "key", "house"] (spP K 5 wf_asked_numbers)) (C_key_of : Cal P w K mg base 6 "key_of" ["houses", "books", "wish", "house", "numbers"] (spP K 5 wf_key_of)) (f : Addr) (cdv : Value) (A : Around) (outer : List Env) (s : Shared) (H : Hp) (E : XK) (hr : Room 6 (A.deeper (envOfC "_law_is_key_right" (defScope (top 32)) s.heap.objs.size f cdv))) : PSs (cxOf CX0 P w K mg base N__law_is_key_right "_law_is_key_right" (defScope (top 32)) f cdv A outer s H E).nox (defBody (top 32)) (lS K ws__law_is_key_right) :=
  (s_cons (s_for PassesOwn.never rfl (i_rng1 T.b_range (a_cons (d_var (pv 1)) a_nil)) (g_name (i := 3) sc__law_is_key_right.nd rfl (by first | exact Or.inl rfl | exact Or.inr rfl)) (s_one (s_for PassesOwn.never rfl (i_rng1 T.b_range (a_cons (d_var (pv 0)) a_nil)) (g_name (i := 4) sc__law_is_key_right.nd rfl (by first | exact Or.inl rfl | exact Or.inr rfl)) (s_cons (s_set (i := 5) sc__law_is_key_right.nd rfl (by first | exact Or.inl rfl | exact Or.inr rfl) (c_call C__law_numbers (hr.mono (by decide)) (a_cons (d_var (pv 0)) (a_cons (d_var (pv 3)) (a_cons (d_var (pv 2)) (a_cons (d_var (pv 4)) a_nil)))))) (s_cons (s_if (PW.pt (t_or (t_cmp (op_neD hr.units) snd_ne (c_call C_asked_numbers (hr.mono (by decide)) (a_cons (d_var (pv 0)) (a_cons (d_var (pv 1)) (a_cons (d_var (pv 3)) (a_cons (d_var (pv 2)) (a_cons (d_var (pv 4)) a_nil)))))) (d_var (pv 5)) (nomark _)) (t_or1 (t_cmp (op_neD hr.units) snd_ne (d_op op_mod snd_mod (d_cb (cr_sumA rfl) snd_sumA T.b_sum (by decide +kernel) (a_cons (d_var (pv 5)) a_nil)) (d_var (pv 0))) (d_var (pv 4)) (nomark _))))) (s_one (s_ret d_bl)) s_nil) (s_one (s_if (t_cmp (op_neD hr.units) snd_ne (c_call C_key_of (hr.mono (by decide)) (a_cons (d_var (pv 0)) (a_cons (d_var (pv 1)) (a_cons (d_var (pv 3)) (a_cons (d_var (pv 4)) (a_cons (d_var (pv 5)) a_nil)))))) (d_var (pv 2)) (nomark _)) (s_one (s_ret d_bl)) s_nil))))))) (s_one (s_ret d_bl)))
theorem ok__law_is_key_right (T : Tb mg) (C__law_numbers : Cal P w K mg base 1 "_law_numbers" ["houses", "wish", "key", "house"] (spP K 4 wf__law_numbers)) (C_asked_numbers : Cal P w K mg base 6 "asked_numbers" ["houses", "books", "wish", "key", "house"] (spP K 5 wf_asked_numbers)) (C_key_of : Cal P w K mg base 6 "key_of" ["houses", "books", "wish", "house", "numbers"] (spP K 5 wf_key_of)) {f : Addr} {fd : FuncData} (F : FunD K "_law_is_key_right" "_law_is_key_right" (defArgs (top 32)) (defBody (top 32)) (defScope (top 32)) [] [] f fd) (hm : mg "_law_is_key_right" = some (.ref f)) (pu : ∀ ds Q', ds.length = 3 → wf__law_is_key_right ds Q' → ws__law_is_key_right (edP Q') (enP N__law_is_key_right ds)) : Cal P w K mg base 7 "_law_is_key_right" ["houses", "books", "key"] (spP K 3 wf__law_is_key_right) :=
  ⟨f, fd, fnP F sc__law_is_key_right (fun cdv A outer s H E hr => der__law_is_key_right T C__law_numbers C_asked_numbers C_key_of f cdv A outer s H E hr) pu, hm, F.kp, F.bindsN (ps := ["houses", "books", "key"]) fun _ _ _ _ _ _ us hl => match us, hl with | [_, _, _], _ => rfl⟩
/-! ### _law_right -/
abbrev N__law_right : List Str := ["pot", "houses", "books", "few", "turn", "some", "key", "numbers", "house", "wish", "due", "book"]
theorem sc__law_right : FnScope N__law_right ["pot"] (defScope (top 33)) := ⟨rfl, rfl, rfl, by decide +kernel, rfl, by decide +kernel, by decide +kernel⟩
def ws__law_right : WS := (wSeq (wAsgT (wTup (wCons (wOp dAdd (wC (.int 2)) (wFnJ 0 2 wf__law_pour (wCons (wC (.int 5)) wNil))) (wCons (wOp dAdd (wC (.int 1)) (wFnJ 0 2 wf__law_pour (wCons (wC (.int 4)) wNil))) wNil))) (wgT 2 (wgCons (wgN 1) (wgCons (wgN 2) wgNil)))) (wSeq (wSet 3 (wC (.int 1))) (wSeq (wFor (wRg1 (wCons (wOp dSub (wVar 2) (wC (.int 1))) wNil)) (wgN 4) (wSet 3 (wOp dMul (wVar 3) (wVar 1)))) (wSeq (wSet 5 (wIf (wB (wOp dLe (wVar 3) (wC (.int 64)))) (wFn 2 wf__law_all (wCons (wVar 1) (wCons (wOp dSub (wVar 2) (wC (.int 1))) wNil))) (wLe (wSz wNil)))) (wSeq (wIfS (wAnd (wB (wOp dLe (wVar 3) (wC (.int 64)))) (wB (wOp dNe (wFn 2 wf_keys (wCons (wVar 1) (wCons (wVar 2) wNil))) (wCl dTupOf (wCons (wVar 5) wNil))))) (wRet (wC (.bool false))) wNext) (wSeq (wFor (wRg1 (wCons (wC (.int 6)) wNil)) (wgN 4) (wSeq (wSet 6 (wCl dTupOf (wCons (wLe (wLc (wRg1 (wCons (wOp dSub (wVar 2) (wC (.int 1))) wNil)) (wgN 11) wYes (wFnJ 0 2 wf__law_pour (wCons (wVar 1) wNil)) [11])) wNil))) (wSeq (wIfS (wNot (wTr (wFn 3 wf__law_is_key_right (wCons (wVar 1) (wCons (wVar 2) (wCons (wVar 6) wNil)))))) (wRet (wC (.bool false))) wNext) (wSeq (wPar 7 8 (wCl dTupOf (wCons (wLe (wLc (wRg1 (wCons (wVar 2) wNil)) (wgN 11) wYes (wFnJ 0 2 wf__law_pour (wCons (wVar 1) wNil)) [11])) wNil)) (wFnJ 0 2 wf__law_pour (wCons (wVar 1) wNil))) (wSeq (wSet 9 (wFnJ 0 2 wf__law_pour (wCons (wVar 2) wNil))) (wSeq (wSet 10 (wIf (wB (wOp dEq (wOp dMod (wCl dSumA (wCons (wVar 7) wNil)) (wVar 1)) (wVar 8))) (wOp dAdd (wSl (wVar 7) wNoP (wPart (wVar 9))) (wSl (wVar 7) (wPart (wOp dAdd (wVar 9) (wC (.int 1)))) wNoP)) (wC .none))) (wIfS (wB (wOp dNe (wFn 5 wf_key_of (wCons (wVar 1) (wCons (wVar 2) (wCons (wVar 9) (wCons (wVar 8) (wCons (wVar 7) wNil)))))) (wVar 10))) (wRet (wC (.bool false))) wNext))))))) (wRet (wC (.bool true)))))))))
theorem der__law_right (T : Tb mg) (C__law_pour : Cal P w K mg base 1 "_law_pour" ["jug", "total"] (spJ K 2 wf__law_pour)) (C__law_all : Cal P w K mg base 1 "_law_all" ["most", "many"] (spP K 2 wf__law_all)) (C_keys : Cal P w K mg base 6 "keys" ["houses", "books"] (spP K 2 wf_keys)) (C__law_is_key_right : Cal P w K mg base 7 "_law_is_key_right" ["houses", "books", "key"] (spP K 3 wf__law_is_key_right)) (C_key_of : Cal P w K mg base 6 "key_of" ["houses", "books", "wish", "house", "numbers"] (spP K 5 wf_key_of)) (f : Addr) (cdv : Value) (A : Around) (outer : List Env) (s : Shared) (H : Hp) (E : XK) (hr : Room 7 (A.deeper (envOfC "_law_right" (defScope (top 33)) s.heap.objs.size f cdv))) : PSs (cxOf CX0 P w K mg base N__law_right "_law_right" (defScope (top 33)) f cdv A outer s H E).nox (defBody (top 33)) (lS K ws__law_right) :=
  (s_cons (s_asgT (ps_asg (d_tup (a_cons (d_op op_addD snd_add d_int (c_callJ (i := 0) C__law_pour (hr.mono (by decide)) (pv 0) (a_cons d_int a_nil))) (a_cons (d_op op_addD snd_add d_int (c_callJ (i := 0) C__law_pour (hr.mono (by decide)) (pv 0) (a_cons d_int a_nil))) a_nil))) (g_tup (n := 2) rfl (gs_cons (g_name (i := 1) sc__law_right.nd rfl (by first | exact Or.inl rfl | exact Or.inr rfl)) (gs_cons (g_name (i := 2) sc__law_right.nd rfl (by first | exact Or.inl rfl | exact Or.inr rfl)) gs_nil)) (pg_tup rfl (gs_cons (g_name (i := 1) sc__law_right.nd rfl (by first | exact Or.inl rfl | exact Or.inr rfl)) (gs_cons (g_name (i := 2) sc__law_right.nd rfl (by first | exact Or.inl rfl | exact Or.inr rfl)) gs_nil)))))) (s_cons (s_set (i := 3) sc__law_right.nd rfl (by first | exact Or.inl rfl | exact Or.inr rfl) d_int) (s_cons (s_for PassesOwn.never rfl (i_rng1 T.b_range (a_cons (d_op op_sub snd_sub (d_var (pv 2)) d_int) a_nil)) (g_name (i := 4) sc__law_right.nd rfl (by first | exact Or.inl rfl | exact Or.inr rfl)) (s_one (s_set (i := 3) sc__law_right.nd rfl (by first | exact Or.inl rfl | exact Or.inr rfl) (d_op op_mulD snd_mul (d_var (pv 3)) (d_var (pv 1)))))) (s_cons (s_set (i := 5) sc__law_right.nd rfl (by first | exact Or.inl rfl | exact Or.inr rfl) (d_if (t_cmp op_le snd_le (d_var (pv 3)) d_int (nomark _)) (c_call C__law_all (hr.mono (by decide)) (a_cons (d_var (pv 1)) (a_cons (d_op op_sub snd_sub (d_var (pv 2)) d_int) a_nil))) (d_lL (l_lst a_nil)))) (s_cons (s_if (PW.pt (t_and (t_cmp op_le snd_le (d_var (pv 3)) d_int (nomark _)) (t_and1 (t_cmp (op_neD hr.units) snd_ne (c_call C_keys (hr.mono (by decide)) (a_cons (d_var (pv 1)) (a_cons (d_var (pv 2)) a_nil))) (d_cty call_tuple_of snd_tupOf T.b_tuple (by decide +kernel) (a_cons (d_var (pv 5)) a_nil)) (nomark _))))) (s_one (s_ret d_bl)) s_nil) (s_cons (s_for PassesOwn.never rfl (i_rng1 T.b_range (a_cons d_int a_nil)) (g_name (i := 4) sc__law_right.nd rfl (by first | exact Or.inl rfl | exact Or.inr rfl)) (s_cons (s_set (i := 6) sc__law_right.nd rfl (by first | exact Or.inl rfl | exact Or.inr rfl) (d_cty call_tuple_of snd_tupOf T.b_tuple (by decide +kernel) (a_cons (d_lL (l_lc (own := [("book", 11)]) rfl sc__law_right.nd (i_rng1 T.b_range (a_cons (d_op op_sub snd_sub (d_var (pv 2)) d_int) a_nil)) (blkOk_by (N := N__law_right) (sc := (defScope (top 33))) (by decide +kernel)) (fun _ _ _ _ _ => (g_name (i := 11) sc__law_right.nd rfl (by first | exact Or.inl rfl | exact Or.inr rfl))) (fun _ _ _ _ _ => ts_nil) (fun _ _ _ _ _ => (c_callJ (i := 0) C__law_pour (hr.mono (by decide)) (pv 0) (a_cons (d_var (pv 1)) a_nil))))) a_nil))) (s_cons (s_if (t_not (t_tru (c_call C__law_is_key_right (hr.mono (by decide)) (a_cons (d_var (pv 1)) (a_cons (d_var (pv 2)) (a_cons (d_var (pv 6)) a_nil)))))) (s_one (s_ret d_bl)) s_nil) (s_cons (s_par (ps_par (i := 7) (j := 8) rfl sc__law_right.nd rfl rfl (by decide) rfl rfl (pa_cons (d_cty call_tuple_of snd_tupOf T.b_tuple (by decide +kernel) (a_cons (d_lL (l_lc (own := [("book", 11)]) rfl sc__law_right.nd (i_rng1 T.b_range (a_cons (d_var (pv 2)) a_nil)) (blkOk_by (N := N__law_right) (sc := (defScope (top 33))) (by decide +kernel)) (fun _ _ _ _ _ => (g_name (i := 11) sc__law_right.nd rfl (by first | exact Or.inl rfl | exact Or.inr rfl))) (fun _ _ _ _ _ => ts_nil) (fun _ _ _ _ _ => (c_callJ (i := 0) C__law_pour (hr.mono (by decide)) (pv 0) (a_cons (d_var (pv 1)) a_nil))))) a_nil)) (pa_cons (c_callJ (i := 0) C__law_pour (hr.mono (by decide)) (pv 0) (a_cons (d_var (pv 1)) a_nil)) pa_nil)) (by rfl))) (s_cons (s_set (i := 9) sc__law_right.nd rfl (by first | exact Or.inl rfl | exact Or.inr rfl) (c_callJ (i := 0) C__law_pour (hr.mono (by decide)) (pv 0) (a_cons (d_var (pv 2)) a_nil))) (s_cons (s_set (i := 10) sc__law_right.nd rfl (by first | exact Or.inl rfl | exact Or.inr rfl) (d_if (t_cmp (op_eqD hr.units) snd_eq (d_op op_mod snd_mod (d_cb (cr_sumA rfl) snd_sumA T.b_sum (by decide +kernel) (a_cons (d_var (pv 7)) a_nil)) (d_var (pv 1))) (d_var (pv 8)) (nomark _)) (d_op op_addD snd_add (d_sl (d_var (pv 7)) o_none (o_some (d_var (pv 9)))) (d_sl (d_var (pv 7)) (o_some (d_op op_addD snd_add (d_var (pv 9)) d_int)) o_none)) d_non)) (s_one (s_if (t_cmp (op_neD hr.units) snd_ne (c_call C_key_of (hr.mono (by decide)) (a_cons (d_var (pv 1)) (a_cons (d_var (pv 2)) (a_cons (d_var (pv 9)) (a_cons (d_var (pv 8)) (a_cons (d_var (pv 7)) a_nil)))))) (d_var (pv 10)) (nomark _)) (s_one (s_ret d_bl)) s_nil)))))))) (s_one (s_ret d_bl))))))))
theorem ok__law_right (T : Tb mg) (C__law_pour : Cal P w K mg base 1 "_law_pour" ["jug", "total"] (spJ K 2 wf__law_pour)) (C__law_all : Cal P w K mg base 1 "_law_all" ["most", "many"] (spP K 2 wf__law_all)) (C_keys : Cal P w K mg base 6 "keys" ["houses", "books"] (spP K 2 wf_keys)) (C__law_is_key_right : Cal P w K mg base 7 "_law_is_key_right" ["houses", "books", "key"] (spP K 3 wf__law_is_key_right)) (C_key_of : Cal P w K mg base 6 "key_of" ["houses", "books", "wish", "house", "numbers"] (spP K 5 wf_key_of)) {f : Addr} {fd : FuncData} (F : FunD K "_law_right" "_law_right" (defArgs (top 33)) (defBody (top 33)) (defScope (top 33)) [] [] f fd) (hm : mg "_law_right" = some (.ref f)) (pu : ∀ dj ds Q', ds.length + 1 = 1 → wf__law_right dj ds Q' → ws__law_right (edJ Q') (enJ N__law_right dj ds)) : Cal P w K mg base 8 "_law_right" ["pot"] (spJ K 1 wf__law_right) :=
  ⟨f, fd, fnJ F sc__law_right rfl (fun cdv A outer s H E hr => der__law_right T C__law_pour C__law_all C_keys C__law_is_key_right C_key_of f cdv A outer s H E hr) pu, hm, F.kp, F.bindsN (ps := ["pot"]) fun _ _ _ _ _ _ us hl => match us, hl with | [_], _ => rfl⟩
/-! ### _law_is_whole -/
abbrev N__law_is_whole : List Str := ["houses", "books", "wish", "house", "told", "key", "one"]
theorem sc__law_is_whole : FnScope N__law_is_whole ["houses", "books"] (defScope (top 34)) := ⟨rfl, rfl, rfl, by decide +kernel, rfl, by decide +kernel, by decide +kernel⟩
def ws__law_is_whole : WS := (wSeq (wFor (wRg1 (wCons (wVar 1) wNil)) (wgN 2) (wFor (wRg1 (wCons (wVar 0) wNil)) (wgN 3) (wSeq (wSet 4 (wLe (wSortA (wLe (wLc (wSq (wFn 2 wf_keys (wCons (wVar 0) (wCons (wVar 1) wNil)))) (wgN 5) wYes (wFn 5 wf_asked_numbers (wCons (wVar 0) (wCons (wVar 1) (wCons (wVar 2) (wCons (wVar 5) (wCons (wVar 3) wNil)))))) [5]))))) (wIfS (wB (wOp dNe (wVar 4) (wLe (wLc (wSq (wFn 2 wf__law_all (wCons (wVar 0) (wCons (wVar 1) wNil)))) (wgN 6) (wB (wOp dEq (wOp dMod (wCl dSumA (wCons (wVar 6) wNil)) (wVar 0)) (wVar 3))) (wVar 6) [6])))) (wRet (wC (.bool false))) wNext)))) (wRet (wC (.bool true))))
theorem der__law_is_whole (T : Tb mg) (C_keys : Cal P w K mg base 6 "keys" ["houses", "books"] (spP K 2 wf_keys)) (C_asked_numbers : Cal P w K mg base 6 "asked_numbers" ["houses", "books", "wish", "key", "house"] (spP K 5 wf_asked_numbers)) (C__law_all : Cal P w K mg base 1 "_law_all" ["most", "many"] (spP K 2 wf__law_all)) (f : Addr) (cdv : Value) (A : Around) (outer : List Env) (s : Shared) (H : Hp) (E : XK) (hr : Room 6 (A.deeper (envOfC "_law_is_whole" (defScope (top 34)) s.heap.objs.size f cdv))) : PSs (cxOf CX0 P w K mg base N__law_is_whole "_law_is_whole" (defScope (top 34)) f cdv A outer s H E).nox (defBody (top 34)) (lS K ws__law_is_whole) :=
  (s_cons (s_for PassesOwn.never rfl (i_rng1 T.b_range (a_cons (d_var (pv 1)) a_nil)) (g_name (i := 2) sc__law_is_whole.nd rfl (by first | exact Or.inl rfl | exact Or.inr rfl)) (s_one (s_for PassesOwn.never rfl (i_rng1 T.b_range (a_cons (d_var (pv 0)) a_nil)) (g_name (i := 3) sc__law_is_whole.nd rfl (by first | exact Or.inl rfl | exact Or.inr rfl)) (s_cons (s_set (i := 4) sc__law_is_whole.nd rfl (by first | exact Or.inl rfl | exact Or.inr rfl) (d_lL (l_sortA hr.units T.b_sorted (d_lL (l_lc (own := [("key", 5)]) rfl sc__law_is_whole.nd (i_seq (c_call C_keys (hr.mono (by decide)) (a_cons (d_var (pv 0)) (a_cons (d_var (pv 1)) a_nil)))) (blkOk_by (N := N__law_is_whole) (sc := (defScope (top 34))) (by decide +kernel)) (fun _ _ _ _ _ => (g_name (i := 5) sc__law_is_whole.nd rfl (by first | exact Or.inl rfl | exact Or.inr rfl))) (fun _ _ _ _ _ => ts_nil) (fun _ _ _ _ _ => (c_call C_asked_numbers (hr.mono (by decide)) (a_cons (d_var (pv 0)) (a_cons (d_var (pv 1)) (a_cons (d_var (pv 2)) (a_cons (d_var (pv 5)) (a_cons (d_var (pv 3)) a_nil)))))))))))) (s_one (s_if (t_cmp (op_neD hr.units) snd_ne (d_var (pv 4)) (d_lL (l_lc (own := [("one", 6)]) rfl sc__law_is_whole.nd (i_seq (c_call C__law_all (hr.mono (by decide)) (a_cons (d_var (pv 0)) (a_cons (d_var (pv 1)) a_nil)))) (blkOk_by (N := N__law_is_whole) (sc := (defScope (top 34))) (by decide +kernel)) (fun _ _ _ _ _ => (g_name (i := 6) sc__law_is_whole.nd rfl (by first | exact Or.inl rfl | exact Or.inr rfl))) (fun _ _ _ _ _ => (ts_one (t_cmp (op_eqD hr.units) snd_eq (d_op op_mod snd_mod (d_cb (cr_sumA rfl) snd_sumA T.b_sum (by decide +kernel) (a_cons (d_var (pv 6)) a_nil)) (d_var (pv 0))) (d_var (pv 3)) (nomark _)))) (fun _ _ _ _ _ => (d_var (pv 6))))) (nomark _)) (s_one (s_ret d_bl)) s_nil)))))) (s_one (s_ret d_bl)))
theorem ok__law_is_whole (T : Tb mg) (C_keys : Cal P w K mg base 6 "keys" ["houses", "books"] (spP K 2 wf_keys)) (C_asked_numbers : Cal P w K mg base 6 "asked_numbers" ["houses", "books", "wish", "key", "house"] (spP K 5 wf_asked_numbers)) (C__law_all : Cal P w K mg base 1 "_law_all" ["most", "many"] (spP K 2 wf__law_all)) {f : Addr} {fd : FuncData} (F : FunD K "_law_is_whole" "_law_is_whole" (defArgs (top 34)) (defBody (top 34)) (defScope (top 34)) [] [] f fd) (hm : mg "_law_is_whole" = some (.ref f)) (pu : ∀ ds Q', ds.length = 2 → wf__law_is_whole ds Q' → ws__law_is_whole (edP Q') (enP N__law_is_whole ds)) : Cal P w K mg base 7 "_law_is_whole" ["houses", "books"] (spP K 2 wf__law_is_whole) :=
  ⟨f, fd, fnP F sc__law_is_whole (fun cdv A outer s H E hr => der__law_is_whole T C_keys C_asked_numbers C__law_all f cdv A outer s H E hr) pu, hm, F.kp, F.bindsN (ps := ["houses", "books"]) fun _ _ _ _ _ _ us hl => match us, hl with | [_, _], _ => rfl⟩
/-! ### law -/
abbrev N_law : List Str := ["script", "spot", "pot", "turn", "told"]
theorem sc_law : FnScope N_law ["script"] (defScope (top 35)) := ⟨rfl, rfl, rfl, by decide +kernel, rfl, by decide +kernel, by decide +kernel⟩
def ws_law : WS := (wSeq (wFor (wRg1 (wCons (wCl dMax2 (wCons (wC (.int 1)) (wCons (wCl dMin2 (wCons (wC (.int 3)) (wCons (wLenS 0) wNil))) wNil))) wNil)) (wgN 1) (wSeq (wSetOwn 2 (wFnS 0 2 wf__law_sc_pot (wCons (wVar 1) wNil))) (wSeq (wFor (wRg1 (wCons (wC (.int 3)) wNil)) (wgN 3) (wIfS (wNot (wTr (wFnJ 2 1 wf__law_right wNil))) (wRet (wC (.bool false))) wNext)) (wIfS (wNot (wTr (wFn 2 wf__law_is_whole (wCons (wOp dAdd (wC (.int 2)) (wFnJ 2 2 wf__law_pour (wCons (wC (.int 3)) wNil))) (wCons (wOp dAdd (wC (.int 1)) (wFnJ 2 2 wf__law_pour (wCons (wC (.int 3)) wNil))) wNil))))) (wRet (wC (.bool false))) wNext)))) (wSeq (wIfS (wB (wOp dNe (wLe (wSz (wCons (wFn 2 wf_keys (wCons (wC (.int 3)) (wCons (wC (.int 2)) wNil))) (wCons (wFn 2 wf_keys (wCons (wC (.int 6)) (wCons (wC (.int 1)) wNil))) (wCons (wFn 5 wf_asked_numbers (wCons (wC (.int 3)) (wCons (wC (.int 3)) (wCons (wC (.int 1)) (wCons (wTup (wCons (wC (.int 2)) (wCons (wC (.int 1)) wNil))) (wCons (wC (.int 0)) wNil)))))) wNil))))) (wLe (wSz (wCons (wTup (wCons (wTup (wCons (wC (.int 0)) wNil)) (wCons (wTup (wCons (wC (.int 1)) wNil)) (wCons (wTup (wCons (wC (.int 2)) wNil)) wNil)))) (wCons (wTup (wCons (wTup wNil) wNil)) (wCons (wTup (wCons (wC (.int 2)) (wCons (wC (.int 0)) (wCons (wC (.int 1)) wNil)))) wNil))))))) (wRet (wC (.bool false))) wNext) (wSeq (wSet 4 (wLe (wSz (wCons (wFn 5 wf_key_of (wCons (wC (.int 3)) (wCons (wC (.int 3)) (wCons (wC (.int 1)) (wCons (wC (.int 0)) (wCons (wTup (wCons (wC (.int 2)) (wCons (wC (.int 0)) (wCons (wC (.int 1)) wNil)))) wNil)))))) (wCons (wFn 5 wf_key_of (wCons (wC (.int 3)) (wCons (wC (.int 3)) (wCons (wC (.int 1)) (wCons (wC (.int 1)) (wCons (wTup (wCons (wC (.int 2)) (wCons (wC (.int 0)) (wCons (wC (.int 1)) wNil)))) wNil)))))) wNil))))) (wSeq (wSet 4 (wOp dAdd (wVar 4) (wLe (wSz (wCons (wFn 5 wf_key_of (wCons (wC (.int 5)) (wCons (wC (.int 1)) (wCons (wC (.int 0)) (wCons (wC (.int 4)) (wCons (wTup (wCons (wC (.int 4)) wNil)) wNil)))))) (wCons (wFn 5 wf_key_of (wCons (wC (.int 5)) (wCons (wC (.int 1)) (wCons (wC (.int 0)) (wCons (wC (.int 3)) (wCons (wTup (wCons (wC (.int 4)) wNil)) wNil)))))) wNil)))))) (wRet (wAndV (wOp dEq (wVar 4) (wLe (wSz (wCons (wTup (wCons (wC (.int 2)) (wCons (wC (.int 1)) wNil))) (wCons (wC .none) (wCons (wTup wNil) (wCons (wC .none) wNil))))))) (wOp dEq (wCl dLen (wCons (wFn 2 wf_keys (wCons (wC (.int 4)) (wCons (wC (.int 4)) wNil))) wNil)) (wC (.int 64)))))))))
theorem der_law (T : Tb mg) (C__law_sc_pot : Cal P w K mg base 1 "_law_sc_pot" ["script", "spot"] (spS K 2 wf__law_sc_pot)) (C__law_right : Cal P w K mg base 8 "_law_right" ["pot"] (spJ K 1 wf__law_right)) (C__law_is_whole : Cal P w K mg base 7 "_law_is_whole" ["houses", "books"] (spP K 2 wf__law_is_whole)) (C__law_pour : Cal P w K mg base 1 "_law_pour" ["jug", "total"] (spJ K 2 wf__law_pour)) (C_asked_numbers : Cal P w K mg base 6 "asked_numbers" ["houses", "books", "wish", "key", "house"] (spP K 5 wf_asked_numbers)) (C_keys : Cal P w K mg base 6 "keys" ["houses", "books"] (spP K 2 wf_keys)) (C_key_of : Cal P w K mg base 6 "key_of" ["houses", "books", "wish", "house", "numbers"] (spP K 5 wf_key_of)) (f : Addr) (cdv : Value) (A : Around) (outer : List Env) (s : Shared) (H : Hp) (E : XK) (hr : Room 8 (A.deeper (envOfC "law" (defScope (top 35)) s.heap.objs.size f cdv))) : PSs (cxOf CX0 P w K mg base N_law "law" (defScope (top 35)) f cdv A outer s H E).nox (defBody (top 35)) (lS K ws_law) :=
  (s_cons (s_for PassesOwn.never rfl (i_rng1 T.b_range (a_cons (d_cb (call_max2 rfl) snd_max2 T.b_max (by decide +kernel) (a_cons d_int (a_cons (d_cb (call_min2 rfl) snd_min2 T.b_min (by decide +kernel) (a_cons d_int (a_cons (d_lenS (i := 0) T.b_len (pv 0)) a_nil))) a_nil))) a_nil)) (g_name (i := 1) sc_law.nd rfl (by first | exact Or.inl rfl | exact Or.inr rfl)) (s_cons (s_setOwn (i := 2) sc_law.nd rfl (by first | exact Or.inl rfl | exact Or.inr rfl) (c_callS (i := 0) C__law_sc_pot (hr.mono (by decide)) (pv 0) (a_cons (d_var (pv 1)) a_nil))) (s_cons (s_for PassesOwn.never rfl (i_rng1 T.b_range (a_cons d_int a_nil)) (g_name (i := 3) sc_law.nd rfl (by first | exact Or.inl rfl | exact Or.inr rfl)) (s_one (s_if (t_not (t_tru (c_callJ (i := 2) C__law_right (hr.mono (by decide)) (pv 2) a_nil))) (s_one (s_ret d_bl)) s_nil))) (s_one (s_if (t_not (t_tru (c_call C__law_is_whole (hr.mono (by decide)) (a_cons (d_op op_addD snd_add d_int (c_callJ (i := 2) C__law_pour (hr.mono (by decide)) (pv 2) (a_cons d_int a_nil))) (a_cons (d_op op_addD snd_add d_int (c_callJ (i := 2) C__law_pour (hr.mono (by decide)) (pv 2) (a_cons d_int a_nil))) a_nil))))) (s_one (s_ret d_bl)) s_nil))))) (s_cons (s_if (t_cmp (op_neD hr.units) snd_ne (d_lL (l_lst (a_cons (c_call C_keys (hr.mono (by decide)) (a_cons d_int (a_cons d_int a_nil))) (a_cons (c_call C_keys (hr.mono (by decide)) (a_cons d_int (a_cons d_int a_nil))) (a_cons (c_call C_asked_numbers (hr.mono (by decide)) (a_cons d_int (a_cons d_int (a_cons d_int (a_cons (d_tup (a_cons d_int (a_cons d_int a_nil))) (a_cons d_int a_nil)))))) a_nil))))) (d_lL (l_lst (a_cons (d_tup (a_cons (d_tup (a_cons d_int a_nil)) (a_cons (d_tup (a_cons d_int a_nil)) (a_cons (d_tup (a_cons d_int a_nil)) a_nil)))) (a_cons (d_tup (a_cons (d_tup a_nil) a_nil)) (a_cons (d_tup (a_cons d_int (a_cons d_int (a_cons d_int a_nil)))) a_nil))))) (nomark _)) (s_one (s_ret d_bl)) s_nil) (s_cons (s_set (i := 4) sc_law.nd rfl (by first | exact Or.inl rfl | exact Or.inr rfl) (d_lL (l_lst (a_cons (c_call C_key_of (hr.mono (by decide)) (a_cons d_int (a_cons d_int (a_cons d_int (a_cons d_int (a_cons (d_tup (a_cons d_int (a_cons d_int (a_cons d_int a_nil)))) a_nil)))))) (a_cons (c_call C_key_of (hr.mono (by decide)) (a_cons d_int (a_cons d_int (a_cons d_int (a_cons d_int (a_cons (d_tup (a_cons d_int (a_cons d_int (a_cons d_int a_nil)))) a_nil)))))) a_nil))))) (s_cons (s_set (i := 4) sc_law.nd rfl (by first | exact Or.inl rfl | exact Or.inr rfl) (d_op op_addD snd_add (d_var (pv 4)) (d_lL (l_lst (a_cons (c_call C_key_of (hr.mono (by decide)) (a_cons d_int (a_cons d_int (a_cons d_int (a_cons d_int (a_cons (d_tup (a_cons d_int a_nil)) a_nil)))))) (a_cons (c_call C_key_of (hr.mono (by decide)) (a_cons d_int (a_cons d_int (a_cons d_int (a_cons d_int (a_cons (d_tup (a_cons d_int a_nil)) a_nil)))))) a_nil)))))) (s_one (s_ret (d_and (d_cmp (op_eqD hr.units) snd_eq (d_var (pv 4)) (d_lL (l_lst (a_cons (d_tup (a_cons d_int (a_cons d_int a_nil))) (a_cons d_non (a_cons (d_tup a_nil) (a_cons d_non a_nil)))))) (nomark _)) (d_one (d_cmp (op_eqD hr.units) snd_eq (d_cb call_len snd_len T.b_len (by decide +kernel) (a_cons (c_call C_keys (hr.mono (by decide)) (a_cons d_int (a_cons d_int a_nil))) a_nil)) d_int (nomark _))))))))))
theorem ok_law (T : Tb mg) (C__law_sc_pot : Cal P w K mg base 1 "_law_sc_pot" ["script", "spot"] (spS K 2 wf__law_sc_pot)) (C__law_right : Cal P w K mg base 8 "_law_right" ["pot"] (spJ K 1 wf__law_right)) (C__law_is_whole : Cal P w K mg base 7 "_law_is_whole" ["houses", "books"] (spP K 2 wf__law_is_whole)) (C__law_pour : Cal P w K mg base 1 "_law_pour" ["jug", "total"] (spJ K 2 wf__law_pour)) (C_asked_numbers : Cal P w K mg base 6 "asked_numbers" ["houses", "books", "wish", "key", "house"] (spP K 5 wf_asked_numbers)) (C_keys : Cal P w K mg base 6 "keys" ["houses", "books"] (spP K 2 wf_keys)) (C_key_of : Cal P w K mg base 6 "key_of" ["houses", "books", "wish", "house", "numbers"] (spP K 5 wf_key_of)) {f : Addr} {fd : FuncData} (F : FunD K "law" "law" (defArgs (top 35)) (defBody (top 35)) (defScope (top 35)) [] [] f fd) (hm : mg "law" = some (.ref f)) (pu : ∀ ns ds Q', ds.length + 1 = 1 → wf_law ns ds Q' → ws_law (edP Q') (enS N_law ns ds)) : Cal P w K mg base 9 "law" ["script"] (spS K 1 wf_law) :=
  ⟨f, fd, fnS F sc_law rfl (fun cdv A outer s H E hr => der_law T C__law_sc_pot C__law_right C__law_is_whole C__law_pour C_asked_numbers C_keys C_key_of f cdv A outer s H E hr) pu, hm, F.kp, F.bindsN (ps := ["script"]) fun _ _ _ _ _ _ us hl => match us, hl with | [_], _ => rfl⟩
end
end K60

set_option Elab.async false
set_option linter.all false
set_option maxRecDepth 100000
set_option maxHeartbeats 4000000
namespace K60
open PySem PySem.Spec PyProof.Rows L2 Pd
theorem btw_int {i a b : Int} : isBtw (.int i) a b = (decide (a ≤ i) && decide (i ≤ b)) := rfl
theorem pu_is_whole (ds Q) (hl : ds.length = 1) (h : wf_is_whole ds Q) : ws_is_whole (edP Q) (enP N_is_whole ds) := by
  obtain ⟨d, rfl, q⟩ := h
  cases d <;> exact ⟨_, rfl, _, rfl, _, rfl, by first | exact ⟨_, rfl, _, rfl, _, rfl, q⟩ | exact q⟩
theorem pu_is_between (ds Q) (hl : ds.length = 3) (h : wf_is_between ds Q) : ws_is_between (edP Q) (enP N_is_between ds) := by
  obtain ⟨d, a, b, rfl, q⟩ := h
  simp only [ws_is_between, N_is_between, wf_is_whole, wf_is_between, wVar, wC, wOp, wUn, wCl, wB, wTr, wAnd, wOr, wNot, wAndV, wOrV, wNotV, wIf, wCh, wNil, wCons, wTup, wLe, wSz, wFn, wFnJ, wFnB, wFnJB, wBNil, wBCons, wBOwn, rsvP, rsvJ, wNext, wSeq, wRet, wRetN, wDrop, wIfS, wSet, wSetOwn, wNever, wAug, wOpO, wOpR, wClO, wApp, wSetIt, wFrz, wFor, wRg1, wRg2, wSq, wEnum, wZip, wZipM, wgN, wgT, wgNil, wgCons, wYes, wAsgT, wgLs, wLenS, wIxS, wFnS, wIsi, wListOf, wRev, edP, edJ, enP, enJ, enS, NotOwn, Flat, List.map_cons, List.map_nil, List.length_cons, List.length_nil, List.replicate_succ, List.replicate_zero, List.cons_append, List.nil_append, List.append_nil, List.set_cons_zero, List.set_cons_succ, List.getElem?_cons_zero, List.getElem?_cons_succ, Nat.reduceAdd, Nat.reduceSub, Option.some.injEq, Sl.imm.injEq, Sl.own.injEq, Sl.scr.injEq, exists_eq_left, exists_eq_left', exists_eq_right, exists_eq, exists_eq', exists_and_left, and_assoc, and_true, true_and, ne_eq, not_false_eq_true, Nat.succ_ne_zero, or_true, true_or, true_implies, forall_eq', forall_eq, PyData.int.injEq, PyData.bool.injEq, PyData.list.injEq, PyData.tuple.injEq, List.cons.injEq, i_add, i_iadd, i_sub, i_mul, i_mod, i_fdiv, i_fdivG, i_pow, i_neg, i_le, i_ge, i_gt, i_lt, i_eq, i_ne, i_intI, i_intB, i_abs, i_max, i_min, i_lenL, i_lenT, i_ixL, i_ixT, i_tupL, i_tupT, i_truB, Bool.not_true, Bool.not_false, Bool.false_eq_true, if_true, if_false, reduceIte]
  cases d with
  | int i =>
    rw [btw_int] at q
    simp only [isW, if_true, wVar, wC, wOp, wUn, wCl, wB, wTr, wAnd, wOr, wNot, wAndV, wOrV, wNotV, wIf, wCh, wNil, wCons, wTup, wLe, wSz, wFn, wFnJ, wFnB, wFnJB, wBNil, wBCons, wBOwn, rsvP, rsvJ, wNext, wSeq, wRet, wRetN, wDrop, wIfS, wSet, wSetOwn, wNever, wAug, wOpO, wOpR, wClO, wApp, wSetIt, wFrz, wFor, wRg1, wRg2, wSq, wEnum, wZip, wZipM, wgN, wgT, wgNil, wgCons, wYes, wAsgT, wgLs, wLenS, wIxS, wFnS, wIsi, wListOf, wRev, edP, edJ, enP, enJ, enS, NotOwn, Flat, List.map_cons, List.map_nil, List.length_cons, List.length_nil, List.replicate_succ, List.replicate_zero, List.cons_append, List.nil_append, List.append_nil, List.set_cons_zero, List.set_cons_succ, List.getElem?_cons_zero, List.getElem?_cons_succ, Nat.reduceAdd, Nat.reduceSub, Option.some.injEq, Sl.imm.injEq, Sl.own.injEq, Sl.scr.injEq, exists_eq_left, exists_eq_left', exists_eq_right, exists_eq, exists_eq', exists_and_left, and_assoc, and_true, true_and, ne_eq, not_false_eq_true, Nat.succ_ne_zero, or_true, true_or, true_implies, forall_eq', forall_eq, PyData.int.injEq, PyData.bool.injEq, PyData.list.injEq, PyData.tuple.injEq, List.cons.injEq, i_add, i_iadd, i_sub, i_mul, i_mod, i_fdiv, i_fdivG, i_pow, i_neg, i_le, i_ge, i_gt, i_lt, i_eq, i_ne, i_intI, i_intB, i_abs, i_max, i_min, i_lenL, i_lenT, i_ixL, i_ixT, i_tupL, i_tupT, i_truB, Bool.not_true, Bool.not_false, Bool.false_eq_true, if_true, if_false, reduceIte]
    by_cases h : a ≤ i
    · rw [decide_eq_true h] at q ⊢; exact q
    · rw [decide_eq_false h] at q ⊢; exact q
  | _ => exact q
theorem pu__law_pour (dj ds Q) (hl : ds.length + 1 = 2) (h : wf__law_pour dj ds Q) : ws__law_pour (edJ Q) (enJ N__law_pour dj ds) := by
  obtain ⟨g, m, c, t, rfl, rfl, ht, ht2, q⟩ := h
  simp only [ws__law_pour, N__law_pour, at0, at1, at2, ix30, ix32, wVar, wC, wOp, wUn, wCl, wB, wTr, wAnd, wOr, wNot, wAndV, wOrV, wNotV, wIf, wCh, wNil, wCons, wTup, wLe, wSz, wFn, wFnJ, wFnB, wFnJB, wBNil, wBCons, wBOwn, rsvP, rsvJ, wNext, wSeq, wRet, wRetN, wDrop, wIfS, wSet, wSetOwn, wNever, wAug, wOpO, wOpR, wClO, wApp, wSetIt, wFrz, wFor, wRg1, wRg2, wSq, wEnum, wZip, wZipM, wgN, wgT, wgNil, wgCons, wYes, wAsgT, wgLs, wLenS, wIxS, wFnS, wIsi, wListOf, wRev, edP, edJ, enP, enJ, enS, NotOwn, Flat, List.map_cons, List.map_nil, List.length_cons, List.length_nil, List.replicate_succ, List.replicate_zero, List.cons_append, List.nil_append, List.append_nil, List.set_cons_zero, List.set_cons_succ, List.getElem?_cons_zero, List.getElem?_cons_succ, Nat.reduceAdd, Nat.reduceSub, Option.some.injEq, Sl.imm.injEq, Sl.own.injEq, Sl.scr.injEq, exists_eq_left, exists_eq_left', exists_eq_right, exists_eq, exists_eq', exists_and_left, and_assoc, and_true, true_and, ne_eq, not_false_eq_true, Nat.succ_ne_zero, or_true, true_or, true_implies, forall_eq', forall_eq, PyData.int.injEq, PyData.bool.injEq, PyData.list.injEq, PyData.tuple.injEq, List.cons.injEq, i_add, i_iadd, i_sub, i_mul, i_mod, i_fdiv, i_fdivG, i_pow, i_neg, i_le, i_ge, i_gt, i_lt, i_eq, i_ne, i_intI, i_intB, i_abs, i_max, i_min, i_lenL, i_lenT, i_ixL, i_ixT, i_tupL, i_tupT, i_truB, Bool.not_true, Bool.not_false, Bool.false_eq_true, if_true, if_false, reduceIte]
  by_cases h : 0 < g
  · rw [if_pos (by simpa using h)]
    exact ⟨ht, divG ht ht2, q _ _ _ _ (Int.emod_nonneg _ (by omega)) (Int.emod_lt_of_pos _ ht)⟩
  · rw [if_neg (by simpa using h)]
    have b1 : ∀ x : Int, 0 ≤ x % 2305843009213693951 ∧ x % 2305843009213693951 < 2305843009213693951 := fun x => by omega
    exact ⟨small_l (by decide) (by decide), by decide, small_l (by have := b1 (m + 49979687 * (c + 1)); omega) (by have := b1 (m + 49979687 * (c + 1)); omega), small_l (by decide) (by decide), by decide, small_r (by decide) (by decide),
      divG (by decide) (log_lt (by decide) (by decide)), ht, q _ _ _ _ (Int.emod_nonneg _ (by omega)) (Int.emod_lt_of_pos _ ht)⟩
theorem kit_tup (xs : List D) : kitB (tyName (.tuple xs)) "tuple" = some true := rfl
theorem sl200 {n : Nat} (h : n ≤ 200) : n ≤ sizeLine := Nat.le_trans h (by decide)
theorem btw_ints {lo hi : Int} {ns : List Int} (h : ∀ k ∈ ns, lo ≤ k ∧ k ≤ hi) : (ns.map PyData.int).all (fun x => isBtw x lo hi) = true := by
  rw [List.all_map, List.all_eq_true]
  intro k hk
  show (decide (lo ≤ k) && decide (k ≤ hi)) = true
  rw [decide_eq_true (h k hk).1, decide_eq_true (h k hk).2]; rfl
theorem pu__law_sc_pot (ns ds Q) (hl : ds.length + 1 = 2) (h : wf__law_sc_pot ns ds Q) : ws__law_sc_pot (edP Q) (enS N__law_sc_pot ns ds) := by
  obtain ⟨s, rfl, q⟩ := h
  simp only [ws__law_sc_pot, N__law_sc_pot, wVar, wC, wOp, wUn, wCl, wB, wTr, wAnd, wOr, wNot, wAndV, wOrV, wNotV, wIf, wCh, wNil, wCons, wTup, wLe, wSz, wFn, wFnJ, wFnB, wFnJB, wBNil, wBCons, wBOwn, rsvP, rsvJ, wNext, wSeq, wRet, wRetN, wDrop, wIfS, wSet, wSetOwn, wNever, wAug, wOpO, wOpR, wClO, wApp, wSetIt, wFrz, wFor, wRg1, wRg2, wSq, wEnum, wZip, wZipM, wgN, wgT, wgNil, wgCons, wYes, wAsgT, wgLs, wLenS, wIxS, wFnS, wIsi, wListOf, wRev, edP, edJ, enP, enJ, enS, NotOwn, Flat, List.map_cons, List.map_nil, List.length_cons, List.length_nil, List.replicate_succ, List.replicate_zero, List.cons_append, List.nil_append, List.append_nil, List.set_cons_zero, List.set_cons_succ, List.getElem?_cons_zero, List.getElem?_cons_succ, Nat.reduceAdd, Nat.reduceSub, Option.some.injEq, Sl.imm.injEq, Sl.own.injEq, Sl.scr.injEq, exists_eq_left, exists_eq_left', exists_eq_right, exists_eq, exists_eq', exists_and_left, and_assoc, and_true, true_and, ne_eq, not_false_eq_true, Nat.succ_ne_zero, or_true, true_or, true_implies, forall_eq', forall_eq, PyData.int.injEq, PyData.bool.injEq, PyData.list.injEq, PyData.tuple.injEq, List.cons.injEq, i_add, i_iadd, i_sub, i_mul, i_mod, i_fdiv, i_fdivG, i_pow, i_neg, i_le, i_ge, i_gt, i_lt, i_eq, i_ne, i_intI, i_intB, i_abs, i_max, i_min, i_lenL, i_lenT, i_ixL, i_ixT, i_tupL, i_tupT, i_truB, Bool.not_true, Bool.not_false, Bool.false_eq_true, if_true, if_false, reduceIte]
  by_cases h : (s : Int) < (ns.length : Nat)
  · rw [if_pos (by simpa using h)]
    refine ⟨_, at_nat (by omega), pow_ok (by decide +kernel), pow_ok (by decide +kernel), by decide +kernel, pow_ok (by decide +kernel), by decide, small_r (by decide) (by decide), small_l (by decide) (by decide), small_l (by decide) (by decide), by decide, q _ _ _⟩
  · rw [if_neg (by simpa using h)]
    refine ⟨small_l (by decide) (by decide), pow_ok (by decide +kernel), pow_ok (by decide +kernel), by decide +kernel, pow_ok (by decide +kernel), by decide, small_r (by decide) (by decide), small_l (by decide) (by decide), small_l (by decide) (by decide), by decide, q _ _ _⟩
theorem pu_check_between (ds Q) (hl : ds.length = 3) (h : wf_check_between ds Q) : ws_check_between (edP Q) (enP N_check_between ds) := by
  obtain ⟨v, a, b, rfl, h1, h2, q⟩ := h
  have e : isBtw (.int v) a b = true := by
    rw [btw_int, decide_eq_true h1, decide_eq_true h2]; rfl
  simp only [ws_check_between, N_check_between, wf_is_between, e, wVar, wC, wOp, wUn, wCl, wB, wTr, wAnd, wOr, wNot, wAndV, wOrV, wNotV, wIf, wCh, wNil, wCons, wTup, wLe, wSz, wFn, wFnJ, wFnB, wFnJB, wBNil, wBCons, wBOwn, rsvP, rsvJ, wNext, wSeq, wRet, wRetN, wDrop, wIfS, wSet, wSetOwn, wNever, wAug, wOpO, wOpR, wClO, wApp, wSetIt, wFrz, wFor, wRg1, wRg2, wSq, wEnum, wZip, wZipM, wgN, wgT, wgNil, wgCons, wYes, wAsgT, wgLs, wLenS, wIxS, wFnS, wIsi, wListOf, wRev, edP, edJ, enP, enJ, enS, NotOwn, Flat, List.map_cons, List.map_nil, List.length_cons, List.length_nil, List.replicate_succ, List.replicate_zero, List.cons_append, List.nil_append, List.append_nil, List.set_cons_zero, List.set_cons_succ, List.getElem?_cons_zero, List.getElem?_cons_succ, Nat.reduceAdd, Nat.reduceSub, Option.some.injEq, Sl.imm.injEq, Sl.own.injEq, Sl.scr.injEq, exists_eq_left, exists_eq_left', exists_eq_right, exists_eq, exists_eq', exists_and_left, and_assoc, and_true, true_and, ne_eq, not_false_eq_true, Nat.succ_ne_zero, or_true, true_or, true_implies, forall_eq', forall_eq, PyData.int.injEq, PyData.bool.injEq, PyData.list.injEq, PyData.tuple.injEq, List.cons.injEq, i_add, i_iadd, i_sub, i_mul, i_mod, i_fdiv, i_fdivG, i_pow, i_neg, i_le, i_ge, i_gt, i_lt, i_eq, i_ne, i_intI, i_intB, i_abs, i_max, i_min, i_lenL, i_lenT, i_ixL, i_ixT, i_tupL, i_tupT, i_truB, Bool.not_true, Bool.not_false, Bool.false_eq_true, if_true, if_false, reduceIte]
  exact q
theorem pu_check_books (ds Q) (hl : ds.length = 1) (h : wf_check_books ds Q) : ws_check_books (edP Q) (enP N_check_books ds) := by
  obtain ⟨k, rfl, hk, q⟩ := h
  simp only [ws_check_books, N_check_books, wf_check_between, wVar, wC, wOp, wUn, wCl, wB, wTr, wAnd, wOr, wNot, wAndV, wOrV, wNotV, wIf, wCh, wNil, wCons, wTup, wLe, wSz, wFn, wFnJ, wFnB, wFnJB, wBNil, wBCons, wBOwn, rsvP, rsvJ, wNext, wSeq, wRet, wRetN, wDrop, wIfS, wSet, wSetOwn, wNever, wAug, wOpO, wOpR, wClO, wApp, wSetIt, wFrz, wFor, wRg1, wRg2, wSq, wEnum, wZip, wZipM, wgN, wgT, wgNil, wgCons, wYes, wAsgT, wgLs, wLenS, wIxS, wFnS, wIsi, wListOf, wRev, edP, edJ, enP, enJ, enS, NotOwn, Flat, List.map_cons, List.map_nil, List.length_cons, List.length_nil, List.replicate_succ, List.replicate_zero, List.cons_append, List.nil_append, List.append_nil, List.set_cons_zero, List.set_cons_succ, List.getElem?_cons_zero, List.getElem?_cons_succ, Nat.reduceAdd, Nat.reduceSub, Option.some.injEq, Sl.imm.injEq, Sl.own.injEq, Sl.scr.injEq, exists_eq_left, exists_eq_left', exists_eq_right, exists_eq, exists_eq', exists_and_left, and_assoc, and_true, true_and, ne_eq, not_false_eq_true, Nat.succ_ne_zero, or_true, true_or, true_implies, forall_eq', forall_eq, PyData.int.injEq, PyData.bool.injEq, PyData.list.injEq, PyData.tuple.injEq, List.cons.injEq, i_add, i_iadd, i_sub, i_mul, i_mod, i_fdiv, i_fdivG, i_pow, i_neg, i_le, i_ge, i_gt, i_lt, i_eq, i_ne, i_intI, i_intB, i_abs, i_max, i_min, i_lenL, i_lenT, i_ixL, i_ixT, i_tupL, i_tupT, i_truB, Bool.not_true, Bool.not_false, Bool.false_eq_true, if_true, if_false, reduceIte]
  exact ⟨hk.1, hk.2, q⟩
theorem pu_check_lone (ds Q) (hl : ds.length = 2) (h : wf_check_lone ds Q) : ws_check_lone (edP Q) (enP N_check_lone ds) := by
  obtain ⟨h, k, rfl, hh, hk, q⟩ := h
  simp only [ws_check_lone, N_check_lone, wf_check_between, wf_check_books, wVar, wC, wOp, wUn, wCl, wB, wTr, wAnd, wOr, wNot, wAndV, wOrV, wNotV, wIf, wCh, wNil, wCons, wTup, wLe, wSz, wFn, wFnJ, wFnB, wFnJB, wBNil, wBCons, wBOwn, rsvP, rsvJ, wNext, wSeq, wRet, wRetN, wDrop, wIfS, wSet, wSetOwn, wNever, wAug, wOpO, wOpR, wClO, wApp, wSetIt, wFrz, wFor, wRg1, wRg2, wSq, wEnum, wZip, wZipM, wgN, wgT, wgNil, wgCons, wYes, wAsgT, wgLs, wLenS, wIxS, wFnS, wIsi, wListOf, wRev, edP, edJ, enP, enJ, enS, NotOwn, Flat, List.map_cons, List.map_nil, List.length_cons, List.length_nil, List.replicate_succ, List.replicate_zero, List.cons_append, List.nil_append, List.append_nil, List.set_cons_zero, List.set_cons_succ, List.getElem?_cons_zero, List.getElem?_cons_succ, Nat.reduceAdd, Nat.reduceSub, Option.some.injEq, Sl.imm.injEq, Sl.own.injEq, Sl.scr.injEq, exists_eq_left, exists_eq_left', exists_eq_right, exists_eq, exists_eq', exists_and_left, and_assoc, and_true, true_and, ne_eq, not_false_eq_true, Nat.succ_ne_zero, or_true, true_or, true_implies, forall_eq', forall_eq, PyData.int.injEq, PyData.bool.injEq, PyData.list.injEq, PyData.tuple.injEq, List.cons.injEq, i_add, i_iadd, i_sub, i_mul, i_mod, i_fdiv, i_fdivG, i_pow, i_neg, i_le, i_ge, i_gt, i_lt, i_eq, i_ne, i_intI, i_intB, i_abs, i_max, i_min, i_lenL, i_lenT, i_ixL, i_ixT, i_tupL, i_tupT, i_truB, Bool.not_true, Bool.not_false, Bool.false_eq_true, if_true, if_false, reduceIte]
  exact ⟨hh.1, hh.2, hk, q⟩
theorem pu_are_numbers (ds Q) (hl : ds.length = 3) (h : wf_are_numbers ds Q) : ws_are_numbers (edP Q) (enP N_are_numbers ds) := by
  obtain ⟨h, m, r, rfl, hr, hm, q⟩ := h
  simp only [ws_are_numbers, N_are_numbers, rowD, kit_tup, List.length_map, wVar, wC, wOp, wUn, wCl, wB, wTr, wAnd, wOr, wNot, wAndV, wOrV, wNotV, wIf, wCh, wNil, wCons, wTup, wLe, wSz, wFn, wFnJ, wFnB, wFnJB, wBNil, wBCons, wBOwn, rsvP, rsvJ, wNext, wSeq, wRet, wRetN, wDrop, wIfS, wSet, wSetOwn, wNever, wAug, wOpO, wOpR, wClO, wApp, wSetIt, wFrz, wFor, wRg1, wRg2, wSq, wEnum, wZip, wZipM, wgN, wgT, wgNil, wgCons, wYes, wAsgT, wgLs, wLenS, wIxS, wFnS, wIsi, wListOf, wRev, edP, edJ, enP, enJ, enS, NotOwn, Flat, List.map_cons, List.map_nil, List.length_cons, List.length_nil, List.replicate_succ, List.replicate_zero, List.cons_append, List.nil_append, List.append_nil, List.set_cons_zero, List.set_cons_succ, List.getElem?_cons_zero, List.getElem?_cons_succ, Nat.reduceAdd, Nat.reduceSub, Option.some.injEq, Sl.imm.injEq, Sl.own.injEq, Sl.scr.injEq, exists_eq_left, exists_eq_left', exists_eq_right, exists_eq, exists_eq', exists_and_left, and_assoc, and_true, true_and, ne_eq, not_false_eq_true, Nat.succ_ne_zero, or_true, true_or, true_implies, forall_eq', forall_eq, PyData.int.injEq, PyData.bool.injEq, PyData.list.injEq, PyData.tuple.injEq, List.cons.injEq, i_add, i_iadd, i_sub, i_mul, i_mod, i_fdiv, i_fdivG, i_pow, i_neg, i_le, i_ge, i_gt, i_lt, i_eq, i_ne, i_intI, i_intB, i_abs, i_max, i_min, i_lenL, i_lenT, i_ixL, i_ixT, i_tupL, i_tupT, i_truB, Bool.not_true, Bool.not_false, Bool.false_eq_true, if_true, if_false, reduceIte]
  have e := hr.1
  rw [if_neg (by simp; omega)]
  refine lc1 (f := fun x => .bool (isBtw x 0 (h - 1))) (xs := r.map .int) (by decide) (fun Q q => ⟨_, rfl, _, Or.inr rfl, q⟩) trivial (by rw [List.length_map]; exact sl200 (by omega)) (fun x hx Q q => ?_) ?_
  · simp only [wf_is_between, wVar, wC, wOp, wUn, wCl, wB, wTr, wAnd, wOr, wNot, wAndV, wOrV, wNotV, wIf, wCh, wNil, wCons, wTup, wLe, wSz, wFn, wFnJ, wFnB, wFnJB, wBNil, wBCons, wBOwn, rsvP, rsvJ, wNext, wSeq, wRet, wRetN, wDrop, wIfS, wSet, wSetOwn, wNever, wAug, wOpO, wOpR, wClO, wApp, wSetIt, wFrz, wFor, wRg1, wRg2, wSq, wEnum, wZip, wZipM, wgN, wgT, wgNil, wgCons, wYes, wAsgT, wgLs, wLenS, wIxS, wFnS, wIsi, wListOf, wRev, edP, edJ, enP, enJ, enS, NotOwn, Flat, List.map_cons, List.map_nil, List.length_cons, List.length_nil, List.replicate_succ, List.replicate_zero, List.cons_append, List.nil_append, List.append_nil, List.set_cons_zero, List.set_cons_succ, List.getElem?_cons_zero, List.getElem?_cons_succ, Nat.reduceAdd, Nat.reduceSub, Option.some.injEq, Sl.imm.injEq, Sl.own.injEq, Sl.scr.injEq, exists_eq_left, exists_eq_left', exists_eq_right, exists_eq, exists_eq', exists_and_left, and_assoc, and_true, true_and, ne_eq, not_false_eq_true, Nat.succ_ne_zero, or_true, true_or, true_implies, forall_eq', forall_eq, PyData.int.injEq, PyData.bool.injEq, PyData.list.injEq, PyData.tuple.injEq, List.cons.injEq, i_add, i_iadd, i_sub, i_mul, i_mod, i_fdiv, i_fdivG, i_pow, i_neg, i_le, i_ge, i_gt, i_lt, i_eq, i_ne, i_intI, i_intB, i_abs, i_max, i_min, i_lenL, i_lenT, i_ixL, i_ixT, i_tupL, i_tupT, i_truB, Bool.not_true, Bool.not_false, Bool.false_eq_true, if_true, if_false, reduceIte]
    exact q
  · refine ⟨_, all_map.mpr rfl, ?_⟩
    rw [btw_ints fun k hk => ⟨(hr.2 k hk).1, by have := (hr.2 k hk).2; omega⟩]
    exact q
theorem pu_check_key (ds Q) (hl : ds.length = 3) (h : wf_check_key ds Q) : ws_check_key (edP Q) (enP N_check_key ds) := by
  obtain ⟨h, k, r, rfl, hr, hk, q⟩ := h
  have h1 := hk.2
  simp only [ws_check_key, N_check_key, wf_are_numbers, wVar, wC, wOp, wUn, wCl, wB, wTr, wAnd, wOr, wNot, wAndV, wOrV, wNotV, wIf, wCh, wNil, wCons, wTup, wLe, wSz, wFn, wFnJ, wFnB, wFnJB, wBNil, wBCons, wBOwn, rsvP, rsvJ, wNext, wSeq, wRet, wRetN, wDrop, wIfS, wSet, wSetOwn, wNever, wAug, wOpO, wOpR, wClO, wApp, wSetIt, wFrz, wFor, wRg1, wRg2, wSq, wEnum, wZip, wZipM, wgN, wgT, wgNil, wgCons, wYes, wAsgT, wgLs, wLenS, wIxS, wFnS, wIsi, wListOf, wRev, edP, edJ, enP, enJ, enS, NotOwn, Flat, List.map_cons, List.map_nil, List.length_cons, List.length_nil, List.replicate_succ, List.replicate_zero, List.cons_append, List.nil_append, List.append_nil, List.set_cons_zero, List.set_cons_succ, List.getElem?_cons_zero, List.getElem?_cons_succ, Nat.reduceAdd, Nat.reduceSub, Option.some.injEq, Sl.imm.injEq, Sl.own.injEq, Sl.scr.injEq, exists_eq_left, exists_eq_left', exists_eq_right, exists_eq, exists_eq', exists_and_left, and_assoc, and_true, true_and, ne_eq, not_false_eq_true, Nat.succ_ne_zero, or_true, true_or, true_implies, forall_eq', forall_eq, PyData.int.injEq, PyData.bool.injEq, PyData.list.injEq, PyData.tuple.injEq, List.cons.injEq, i_add, i_iadd, i_sub, i_mul, i_mod, i_fdiv, i_fdivG, i_pow, i_neg, i_le, i_ge, i_gt, i_lt, i_eq, i_ne, i_intI, i_intB, i_abs, i_max, i_min, i_lenL, i_lenT, i_ixL, i_ixT, i_tupL, i_tupT, i_truB, Bool.not_true, Bool.not_false, Bool.false_eq_true, if_true, if_false, reduceIte]
  exact ⟨r, rfl, hr, by omega, q⟩
theorem pu_check_numbers (ds Q) (hl : ds.length = 3) (h : wf_check_numbers ds Q) : ws_check_numbers (edP Q) (enP N_check_numbers ds) := by
  obtain ⟨h, k, r, rfl, hr, hk, q⟩ := h
  have h1 := hk.2
  simp only [ws_check_numbers, N_check_numbers, wf_are_numbers, wVar, wC, wOp, wUn, wCl, wB, wTr, wAnd, wOr, wNot, wAndV, wOrV, wNotV, wIf, wCh, wNil, wCons, wTup, wLe, wSz, wFn, wFnJ, wFnB, wFnJB, wBNil, wBCons, wBOwn, rsvP, rsvJ, wNext, wSeq, wRet, wRetN, wDrop, wIfS, wSet, wSetOwn, wNever, wAug, wOpO, wOpR, wClO, wApp, wSetIt, wFrz, wFor, wRg1, wRg2, wSq, wEnum, wZip, wZipM, wgN, wgT, wgNil, wgCons, wYes, wAsgT, wgLs, wLenS, wIxS, wFnS, wIsi, wListOf, wRev, edP, edJ, enP, enJ, enS, NotOwn, Flat, List.map_cons, List.map_nil, List.length_cons, List.length_nil, List.replicate_succ, List.replicate_zero, List.cons_append, List.nil_append, List.append_nil, List.set_cons_zero, List.set_cons_succ, List.getElem?_cons_zero, List.getElem?_cons_succ, Nat.reduceAdd, Nat.reduceSub, Option.some.injEq, Sl.imm.injEq, Sl.own.injEq, Sl.scr.injEq, exists_eq_left, exists_eq_left', exists_eq_right, exists_eq, exists_eq', exists_and_left, and_assoc, and_true, true_and, ne_eq, not_false_eq_true, Nat.succ_ne_zero, or_true, true_or, true_implies, forall_eq', forall_eq, PyData.int.injEq, PyData.bool.injEq, PyData.list.injEq, PyData.tuple.injEq, List.cons.injEq, i_add, i_iadd, i_sub, i_mul, i_mod, i_fdiv, i_fdivG, i_pow, i_neg, i_le, i_ge, i_gt, i_lt, i_eq, i_ne, i_intI, i_intB, i_abs, i_max, i_min, i_lenL, i_lenT, i_ixL, i_ixT, i_tupL, i_tupT, i_truB, Bool.not_true, Bool.not_false, Bool.false_eq_true, if_true, if_false, reduceIte]
  exact ⟨r, rfl, hr, by omega, q⟩
theorem at_lst {r : List Int} {k : Int} (h0 : 0 ≤ k) (h : k.toNat < r.length) : atI (r.map PyData.int) k = some (.int (r.getD k.toNat 0)) := by
  have e : k = ((k.toNat : Nat) : Int) := by omega
  generalize k.toNat = n at e h
  subst e
  rw [at_nat (by rw [List.length_map]; exact h)]
  simp [List.getD_eq_getElem?_getD, h]
theorem tl_ne {a b : List D} : (PyData.tuple a = PyData.list b) = False := eq_false (by intro h; cases h)
theorem lt_ne {a b : List D} : (PyData.list a = PyData.tuple b) = False := eq_false (by intro h; cases h)
theorem h_cases {h : Int} (hh : Hs h) : h = 2 ∨ h = 3 ∨ h = 4 ∨ h = 5 ∨ h = 6 := by unfold Hs at hh; omega
theorem ints_of {lo hi : Int} : ∀ {l : List D}, (∀ x ∈ l, ∃ k : Int, x = .int k ∧ lo ≤ k ∧ k < hi) → ∃ ns : List Int, l = ns.map .int ∧ ∀ k ∈ ns, lo ≤ k ∧ k < hi
  | [], _ => ⟨[], rfl, fun _ h => by cases h⟩
  | x :: l, h => by
    obtain ⟨ns, e, hn⟩ := ints_of fun y hy => h y (List.mem_cons_of_mem _ hy)
    obtain ⟨k, e1, h1⟩ := h x List.mem_cons_self
    refine ⟨k :: ns, by rw [e, e1]; rfl, fun z hz => ?_⟩
    rcases List.mem_cons.mp hz with rfl | hz
    · exact h1
    · exact hn z hz
theorem rng_len (a : Int) (n : Nat) : (rngD a n).length = n := by unfold rngD; rw [List.length_map, List.length_range]
theorem rng_nats (n : Nat) : rngD 0 n = (List.range n).map fun i => PyData.int ((i : Nat) : Int) := by
  unfold rngD
  exact List.map_congr_left fun i _ => by rw [Int.zero_add]
theorem pu__law_numbers (ds Q) (hl : ds.length = 4) (h : wf__law_numbers ds Q) : ws__law_numbers (edP Q) (enP N__law_numbers ds) := by
  obtain ⟨h, n, w, key, rfl, hh, hw, hk, q⟩ := h
  have h2 := hh.1
  simp only [ws__law_numbers, N__law_numbers, rowD, wSl, wPart, wNoP, tl_ne, lt_ne, false_and, exists_false, false_or, or_false, i_sumT, i_addT, wVar, wC, wOp, wUn, wCl, wB, wTr, wAnd, wOr, wNot, wAndV, wOrV, wNotV, wIf, wCh, wNil, wCons, wTup, wLe, wSz, wFn, wFnJ, wFnB, wFnJB, wBNil, wBCons, wBOwn, rsvP, rsvJ, wNext, wSeq, wRet, wRetN, wDrop, wIfS, wSet, wSetOwn, wNever, wAug, wOpO, wOpR, wClO, wApp, wSetIt, wFrz, wFor, wRg1, wRg2, wSq, wEnum, wZip, wZipM, wgN, wgT, wgNil, wgCons, wYes, wAsgT, wgLs, wLenS, wIxS, wFnS, wIsi, wListOf, wRev, edP, edJ, enP, enJ, enS, NotOwn, Flat, List.map_cons, List.map_nil, List.length_cons, List.length_nil, List.replicate_succ, List.replicate_zero, List.cons_append, List.nil_append, List.append_nil, List.set_cons_zero, List.set_cons_succ, List.getElem?_cons_zero, List.getElem?_cons_succ, Nat.reduceAdd, Nat.reduceSub, Option.some.injEq, Sl.imm.injEq, Sl.own.injEq, Sl.scr.injEq, exists_eq_left, exists_eq_left', exists_eq_right, exists_eq, exists_eq', exists_and_left, and_assoc, and_true, true_and, ne_eq, not_false_eq_true, Nat.succ_ne_zero, or_true, true_or, true_implies, forall_eq', forall_eq, PyData.int.injEq, PyData.bool.injEq, PyData.list.injEq, PyData.tuple.injEq, List.cons.injEq, i_add, i_iadd, i_sub, i_mul, i_mod, i_fdiv, i_fdivG, i_pow, i_neg, i_le, i_ge, i_gt, i_lt, i_eq, i_ne, i_intI, i_intB, i_abs, i_max, i_min, i_lenL, i_lenT, i_ixL, i_ixT, i_tupL, i_tupT, i_truB, Bool.not_true, Bool.not_false, Bool.false_eq_true, if_true, if_false, reduceIte]
  rw [cut_to, cut_from, ← List.map_take, ← List.map_drop]
  refine ⟨by omega, by decide, sl200 (by rw [List.length_map, List.length_take]; omega), sl200 (by simp only [List.length_append, List.length_map, List.length_take, List.length_drop, List.length_singleton]; omega), ?_⟩
  unfold numL rowD at q
  rw [List.map_append, List.map_append] at q
  exact q
theorem pu_numbers_of (ds Q) (hl : ds.length = 4) (h : wf_numbers_of ds Q) : ws_numbers_of (edP Q) (enP N_numbers_of ds) := by
  obtain ⟨h, n, w, key, rfl, hh, hw, hk, q⟩ := h
  have h2 := hh.1
  simp only [ws_numbers_of, N_numbers_of, rowD, wSl, wPart, wNoP, tl_ne, lt_ne, false_and, exists_false, false_or, or_false, i_sumT, i_addT, wVar, wC, wOp, wUn, wCl, wB, wTr, wAnd, wOr, wNot, wAndV, wOrV, wNotV, wIf, wCh, wNil, wCons, wTup, wLe, wSz, wFn, wFnJ, wFnB, wFnJB, wBNil, wBCons, wBOwn, rsvP, rsvJ, wNext, wSeq, wRet, wRetN, wDrop, wIfS, wSet, wSetOwn, wNever, wAug, wOpO, wOpR, wClO, wApp, wSetIt, wFrz, wFor, wRg1, wRg2, wSq, wEnum, wZip, wZipM, wgN, wgT, wgNil, wgCons, wYes, wAsgT, wgLs, wLenS, wIxS, wFnS, wIsi, wListOf, wRev, edP, edJ, enP, enJ, enS, NotOwn, Flat, List.map_cons, List.map_nil, List.length_cons, List.length_nil, List.replicate_succ, List.replicate_zero, List.cons_append, List.nil_append, List.append_nil, List.set_cons_zero, List.set_cons_succ, List.getElem?_cons_zero, List.getElem?_cons_succ, Nat.reduceAdd, Nat.reduceSub, Option.some.injEq, Sl.imm.injEq, Sl.own.injEq, Sl.scr.injEq, exists_eq_left, exists_eq_left', exists_eq_right, exists_eq, exists_eq', exists_and_left, and_assoc, and_true, true_and, ne_eq, not_false_eq_true, Nat.succ_ne_zero, or_true, true_or, true_implies, forall_eq', forall_eq, PyData.int.injEq, PyData.bool.injEq, PyData.list.injEq, PyData.tuple.injEq, List.cons.injEq, i_add, i_iadd, i_sub, i_mul, i_mod, i_fdiv, i_fdivG, i_pow, i_neg, i_le, i_ge, i_gt, i_lt, i_eq, i_ne, i_intI, i_intB, i_abs, i_max, i_min, i_lenL, i_lenT, i_ixL, i_ixT, i_tupL, i_tupT, i_truB, Bool.not_true, Bool.not_false, Bool.false_eq_true, if_true, if_false, reduceIte]
  rw [cut_to, cut_from, ← List.map_take, ← List.map_drop]
  refine ⟨by omega, by decide, sl200 (by rw [List.length_map, List.length_take]; omega), sl200 (by simp only [List.length_append, List.length_map, List.length_take, List.length_drop, List.length_singleton]; omega), ?_⟩
  unfold numL rowD at q
  rw [List.map_append, List.map_append] at q
  exact q
end K60

set_option Elab.async false
set_option linter.all false
set_option maxRecDepth 100000
set_option maxHeartbeats 4000000
namespace K60
open PySem PySem.Spec PyProof.Rows L2 Pd
theorem atI_last {α : Type} {l : List α} {x : α} : atI (l ++ [x]) (-1) = some x := by
  unfold atI
  rw [show ixN (l ++ [x]).length (-1) = some l.length by
    unfold ixN
    rw [List.length_append, List.length_singleton]
    simp; omega]
  simp
theorem pow_bd {h : Int} (h0 : 1 ≤ h) (h6 : h ≤ 6) : ∀ k : Nat, 1 ≤ h ^ k ∧ h ^ k ≤ 6 ^ k
  | 0 => by simp
  | k + 1 => by
    have ih := pow_bd h0 h6 k
    rw [Int.pow_succ, Int.pow_succ]
    refine ⟨?_, ?_⟩
    · have : 1 * 1 ≤ h ^ k * h := Int.mul_le_mul ih.1 h0 (by decide) (by omega)
      omega
    · exact Int.mul_le_mul ih.2 h6 (by omega) (by omega)
theorem allT_ok {h : Int} (h0 : 0 ≤ h) : ∀ n, ∀ k ∈ allT h n, k.length = n ∧ ∀ x ∈ k, 0 ≤ x ∧ x < h
  | 0, k, hk => by
    rw [allT, List.mem_singleton] at hk
    subst hk
    exact ⟨rfl, fun _ h => by cases h⟩
  | n + 1, k, hk => by
    rw [allT, List.mem_flatMap] at hk
    obtain ⟨a, ha, hk⟩ := hk
    obtain ⟨x, hx, rfl⟩ := List.mem_map.mp hk
    obtain ⟨i, hi, rfl⟩ := List.mem_map.mp hx
    have hi' := List.mem_range.mp hi
    have ih := allT_ok h0 n a ha
    refine ⟨by rw [List.length_append, ih.1]; rfl, fun y hy => ?_⟩
    rcases List.mem_append.mp hy with hy | hy
    · exact ih.2 y hy
    · rw [List.mem_singleton] at hy
      subst hy
      omega
theorem allT_len {h : Int} (h0 : 0 ≤ h) : ∀ n, ((allT h n).length : Int) = h ^ n
  | 0 => by rw [Int.pow_zero]; rfl
  | n + 1 => by
    have ih := allT_len h0 n
    have key : ∀ l : List (List Int), ((l.flatMap fun key => (rng h).map fun x => key ++ [x]).length : Int) = l.length * h := by
      intro l
      induction l with
      | nil => simp
      | cons a l ih =>
        rw [List.flatMap_cons, List.length_append, List.length_map, Int.natCast_add, ih, List.length_cons]
        unfold rng
        rw [List.length_map, List.length_range, Int.natCast_add, Int.add_mul, show ((h.toNat : Nat) : Int) = h by omega]
        omega
    rw [allT, key, ih, Int.pow_succ]
def isw (h : Int) (n w : Nat) (house : Int) : Bool := ((allT h n).map fun key => numL h w key house).isPerm ((allT h (n + 1)).filter fun a => decide (a.sum % h = house)) && decide (((allT h (n + 1)).filter fun a => decide (a.sum % h = house)).Pairwise fun a b => HT.lexLt a b = true)
theorem isw_all : ((List.range 3).all fun a => (List.range 3).all fun n => (List.range (n + 1)).all fun w => (List.range (a + 2)).all fun s => isw ((a : Int) + 2) n w (s : Int)) = true := by decide +kernel
theorem isw_ok {h : Int} {n w : Nat} {house : Int} (h2 : 2 ≤ h) (h4 : h ≤ 4) (hn : n ≤ 2) (hw : w ≤ n) (s0 : 0 ≤ house) (s1 : house < h) : ((allT h n).map fun key => numL h w key house).Perm ((allT h (n + 1)).filter fun a => decide (a.sum % h = house)) ∧ AscS ((allT h (n + 1)).filter fun a => decide (a.sum % h = house)) := by
  obtain ⟨a, rfl⟩ : ∃ a : Nat, h = (a : Int) + 2 := ⟨(h - 2).toNat, by omega⟩
  obtain ⟨s, rfl⟩ : ∃ s : Nat, house = (s : Int) := ⟨house.toNat, by omega⟩
  have h1 := List.all_eq_true.mp isw_all a (List.mem_range.mpr (by omega))
  have h2 := List.all_eq_true.mp h1 n (List.mem_range.mpr (by omega))
  have h3 := List.all_eq_true.mp h2 w (List.mem_range.mpr (by omega))
  have h4 := List.all_eq_true.mp h3 s (List.mem_range.mpr (by omega))
  unfold isw at h4
  rw [Bool.and_eq_true, decide_eq_true_eq] at h4
  exact ⟨List.isPerm_iff.mp h4.1, h4.2⟩
theorem sorted_is {rs rs' ds : List (List Int)} (hp : rs'.Perm rs) (ha : AscR rs') (hq : rs.Perm ds) (hd : AscS ds) : rs' = ds := by
  have p := hp.trans hq
  exact asc_ext (asc_strict ha (p.nodup_iff.mpr (asc_nodup hd))) hd fun r => p.mem_iff
end K60

set_option Elab.async false
set_option linter.all false
set_option maxRecDepth 100000
set_option maxHeartbeats 4000000
namespace K60
open PySem PySem.Spec PyProof.Rows L2 Pd
theorem pw_succ (h : Int) (n : Nat) : pw h (n + 1) = pw h n ++ [h ^ (n + 1)] := by
  unfold pw
  rw [List.range_succ (n := n + 1), List.map_append]; rfl
theorem pw_last (h : Int) (n : Nat) : ∃ l, pw h n = l ++ [h ^ n] := ⟨(List.range n).map fun i => h ^ i, by
  unfold pw
  rw [List.range_succ, List.map_append]; rfl⟩
theorem pw_at (h : Int) (n : Nat) : atI ((pw h n).map PyData.int) (-1) = some (.int (h ^ n)) := by
  obtain ⟨l, e⟩ := pw_last h n
  rw [e, List.map_append]
  exact atI_last
theorem pw_len (h : Int) (n : Nat) : (pw h n).length = n + 1 := by unfold pw; rw [List.length_map, List.length_range]
theorem pw_loop {h : Int} {d1 : D} {R : Ed} (h2 : 2 ≤ h) (h6 : h ≤ 6) : ∀ (xs : List D) (k : Nat) (s3 : Sl), k + xs.length ≤ 10 → (∀ s3, R.nx [.imm (.int h), .imm d1, .own ((pw h (k + xs.length)).map .int), s3]) →
    forW (wgN 3) (wApp 2 (wOp dMul (wOpO 2 dIx (wUn dNeg (wC (.int 1)))) (wVar 0))) R xs [.imm (.int h), .imm d1, .own ((pw h k).map .int), s3]
  | [], k, s3, _, q => q s3
  | x :: xs, k, s3, hl, q => by
    rw [List.length_cons] at hl
    have rec_ := fun s3 => pw_loop (d1 := d1) (R := R) h2 h6 xs (k + 1) s3 (by omega) fun s3 => by
      have := q s3
      rw [List.length_cons, show k + (xs.length + 1) = k + 1 + xs.length by omega] at this
      exact this
    unfold forW
    generalize forW (wgN 3) _ R xs = N at rec_ ⊢
    simp -failIfUnchanged only [wVar, wC, wOp, wUn, wCl, wB, wTr, wAnd, wOr, wNot, wAndV, wOrV, wNotV, wIf, wCh, wNil, wCons, wTup, wLe, wSz, wFn, wFnJ, wFnB, wFnJB, wBNil, wBCons, wBOwn, rsvP, rsvJ, wNext, wRet, wRetN, wDrop, wIfS, wSet, wSetOwn, wNever, wAug, wOpO, wOpR, wClO, wApp, wSetIt, wFrz, wFor, wRg1, wRg2, wSq, wEnum, wZip, wZipM, wgN, wgT, wgNil, wgCons, wYes, wAsgT, wgLs, wLenS, wIxS, wFnS, wIsi, wListOf, wRev, edP, edJ, enP, enJ, enS, NotOwn, Flat, List.map_cons, List.map_nil, List.length_cons, List.length_nil, List.replicate_succ, List.replicate_zero, List.cons_append, List.nil_append, List.append_nil, List.set_cons_zero, List.set_cons_succ, List.getElem?_cons_zero, List.getElem?_cons_succ, Nat.reduceAdd, Nat.reduceSub, Option.some.injEq, Sl.imm.injEq, Sl.own.injEq, Sl.scr.injEq, exists_eq_left, exists_eq_left', exists_eq_right, exists_eq, exists_eq', exists_and_left, and_assoc, and_true, true_and, ne_eq, not_false_eq_true, Nat.succ_ne_zero, or_true, true_or, true_implies, forall_eq', forall_eq, PyData.int.injEq, PyData.bool.injEq, PyData.list.injEq, PyData.tuple.injEq, List.cons.injEq, i_add, i_iadd, i_sub, i_mul, i_mod, i_fdiv, i_fdivG, i_pow, i_neg, i_le, i_ge, i_gt, i_lt, i_eq, i_ne, i_intI, i_intB, i_abs, i_max, i_min, i_lenL, i_lenT, i_ixL, i_ixT, i_tupL, i_tupT, i_truB, Bool.not_true, Bool.not_false, Bool.false_eq_true, if_true, if_false, reduceIte]
    refine ⟨_, pw_at h k, ?_⟩
    simp -failIfUnchanged only [wVar, wC, wOp, wUn, wCl, wB, wTr, wAnd, wOr, wNot, wAndV, wOrV, wNotV, wIf, wCh, wNil, wCons, wTup, wLe, wSz, wFn, wFnJ, wFnB, wFnJB, wBNil, wBCons, wBOwn, rsvP, rsvJ, wNext, wRet, wRetN, wDrop, wIfS, wSet, wSetOwn, wNever, wAug, wOpO, wOpR, wClO, wApp, wSetIt, wFrz, wFor, wRg1, wRg2, wSq, wEnum, wZip, wZipM, wgN, wgT, wgNil, wgCons, wYes, wAsgT, wgLs, wLenS, wIxS, wFnS, wIsi, wListOf, wRev, edP, edJ, enP, enJ, enS, NotOwn, Flat, List.map_cons, List.map_nil, List.length_cons, List.length_nil, List.replicate_succ, List.replicate_zero, List.cons_append, List.nil_append, List.append_nil, List.set_cons_zero, List.set_cons_succ, List.getElem?_cons_zero, List.getElem?_cons_succ, Nat.reduceAdd, Nat.reduceSub, Option.some.injEq, Sl.imm.injEq, Sl.own.injEq, Sl.scr.injEq, exists_eq_left, exists_eq_left', exists_eq_right, exists_eq, exists_eq', exists_and_left, and_assoc, and_true, true_and, ne_eq, not_false_eq_true, Nat.succ_ne_zero, or_true, true_or, true_implies, forall_eq', forall_eq, PyData.int.injEq, PyData.bool.injEq, PyData.list.injEq, PyData.tuple.injEq, List.cons.injEq, i_add, i_iadd, i_sub, i_mul, i_mod, i_fdiv, i_fdivG, i_pow, i_neg, i_le, i_ge, i_gt, i_lt, i_eq, i_ne, i_intI, i_intB, i_abs, i_max, i_min, i_lenL, i_lenT, i_ixL, i_ixT, i_tupL, i_tupT, i_truB, Bool.not_true, Bool.not_false, Bool.false_eq_true, if_true, if_false, reduceIte]
    refine ⟨small_r (by omega) (by omega), sl200 (by rw [List.length_map, pw_len]; omega), ?_⟩
    have := rec_ (.imm x)
    rw [pw_succ, List.map_append, Int.pow_succ] at this
    exact this
theorem pu_powers_to (ds Q) (hl : ds.length = 2) (h : wf_powers_to ds Q) : ws_powers_to (edP Q) (enP N_powers_to ds) := by
  obtain ⟨h, n, rfl, h2, h6, hn, q⟩ := h
  unfold ws_powers_to
  (try dsimp only); rw [wSeq_eq]; simp -failIfUnchanged only [N_powers_to, sz0, sz1, sz2, sz3, sz4, sz5, sz6, sz7, sz8, sz9, sz10, sz11, sz12, sz13, sz14, sz15, sz16, sz17, sz18, sz19, sz20, sz21, sz22, sz23, sz24, sz25, sz26, sz27, sz28, sz29, sz30, sz31, sz32, sz33, sz34, sz35, sz36, sz37, sz38, sz39, sz40, wVar, wC, wOp, wUn, wCl, wB, wTr, wAnd, wOr, wNot, wAndV, wOrV, wNotV, wIf, wCh, wNil, wCons, wTup, wLe, wSz, wFn, wFnJ, wFnB, wFnJB, wBNil, wBCons, wBOwn, rsvP, rsvJ, wNext, wRet, wRetN, wDrop, wIfS, wSet, wSetOwn, wNever, wAug, wOpO, wOpR, wClO, wApp, wSetIt, wFrz, wFor, wRg1, wRg2, wSq, wEnum, wZip, wZipM, wgN, wgT, wgNil, wgCons, wYes, wAsgT, wgLs, wLenS, wIxS, wFnS, wIsi, wListOf, wRev, edP, edJ, enP, enJ, enS, NotOwn, Flat, List.map_cons, List.map_nil, List.length_cons, List.length_nil, List.replicate_succ, List.replicate_zero, List.cons_append, List.nil_append, List.append_nil, List.set_cons_zero, List.set_cons_succ, List.getElem?_cons_zero, List.getElem?_cons_succ, Nat.reduceAdd, Nat.reduceSub, Option.some.injEq, Sl.imm.injEq, Sl.own.injEq, Sl.scr.injEq, exists_eq_left, exists_eq_left', exists_eq_right, exists_eq, exists_eq', exists_and_left, and_assoc, and_true, true_and, ne_eq, not_false_eq_true, Nat.succ_ne_zero, or_true, true_or, true_implies, forall_eq', forall_eq, PyData.int.injEq, PyData.bool.injEq, PyData.list.injEq, PyData.tuple.injEq, List.cons.injEq, i_add, i_iadd, i_sub, i_mul, i_mod, i_fdiv, i_fdivG, i_pow, i_neg, i_le, i_ge, i_gt, i_lt, i_eq, i_ne, i_intI, i_intB, i_abs, i_max, i_min, i_lenL, i_lenT, i_ixL, i_ixT, i_tupL, i_tupT, i_truB, Bool.not_true, Bool.not_false, Bool.false_eq_true, if_true, if_false, reduceIte]
  (try dsimp only); rw [wSeq_eq]; simp -failIfUnchanged only [wVar, wC, wOp, wUn, wCl, wB, wTr, wAnd, wOr, wNot, wAndV, wOrV, wNotV, wIf, wCh, wNil, wCons, wTup, wLe, wSz, wFn, wFnJ, wFnB, wFnJB, wBNil, wBCons, wBOwn, rsvP, rsvJ, wNext, wRet, wRetN, wDrop, wIfS, wSet, wSetOwn, wNever, wAug, wOpO, wOpR, wClO, wApp, wSetIt, wFrz, wFor, wRg1, wRg2, wSq, wEnum, wZip, wZipM, wgN, wgT, wgNil, wgCons, wYes, wAsgT, wgLs, wLenS, wIxS, wFnS, wIsi, wListOf, wRev, edP, edJ, enP, enJ, enS, NotOwn, Flat, List.map_cons, List.map_nil, List.length_cons, List.length_nil, List.replicate_succ, List.replicate_zero, List.cons_append, List.nil_append, List.append_nil, List.set_cons_zero, List.set_cons_succ, List.getElem?_cons_zero, List.getElem?_cons_succ, Nat.reduceAdd, Nat.reduceSub, Option.some.injEq, Sl.imm.injEq, Sl.own.injEq, Sl.scr.injEq, exists_eq_left, exists_eq_left', exists_eq_right, exists_eq, exists_eq', exists_and_left, and_assoc, and_true, true_and, ne_eq, not_false_eq_true, Nat.succ_ne_zero, or_true, true_or, true_implies, forall_eq', forall_eq, PyData.int.injEq, PyData.bool.injEq, PyData.list.injEq, PyData.tuple.injEq, List.cons.injEq, i_add, i_iadd, i_sub, i_mul, i_mod, i_fdiv, i_fdivG, i_pow, i_neg, i_le, i_ge, i_gt, i_lt, i_eq, i_ne, i_intI, i_intB, i_abs, i_max, i_min, i_lenL, i_lenT, i_ixL, i_ixT, i_tupL, i_tupT, i_truB, Bool.not_true, Bool.not_false, Bool.false_eq_true, if_true, if_false, reduceIte]
  refine ⟨by omega, by omega, ?_⟩
  rw [show [PyData.int 1] = (pw h 0).map .int by unfold pw; simp]
  refine pw_loop h2 h6 (rngD 0 (n : Int).toNat) 0 .un (by rw [rng_len]; omega) fun s3 => ?_
  rw [rng_len]
  dsimp only
  simp -failIfUnchanged only [wVar, wC, wOp, wUn, wCl, wB, wTr, wAnd, wOr, wNot, wAndV, wOrV, wNotV, wIf, wCh, wNil, wCons, wTup, wLe, wSz, wFn, wFnJ, wFnB, wFnJB, wBNil, wBCons, wBOwn, rsvP, rsvJ, wNext, wRet, wRetN, wDrop, wIfS, wSet, wSetOwn, wNever, wAug, wOpO, wOpR, wClO, wApp, wSetIt, wFrz, wFor, wRg1, wRg2, wSq, wEnum, wZip, wZipM, wgN, wgT, wgNil, wgCons, wYes, wAsgT, wgLs, wLenS, wIxS, wFnS, wIsi, wListOf, wRev, edP, edJ, enP, enJ, enS, NotOwn, Flat, List.map_cons, List.map_nil, List.length_cons, List.length_nil, List.replicate_succ, List.replicate_zero, List.cons_append, List.nil_append, List.append_nil, List.set_cons_zero, List.set_cons_succ, List.getElem?_cons_zero, List.getElem?_cons_succ, Nat.reduceAdd, Nat.reduceSub, Option.some.injEq, Sl.imm.injEq, Sl.own.injEq, Sl.scr.injEq, exists_eq_left, exists_eq_left', exists_eq_right, exists_eq, exists_eq', exists_and_left, and_assoc, and_true, true_and, ne_eq, not_false_eq_true, Nat.succ_ne_zero, or_true, true_or, true_implies, forall_eq', forall_eq, PyData.int.injEq, PyData.bool.injEq, PyData.list.injEq, PyData.tuple.injEq, List.cons.injEq, i_add, i_iadd, i_sub, i_mul, i_mod, i_fdiv, i_fdivG, i_pow, i_neg, i_le, i_ge, i_gt, i_lt, i_eq, i_ne, i_intI, i_intB, i_abs, i_max, i_min, i_lenL, i_lenT, i_ixL, i_ixT, i_tupL, i_tupT, i_truB, Bool.not_true, Bool.not_false, Bool.false_eq_true, if_true, if_false, reduceIte]
  rw [show 0 + (n : Int).toNat = n by omega]
  exact q
theorem pu_check_few_keys (ds Q) (hl : ds.length = 2) (h : wf_check_few_keys ds Q) : ws_check_few_keys (edP Q) (enP N_check_few_keys ds) := by
  obtain ⟨h, n, rfl, hh, hn, hk, q⟩ := h
  simp only [ws_check_few_keys, N_check_few_keys, wf_powers_to, wVar, wC, wOp, wUn, wCl, wB, wTr, wAnd, wOr, wNot, wAndV, wOrV, wNotV, wIf, wCh, wNil, wCons, wTup, wLe, wSz, wFn, wFnJ, wFnB, wFnJB, wBNil, wBCons, wBOwn, rsvP, rsvJ, wNext, wSeq, wRet, wRetN, wDrop, wIfS, wSet, wSetOwn, wNever, wAug, wOpO, wOpR, wClO, wApp, wSetIt, wFrz, wFor, wRg1, wRg2, wSq, wEnum, wZip, wZipM, wgN, wgT, wgNil, wgCons, wYes, wAsgT, wgLs, wLenS, wIxS, wFnS, wIsi, wListOf, wRev, edP, edJ, enP, enJ, enS, NotOwn, Flat, List.map_cons, List.map_nil, List.length_cons, List.length_nil, List.replicate_succ, List.replicate_zero, List.cons_append, List.nil_append, List.append_nil, List.set_cons_zero, List.set_cons_succ, List.getElem?_cons_zero, List.getElem?_cons_succ, Nat.reduceAdd, Nat.reduceSub, Option.some.injEq, Sl.imm.injEq, Sl.own.injEq, Sl.scr.injEq, exists_eq_left, exists_eq_left', exists_eq_right, exists_eq, exists_eq', exists_and_left, and_assoc, and_true, true_and, ne_eq, not_false_eq_true, Nat.succ_ne_zero, or_true, true_or, true_implies, forall_eq', forall_eq, PyData.int.injEq, PyData.bool.injEq, PyData.list.injEq, PyData.tuple.injEq, List.cons.injEq, i_add, i_iadd, i_sub, i_mul, i_mod, i_fdiv, i_fdivG, i_pow, i_neg, i_le, i_ge, i_gt, i_lt, i_eq, i_ne, i_intI, i_intB, i_abs, i_max, i_min, i_lenL, i_lenT, i_ixL, i_ixT, i_tupL, i_tupT, i_truB, Bool.not_true, Bool.not_false, Bool.false_eq_true, if_true, if_false, reduceIte]
  refine ⟨n, by omega, hh.1, hh.2, by omega, _, pw_at h n, ?_⟩
  simp -failIfUnchanged only [wVar, wC, wOp, wUn, wCl, wB, wTr, wAnd, wOr, wNot, wAndV, wOrV, wNotV, wIf, wCh, wNil, wCons, wTup, wLe, wSz, wFn, wFnJ, wFnB, wFnJB, wBNil, wBCons, wBOwn, rsvP, rsvJ, wNext, wRet, wRetN, wDrop, wIfS, wSet, wSetOwn, wNever, wAug, wOpO, wOpR, wClO, wApp, wSetIt, wFrz, wFor, wRg1, wRg2, wSq, wEnum, wZip, wZipM, wgN, wgT, wgNil, wgCons, wYes, wAsgT, wgLs, wLenS, wIxS, wFnS, wIsi, wListOf, wRev, edP, edJ, enP, enJ, enS, NotOwn, Flat, List.map_cons, List.map_nil, List.length_cons, List.length_nil, List.replicate_succ, List.replicate_zero, List.cons_append, List.nil_append, List.append_nil, List.set_cons_zero, List.set_cons_succ, List.getElem?_cons_zero, List.getElem?_cons_succ, Nat.reduceAdd, Nat.reduceSub, Option.some.injEq, Sl.imm.injEq, Sl.own.injEq, Sl.scr.injEq, exists_eq_left, exists_eq_left', exists_eq_right, exists_eq, exists_eq', exists_and_left, and_assoc, and_true, true_and, ne_eq, not_false_eq_true, Nat.succ_ne_zero, or_true, true_or, true_implies, forall_eq', forall_eq, PyData.int.injEq, PyData.bool.injEq, PyData.list.injEq, PyData.tuple.injEq, List.cons.injEq, i_add, i_iadd, i_sub, i_mul, i_mod, i_fdiv, i_fdivG, i_pow, i_neg, i_le, i_ge, i_gt, i_lt, i_eq, i_ne, i_intI, i_intB, i_abs, i_max, i_min, i_lenL, i_lenT, i_ixL, i_ixT, i_tupL, i_tupT, i_truB, Bool.not_true, Bool.not_false, Bool.false_eq_true, if_true, if_false, reduceIte]
  rw [if_neg (by simpa using hk)]
  exact q
theorem found_loop {h : Int} {d1 : D} {n : Nat} {R : Ed} (hh : Hs h) (hn : n ≤ 3) (hk : h ^ n ≤ 64) : ∀ (xs : List D) (k : Nat) (s3 : Sl), k + xs.length = n → (∀ s3, R.nx [.imm (.int h), .imm d1, .imm (rowsL (allT h n)), s3, .un, .un]) →
    forW (wgN 3) (wSet 2 (wLe (wLc2 (wSq (wVar 2)) (wgN 4) wYes (wRg1 (wCons (wVar 0) wNil)) (wgN 5) wYes (wOp dAdd (wVar 4) (wTup (wCons (wVar 5) wNil))) [4, 5] [5]))) R xs [.imm (.int h), .imm d1, .imm (rowsL (allT h k)), s3, .un, .un]
  | [], k, s3, e, q => by
    have : k = n := by simpa using e
    rw [this]; exact q s3
  | x :: xs, k, s3, e, q => by
    have h2 := hh.1
    have h6 := hh.2
    rw [List.length_cons] at e
    have rec_ := fun s3 => found_loop (d1 := d1) (R := R) hh hn hk xs (k + 1) s3 (by omega) q
    unfold forW
    generalize forW (wgN 3) _ R xs = N at rec_ ⊢
    simp -failIfUnchanged only [wVar, wC, wOp, wUn, wCl, wB, wTr, wAnd, wOr, wNot, wAndV, wOrV, wNotV, wIf, wCh, wNil, wCons, wTup, wLe, wSz, wFn, wFnJ, wFnB, wFnJB, wBNil, wBCons, wBOwn, rsvP, rsvJ, wNext, wRet, wRetN, wDrop, wIfS, wSet, wSetOwn, wNever, wAug, wOpO, wOpR, wClO, wApp, wSetIt, wFrz, wFor, wRg1, wRg2, wSq, wEnum, wZip, wZipM, wgN, wgT, wgNil, wgCons, wYes, wAsgT, wgLs, wLenS, wIxS, wFnS, wIsi, wListOf, wRev, edP, edJ, enP, enJ, enS, NotOwn, Flat, List.map_cons, List.map_nil, List.length_cons, List.length_nil, List.replicate_succ, List.replicate_zero, List.cons_append, List.nil_append, List.append_nil, List.set_cons_zero, List.set_cons_succ, List.getElem?_cons_zero, List.getElem?_cons_succ, Nat.reduceAdd, Nat.reduceSub, Option.some.injEq, Sl.imm.injEq, Sl.own.injEq, Sl.scr.injEq, exists_eq_left, exists_eq_left', exists_eq_right, exists_eq, exists_eq', exists_and_left, and_assoc, and_true, true_and, ne_eq, not_false_eq_true, Nat.succ_ne_zero, or_true, true_or, true_implies, forall_eq', forall_eq, PyData.int.injEq, PyData.bool.injEq, PyData.list.injEq, PyData.tuple.injEq, List.cons.injEq, i_add, i_iadd, i_sub, i_mul, i_mod, i_fdiv, i_fdivG, i_pow, i_neg, i_le, i_ge, i_gt, i_lt, i_eq, i_ne, i_intI, i_intB, i_abs, i_max, i_min, i_lenL, i_lenT, i_ixL, i_ixT, i_tupL, i_tupT, i_truB, Bool.not_true, Bool.not_false, Bool.false_eq_true, if_true, if_false, reduceIte]
    have hle : ((allT h (k + 1)).length : Int) ≤ 64 := by
      rw [allT_len (by omega)]
      have : h ^ (k + 1) * 1 ≤ h ^ (k + 1) * h ^ (n - (k + 1)) := Int.mul_le_mul_of_nonneg_left (pow_bd (by omega) h6 _).1 (by have := (pow_bd (by omega) h6 (k + 1)).1; omega)
      rw [← Int.pow_add, show k + 1 + (n - (k + 1)) = n by omega] at this
      omega
    refine lc2Y (α := List Int) (β := Int) (e1 := [.imm (.int h), .imm d1, .imm (rowsL (allT h k)), .imm x, .un, .un]) (X := rowD) (Y := .int) (f := fun key y => rowD (key ++ [y])) (fun key => [.imm (.int h), .imm d1, .imm (rowsL (allT h k)), .imm x, .imm (rowD key), .un]) (fun key y => [.imm (.int h), .imm d1, .imm (rowsL (allT h k)), .imm x, .imm (rowD key), .imm (.int y)]) (xs := allT h k) (ys := fun _ => rng h) (by decide) (by decide) (fun Q q => ⟨_, rfl, _, Or.inl rfl, q⟩) (no2 trivial trivial) (fun _ => rfl) (fun _ _ => rfl) (fun key hkey Q q => ?_) (fun key hkey Q q => ?_) (fun key hkey y hy Q q => ?_) (fun key hkey y hy Q q => ?_) ?_ ?_
    · simp -failIfUnchanged only [wip, wVar, wC, wOp, wUn, wCl, wB, wTr, wAnd, wOr, wNot, wAndV, wOrV, wNotV, wIf, wCh, wNil, wCons, wTup, wLe, wSz, wFn, wFnJ, wFnB, wFnJB, wBNil, wBCons, wBOwn, rsvP, rsvJ, wNext, wRet, wRetN, wDrop, wIfS, wSet, wSetOwn, wNever, wAug, wOpO, wOpR, wClO, wApp, wSetIt, wFrz, wFor, wRg1, wRg2, wSq, wEnum, wZip, wZipM, wgN, wgT, wgNil, wgCons, wYes, wAsgT, wgLs, wLenS, wIxS, wFnS, wIsi, wListOf, wRev, edP, edJ, enP, enJ, enS, NotOwn, Flat, List.map_cons, List.map_nil, List.length_cons, List.length_nil, List.replicate_succ, List.replicate_zero, List.cons_append, List.nil_append, List.append_nil, List.set_cons_zero, List.set_cons_succ, List.getElem?_cons_zero, List.getElem?_cons_succ, Nat.reduceAdd, Nat.reduceSub, Option.some.injEq, Sl.imm.injEq, Sl.own.injEq, Sl.scr.injEq, exists_eq_left, exists_eq_left', exists_eq_right, exists_eq, exists_eq', exists_and_left, and_assoc, and_true, true_and, ne_eq, not_false_eq_true, Nat.succ_ne_zero, or_true, true_or, true_implies, forall_eq', forall_eq, PyData.int.injEq, PyData.bool.injEq, PyData.list.injEq, PyData.tuple.injEq, List.cons.injEq, i_add, i_iadd, i_sub, i_mul, i_mod, i_fdiv, i_fdivG, i_pow, i_neg, i_le, i_ge, i_gt, i_lt, i_eq, i_ne, i_intI, i_intB, i_abs, i_max, i_min, i_lenL, i_lenT, i_ixL, i_ixT, i_tupL, i_tupT, i_truB, Bool.not_true, Bool.not_false, Bool.false_eq_true, if_true, if_false, reduceIte]
      exact q
    · simp -failIfUnchanged only [wVar, wC, wOp, wUn, wCl, wB, wTr, wAnd, wOr, wNot, wAndV, wOrV, wNotV, wIf, wCh, wNil, wCons, wTup, wLe, wSz, wFn, wFnJ, wFnB, wFnJB, wBNil, wBCons, wBOwn, rsvP, rsvJ, wNext, wRet, wRetN, wDrop, wIfS, wSet, wSetOwn, wNever, wAug, wOpO, wOpR, wClO, wApp, wSetIt, wFrz, wFor, wRg1, wRg2, wSq, wEnum, wZip, wZipM, wgN, wgT, wgNil, wgCons, wYes, wAsgT, wgLs, wLenS, wIxS, wFnS, wIsi, wListOf, wRev, edP, edJ, enP, enJ, enS, NotOwn, Flat, List.map_cons, List.map_nil, List.length_cons, List.length_nil, List.replicate_succ, List.replicate_zero, List.cons_append, List.nil_append, List.append_nil, List.set_cons_zero, List.set_cons_succ, List.getElem?_cons_zero, List.getElem?_cons_succ, Nat.reduceAdd, Nat.reduceSub, Option.some.injEq, Sl.imm.injEq, Sl.own.injEq, Sl.scr.injEq, exists_eq_left, exists_eq_left', exists_eq_right, exists_eq, exists_eq', exists_and_left, and_assoc, and_true, true_and, ne_eq, not_false_eq_true, Nat.succ_ne_zero, or_true, true_or, true_implies, forall_eq', forall_eq, PyData.int.injEq, PyData.bool.injEq, PyData.list.injEq, PyData.tuple.injEq, List.cons.injEq, i_add, i_iadd, i_sub, i_mul, i_mod, i_fdiv, i_fdivG, i_pow, i_neg, i_le, i_ge, i_gt, i_lt, i_eq, i_ne, i_intI, i_intB, i_abs, i_max, i_min, i_lenL, i_lenT, i_ixL, i_ixT, i_tupL, i_tupT, i_truB, Bool.not_true, Bool.not_false, Bool.false_eq_true, if_true, if_false, reduceIte]
      rw [rng_nats]
      unfold rng at q
      rw [List.map_map] at q
      exact ⟨by omega, by omega, q⟩
    · simp -failIfUnchanged only [wip, wVar, wC, wOp, wUn, wCl, wB, wTr, wAnd, wOr, wNot, wAndV, wOrV, wNotV, wIf, wCh, wNil, wCons, wTup, wLe, wSz, wFn, wFnJ, wFnB, wFnJB, wBNil, wBCons, wBOwn, rsvP, rsvJ, wNext, wRet, wRetN, wDrop, wIfS, wSet, wSetOwn, wNever, wAug, wOpO, wOpR, wClO, wApp, wSetIt, wFrz, wFor, wRg1, wRg2, wSq, wEnum, wZip, wZipM, wgN, wgT, wgNil, wgCons, wYes, wAsgT, wgLs, wLenS, wIxS, wFnS, wIsi, wListOf, wRev, edP, edJ, enP, enJ, enS, NotOwn, Flat, List.map_cons, List.map_nil, List.length_cons, List.length_nil, List.replicate_succ, List.replicate_zero, List.cons_append, List.nil_append, List.append_nil, List.set_cons_zero, List.set_cons_succ, List.getElem?_cons_zero, List.getElem?_cons_succ, Nat.reduceAdd, Nat.reduceSub, Option.some.injEq, Sl.imm.injEq, Sl.own.injEq, Sl.scr.injEq, exists_eq_left, exists_eq_left', exists_eq_right, exists_eq, exists_eq', exists_and_left, and_assoc, and_true, true_and, ne_eq, not_false_eq_true, Nat.succ_ne_zero, or_true, true_or, true_implies, forall_eq', forall_eq, PyData.int.injEq, PyData.bool.injEq, PyData.list.injEq, PyData.tuple.injEq, List.cons.injEq, i_add, i_iadd, i_sub, i_mul, i_mod, i_fdiv, i_fdivG, i_pow, i_neg, i_le, i_ge, i_gt, i_lt, i_eq, i_ne, i_intI, i_intB, i_abs, i_max, i_min, i_lenL, i_lenT, i_ixL, i_ixT, i_tupL, i_tupT, i_truB, Bool.not_true, Bool.not_false, Bool.false_eq_true, if_true, if_false, reduceIte]
      exact q
    · have hkl := (allT_ok (by omega) k key hkey).1
      simp -failIfUnchanged only [wVar, wC, wOp, wUn, wCl, wB, wTr, wAnd, wOr, wNot, wAndV, wOrV, wNotV, wIf, wCh, wNil, wCons, wTup, wLe, wSz, wFn, wFnJ, wFnB, wFnJB, wBNil, wBCons, wBOwn, rsvP, rsvJ, wNext, wRet, wRetN, wDrop, wIfS, wSet, wSetOwn, wNever, wAug, wOpO, wOpR, wClO, wApp, wSetIt, wFrz, wFor, wRg1, wRg2, wSq, wEnum, wZip, wZipM, wgN, wgT, wgNil, wgCons, wYes, wAsgT, wgLs, wLenS, wIxS, wFnS, wIsi, wListOf, wRev, edP, edJ, enP, enJ, enS, NotOwn, Flat, List.map_cons, List.map_nil, List.length_cons, List.length_nil, List.replicate_succ, List.replicate_zero, List.cons_append, List.nil_append, List.append_nil, List.set_cons_zero, List.set_cons_succ, List.getElem?_cons_zero, List.getElem?_cons_succ, Nat.reduceAdd, Nat.reduceSub, Option.some.injEq, Sl.imm.injEq, Sl.own.injEq, Sl.scr.injEq, exists_eq_left, exists_eq_left', exists_eq_right, exists_eq, exists_eq', exists_and_left, and_assoc, and_true, true_and, ne_eq, not_false_eq_true, Nat.succ_ne_zero, or_true, true_or, true_implies, forall_eq', forall_eq, PyData.int.injEq, PyData.bool.injEq, PyData.list.injEq, PyData.tuple.injEq, List.cons.injEq, i_add, i_iadd, i_sub, i_mul, i_mod, i_fdiv, i_fdivG, i_pow, i_neg, i_le, i_ge, i_gt, i_lt, i_eq, i_ne, i_intI, i_intB, i_abs, i_max, i_min, i_lenL, i_lenT, i_ixL, i_ixT, i_tupL, i_tupT, i_truB, Bool.not_true, Bool.not_false, Bool.false_eq_true, if_true, if_false, reduceIte]
      refine ⟨by decide, _, i_addT.mpr ⟨sl200 (by rw [List.length_map, hkl, List.length_singleton]; omega), rfl⟩, ?_⟩
      unfold rowD at q ⊢
      rw [List.map_append] at q
      exact q
    · have el : ((allT h k).flatMap fun key => (rng h).map fun y => rowD (key ++ [y])) = (allT h (k + 1)).map rowD := by
        rw [allT, List.map_flatMap]
        congr 1
        funext key
        rw [List.map_map]; rfl
      rw [el, List.length_map]
      exact sl200 (by omega)
    · have el : ((allT h k).flatMap fun key => (rng h).map fun y => rowD (key ++ [y])) = (allT h (k + 1)).map rowD := by
        rw [allT, List.map_flatMap]
        congr 1
        funext key
        rw [List.map_map]; rfl
      rw [el]
      simp -failIfUnchanged only [wVar, wC, wOp, wUn, wCl, wB, wTr, wAnd, wOr, wNot, wAndV, wOrV, wNotV, wIf, wCh, wNil, wCons, wTup, wLe, wSz, wFn, wFnJ, wFnB, wFnJB, wBNil, wBCons, wBOwn, rsvP, rsvJ, wNext, wRet, wRetN, wDrop, wIfS, wSet, wSetOwn, wNever, wAug, wOpO, wOpR, wClO, wApp, wSetIt, wFrz, wFor, wRg1, wRg2, wSq, wEnum, wZip, wZipM, wgN, wgT, wgNil, wgCons, wYes, wAsgT, wgLs, wLenS, wIxS, wFnS, wIsi, wListOf, wRev, edP, edJ, enP, enJ, enS, NotOwn, Flat, List.map_cons, List.map_nil, List.length_cons, List.length_nil, List.replicate_succ, List.replicate_zero, List.cons_append, List.nil_append, List.append_nil, List.set_cons_zero, List.set_cons_succ, List.getElem?_cons_zero, List.getElem?_cons_succ, Nat.reduceAdd, Nat.reduceSub, Option.some.injEq, Sl.imm.injEq, Sl.own.injEq, Sl.scr.injEq, exists_eq_left, exists_eq_left', exists_eq_right, exists_eq, exists_eq', exists_and_left, and_assoc, and_true, true_and, ne_eq, not_false_eq_true, Nat.succ_ne_zero, or_true, true_or, true_implies, forall_eq', forall_eq, PyData.int.injEq, PyData.bool.injEq, PyData.list.injEq, PyData.tuple.injEq, List.cons.injEq, i_add, i_iadd, i_sub, i_mul, i_mod, i_fdiv, i_fdivG, i_pow, i_neg, i_le, i_ge, i_gt, i_lt, i_eq, i_ne, i_intI, i_intB, i_abs, i_max, i_min, i_lenL, i_lenT, i_ixL, i_ixT, i_tupL, i_tupT, i_truB, Bool.not_true, Bool.not_false, Bool.false_eq_true, if_true, if_false, reduceIte]
      exact rec_ _
theorem pu_all_keys (ds Q) (hl : ds.length = 2) (h : wf_all_keys ds Q) : ws_all_keys (edP Q) (enP N_all_keys ds) := by
  obtain ⟨h, n, rfl, hh, hn, hk, q⟩ := h
  unfold ws_all_keys
  (try dsimp only); rw [wSeq_eq]; simp -failIfUnchanged only [N_all_keys, sz0, sz1, sz2, sz3, sz4, sz5, sz6, sz7, sz8, sz9, sz10, sz11, sz12, sz13, sz14, sz15, sz16, sz17, sz18, sz19, sz20, sz21, sz22, sz23, sz24, sz25, sz26, sz27, sz28, sz29, sz30, sz31, sz32, sz33, sz34, sz35, sz36, sz37, sz38, sz39, sz40, wVar, wC, wOp, wUn, wCl, wB, wTr, wAnd, wOr, wNot, wAndV, wOrV, wNotV, wIf, wCh, wNil, wCons, wTup, wLe, wSz, wFn, wFnJ, wFnB, wFnJB, wBNil, wBCons, wBOwn, rsvP, rsvJ, wNext, wRet, wRetN, wDrop, wIfS, wSet, wSetOwn, wNever, wAug, wOpO, wOpR, wClO, wApp, wSetIt, wFrz, wFor, wRg1, wRg2, wSq, wEnum, wZip, wZipM, wgN, wgT, wgNil, wgCons, wYes, wAsgT, wgLs, wLenS, wIxS, wFnS, wIsi, wListOf, wRev, edP, edJ, enP, enJ, enS, NotOwn, Flat, List.map_cons, List.map_nil, List.length_cons, List.length_nil, List.replicate_succ, List.replicate_zero, List.cons_append, List.nil_append, List.append_nil, List.set_cons_zero, List.set_cons_succ, List.getElem?_cons_zero, List.getElem?_cons_succ, Nat.reduceAdd, Nat.reduceSub, Option.some.injEq, Sl.imm.injEq, Sl.own.injEq, Sl.scr.injEq, exists_eq_left, exists_eq_left', exists_eq_right, exists_eq, exists_eq', exists_and_left, and_assoc, and_true, true_and, ne_eq, not_false_eq_true, Nat.succ_ne_zero, or_true, true_or, true_implies, forall_eq', forall_eq, PyData.int.injEq, PyData.bool.injEq, PyData.list.injEq, PyData.tuple.injEq, List.cons.injEq, i_add, i_iadd, i_sub, i_mul, i_mod, i_fdiv, i_fdivG, i_pow, i_neg, i_le, i_ge, i_gt, i_lt, i_eq, i_ne, i_intI, i_intB, i_abs, i_max, i_min, i_lenL, i_lenT, i_ixL, i_ixT, i_tupL, i_tupT, i_truB, Bool.not_true, Bool.not_false, Bool.false_eq_true, if_true, if_false, reduceIte]
  (try dsimp only); rw [wSeq_eq]; simp -failIfUnchanged only [wVar, wC, wOp, wUn, wCl, wB, wTr, wAnd, wOr, wNot, wAndV, wOrV, wNotV, wIf, wCh, wNil, wCons, wTup, wLe, wSz, wFn, wFnJ, wFnB, wFnJB, wBNil, wBCons, wBOwn, rsvP, rsvJ, wNext, wRet, wRetN, wDrop, wIfS, wSet, wSetOwn, wNever, wAug, wOpO, wOpR, wClO, wApp, wSetIt, wFrz, wFor, wRg1, wRg2, wSq, wEnum, wZip, wZipM, wgN, wgT, wgNil, wgCons, wYes, wAsgT, wgLs, wLenS, wIxS, wFnS, wIsi, wListOf, wRev, edP, edJ, enP, enJ, enS, NotOwn, Flat, List.map_cons, List.map_nil, List.length_cons, List.length_nil, List.replicate_succ, List.replicate_zero, List.cons_append, List.nil_append, List.append_nil, List.set_cons_zero, List.set_cons_succ, List.getElem?_cons_zero, List.getElem?_cons_succ, Nat.reduceAdd, Nat.reduceSub, Option.some.injEq, Sl.imm.injEq, Sl.own.injEq, Sl.scr.injEq, exists_eq_left, exists_eq_left', exists_eq_right, exists_eq, exists_eq', exists_and_left, and_assoc, and_true, true_and, ne_eq, not_false_eq_true, Nat.succ_ne_zero, or_true, true_or, true_implies, forall_eq', forall_eq, PyData.int.injEq, PyData.bool.injEq, PyData.list.injEq, PyData.tuple.injEq, List.cons.injEq, i_add, i_iadd, i_sub, i_mul, i_mod, i_fdiv, i_fdivG, i_pow, i_neg, i_le, i_ge, i_gt, i_lt, i_eq, i_ne, i_intI, i_intB, i_abs, i_max, i_min, i_lenL, i_lenT, i_ixL, i_ixT, i_tupL, i_tupT, i_truB, Bool.not_true, Bool.not_false, Bool.false_eq_true, if_true, if_false, reduceIte]
  refine ⟨by omega, by omega, ?_⟩
  refine found_loop hh hn hk _ 0 .un (by rw [rng_len]; omega) fun s3 => ?_
  simp -failIfUnchanged only [rowsL, wVar, wC, wOp, wUn, wCl, wB, wTr, wAnd, wOr, wNot, wAndV, wOrV, wNotV, wIf, wCh, wNil, wCons, wTup, wLe, wSz, wFn, wFnJ, wFnB, wFnJB, wBNil, wBCons, wBOwn, rsvP, rsvJ, wNext, wRet, wRetN, wDrop, wIfS, wSet, wSetOwn, wNever, wAug, wOpO, wOpR, wClO, wApp, wSetIt, wFrz, wFor, wRg1, wRg2, wSq, wEnum, wZip, wZipM, wgN, wgT, wgNil, wgCons, wYes, wAsgT, wgLs, wLenS, wIxS, wFnS, wIsi, wListOf, wRev, edP, edJ, enP, enJ, enS, NotOwn, Flat, List.map_cons, List.map_nil, List.length_cons, List.length_nil, List.replicate_succ, List.replicate_zero, List.cons_append, List.nil_append, List.append_nil, List.set_cons_zero, List.set_cons_succ, List.getElem?_cons_zero, List.getElem?_cons_succ, Nat.reduceAdd, Nat.reduceSub, Option.some.injEq, Sl.imm.injEq, Sl.own.injEq, Sl.scr.injEq, exists_eq_left, exists_eq_left', exists_eq_right, exists_eq, exists_eq', exists_and_left, and_assoc, and_true, true_and, ne_eq, not_false_eq_true, Nat.succ_ne_zero, or_true, true_or, true_implies, forall_eq', forall_eq, PyData.int.injEq, PyData.bool.injEq, PyData.list.injEq, PyData.tuple.injEq, List.cons.injEq, i_add, i_iadd, i_sub, i_mul, i_mod, i_fdiv, i_fdivG, i_pow, i_neg, i_le, i_ge, i_gt, i_lt, i_eq, i_ne, i_intI, i_intB, i_abs, i_max, i_min, i_lenL, i_lenT, i_ixL, i_ixT, i_tupL, i_tupT, i_truB, Bool.not_true, Bool.not_false, Bool.false_eq_true, if_true, if_false, reduceIte]
  exact q
theorem pu_keys (ds Q) (hl : ds.length = 2) (h : wf_keys ds Q) : ws_keys (edP Q) (enP N_keys ds) := by
  obtain ⟨h, n, rfl, hh, hn, hk, q⟩ := h
  simp only [ws_keys, N_keys, wf_check_lone, wf_check_few_keys, wf_all_keys, wVar, wC, wOp, wUn, wCl, wB, wTr, wAnd, wOr, wNot, wAndV, wOrV, wNotV, wIf, wCh, wNil, wCons, wTup, wLe, wSz, wFn, wFnJ, wFnB, wFnJB, wBNil, wBCons, wBOwn, rsvP, rsvJ, wNext, wSeq, wRet, wRetN, wDrop, wIfS, wSet, wSetOwn, wNever, wAug, wOpO, wOpR, wClO, wApp, wSetIt, wFrz, wFor, wRg1, wRg2, wSq, wEnum, wZip, wZipM, wgN, wgT, wgNil, wgCons, wYes, wAsgT, wgLs, wLenS, wIxS, wFnS, wIsi, wListOf, wRev, edP, edJ, enP, enJ, enS, NotOwn, Flat, List.map_cons, List.map_nil, List.length_cons, List.length_nil, List.replicate_succ, List.replicate_zero, List.cons_append, List.nil_append, List.append_nil, List.set_cons_zero, List.set_cons_succ, List.getElem?_cons_zero, List.getElem?_cons_succ, Nat.reduceAdd, Nat.reduceSub, Option.some.injEq, Sl.imm.injEq, Sl.own.injEq, Sl.scr.injEq, exists_eq_left, exists_eq_left', exists_eq_right, exists_eq, exists_eq', exists_and_left, and_assoc, and_true, true_and, ne_eq, not_false_eq_true, Nat.succ_ne_zero, or_true, true_or, true_implies, forall_eq', forall_eq, PyData.int.injEq, PyData.bool.injEq, PyData.list.injEq, PyData.tuple.injEq, List.cons.injEq, i_add, i_iadd, i_sub, i_mul, i_mod, i_fdiv, i_fdivG, i_pow, i_neg, i_le, i_ge, i_gt, i_lt, i_eq, i_ne, i_intI, i_intB, i_abs, i_max, i_min, i_lenL, i_lenT, i_ixL, i_ixT, i_tupL, i_tupT, i_truB, Bool.not_true, Bool.not_false, Bool.false_eq_true, if_true, if_false, reduceIte]
  exact ⟨hh, ⟨by omega, by omega⟩, n, by omega, hh, hn, hk, n, by omega, hh, hn, hk, q⟩
theorem pu_asked_numbers (ds Q) (hl : ds.length = 5) (h : wf_asked_numbers ds Q) : ws_asked_numbers (edP Q) (enP N_asked_numbers ds) := by
  obtain ⟨h, n, w, key, rfl, hh, hw, hk, n0, n1, hkr, q⟩ := h
  simp only [ws_asked_numbers, N_asked_numbers, wf_check_lone, wf_check_between, wf_check_key, wf_numbers_of, wVar, wC, wOp, wUn, wCl, wB, wTr, wAnd, wOr, wNot, wAndV, wOrV, wNotV, wIf, wCh, wNil, wCons, wTup, wLe, wSz, wFn, wFnJ, wFnB, wFnJB, wBNil, wBCons, wBOwn, rsvP, rsvJ, wNext, wSeq, wRet, wRetN, wDrop, wIfS, wSet, wSetOwn, wNever, wAug, wOpO, wOpR, wClO, wApp, wSetIt, wFrz, wFor, wRg1, wRg2, wSq, wEnum, wZip, wZipM, wgN, wgT, wgNil, wgCons, wYes, wAsgT, wgLs, wLenS, wIxS, wFnS, wIsi, wListOf, wRev, edP, edJ, enP, enJ, enS, NotOwn, Flat, List.map_cons, List.map_nil, List.length_cons, List.length_nil, List.replicate_succ, List.replicate_zero, List.cons_append, List.nil_append, List.append_nil, List.set_cons_zero, List.set_cons_succ, List.getElem?_cons_zero, List.getElem?_cons_succ, Nat.reduceAdd, Nat.reduceSub, Option.some.injEq, Sl.imm.injEq, Sl.own.injEq, Sl.scr.injEq, exists_eq_left, exists_eq_left', exists_eq_right, exists_eq, exists_eq', exists_and_left, and_assoc, and_true, true_and, ne_eq, not_false_eq_true, Nat.succ_ne_zero, or_true, true_or, true_implies, forall_eq', forall_eq, PyData.int.injEq, PyData.bool.injEq, PyData.list.injEq, PyData.tuple.injEq, List.cons.injEq, i_add, i_iadd, i_sub, i_mul, i_mod, i_fdiv, i_fdivG, i_pow, i_neg, i_le, i_ge, i_gt, i_lt, i_eq, i_ne, i_intI, i_intB, i_abs, i_max, i_min, i_lenL, i_lenT, i_ixL, i_ixT, i_tupL, i_tupT, i_truB, Bool.not_true, Bool.not_false, Bool.false_eq_true, if_true, if_false, reduceIte]
  exact ⟨hh, ⟨by omega, by omega⟩, by omega, by omega, key, rfl, ⟨by omega, hkr⟩, ⟨by omega, by omega⟩, n0, by omega, n, w, rfl, key, rfl, rfl, hh, hw, by omega, q⟩
theorem pu_key_of (ds Q) (hl : ds.length = 5) (h : wf_key_of ds Q) : ws_key_of (edP Q) (enP N_key_of ds) := by
  obtain ⟨h, n, w, a, rfl, hh, hw, ha, n0, n1, har, q⟩ := h
  have h2 := hh.1
  simp only [ws_key_of, N_key_of, wf_check_lone, wf_check_between, wf_check_numbers, wVar, wC, wOp, wUn, wCl, wB, wTr, wAnd, wOr, wNot, wAndV, wOrV, wNotV, wIf, wCh, wNil, wCons, wTup, wLe, wSz, wFn, wFnJ, wFnB, wFnJB, wBNil, wBCons, wBOwn, rsvP, rsvJ, wNext, wSeq, wRet, wRetN, wDrop, wIfS, wSet, wSetOwn, wNever, wAug, wOpO, wOpR, wClO, wApp, wSetIt, wFrz, wFor, wRg1, wRg2, wSq, wEnum, wZip, wZipM, wgN, wgT, wgNil, wgCons, wYes, wAsgT, wgLs, wLenS, wIxS, wFnS, wIsi, wListOf, wRev, edP, edJ, enP, enJ, enS, NotOwn, Flat, List.map_cons, List.map_nil, List.length_cons, List.length_nil, List.replicate_succ, List.replicate_zero, List.cons_append, List.nil_append, List.append_nil, List.set_cons_zero, List.set_cons_succ, List.getElem?_cons_zero, List.getElem?_cons_succ, Nat.reduceAdd, Nat.reduceSub, Option.some.injEq, Sl.imm.injEq, Sl.own.injEq, Sl.scr.injEq, exists_eq_left, exists_eq_left', exists_eq_right, exists_eq, exists_eq', exists_and_left, and_assoc, and_true, true_and, ne_eq, not_false_eq_true, Nat.succ_ne_zero, or_true, true_or, true_implies, forall_eq', forall_eq, PyData.int.injEq, PyData.bool.injEq, PyData.list.injEq, PyData.tuple.injEq, List.cons.injEq, i_add, i_iadd, i_sub, i_mul, i_mod, i_fdiv, i_fdivG, i_pow, i_neg, i_le, i_ge, i_gt, i_lt, i_eq, i_ne, i_intI, i_intB, i_abs, i_max, i_min, i_lenL, i_lenT, i_ixL, i_ixT, i_tupL, i_tupT, i_truB, Bool.not_true, Bool.not_false, Bool.false_eq_true, if_true, if_false, reduceIte]
  refine ⟨hh, ⟨by omega, by omega⟩, by omega, by omega, n0, by omega, a, rfl, ⟨rfl, har⟩, ⟨by omega, by omega⟩, ?_⟩
  simp -failIfUnchanged only [rowD, i_sumT, wVar, wC, wOp, wUn, wCl, wB, wTr, wAnd, wOr, wNot, wAndV, wOrV, wNotV, wIf, wCh, wNil, wCons, wTup, wLe, wSz, wFn, wFnJ, wFnB, wFnJB, wBNil, wBCons, wBOwn, rsvP, rsvJ, wNext, wRet, wRetN, wDrop, wIfS, wSet, wSetOwn, wNever, wAug, wOpO, wOpR, wClO, wApp, wSetIt, wFrz, wFor, wRg1, wRg2, wSq, wEnum, wZip, wZipM, wgN, wgT, wgNil, wgCons, wYes, wAsgT, wgLs, wLenS, wIxS, wFnS, wIsi, wListOf, wRev, edP, edJ, enP, enJ, enS, NotOwn, Flat, List.map_cons, List.map_nil, List.length_cons, List.length_nil, List.replicate_succ, List.replicate_zero, List.cons_append, List.nil_append, List.append_nil, List.set_cons_zero, List.set_cons_succ, List.getElem?_cons_zero, List.getElem?_cons_succ, Nat.reduceAdd, Nat.reduceSub, Option.some.injEq, Sl.imm.injEq, Sl.own.injEq, Sl.scr.injEq, exists_eq_left, exists_eq_left', exists_eq_right, exists_eq, exists_eq', exists_and_left, and_assoc, and_true, true_and, ne_eq, not_false_eq_true, Nat.succ_ne_zero, or_true, true_or, true_implies, forall_eq', forall_eq, PyData.int.injEq, PyData.bool.injEq, PyData.list.injEq, PyData.tuple.injEq, List.cons.injEq, i_add, i_iadd, i_sub, i_mul, i_mod, i_fdiv, i_fdivG, i_pow, i_neg, i_le, i_ge, i_gt, i_lt, i_eq, i_ne, i_intI, i_intB, i_abs, i_max, i_min, i_lenL, i_lenT, i_ixL, i_ixT, i_tupL, i_tupT, i_truB, Bool.not_true, Bool.not_false, Bool.false_eq_true, if_true, if_false, reduceIte]
  refine ⟨by omega, ?_⟩
  unfold keyD at q
  by_cases e : a.sum % h = n
  · rw [if_neg (by simpa using e)]
    rw [if_pos e] at q
    simp -failIfUnchanged only [wSl, wPart, wNoP, tl_ne, lt_ne, false_and, exists_false, false_or, or_false, i_addT, wVar, wC, wOp, wUn, wCl, wB, wTr, wAnd, wOr, wNot, wAndV, wOrV, wNotV, wIf, wCh, wNil, wCons, wTup, wLe, wSz, wFn, wFnJ, wFnB, wFnJB, wBNil, wBCons, wBOwn, rsvP, rsvJ, wNext, wRet, wRetN, wDrop, wIfS, wSet, wSetOwn, wNever, wAug, wOpO, wOpR, wClO, wApp, wSetIt, wFrz, wFor, wRg1, wRg2, wSq, wEnum, wZip, wZipM, wgN, wgT, wgNil, wgCons, wYes, wAsgT, wgLs, wLenS, wIxS, wFnS, wIsi, wListOf, wRev, edP, edJ, enP, enJ, enS, NotOwn, Flat, List.map_cons, List.map_nil, List.length_cons, List.length_nil, List.replicate_succ, List.replicate_zero, List.cons_append, List.nil_append, List.append_nil, List.set_cons_zero, List.set_cons_succ, List.getElem?_cons_zero, List.getElem?_cons_succ, Nat.reduceAdd, Nat.reduceSub, Option.some.injEq, Sl.imm.injEq, Sl.own.injEq, Sl.scr.injEq, exists_eq_left, exists_eq_left', exists_eq_right, exists_eq, exists_eq', exists_and_left, and_assoc, and_true, true_and, ne_eq, not_false_eq_true, Nat.succ_ne_zero, or_true, true_or, true_implies, forall_eq', forall_eq, PyData.int.injEq, PyData.bool.injEq, PyData.list.injEq, PyData.tuple.injEq, List.cons.injEq, i_add, i_iadd, i_sub, i_mul, i_mod, i_fdiv, i_fdivG, i_pow, i_neg, i_le, i_ge, i_gt, i_lt, i_eq, i_ne, i_intI, i_intB, i_abs, i_max, i_min, i_lenL, i_lenT, i_ixL, i_ixT, i_tupL, i_tupT, i_truB, Bool.not_true, Bool.not_false, Bool.false_eq_true, if_true, if_false, reduceIte]
    rw [cut_to, show ((w : Int) + 1) = ((w + 1 : Nat) : Int) by omega, cut_from, ← List.map_take, ← List.map_drop, ← List.map_append]
    exact ⟨sl200 (by simp only [List.length_map, List.length_take, List.length_drop]; omega), q⟩
  · rw [if_pos (by simpa using e)]
    rw [if_neg e] at q
    exact q
end K60

set_option Elab.async false
set_option linter.all false
set_option maxRecDepth 100000
set_option maxHeartbeats 4000000
namespace K60
open PySem PySem.Spec PyProof.Rows L2 Pd
theorem i_eqRow {a b : List Int} {z : D} : dEq (rowD a) (rowD b) z ↔ z = .bool (decide (a = b)) := encR.eq (by decide)
theorem i_neRow {a b : List Int} {z : D} : dNe (rowD a) (rowD b) z ↔ z = .bool (decide (a ≠ b)) := encR.ne (by decide)
theorem i_neRl {a b : List (List Int)} {z : D} : dNe (rowsL a) (rowsL b) z ↔ z = .bool (decide (a ≠ b)) := encRl.ne (by decide)
theorem i_neRs {a b : List (List Int)} {z : D} : dNe (rowsD a) (rowsD b) z ↔ z = .bool (decide (a ≠ b)) := encRs.ne (by decide)
theorem ext_loop {h : Int} {d1 : D} {s2 s3 : Sl} {R : Ed} (hh : Hs h) : ∀ (ks acc : List (List Int)) (s5 : Sl), (∀ k ∈ ks, k.length ≤ 6) → acc.length + (ks.flatMap fun key => (rng h).map fun x => key ++ [x]).length ≤ 100 →
    (∀ s5, R.nx [.imm (.int h), .imm d1, s2, s3, .own ((acc ++ ks.flatMap fun key => (rng h).map fun x => key ++ [x]).map rowD), s5, .un]) →
    forW (wgN 5) (wExt 4 (wLe (wLc (wRg1 (wCons (wVar 0) wNil)) (wgN 6) wYes (wOp dAdd (wVar 5) (wTup (wCons (wVar 6) wNil))) [6]))) R (ks.map rowD) [.imm (.int h), .imm d1, s2, s3, .own (acc.map rowD), s5, .un]
  | [], acc, s5, _, _, q => by
    have := q s5
    rw [List.flatMap_nil, List.append_nil] at this
    exact this
  | k :: ks, acc, s5, hk, hl, q => by
    have h2 := hh.1
    have h6 := hh.2
    rw [List.flatMap_cons, List.length_append, List.length_map] at hl
    have hk1 := hk k List.mem_cons_self
    have rec_ := fun s5 => ext_loop (d1 := d1) (s2 := s2) (s3 := s3) (R := R) hh ks (acc ++ (rng h).map fun x => k ++ [x]) s5 (fun z hz => hk z (List.mem_cons_of_mem _ hz)) (by rw [List.length_append, List.length_map]; omega) fun s5 => by
      rw [List.append_assoc]; exact q s5
    rw [List.map_cons]
    unfold forW
    generalize forW (wgN 5) _ R (ks.map rowD) = N at rec_ ⊢
    simp -failIfUnchanged only [wExt, wVar, wC, wOp, wUn, wCl, wB, wTr, wAnd, wOr, wNot, wAndV, wOrV, wNotV, wIf, wCh, wNil, wCons, wTup, wLe, wSz, wFn, wFnJ, wFnB, wFnJB, wBNil, wBCons, wBOwn, rsvP, rsvJ, wNext, wRet, wRetN, wDrop, wIfS, wSet, wSetOwn, wNever, wAug, wOpO, wOpR, wClO, wApp, wSetIt, wFrz, wFor, wRg1, wRg2, wSq, wEnum, wZip, wZipM, wgN, wgT, wgNil, wgCons, wYes, wAsgT, wgLs, wLenS, wIxS, wFnS, wIsi, wListOf, wRev, edP, edJ, enP, enJ, enS, NotOwn, Flat, List.map_cons, List.map_nil, List.length_cons, List.length_nil, List.replicate_succ, List.replicate_zero, List.cons_append, List.nil_append, List.append_nil, List.set_cons_zero, List.set_cons_succ, List.getElem?_cons_zero, List.getElem?_cons_succ, Nat.reduceAdd, Nat.reduceSub, Option.some.injEq, Sl.imm.injEq, Sl.own.injEq, Sl.scr.injEq, exists_eq_left, exists_eq_left', exists_eq_right, exists_eq, exists_eq', exists_and_left, and_assoc, and_true, true_and, ne_eq, not_false_eq_true, Nat.succ_ne_zero, or_true, true_or, true_implies, forall_eq', forall_eq, PyData.int.injEq, PyData.bool.injEq, PyData.list.injEq, PyData.tuple.injEq, List.cons.injEq, i_add, i_iadd, i_sub, i_mul, i_mod, i_fdiv, i_fdivG, i_pow, i_neg, i_le, i_ge, i_gt, i_lt, i_eq, i_ne, i_intI, i_intB, i_abs, i_max, i_min, i_lenL, i_lenT, i_ixL, i_ixT, i_tupL, i_tupT, i_truB, Bool.not_true, Bool.not_false, Bool.false_eq_true, if_true, if_false, reduceIte]
    refine lcY (α := Int) (e1 := [.imm (.int h), .imm d1, s2, s3, .own (acc.map rowD), .imm (rowD k), .un]) (X := .int) (f := fun y => rowD (k ++ [y])) (xs := rng h) (fun y => [.imm (.int h), .imm d1, s2, s3, .own (acc.map rowD), .imm (rowD k), .imm (.int y)]) (by decide) (fun Q q => ?_) (no1 trivial) (by unfold rng; rw [List.length_map, List.length_range]; exact sl200 (by omega)) (fun _ => rfl) (fun y hy Q q => ?_) (fun y hy Q q => ?_) ?_
    · simp -failIfUnchanged only [wVar, wC, wOp, wUn, wCl, wB, wTr, wAnd, wOr, wNot, wAndV, wOrV, wNotV, wIf, wCh, wNil, wCons, wTup, wLe, wSz, wFn, wFnJ, wFnB, wFnJB, wBNil, wBCons, wBOwn, rsvP, rsvJ, wNext, wRet, wRetN, wDrop, wIfS, wSet, wSetOwn, wNever, wAug, wOpO, wOpR, wClO, wApp, wSetIt, wFrz, wFor, wRg1, wRg2, wSq, wEnum, wZip, wZipM, wgN, wgT, wgNil, wgCons, wYes, wAsgT, wgLs, wLenS, wIxS, wFnS, wIsi, wListOf, wRev, edP, edJ, enP, enJ, enS, NotOwn, Flat, List.map_cons, List.map_nil, List.length_cons, List.length_nil, List.replicate_succ, List.replicate_zero, List.cons_append, List.nil_append, List.append_nil, List.set_cons_zero, List.set_cons_succ, List.getElem?_cons_zero, List.getElem?_cons_succ, Nat.reduceAdd, Nat.reduceSub, Option.some.injEq, Sl.imm.injEq, Sl.own.injEq, Sl.scr.injEq, exists_eq_left, exists_eq_left', exists_eq_right, exists_eq, exists_eq', exists_and_left, and_assoc, and_true, true_and, ne_eq, not_false_eq_true, Nat.succ_ne_zero, or_true, true_or, true_implies, forall_eq', forall_eq, PyData.int.injEq, PyData.bool.injEq, PyData.list.injEq, PyData.tuple.injEq, List.cons.injEq, i_add, i_iadd, i_sub, i_mul, i_mod, i_fdiv, i_fdivG, i_pow, i_neg, i_le, i_ge, i_gt, i_lt, i_eq, i_ne, i_intI, i_intB, i_abs, i_max, i_min, i_lenL, i_lenT, i_ixL, i_ixT, i_tupL, i_tupT, i_truB, Bool.not_true, Bool.not_false, Bool.false_eq_true, if_true, if_false, reduceIte]
      rw [rng_nats]
      unfold rng at q
      rw [List.map_map] at q
      exact ⟨by omega, by omega, q⟩
    · simp -failIfUnchanged only [wip, wVar, wC, wOp, wUn, wCl, wB, wTr, wAnd, wOr, wNot, wAndV, wOrV, wNotV, wIf, wCh, wNil, wCons, wTup, wLe, wSz, wFn, wFnJ, wFnB, wFnJB, wBNil, wBCons, wBOwn, rsvP, rsvJ, wNext, wRet, wRetN, wDrop, wIfS, wSet, wSetOwn, wNever, wAug, wOpO, wOpR, wClO, wApp, wSetIt, wFrz, wFor, wRg1, wRg2, wSq, wEnum, wZip, wZipM, wgN, wgT, wgNil, wgCons, wYes, wAsgT, wgLs, wLenS, wIxS, wFnS, wIsi, wListOf, wRev, edP, edJ, enP, enJ, enS, NotOwn, Flat, List.map_cons, List.map_nil, List.length_cons, List.length_nil, List.replicate_succ, List.replicate_zero, List.cons_append, List.nil_append, List.append_nil, List.set_cons_zero, List.set_cons_succ, List.getElem?_cons_zero, List.getElem?_cons_succ, Nat.reduceAdd, Nat.reduceSub, Option.some.injEq, Sl.imm.injEq, Sl.own.injEq, Sl.scr.injEq, exists_eq_left, exists_eq_left', exists_eq_right, exists_eq, exists_eq', exists_and_left, and_assoc, and_true, true_and, ne_eq, not_false_eq_true, Nat.succ_ne_zero, or_true, true_or, true_implies, forall_eq', forall_eq, PyData.int.injEq, PyData.bool.injEq, PyData.list.injEq, PyData.tuple.injEq, List.cons.injEq, i_add, i_iadd, i_sub, i_mul, i_mod, i_fdiv, i_fdivG, i_pow, i_neg, i_le, i_ge, i_gt, i_lt, i_eq, i_ne, i_intI, i_intB, i_abs, i_max, i_min, i_lenL, i_lenT, i_ixL, i_ixT, i_tupL, i_tupT, i_truB, Bool.not_true, Bool.not_false, Bool.false_eq_true, if_true, if_false, reduceIte]
      exact q
    · simp -failIfUnchanged only [wVar, wC, wOp, wUn, wCl, wB, wTr, wAnd, wOr, wNot, wAndV, wOrV, wNotV, wIf, wCh, wNil, wCons, wTup, wLe, wSz, wFn, wFnJ, wFnB, wFnJB, wBNil, wBCons, wBOwn, rsvP, rsvJ, wNext, wRet, wRetN, wDrop, wIfS, wSet, wSetOwn, wNever, wAug, wOpO, wOpR, wClO, wApp, wSetIt, wFrz, wFor, wRg1, wRg2, wSq, wEnum, wZip, wZipM, wgN, wgT, wgNil, wgCons, wYes, wAsgT, wgLs, wLenS, wIxS, wFnS, wIsi, wListOf, wRev, edP, edJ, enP, enJ, enS, NotOwn, Flat, List.map_cons, List.map_nil, List.length_cons, List.length_nil, List.replicate_succ, List.replicate_zero, List.cons_append, List.nil_append, List.append_nil, List.set_cons_zero, List.set_cons_succ, List.getElem?_cons_zero, List.getElem?_cons_succ, Nat.reduceAdd, Nat.reduceSub, Option.some.injEq, Sl.imm.injEq, Sl.own.injEq, Sl.scr.injEq, exists_eq_left, exists_eq_left', exists_eq_right, exists_eq, exists_eq', exists_and_left, and_assoc, and_true, true_and, ne_eq, not_false_eq_true, Nat.succ_ne_zero, or_true, true_or, true_implies, forall_eq', forall_eq, PyData.int.injEq, PyData.bool.injEq, PyData.list.injEq, PyData.tuple.injEq, List.cons.injEq, i_add, i_iadd, i_sub, i_mul, i_mod, i_fdiv, i_fdivG, i_pow, i_neg, i_le, i_ge, i_gt, i_lt, i_eq, i_ne, i_intI, i_intB, i_abs, i_max, i_min, i_lenL, i_lenT, i_ixL, i_ixT, i_tupL, i_tupT, i_truB, Bool.not_true, Bool.not_false, Bool.false_eq_true, if_true, if_false, reduceIte]
      refine ⟨by decide, _, i_addT.mpr ⟨sl200 (by rw [List.length_map, List.length_singleton]; omega), rfl⟩, ?_⟩
      unfold rowD at q ⊢
      rw [List.map_append] at q
      exact q
    · simp -failIfUnchanged only [wVar, wC, wOp, wUn, wCl, wB, wTr, wAnd, wOr, wNot, wAndV, wOrV, wNotV, wIf, wCh, wNil, wCons, wTup, wLe, wSz, wFn, wFnJ, wFnB, wFnJB, wBNil, wBCons, wBOwn, rsvP, rsvJ, wNext, wRet, wRetN, wDrop, wIfS, wSet, wSetOwn, wNever, wAug, wOpO, wOpR, wClO, wApp, wSetIt, wFrz, wFor, wRg1, wRg2, wSq, wEnum, wZip, wZipM, wgN, wgT, wgNil, wgCons, wYes, wAsgT, wgLs, wLenS, wIxS, wFnS, wIsi, wListOf, wRev, edP, edJ, enP, enJ, enS, NotOwn, Flat, List.map_cons, List.map_nil, List.length_cons, List.length_nil, List.replicate_succ, List.replicate_zero, List.cons_append, List.nil_append, List.append_nil, List.set_cons_zero, List.set_cons_succ, List.getElem?_cons_zero, List.getElem?_cons_succ, Nat.reduceAdd, Nat.reduceSub, Option.some.injEq, Sl.imm.injEq, Sl.own.injEq, Sl.scr.injEq, exists_eq_left, exists_eq_left', exists_eq_right, exists_eq, exists_eq', exists_and_left, and_assoc, and_true, true_and, ne_eq, not_false_eq_true, Nat.succ_ne_zero, or_true, true_or, true_implies, forall_eq', forall_eq, PyData.int.injEq, PyData.bool.injEq, PyData.list.injEq, PyData.tuple.injEq, List.cons.injEq, i_add, i_iadd, i_sub, i_mul, i_mod, i_fdiv, i_fdivG, i_pow, i_neg, i_le, i_ge, i_gt, i_lt, i_eq, i_ne, i_intI, i_intB, i_abs, i_max, i_min, i_lenL, i_lenT, i_ixL, i_ixT, i_tupL, i_tupT, i_truB, Bool.not_true, Bool.not_false, Bool.false_eq_true, if_true, if_false, reduceIte]
      refine ⟨sl200 (by rw [List.length_map, List.length_map]; omega), ?_⟩
      have := rec_ (.imm (rowD k))
      rw [List.map_append, List.map_map] at this
      exact this
theorem all_loop {h : Int} {d1 : D} {n : Nat} {R : Ed} (hh : Hs h) (hn : n ≤ 3) (hk : h ^ n ≤ 64) : ∀ (xs : List D) (k : Nat) (s3 s4 s5 : Sl), k + xs.length = n → (∀ s3 s4 s5, R.nx [.imm (.int h), .imm d1, .imm (rowsL (allT h n)), s3, s4, s5, .un]) →
    forW (wgN 3) (wSeq (wSetOwn 4 (wSz wNil)) (wSeq (wFor (wSq (wVar 2)) (wgN 5) (wExt 4 (wLe (wLc (wRg1 (wCons (wVar 0) wNil)) (wgN 6) wYes (wOp dAdd (wVar 5) (wTup (wCons (wVar 6) wNil))) [6])))) (wFrz 4 (wSet 2 (wVar 4))))) R xs [.imm (.int h), .imm d1, .imm (rowsL (allT h k)), s3, s4, s5, .un]
  | [], k, s3, s4, s5, e, q => by
    have : k = n := by simpa using e
    rw [this]; exact q s3 s4 s5
  | x :: xs, k, s3, s4, s5, e, q => by
    have h2 := hh.1
    have h6 := hh.2
    rw [List.length_cons] at e
    have rec_ := fun s3 s4 s5 => all_loop (d1 := d1) (R := R) hh hn hk xs (k + 1) s3 s4 s5 (by omega) q
    have hle : ((allT h (k + 1)).length : Int) ≤ 64 := by
      rw [allT_len (by omega)]
      have : h ^ (k + 1) * 1 ≤ h ^ (k + 1) * h ^ (n - (k + 1)) := Int.mul_le_mul_of_nonneg_left (pow_bd (by omega) h6 _).1 (by have := (pow_bd (by omega) h6 (k + 1)).1; omega)
      rw [← Int.pow_add, show k + 1 + (n - (k + 1)) = n by omega] at this
      omega
    unfold forW
    generalize forW (wgN 3) _ R xs = N at rec_ ⊢
    simp -failIfUnchanged only [wVar, wC, wOp, wUn, wCl, wB, wTr, wAnd, wOr, wNot, wAndV, wOrV, wNotV, wIf, wCh, wNil, wCons, wTup, wLe, wSz, wFn, wFnJ, wFnB, wFnJB, wBNil, wBCons, wBOwn, rsvP, rsvJ, wNext, wRet, wRetN, wDrop, wIfS, wSet, wSetOwn, wNever, wAug, wOpO, wOpR, wClO, wApp, wSetIt, wFrz, wFor, wRg1, wRg2, wSq, wEnum, wZip, wZipM, wgN, wgT, wgNil, wgCons, wYes, wAsgT, wgLs, wLenS, wIxS, wFnS, wIsi, wListOf, wRev, edP, edJ, enP, enJ, enS, NotOwn, Flat, List.map_cons, List.map_nil, List.length_cons, List.length_nil, List.replicate_succ, List.replicate_zero, List.cons_append, List.nil_append, List.append_nil, List.set_cons_zero, List.set_cons_succ, List.getElem?_cons_zero, List.getElem?_cons_succ, Nat.reduceAdd, Nat.reduceSub, Option.some.injEq, Sl.imm.injEq, Sl.own.injEq, Sl.scr.injEq, exists_eq_left, exists_eq_left', exists_eq_right, exists_eq, exists_eq', exists_and_left, and_assoc, and_true, true_and, ne_eq, not_false_eq_true, Nat.succ_ne_zero, or_true, true_or, true_implies, forall_eq', forall_eq, PyData.int.injEq, PyData.bool.injEq, PyData.list.injEq, PyData.tuple.injEq, List.cons.injEq, i_add, i_iadd, i_sub, i_mul, i_mod, i_fdiv, i_fdivG, i_pow, i_neg, i_le, i_ge, i_gt, i_lt, i_eq, i_ne, i_intI, i_intB, i_abs, i_max, i_min, i_lenL, i_lenT, i_ixL, i_ixT, i_tupL, i_tupT, i_truB, Bool.not_true, Bool.not_false, Bool.false_eq_true, if_true, if_false, reduceIte]
    (try dsimp only); rw [wSeq_eq]; simp -failIfUnchanged only [sz0, sz1, sz2, sz3, sz4, sz5, sz6, sz7, sz8, sz9, sz10, sz11, sz12, sz13, sz14, sz15, sz16, sz17, sz18, sz19, sz20, sz21, sz22, sz23, sz24, sz25, sz26, sz27, sz28, sz29, sz30, sz31, sz32, sz33, sz34, sz35, sz36, sz37, sz38, sz39, sz40, wVar, wC, wOp, wUn, wCl, wB, wTr, wAnd, wOr, wNot, wAndV, wOrV, wNotV, wIf, wCh, wNil, wCons, wTup, wLe, wSz, wFn, wFnJ, wFnB, wFnJB, wBNil, wBCons, wBOwn, rsvP, rsvJ, wNext, wRet, wRetN, wDrop, wIfS, wSet, wSetOwn, wNever, wAug, wOpO, wOpR, wClO, wApp, wSetIt, wFrz, wFor, wRg1, wRg2, wSq, wEnum, wZip, wZipM, wgN, wgT, wgNil, wgCons, wYes, wAsgT, wgLs, wLenS, wIxS, wFnS, wIsi, wListOf, wRev, edP, edJ, enP, enJ, enS, NotOwn, Flat, List.map_cons, List.map_nil, List.length_cons, List.length_nil, List.replicate_succ, List.replicate_zero, List.cons_append, List.nil_append, List.append_nil, List.set_cons_zero, List.set_cons_succ, List.getElem?_cons_zero, List.getElem?_cons_succ, Nat.reduceAdd, Nat.reduceSub, Option.some.injEq, Sl.imm.injEq, Sl.own.injEq, Sl.scr.injEq, exists_eq_left, exists_eq_left', exists_eq_right, exists_eq, exists_eq', exists_and_left, and_assoc, and_true, true_and, ne_eq, not_false_eq_true, Nat.succ_ne_zero, or_true, true_or, true_implies, forall_eq', forall_eq, PyData.int.injEq, PyData.bool.injEq, PyData.list.injEq, PyData.tuple.injEq, List.cons.injEq, i_add, i_iadd, i_sub, i_mul, i_mod, i_fdiv, i_fdivG, i_pow, i_neg, i_le, i_ge, i_gt, i_lt, i_eq, i_ne, i_intI, i_intB, i_abs, i_max, i_min, i_lenL, i_lenT, i_ixL, i_ixT, i_tupL, i_tupT, i_truB, Bool.not_true, Bool.not_false, Bool.false_eq_true, if_true, if_false, reduceIte]
    (try dsimp only); rw [wSeq_eq]; simp -failIfUnchanged only [wVar, wC, wOp, wUn, wCl, wB, wTr, wAnd, wOr, wNot, wAndV, wOrV, wNotV, wIf, wCh, wNil, wCons, wTup, wLe, wSz, wFn, wFnJ, wFnB, wFnJB, wBNil, wBCons, wBOwn, rsvP, rsvJ, wNext, wRet, wRetN, wDrop, wIfS, wSet, wSetOwn, wNever, wAug, wOpO, wOpR, wClO, wApp, wSetIt, wFrz, wFor, wRg1, wRg2, wSq, wEnum, wZip, wZipM, wgN, wgT, wgNil, wgCons, wYes, wAsgT, wgLs, wLenS, wIxS, wFnS, wIsi, wListOf, wRev, edP, edJ, enP, enJ, enS, NotOwn, Flat, List.map_cons, List.map_nil, List.length_cons, List.length_nil, List.replicate_succ, List.replicate_zero, List.cons_append, List.nil_append, List.append_nil, List.set_cons_zero, List.set_cons_succ, List.getElem?_cons_zero, List.getElem?_cons_succ, Nat.reduceAdd, Nat.reduceSub, Option.some.injEq, Sl.imm.injEq, Sl.own.injEq, Sl.scr.injEq, exists_eq_left, exists_eq_left', exists_eq_right, exists_eq, exists_eq', exists_and_left, and_assoc, and_true, true_and, ne_eq, not_false_eq_true, Nat.succ_ne_zero, or_true, true_or, true_implies, forall_eq', forall_eq, PyData.int.injEq, PyData.bool.injEq, PyData.list.injEq, PyData.tuple.injEq, List.cons.injEq, i_add, i_iadd, i_sub, i_mul, i_mod, i_fdiv, i_fdivG, i_pow, i_neg, i_le, i_ge, i_gt, i_lt, i_eq, i_ne, i_intI, i_intB, i_abs, i_max, i_min, i_lenL, i_lenT, i_ixL, i_ixT, i_tupL, i_tupT, i_truB, Bool.not_true, Bool.not_false, Bool.false_eq_true, if_true, if_false, reduceIte]
    refine ⟨_, Or.inl rfl, ?_⟩
    refine ext_loop hh (allT h k) [] s5 (fun z hz => by rw [(allT_ok (by omega) k z hz).1]; omega) (by rw [← allT]; simp; omega) fun s5 => ?_
    rw [List.nil_append, ← allT]
    dsimp only
    simp -failIfUnchanged only [wVar, wC, wOp, wUn, wCl, wB, wTr, wAnd, wOr, wNot, wAndV, wOrV, wNotV, wIf, wCh, wNil, wCons, wTup, wLe, wSz, wFn, wFnJ, wFnB, wFnJB, wBNil, wBCons, wBOwn, rsvP, rsvJ, wNext, wRet, wRetN, wDrop, wIfS, wSet, wSetOwn, wNever, wAug, wOpO, wOpR, wClO, wApp, wSetIt, wFrz, wFor, wRg1, wRg2, wSq, wEnum, wZip, wZipM, wgN, wgT, wgNil, wgCons, wYes, wAsgT, wgLs, wLenS, wIxS, wFnS, wIsi, wListOf, wRev, edP, edJ, enP, enJ, enS, NotOwn, Flat, List.map_cons, List.map_nil, List.length_cons, List.length_nil, List.replicate_succ, List.replicate_zero, List.cons_append, List.nil_append, List.append_nil, List.set_cons_zero, List.set_cons_succ, List.getElem?_cons_zero, List.getElem?_cons_succ, Nat.reduceAdd, Nat.reduceSub, Option.some.injEq, Sl.imm.injEq, Sl.own.injEq, Sl.scr.injEq, exists_eq_left, exists_eq_left', exists_eq_right, exists_eq, exists_eq', exists_and_left, and_assoc, and_true, true_and, ne_eq, not_false_eq_true, Nat.succ_ne_zero, or_true, true_or, true_implies, forall_eq', forall_eq, PyData.int.injEq, PyData.bool.injEq, PyData.list.injEq, PyData.tuple.injEq, List.cons.injEq, i_add, i_iadd, i_sub, i_mul, i_mod, i_fdiv, i_fdivG, i_pow, i_neg, i_le, i_ge, i_gt, i_lt, i_eq, i_ne, i_intI, i_intB, i_abs, i_max, i_min, i_lenL, i_lenT, i_ixL, i_ixT, i_tupL, i_tupT, i_truB, Bool.not_true, Bool.not_false, Bool.false_eq_true, if_true, if_false, reduceIte]
    exact rec_ _ _ _
theorem pu__law_all (ds Q) (hl : ds.length = 2) (h : wf__law_all ds Q) : ws__law_all (edP Q) (enP N__law_all ds) := by
  obtain ⟨h, n, rfl, hh, hn, hk, q⟩ := h
  unfold ws__law_all
  (try dsimp only); rw [wSeq_eq]; simp -failIfUnchanged only [N__law_all, sz0, sz1, sz2, sz3, sz4, sz5, sz6, sz7, sz8, sz9, sz10, sz11, sz12, sz13, sz14, sz15, sz16, sz17, sz18, sz19, sz20, sz21, sz22, sz23, sz24, sz25, sz26, sz27, sz28, sz29, sz30, sz31, sz32, sz33, sz34, sz35, sz36, sz37, sz38, sz39, sz40, wVar, wC, wOp, wUn, wCl, wB, wTr, wAnd, wOr, wNot, wAndV, wOrV, wNotV, wIf, wCh, wNil, wCons, wTup, wLe, wSz, wFn, wFnJ, wFnB, wFnJB, wBNil, wBCons, wBOwn, rsvP, rsvJ, wNext, wRet, wRetN, wDrop, wIfS, wSet, wSetOwn, wNever, wAug, wOpO, wOpR, wClO, wApp, wSetIt, wFrz, wFor, wRg1, wRg2, wSq, wEnum, wZip, wZipM, wgN, wgT, wgNil, wgCons, wYes, wAsgT, wgLs, wLenS, wIxS, wFnS, wIsi, wListOf, wRev, edP, edJ, enP, enJ, enS, NotOwn, Flat, List.map_cons, List.map_nil, List.length_cons, List.length_nil, List.replicate_succ, List.replicate_zero, List.cons_append, List.nil_append, List.append_nil, List.set_cons_zero, List.set_cons_succ, List.getElem?_cons_zero, List.getElem?_cons_succ, Nat.reduceAdd, Nat.reduceSub, Option.some.injEq, Sl.imm.injEq, Sl.own.injEq, Sl.scr.injEq, exists_eq_left, exists_eq_left', exists_eq_right, exists_eq, exists_eq', exists_and_left, and_assoc, and_true, true_and, ne_eq, not_false_eq_true, Nat.succ_ne_zero, or_true, true_or, true_implies, forall_eq', forall_eq, PyData.int.injEq, PyData.bool.injEq, PyData.list.injEq, PyData.tuple.injEq, List.cons.injEq, i_add, i_iadd, i_sub, i_mul, i_mod, i_fdiv, i_fdivG, i_pow, i_neg, i_le, i_ge, i_gt, i_lt, i_eq, i_ne, i_intI, i_intB, i_abs, i_max, i_min, i_lenL, i_lenT, i_ixL, i_ixT, i_tupL, i_tupT, i_truB, Bool.not_true, Bool.not_false, Bool.false_eq_true, if_true, if_false, reduceIte]
  (try dsimp only); rw [wSeq_eq]; simp -failIfUnchanged only [wVar, wC, wOp, wUn, wCl, wB, wTr, wAnd, wOr, wNot, wAndV, wOrV, wNotV, wIf, wCh, wNil, wCons, wTup, wLe, wSz, wFn, wFnJ, wFnB, wFnJB, wBNil, wBCons, wBOwn, rsvP, rsvJ, wNext, wRet, wRetN, wDrop, wIfS, wSet, wSetOwn, wNever, wAug, wOpO, wOpR, wClO, wApp, wSetIt, wFrz, wFor, wRg1, wRg2, wSq, wEnum, wZip, wZipM, wgN, wgT, wgNil, wgCons, wYes, wAsgT, wgLs, wLenS, wIxS, wFnS, wIsi, wListOf, wRev, edP, edJ, enP, enJ, enS, NotOwn, Flat, List.map_cons, List.map_nil, List.length_cons, List.length_nil, List.replicate_succ, List.replicate_zero, List.cons_append, List.nil_append, List.append_nil, List.set_cons_zero, List.set_cons_succ, List.getElem?_cons_zero, List.getElem?_cons_succ, Nat.reduceAdd, Nat.reduceSub, Option.some.injEq, Sl.imm.injEq, Sl.own.injEq, Sl.scr.injEq, exists_eq_left, exists_eq_left', exists_eq_right, exists_eq, exists_eq', exists_and_left, and_assoc, and_true, true_and, ne_eq, not_false_eq_true, Nat.succ_ne_zero, or_true, true_or, true_implies, forall_eq', forall_eq, PyData.int.injEq, PyData.bool.injEq, PyData.list.injEq, PyData.tuple.injEq, List.cons.injEq, i_add, i_iadd, i_sub, i_mul, i_mod, i_fdiv, i_fdivG, i_pow, i_neg, i_le, i_ge, i_gt, i_lt, i_eq, i_ne, i_intI, i_intB, i_abs, i_max, i_min, i_lenL, i_lenT, i_ixL, i_ixT, i_tupL, i_tupT, i_truB, Bool.not_true, Bool.not_false, Bool.false_eq_true, if_true, if_false, reduceIte]
  refine ⟨by omega, by omega, ?_⟩
  refine all_loop hh hn hk _ 0 .un .un .un (by rw [rng_len]; omega) fun s3 s4 s5 => ?_
  simp -failIfUnchanged only [wVar, wC, wOp, wUn, wCl, wB, wTr, wAnd, wOr, wNot, wAndV, wOrV, wNotV, wIf, wCh, wNil, wCons, wTup, wLe, wSz, wFn, wFnJ, wFnB, wFnJB, wBNil, wBCons, wBOwn, rsvP, rsvJ, wNext, wRet, wRetN, wDrop, wIfS, wSet, wSetOwn, wNever, wAug, wOpO, wOpR, wClO, wApp, wSetIt, wFrz, wFor, wRg1, wRg2, wSq, wEnum, wZip, wZipM, wgN, wgT, wgNil, wgCons, wYes, wAsgT, wgLs, wLenS, wIxS, wFnS, wIsi, wListOf, wRev, edP, edJ, enP, enJ, enS, NotOwn, Flat, List.map_cons, List.map_nil, List.length_cons, List.length_nil, List.replicate_succ, List.replicate_zero, List.cons_append, List.nil_append, List.append_nil, List.set_cons_zero, List.set_cons_succ, List.getElem?_cons_zero, List.getElem?_cons_succ, Nat.reduceAdd, Nat.reduceSub, Option.some.injEq, Sl.imm.injEq, Sl.own.injEq, Sl.scr.injEq, exists_eq_left, exists_eq_left', exists_eq_right, exists_eq, exists_eq', exists_and_left, and_assoc, and_true, true_and, ne_eq, not_false_eq_true, Nat.succ_ne_zero, or_true, true_or, true_implies, forall_eq', forall_eq, PyData.int.injEq, PyData.bool.injEq, PyData.list.injEq, PyData.tuple.injEq, List.cons.injEq, i_add, i_iadd, i_sub, i_mul, i_mod, i_fdiv, i_fdivG, i_pow, i_neg, i_le, i_ge, i_gt, i_lt, i_eq, i_ne, i_intI, i_intB, i_abs, i_max, i_min, i_lenL, i_lenT, i_ixL, i_ixT, i_tupL, i_tupT, i_truB, Bool.not_true, Bool.not_false, Bool.false_eq_true, if_true, if_false, reduceIte]
  exact q
theorem numL_at {h : Int} {w : Nat} {key : List Int} {n : Int} : numL h w key n = key.take w ++ (n - key.sum) % h :: key.drop w := by
  unfold numL
  rw [List.append_assoc]; rfl
theorem num_len {h : Int} {w : Nat} {key : List Int} {n : Int} (hw : w ≤ key.length) : (numL h w key n).length = key.length + 1 := by
  rw [numL_at, List.length_append, List.length_cons, List.length_take, List.length_drop]; omega
theorem num_rng {h : Int} {w : Nat} {key : List Int} {n : Int} (hh : Hs h) (hk : ∀ x ∈ key, 0 ≤ x ∧ x < h) : ∀ x ∈ numL h w key n, 0 ≤ x ∧ x < h := fun x hx => by
  have h2 := hh.1
  rw [numL_at] at hx
  rcases List.mem_append.mp hx with hx | hx
  · exact hk x (List.mem_of_mem_take hx)
  · rcases List.mem_cons.mp hx with rfl | hx
    · exact ⟨Int.emod_nonneg _ (by omega), Int.emod_lt_of_pos _ (by omega)⟩
    · exact hk x (List.mem_of_mem_drop hx)
theorem num_out {h : Int} {w : Nat} {key : List Int} {n : Int} (hw : w ≤ key.length) : (numL h w key n).take w ++ (numL h w key n).drop (w + 1) = key := by
  have hl : (key.take w).length = w := by rw [List.length_take]; omega
  rw [numL_at]
  rw [show (key.take w ++ (n - key.sum) % h :: key.drop w).take w = key.take w from List.take_left' hl]
  rw [show key.take w ++ (n - key.sum) % h :: key.drop w = (key.take w ++ [(n - key.sum) % h]) ++ key.drop w by simp]
  rw [List.drop_left' (by simp [hl]), List.take_append_drop]
theorem num_sum {h : Int} {w : Nat} {key : List Int} {n : Int} (hh : Hs h) (n0 : 0 ≤ n) (n1 : n < h) : (numL h w key n).sum % h = n := by
  have e : (numL h w key n).sum = key.sum + (n - key.sum) % h := by
    rw [numL_at, List.sum_append, List.sum_cons]
    have := congrArg List.sum (List.take_append_drop w key)
    rw [List.sum_append] at this
    omega
  rw [e]
  rcases h_cases hh with rfl | rfl | rfl | rfl | rfl <;> omega
theorem house_loop {h : Int} {w : Nat} {key : List Int} {R : Ed} (hh : Hs h) (hw : w ≤ key.length) (hk : key.length ≤ 3) (hkr : ∀ x ∈ key, 0 ≤ x ∧ x < h) : ∀ (xs : List Nat) (s4 s5 : Sl), (∀ x ∈ xs, (x : Int) < h) →
    (∀ s4 s5, R.nx [.imm (.int h), .imm (.int ((key.length : Int) + 1)), .imm (rowD key), .imm (.int w), s4, s5]) →
    forW (wgN 4) (wSeq (wSet 5 (wFn 4 wf__law_numbers (wCons (wVar 0) (wCons (wVar 3) (wCons (wVar 2) (wCons (wVar 4) wNil)))))) (wSeq (wIfS (wOr (wB (wOp dNe (wFn 5 wf_asked_numbers (wCons (wVar 0) (wCons (wVar 1) (wCons (wVar 3) (wCons (wVar 2) (wCons (wVar 4) wNil)))))) (wVar 5))) (wB (wOp dNe (wOp dMod (wCl dSumA (wCons (wVar 5) wNil)) (wVar 0)) (wVar 4)))) (wRet (wC (.bool false))) wNext) (wIfS (wB (wOp dNe (wFn 5 wf_key_of (wCons (wVar 0) (wCons (wVar 1) (wCons (wVar 3) (wCons (wVar 4) (wCons (wVar 5) wNil)))))) (wVar 2))) (wRet (wC (.bool false))) wNext))) R (xs.map fun i => .int ((i : Nat) : Int)) [.imm (.int h), .imm (.int ((key.length : Int) + 1)), .imm (rowD key), .imm (.int w), s4, s5]
  | [], s4, s5, _, q => q s4 s5
  | i :: xs, s4, s5, hx, q => by
    have h1 := hx i List.mem_cons_self
    have h2 := hh.1
    have rec_ := fun s4 s5 => house_loop (R := R) hh hw hk hkr xs s4 s5 (fun z hz => hx z (List.mem_cons_of_mem _ hz)) q
    rw [List.map_cons]
    unfold forW
    generalize forW (wgN 4) _ R (xs.map _) = N at rec_ ⊢
    simp -failIfUnchanged only [wVar, wC, wOp, wUn, wCl, wB, wTr, wAnd, wOr, wNot, wAndV, wOrV, wNotV, wIf, wCh, wNil, wCons, wTup, wLe, wSz, wFn, wFnJ, wFnB, wFnJB, wBNil, wBCons, wBOwn, rsvP, rsvJ, wNext, wRet, wRetN, wDrop, wIfS, wSet, wSetOwn, wNever, wAug, wOpO, wOpR, wClO, wApp, wSetIt, wFrz, wFor, wRg1, wRg2, wSq, wEnum, wZip, wZipM, wgN, wgT, wgNil, wgCons, wYes, wAsgT, wgLs, wLenS, wIxS, wFnS, wIsi, wListOf, wRev, edP, edJ, enP, enJ, enS, NotOwn, Flat, List.map_cons, List.map_nil, List.length_cons, List.length_nil, List.replicate_succ, List.replicate_zero, List.cons_append, List.nil_append, List.append_nil, List.set_cons_zero, List.set_cons_succ, List.getElem?_cons_zero, List.getElem?_cons_succ, Nat.reduceAdd, Nat.reduceSub, Option.some.injEq, Sl.imm.injEq, Sl.own.injEq, Sl.scr.injEq, exists_eq_left, exists_eq_left', exists_eq_right, exists_eq, exists_eq', exists_and_left, and_assoc, and_true, true_and, ne_eq, not_false_eq_true, Nat.succ_ne_zero, or_true, true_or, true_implies, forall_eq', forall_eq, PyData.int.injEq, PyData.bool.injEq, PyData.list.injEq, PyData.tuple.injEq, List.cons.injEq, i_add, i_iadd, i_sub, i_mul, i_mod, i_fdiv, i_fdivG, i_pow, i_neg, i_le, i_ge, i_gt, i_lt, i_eq, i_ne, i_intI, i_intB, i_abs, i_max, i_min, i_lenL, i_lenT, i_ixL, i_ixT, i_tupL, i_tupT, i_truB, Bool.not_true, Bool.not_false, Bool.false_eq_true, if_true, if_false, reduceIte]
    (try dsimp only); rw [wSeq_eq]; simp -failIfUnchanged only [wf__law_numbers, wf_numbers_of, wVar, wC, wOp, wUn, wCl, wB, wTr, wAnd, wOr, wNot, wAndV, wOrV, wNotV, wIf, wCh, wNil, wCons, wTup, wLe, wSz, wFn, wFnJ, wFnB, wFnJB, wBNil, wBCons, wBOwn, rsvP, rsvJ, wNext, wRet, wRetN, wDrop, wIfS, wSet, wSetOwn, wNever, wAug, wOpO, wOpR, wClO, wApp, wSetIt, wFrz, wFor, wRg1, wRg2, wSq, wEnum, wZip, wZipM, wgN, wgT, wgNil, wgCons, wYes, wAsgT, wgLs, wLenS, wIxS, wFnS, wIsi, wListOf, wRev, edP, edJ, enP, enJ, enS, NotOwn, Flat, List.map_cons, List.map_nil, List.length_cons, List.length_nil, List.replicate_succ, List.replicate_zero, List.cons_append, List.nil_append, List.append_nil, List.set_cons_zero, List.set_cons_succ, List.getElem?_cons_zero, List.getElem?_cons_succ, Nat.reduceAdd, Nat.reduceSub, Option.some.injEq, Sl.imm.injEq, Sl.own.injEq, Sl.scr.injEq, exists_eq_left, exists_eq_left', exists_eq_right, exists_eq, exists_eq', exists_and_left, and_assoc, and_true, true_and, ne_eq, not_false_eq_true, Nat.succ_ne_zero, or_true, true_or, true_implies, forall_eq', forall_eq, PyData.int.injEq, PyData.bool.injEq, PyData.list.injEq, PyData.tuple.injEq, List.cons.injEq, i_add, i_iadd, i_sub, i_mul, i_mod, i_fdiv, i_fdivG, i_pow, i_neg, i_le, i_ge, i_gt, i_lt, i_eq, i_ne, i_intI, i_intB, i_abs, i_max, i_min, i_lenL, i_lenT, i_ixL, i_ixT, i_tupL, i_tupT, i_truB, Bool.not_true, Bool.not_false, Bool.false_eq_true, if_true, if_false, reduceIte]
    refine ⟨(i : Int), w, rfl, key, rfl, rfl, hh, hw, by omega, ?_⟩
    (try dsimp only); rw [wSeq_eq]; simp -failIfUnchanged only [wf_asked_numbers, wVar, wC, wOp, wUn, wCl, wB, wTr, wAnd, wOr, wNot, wAndV, wOrV, wNotV, wIf, wCh, wNil, wCons, wTup, wLe, wSz, wFn, wFnJ, wFnB, wFnJB, wBNil, wBCons, wBOwn, rsvP, rsvJ, wNext, wRet, wRetN, wDrop, wIfS, wSet, wSetOwn, wNever, wAug, wOpO, wOpR, wClO, wApp, wSetIt, wFrz, wFor, wRg1, wRg2, wSq, wEnum, wZip, wZipM, wgN, wgT, wgNil, wgCons, wYes, wAsgT, wgLs, wLenS, wIxS, wFnS, wIsi, wListOf, wRev, edP, edJ, enP, enJ, enS, NotOwn, Flat, List.map_cons, List.map_nil, List.length_cons, List.length_nil, List.replicate_succ, List.replicate_zero, List.cons_append, List.nil_append, List.append_nil, List.set_cons_zero, List.set_cons_succ, List.getElem?_cons_zero, List.getElem?_cons_succ, Nat.reduceAdd, Nat.reduceSub, Option.some.injEq, Sl.imm.injEq, Sl.own.injEq, Sl.scr.injEq, exists_eq_left, exists_eq_left', exists_eq_right, exists_eq, exists_eq', exists_and_left, and_assoc, and_true, true_and, ne_eq, not_false_eq_true, Nat.succ_ne_zero, or_true, true_or, true_implies, forall_eq', forall_eq, PyData.int.injEq, PyData.bool.injEq, PyData.list.injEq, PyData.tuple.injEq, List.cons.injEq, i_add, i_iadd, i_sub, i_mul, i_mod, i_fdiv, i_fdivG, i_pow, i_neg, i_le, i_ge, i_gt, i_lt, i_eq, i_ne, i_intI, i_intB, i_abs, i_max, i_min, i_lenL, i_lenT, i_ixL, i_ixT, i_tupL, i_tupT, i_truB, Bool.not_true, Bool.not_false, Bool.false_eq_true, if_true, if_false, reduceIte]
    refine ⟨(i : Int), w, key, rfl, rfl, rfl, rfl, hh, hw, hk, by omega, h1, hkr, .bool false, i_neRow.mpr (by simp), false, rfl, ?_⟩
    rw [if_neg Bool.false_ne_true]
    simp -failIfUnchanged only [rowD, i_sumT, wVar, wC, wOp, wUn, wCl, wB, wTr, wAnd, wOr, wNot, wAndV, wOrV, wNotV, wIf, wCh, wNil, wCons, wTup, wLe, wSz, wFn, wFnJ, wFnB, wFnJB, wBNil, wBCons, wBOwn, rsvP, rsvJ, wNext, wRet, wRetN, wDrop, wIfS, wSet, wSetOwn, wNever, wAug, wOpO, wOpR, wClO, wApp, wSetIt, wFrz, wFor, wRg1, wRg2, wSq, wEnum, wZip, wZipM, wgN, wgT, wgNil, wgCons, wYes, wAsgT, wgLs, wLenS, wIxS, wFnS, wIsi, wListOf, wRev, edP, edJ, enP, enJ, enS, NotOwn, Flat, List.map_cons, List.map_nil, List.length_cons, List.length_nil, List.replicate_succ, List.replicate_zero, List.cons_append, List.nil_append, List.append_nil, List.set_cons_zero, List.set_cons_succ, List.getElem?_cons_zero, List.getElem?_cons_succ, Nat.reduceAdd, Nat.reduceSub, Option.some.injEq, Sl.imm.injEq, Sl.own.injEq, Sl.scr.injEq, exists_eq_left, exists_eq_left', exists_eq_right, exists_eq, exists_eq', exists_and_left, and_assoc, and_true, true_and, ne_eq, not_false_eq_true, Nat.succ_ne_zero, or_true, true_or, true_implies, forall_eq', forall_eq, PyData.int.injEq, PyData.bool.injEq, PyData.list.injEq, PyData.tuple.injEq, List.cons.injEq, i_add, i_iadd, i_sub, i_mul, i_mod, i_fdiv, i_fdivG, i_pow, i_neg, i_le, i_ge, i_gt, i_lt, i_eq, i_ne, i_intI, i_intB, i_abs, i_max, i_min, i_lenL, i_lenT, i_ixL, i_ixT, i_tupL, i_tupT, i_truB, Bool.not_true, Bool.not_false, Bool.false_eq_true, if_true, if_false, reduceIte]
    refine ⟨by omega, ?_⟩
    rw [if_neg (by simp [num_sum hh (by omega) h1])]
    simp -failIfUnchanged only [wf_key_of, wVar, wC, wOp, wUn, wCl, wB, wTr, wAnd, wOr, wNot, wAndV, wOrV, wNotV, wIf, wCh, wNil, wCons, wTup, wLe, wSz, wFn, wFnJ, wFnB, wFnJB, wBNil, wBCons, wBOwn, rsvP, rsvJ, wNext, wRet, wRetN, wDrop, wIfS, wSet, wSetOwn, wNever, wAug, wOpO, wOpR, wClO, wApp, wSetIt, wFrz, wFor, wRg1, wRg2, wSq, wEnum, wZip, wZipM, wgN, wgT, wgNil, wgCons, wYes, wAsgT, wgLs, wLenS, wIxS, wFnS, wIsi, wListOf, wRev, edP, edJ, enP, enJ, enS, NotOwn, Flat, List.map_cons, List.map_nil, List.length_cons, List.length_nil, List.replicate_succ, List.replicate_zero, List.cons_append, List.nil_append, List.append_nil, List.set_cons_zero, List.set_cons_succ, List.getElem?_cons_zero, List.getElem?_cons_succ, Nat.reduceAdd, Nat.reduceSub, Option.some.injEq, Sl.imm.injEq, Sl.own.injEq, Sl.scr.injEq, exists_eq_left, exists_eq_left', exists_eq_right, exists_eq, exists_eq', exists_and_left, and_assoc, and_true, true_and, ne_eq, not_false_eq_true, Nat.succ_ne_zero, or_true, true_or, true_implies, forall_eq', forall_eq, PyData.int.injEq, PyData.bool.injEq, PyData.list.injEq, PyData.tuple.injEq, List.cons.injEq, i_add, i_iadd, i_sub, i_mul, i_mod, i_fdiv, i_fdivG, i_pow, i_neg, i_le, i_ge, i_gt, i_lt, i_eq, i_ne, i_intI, i_intB, i_abs, i_max, i_min, i_lenL, i_lenT, i_ixL, i_ixT, i_tupL, i_tupT, i_truB, Bool.not_true, Bool.not_false, Bool.false_eq_true, if_true, if_false, reduceIte]
    have hl := num_len (h := h) (n := (i : Int)) hw
    refine ⟨(i : Int), w, numL h w key (i : Int), by rw [hl]; rfl, rfl, rfl, rfl, hh, by omega, by omega, by omega, h1, num_rng hh hkr, .bool false, ?_, false, rfl, ?_⟩
    · unfold keyD
      rw [if_pos (num_sum hh (by omega) h1), num_out hw]
      exact i_neRow.mpr (by simp)
    rw [if_neg Bool.false_ne_true]
    exact rec_ _ _
theorem wish_loop {h : Int} {key : List Int} {R : Ed} (hh : Hs h) (hk : key.length ≤ 3) (hkr : ∀ x ∈ key, 0 ≤ x ∧ x < h) : ∀ (xs : List Nat) (s3 s4 s5 : Sl), (∀ x ∈ xs, x ≤ key.length) →
    (∀ s3 s4 s5, R.nx [.imm (.int h), .imm (.int ((key.length : Int) + 1)), .imm (rowD key), s3, s4, s5]) →
    forW (wgN 3) (wFor (wRg1 (wCons (wVar 0) wNil)) (wgN 4) (wSeq (wSet 5 (wFn 4 wf__law_numbers (wCons (wVar 0) (wCons (wVar 3) (wCons (wVar 2) (wCons (wVar 4) wNil)))))) (wSeq (wIfS (wOr (wB (wOp dNe (wFn 5 wf_asked_numbers (wCons (wVar 0) (wCons (wVar 1) (wCons (wVar 3) (wCons (wVar 2) (wCons (wVar 4) wNil)))))) (wVar 5))) (wB (wOp dNe (wOp dMod (wCl dSumA (wCons (wVar 5) wNil)) (wVar 0)) (wVar 4)))) (wRet (wC (.bool false))) wNext) (wIfS (wB (wOp dNe (wFn 5 wf_key_of (wCons (wVar 0) (wCons (wVar 1) (wCons (wVar 3) (wCons (wVar 4) (wCons (wVar 5) wNil)))))) (wVar 2))) (wRet (wC (.bool false))) wNext)))) R (xs.map fun i => .int ((i : Nat) : Int)) [.imm (.int h), .imm (.int ((key.length : Int) + 1)), .imm (rowD key), s3, s4, s5]
  | [], s3, s4, s5, _, q => q s3 s4 s5
  | i :: xs, s3, s4, s5, hx, q => by
    have h1 := hx i List.mem_cons_self
    have h2 := hh.1
    have h6 := hh.2
    have rec_ := fun s3 s4 s5 => wish_loop (R := R) hh hk hkr xs s3 s4 s5 (fun z hz => hx z (List.mem_cons_of_mem _ hz)) q
    rw [List.map_cons]
    unfold forW
    generalize forW (wgN 3) _ R (xs.map _) = N at rec_ ⊢
    simp -failIfUnchanged only [wVar, wC, wOp, wUn, wCl, wB, wTr, wAnd, wOr, wNot, wAndV, wOrV, wNotV, wIf, wCh, wNil, wCons, wTup, wLe, wSz, wFn, wFnJ, wFnB, wFnJB, wBNil, wBCons, wBOwn, rsvP, rsvJ, wNext, wRet, wRetN, wDrop, wIfS, wSet, wSetOwn, wNever, wAug, wOpO, wOpR, wClO, wApp, wSetIt, wFrz, wFor, wRg1, wRg2, wSq, wEnum, wZip, wZipM, wgN, wgT, wgNil, wgCons, wYes, wAsgT, wgLs, wLenS, wIxS, wFnS, wIsi, wListOf, wRev, edP, edJ, enP, enJ, enS, NotOwn, Flat, List.map_cons, List.map_nil, List.length_cons, List.length_nil, List.replicate_succ, List.replicate_zero, List.cons_append, List.nil_append, List.append_nil, List.set_cons_zero, List.set_cons_succ, List.getElem?_cons_zero, List.getElem?_cons_succ, Nat.reduceAdd, Nat.reduceSub, Option.some.injEq, Sl.imm.injEq, Sl.own.injEq, Sl.scr.injEq, exists_eq_left, exists_eq_left', exists_eq_right, exists_eq, exists_eq', exists_and_left, and_assoc, and_true, true_and, ne_eq, not_false_eq_true, Nat.succ_ne_zero, or_true, true_or, true_implies, forall_eq', forall_eq, PyData.int.injEq, PyData.bool.injEq, PyData.list.injEq, PyData.tuple.injEq, List.cons.injEq, i_add, i_iadd, i_sub, i_mul, i_mod, i_fdiv, i_fdivG, i_pow, i_neg, i_le, i_ge, i_gt, i_lt, i_eq, i_ne, i_intI, i_intB, i_abs, i_max, i_min, i_lenL, i_lenT, i_ixL, i_ixT, i_tupL, i_tupT, i_truB, Bool.not_true, Bool.not_false, Bool.false_eq_true, if_true, if_false, reduceIte]
    refine ⟨by omega, by omega, ?_⟩
    rw [rng_nats]
    exact house_loop hh h1 hk hkr _ _ _ (fun x hx => by have := List.mem_range.mp hx; omega) fun s4 s5 => rec_ _ _ _
theorem pu__law_is_key_right (ds Q) (hl : ds.length = 3) (h : wf__law_is_key_right ds Q) : ws__law_is_key_right (edP Q) (enP N__law_is_key_right ds) := by
  obtain ⟨h, key, rfl, hh, hk, hkr, q⟩ := h
  unfold ws__law_is_key_right
  (try dsimp only); rw [wSeq_eq]; simp -failIfUnchanged only [N__law_is_key_right, wVar, wC, wOp, wUn, wCl, wB, wTr, wAnd, wOr, wNot, wAndV, wOrV, wNotV, wIf, wCh, wNil, wCons, wTup, wLe, wSz, wFn, wFnJ, wFnB, wFnJB, wBNil, wBCons, wBOwn, rsvP, rsvJ, wNext, wRet, wRetN, wDrop, wIfS, wSet, wSetOwn, wNever, wAug, wOpO, wOpR, wClO, wApp, wSetIt, wFrz, wFor, wRg1, wRg2, wSq, wEnum, wZip, wZipM, wgN, wgT, wgNil, wgCons, wYes, wAsgT, wgLs, wLenS, wIxS, wFnS, wIsi, wListOf, wRev, edP, edJ, enP, enJ, enS, NotOwn, Flat, List.map_cons, List.map_nil, List.length_cons, List.length_nil, List.replicate_succ, List.replicate_zero, List.cons_append, List.nil_append, List.append_nil, List.set_cons_zero, List.set_cons_succ, List.getElem?_cons_zero, List.getElem?_cons_succ, Nat.reduceAdd, Nat.reduceSub, Option.some.injEq, Sl.imm.injEq, Sl.own.injEq, Sl.scr.injEq, exists_eq_left, exists_eq_left', exists_eq_right, exists_eq, exists_eq', exists_and_left, and_assoc, and_true, true_and, ne_eq, not_false_eq_true, Nat.succ_ne_zero, or_true, true_or, true_implies, forall_eq', forall_eq, PyData.int.injEq, PyData.bool.injEq, PyData.list.injEq, PyData.tuple.injEq, List.cons.injEq, i_add, i_iadd, i_sub, i_mul, i_mod, i_fdiv, i_fdivG, i_pow, i_neg, i_le, i_ge, i_gt, i_lt, i_eq, i_ne, i_intI, i_intB, i_abs, i_max, i_min, i_lenL, i_lenT, i_ixL, i_ixT, i_tupL, i_tupT, i_truB, Bool.not_true, Bool.not_false, Bool.false_eq_true, if_true, if_false, reduceIte]
  refine ⟨by omega, by omega, ?_⟩
  rw [rng_nats]
  refine wish_loop hh hk hkr _ _ _ _ (fun x hx => by have := List.mem_range.mp hx; omega) fun s3 s4 s5 => ?_
  simp -failIfUnchanged only [wVar, wC, wOp, wUn, wCl, wB, wTr, wAnd, wOr, wNot, wAndV, wOrV, wNotV, wIf, wCh, wNil, wCons, wTup, wLe, wSz, wFn, wFnJ, wFnB, wFnJB, wBNil, wBCons, wBOwn, rsvP, rsvJ, wNext, wRet, wRetN, wDrop, wIfS, wSet, wSetOwn, wNever, wAug, wOpO, wOpR, wClO, wApp, wSetIt, wFrz, wFor, wRg1, wRg2, wSq, wEnum, wZip, wZipM, wgN, wgT, wgNil, wgCons, wYes, wAsgT, wgLs, wLenS, wIxS, wFnS, wIsi, wListOf, wRev, edP, edJ, enP, enJ, enS, NotOwn, Flat, List.map_cons, List.map_nil, List.length_cons, List.length_nil, List.replicate_succ, List.replicate_zero, List.cons_append, List.nil_append, List.append_nil, List.set_cons_zero, List.set_cons_succ, List.getElem?_cons_zero, List.getElem?_cons_succ, Nat.reduceAdd, Nat.reduceSub, Option.some.injEq, Sl.imm.injEq, Sl.own.injEq, Sl.scr.injEq, exists_eq_left, exists_eq_left', exists_eq_right, exists_eq, exists_eq', exists_and_left, and_assoc, and_true, true_and, ne_eq, not_false_eq_true, Nat.succ_ne_zero, or_true, true_or, true_implies, forall_eq', forall_eq, PyData.int.injEq, PyData.bool.injEq, PyData.list.injEq, PyData.tuple.injEq, List.cons.injEq, i_add, i_iadd, i_sub, i_mul, i_mod, i_fdiv, i_fdivG, i_pow, i_neg, i_le, i_ge, i_gt, i_lt, i_eq, i_ne, i_intI, i_intB, i_abs, i_max, i_min, i_lenL, i_lenT, i_ixL, i_ixT, i_tupL, i_tupT, i_truB, Bool.not_true, Bool.not_false, Bool.false_eq_true, if_true, if_false, reduceIte]
  exact q
end K60

set_option Elab.async false
set_option linter.all false
set_option maxRecDepth 100000
set_option maxHeartbeats 4000000
namespace K60
open PySem PySem.Spec PyProof.Rows L2 Pd
theorem few_loop {h : Int} {jg s2 s5 s6 s7 s8 s9 s10 : Sl} {R : Ed} (hh : Hs h) : ∀ (xs : List D) (k : Nat) (v : Int) (s4 : Sl), v = h ^ k → k + xs.length ≤ 10 → (∀ s4, R.nx [jg, .imm (.int h), s2, .imm (.int (h ^ (k + xs.length))), s4, s5, s6, s7, s8, s9, s10, .un]) →
    forW (wgN 4) (wSet 3 (wOp dMul (wVar 3) (wVar 1))) R xs [jg, .imm (.int h), s2, .imm (.int v), s4, s5, s6, s7, s8, s9, s10, .un]
  | [], k, v, s4, hv, _, q => by
    rw [hv]; exact q s4
  | x :: xs, k, v, s4, hv, hl, q => by
    rw [List.length_cons] at hl
    have h2 := hh.1
    have h6 := hh.2
    have rec_ := fun s4 => few_loop (jg := jg) (s2 := s2) (s5 := s5) (s6 := s6) (s7 := s7) (s8 := s8) (s9 := s9) (s10 := s10) (R := R) hh xs (k + 1) (v * h) s4 (by rw [hv, Int.pow_succ]) (by omega) fun s4 => by
      have := q s4
      rw [List.length_cons, show k + (xs.length + 1) = k + 1 + xs.length by omega] at this
      exact this
    unfold forW
    generalize forW (wgN 4) _ R xs = N at rec_ ⊢
    simp -failIfUnchanged only [wVar, wC, wOp, wUn, wCl, wB, wTr, wAnd, wOr, wNot, wAndV, wOrV, wNotV, wIf, wCh, wNil, wCons, wTup, wLe, wSz, wFn, wFnJ, wFnB, wFnJB, wBNil, wBCons, wBOwn, rsvP, rsvJ, wNext, wRet, wRetN, wDrop, wIfS, wSet, wSetOwn, wNever, wAug, wOpO, wOpR, wClO, wApp, wSetIt, wFrz, wFor, wRg1, wRg2, wSq, wEnum, wZip, wZipM, wgN, wgT, wgNil, wgCons, wYes, wAsgT, wgLs, wLenS, wIxS, wFnS, wIsi, wListOf, wRev, edP, edJ, enP, enJ, enS, NotOwn, Flat, List.map_cons, List.map_nil, List.length_cons, List.length_nil, List.replicate_succ, List.replicate_zero, List.cons_append, List.nil_append, List.append_nil, List.set_cons_zero, List.set_cons_succ, List.getElem?_cons_zero, List.getElem?_cons_succ, Nat.reduceAdd, Nat.reduceSub, Option.some.injEq, Sl.imm.injEq, Sl.own.injEq, Sl.scr.injEq, exists_eq_left, exists_eq_left', exists_eq_right, exists_eq, exists_eq', exists_and_left, and_assoc, and_true, true_and, ne_eq, not_false_eq_true, Nat.succ_ne_zero, or_true, true_or, true_implies, forall_eq', forall_eq, PyData.int.injEq, PyData.bool.injEq, PyData.list.injEq, PyData.tuple.injEq, List.cons.injEq, i_add, i_iadd, i_sub, i_mul, i_mod, i_fdiv, i_fdivG, i_pow, i_neg, i_le, i_ge, i_gt, i_lt, i_eq, i_ne, i_intI, i_intB, i_abs, i_max, i_min, i_lenL, i_lenT, i_ixL, i_ixT, i_tupL, i_tupT, i_truB, Bool.not_true, Bool.not_false, Bool.false_eq_true, if_true, if_false, reduceIte]
    refine ⟨small_r (by omega) (by omega), ?_⟩
    exact rec_ (.imm x)
theorem key_ne {h : Int} {w : Nat} {n : Int} {a : List Int} : dNe (keyD h w n a) (keyD h w n a) (.bool false) := by
  unfold keyD
  split
  · exact i_neRow.mpr (by simp)
  · exact (ne_self (by rfl) (by rfl)).mpr rfl
theorem turn_loop {h : Int} {n : Nat} {R : Ed} {s3 s5 : Sl} (hh : Hs h) (hn : n ≤ 3) : ∀ (xs : List D) (g m c : Int) (s4 s6 s7 s8 s9 s10 : Sl), (∀ (g m c : Int) (s4 s6 s7 s8 s9 s10 : Sl), R.nx [.own [.int g, .int m, .int c], .imm (.int h), .imm (.int ((n : Int) + 1)), s3, s4, s5, s6, s7, s8, s9, s10, .un]) →
    forW (wgN 4) (wSeq (wSet 6 (wCl dTupOf (wCons (wLe (wLc (wRg1 (wCons (wOp dSub (wVar 2) (wC (.int 1))) wNil)) (wgN 11) wYes (wFnJ 0 2 wf__law_pour (wCons (wVar 1) wNil)) [11])) wNil))) (wSeq (wIfS (wNot (wTr (wFn 3 wf__law_is_key_right (wCons (wVar 1) (wCons (wVar 2) (wCons (wVar 6) wNil)))))) (wRet (wC (.bool false))) wNext) (wSeq (wPar 7 8 (wCl dTupOf (wCons (wLe (wLc (wRg1 (wCons (wVar 2) wNil)) (wgN 11) wYes (wFnJ 0 2 wf__law_pour (wCons (wVar 1) wNil)) [11])) wNil)) (wFnJ 0 2 wf__law_pour (wCons (wVar 1) wNil))) (wSeq (wSet 9 (wFnJ 0 2 wf__law_pour (wCons (wVar 2) wNil))) (wSeq (wSet 10 (wIf (wB (wOp dEq (wOp dMod (wCl dSumA (wCons (wVar 7) wNil)) (wVar 1)) (wVar 8))) (wOp dAdd (wSl (wVar 7) wNoP (wPart (wVar 9))) (wSl (wVar 7) (wPart (wOp dAdd (wVar 9) (wC (.int 1)))) wNoP)) (wC .none))) (wIfS (wB (wOp dNe (wFn 5 wf_key_of (wCons (wVar 1) (wCons (wVar 2) (wCons (wVar 9) (wCons (wVar 8) (wCons (wVar 7) wNil)))))) (wVar 10))) (wRet (wC (.bool false))) wNext)))))) R xs [.own [.int g, .int m, .int c], .imm (.int h), .imm (.int ((n : Int) + 1)), s3, s4, s5, s6, s7, s8, s9, s10, .un]
  | [], g, m, c, s4, s6, s7, s8, s9, s10, q => q g m c s4 s6 s7 s8 s9 s10
  | x :: xs, g, m, c, s4, s6, s7, s8, s9, s10, q => by
    have h2 := hh.1
    have h6 := hh.2
    have rec_ := fun g m c s4 s6 s7 s8 s9 s10 => turn_loop (R := R) (s3 := s3) (s5 := s5) hh hn xs g m c s4 s6 s7 s8 s9 s10 q
    unfold forW
    generalize forW (wgN 4) _ R xs = N at rec_ ⊢
    simp -failIfUnchanged only [wVar, wC, wOp, wUn, wCl, wB, wTr, wAnd, wOr, wNot, wAndV, wOrV, wNotV, wIf, wCh, wNil, wCons, wTup, wLe, wSz, wFn, wFnJ, wFnB, wFnJB, wBNil, wBCons, wBOwn, rsvP, rsvJ, wNext, wRet, wRetN, wDrop, wIfS, wSet, wSetOwn, wNever, wAug, wOpO, wOpR, wClO, wApp, wSetIt, wFrz, wFor, wRg1, wRg2, wSq, wEnum, wZip, wZipM, wgN, wgT, wgNil, wgCons, wYes, wAsgT, wgLs, wLenS, wIxS, wFnS, wIsi, wListOf, wRev, edP, edJ, enP, enJ, enS, NotOwn, Flat, List.map_cons, List.map_nil, List.length_cons, List.length_nil, List.replicate_succ, List.replicate_zero, List.cons_append, List.nil_append, List.append_nil, List.set_cons_zero, List.set_cons_succ, List.getElem?_cons_zero, List.getElem?_cons_succ, Nat.reduceAdd, Nat.reduceSub, Option.some.injEq, Sl.imm.injEq, Sl.own.injEq, Sl.scr.injEq, exists_eq_left, exists_eq_left', exists_eq_right, exists_eq, exists_eq', exists_and_left, and_assoc, and_true, true_and, ne_eq, not_false_eq_true, Nat.succ_ne_zero, or_true, true_or, true_implies, forall_eq', forall_eq, PyData.int.injEq, PyData.bool.injEq, PyData.list.injEq, PyData.tuple.injEq, List.cons.injEq, i_add, i_iadd, i_sub, i_mul, i_mod, i_fdiv, i_fdivG, i_pow, i_neg, i_le, i_ge, i_gt, i_lt, i_eq, i_ne, i_intI, i_intB, i_abs, i_max, i_min, i_lenL, i_lenT, i_ixL, i_ixT, i_tupL, i_tupT, i_truB, Bool.not_true, Bool.not_false, Bool.false_eq_true, if_true, if_false, reduceIte]
    (try dsimp only); rw [wSeq_eq]; simp -failIfUnchanged only [wVar, wC, wOp, wUn, wCl, wB, wTr, wAnd, wOr, wNot, wAndV, wOrV, wNotV, wIf, wCh, wNil, wCons, wTup, wLe, wSz, wFn, wFnJ, wFnB, wFnJB, wBNil, wBCons, wBOwn, rsvP, rsvJ, wNext, wRet, wRetN, wDrop, wIfS, wSet, wSetOwn, wNever, wAug, wOpO, wOpR, wClO, wApp, wSetIt, wFrz, wFor, wRg1, wRg2, wSq, wEnum, wZip, wZipM, wgN, wgT, wgNil, wgCons, wYes, wAsgT, wgLs, wLenS, wIxS, wFnS, wIsi, wListOf, wRev, edP, edJ, enP, enJ, enS, NotOwn, Flat, List.map_cons, List.map_nil, List.length_cons, List.length_nil, List.replicate_succ, List.replicate_zero, List.cons_append, List.nil_append, List.append_nil, List.set_cons_zero, List.set_cons_succ, List.getElem?_cons_zero, List.getElem?_cons_succ, Nat.reduceAdd, Nat.reduceSub, Option.some.injEq, Sl.imm.injEq, Sl.own.injEq, Sl.scr.injEq, exists_eq_left, exists_eq_left', exists_eq_right, exists_eq, exists_eq', exists_and_left, and_assoc, and_true, true_and, ne_eq, not_false_eq_true, Nat.succ_ne_zero, or_true, true_or, true_implies, forall_eq', forall_eq, PyData.int.injEq, PyData.bool.injEq, PyData.list.injEq, PyData.tuple.injEq, List.cons.injEq, i_add, i_iadd, i_sub, i_mul, i_mod, i_fdiv, i_fdivG, i_pow, i_neg, i_le, i_ge, i_gt, i_lt, i_eq, i_ne, i_intI, i_intB, i_abs, i_max, i_min, i_lenL, i_lenT, i_ixL, i_ixT, i_tupL, i_tupT, i_truB, Bool.not_true, Bool.not_false, Bool.false_eq_true, if_true, if_false, reduceIte]
    refine lcD (j := 10) (R := [.imm (.int h), .imm (.int ((n : Int) + 1)), s3, .imm x, s5, s6, s7, s8, s9, s10, .un]) (Pi := fun xs => xs.length = n) (P := fun y => ∃ x : Int, y = .int x ∧ 0 ≤ x ∧ x < h) rfl (fun Q' q' => ?_) (fun xs hx => sl200 (by omega)) (fun x g m c Q' q' => ?_) fun xs' ys g m c hx' hyl hys => ?_
    · simp -failIfUnchanged only [wVar, wC, wOp, wUn, wCl, wB, wTr, wAnd, wOr, wNot, wAndV, wOrV, wNotV, wIf, wCh, wNil, wCons, wTup, wLe, wSz, wFn, wFnJ, wFnB, wFnJB, wBNil, wBCons, wBOwn, rsvP, rsvJ, wNext, wRet, wRetN, wDrop, wIfS, wSet, wSetOwn, wNever, wAug, wOpO, wOpR, wClO, wApp, wSetIt, wFrz, wFor, wRg1, wRg2, wSq, wEnum, wZip, wZipM, wgN, wgT, wgNil, wgCons, wYes, wAsgT, wgLs, wLenS, wIxS, wFnS, wIsi, wListOf, wRev, edP, edJ, enP, enJ, enS, NotOwn, Flat, List.map_cons, List.map_nil, List.length_cons, List.length_nil, List.replicate_succ, List.replicate_zero, List.cons_append, List.nil_append, List.append_nil, List.set_cons_zero, List.set_cons_succ, List.getElem?_cons_zero, List.getElem?_cons_succ, Nat.reduceAdd, Nat.reduceSub, Option.some.injEq, Sl.imm.injEq, Sl.own.injEq, Sl.scr.injEq, exists_eq_left, exists_eq_left', exists_eq_right, exists_eq, exists_eq', exists_and_left, and_assoc, and_true, true_and, ne_eq, not_false_eq_true, Nat.succ_ne_zero, or_true, true_or, true_implies, forall_eq', forall_eq, PyData.int.injEq, PyData.bool.injEq, PyData.list.injEq, PyData.tuple.injEq, List.cons.injEq, i_add, i_iadd, i_sub, i_mul, i_mod, i_fdiv, i_fdivG, i_pow, i_neg, i_le, i_ge, i_gt, i_lt, i_eq, i_ne, i_intI, i_intB, i_abs, i_max, i_min, i_lenL, i_lenT, i_ixL, i_ixT, i_tupL, i_tupT, i_truB, Bool.not_true, Bool.not_false, Bool.false_eq_true, if_true, if_false, reduceIte]
      exact ⟨by omega, by omega, q' _ g m c (by rw [rng_len]; omega)⟩
    · simp -failIfUnchanged only [wf__law_pour, wVar, wC, wOp, wUn, wCl, wB, wTr, wAnd, wOr, wNot, wAndV, wOrV, wNotV, wIf, wCh, wNil, wCons, wTup, wLe, wSz, wFn, wFnJ, wFnB, wFnJB, wBNil, wBCons, wBOwn, rsvP, rsvJ, wNext, wRet, wRetN, wDrop, wIfS, wSet, wSetOwn, wNever, wAug, wOpO, wOpR, wClO, wApp, wSetIt, wFrz, wFor, wRg1, wRg2, wSq, wEnum, wZip, wZipM, wgN, wgT, wgNil, wgCons, wYes, wAsgT, wgLs, wLenS, wIxS, wFnS, wIsi, wListOf, wRev, edP, edJ, enP, enJ, enS, NotOwn, Flat, List.map_cons, List.map_nil, List.length_cons, List.length_nil, List.replicate_succ, List.replicate_zero, List.cons_append, List.nil_append, List.append_nil, List.set_cons_zero, List.set_cons_succ, List.getElem?_cons_zero, List.getElem?_cons_succ, Nat.reduceAdd, Nat.reduceSub, Option.some.injEq, Sl.imm.injEq, Sl.own.injEq, Sl.scr.injEq, exists_eq_left, exists_eq_left', exists_eq_right, exists_eq, exists_eq', exists_and_left, and_assoc, and_true, true_and, ne_eq, not_false_eq_true, Nat.succ_ne_zero, or_true, true_or, true_implies, forall_eq', forall_eq, PyData.int.injEq, PyData.bool.injEq, PyData.list.injEq, PyData.tuple.injEq, List.cons.injEq, i_add, i_iadd, i_sub, i_mul, i_mod, i_fdiv, i_fdivG, i_pow, i_neg, i_le, i_ge, i_gt, i_lt, i_eq, i_ne, i_intI, i_intB, i_abs, i_max, i_min, i_lenL, i_lenT, i_ixL, i_ixT, i_tupL, i_tupT, i_truB, Bool.not_true, Bool.not_false, Bool.false_eq_true, if_true, if_false, reduceIte]
      exact ⟨by omega, log_lt (by omega) (by omega), fun r g m c r1 r2 => q' _ g m c ⟨r, rfl, r1, r2⟩⟩
    obtain ⟨key, e1, hkr⟩ := ints_of hys
    subst e1
    rw [List.length_map] at hyl
    have hkl : key.length = n := by omega
    (try dsimp only); rw [wSeq_eq]; simp -failIfUnchanged only [wf__law_is_key_right, wVar, wC, wOp, wUn, wCl, wB, wTr, wAnd, wOr, wNot, wAndV, wOrV, wNotV, wIf, wCh, wNil, wCons, wTup, wLe, wSz, wFn, wFnJ, wFnB, wFnJB, wBNil, wBCons, wBOwn, rsvP, rsvJ, wNext, wRet, wRetN, wDrop, wIfS, wSet, wSetOwn, wNever, wAug, wOpO, wOpR, wClO, wApp, wSetIt, wFrz, wFor, wRg1, wRg2, wSq, wEnum, wZip, wZipM, wgN, wgT, wgNil, wgCons, wYes, wAsgT, wgLs, wLenS, wIxS, wFnS, wIsi, wListOf, wRev, edP, edJ, enP, enJ, enS, NotOwn, Flat, List.map_cons, List.map_nil, List.length_cons, List.length_nil, List.replicate_succ, List.replicate_zero, List.cons_append, List.nil_append, List.append_nil, List.set_cons_zero, List.set_cons_succ, List.getElem?_cons_zero, List.getElem?_cons_succ, Nat.reduceAdd, Nat.reduceSub, Option.some.injEq, Sl.imm.injEq, Sl.own.injEq, Sl.scr.injEq, exists_eq_left, exists_eq_left', exists_eq_right, exists_eq, exists_eq', exists_and_left, and_assoc, and_true, true_and, ne_eq, not_false_eq_true, Nat.succ_ne_zero, or_true, true_or, true_implies, forall_eq', forall_eq, PyData.int.injEq, PyData.bool.injEq, PyData.list.injEq, PyData.tuple.injEq, List.cons.injEq, i_add, i_iadd, i_sub, i_mul, i_mod, i_fdiv, i_fdivG, i_pow, i_neg, i_le, i_ge, i_gt, i_lt, i_eq, i_ne, i_intI, i_intB, i_abs, i_max, i_min, i_lenL, i_lenT, i_ixL, i_ixT, i_tupL, i_tupT, i_truB, Bool.not_true, Bool.not_false, Bool.false_eq_true, if_true, if_false, reduceIte]
    refine ⟨key, by rw [hkl], rfl, hh, by omega, hkr, ?_⟩
    (try dsimp only); rw [wSeq_eq]; simp -failIfUnchanged only [wPar, wVar, wC, wOp, wUn, wCl, wB, wTr, wAnd, wOr, wNot, wAndV, wOrV, wNotV, wIf, wCh, wNil, wCons, wTup, wLe, wSz, wFn, wFnJ, wFnB, wFnJB, wBNil, wBCons, wBOwn, rsvP, rsvJ, wNext, wRet, wRetN, wDrop, wIfS, wSet, wSetOwn, wNever, wAug, wOpO, wOpR, wClO, wApp, wSetIt, wFrz, wFor, wRg1, wRg2, wSq, wEnum, wZip, wZipM, wgN, wgT, wgNil, wgCons, wYes, wAsgT, wgLs, wLenS, wIxS, wFnS, wIsi, wListOf, wRev, edP, edJ, enP, enJ, enS, NotOwn, Flat, List.map_cons, List.map_nil, List.length_cons, List.length_nil, List.replicate_succ, List.replicate_zero, List.cons_append, List.nil_append, List.append_nil, List.set_cons_zero, List.set_cons_succ, List.getElem?_cons_zero, List.getElem?_cons_succ, Nat.reduceAdd, Nat.reduceSub, Option.some.injEq, Sl.imm.injEq, Sl.own.injEq, Sl.scr.injEq, exists_eq_left, exists_eq_left', exists_eq_right, exists_eq, exists_eq', exists_and_left, and_assoc, and_true, true_and, ne_eq, not_false_eq_true, Nat.succ_ne_zero, or_true, true_or, true_implies, forall_eq', forall_eq, PyData.int.injEq, PyData.bool.injEq, PyData.list.injEq, PyData.tuple.injEq, List.cons.injEq, i_add, i_iadd, i_sub, i_mul, i_mod, i_fdiv, i_fdivG, i_pow, i_neg, i_le, i_ge, i_gt, i_lt, i_eq, i_ne, i_intI, i_intB, i_abs, i_max, i_min, i_lenL, i_lenT, i_ixL, i_ixT, i_tupL, i_tupT, i_truB, Bool.not_true, Bool.not_false, Bool.false_eq_true, if_true, if_false, reduceIte]
    refine lcD (j := 10) (R := [.imm (.int h), .imm (.int ((n : Int) + 1)), s3, .imm x, s5, .imm (.tuple (key.map .int)), s7, s8, s9, s10, .un]) (Pi := fun xs => xs.length = n + 1) (P := fun y => ∃ x : Int, y = .int x ∧ 0 ≤ x ∧ x < h) rfl (fun Q' q' => ?_) (fun xs hx => sl200 (by omega)) (fun x g m c Q' q' => ?_) fun xs' ys g m c hx' hyl hys => ?_
    · simp -failIfUnchanged only [wVar, wC, wOp, wUn, wCl, wB, wTr, wAnd, wOr, wNot, wAndV, wOrV, wNotV, wIf, wCh, wNil, wCons, wTup, wLe, wSz, wFn, wFnJ, wFnB, wFnJB, wBNil, wBCons, wBOwn, rsvP, rsvJ, wNext, wRet, wRetN, wDrop, wIfS, wSet, wSetOwn, wNever, wAug, wOpO, wOpR, wClO, wApp, wSetIt, wFrz, wFor, wRg1, wRg2, wSq, wEnum, wZip, wZipM, wgN, wgT, wgNil, wgCons, wYes, wAsgT, wgLs, wLenS, wIxS, wFnS, wIsi, wListOf, wRev, edP, edJ, enP, enJ, enS, NotOwn, Flat, List.map_cons, List.map_nil, List.length_cons, List.length_nil, List.replicate_succ, List.replicate_zero, List.cons_append, List.nil_append, List.append_nil, List.set_cons_zero, List.set_cons_succ, List.getElem?_cons_zero, List.getElem?_cons_succ, Nat.reduceAdd, Nat.reduceSub, Option.some.injEq, Sl.imm.injEq, Sl.own.injEq, Sl.scr.injEq, exists_eq_left, exists_eq_left', exists_eq_right, exists_eq, exists_eq', exists_and_left, and_assoc, and_true, true_and, ne_eq, not_false_eq_true, Nat.succ_ne_zero, or_true, true_or, true_implies, forall_eq', forall_eq, PyData.int.injEq, PyData.bool.injEq, PyData.list.injEq, PyData.tuple.injEq, List.cons.injEq, i_add, i_iadd, i_sub, i_mul, i_mod, i_fdiv, i_fdivG, i_pow, i_neg, i_le, i_ge, i_gt, i_lt, i_eq, i_ne, i_intI, i_intB, i_abs, i_max, i_min, i_lenL, i_lenT, i_ixL, i_ixT, i_tupL, i_tupT, i_truB, Bool.not_true, Bool.not_false, Bool.false_eq_true, if_true, if_false, reduceIte]
      exact ⟨by omega, by omega, q' _ g m c (by rw [rng_len]; omega)⟩
    · simp -failIfUnchanged only [wf__law_pour, wVar, wC, wOp, wUn, wCl, wB, wTr, wAnd, wOr, wNot, wAndV, wOrV, wNotV, wIf, wCh, wNil, wCons, wTup, wLe, wSz, wFn, wFnJ, wFnB, wFnJB, wBNil, wBCons, wBOwn, rsvP, rsvJ, wNext, wRet, wRetN, wDrop, wIfS, wSet, wSetOwn, wNever, wAug, wOpO, wOpR, wClO, wApp, wSetIt, wFrz, wFor, wRg1, wRg2, wSq, wEnum, wZip, wZipM, wgN, wgT, wgNil, wgCons, wYes, wAsgT, wgLs, wLenS, wIxS, wFnS, wIsi, wListOf, wRev, edP, edJ, enP, enJ, enS, NotOwn, Flat, List.map_cons, List.map_nil, List.length_cons, List.length_nil, List.replicate_succ, List.replicate_zero, List.cons_append, List.nil_append, List.append_nil, List.set_cons_zero, List.set_cons_succ, List.getElem?_cons_zero, List.getElem?_cons_succ, Nat.reduceAdd, Nat.reduceSub, Option.some.injEq, Sl.imm.injEq, Sl.own.injEq, Sl.scr.injEq, exists_eq_left, exists_eq_left', exists_eq_right, exists_eq, exists_eq', exists_and_left, and_assoc, and_true, true_and, ne_eq, not_false_eq_true, Nat.succ_ne_zero, or_true, true_or, true_implies, forall_eq', forall_eq, PyData.int.injEq, PyData.bool.injEq, PyData.list.injEq, PyData.tuple.injEq, List.cons.injEq, i_add, i_iadd, i_sub, i_mul, i_mod, i_fdiv, i_fdivG, i_pow, i_neg, i_le, i_ge, i_gt, i_lt, i_eq, i_ne, i_intI, i_intB, i_abs, i_max, i_min, i_lenL, i_lenT, i_ixL, i_ixT, i_tupL, i_tupT, i_truB, Bool.not_true, Bool.not_false, Bool.false_eq_true, if_true, if_false, reduceIte]
      exact ⟨by omega, log_lt (by omega) (by omega), fun r g m c r1 r2 => q' _ g m c ⟨r, rfl, r1, r2⟩⟩
    obtain ⟨a, e1, har⟩ := ints_of hys
    subst e1
    rw [List.length_map] at hyl
    have hal : a.length = n + 1 := by omega
    simp -failIfUnchanged only [wf__law_pour, wVar, wC, wOp, wUn, wCl, wB, wTr, wAnd, wOr, wNot, wAndV, wOrV, wNotV, wIf, wCh, wNil, wCons, wTup, wLe, wSz, wFn, wFnJ, wFnB, wFnJB, wBNil, wBCons, wBOwn, rsvP, rsvJ, wNext, wRet, wRetN, wDrop, wIfS, wSet, wSetOwn, wNever, wAug, wOpO, wOpR, wClO, wApp, wSetIt, wFrz, wFor, wRg1, wRg2, wSq, wEnum, wZip, wZipM, wgN, wgT, wgNil, wgCons, wYes, wAsgT, wgLs, wLenS, wIxS, wFnS, wIsi, wListOf, wRev, edP, edJ, enP, enJ, enS, NotOwn, Flat, List.map_cons, List.map_nil, List.length_cons, List.length_nil, List.replicate_succ, List.replicate_zero, List.cons_append, List.nil_append, List.append_nil, List.set_cons_zero, List.set_cons_succ, List.getElem?_cons_zero, List.getElem?_cons_succ, Nat.reduceAdd, Nat.reduceSub, Option.some.injEq, Sl.imm.injEq, Sl.own.injEq, Sl.scr.injEq, exists_eq_left, exists_eq_left', exists_eq_right, exists_eq, exists_eq', exists_and_left, and_assoc, and_true, true_and, ne_eq, not_false_eq_true, Nat.succ_ne_zero, or_true, true_or, true_implies, forall_eq', forall_eq, PyData.int.injEq, PyData.bool.injEq, PyData.list.injEq, PyData.tuple.injEq, List.cons.injEq, i_add, i_iadd, i_sub, i_mul, i_mod, i_fdiv, i_fdivG, i_pow, i_neg, i_le, i_ge, i_gt, i_lt, i_eq, i_ne, i_intI, i_intB, i_abs, i_max, i_min, i_lenL, i_lenT, i_ixL, i_ixT, i_tupL, i_tupT, i_truB, Bool.not_true, Bool.not_false, Bool.false_eq_true, if_true, if_false, reduceIte]
    refine ⟨by omega, log_lt (by omega) (by omega), fun house g m c n0 n1 => ?_⟩
    (try dsimp only); rw [wSeq_eq]; simp -failIfUnchanged only [wf__law_pour, wVar, wC, wOp, wUn, wCl, wB, wTr, wAnd, wOr, wNot, wAndV, wOrV, wNotV, wIf, wCh, wNil, wCons, wTup, wLe, wSz, wFn, wFnJ, wFnB, wFnJB, wBNil, wBCons, wBOwn, rsvP, rsvJ, wNext, wRet, wRetN, wDrop, wIfS, wSet, wSetOwn, wNever, wAug, wOpO, wOpR, wClO, wApp, wSetIt, wFrz, wFor, wRg1, wRg2, wSq, wEnum, wZip, wZipM, wgN, wgT, wgNil, wgCons, wYes, wAsgT, wgLs, wLenS, wIxS, wFnS, wIsi, wListOf, wRev, edP, edJ, enP, enJ, enS, NotOwn, Flat, List.map_cons, List.map_nil, List.length_cons, List.length_nil, List.replicate_succ, List.replicate_zero, List.cons_append, List.nil_append, List.append_nil, List.set_cons_zero, List.set_cons_succ, List.getElem?_cons_zero, List.getElem?_cons_succ, Nat.reduceAdd, Nat.reduceSub, Option.some.injEq, Sl.imm.injEq, Sl.own.injEq, Sl.scr.injEq, exists_eq_left, exists_eq_left', exists_eq_right, exists_eq, exists_eq', exists_and_left, and_assoc, and_true, true_and, ne_eq, not_false_eq_true, Nat.succ_ne_zero, or_true, true_or, true_implies, forall_eq', forall_eq, PyData.int.injEq, PyData.bool.injEq, PyData.list.injEq, PyData.tuple.injEq, List.cons.injEq, i_add, i_iadd, i_sub, i_mul, i_mod, i_fdiv, i_fdivG, i_pow, i_neg, i_le, i_ge, i_gt, i_lt, i_eq, i_ne, i_intI, i_intB, i_abs, i_max, i_min, i_lenL, i_lenT, i_ixL, i_ixT, i_tupL, i_tupT, i_truB, Bool.not_true, Bool.not_false, Bool.false_eq_true, if_true, if_false, reduceIte]
    refine ⟨by omega, log_lt (by omega) (by omega), fun w g m c w0 w1 => ?_⟩
    obtain ⟨w, rfl⟩ : ∃ k : Nat, w = k := ⟨w.toNat, by omega⟩
    have fin : ∀ d : D, d = keyD h w house a → wf_key_of [.int h, .int ((n : Int) + 1), .int w, .int house, .tuple (a.map .int)] fun d' => ∃ z, dNe d' d z ∧ ∃ c', z = .bool c' ∧ if c' = true then R.rt (.bool false) [.own [.int g, .int m, .int c], .imm (.int h), .imm (.int ((n : Int) + 1)), s3, .imm x, s5, .imm (.tuple (key.map .int)), .imm (.tuple (a.map .int)), .imm (.int house), .imm (.int w), .imm d, .un] else N [.own [.int g, .int m, .int c], .imm (.int h), .imm (.int ((n : Int) + 1)), s3, .imm x, s5, .imm (.tuple (key.map .int)), .imm (.tuple (a.map .int)), .imm (.int house), .imm (.int w), .imm d, .un] := fun d hd => by
      refine ⟨h, house, w, a, by rw [hal]; rfl, hh, by omega, by omega, n0, n1, har, .bool false, by rw [hd]; exact key_ne, false, rfl, ?_⟩
      rw [if_neg Bool.false_ne_true]
      exact rec_ _ _ _ _ _ _ _ _ _
    (try dsimp only); rw [wSeq_eq]; simp -failIfUnchanged only [i_sumT, wVar, wC, wOp, wUn, wCl, wB, wTr, wAnd, wOr, wNot, wAndV, wOrV, wNotV, wIf, wCh, wNil, wCons, wTup, wLe, wSz, wFn, wFnJ, wFnB, wFnJB, wBNil, wBCons, wBOwn, rsvP, rsvJ, wNext, wRet, wRetN, wDrop, wIfS, wSet, wSetOwn, wNever, wAug, wOpO, wOpR, wClO, wApp, wSetIt, wFrz, wFor, wRg1, wRg2, wSq, wEnum, wZip, wZipM, wgN, wgT, wgNil, wgCons, wYes, wAsgT, wgLs, wLenS, wIxS, wFnS, wIsi, wListOf, wRev, edP, edJ, enP, enJ, enS, NotOwn, Flat, List.map_cons, List.map_nil, List.length_cons, List.length_nil, List.replicate_succ, List.replicate_zero, List.cons_append, List.nil_append, List.append_nil, List.set_cons_zero, List.set_cons_succ, List.getElem?_cons_zero, List.getElem?_cons_succ, Nat.reduceAdd, Nat.reduceSub, Option.some.injEq, Sl.imm.injEq, Sl.own.injEq, Sl.scr.injEq, exists_eq_left, exists_eq_left', exists_eq_right, exists_eq, exists_eq', exists_and_left, and_assoc, and_true, true_and, ne_eq, not_false_eq_true, Nat.succ_ne_zero, or_true, true_or, true_implies, forall_eq', forall_eq, PyData.int.injEq, PyData.bool.injEq, PyData.list.injEq, PyData.tuple.injEq, List.cons.injEq, i_add, i_iadd, i_sub, i_mul, i_mod, i_fdiv, i_fdivG, i_pow, i_neg, i_le, i_ge, i_gt, i_lt, i_eq, i_ne, i_intI, i_intB, i_abs, i_max, i_min, i_lenL, i_lenT, i_ixL, i_ixT, i_tupL, i_tupT, i_truB, Bool.not_true, Bool.not_false, Bool.false_eq_true, if_true, if_false, reduceIte]
    refine ⟨by omega, ?_⟩
    by_cases e : a.sum % h = house
    · rw [if_pos (decide_eq_true e)]
      simp -failIfUnchanged only [wSl, wPart, wNoP, tl_ne, lt_ne, false_and, exists_false, false_or, or_false, i_addT, wVar, wC, wOp, wUn, wCl, wB, wTr, wAnd, wOr, wNot, wAndV, wOrV, wNotV, wIf, wCh, wNil, wCons, wTup, wLe, wSz, wFn, wFnJ, wFnB, wFnJB, wBNil, wBCons, wBOwn, rsvP, rsvJ, wNext, wRet, wRetN, wDrop, wIfS, wSet, wSetOwn, wNever, wAug, wOpO, wOpR, wClO, wApp, wSetIt, wFrz, wFor, wRg1, wRg2, wSq, wEnum, wZip, wZipM, wgN, wgT, wgNil, wgCons, wYes, wAsgT, wgLs, wLenS, wIxS, wFnS, wIsi, wListOf, wRev, edP, edJ, enP, enJ, enS, NotOwn, Flat, List.map_cons, List.map_nil, List.length_cons, List.length_nil, List.replicate_succ, List.replicate_zero, List.cons_append, List.nil_append, List.append_nil, List.set_cons_zero, List.set_cons_succ, List.getElem?_cons_zero, List.getElem?_cons_succ, Nat.reduceAdd, Nat.reduceSub, Option.some.injEq, Sl.imm.injEq, Sl.own.injEq, Sl.scr.injEq, exists_eq_left, exists_eq_left', exists_eq_right, exists_eq, exists_eq', exists_and_left, and_assoc, and_true, true_and, ne_eq, not_false_eq_true, Nat.succ_ne_zero, or_true, true_or, true_implies, forall_eq', forall_eq, PyData.int.injEq, PyData.bool.injEq, PyData.list.injEq, PyData.tuple.injEq, List.cons.injEq, i_add, i_iadd, i_sub, i_mul, i_mod, i_fdiv, i_fdivG, i_pow, i_neg, i_le, i_ge, i_gt, i_lt, i_eq, i_ne, i_intI, i_intB, i_abs, i_max, i_min, i_lenL, i_lenT, i_ixL, i_ixT, i_tupL, i_tupT, i_truB, Bool.not_true, Bool.not_false, Bool.false_eq_true, if_true, if_false, reduceIte]
      rw [cut_to, show ((w : Int) + 1) = ((w + 1 : Nat) : Int) by omega, cut_from, ← List.map_take, ← List.map_drop, ← List.map_append]
      refine ⟨sl200 (by simp only [List.length_map, List.length_take, List.length_drop]; omega), ?_⟩
      exact fin _ (by unfold keyD; rw [if_pos e]; rfl)
    · rw [if_neg (by simpa using e)]
      simp -failIfUnchanged only [wVar, wC, wOp, wUn, wCl, wB, wTr, wAnd, wOr, wNot, wAndV, wOrV, wNotV, wIf, wCh, wNil, wCons, wTup, wLe, wSz, wFn, wFnJ, wFnB, wFnJB, wBNil, wBCons, wBOwn, rsvP, rsvJ, wNext, wRet, wRetN, wDrop, wIfS, wSet, wSetOwn, wNever, wAug, wOpO, wOpR, wClO, wApp, wSetIt, wFrz, wFor, wRg1, wRg2, wSq, wEnum, wZip, wZipM, wgN, wgT, wgNil, wgCons, wYes, wAsgT, wgLs, wLenS, wIxS, wFnS, wIsi, wListOf, wRev, edP, edJ, enP, enJ, enS, NotOwn, Flat, List.map_cons, List.map_nil, List.length_cons, List.length_nil, List.replicate_succ, List.replicate_zero, List.cons_append, List.nil_append, List.append_nil, List.set_cons_zero, List.set_cons_succ, List.getElem?_cons_zero, List.getElem?_cons_succ, Nat.reduceAdd, Nat.reduceSub, Option.some.injEq, Sl.imm.injEq, Sl.own.injEq, Sl.scr.injEq, exists_eq_left, exists_eq_left', exists_eq_right, exists_eq, exists_eq', exists_and_left, and_assoc, and_true, true_and, ne_eq, not_false_eq_true, Nat.succ_ne_zero, or_true, true_or, true_implies, forall_eq', forall_eq, PyData.int.injEq, PyData.bool.injEq, PyData.list.injEq, PyData.tuple.injEq, List.cons.injEq, i_add, i_iadd, i_sub, i_mul, i_mod, i_fdiv, i_fdivG, i_pow, i_neg, i_le, i_ge, i_gt, i_lt, i_eq, i_ne, i_intI, i_intB, i_abs, i_max, i_min, i_lenL, i_lenT, i_ixL, i_ixT, i_tupL, i_tupT, i_truB, Bool.not_true, Bool.not_false, Bool.false_eq_true, if_true, if_false, reduceIte]
      exact fin .none (by unfold keyD; rw [if_neg e])
theorem pu__law_right (dj ds Q) (hl : ds.length + 1 = 1) (h : wf__law_right dj ds Q) : ws__law_right (edJ Q) (enJ N__law_right dj ds) := by
  obtain ⟨g, m, c, rfl, rfl, q⟩ := h
  unfold ws__law_right
  (try dsimp only); rw [wSeq_eq]; simp -failIfUnchanged only [N__law_right, wf__law_pour, wVar, wC, wOp, wUn, wCl, wB, wTr, wAnd, wOr, wNot, wAndV, wOrV, wNotV, wIf, wCh, wNil, wCons, wTup, wLe, wSz, wFn, wFnJ, wFnB, wFnJB, wBNil, wBCons, wBOwn, rsvP, rsvJ, wNext, wRet, wRetN, wDrop, wIfS, wSet, wSetOwn, wNever, wAug, wOpO, wOpR, wClO, wApp, wSetIt, wFrz, wFor, wRg1, wRg2, wSq, wEnum, wZip, wZipM, wgN, wgT, wgNil, wgCons, wYes, wAsgT, wgLs, wLenS, wIxS, wFnS, wIsi, wListOf, wRev, edP, edJ, enP, enJ, enS, NotOwn, Flat, List.map_cons, List.map_nil, List.length_cons, List.length_nil, List.replicate_succ, List.replicate_zero, List.cons_append, List.nil_append, List.append_nil, List.set_cons_zero, List.set_cons_succ, List.getElem?_cons_zero, List.getElem?_cons_succ, Nat.reduceAdd, Nat.reduceSub, Option.some.injEq, Sl.imm.injEq, Sl.own.injEq, Sl.scr.injEq, exists_eq_left, exists_eq_left', exists_eq_right, exists_eq, exists_eq', exists_and_left, and_assoc, and_true, true_and, ne_eq, not_false_eq_true, Nat.succ_ne_zero, or_true, true_or, true_implies, forall_eq', forall_eq, PyData.int.injEq, PyData.bool.injEq, PyData.list.injEq, PyData.tuple.injEq, List.cons.injEq, i_add, i_iadd, i_sub, i_mul, i_mod, i_fdiv, i_fdivG, i_pow, i_neg, i_le, i_ge, i_gt, i_lt, i_eq, i_ne, i_intI, i_intB, i_abs, i_max, i_min, i_lenL, i_lenT, i_ixL, i_ixT, i_tupL, i_tupT, i_truB, Bool.not_true, Bool.not_false, Bool.false_eq_true, if_true, if_false, reduceIte]
  refine ⟨by decide, log_lt (by decide) (by decide), fun r g m c r0 r1 => ⟨by decide, log_lt (by decide) (by decide), fun r2 g m c r3 r4 => ?_⟩⟩
  obtain ⟨n, rfl⟩ : ∃ k : Nat, r2 = k := ⟨r2.toNat, by omega⟩
  have hh : Hs (2 + r) := ⟨by omega, by omega⟩
  have hn : n ≤ 3 := by omega
  rw [show (1 : Int) + (n : Int) = (n : Int) + 1 by omega]
  generalize 2 + r = h at hh ⊢
  have h2 := hh.1
  have h6 := hh.2
  refine ⟨by decide, ?_⟩
  (try dsimp only); rw [wSeq_eq]; simp -failIfUnchanged only [wVar, wC, wOp, wUn, wCl, wB, wTr, wAnd, wOr, wNot, wAndV, wOrV, wNotV, wIf, wCh, wNil, wCons, wTup, wLe, wSz, wFn, wFnJ, wFnB, wFnJB, wBNil, wBCons, wBOwn, rsvP, rsvJ, wNext, wRet, wRetN, wDrop, wIfS, wSet, wSetOwn, wNever, wAug, wOpO, wOpR, wClO, wApp, wSetIt, wFrz, wFor, wRg1, wRg2, wSq, wEnum, wZip, wZipM, wgN, wgT, wgNil, wgCons, wYes, wAsgT, wgLs, wLenS, wIxS, wFnS, wIsi, wListOf, wRev, edP, edJ, enP, enJ, enS, NotOwn, Flat, List.map_cons, List.map_nil, List.length_cons, List.length_nil, List.replicate_succ, List.replicate_zero, List.cons_append, List.nil_append, List.append_nil, List.set_cons_zero, List.set_cons_succ, List.getElem?_cons_zero, List.getElem?_cons_succ, Nat.reduceAdd, Nat.reduceSub, Option.some.injEq, Sl.imm.injEq, Sl.own.injEq, Sl.scr.injEq, exists_eq_left, exists_eq_left', exists_eq_right, exists_eq, exists_eq', exists_and_left, and_assoc, and_true, true_and, ne_eq, not_false_eq_true, Nat.succ_ne_zero, or_true, true_or, true_implies, forall_eq', forall_eq, PyData.int.injEq, PyData.bool.injEq, PyData.list.injEq, PyData.tuple.injEq, List.cons.injEq, i_add, i_iadd, i_sub, i_mul, i_mod, i_fdiv, i_fdivG, i_pow, i_neg, i_le, i_ge, i_gt, i_lt, i_eq, i_ne, i_intI, i_intB, i_abs, i_max, i_min, i_lenL, i_lenT, i_ixL, i_ixT, i_tupL, i_tupT, i_truB, Bool.not_true, Bool.not_false, Bool.false_eq_true, if_true, if_false, reduceIte]
  (try dsimp only); rw [wSeq_eq]; simp -failIfUnchanged only [wVar, wC, wOp, wUn, wCl, wB, wTr, wAnd, wOr, wNot, wAndV, wOrV, wNotV, wIf, wCh, wNil, wCons, wTup, wLe, wSz, wFn, wFnJ, wFnB, wFnJB, wBNil, wBCons, wBOwn, rsvP, rsvJ, wNext, wRet, wRetN, wDrop, wIfS, wSet, wSetOwn, wNever, wAug, wOpO, wOpR, wClO, wApp, wSetIt, wFrz, wFor, wRg1, wRg2, wSq, wEnum, wZip, wZipM, wgN, wgT, wgNil, wgCons, wYes, wAsgT, wgLs, wLenS, wIxS, wFnS, wIsi, wListOf, wRev, edP, edJ, enP, enJ, enS, NotOwn, Flat, List.map_cons, List.map_nil, List.length_cons, List.length_nil, List.replicate_succ, List.replicate_zero, List.cons_append, List.nil_append, List.append_nil, List.set_cons_zero, List.set_cons_succ, List.getElem?_cons_zero, List.getElem?_cons_succ, Nat.reduceAdd, Nat.reduceSub, Option.some.injEq, Sl.imm.injEq, Sl.own.injEq, Sl.scr.injEq, exists_eq_left, exists_eq_left', exists_eq_right, exists_eq, exists_eq', exists_and_left, and_assoc, and_true, true_and, ne_eq, not_false_eq_true, Nat.succ_ne_zero, or_true, true_or, true_implies, forall_eq', forall_eq, PyData.int.injEq, PyData.bool.injEq, PyData.list.injEq, PyData.tuple.injEq, List.cons.injEq, i_add, i_iadd, i_sub, i_mul, i_mod, i_fdiv, i_fdivG, i_pow, i_neg, i_le, i_ge, i_gt, i_lt, i_eq, i_ne, i_intI, i_intB, i_abs, i_max, i_min, i_lenL, i_lenT, i_ixL, i_ixT, i_tupL, i_tupT, i_truB, Bool.not_true, Bool.not_false, Bool.false_eq_true, if_true, if_false, reduceIte]
  refine ⟨by omega, by omega, ?_⟩
  refine few_loop hh _ 0 1 .un (by rw [Int.pow_zero]) (by rw [rng_len]; omega) fun s4 => ?_
  rw [rng_len, show 0 + ((n : Int) + 1 - 1).toNat = n by omega]
  dsimp only
  have fin := fun (s5 : Sl) (g m c : Int) => turn_loop (R := { nx := (wRet (wC (.bool true))) (edJ Q), rt := (edJ Q).rt }) (s3 := .imm (.int (h ^ n))) (s5 := s5) hh hn (rngD 0 (Int.toNat 6)) g m c s4 .un .un .un .un .un fun g m c s4 s6 s7 s8 s9 s10 => by
    simp -failIfUnchanged only [wVar, wC, wOp, wUn, wCl, wB, wTr, wAnd, wOr, wNot, wAndV, wOrV, wNotV, wIf, wCh, wNil, wCons, wTup, wLe, wSz, wFn, wFnJ, wFnB, wFnJB, wBNil, wBCons, wBOwn, rsvP, rsvJ, wNext, wRet, wRetN, wDrop, wIfS, wSet, wSetOwn, wNever, wAug, wOpO, wOpR, wClO, wApp, wSetIt, wFrz, wFor, wRg1, wRg2, wSq, wEnum, wZip, wZipM, wgN, wgT, wgNil, wgCons, wYes, wAsgT, wgLs, wLenS, wIxS, wFnS, wIsi, wListOf, wRev, edP, edJ, enP, enJ, enS, NotOwn, Flat, List.map_cons, List.map_nil, List.length_cons, List.length_nil, List.replicate_succ, List.replicate_zero, List.cons_append, List.nil_append, List.append_nil, List.set_cons_zero, List.set_cons_succ, List.getElem?_cons_zero, List.getElem?_cons_succ, Nat.reduceAdd, Nat.reduceSub, Option.some.injEq, Sl.imm.injEq, Sl.own.injEq, Sl.scr.injEq, exists_eq_left, exists_eq_left', exists_eq_right, exists_eq, exists_eq', exists_and_left, and_assoc, and_true, true_and, ne_eq, not_false_eq_true, Nat.succ_ne_zero, or_true, true_or, true_implies, forall_eq', forall_eq, PyData.int.injEq, PyData.bool.injEq, PyData.list.injEq, PyData.tuple.injEq, List.cons.injEq, i_add, i_iadd, i_sub, i_mul, i_mod, i_fdiv, i_fdivG, i_pow, i_neg, i_le, i_ge, i_gt, i_lt, i_eq, i_ne, i_intI, i_intB, i_abs, i_max, i_min, i_lenL, i_lenT, i_ixL, i_ixT, i_tupL, i_tupT, i_truB, Bool.not_true, Bool.not_false, Bool.false_eq_true, if_true, if_false, reduceIte]
    exact q g m c
  (try dsimp only); rw [wSeq_eq]; simp -failIfUnchanged only [wf__law_all, wVar, wC, wOp, wUn, wCl, wB, wTr, wAnd, wOr, wNot, wAndV, wOrV, wNotV, wIf, wCh, wNil, wCons, wTup, wLe, wSz, wFn, wFnJ, wFnB, wFnJB, wBNil, wBCons, wBOwn, rsvP, rsvJ, wNext, wRet, wRetN, wDrop, wIfS, wSet, wSetOwn, wNever, wAug, wOpO, wOpR, wClO, wApp, wSetIt, wFrz, wFor, wRg1, wRg2, wSq, wEnum, wZip, wZipM, wgN, wgT, wgNil, wgCons, wYes, wAsgT, wgLs, wLenS, wIxS, wFnS, wIsi, wListOf, wRev, edP, edJ, enP, enJ, enS, NotOwn, Flat, List.map_cons, List.map_nil, List.length_cons, List.length_nil, List.replicate_succ, List.replicate_zero, List.cons_append, List.nil_append, List.append_nil, List.set_cons_zero, List.set_cons_succ, List.getElem?_cons_zero, List.getElem?_cons_succ, Nat.reduceAdd, Nat.reduceSub, Option.some.injEq, Sl.imm.injEq, Sl.own.injEq, Sl.scr.injEq, exists_eq_left, exists_eq_left', exists_eq_right, exists_eq, exists_eq', exists_and_left, and_assoc, and_true, true_and, ne_eq, not_false_eq_true, Nat.succ_ne_zero, or_true, true_or, true_implies, forall_eq', forall_eq, PyData.int.injEq, PyData.bool.injEq, PyData.list.injEq, PyData.tuple.injEq, List.cons.injEq, i_add, i_iadd, i_sub, i_mul, i_mod, i_fdiv, i_fdivG, i_pow, i_neg, i_le, i_ge, i_gt, i_lt, i_eq, i_ne, i_intI, i_intB, i_abs, i_max, i_min, i_lenL, i_lenT, i_ixL, i_ixT, i_tupL, i_tupT, i_truB, Bool.not_true, Bool.not_false, Bool.false_eq_true, if_true, if_false, reduceIte]
  by_cases hf : h ^ n ≤ 64
  · rw [if_pos (decide_eq_true hf)]
    refine ⟨n, by omega, hh, hn, hf, ?_⟩
    (try dsimp only); rw [wSeq_eq]; simp -failIfUnchanged only [wf_keys, wVar, wC, wOp, wUn, wCl, wB, wTr, wAnd, wOr, wNot, wAndV, wOrV, wNotV, wIf, wCh, wNil, wCons, wTup, wLe, wSz, wFn, wFnJ, wFnB, wFnJB, wBNil, wBCons, wBOwn, rsvP, rsvJ, wNext, wRet, wRetN, wDrop, wIfS, wSet, wSetOwn, wNever, wAug, wOpO, wOpR, wClO, wApp, wSetIt, wFrz, wFor, wRg1, wRg2, wSq, wEnum, wZip, wZipM, wgN, wgT, wgNil, wgCons, wYes, wAsgT, wgLs, wLenS, wIxS, wFnS, wIsi, wListOf, wRev, edP, edJ, enP, enJ, enS, NotOwn, Flat, List.map_cons, List.map_nil, List.length_cons, List.length_nil, List.replicate_succ, List.replicate_zero, List.cons_append, List.nil_append, List.append_nil, List.set_cons_zero, List.set_cons_succ, List.getElem?_cons_zero, List.getElem?_cons_succ, Nat.reduceAdd, Nat.reduceSub, Option.some.injEq, Sl.imm.injEq, Sl.own.injEq, Sl.scr.injEq, exists_eq_left, exists_eq_left', exists_eq_right, exists_eq, exists_eq', exists_and_left, and_assoc, and_true, true_and, ne_eq, not_false_eq_true, Nat.succ_ne_zero, or_true, true_or, true_implies, forall_eq', forall_eq, PyData.int.injEq, PyData.bool.injEq, PyData.list.injEq, PyData.tuple.injEq, List.cons.injEq, i_add, i_iadd, i_sub, i_mul, i_mod, i_fdiv, i_fdivG, i_pow, i_neg, i_le, i_ge, i_gt, i_lt, i_eq, i_ne, i_intI, i_intB, i_abs, i_max, i_min, i_lenL, i_lenT, i_ixL, i_ixT, i_tupL, i_tupT, i_truB, Bool.not_true, Bool.not_false, Bool.false_eq_true, if_true, if_false, reduceIte]
    rw [if_pos (decide_eq_true hf)]
    refine ⟨n, rfl, hh, hn, hf, rowsD (allT h n), rfl, .bool false, i_neRs.mpr (by simp), false, rfl, ?_⟩
    rw [if_neg Bool.false_ne_true]
    (try dsimp only); rw [wSeq_eq]; simp -failIfUnchanged only [wVar, wC, wOp, wUn, wCl, wB, wTr, wAnd, wOr, wNot, wAndV, wOrV, wNotV, wIf, wCh, wNil, wCons, wTup, wLe, wSz, wFn, wFnJ, wFnB, wFnJB, wBNil, wBCons, wBOwn, rsvP, rsvJ, wNext, wRet, wRetN, wDrop, wIfS, wSet, wSetOwn, wNever, wAug, wOpO, wOpR, wClO, wApp, wSetIt, wFrz, wFor, wRg1, wRg2, wSq, wEnum, wZip, wZipM, wgN, wgT, wgNil, wgCons, wYes, wAsgT, wgLs, wLenS, wIxS, wFnS, wIsi, wListOf, wRev, edP, edJ, enP, enJ, enS, NotOwn, Flat, List.map_cons, List.map_nil, List.length_cons, List.length_nil, List.replicate_succ, List.replicate_zero, List.cons_append, List.nil_append, List.append_nil, List.set_cons_zero, List.set_cons_succ, List.getElem?_cons_zero, List.getElem?_cons_succ, Nat.reduceAdd, Nat.reduceSub, Option.some.injEq, Sl.imm.injEq, Sl.own.injEq, Sl.scr.injEq, exists_eq_left, exists_eq_left', exists_eq_right, exists_eq, exists_eq', exists_and_left, and_assoc, and_true, true_and, ne_eq, not_false_eq_true, Nat.succ_ne_zero, or_true, true_or, true_implies, forall_eq', forall_eq, PyData.int.injEq, PyData.bool.injEq, PyData.list.injEq, PyData.tuple.injEq, List.cons.injEq, i_add, i_iadd, i_sub, i_mul, i_mod, i_fdiv, i_fdivG, i_pow, i_neg, i_le, i_ge, i_gt, i_lt, i_eq, i_ne, i_intI, i_intB, i_abs, i_max, i_min, i_lenL, i_lenT, i_ixL, i_ixT, i_tupL, i_tupT, i_truB, Bool.not_true, Bool.not_false, Bool.false_eq_true, if_true, if_false, reduceIte]
    refine ⟨by decide, by decide, ?_⟩
    exact fin _ g m c
  · rw [if_neg (by simpa using hf)]
    (try dsimp only); rw [wSeq_eq]; simp -failIfUnchanged only [sz0, sz1, sz2, sz3, sz4, sz5, sz6, sz7, sz8, sz9, sz10, sz11, sz12, sz13, sz14, sz15, sz16, sz17, sz18, sz19, sz20, sz21, sz22, sz23, sz24, sz25, sz26, sz27, sz28, sz29, sz30, sz31, sz32, sz33, sz34, sz35, sz36, sz37, sz38, sz39, sz40, wVar, wC, wOp, wUn, wCl, wB, wTr, wAnd, wOr, wNot, wAndV, wOrV, wNotV, wIf, wCh, wNil, wCons, wTup, wLe, wSz, wFn, wFnJ, wFnB, wFnJB, wBNil, wBCons, wBOwn, rsvP, rsvJ, wNext, wRet, wRetN, wDrop, wIfS, wSet, wSetOwn, wNever, wAug, wOpO, wOpR, wClO, wApp, wSetIt, wFrz, wFor, wRg1, wRg2, wSq, wEnum, wZip, wZipM, wgN, wgT, wgNil, wgCons, wYes, wAsgT, wgLs, wLenS, wIxS, wFnS, wIsi, wListOf, wRev, edP, edJ, enP, enJ, enS, NotOwn, Flat, List.map_cons, List.map_nil, List.length_cons, List.length_nil, List.replicate_succ, List.replicate_zero, List.cons_append, List.nil_append, List.append_nil, List.set_cons_zero, List.set_cons_succ, List.getElem?_cons_zero, List.getElem?_cons_succ, Nat.reduceAdd, Nat.reduceSub, Option.some.injEq, Sl.imm.injEq, Sl.own.injEq, Sl.scr.injEq, exists_eq_left, exists_eq_left', exists_eq_right, exists_eq, exists_eq', exists_and_left, and_assoc, and_true, true_and, ne_eq, not_false_eq_true, Nat.succ_ne_zero, or_true, true_or, true_implies, forall_eq', forall_eq, PyData.int.injEq, PyData.bool.injEq, PyData.list.injEq, PyData.tuple.injEq, List.cons.injEq, i_add, i_iadd, i_sub, i_mul, i_mod, i_fdiv, i_fdivG, i_pow, i_neg, i_le, i_ge, i_gt, i_lt, i_eq, i_ne, i_intI, i_intB, i_abs, i_max, i_min, i_lenL, i_lenT, i_ixL, i_ixT, i_tupL, i_tupT, i_truB, Bool.not_true, Bool.not_false, Bool.false_eq_true, if_true, if_false, reduceIte]
    rw [if_neg (by simpa using hf)]
    (try dsimp only); rw [wSeq_eq]; simp -failIfUnchanged only [wVar, wC, wOp, wUn, wCl, wB, wTr, wAnd, wOr, wNot, wAndV, wOrV, wNotV, wIf, wCh, wNil, wCons, wTup, wLe, wSz, wFn, wFnJ, wFnB, wFnJB, wBNil, wBCons, wBOwn, rsvP, rsvJ, wNext, wRet, wRetN, wDrop, wIfS, wSet, wSetOwn, wNever, wAug, wOpO, wOpR, wClO, wApp, wSetIt, wFrz, wFor, wRg1, wRg2, wSq, wEnum, wZip, wZipM, wgN, wgT, wgNil, wgCons, wYes, wAsgT, wgLs, wLenS, wIxS, wFnS, wIsi, wListOf, wRev, edP, edJ, enP, enJ, enS, NotOwn, Flat, List.map_cons, List.map_nil, List.length_cons, List.length_nil, List.replicate_succ, List.replicate_zero, List.cons_append, List.nil_append, List.append_nil, List.set_cons_zero, List.set_cons_succ, List.getElem?_cons_zero, List.getElem?_cons_succ, Nat.reduceAdd, Nat.reduceSub, Option.some.injEq, Sl.imm.injEq, Sl.own.injEq, Sl.scr.injEq, exists_eq_left, exists_eq_left', exists_eq_right, exists_eq, exists_eq', exists_and_left, and_assoc, and_true, true_and, ne_eq, not_false_eq_true, Nat.succ_ne_zero, or_true, true_or, true_implies, forall_eq', forall_eq, PyData.int.injEq, PyData.bool.injEq, PyData.list.injEq, PyData.tuple.injEq, List.cons.injEq, i_add, i_iadd, i_sub, i_mul, i_mod, i_fdiv, i_fdivG, i_pow, i_neg, i_le, i_ge, i_gt, i_lt, i_eq, i_ne, i_intI, i_intB, i_abs, i_max, i_min, i_lenL, i_lenT, i_ixL, i_ixT, i_tupL, i_tupT, i_truB, Bool.not_true, Bool.not_false, Bool.false_eq_true, if_true, if_false, reduceIte]
    refine ⟨by decide, by decide, ?_⟩
    exact fin _ g m c
end K60

set_option Elab.async false
set_option linter.all false
set_option maxRecDepth 100000
set_option maxHeartbeats 4000000
namespace K60
open PySem PySem.Spec PyProof.Rows L2 Pd
theorem whole_house {h : Int} {n w : Nat} {R : Ed} (hh : Hs h) (h4 : h ≤ 4) (hn : n ≤ 2) (hw : w ≤ n) (hk : h ^ n ≤ 64) (hk1 : h ^ (n + 1) ≤ 64) : ∀ (xs : List Nat) (s3 s4 : Sl), (∀ x ∈ xs, (x : Int) < h) →
    (∀ s3 s4, R.nx [.imm (.int h), .imm (.int ((n : Int) + 1)), .imm (.int w), s3, s4, .un, .un]) →
    forW (wgN 3) (wSeq (wSet 4 (wLe (wSortA (wLe (wLc (wSq (wFn 2 wf_keys (wCons (wVar 0) (wCons (wVar 1) wNil)))) (wgN 5) wYes (wFn 5 wf_asked_numbers (wCons (wVar 0) (wCons (wVar 1) (wCons (wVar 2) (wCons (wVar 5) (wCons (wVar 3) wNil)))))) [5]))))) (wIfS (wB (wOp dNe (wVar 4) (wLe (wLc (wSq (wFn 2 wf__law_all (wCons (wVar 0) (wCons (wVar 1) wNil)))) (wgN 6) (wB (wOp dEq (wOp dMod (wCl dSumA (wCons (wVar 6) wNil)) (wVar 0)) (wVar 3))) (wVar 6) [6])))) (wRet (wC (.bool false))) wNext)) R (xs.map fun i => .int ((i : Nat) : Int)) [.imm (.int h), .imm (.int ((n : Int) + 1)), .imm (.int w), s3, s4, .un, .un]
  | [], s3, s4, _, q => q s3 s4
  | i :: xs, s3, s4, hx, q => by
    have h1 := hx i List.mem_cons_self
    have h2 := hh.1
    have rec_ := fun s3 s4 => whole_house (R := R) hh h4 hn hw hk hk1 xs s3 s4 (fun z hz => hx z (List.mem_cons_of_mem _ hz)) q
    rw [List.map_cons]
    unfold forW
    generalize forW (wgN 3) _ R (xs.map _) = N at rec_ ⊢
    have l1 : ((allT h n).length : Int) ≤ 64 := by rw [allT_len (by omega)]; exact hk
    have l2 : ((allT h (n + 1)).length : Int) ≤ 64 := by rw [allT_len (by omega)]; exact hk1
    simp -failIfUnchanged only [wVar, wC, wOp, wUn, wCl, wB, wTr, wAnd, wOr, wNot, wAndV, wOrV, wNotV, wIf, wCh, wNil, wCons, wTup, wLe, wSz, wFn, wFnJ, wFnB, wFnJB, wBNil, wBCons, wBOwn, rsvP, rsvJ, wNext, wRet, wRetN, wDrop, wIfS, wSet, wSetOwn, wNever, wAug, wOpO, wOpR, wClO, wApp, wSetIt, wFrz, wFor, wRg1, wRg2, wSq, wEnum, wZip, wZipM, wgN, wgT, wgNil, wgCons, wYes, wAsgT, wgLs, wLenS, wIxS, wFnS, wIsi, wListOf, wRev, edP, edJ, enP, enJ, enS, NotOwn, Flat, List.map_cons, List.map_nil, List.length_cons, List.length_nil, List.replicate_succ, List.replicate_zero, List.cons_append, List.nil_append, List.append_nil, List.set_cons_zero, List.set_cons_succ, List.getElem?_cons_zero, List.getElem?_cons_succ, Nat.reduceAdd, Nat.reduceSub, Option.some.injEq, Sl.imm.injEq, Sl.own.injEq, Sl.scr.injEq, exists_eq_left, exists_eq_left', exists_eq_right, exists_eq, exists_eq', exists_and_left, and_assoc, and_true, true_and, ne_eq, not_false_eq_true, Nat.succ_ne_zero, or_true, true_or, true_implies, forall_eq', forall_eq, PyData.int.injEq, PyData.bool.injEq, PyData.list.injEq, PyData.tuple.injEq, List.cons.injEq, i_add, i_iadd, i_sub, i_mul, i_mod, i_fdiv, i_fdivG, i_pow, i_neg, i_le, i_ge, i_gt, i_lt, i_eq, i_ne, i_intI, i_intB, i_abs, i_max, i_min, i_lenL, i_lenT, i_ixL, i_ixT, i_tupL, i_tupT, i_truB, Bool.not_true, Bool.not_false, Bool.false_eq_true, if_true, if_false, reduceIte]
    (try dsimp only); rw [wSeq_eq]; simp -failIfUnchanged only [wSortA, wVar, wC, wOp, wUn, wCl, wB, wTr, wAnd, wOr, wNot, wAndV, wOrV, wNotV, wIf, wCh, wNil, wCons, wTup, wLe, wSz, wFn, wFnJ, wFnB, wFnJB, wBNil, wBCons, wBOwn, rsvP, rsvJ, wNext, wRet, wRetN, wDrop, wIfS, wSet, wSetOwn, wNever, wAug, wOpO, wOpR, wClO, wApp, wSetIt, wFrz, wFor, wRg1, wRg2, wSq, wEnum, wZip, wZipM, wgN, wgT, wgNil, wgCons, wYes, wAsgT, wgLs, wLenS, wIxS, wFnS, wIsi, wListOf, wRev, edP, edJ, enP, enJ, enS, NotOwn, Flat, List.map_cons, List.map_nil, List.length_cons, List.length_nil, List.replicate_succ, List.replicate_zero, List.cons_append, List.nil_append, List.append_nil, List.set_cons_zero, List.set_cons_succ, List.getElem?_cons_zero, List.getElem?_cons_succ, Nat.reduceAdd, Nat.reduceSub, Option.some.injEq, Sl.imm.injEq, Sl.own.injEq, Sl.scr.injEq, exists_eq_left, exists_eq_left', exists_eq_right, exists_eq, exists_eq', exists_and_left, and_assoc, and_true, true_and, ne_eq, not_false_eq_true, Nat.succ_ne_zero, or_true, true_or, true_implies, forall_eq', forall_eq, PyData.int.injEq, PyData.bool.injEq, PyData.list.injEq, PyData.tuple.injEq, List.cons.injEq, i_add, i_iadd, i_sub, i_mul, i_mod, i_fdiv, i_fdivG, i_pow, i_neg, i_le, i_ge, i_gt, i_lt, i_eq, i_ne, i_intI, i_intB, i_abs, i_max, i_min, i_lenL, i_lenT, i_ixL, i_ixT, i_tupL, i_tupT, i_truB, Bool.not_true, Bool.not_false, Bool.false_eq_true, if_true, if_false, reduceIte]
    refine lcY (α := List Int) (e1 := [.imm (.int h), .imm (.int ((n : Int) + 1)), .imm (.int w), .imm (.int (i : Int)), s4, .un, .un]) (X := rowD) (f := fun key => rowD (numL h w key (i : Int))) (xs := allT h n) (fun key => [.imm (.int h), .imm (.int ((n : Int) + 1)), .imm (.int w), .imm (.int (i : Int)), s4, .imm (rowD key), .un]) (by decide) (fun Q q => ?_) (no1 trivial) (sl200 (by omega)) (fun _ => rfl) (fun key hkey Q q => ?_) (fun key hkey Q q => ?_) ?_
    · simp -failIfUnchanged only [wf_keys, wVar, wC, wOp, wUn, wCl, wB, wTr, wAnd, wOr, wNot, wAndV, wOrV, wNotV, wIf, wCh, wNil, wCons, wTup, wLe, wSz, wFn, wFnJ, wFnB, wFnJB, wBNil, wBCons, wBOwn, rsvP, rsvJ, wNext, wRet, wRetN, wDrop, wIfS, wSet, wSetOwn, wNever, wAug, wOpO, wOpR, wClO, wApp, wSetIt, wFrz, wFor, wRg1, wRg2, wSq, wEnum, wZip, wZipM, wgN, wgT, wgNil, wgCons, wYes, wAsgT, wgLs, wLenS, wIxS, wFnS, wIsi, wListOf, wRev, edP, edJ, enP, enJ, enS, NotOwn, Flat, List.map_cons, List.map_nil, List.length_cons, List.length_nil, List.replicate_succ, List.replicate_zero, List.cons_append, List.nil_append, List.append_nil, List.set_cons_zero, List.set_cons_succ, List.getElem?_cons_zero, List.getElem?_cons_succ, Nat.reduceAdd, Nat.reduceSub, Option.some.injEq, Sl.imm.injEq, Sl.own.injEq, Sl.scr.injEq, exists_eq_left, exists_eq_left', exists_eq_right, exists_eq, exists_eq', exists_and_left, and_assoc, and_true, true_and, ne_eq, not_false_eq_true, Nat.succ_ne_zero, or_true, true_or, true_implies, forall_eq', forall_eq, PyData.int.injEq, PyData.bool.injEq, PyData.list.injEq, PyData.tuple.injEq, List.cons.injEq, i_add, i_iadd, i_sub, i_mul, i_mod, i_fdiv, i_fdivG, i_pow, i_neg, i_le, i_ge, i_gt, i_lt, i_eq, i_ne, i_intI, i_intB, i_abs, i_max, i_min, i_lenL, i_lenT, i_ixL, i_ixT, i_tupL, i_tupT, i_truB, Bool.not_true, Bool.not_false, Bool.false_eq_true, if_true, if_false, reduceIte]
      exact ⟨n, rfl, hh, by omega, hk, _, Or.inr rfl, q⟩
    · simp -failIfUnchanged only [wip, wVar, wC, wOp, wUn, wCl, wB, wTr, wAnd, wOr, wNot, wAndV, wOrV, wNotV, wIf, wCh, wNil, wCons, wTup, wLe, wSz, wFn, wFnJ, wFnB, wFnJB, wBNil, wBCons, wBOwn, rsvP, rsvJ, wNext, wRet, wRetN, wDrop, wIfS, wSet, wSetOwn, wNever, wAug, wOpO, wOpR, wClO, wApp, wSetIt, wFrz, wFor, wRg1, wRg2, wSq, wEnum, wZip, wZipM, wgN, wgT, wgNil, wgCons, wYes, wAsgT, wgLs, wLenS, wIxS, wFnS, wIsi, wListOf, wRev, edP, edJ, enP, enJ, enS, NotOwn, Flat, List.map_cons, List.map_nil, List.length_cons, List.length_nil, List.replicate_succ, List.replicate_zero, List.cons_append, List.nil_append, List.append_nil, List.set_cons_zero, List.set_cons_succ, List.getElem?_cons_zero, List.getElem?_cons_succ, Nat.reduceAdd, Nat.reduceSub, Option.some.injEq, Sl.imm.injEq, Sl.own.injEq, Sl.scr.injEq, exists_eq_left, exists_eq_left', exists_eq_right, exists_eq, exists_eq', exists_and_left, and_assoc, and_true, true_and, ne_eq, not_false_eq_true, Nat.succ_ne_zero, or_true, true_or, true_implies, forall_eq', forall_eq, PyData.int.injEq, PyData.bool.injEq, PyData.list.injEq, PyData.tuple.injEq, List.cons.injEq, i_add, i_iadd, i_sub, i_mul, i_mod, i_fdiv, i_fdivG, i_pow, i_neg, i_le, i_ge, i_gt, i_lt, i_eq, i_ne, i_intI, i_intB, i_abs, i_max, i_min, i_lenL, i_lenT, i_ixL, i_ixT, i_tupL, i_tupT, i_truB, Bool.not_true, Bool.not_false, Bool.false_eq_true, if_true, if_false, reduceIte]
      exact q
    · have hk2 := allT_ok (by omega) n key hkey
      simp -failIfUnchanged only [wf_asked_numbers, wVar, wC, wOp, wUn, wCl, wB, wTr, wAnd, wOr, wNot, wAndV, wOrV, wNotV, wIf, wCh, wNil, wCons, wTup, wLe, wSz, wFn, wFnJ, wFnB, wFnJB, wBNil, wBCons, wBOwn, rsvP, rsvJ, wNext, wRet, wRetN, wDrop, wIfS, wSet, wSetOwn, wNever, wAug, wOpO, wOpR, wClO, wApp, wSetIt, wFrz, wFor, wRg1, wRg2, wSq, wEnum, wZip, wZipM, wgN, wgT, wgNil, wgCons, wYes, wAsgT, wgLs, wLenS, wIxS, wFnS, wIsi, wListOf, wRev, edP, edJ, enP, enJ, enS, NotOwn, Flat, List.map_cons, List.map_nil, List.length_cons, List.length_nil, List.replicate_succ, List.replicate_zero, List.cons_append, List.nil_append, List.append_nil, List.set_cons_zero, List.set_cons_succ, List.getElem?_cons_zero, List.getElem?_cons_succ, Nat.reduceAdd, Nat.reduceSub, Option.some.injEq, Sl.imm.injEq, Sl.own.injEq, Sl.scr.injEq, exists_eq_left, exists_eq_left', exists_eq_right, exists_eq, exists_eq', exists_and_left, and_assoc, and_true, true_and, ne_eq, not_false_eq_true, Nat.succ_ne_zero, or_true, true_or, true_implies, forall_eq', forall_eq, PyData.int.injEq, PyData.bool.injEq, PyData.list.injEq, PyData.tuple.injEq, List.cons.injEq, i_add, i_iadd, i_sub, i_mul, i_mod, i_fdiv, i_fdivG, i_pow, i_neg, i_le, i_ge, i_gt, i_lt, i_eq, i_ne, i_intI, i_intB, i_abs, i_max, i_min, i_lenL, i_lenT, i_ixL, i_ixT, i_tupL, i_tupT, i_truB, Bool.not_true, Bool.not_false, Bool.false_eq_true, if_true, if_false, reduceIte]
      exact ⟨(i : Int), w, key, by rw [hk2.1], rfl, rfl, rfl, hh, by rw [hk2.1]; exact hw, by omega, by omega, h1, hk2.2, q⟩
    have hi := isw_ok (h := h) (n := n) (w := w) (house := (i : Int)) h2 h4 hn hw (by omega) h1
    refine Or.inr ⟨(allT h n).map fun key => numL h w key (i : Int), Or.inl (by rw [List.map_map]; rfl), fun rs' hp ha => ?_⟩
    have he := sorted_is hp ha hi.1 hi.2
    subst he
    simp -failIfUnchanged only [wVar, wC, wOp, wUn, wCl, wB, wTr, wAnd, wOr, wNot, wAndV, wOrV, wNotV, wIf, wCh, wNil, wCons, wTup, wLe, wSz, wFn, wFnJ, wFnB, wFnJB, wBNil, wBCons, wBOwn, rsvP, rsvJ, wNext, wRet, wRetN, wDrop, wIfS, wSet, wSetOwn, wNever, wAug, wOpO, wOpR, wClO, wApp, wSetIt, wFrz, wFor, wRg1, wRg2, wSq, wEnum, wZip, wZipM, wgN, wgT, wgNil, wgCons, wYes, wAsgT, wgLs, wLenS, wIxS, wFnS, wIsi, wListOf, wRev, edP, edJ, enP, enJ, enS, NotOwn, Flat, List.map_cons, List.map_nil, List.length_cons, List.length_nil, List.replicate_succ, List.replicate_zero, List.cons_append, List.nil_append, List.append_nil, List.set_cons_zero, List.set_cons_succ, List.getElem?_cons_zero, List.getElem?_cons_succ, Nat.reduceAdd, Nat.reduceSub, Option.some.injEq, Sl.imm.injEq, Sl.own.injEq, Sl.scr.injEq, exists_eq_left, exists_eq_left', exists_eq_right, exists_eq, exists_eq', exists_and_left, and_assoc, and_true, true_and, ne_eq, not_false_eq_true, Nat.succ_ne_zero, or_true, true_or, true_implies, forall_eq', forall_eq, PyData.int.injEq, PyData.bool.injEq, PyData.list.injEq, PyData.tuple.injEq, List.cons.injEq, i_add, i_iadd, i_sub, i_mul, i_mod, i_fdiv, i_fdivG, i_pow, i_neg, i_le, i_ge, i_gt, i_lt, i_eq, i_ne, i_intI, i_intB, i_abs, i_max, i_min, i_lenL, i_lenT, i_ixL, i_ixT, i_tupL, i_tupT, i_truB, Bool.not_true, Bool.not_false, Bool.false_eq_true, if_true, if_false, reduceIte]
    refine lcG (α := List Int) (e1 := [.imm (.int h), .imm (.int ((n : Int) + 1)), .imm (.int w), .imm (.int (i : Int)), .imm (rowsL ((allT h (n + 1)).filter fun a => decide (a.sum % h = (i : Int)))), .un, .un]) (X := rowD) (f := rowD) (xs := allT h (n + 1)) (fun key => [.imm (.int h), .imm (.int ((n : Int) + 1)), .imm (.int w), .imm (.int (i : Int)), .imm (rowsL ((allT h (n + 1)).filter fun a => decide (a.sum % h = (i : Int)))), .un, .imm (rowD key)]) (fun a => decide (a.sum % h = (i : Int))) (by decide) (fun Q q => ?_) (no1 trivial) (sl200 (by omega)) (fun _ => rfl) (fun key hkey Q q => ?_) (fun key hkey Q q => ?_) (fun key hkey hc Q q => ?_) ?_
    · simp -failIfUnchanged only [wf__law_all, wVar, wC, wOp, wUn, wCl, wB, wTr, wAnd, wOr, wNot, wAndV, wOrV, wNotV, wIf, wCh, wNil, wCons, wTup, wLe, wSz, wFn, wFnJ, wFnB, wFnJB, wBNil, wBCons, wBOwn, rsvP, rsvJ, wNext, wRet, wRetN, wDrop, wIfS, wSet, wSetOwn, wNever, wAug, wOpO, wOpR, wClO, wApp, wSetIt, wFrz, wFor, wRg1, wRg2, wSq, wEnum, wZip, wZipM, wgN, wgT, wgNil, wgCons, wYes, wAsgT, wgLs, wLenS, wIxS, wFnS, wIsi, wListOf, wRev, edP, edJ, enP, enJ, enS, NotOwn, Flat, List.map_cons, List.map_nil, List.length_cons, List.length_nil, List.replicate_succ, List.replicate_zero, List.cons_append, List.nil_append, List.append_nil, List.set_cons_zero, List.set_cons_succ, List.getElem?_cons_zero, List.getElem?_cons_succ, Nat.reduceAdd, Nat.reduceSub, Option.some.injEq, Sl.imm.injEq, Sl.own.injEq, Sl.scr.injEq, exists_eq_left, exists_eq_left', exists_eq_right, exists_eq, exists_eq', exists_and_left, and_assoc, and_true, true_and, ne_eq, not_false_eq_true, Nat.succ_ne_zero, or_true, true_or, true_implies, forall_eq', forall_eq, PyData.int.injEq, PyData.bool.injEq, PyData.list.injEq, PyData.tuple.injEq, List.cons.injEq, i_add, i_iadd, i_sub, i_mul, i_mod, i_fdiv, i_fdivG, i_pow, i_neg, i_le, i_ge, i_gt, i_lt, i_eq, i_ne, i_intI, i_intB, i_abs, i_max, i_min, i_lenL, i_lenT, i_ixL, i_ixT, i_tupL, i_tupT, i_truB, Bool.not_true, Bool.not_false, Bool.false_eq_true, if_true, if_false, reduceIte]
      exact ⟨n + 1, rfl, hh, by omega, hk1, _, Or.inl rfl, q⟩
    · simp -failIfUnchanged only [wip, wVar, wC, wOp, wUn, wCl, wB, wTr, wAnd, wOr, wNot, wAndV, wOrV, wNotV, wIf, wCh, wNil, wCons, wTup, wLe, wSz, wFn, wFnJ, wFnB, wFnJB, wBNil, wBCons, wBOwn, rsvP, rsvJ, wNext, wRet, wRetN, wDrop, wIfS, wSet, wSetOwn, wNever, wAug, wOpO, wOpR, wClO, wApp, wSetIt, wFrz, wFor, wRg1, wRg2, wSq, wEnum, wZip, wZipM, wgN, wgT, wgNil, wgCons, wYes, wAsgT, wgLs, wLenS, wIxS, wFnS, wIsi, wListOf, wRev, edP, edJ, enP, enJ, enS, NotOwn, Flat, List.map_cons, List.map_nil, List.length_cons, List.length_nil, List.replicate_succ, List.replicate_zero, List.cons_append, List.nil_append, List.append_nil, List.set_cons_zero, List.set_cons_succ, List.getElem?_cons_zero, List.getElem?_cons_succ, Nat.reduceAdd, Nat.reduceSub, Option.some.injEq, Sl.imm.injEq, Sl.own.injEq, Sl.scr.injEq, exists_eq_left, exists_eq_left', exists_eq_right, exists_eq, exists_eq', exists_and_left, and_assoc, and_true, true_and, ne_eq, not_false_eq_true, Nat.succ_ne_zero, or_true, true_or, true_implies, forall_eq', forall_eq, PyData.int.injEq, PyData.bool.injEq, PyData.list.injEq, PyData.tuple.injEq, List.cons.injEq, i_add, i_iadd, i_sub, i_mul, i_mod, i_fdiv, i_fdivG, i_pow, i_neg, i_le, i_ge, i_gt, i_lt, i_eq, i_ne, i_intI, i_intB, i_abs, i_max, i_min, i_lenL, i_lenT, i_ixL, i_ixT, i_tupL, i_tupT, i_truB, Bool.not_true, Bool.not_false, Bool.false_eq_true, if_true, if_false, reduceIte]
      exact q
    · simp -failIfUnchanged only [rowD, i_sumT, wVar, wC, wOp, wUn, wCl, wB, wTr, wAnd, wOr, wNot, wAndV, wOrV, wNotV, wIf, wCh, wNil, wCons, wTup, wLe, wSz, wFn, wFnJ, wFnB, wFnJB, wBNil, wBCons, wBOwn, rsvP, rsvJ, wNext, wRet, wRetN, wDrop, wIfS, wSet, wSetOwn, wNever, wAug, wOpO, wOpR, wClO, wApp, wSetIt, wFrz, wFor, wRg1, wRg2, wSq, wEnum, wZip, wZipM, wgN, wgT, wgNil, wgCons, wYes, wAsgT, wgLs, wLenS, wIxS, wFnS, wIsi, wListOf, wRev, edP, edJ, enP, enJ, enS, NotOwn, Flat, List.map_cons, List.map_nil, List.length_cons, List.length_nil, List.replicate_succ, List.replicate_zero, List.cons_append, List.nil_append, List.append_nil, List.set_cons_zero, List.set_cons_succ, List.getElem?_cons_zero, List.getElem?_cons_succ, Nat.reduceAdd, Nat.reduceSub, Option.some.injEq, Sl.imm.injEq, Sl.own.injEq, Sl.scr.injEq, exists_eq_left, exists_eq_left', exists_eq_right, exists_eq, exists_eq', exists_and_left, and_assoc, and_true, true_and, ne_eq, not_false_eq_true, Nat.succ_ne_zero, or_true, true_or, true_implies, forall_eq', forall_eq, PyData.int.injEq, PyData.bool.injEq, PyData.list.injEq, PyData.tuple.injEq, List.cons.injEq, i_add, i_iadd, i_sub, i_mul, i_mod, i_fdiv, i_fdivG, i_pow, i_neg, i_le, i_ge, i_gt, i_lt, i_eq, i_ne, i_intI, i_intB, i_abs, i_max, i_min, i_lenL, i_lenT, i_ixL, i_ixT, i_tupL, i_tupT, i_truB, Bool.not_true, Bool.not_false, Bool.false_eq_true, if_true, if_false, reduceIte]
      exact ⟨by omega, q⟩
    · simp -failIfUnchanged only [wVar, wC, wOp, wUn, wCl, wB, wTr, wAnd, wOr, wNot, wAndV, wOrV, wNotV, wIf, wCh, wNil, wCons, wTup, wLe, wSz, wFn, wFnJ, wFnB, wFnJB, wBNil, wBCons, wBOwn, rsvP, rsvJ, wNext, wRet, wRetN, wDrop, wIfS, wSet, wSetOwn, wNever, wAug, wOpO, wOpR, wClO, wApp, wSetIt, wFrz, wFor, wRg1, wRg2, wSq, wEnum, wZip, wZipM, wgN, wgT, wgNil, wgCons, wYes, wAsgT, wgLs, wLenS, wIxS, wFnS, wIsi, wListOf, wRev, edP, edJ, enP, enJ, enS, NotOwn, Flat, List.map_cons, List.map_nil, List.length_cons, List.length_nil, List.replicate_succ, List.replicate_zero, List.cons_append, List.nil_append, List.append_nil, List.set_cons_zero, List.set_cons_succ, List.getElem?_cons_zero, List.getElem?_cons_succ, Nat.reduceAdd, Nat.reduceSub, Option.some.injEq, Sl.imm.injEq, Sl.own.injEq, Sl.scr.injEq, exists_eq_left, exists_eq_left', exists_eq_right, exists_eq, exists_eq', exists_and_left, and_assoc, and_true, true_and, ne_eq, not_false_eq_true, Nat.succ_ne_zero, or_true, true_or, true_implies, forall_eq', forall_eq, PyData.int.injEq, PyData.bool.injEq, PyData.list.injEq, PyData.tuple.injEq, List.cons.injEq, i_add, i_iadd, i_sub, i_mul, i_mod, i_fdiv, i_fdivG, i_pow, i_neg, i_le, i_ge, i_gt, i_lt, i_eq, i_ne, i_intI, i_intB, i_abs, i_max, i_min, i_lenL, i_lenT, i_ixL, i_ixT, i_tupL, i_tupT, i_truB, Bool.not_true, Bool.not_false, Bool.false_eq_true, if_true, if_false, reduceIte]
      exact q
    simp -failIfUnchanged only [wVar, wC, wOp, wUn, wCl, wB, wTr, wAnd, wOr, wNot, wAndV, wOrV, wNotV, wIf, wCh, wNil, wCons, wTup, wLe, wSz, wFn, wFnJ, wFnB, wFnJB, wBNil, wBCons, wBOwn, rsvP, rsvJ, wNext, wRet, wRetN, wDrop, wIfS, wSet, wSetOwn, wNever, wAug, wOpO, wOpR, wClO, wApp, wSetIt, wFrz, wFor, wRg1, wRg2, wSq, wEnum, wZip, wZipM, wgN, wgT, wgNil, wgCons, wYes, wAsgT, wgLs, wLenS, wIxS, wFnS, wIsi, wListOf, wRev, edP, edJ, enP, enJ, enS, NotOwn, Flat, List.map_cons, List.map_nil, List.length_cons, List.length_nil, List.replicate_succ, List.replicate_zero, List.cons_append, List.nil_append, List.append_nil, List.set_cons_zero, List.set_cons_succ, List.getElem?_cons_zero, List.getElem?_cons_succ, Nat.reduceAdd, Nat.reduceSub, Option.some.injEq, Sl.imm.injEq, Sl.own.injEq, Sl.scr.injEq, exists_eq_left, exists_eq_left', exists_eq_right, exists_eq, exists_eq', exists_and_left, and_assoc, and_true, true_and, ne_eq, not_false_eq_true, Nat.succ_ne_zero, or_true, true_or, true_implies, forall_eq', forall_eq, PyData.int.injEq, PyData.bool.injEq, PyData.list.injEq, PyData.tuple.injEq, List.cons.injEq, i_add, i_iadd, i_sub, i_mul, i_mod, i_fdiv, i_fdivG, i_pow, i_neg, i_le, i_ge, i_gt, i_lt, i_eq, i_ne, i_intI, i_intB, i_abs, i_max, i_min, i_lenL, i_lenT, i_ixL, i_ixT, i_tupL, i_tupT, i_truB, Bool.not_true, Bool.not_false, Bool.false_eq_true, if_true, if_false, reduceIte]
    refine ⟨.bool false, i_neRl.mpr (by simp), false, rfl, ?_⟩
    rw [if_neg Bool.false_ne_true]
    exact rec_ _ _
theorem whole_wish {h : Int} {n : Nat} {R : Ed} (hh : Hs h) (h4 : h ≤ 4) (hn : n ≤ 2) (hk : h ^ n ≤ 64) (hk1 : h ^ (n + 1) ≤ 64) : ∀ (xs : List Nat) (s2 s3 s4 : Sl), (∀ x ∈ xs, x ≤ n) →
    (∀ s2 s3 s4, R.nx [.imm (.int h), .imm (.int ((n : Int) + 1)), s2, s3, s4, .un, .un]) →
    forW (wgN 2) (wFor (wRg1 (wCons (wVar 0) wNil)) (wgN 3) (wSeq (wSet 4 (wLe (wSortA (wLe (wLc (wSq (wFn 2 wf_keys (wCons (wVar 0) (wCons (wVar 1) wNil)))) (wgN 5) wYes (wFn 5 wf_asked_numbers (wCons (wVar 0) (wCons (wVar 1) (wCons (wVar 2) (wCons (wVar 5) (wCons (wVar 3) wNil)))))) [5]))))) (wIfS (wB (wOp dNe (wVar 4) (wLe (wLc (wSq (wFn 2 wf__law_all (wCons (wVar 0) (wCons (wVar 1) wNil)))) (wgN 6) (wB (wOp dEq (wOp dMod (wCl dSumA (wCons (wVar 6) wNil)) (wVar 0)) (wVar 3))) (wVar 6) [6])))) (wRet (wC (.bool false))) wNext))) R (xs.map fun i => .int ((i : Nat) : Int)) [.imm (.int h), .imm (.int ((n : Int) + 1)), s2, s3, s4, .un, .un]
  | [], s2, s3, s4, _, q => q s2 s3 s4
  | i :: xs, s2, s3, s4, hx, q => by
    have h1 := hx i List.mem_cons_self
    have h2 := hh.1
    have rec_ := fun s2 s3 s4 => whole_wish (R := R) hh h4 hn hk hk1 xs s2 s3 s4 (fun z hz => hx z (List.mem_cons_of_mem _ hz)) q
    rw [List.map_cons]
    unfold forW
    generalize forW (wgN 2) _ R (xs.map _) = N at rec_ ⊢
    simp -failIfUnchanged only [wVar, wC, wOp, wUn, wCl, wB, wTr, wAnd, wOr, wNot, wAndV, wOrV, wNotV, wIf, wCh, wNil, wCons, wTup, wLe, wSz, wFn, wFnJ, wFnB, wFnJB, wBNil, wBCons, wBOwn, rsvP, rsvJ, wNext, wRet, wRetN, wDrop, wIfS, wSet, wSetOwn, wNever, wAug, wOpO, wOpR, wClO, wApp, wSetIt, wFrz, wFor, wRg1, wRg2, wSq, wEnum, wZip, wZipM, wgN, wgT, wgNil, wgCons, wYes, wAsgT, wgLs, wLenS, wIxS, wFnS, wIsi, wListOf, wRev, edP, edJ, enP, enJ, enS, NotOwn, Flat, List.map_cons, List.map_nil, List.length_cons, List.length_nil, List.replicate_succ, List.replicate_zero, List.cons_append, List.nil_append, List.append_nil, List.set_cons_zero, List.set_cons_succ, List.getElem?_cons_zero, List.getElem?_cons_succ, Nat.reduceAdd, Nat.reduceSub, Option.some.injEq, Sl.imm.injEq, Sl.own.injEq, Sl.scr.injEq, exists_eq_left, exists_eq_left', exists_eq_right, exists_eq, exists_eq', exists_and_left, and_assoc, and_true, true_and, ne_eq, not_false_eq_true, Nat.succ_ne_zero, or_true, true_or, true_implies, forall_eq', forall_eq, PyData.int.injEq, PyData.bool.injEq, PyData.list.injEq, PyData.tuple.injEq, List.cons.injEq, i_add, i_iadd, i_sub, i_mul, i_mod, i_fdiv, i_fdivG, i_pow, i_neg, i_le, i_ge, i_gt, i_lt, i_eq, i_ne, i_intI, i_intB, i_abs, i_max, i_min, i_lenL, i_lenT, i_ixL, i_ixT, i_tupL, i_tupT, i_truB, Bool.not_true, Bool.not_false, Bool.false_eq_true, if_true, if_false, reduceIte]
    refine ⟨by omega, by omega, ?_⟩
    rw [rng_nats]
    exact whole_house hh h4 hn h1 hk hk1 _ _ _ (fun x hx => by have := List.mem_range.mp hx; omega) fun s3 s4 => rec_ _ _ _
theorem pu__law_is_whole (ds Q) (hl : ds.length = 2) (h : wf__law_is_whole ds Q) : ws__law_is_whole (edP Q) (enP N__law_is_whole ds) := by
  obtain ⟨h, n, rfl, h2, h4, hn, q⟩ := h
  have hb : h ^ n ≤ 64 ∧ h ^ (n + 1) ≤ 64 := by
    have e : (h = 2 ∨ h = 3 ∨ h = 4) ∧ (n = 0 ∨ n = 1 ∨ n = 2) := by omega
    obtain ⟨rfl | rfl | rfl, rfl | rfl | rfl⟩ := e <;> decide
  unfold ws__law_is_whole
  (try dsimp only); rw [wSeq_eq]; simp -failIfUnchanged only [N__law_is_whole, wVar, wC, wOp, wUn, wCl, wB, wTr, wAnd, wOr, wNot, wAndV, wOrV, wNotV, wIf, wCh, wNil, wCons, wTup, wLe, wSz, wFn, wFnJ, wFnB, wFnJB, wBNil, wBCons, wBOwn, rsvP, rsvJ, wNext, wRet, wRetN, wDrop, wIfS, wSet, wSetOwn, wNever, wAug, wOpO, wOpR, wClO, wApp, wSetIt, wFrz, wFor, wRg1, wRg2, wSq, wEnum, wZip, wZipM, wgN, wgT, wgNil, wgCons, wYes, wAsgT, wgLs, wLenS, wIxS, wFnS, wIsi, wListOf, wRev, edP, edJ, enP, enJ, enS, NotOwn, Flat, List.map_cons, List.map_nil, List.length_cons, List.length_nil, List.replicate_succ, List.replicate_zero, List.cons_append, List.nil_append, List.append_nil, List.set_cons_zero, List.set_cons_succ, List.getElem?_cons_zero, List.getElem?_cons_succ, Nat.reduceAdd, Nat.reduceSub, Option.some.injEq, Sl.imm.injEq, Sl.own.injEq, Sl.scr.injEq, exists_eq_left, exists_eq_left', exists_eq_right, exists_eq, exists_eq', exists_and_left, and_assoc, and_true, true_and, ne_eq, not_false_eq_true, Nat.succ_ne_zero, or_true, true_or, true_implies, forall_eq', forall_eq, PyData.int.injEq, PyData.bool.injEq, PyData.list.injEq, PyData.tuple.injEq, List.cons.injEq, i_add, i_iadd, i_sub, i_mul, i_mod, i_fdiv, i_fdivG, i_pow, i_neg, i_le, i_ge, i_gt, i_lt, i_eq, i_ne, i_intI, i_intB, i_abs, i_max, i_min, i_lenL, i_lenT, i_ixL, i_ixT, i_tupL, i_tupT, i_truB, Bool.not_true, Bool.not_false, Bool.false_eq_true, if_true, if_false, reduceIte]
  refine ⟨by omega, by omega, ?_⟩
  rw [rng_nats]
  refine whole_wish ⟨h2, by omega⟩ h4 hn hb.1 hb.2 _ _ _ _ (fun x hx => by have := List.mem_range.mp hx; omega) fun s2 s3 s4 => ?_
  simp -failIfUnchanged only [wVar, wC, wOp, wUn, wCl, wB, wTr, wAnd, wOr, wNot, wAndV, wOrV, wNotV, wIf, wCh, wNil, wCons, wTup, wLe, wSz, wFn, wFnJ, wFnB, wFnJB, wBNil, wBCons, wBOwn, rsvP, rsvJ, wNext, wRet, wRetN, wDrop, wIfS, wSet, wSetOwn, wNever, wAug, wOpO, wOpR, wClO, wApp, wSetIt, wFrz, wFor, wRg1, wRg2, wSq, wEnum, wZip, wZipM, wgN, wgT, wgNil, wgCons, wYes, wAsgT, wgLs, wLenS, wIxS, wFnS, wIsi, wListOf, wRev, edP, edJ, enP, enJ, enS, NotOwn, Flat, List.map_cons, List.map_nil, List.length_cons, List.length_nil, List.replicate_succ, List.replicate_zero, List.cons_append, List.nil_append, List.append_nil, List.set_cons_zero, List.set_cons_succ, List.getElem?_cons_zero, List.getElem?_cons_succ, Nat.reduceAdd, Nat.reduceSub, Option.some.injEq, Sl.imm.injEq, Sl.own.injEq, Sl.scr.injEq, exists_eq_left, exists_eq_left', exists_eq_right, exists_eq, exists_eq', exists_and_left, and_assoc, and_true, true_and, ne_eq, not_false_eq_true, Nat.succ_ne_zero, or_true, true_or, true_implies, forall_eq', forall_eq, PyData.int.injEq, PyData.bool.injEq, PyData.list.injEq, PyData.tuple.injEq, List.cons.injEq, i_add, i_iadd, i_sub, i_mul, i_mod, i_fdiv, i_fdivG, i_pow, i_neg, i_le, i_ge, i_gt, i_lt, i_eq, i_ne, i_intI, i_intB, i_abs, i_max, i_min, i_lenL, i_lenT, i_ixL, i_ixT, i_tupL, i_tupT, i_truB, Bool.not_true, Bool.not_false, Bool.false_eq_true, if_true, if_false, reduceIte]
  exact q
theorem in_loop {ns : List Int} {d4 d5 : Sl} {R : Ed} {s1 : D} : ∀ (xs : List D) (s3 : Sl) (g m c : Int), (∀ (s3 : Sl) (g m c : Int), R.nx [.scr ns, .imm s1, .own [.int g, .int m, .int c], s3, d4]) →
    forW (wgN 3) (wIfS (wNot (wTr (wFnJ 2 1 wf__law_right wNil))) (wRet (wC (.bool false))) wNext) R xs [.scr ns, .imm s1, .own [.int g, .int m, .int c], s3, d4]
  | [], s3, g, m, c, q => q s3 g m c
  | x :: xs, s3, g, m, c, q => by
    have rec_ := fun s3 g m c => in_loop (ns := ns) (d4 := d4) (d5 := d5) (R := R) (s1 := s1) xs s3 g m c q
    unfold forW
    generalize forW (wgN 3) _ R xs = N at rec_ ⊢
    simp -failIfUnchanged only [wf__law_right, wVar, wC, wOp, wUn, wCl, wB, wTr, wAnd, wOr, wNot, wAndV, wOrV, wNotV, wIf, wCh, wNil, wCons, wTup, wLe, wSz, wFn, wFnJ, wFnB, wFnJB, wBNil, wBCons, wBOwn, rsvP, rsvJ, wNext, wRet, wRetN, wDrop, wIfS, wSet, wSetOwn, wNever, wAug, wOpO, wOpR, wClO, wApp, wSetIt, wFrz, wFor, wRg1, wRg2, wSq, wEnum, wZip, wZipM, wgN, wgT, wgNil, wgCons, wYes, wAsgT, wgLs, wLenS, wIxS, wFnS, wIsi, wListOf, wRev, edP, edJ, enP, enJ, enS, NotOwn, Flat, List.map_cons, List.map_nil, List.length_cons, List.length_nil, List.replicate_succ, List.replicate_zero, List.cons_append, List.nil_append, List.append_nil, List.set_cons_zero, List.set_cons_succ, List.getElem?_cons_zero, List.getElem?_cons_succ, Nat.reduceAdd, Nat.reduceSub, Option.some.injEq, Sl.imm.injEq, Sl.own.injEq, Sl.scr.injEq, exists_eq_left, exists_eq_left', exists_eq_right, exists_eq, exists_eq', exists_and_left, and_assoc, and_true, true_and, ne_eq, not_false_eq_true, Nat.succ_ne_zero, or_true, true_or, true_implies, forall_eq', forall_eq, PyData.int.injEq, PyData.bool.injEq, PyData.list.injEq, PyData.tuple.injEq, List.cons.injEq, i_add, i_iadd, i_sub, i_mul, i_mod, i_fdiv, i_fdivG, i_pow, i_neg, i_le, i_ge, i_gt, i_lt, i_eq, i_ne, i_intI, i_intB, i_abs, i_max, i_min, i_lenL, i_lenT, i_ixL, i_ixT, i_tupL, i_tupT, i_truB, Bool.not_true, Bool.not_false, Bool.false_eq_true, if_true, if_false, reduceIte]
    exact fun g m c => rec_ _ g m c
theorem rng_nat' {n : Nat} : ∀ x ∈ rngD 0 n, ∃ i : Nat, x = .int i ∧ i < n := fun x hx => by
  obtain ⟨i, hi⟩ := List.getElem?_of_mem hx
  obtain ⟨e, h⟩ := rngD_get hi
  exact ⟨i, by rw [e, Int.zero_add], h⟩
theorem out_loop {ns : List Int} {d4 : Sl} {R : Ed} (q0 : ∀ e, R.rt (.bool false) e → True) : ∀ (xs : List D), (∀ x ∈ xs, ∃ i : Nat, x = .int i) → ∀ (s1 s2 s3 : Sl), (∀ (s1 s2 s3 : Sl), R.nx [.scr ns, s1, s2, s3, d4]) →
    forW (wgN 1) (wSeq (wSetOwn 2 (wFnS 0 2 wf__law_sc_pot (wCons (wVar 1) wNil))) (wSeq (wFor (wRg1 (wCons (wC (.int 3)) wNil)) (wgN 3) (wIfS (wNot (wTr (wFnJ 2 1 wf__law_right wNil))) (wRet (wC (.bool false))) wNext)) (wIfS (wNot (wTr (wFn 2 wf__law_is_whole (wCons (wOp dAdd (wC (.int 2)) (wFnJ 2 2 wf__law_pour (wCons (wC (.int 3)) wNil))) (wCons (wOp dAdd (wC (.int 1)) (wFnJ 2 2 wf__law_pour (wCons (wC (.int 3)) wNil))) wNil))))) (wRet (wC (.bool false))) wNext))) R xs [.scr ns, s1, s2, s3, d4]
  | [], _, s1, s2, s3, q => q s1 s2 s3
  | x :: xs, hx, s1, s2, s3, q => by
    obtain ⟨i, rfl⟩ := hx x List.mem_cons_self
    have rec_ := fun s1 s2 s3 => out_loop (ns := ns) (d4 := d4) (R := R) q0 xs (fun x hx' => hx x (List.mem_cons_of_mem _ hx')) s1 s2 s3 q
    unfold forW
    generalize forW (wgN 1) _ R xs = N at rec_ ⊢
    simp -failIfUnchanged only [wVar, wC, wOp, wUn, wCl, wB, wTr, wAnd, wOr, wNot, wAndV, wOrV, wNotV, wIf, wCh, wNil, wCons, wTup, wLe, wSz, wFn, wFnJ, wFnB, wFnJB, wBNil, wBCons, wBOwn, rsvP, rsvJ, wNext, wRet, wRetN, wDrop, wIfS, wSet, wSetOwn, wNever, wAug, wOpO, wOpR, wClO, wApp, wSetIt, wFrz, wFor, wRg1, wRg2, wSq, wEnum, wZip, wZipM, wgN, wgT, wgNil, wgCons, wYes, wAsgT, wgLs, wLenS, wIxS, wFnS, wIsi, wListOf, wRev, edP, edJ, enP, enJ, enS, NotOwn, Flat, List.map_cons, List.map_nil, List.length_cons, List.length_nil, List.replicate_succ, List.replicate_zero, List.cons_append, List.nil_append, List.append_nil, List.set_cons_zero, List.set_cons_succ, List.getElem?_cons_zero, List.getElem?_cons_succ, Nat.reduceAdd, Nat.reduceSub, Option.some.injEq, Sl.imm.injEq, Sl.own.injEq, Sl.scr.injEq, exists_eq_left, exists_eq_left', exists_eq_right, exists_eq, exists_eq', exists_and_left, and_assoc, and_true, true_and, ne_eq, not_false_eq_true, Nat.succ_ne_zero, or_true, true_or, true_implies, forall_eq', forall_eq, PyData.int.injEq, PyData.bool.injEq, PyData.list.injEq, PyData.tuple.injEq, List.cons.injEq, i_add, i_iadd, i_sub, i_mul, i_mod, i_fdiv, i_fdivG, i_pow, i_neg, i_le, i_ge, i_gt, i_lt, i_eq, i_ne, i_intI, i_intB, i_abs, i_max, i_min, i_lenL, i_lenT, i_ixL, i_ixT, i_tupL, i_tupT, i_truB, Bool.not_true, Bool.not_false, Bool.false_eq_true, if_true, if_false, reduceIte]
    (try dsimp only); rw [wSeq_eq]; simp -failIfUnchanged only [wf__law_sc_pot, wVar, wC, wOp, wUn, wCl, wB, wTr, wAnd, wOr, wNot, wAndV, wOrV, wNotV, wIf, wCh, wNil, wCons, wTup, wLe, wSz, wFn, wFnJ, wFnB, wFnJB, wBNil, wBCons, wBOwn, rsvP, rsvJ, wNext, wRet, wRetN, wDrop, wIfS, wSet, wSetOwn, wNever, wAug, wOpO, wOpR, wClO, wApp, wSetIt, wFrz, wFor, wRg1, wRg2, wSq, wEnum, wZip, wZipM, wgN, wgT, wgNil, wgCons, wYes, wAsgT, wgLs, wLenS, wIxS, wFnS, wIsi, wListOf, wRev, edP, edJ, enP, enJ, enS, NotOwn, Flat, List.map_cons, List.map_nil, List.length_cons, List.length_nil, List.replicate_succ, List.replicate_zero, List.cons_append, List.nil_append, List.append_nil, List.set_cons_zero, List.set_cons_succ, List.getElem?_cons_zero, List.getElem?_cons_succ, Nat.reduceAdd, Nat.reduceSub, Option.some.injEq, Sl.imm.injEq, Sl.own.injEq, Sl.scr.injEq, exists_eq_left, exists_eq_left', exists_eq_right, exists_eq, exists_eq', exists_and_left, and_assoc, and_true, true_and, ne_eq, not_false_eq_true, Nat.succ_ne_zero, or_true, true_or, true_implies, forall_eq', forall_eq, PyData.int.injEq, PyData.bool.injEq, PyData.list.injEq, PyData.tuple.injEq, List.cons.injEq, i_add, i_iadd, i_sub, i_mul, i_mod, i_fdiv, i_fdivG, i_pow, i_neg, i_le, i_ge, i_gt, i_lt, i_eq, i_ne, i_intI, i_intB, i_abs, i_max, i_min, i_lenL, i_lenT, i_ixL, i_ixT, i_tupL, i_tupT, i_truB, Bool.not_true, Bool.not_false, Bool.false_eq_true, if_true, if_false, reduceIte]
    refine ⟨ns, [(i : Int)], rfl, rfl, rfl, i, rfl, fun g m c => ⟨[g, m, c], rfl, ?_⟩⟩
    (try dsimp only); rw [wSeq_eq]; simp -failIfUnchanged only [wVar, wC, wOp, wUn, wCl, wB, wTr, wAnd, wOr, wNot, wAndV, wOrV, wNotV, wIf, wCh, wNil, wCons, wTup, wLe, wSz, wFn, wFnJ, wFnB, wFnJB, wBNil, wBCons, wBOwn, rsvP, rsvJ, wNext, wRet, wRetN, wDrop, wIfS, wSet, wSetOwn, wNever, wAug, wOpO, wOpR, wClO, wApp, wSetIt, wFrz, wFor, wRg1, wRg2, wSq, wEnum, wZip, wZipM, wgN, wgT, wgNil, wgCons, wYes, wAsgT, wgLs, wLenS, wIxS, wFnS, wIsi, wListOf, wRev, edP, edJ, enP, enJ, enS, NotOwn, Flat, List.map_cons, List.map_nil, List.length_cons, List.length_nil, List.replicate_succ, List.replicate_zero, List.cons_append, List.nil_append, List.append_nil, List.set_cons_zero, List.set_cons_succ, List.getElem?_cons_zero, List.getElem?_cons_succ, Nat.reduceAdd, Nat.reduceSub, Option.some.injEq, Sl.imm.injEq, Sl.own.injEq, Sl.scr.injEq, exists_eq_left, exists_eq_left', exists_eq_right, exists_eq, exists_eq', exists_and_left, and_assoc, and_true, true_and, ne_eq, not_false_eq_true, Nat.succ_ne_zero, or_true, true_or, true_implies, forall_eq', forall_eq, PyData.int.injEq, PyData.bool.injEq, PyData.list.injEq, PyData.tuple.injEq, List.cons.injEq, i_add, i_iadd, i_sub, i_mul, i_mod, i_fdiv, i_fdivG, i_pow, i_neg, i_le, i_ge, i_gt, i_lt, i_eq, i_ne, i_intI, i_intB, i_abs, i_max, i_min, i_lenL, i_lenT, i_ixL, i_ixT, i_tupL, i_tupT, i_truB, Bool.not_true, Bool.not_false, Bool.false_eq_true, if_true, if_false, reduceIte]
    refine ⟨by decide, by decide, ?_⟩
    refine in_loop (d5 := .un) _ _ g m c fun s3 g m c => ?_
    simp -failIfUnchanged only [wf__law_pour, wf__law_is_whole, wVar, wC, wOp, wUn, wCl, wB, wTr, wAnd, wOr, wNot, wAndV, wOrV, wNotV, wIf, wCh, wNil, wCons, wTup, wLe, wSz, wFn, wFnJ, wFnB, wFnJB, wBNil, wBCons, wBOwn, rsvP, rsvJ, wNext, wRet, wRetN, wDrop, wIfS, wSet, wSetOwn, wNever, wAug, wOpO, wOpR, wClO, wApp, wSetIt, wFrz, wFor, wRg1, wRg2, wSq, wEnum, wZip, wZipM, wgN, wgT, wgNil, wgCons, wYes, wAsgT, wgLs, wLenS, wIxS, wFnS, wIsi, wListOf, wRev, edP, edJ, enP, enJ, enS, NotOwn, Flat, List.map_cons, List.map_nil, List.length_cons, List.length_nil, List.replicate_succ, List.replicate_zero, List.cons_append, List.nil_append, List.append_nil, List.set_cons_zero, List.set_cons_succ, List.getElem?_cons_zero, List.getElem?_cons_succ, Nat.reduceAdd, Nat.reduceSub, Option.some.injEq, Sl.imm.injEq, Sl.own.injEq, Sl.scr.injEq, exists_eq_left, exists_eq_left', exists_eq_right, exists_eq, exists_eq', exists_and_left, and_assoc, and_true, true_and, ne_eq, not_false_eq_true, Nat.succ_ne_zero, or_true, true_or, true_implies, forall_eq', forall_eq, PyData.int.injEq, PyData.bool.injEq, PyData.list.injEq, PyData.tuple.injEq, List.cons.injEq, i_add, i_iadd, i_sub, i_mul, i_mod, i_fdiv, i_fdivG, i_pow, i_neg, i_le, i_ge, i_gt, i_lt, i_eq, i_ne, i_intI, i_intB, i_abs, i_max, i_min, i_lenL, i_lenT, i_ixL, i_ixT, i_tupL, i_tupT, i_truB, Bool.not_true, Bool.not_false, Bool.false_eq_true, if_true, if_false, reduceIte]
    refine ⟨by decide, log_lt (by decide) (by decide), fun r g m c r0 r1 => ⟨by decide, log_lt (by decide) (by decide), fun r2 g m c r3 r4 => ?_⟩⟩
    obtain ⟨n, rfl⟩ : ∃ k : Nat, r2 = ((k : Nat) : Int) := ⟨r2.toNat, by omega⟩
    refine ⟨n, by omega, by omega, by omega, by omega, ?_⟩
    exact rec_ _ _ _
theorem pu_law (ns ds Q) (hl : ds.length + 1 = 1) (h : wf_law ns ds Q) : ws_law (edP Q) (enS N_law ns ds) := by
  obtain ⟨rfl, hn, q⟩ := h
  unfold ws_law
  (try dsimp only); rw [wSeq_eq]; simp -failIfUnchanged only [N_law, wVar, wC, wOp, wUn, wCl, wB, wTr, wAnd, wOr, wNot, wAndV, wOrV, wNotV, wIf, wCh, wNil, wCons, wTup, wLe, wSz, wFn, wFnJ, wFnB, wFnJB, wBNil, wBCons, wBOwn, rsvP, rsvJ, wNext, wRet, wRetN, wDrop, wIfS, wSet, wSetOwn, wNever, wAug, wOpO, wOpR, wClO, wApp, wSetIt, wFrz, wFor, wRg1, wRg2, wSq, wEnum, wZip, wZipM, wgN, wgT, wgNil, wgCons, wYes, wAsgT, wgLs, wLenS, wIxS, wFnS, wIsi, wListOf, wRev, edP, edJ, enP, enJ, enS, NotOwn, Flat, List.map_cons, List.map_nil, List.length_cons, List.length_nil, List.replicate_succ, List.replicate_zero, List.cons_append, List.nil_append, List.append_nil, List.set_cons_zero, List.set_cons_succ, List.getElem?_cons_zero, List.getElem?_cons_succ, Nat.reduceAdd, Nat.reduceSub, Option.some.injEq, Sl.imm.injEq, Sl.own.injEq, Sl.scr.injEq, exists_eq_left, exists_eq_left', exists_eq_right, exists_eq, exists_eq', exists_and_left, and_assoc, and_true, true_and, ne_eq, not_false_eq_true, Nat.succ_ne_zero, or_true, true_or, true_implies, forall_eq', forall_eq, PyData.int.injEq, PyData.bool.injEq, PyData.list.injEq, PyData.tuple.injEq, List.cons.injEq, i_add, i_iadd, i_sub, i_mul, i_mod, i_fdiv, i_fdivG, i_pow, i_neg, i_le, i_ge, i_gt, i_lt, i_eq, i_ne, i_intI, i_intB, i_abs, i_max, i_min, i_lenL, i_lenT, i_ixL, i_ixT, i_tupL, i_tupT, i_truB, Bool.not_true, Bool.not_false, Bool.false_eq_true, if_true, if_false, reduceIte]
  refine ⟨by split <;> (try split) <;> omega, by split <;> (try split) <;> omega, ?_⟩
  refine out_loop (fun _ _ => trivial) _ (fun x hx => (rng_nat' x hx).imp fun _ h => h.1) _ _ _ fun s1 s2 s3 => ?_
  dsimp only
  (try dsimp only); rw [wSeq_eq]; simp -failIfUnchanged only [sz0, sz1, sz2, sz3, sz4, sz5, sz6, sz7, sz8, sz9, sz10, sz11, sz12, sz13, sz14, sz15, sz16, sz17, sz18, sz19, sz20, sz21, sz22, sz23, sz24, sz25, sz26, sz27, sz28, sz29, sz30, sz31, sz32, sz33, sz34, sz35, sz36, sz37, sz38, sz39, sz40, wf_keys, wf_asked_numbers, wVar, wC, wOp, wUn, wCl, wB, wTr, wAnd, wOr, wNot, wAndV, wOrV, wNotV, wIf, wCh, wNil, wCons, wTup, wLe, wSz, wFn, wFnJ, wFnB, wFnJB, wBNil, wBCons, wBOwn, rsvP, rsvJ, wNext, wRet, wRetN, wDrop, wIfS, wSet, wSetOwn, wNever, wAug, wOpO, wOpR, wClO, wApp, wSetIt, wFrz, wFor, wRg1, wRg2, wSq, wEnum, wZip, wZipM, wgN, wgT, wgNil, wgCons, wYes, wAsgT, wgLs, wLenS, wIxS, wFnS, wIsi, wListOf, wRev, edP, edJ, enP, enJ, enS, NotOwn, Flat, List.map_cons, List.map_nil, List.length_cons, List.length_nil, List.replicate_succ, List.replicate_zero, List.cons_append, List.nil_append, List.append_nil, List.set_cons_zero, List.set_cons_succ, List.getElem?_cons_zero, List.getElem?_cons_succ, Nat.reduceAdd, Nat.reduceSub, Option.some.injEq, Sl.imm.injEq, Sl.own.injEq, Sl.scr.injEq, exists_eq_left, exists_eq_left', exists_eq_right, exists_eq, exists_eq', exists_and_left, and_assoc, and_true, true_and, ne_eq, not_false_eq_true, Nat.succ_ne_zero, or_true, true_or, true_implies, forall_eq', forall_eq, PyData.int.injEq, PyData.bool.injEq, PyData.list.injEq, PyData.tuple.injEq, List.cons.injEq, i_add, i_iadd, i_sub, i_mul, i_mod, i_fdiv, i_fdivG, i_pow, i_neg, i_le, i_ge, i_gt, i_lt, i_eq, i_ne, i_intI, i_intB, i_abs, i_max, i_min, i_lenL, i_lenT, i_ixL, i_ixT, i_tupL, i_tupT, i_truB, Bool.not_true, Bool.not_false, Bool.false_eq_true, if_true, if_false, reduceIte]
  have e1 : rowsD (allT 3 1) = .tuple [.tuple [.int 0], .tuple [.int 1], .tuple [.int 2]] := by rfl
  have e2 : rowsD (allT 6 0) = .tuple [.tuple []] := by rfl
  have e3 : rowD (numL 3 1 [2, 1] 0) = .tuple [.int 2, .int 0, .int 1] := by rfl
  refine ⟨1, rfl, ⟨by decide, by decide⟩, by decide, by decide, 0, rfl, ⟨by decide, by decide⟩, by decide, by decide, 0, 1, [2, 1], rfl, rfl, rfl, rfl, ⟨by decide, by decide⟩, by decide, by decide, by decide, by decide, by decide, .bool false, ?_, false, rfl, ?_⟩
  · rw [e1, e2, e3]
    exact (ne_self (by rfl) (by rfl)).mpr rfl
  rw [if_neg Bool.false_ne_true]
  have k1 : keyD 3 1 0 [2, 0, 1] = .tuple [.int 2, .int 1] := by unfold keyD; rw [if_pos (by decide)]; rfl
  have k2 : keyD 3 1 1 [2, 0, 1] = .none := by unfold keyD; rw [if_neg (by decide)]
  have k3 : keyD 5 0 4 [4] = .tuple [] := by unfold keyD; rw [if_pos (by decide)]; rfl
  have k4 : keyD 5 0 3 [4] = .none := by unfold keyD; rw [if_neg (by decide)]
  (try dsimp only); rw [wSeq_eq]; simp -failIfUnchanged only [sz0, sz1, sz2, sz3, sz4, sz5, sz6, sz7, sz8, sz9, sz10, sz11, sz12, sz13, sz14, sz15, sz16, sz17, sz18, sz19, sz20, sz21, sz22, sz23, sz24, sz25, sz26, sz27, sz28, sz29, sz30, sz31, sz32, sz33, sz34, sz35, sz36, sz37, sz38, sz39, sz40, wf_key_of, wVar, wC, wOp, wUn, wCl, wB, wTr, wAnd, wOr, wNot, wAndV, wOrV, wNotV, wIf, wCh, wNil, wCons, wTup, wLe, wSz, wFn, wFnJ, wFnB, wFnJB, wBNil, wBCons, wBOwn, rsvP, rsvJ, wNext, wRet, wRetN, wDrop, wIfS, wSet, wSetOwn, wNever, wAug, wOpO, wOpR, wClO, wApp, wSetIt, wFrz, wFor, wRg1, wRg2, wSq, wEnum, wZip, wZipM, wgN, wgT, wgNil, wgCons, wYes, wAsgT, wgLs, wLenS, wIxS, wFnS, wIsi, wListOf, wRev, edP, edJ, enP, enJ, enS, NotOwn, Flat, List.map_cons, List.map_nil, List.length_cons, List.length_nil, List.replicate_succ, List.replicate_zero, List.cons_append, List.nil_append, List.append_nil, List.set_cons_zero, List.set_cons_succ, List.getElem?_cons_zero, List.getElem?_cons_succ, Nat.reduceAdd, Nat.reduceSub, Option.some.injEq, Sl.imm.injEq, Sl.own.injEq, Sl.scr.injEq, exists_eq_left, exists_eq_left', exists_eq_right, exists_eq, exists_eq', exists_and_left, and_assoc, and_true, true_and, ne_eq, not_false_eq_true, Nat.succ_ne_zero, or_true, true_or, true_implies, forall_eq', forall_eq, PyData.int.injEq, PyData.bool.injEq, PyData.list.injEq, PyData.tuple.injEq, List.cons.injEq, i_add, i_iadd, i_sub, i_mul, i_mod, i_fdiv, i_fdivG, i_pow, i_neg, i_le, i_ge, i_gt, i_lt, i_eq, i_ne, i_intI, i_intB, i_abs, i_max, i_min, i_lenL, i_lenT, i_ixL, i_ixT, i_tupL, i_tupT, i_truB, Bool.not_true, Bool.not_false, Bool.false_eq_true, if_true, if_false, reduceIte]
  refine ⟨0, 1, [2, 0, 1], rfl, rfl, rfl, rfl, ⟨by decide, by decide⟩, by decide, by decide, by decide, by decide, by decide, 1, 1, [2, 0, 1], rfl, rfl, rfl, rfl, ⟨by decide, by decide⟩, by decide, by decide, by decide, by decide, by decide, ?_⟩
  rw [k1, k2]
  (try dsimp only); rw [wSeq_eq]; simp -failIfUnchanged only [sz0, sz1, sz2, sz3, sz4, sz5, sz6, sz7, sz8, sz9, sz10, sz11, sz12, sz13, sz14, sz15, sz16, sz17, sz18, sz19, sz20, sz21, sz22, sz23, sz24, sz25, sz26, sz27, sz28, sz29, sz30, sz31, sz32, sz33, sz34, sz35, sz36, sz37, sz38, sz39, sz40, wf_key_of, wVar, wC, wOp, wUn, wCl, wB, wTr, wAnd, wOr, wNot, wAndV, wOrV, wNotV, wIf, wCh, wNil, wCons, wTup, wLe, wSz, wFn, wFnJ, wFnB, wFnJB, wBNil, wBCons, wBOwn, rsvP, rsvJ, wNext, wRet, wRetN, wDrop, wIfS, wSet, wSetOwn, wNever, wAug, wOpO, wOpR, wClO, wApp, wSetIt, wFrz, wFor, wRg1, wRg2, wSq, wEnum, wZip, wZipM, wgN, wgT, wgNil, wgCons, wYes, wAsgT, wgLs, wLenS, wIxS, wFnS, wIsi, wListOf, wRev, edP, edJ, enP, enJ, enS, NotOwn, Flat, List.map_cons, List.map_nil, List.length_cons, List.length_nil, List.replicate_succ, List.replicate_zero, List.cons_append, List.nil_append, List.append_nil, List.set_cons_zero, List.set_cons_succ, List.getElem?_cons_zero, List.getElem?_cons_succ, Nat.reduceAdd, Nat.reduceSub, Option.some.injEq, Sl.imm.injEq, Sl.own.injEq, Sl.scr.injEq, exists_eq_left, exists_eq_left', exists_eq_right, exists_eq, exists_eq', exists_and_left, and_assoc, and_true, true_and, ne_eq, not_false_eq_true, Nat.succ_ne_zero, or_true, true_or, true_implies, forall_eq', forall_eq, PyData.int.injEq, PyData.bool.injEq, PyData.list.injEq, PyData.tuple.injEq, List.cons.injEq, i_add, i_iadd, i_sub, i_mul, i_mod, i_fdiv, i_fdivG, i_pow, i_neg, i_le, i_ge, i_gt, i_lt, i_eq, i_ne, i_intI, i_intB, i_abs, i_max, i_min, i_lenL, i_lenT, i_ixL, i_ixT, i_tupL, i_tupT, i_truB, Bool.not_true, Bool.not_false, Bool.false_eq_true, if_true, if_false, reduceIte]
  refine ⟨4, 0, [4], rfl, rfl, rfl, rfl, ⟨by decide, by decide⟩, by decide, by decide, by decide, by decide, by decide, 3, 0, [4], rfl, rfl, rfl, rfl, ⟨by decide, by decide⟩, by decide, by decide, by decide, by decide, by decide, ?_⟩
  rw [k3, k4]
  refine ⟨_, i_addL.mpr ⟨by decide, rfl⟩, ?_⟩
  simp -failIfUnchanged only [sz0, sz1, sz2, sz3, sz4, sz5, sz6, sz7, sz8, sz9, sz10, sz11, sz12, sz13, sz14, sz15, sz16, sz17, sz18, sz19, sz20, sz21, sz22, sz23, sz24, sz25, sz26, sz27, sz28, sz29, sz30, sz31, sz32, sz33, sz34, sz35, sz36, sz37, sz38, sz39, sz40, wf_keys, wVar, wC, wOp, wUn, wCl, wB, wTr, wAnd, wOr, wNot, wAndV, wOrV, wNotV, wIf, wCh, wNil, wCons, wTup, wLe, wSz, wFn, wFnJ, wFnB, wFnJB, wBNil, wBCons, wBOwn, rsvP, rsvJ, wNext, wRet, wRetN, wDrop, wIfS, wSet, wSetOwn, wNever, wAug, wOpO, wOpR, wClO, wApp, wSetIt, wFrz, wFor, wRg1, wRg2, wSq, wEnum, wZip, wZipM, wgN, wgT, wgNil, wgCons, wYes, wAsgT, wgLs, wLenS, wIxS, wFnS, wIsi, wListOf, wRev, edP, edJ, enP, enJ, enS, NotOwn, Flat, List.map_cons, List.map_nil, List.length_cons, List.length_nil, List.replicate_succ, List.replicate_zero, List.cons_append, List.nil_append, List.append_nil, List.set_cons_zero, List.set_cons_succ, List.getElem?_cons_zero, List.getElem?_cons_succ, Nat.reduceAdd, Nat.reduceSub, Option.some.injEq, Sl.imm.injEq, Sl.own.injEq, Sl.scr.injEq, exists_eq_left, exists_eq_left', exists_eq_right, exists_eq, exists_eq', exists_and_left, and_assoc, and_true, true_and, ne_eq, not_false_eq_true, Nat.succ_ne_zero, or_true, true_or, true_implies, forall_eq', forall_eq, PyData.int.injEq, PyData.bool.injEq, PyData.list.injEq, PyData.tuple.injEq, List.cons.injEq, i_add, i_iadd, i_sub, i_mul, i_mod, i_fdiv, i_fdivG, i_pow, i_neg, i_le, i_ge, i_gt, i_lt, i_eq, i_ne, i_intI, i_intB, i_abs, i_max, i_min, i_lenL, i_lenT, i_ixL, i_ixT, i_tupL, i_tupT, i_truB, Bool.not_true, Bool.not_false, Bool.false_eq_true, if_true, if_false, reduceIte]
  refine ⟨.bool true, (eq_self' (by rfl) (by rfl)).mpr rfl, true, rfl, ?_⟩
  rw [if_pos rfl]
  refine ⟨3, rfl, ⟨by decide, by decide⟩, by decide, by decide, _, rfl, .bool true, ?_, q⟩
  exact i_eq.mpr (by rw [List.length_map, show (((allT 4 3).length : Nat) : Int) = 64 from by rw [allT_len (by decide)]; rfl]; rfl)
end K60

set_option Elab.async false
set_option linter.all false
set_option maxRecDepth 100000
set_option maxHeartbeats 0
namespace K60
open PySem PySem.Spec PyProof.Rows L2 Pd
def dd (x : Str) (i : Nat) : He.DefD := ⟨(x, none), x, x, defArgs (top i), defBody (top i), defScope (top i), [], []⟩
def fn : List He.DefD := [dd "is_whole" 6, dd "is_between" 7, dd "check_between" 8, dd "powers_to" 10, dd "check_books" 13, dd "check_lone" 17, dd "are_numbers" 18, dd "check_key" 19, dd "check_numbers" 20, dd "check_few_keys" 21, dd "all_keys" 22, dd "numbers_of" 23, dd "keys" 24, dd "asked_numbers" 25, dd "key_of" 26, dd "_law_pour" 28, dd "_law_sc_pot" 29, dd "_law_all" 30, dd "_law_numbers" 31, dd "_law_is_key_right" 32, dd "_law_right" 33, dd "_law_is_whole" 34, dd "law" 35]
def fa : List He.Fa := [.glo "is_whole", .glo "is_between", .glo "check_between", .glo "powers_to", .glo "check_books", .glo "check_lone", .glo "are_numbers", .glo "check_key", .glo "check_numbers", .glo "check_few_keys", .glo "all_keys", .glo "numbers_of", .glo "keys", .glo "asked_numbers", .glo "key_of", .glo "_law_pour", .glo "_law_sc_pot", .glo "_law_all", .glo "_law_numbers", .glo "_law_is_key_right", .glo "_law_right", .glo "_law_is_whole", .glo "law", .int "MOST_COINS" 64, .int "MOST_HELD" 4, .int "MOST_HOUSES" 6, .free "abs", .free "all", .free "bool", .free "int", .free "isinstance", .free "len", .free "max", .free "min", .free "range", .free "sorted", .free "sum", .free "tuple"]
def bs : List (Str × String) := []
abbrev R : PySem.W.OpenRow := PySem.W.OpenLaw.row RR
abbrev hk : PySem.W.Hook := hkB 4 fa fn bs
def ob (s : PySem.W.SharedT) : AlB := obBG 4 fa fn bs (HandSHeadRun.getT s)
theorem ob_eq (s : PySem.W.SharedT) : ob s = hk.obs s.abs := obB_eq (HandSHeadRun.getT_eq s)
abbrev loose : List Str := (["FetchError", "InvalidOperation", "InvalidNumber", "TooMany", "is_whole", "is_between", "check_between", "powers_to", "MOST_HELD", "check_books", "MOST_HOUSES", "MOST_COINS", "check_lone", "are_numbers", "check_key"] : List Str) ++ (["check_numbers", "check_few_keys", "all_keys", "numbers_of", "keys", "asked_numbers", "key_of", "_law_pour", "_law_sc_pot", "_law_all", "_law_numbers", "_law_is_key_right", "_law_right", "_law_is_whole"] : List Str)
theorem run (w : World) : HandSHeadRun.RunEq R (PySem.W.view R.prog [35]) hk ob 9000 loose w := by
  intro os
  kernel_rfl
theorem facts {P : Program} {w : World} {K : PySem.W.Frag} {h : Heap} {mg : Str → Option Value} {f : Addr} (X : K.In h) (G : h.Ns mainGlobals mg) (hfa : mg ("law" : Str) = some (.ref f)) (cb : SaysB fa fn bs K) :
    ∃ fd : FuncData, (∀ (s : Shared) (v : Value), BindsTo s fd ⟨[v], []⟩ [("script", v)]) ∧ ∀ base : Heap, K.In base → base.Ns mainGlobals mg → FnOk P w K mg base CX0 9 f fd ["script"] (spS K 1 wf_law) := by
  have c := cb.d
  have T : Tb mg := ⟨He.free_ok X G (c.fact 26 (f := .free "abs") rfl), He.free_ok X G (c.fact 27 (f := .free "all") rfl), He.free_ok X G (c.fact 28 (f := .free "bool") rfl), He.free_ok X G (c.fact 29 (f := .free "int") rfl), He.free_ok X G (c.fact 30 (f := .free "isinstance") rfl), He.free_ok X G (c.fact 31 (f := .free "len") rfl), He.free_ok X G (c.fact 32 (f := .free "max") rfl), He.free_ok X G (c.fact 33 (f := .free "min") rfl), He.free_ok X G (c.fact 34 (f := .free "range") rfl), He.free_ok X G (c.fact 35 (f := .free "sorted") rfl), He.free_ok X G (c.fact 36 (f := .free "sum") rfl), He.free_ok X G (c.fact 37 (f := .free "tuple") rfl), He.int_ok X G (c.fact 23 (f := .int "MOST_COINS" 64) rfl), He.int_ok X G (c.fact 24 (f := .int "MOST_HELD" 4) rfl), He.int_ok X G (c.fact 25 (f := .int "MOST_HOUSES" 6) rfl)⟩
  obtain ⟨_, F_is_whole⟩ := c.def_ 0 (d := dd "is_whole" 6) rfl
  obtain ⟨_, F_is_between⟩ := c.def_ 1 (d := dd "is_between" 7) rfl
  obtain ⟨_, F_check_between⟩ := c.def_ 2 (d := dd "check_between" 8) rfl
  obtain ⟨_, F_powers_to⟩ := c.def_ 3 (d := dd "powers_to" 10) rfl
  obtain ⟨_, F_check_books⟩ := c.def_ 4 (d := dd "check_books" 13) rfl
  obtain ⟨_, F_check_lone⟩ := c.def_ 5 (d := dd "check_lone" 17) rfl
  obtain ⟨_, F_are_numbers⟩ := c.def_ 6 (d := dd "are_numbers" 18) rfl
  obtain ⟨_, F_check_key⟩ := c.def_ 7 (d := dd "check_key" 19) rfl
  obtain ⟨_, F_check_numbers⟩ := c.def_ 8 (d := dd "check_numbers" 20) rfl
  obtain ⟨_, F_check_few_keys⟩ := c.def_ 9 (d := dd "check_few_keys" 21) rfl
  obtain ⟨_, F_all_keys⟩ := c.def_ 10 (d := dd "all_keys" 22) rfl
  obtain ⟨_, F_numbers_of⟩ := c.def_ 11 (d := dd "numbers_of" 23) rfl
  obtain ⟨_, F_keys⟩ := c.def_ 12 (d := dd "keys" 24) rfl
  obtain ⟨_, F_asked_numbers⟩ := c.def_ 13 (d := dd "asked_numbers" 25) rfl
  obtain ⟨_, F_key_of⟩ := c.def_ 14 (d := dd "key_of" 26) rfl
  obtain ⟨_, F__law_pour⟩ := c.def_ 15 (d := dd "_law_pour" 28) rfl
  obtain ⟨_, F__law_sc_pot⟩ := c.def_ 16 (d := dd "_law_sc_pot" 29) rfl
  obtain ⟨_, F__law_all⟩ := c.def_ 17 (d := dd "_law_all" 30) rfl
  obtain ⟨_, F__law_numbers⟩ := c.def_ 18 (d := dd "_law_numbers" 31) rfl
  obtain ⟨_, F__law_is_key_right⟩ := c.def_ 19 (d := dd "_law_is_key_right" 32) rfl
  obtain ⟨_, F__law_right⟩ := c.def_ 20 (d := dd "_law_right" 33) rfl
  obtain ⟨_, F__law_is_whole⟩ := c.def_ 21 (d := dd "_law_is_whole" 34) rfl
  obtain ⟨fd, F⟩ := c.def_ 22 (d := dd "law" 35) rfl
  have e := hfa.symm.trans (He.glo_ok X G (c.fact 22 (f := .glo "law") rfl))
  cases e
  have b := FunD.bindsA (ps := ["script"]) F fun _ _ _ _ _ _ us hl => match us, hl with | [_], _ => rfl
  refine ⟨fd, fun s v => b s [v] rfl, fun base _ _ => ?_⟩
  have C_is_whole : Cal P w K mg base 1 "is_whole" ["value"] (spP K 1 wf_is_whole) := ok_is_whole T  F_is_whole (He.glo_ok X G (c.fact 0 (f := .glo "is_whole") rfl)) pu_is_whole
  have C_is_between : Cal P w K mg base 2 "is_between" ["value", "least", "most"] (spP K 3 wf_is_between) := ok_is_between T C_is_whole F_is_between (He.glo_ok X G (c.fact 1 (f := .glo "is_between") rfl)) pu_is_between
  have C_check_between : Cal P w K mg base 3 "check_between" ["value", "least", "most"] (spP K 3 wf_check_between) := ok_check_between T C_is_between F_check_between (He.glo_ok X G (c.fact 2 (f := .glo "check_between") rfl)) pu_check_between
  have C_powers_to : Cal P w K mg base 1 "powers_to" ["number", "most"] (spP K 2 wf_powers_to) := ok_powers_to T  F_powers_to (He.glo_ok X G (c.fact 3 (f := .glo "powers_to") rfl)) pu_powers_to
  have C_check_books : Cal P w K mg base 4 "check_books" ["books"] (spP K 1 wf_check_books) := ok_check_books T C_check_between F_check_books (He.glo_ok X G (c.fact 4 (f := .glo "check_books") rfl)) pu_check_books
  have C_check_lone : Cal P w K mg base 5 "check_lone" ["houses", "books"] (spP K 2 wf_check_lone) := ok_check_lone T C_check_between C_check_books F_check_lone (He.glo_ok X G (c.fact 5 (f := .glo "check_lone") rfl)) pu_check_lone
  have C_are_numbers : Cal P w K mg base 3 "are_numbers" ["houses", "many", "value"] (spP K 3 wf_are_numbers) := ok_are_numbers T C_is_between F_are_numbers (He.glo_ok X G (c.fact 6 (f := .glo "are_numbers") rfl)) pu_are_numbers
  have C_check_key : Cal P w K mg base 4 "check_key" ["houses", "books", "key"] (spP K 3 wf_check_key) := ok_check_key T C_are_numbers F_check_key (He.glo_ok X G (c.fact 7 (f := .glo "check_key") rfl)) pu_check_key
  have C_check_numbers : Cal P w K mg base 4 "check_numbers" ["houses", "books", "numbers"] (spP K 3 wf_check_numbers) := ok_check_numbers T C_are_numbers F_check_numbers (He.glo_ok X G (c.fact 8 (f := .glo "check_numbers") rfl)) pu_check_numbers
  have C_check_few_keys : Cal P w K mg base 2 "check_few_keys" ["houses", "books"] (spP K 2 wf_check_few_keys) := ok_check_few_keys T C_powers_to F_check_few_keys (He.glo_ok X G (c.fact 9 (f := .glo "check_few_keys") rfl)) pu_check_few_keys
  have C_all_keys : Cal P w K mg base 1 "all_keys" ["houses", "books"] (spP K 2 wf_all_keys) := ok_all_keys T  F_all_keys (He.glo_ok X G (c.fact 10 (f := .glo "all_keys") rfl)) pu_all_keys
  have C_numbers_of : Cal P w K mg base 1 "numbers_of" ["houses", "wish", "key", "house"] (spP K 4 wf_numbers_of) := ok_numbers_of T  F_numbers_of (He.glo_ok X G (c.fact 11 (f := .glo "numbers_of") rfl)) pu_numbers_of
  have C_keys : Cal P w K mg base 6 "keys" ["houses", "books"] (spP K 2 wf_keys) := ok_keys T C_check_lone C_check_few_keys C_all_keys F_keys (He.glo_ok X G (c.fact 12 (f := .glo "keys") rfl)) pu_keys
  have C_asked_numbers : Cal P w K mg base 6 "asked_numbers" ["houses", "books", "wish", "key", "house"] (spP K 5 wf_asked_numbers) := ok_asked_numbers T C_check_lone C_check_between C_check_key C_numbers_of F_asked_numbers (He.glo_ok X G (c.fact 13 (f := .glo "asked_numbers") rfl)) pu_asked_numbers
  have C_key_of : Cal P w K mg base 6 "key_of" ["houses", "books", "wish", "house", "numbers"] (spP K 5 wf_key_of) := ok_key_of T C_check_lone C_check_between C_check_numbers F_key_of (He.glo_ok X G (c.fact 14 (f := .glo "key_of") rfl)) pu_key_of
  have C__law_pour : Cal P w K mg base 1 "_law_pour" ["jug", "total"] (spJ K 2 wf__law_pour) := ok__law_pour T  F__law_pour (He.glo_ok X G (c.fact 15 (f := .glo "_law_pour") rfl)) pu__law_pour
  have C__law_sc_pot : Cal P w K mg base 1 "_law_sc_pot" ["script", "spot"] (spS K 2 wf__law_sc_pot) := ok__law_sc_pot T  F__law_sc_pot (He.glo_ok X G (c.fact 16 (f := .glo "_law_sc_pot") rfl)) pu__law_sc_pot
  have C__law_all : Cal P w K mg base 1 "_law_all" ["most", "many"] (spP K 2 wf__law_all) := ok__law_all T  F__law_all (He.glo_ok X G (c.fact 17 (f := .glo "_law_all") rfl)) pu__law_all
  have C__law_numbers : Cal P w K mg base 1 "_law_numbers" ["houses", "wish", "key", "house"] (spP K 4 wf__law_numbers) := ok__law_numbers T  F__law_numbers (He.glo_ok X G (c.fact 18 (f := .glo "_law_numbers") rfl)) pu__law_numbers
  have C__law_is_key_right : Cal P w K mg base 7 "_law_is_key_right" ["houses", "books", "key"] (spP K 3 wf__law_is_key_right) := ok__law_is_key_right T C__law_numbers C_asked_numbers C_key_of F__law_is_key_right (He.glo_ok X G (c.fact 19 (f := .glo "_law_is_key_right") rfl)) pu__law_is_key_right
  have C__law_right : Cal P w K mg base 8 "_law_right" ["pot"] (spJ K 1 wf__law_right) := ok__law_right T C__law_pour C__law_all C_keys C__law_is_key_right C_key_of F__law_right (He.glo_ok X G (c.fact 20 (f := .glo "_law_right") rfl)) pu__law_right
  have C__law_is_whole : Cal P w K mg base 7 "_law_is_whole" ["houses", "books"] (spP K 2 wf__law_is_whole) := ok__law_is_whole T C_keys C_asked_numbers C__law_all F__law_is_whole (He.glo_ok X G (c.fact 21 (f := .glo "_law_is_whole") rfl)) pu__law_is_whole
  exact fnS F sc_law rfl (fun cdv A outer s H E hr => der_law T C__law_sc_pot C__law_right C__law_is_whole C__law_pour C_asked_numbers C_keys C_key_of _ cdv A outer s H E hr) pu_law
end K60
open PySem PySem.W PySem.Calls PyProof.Rows
theorem PySem.Challenge.cw_fetchunseen_k60_whole_keys_and_asked_num_holds : PySem.Challenge.rw_fetchunseen_k60_whole_keys_and_asked_num.Holds := by
  w_on; o_law
  refine HandSHeadRun.head_any (r := OpenLaw.row K60.RR) (q := view (OpenLaw.row K60.RR).prog [35]) (H := K60.hk) (ob := K60.ob) (M := 9000) (loose := K60.loose) (d := HandSHeadRun.topDef (OpenLaw.row K60.RR).prog 35) (kwd := []) K60.ob_eq
    (by kernel_rfl) (fun s => by kernel_rfl) K60.run (by kernel_rfl) (by kernel_rfl) (by kernel_rfl) (by rfl) (by first | assumption | decide +kernel) (by decide +kernel) ⟨rfl, rfl, rfl, rfl, rfl, by decide +kernel⟩ ?hw ?hc
  case hw => w_witness2
  case hc =>
    refine L2.walk_ofE (l := PySem.Challenge.rw_fetchunseen_k60_whole_keys_and_asked_num) (n := 63) (k := 9) (x := "script") (CX := L2.CX0) rfl (by decide) (by kernel_rfl) ⟨rfl, by decide, by decide⟩ ?F (fun _ _ _ _ z => z)
    intro w mg fa h Y G hmg0
    obtain ⟨K, KX, c⟩ := Y
    have hmg : mg ("law" : PySem.Str) = some (.ref fa) := by
      have e : (HandSHeadRun.topDef (OpenLaw.row K60.RR).prog 35).name = ("law" : PySem.Str) := by kernel_rfl
      rw [← e]
      exact hmg0
    obtain ⟨fd, hb, hF⟩ := K60.facts (P := (PySem.Challenge.rw_fetchunseen_k60_whole_keys_and_asked_num).prog) (w := w) KX G hmg c
    exact ⟨K, fd, Pd.spS K 1 K60.wf_law, KX, hb, fun H a ns hl hO hS => Pd.law_sp hl hO hS, hF⟩

