import PyProof.Rows.All
import Wide.All
import OpenK.AllK
import Wide.FinOn
import HandS.ForMost
import HandS.Evl
import HandS.Wide
import HandS.IsInst
import HandS.Gcd
import HandS.Zip
import HandS.TupAny
import HandS.TupMul
import HandS.Style
import HandS.Defaults
import HandS.WordsExc
import KE.GoesMore
import KE.GoesEnum
import HandS.HeadHook2
import HandS.HeadEnd
import HandS.Head2
import HandS.RaiseMore
import HandS.NoneIn
import HandS.Head3
import HandS.Dict
import HandS.SortInts
import PySem.Challenge.RW_fetchunseen_k01_whole_inverses_powers_an
set_option Elab.async false
set_option linter.all false
set_option maxRecDepth 100000
set_option maxHeartbeats 4000000
/-! A pure reading over data: slots hold data or one's own lists, expressions and statements are read over these alone. -/
namespace Pd
open PySem PySem.Spec PyProof.Rows L2
abbrev D := PyData
abbrev Sg := List (Option V)
abbrev Ex (H H' : Hp) : Prop := ∀ a o, H a = some o → H' a = some o
theorem Ex.rf (H : Hp) : Ex H H := fun _ _ h => h
theorem Ex.tr {H H1 H2 : Hp} (a : Ex H H1) (b : Ex H1 H2) : Ex H H2 := fun x o h => b x o (a x o h)
theorem Ex.up {H : Hp} {p : Addr} {o : HO} (h : H p = none) : Ex H (upd H p o) := fun a u e => by
  rw [upd_ne (ne_of_none e h)]; exact e
theorem Ex.no {H H' : Hp} {p : Addr} (e : Ex H H') (h : H' p = none) : H p = none := by
  cases h1 : H p with
  | none => rfl
  | some o => rw [e p o h1] at h; cases h
/-! a value stands for data: tracked lists, tuples of any kind -/
mutual
inductive Da (K : PySem.W.Frag) (H : Hp) : V → PyData → Prop
  | non : Da K H .non .none
  | bl (b : Bool) : Da K H (.bl b) (.bool b)
  | int (i : Int) : Da K H (.int i) (.int i)
  | str (x : Str) : Da K H (.str x) (.str x)
  | lst {a : Addr} {xs : List V} {ds : List PyData} : H a = some (.lst xs) → DaAll K H xs ds → Da K H (.ref a) (.list ds)
  | tup {a : Addr} {xs : List V} {ds : List PyData} : SqT K H a xs → DaAll K H xs ds → Da K H (.ref a) (.tuple ds)
  /-- {}, never written -/
  | dic {a : Addr} : H a = some (.dK []) → Da K H (.ref a) (.dict [])
inductive DaAll (K : PySem.W.Frag) (H : Hp) : List V → List PyData → Prop
  | nil : DaAll K H [] []
  | cons {v : V} {vs : List V} {d : PyData} {ds : List PyData} : Da K H v d → DaAll K H vs ds → DaAll K H (v :: vs) (d :: ds)
end
section
variable {K : PySem.W.Frag} {H H' : Hp}
theorem rd_ex {a : Addr} {u : HO} (e : Ex H H') (h : Rd H a u) : Rd H' a u := by
  rcases h with h | ⟨o, h⟩
  · exact Or.inl (e a _ h)
  · exact Or.inr ⟨o, e a _ h⟩
theorem sql_ex {a : Addr} {xs : List V} (e : Ex H H') (h : SqL K H a xs) : SqL K H' a xs := by
  rcases h with h | h
  · exact Or.inl (rd_ex e h)
  · exact Or.inr h
theorem sqt_ex {a : Addr} {xs : List V} (e : Ex H H') (h : SqT K H a xs) : SqT K H' a xs := by
  rcases h with h | h
  · exact Or.inl (rd_ex e h)
  · exact Or.inr h
mutual
theorem dp_ex (e : Ex H H') : ∀ (d : D) (v : V), Da K H v d → Da K H' v d
  | .none, _, h => by cases h; exact .non
  | .bool b, _, h => by cases h; exact .bl b
  | .int i, _, h => by cases h; exact .int i
  | .str x, _, h => by cases h; exact .str x
  | .list ds, _, h => by
    cases h with
    | lst hs ha => exact .lst (e _ _ hs) (dpa_ex e ds _ ha)
  | .tuple ds, _, h => by
    cases h with
    | tup hs ha => exact .tup (sqt_ex e hs) (dpa_ex e ds _ ha)
  | .dict _, _, h => by
    cases h with
    | dic h => exact .dic (e _ _ h)
theorem dpa_ex (e : Ex H H') : ∀ (ds : List D) (vs : List V), DaAll K H vs ds → DaAll K H' vs ds
  | [], _, h => by cases h; exact .nil
  | d :: ds, _, h => by
    cases h with
    | cons h1 h2 => exact .cons (dp_ex e d _ h1) (dpa_ex e ds _ h2)
end
theorem Da.up {v : V} {d : D} (h : Da K H v d) (e : Ex H H') : Da K H' v d := dp_ex e d v h
theorem DaAll.up {vs : List V} {ds : List D} (h : DaAll K H vs ds) (e : Ex H H') : DaAll K H' vs ds := dpa_ex e ds vs h
mutual
theorem da_dp : ∀ (d : D) (v : V), PyData.canLay0 d = true → Da K H v d → Dp K H v d
  | .none, _, _, h => by cases h; exact .non
  | .bool b, _, _, h => by cases h; exact .bl b
  | .int i, _, _, h => by cases h; exact .int i
  | .str x, _, _, h => by cases h; exact .str x
  | .list ds, _, c, h => by
    cases h with
    | lst hs ha => exact .lst (SqL.of hs) (daa_dp ds _ c ha)
  | .tuple ds, _, c, h => by
    cases h with
    | tup hs ha => exact .tup hs (daa_dp ds _ c ha)
  | .dict _, _, c, _ => by cases c
theorem daa_dp : ∀ (ds : List D) (vs : List V), PyData.canLayAll0 ds = true → DaAll K H vs ds → DpAll K H vs ds
  | [], _, _, h => by cases h; exact .nil
  | d :: ds, _, c, h => by
    have c' : (PyData.canLay0 d && PyData.canLayAll0 ds) = true := c
    rw [Bool.and_eq_true] at c'
    cases h with
    | cons h1 h2 => exact .cons (da_dp d _ c'.1 h1) (daa_dp ds _ c'.2 h2)
end
theorem Da.dp {v : V} {d : D} (h : Da K H v d) (c : SeqAt.shaped d = true) : Dp K H v d := da_dp d v (SeqAt.canLay_of_shaped c) h
theorem dpa_len : ∀ {vs : List V} {ds : List D}, DaAll K H vs ds → vs.length = ds.length
  | _, _, .nil => rfl
  | _, _, .cons _ t => congrArg (· + 1) (dpa_len t)
theorem dpa_get : ∀ {vs : List V} {ds : List D} {i : Nat} {d : D}, DaAll K H vs ds → ds[i]? = some d → ∃ v, vs[i]? = some v ∧ Da K H v d
  | _, _, _, _, .nil, h => by simp at h
  | _, _, 0, _, .cons a _, h => by simp at h; subst h; exact ⟨_, rfl, a⟩
  | _, _, i + 1, d, .cons _ t, h => by
    obtain ⟨v, h1, h2⟩ := dpa_get (i := i) (d := d) t (by simpa using h)
    exact ⟨v, by simpa using h1, h2⟩
theorem dpa_get' : ∀ {vs : List V} {ds : List D} {i : Nat} {v : V}, DaAll K H vs ds → vs[i]? = some v → ∃ d, ds[i]? = some d ∧ Da K H v d
  | _, _, _, _, .nil, h => by simp at h
  | _, _, 0, _, .cons a _, h => by simp at h; subst h; exact ⟨_, rfl, a⟩
  | _, _, i + 1, d, .cons _ t, h => by
    obtain ⟨v, h1, h2⟩ := dpa_get' (i := i) t (by simpa using h)
    exact ⟨v, by simpa using h1, h2⟩
theorem dpa_app : ∀ {vs us : List V} {ds es : List D}, DaAll K H vs ds → DaAll K H us es → DaAll K H (vs ++ us) (ds ++ es)
  | _, _, _, _, .nil, h => h
  | _, _, _, _, .cons a t, h => .cons a (dpa_app t h)
theorem dpa_take : ∀ {vs : List V} {ds : List D} (n : Nat), DaAll K H vs ds → DaAll K H (vs.take n) (ds.take n)
  | _, _, 0, _ => .nil
  | _, _, _ + 1, .nil => .nil
  | _, _, n + 1, .cons r t => .cons r (dpa_take n t)
theorem dpa_drop : ∀ {vs : List V} {ds : List D} (n : Nat), DaAll K H vs ds → DaAll K H (vs.drop n) (ds.drop n)
  | _, _, 0, h => h
  | _, _, _ + 1, .nil => .nil
  | _, _, n + 1, .cons _ t => dpa_drop n t
theorem dpa_set : ∀ {vs : List V} {ds : List D} {v : V} {d : D} (n : Nat), DaAll K H vs ds → Da K H v d → DaAll K H (vs.set n v) (ds.set n d)
  | _, _, _, _, _, .nil, _ => .nil
  | _, _, _, _, 0, .cons _ t, h => .cons h t
  | _, _, _, _, n + 1, .cons r t, h => .cons r (dpa_set n t h)
theorem dpa_erase : ∀ {vs : List V} {ds : List D} (n : Nat), DaAll K H vs ds → DaAll K H (vs.eraseIdx n) (ds.eraseIdx n)
  | _, _, _, .nil => .nil
  | _, _, 0, .cons _ t => t
  | _, _, n + 1, .cons r t => .cons r (dpa_erase n t)
theorem dpa_rev : ∀ {vs : List V} {ds : List D}, DaAll K H vs ds → DaAll K H vs.reverse ds.reverse
  | _, _, .nil => .nil
  | _, _, .cons r t => by
    rw [List.reverse_cons, List.reverse_cons]
    exact dpa_app (dpa_rev t) (.cons r .nil)
theorem dpa_ints : ∀ (ns : List Int), DaAll K H (ns.map V.int) (ns.map PyData.int)
  | [] => .nil
  | n :: ns => .cons (.int n) (dpa_ints ns)
theorem dpa_ints_inv : ∀ {vs : List V} (ns : List Int), DaAll K H vs (ns.map PyData.int) → vs = ns.map V.int
  | _, [], h => by cases h; rfl
  | _, n :: ns, h => by
    cases h with
    | cons a t => cases a; rw [dpa_ints_inv ns t]; rfl
theorem dpa_bls_inv : ∀ {vs : List V} (ns : List Bool), DaAll K H vs (ns.map PyData.bool) → vs = ns.map V.bl
  | _, [], h => by cases h; rfl
  | _, n :: ns, h => by
    cases h with
    | cons a t => cases a; rw [dpa_bls_inv ns t]; rfl
end

/-! ### slots -/
inductive Sl where
  /-- data -/
  | imm (d : D)
  /-- a list of one's own, which may change -/
  | own (ds : List D)
  /-- the law's own list of ints, never written -/
  | scr (ns : List Int)
  | un
abbrev En := List Sl
/-- a list that is never written: locked, or of the module -/
def SqS (K : PySem.W.Frag) (H : Hp) (a : Addr) (xs : List V) : Prop := (∃ o, H a = some (.frz o (.lst xs))) ∨ ∀ H', SqL K H' a xs
theorem SqS.l {K : PySem.W.Frag} {H : Hp} {a : Addr} {xs : List V} (h : SqS K H a xs) : SqL K H a xs := by
  rcases h with ⟨o, h⟩ | h
  · exact Or.inl (Or.inr ⟨o, h⟩)
  · exact h H
theorem sqs_ex {K : PySem.W.Frag} {H H' : Hp} {a : Addr} {xs : List V} (e : Ex H H') (h : SqS K H a xs) : SqS K H' a xs := by
  rcases h with ⟨o, h⟩ | h
  · exact Or.inl ⟨o, e _ _ h⟩
  · exact Or.inr h
def SlOk (K : PySem.W.Frag) (I H : Hp) (v : Option (Option V)) : Sl → Prop
  | .un => True
  | .imm d => ∃ x, v = some (some x) ∧ Da K I x d
  | .own ds => ∃ l vs, v = some (some (.ref l)) ∧ I l = none ∧ H l = some (.lst vs) ∧ DaAll K I vs ds
  | .scr ns => ∃ a, v = some (some (.ref a)) ∧ SqS K I a (ns.map V.int)
structure Gh where
  He : Hp
  I0 : Hp
  J : Option Addr
  /-- objects of the code around, which stay as they are -/
  P : List (Addr × HO) := []
/-- slot i holds one's own list at l -/
def OwnAt (σ : Sg) (en : En) (i : Nat) (l : Addr) : Prop := σ[i]? = some (some (V.ref l)) ∧ ∃ ds, en[i]? = some (.own ds)
structure Ok (K : PySem.W.Frag) (G : Gh) (σ : Sg) (en : En) (H I : Hp) : Prop where
  i0 : Ex G.I0 I
  iH : Ex I H
  nw : ∀ a, G.He a ≠ none → G.I0 a = none → I a = none
  fr : ∀ a o, G.He a = some o → G.J ≠ some a → H a = some o
  ln : σ.length = en.length
  sl : ∀ (i : Nat) (s : Sl), en[i]? = some s → SlOk K I H σ[i]? s
  ml : ∀ (i : Nat) (l : Addr), OwnAt σ en i l → G.J = some l ∨ G.He l = none
  ds : ∀ (i j : Nat) (l : Addr), OwnAt σ en i l → OwnAt σ en j l → i = j
  pj : ∀ l, G.J = some l → OwnAt σ en 0 l
  pr : ∀ p ∈ G.P, H p.1 = some p.2 ∧ I p.1 = none ∧ ∀ i, ¬ OwnAt σ en i p.1
section
variable {K : PySem.W.Frag} {G : Gh} {σ : Sg} {en : En} {H I H' I' : Hp}
theorem Ok.own (o : Ok K G σ en H I) {i : Nat} {ds : List D} (h : en[i]? = some (.own ds)) : ∃ l vs, σ[i]? = some (some (.ref l)) ∧ I l = none ∧ H l = some (.lst vs) ∧ DaAll K I vs ds := o.sl i _ h
theorem Ok.imm (o : Ok K G σ en H I) {i : Nat} {d : D} (h : en[i]? = some (.imm d)) : ∃ x, σ[i]? = some (some x) ∧ Da K I x d := o.sl i _ h
/-- the heap grows by what is new -/
theorem Ok.grow (o : Ok K G σ en H I) (e1 : Ex H H') (e2 : Ex I I') (e3 : Ex I' H') (n : ∀ a, I' a ≠ none → I a = none → H a = none) : Ok K G σ en H' I' := by
  refine ⟨o.i0.tr e2, e3, fun a h1 h2 => ?_, fun a u h1 h2 => e1 a u (o.fr a u h1 h2), o.ln, fun i s h => ?_, o.ml, o.ds, o.pj, fun p hp => ?_⟩
  · have h3 := o.nw a h1 h2
    by_cases h4 : I' a = none
    · exact h4
    · have h5 := n a h4 h3
      by_cases hj : G.J = some a
      · obtain ⟨q, ds, q2⟩ := o.pj a hj
        obtain ⟨l, vs, q3, _, q5, _⟩ := o.own q2
        rw [q] at q3
        have q4 : a = l := by injection q3 with q3; injection q3 with q3; injection q3
        rw [q4, q5] at h5
        cases h5
      · cases h6 : G.He a with
        | none => exact absurd h6 h1
        | some u => rw [o.fr a u h6 hj] at h5; cases h5
  · have q := o.sl i s h
    cases s with
    | un => trivial
    | scr ns => obtain ⟨a, q1, q2⟩ := q; exact ⟨a, q1, sqs_ex e2 q2⟩
    | imm d =>
      obtain ⟨x, q1, q2⟩ := q
      exact ⟨x, q1, q2.up e2⟩
    | own ds =>
      obtain ⟨l, vs, q1, q2, q3, q4⟩ := q
      refine ⟨l, vs, q1, ?_, e1 _ _ q3, q4.up e2⟩
      by_cases h4 : I' l = none
      · exact h4
      · have h5 := n l h4 q2
        rw [q3] at h5
        cases h5
  · obtain ⟨q1, q2, q3⟩ := o.pr p hp
    refine ⟨e1 _ _ q1, ?_, q3⟩
    by_cases h4 : I' p.1 = none
    · exact h4
    · have h5 := n p.1 h4 q2
      rw [q1] at h5
      cases h5
/-- one new object, known from now on -/
theorem Ok.new (o : Ok K G σ en H I) {p : Addr} {u : HO} (hp : H p = none) : Ok K G σ en (upd H p u) (upd I p u) ∧ Ex I (upd I p u) := by
  have hi : I p = none := o.iH.no hp
  refine ⟨o.grow (Ex.up hp) (Ex.up hi) (fun a v h => ?_) fun a h1 h2 => ?_, Ex.up hi⟩
  · by_cases e : a = p
    · subst e; rw [upd_same] at h ⊢; exact h
    · rw [upd_ne e] at h ⊢; exact o.iH a v h
  · by_cases e : a = p
    · subst e; exact hp
    · rw [upd_ne e] at h1; exact absurd h2 h1
end

/-! ### readings over data -/
abbrev WE := En → (D → En → Prop) → Prop
abbrev WT := En → (Bool → En → Prop) → Prop
abbrev WA := En → (List D → En → Prop) → Prop
structure Ed where
  nx : En → Prop
  rt : D → En → Prop
  bk : En → Prop := fun _ => False
  ct : En → Prop := fun _ => False
abbrev WS := Ed → En → Prop
section
variable (K : PySem.W.Frag)
def lE (w : WE) : TE := fun σ H Q => ∃ (G : Gh) (en : En) (I : Hp) (Q' : D → En → Prop), Ok K G σ en H I ∧ w en Q' ∧
  ∀ v H' I' en' d, Ok K G σ en' H' I' → Ex I I' → Da K I' v d → Q' d en' → Q v H'
def lT (w : WT) : TT := fun σ H Q => ∃ (G : Gh) (en : En) (I : Hp) (Q' : Bool → En → Prop), Ok K G σ en H I ∧ w en Q' ∧
  ∀ b H' I' en', Ok K G σ en' H' I' → Ex I I' → Q' b en' → Q b H'
def lA (w : WA) : TA := fun σ H Q => ∃ (G : Gh) (en : En) (I : Hp) (Q' : List D → En → Prop), Ok K G σ en H I ∧ w en Q' ∧
  ∀ vs H' I' en' ds, Ok K G σ en' H' I' → Ex I I' → DaAll K I' vs ds → Q' ds en' → Q vs H'
def lS (w : WS) : TS := fun R σ H => ∃ (G : Gh) (en : En) (I : Hp) (R' : Ed), Ok K G σ en H I ∧ w R' en ∧
  (∀ σ' H' I' en', Ok K G σ' en' H' I' → R'.nx en' → R.nx σ' H') ∧
  (∀ v σ' H' I' en' d, Ok K G σ' en' H' I' → Da K I' v d → R'.rt d en' → R.rt v H') ∧
  (∀ σ' H' I' en', Ok K G σ' en' H' I' → R'.bk en' → R.bk σ' H') ∧
  (∀ σ' H' I' en', Ok K G σ' en' H' I' → R'.ct en' → R.ct σ' H')
end
theorem _root_.L2.PE.mo {X : Cx} {e : Expr} {t t' : TE} (h : PE X e t) (m : ∀ σ H Q, t' σ H Q → t σ H Q) : PE X e t' := ⟨fun pins s σ H Q I q => h.run pins s σ H Q I (m σ H Q q)⟩
theorem _root_.L2.PT.mo {X : Cx} {e : Expr} {t t' : TT} (h : PT X e t) (m : ∀ σ H Q, t' σ H Q → t σ H Q) : PT X e t' := ⟨fun pins s σ H Q I q => h.run pins s σ H Q I (m σ H Q q)⟩
theorem _root_.L2.PW.mo {X : Cx} {e : Expr} {t t' : TT} (h : PW X e t) (m : ∀ σ H Q, t' σ H Q → t σ H Q) : PW X e t' := ⟨fun wh pins s σ H Q I q => h.run wh pins s σ H Q I (m σ H Q q)⟩
theorem _root_.L2.PA.mo {X : Cx} {e : List Expr} {t t' : TA} (h : PA X e t) (m : ∀ σ H Q, t' σ H Q → t σ H Q) : PA X e t' := ⟨fun pos pins s σ H Q I q => h.run pos pins s σ H Q I (m σ H Q q)⟩
theorem _root_.L2.PS.mo {X : Cx} {e : Stmt} {t t' : TS} (h : PS X e t) (m : ∀ D σ H, t' D σ H → t D σ H) : PS X e t' := ⟨fun pins s σ H D I q => h.run pins s σ H D I (m D σ H q)⟩
theorem _root_.L2.PSs.mo {X : Cx} {e : List Stmt} {t t' : TS} (h : PSs X e t) (m : ∀ D σ H, t' D σ H → t D σ H) : PSs X e t' := ⟨fun pins s σ H D I q => h.run pins s σ H D I (m D σ H q)⟩
end Pd

set_option Elab.async false
set_option linter.all false
set_option maxRecDepth 100000
set_option maxHeartbeats 4000000
namespace Pd
open PySem PySem.Spec PyProof.Rows L2
/-! ### names, constants -/
def wVar (i : Nat) : WE := fun en Q => ∃ d, en[i]? = some (.imm d) ∧ Q d en
def wC (d : D) : WE := fun en Q => Q d en
section
variable {X : Cx} {e a b c : Expr} {es : List Expr} {pos : Pos} {wa wb wc : WE}
theorem d_var {i : Nat} (h : PE X e (tVar i)) : PE X e (lE X.K (wVar i)) := h.mo fun σ H Q ⟨G, en, I, Q', o, ⟨d, hd, q⟩, k⟩ => by
  obtain ⟨x, h1, h2⟩ := o.imm hd
  exact ⟨x, h1, k x H I en d o (Ex.rf I) h2 q⟩
theorem d_c {v : V} {d : D} (h : PE X e (tC v)) (hd : ∀ H, Da X.K H v d) : PE X e (lE X.K (wC d)) := h.mo fun σ H Q ⟨G, en, I, Q', o, q, k⟩ => k v H I en d o (Ex.rf I) (hd I) q
theorem d_int {i j pos} : PE X (.Constant (.int i) j pos) (lE X.K (wC (.int i))) := d_c pe_int fun _ => .int i
theorem d_bl {b j pos} : PE X (.Constant (.bool b) j pos) (lE X.K (wC (.bool b))) := d_c pe_bl fun _ => .bl b
theorem d_non {j pos} : PE X (.Constant .none j pos) (lE X.K (wC .none)) := d_c pe_non fun _ => .non
theorem d_str {x j pos} : PE X (.Constant (.str x) j pos) (lE X.K (wC (.str x))) := d_c pe_str fun _ => .str x

/-! ### operators -/
/-- what comes of an operation: the heap grown by what is new -/
structure Gr (H I H' I' : Hp) : Prop where
  h : Ex H H'
  i : Ex I I'
  s : Ex I' H'
  n : ∀ a, I' a ≠ none → I a = none → H a = none
theorem Gr.rf {H I : Hp} (e : Ex I H) : Gr H I H I := ⟨Ex.rf _, Ex.rf _, e, fun a h1 h2 => absurd h2 h1⟩
theorem Gr.nw {H I : Hp} {p : Addr} {u : HO} (e : Ex I H) (hp : H p = none) : Gr H I (upd H p u) (upd I p u) := by
  have hi : I p = none := e.no hp
  refine ⟨Ex.up hp, Ex.up hi, fun a v h => ?_, fun a h1 h2 => ?_⟩
  · by_cases q : a = p
    · subst q; rw [upd_same] at h ⊢; exact h
    · rw [upd_ne q] at h ⊢; exact e a v h
  · by_cases q : a = p
    · subst q; exact hp
    · rw [upd_ne q] at h1; exact absurd h2 h1
theorem Ok.gr {K : PySem.W.Frag} {G : Gh} {σ : Sg} {en : En} {H I H' I' : Hp} (o : Ok K G σ en H I) (g : Gr H I H' I') : Ok K G σ en H' I' := o.grow g.h g.i g.s g.n
/-- r does on values what f tells of data -/
def SndOp (K : PySem.W.Frag) (r : R2) (f : D → D → D → Prop) : Prop := ∀ (H I : Hp) (x y : V) (d e z : D), Ex I H → Da K I x d → Da K I y e → f d e z → ∀ Q : VK, (∀ v H' I', Gr H I H' I' → Da K I' v z → Q v H') → r x y H Q
def SndUn (K : PySem.W.Frag) (r : V → Hp → VK → Prop) (f : D → D → Prop) : Prop := ∀ (H I : Hp) (x : V) (d z : D), Ex I H → Da K I x d → f d z → ∀ Q : VK, (∀ v H' I', Gr H I H' I' → Da K I' v z → Q v H') → r x H Q
def SndCl (K : PySem.W.Frag) (r : List V → Hp → VK → Prop) (f : List D → D → Prop) : Prop := ∀ (H I : Hp) (xs : List V) (ds : List D) (z : D), Ex I H → DaAll K I xs ds → f ds z → ∀ Q : VK, (∀ v H' I', Gr H I H' I' → Da K I' v z → Q v H') → r xs H Q
def wOp (f : D → D → D → Prop) (wa wb : WE) : WE := fun en Q => wa en fun x e1 => wb e1 fun y e2 => ∃ z, f x y z ∧ Q z e2
def wUn (f : D → D → Prop) (wa : WE) : WE := fun en Q => wa en fun x e1 => ∃ z, f x z ∧ Q z e1
def wCl (f : List D → D → Prop) (wa : WA) : WE := fun en Q => wa en fun xs e1 => ∃ z, f xs z ∧ Q z e1
theorem lop {r : R2} {f : D → D → D → Prop} (h : SndOp X.K r f) {σ : Sg} {H : Hp} {Q : VK} (q : lE X.K (wOp f wa wb) σ H Q) : tOp r (lE X.K wa) (lE X.K wb) σ H Q := by
  obtain ⟨G, en, I, Q', o, q, k⟩ := q
  refine ⟨G, en, I, _, o, q, fun v H1 I1 e1 d o1 x1 dv q1 => ?_⟩
  refine ⟨G, e1, I1, _, o1, q1, fun u H2 I2 e2 d2 o2 x2 du q2 => ?_⟩
  obtain ⟨z, fz, q2⟩ := q2
  exact h H2 I2 v u d d2 z o2.iH (dv.up x2) du fz Q fun v' H3 I3 g dz => k v' H3 I3 e2 z (o2.gr g) ((x1.tr x2).tr g.i) dz q2
theorem d_op {op : Operator} {r : R2} {f : D → D → D → Prop} (ho : OpR X (binaryOp op) r) (hs : SndOp X.K r f) (ha : PE X a (lE X.K wa)) (hb : PE X b (lE X.K wb)) : PE X (.BinOp a op b pos) (lE X.K (wOp f wa wb)) :=
  (pe_op ho ha hb).mo fun σ H Q q => lop hs q
theorem d_un {op : UnaryOp} {r : V → Hp → VK → Prop} {f : D → D → Prop} (ho : UnR X (unaryOp op) r) (hs : SndUn X.K r f) (ha : PE X a (lE X.K wa)) : PE X (.UnaryOp op a pos) (lE X.K (wUn f wa)) :=
  (pe_un ho ha).mo fun σ H Q ⟨G, en, I, Q', o, q, k⟩ => ⟨G, en, I, _, o, q, fun v H1 I1 e1 d o1 x1 dv ⟨z, fz, q1⟩ => hs H1 I1 v d z o1.iH dv fz Q fun v' H3 I3 g dz => k v' H3 I3 e1 z (o1.gr g) (x1.tr g.i) dz q1⟩
theorem d_cmp {op : CmpOp} {r : R2} {f : D → D → D → Prop} (ho : OpR X (compareOp op) r) (hs : SndOp X.K r f) (ha : PE X a (lE X.K wa)) (hb : PE X b (lE X.K wb)) (hm : behindInMarks op b = false) : PE X (.Compare a [op] [b] pos) (lE X.K (wOp f wa wb)) :=
  (pe_cmpR ho ha hb hm).mo fun σ H Q q => lop hs q
/-! ### tests -/
/-- a bool -/
def wB (w : WE) : WT := fun en Q => w en fun d e1 => ∃ c, d = .bool c ∧ Q c e1
def Tru : D → Bool → Prop
  | .none, k => k = false
  | .bool b, k => k = b
  | .int i, k => k = (i != 0)
  | .str y, k => y.length ≤ sizeLine ∧ k = ((y.length : Int) != 0)
  | .list ds, k => k = !ds.isEmpty
  | .tuple ds, k => k = !ds.isEmpty
  | .dict _, _ => False
def wTr (w : WE) : WT := fun en Q => w en fun d e1 => ∃ c, Tru d c ∧ Q c e1
theorem dp_bl {K : PySem.W.Frag} {I : Hp} {v : V} {c : Bool} (h : Da K I v (.bool c)) : v = .bl c := by cases h; rfl
theorem dp_int {K : PySem.W.Frag} {I : Hp} {v : V} {c : Int} (h : Da K I v (.int c)) : v = .int c := by cases h; rfl
theorem dpa_emp {K : PySem.W.Frag} {I : Hp} {vs : List V} {ds : List D} (h : DaAll K I vs ds) : vs.isEmpty = ds.isEmpty := by cases h <;> rfl
theorem ltst {σ : Sg} {H : Hp} {Q : Bool → Hp → Prop} {w : WE} (q : lT X.K (wB w) σ H Q) : lE X.K w σ H fun x H' => ∃ k, x = .bl k ∧ Q k H' := by
  obtain ⟨G, en, I, Q', o, q, k⟩ := q
  refine ⟨G, en, I, _, o, q, fun v H1 I1 e1 d o1 x1 dv q1 => ?_⟩
  obtain ⟨c, rfl, q1⟩ := q1
  exact ⟨c, dp_bl dv, k c H1 I1 e1 o1 x1 q1⟩
theorem t_cmp {op : CmpOp} {r : R2} {f : D → D → D → Prop} (ho : OpR X (compareOp op) r) (hs : SndOp X.K r f) (ha : PE X a (lE X.K wa)) (hb : PE X b (lE X.K wb)) (hm : behindInMarks op b = false) : PT X (.Compare a [op] [b] pos) (lT X.K (wB (wOp f wa wb))) :=
  (pt_cmpR ho ha hb hm).mo fun σ H Q q => by
    obtain ⟨G, en, I, Q2, o, q2, k⟩ := ltst q
    exact lop hs ⟨G, en, I, Q2, o, q2, k⟩
theorem t_val {w : WE} (h : PE X e (lE X.K w)) (he : ∀ whole, isTrue e X.env whole = (do let v ← whole; standAt e.pos; holding [v] (truthy v)) := by intro _; rfl) : PT X e (lT X.K (wB w)) :=
  (pt_val h he).mo fun σ H Q q => ltst q
theorem t_tru {w : WE} (h : PE X e (lE X.K w)) (he : ∀ whole, isTrue e X.env whole = (do let v ← whole; standAt e.pos; holding [v] (truthy v)) := by intro _; rfl) : PT X e (lT X.K (wTr w)) :=
  (pt_truth h he).mo fun σ H Q ⟨G, en, I, Q', o, q, k⟩ => ⟨G, en, I, _, o, q, fun v H1 I1 e1 d o1 x1 dv ⟨c, hc, q1⟩ => ⟨c, by
    cases dv with
    | non => exact hc
    | bl b => exact hc
    | int i => exact hc
    | dic h => exact hc.elim
    | str x => exact hc
    | lst hs ha =>
      have h2 : c = !_ := hc
      exact Or.inl ⟨_, SqL.of (o1.iH _ _ hs), by rw [dpa_emp ha]; exact h2⟩
    | tup hs ha =>
      have h2 : c = !_ := hc
      exact Or.inr (Or.inl ⟨_, sqt_ex o1.iH hs, by rw [dpa_emp ha]; exact h2⟩), k c H1 I1 e1 o1 x1 q1⟩⟩
def wAnd (t u : WT) : WT := fun en Q => t en fun c e1 => if c = true then u e1 Q else Q false e1
def wOr (t u : WT) : WT := fun en Q => t en fun c e1 => if c = true then Q true e1 else u e1 Q
def wNot (t : WT) : WT := fun en Q => t en fun c e1 => Q (!c) e1
variable {t u : WT} {rest : List Expr}
theorem t_and1 (ha : PT X a (lT X.K t)) : PW X (.BoolOp .And [a] pos) (lT X.K t) := pw_and1 ha
theorem t_or1 (ha : PT X a (lT X.K t)) : PW X (.BoolOp .Or [a] pos) (lT X.K t) := pw_or1 ha
theorem t_and (ha : PT X a (lT X.K t)) (hb : PW X (.BoolOp .And (b :: rest) pos) (lT X.K u)) : PW X (.BoolOp .And (a :: b :: rest) pos) (lT X.K (wAnd t u)) :=
  (pw_and ha hb).mo fun σ H Q ⟨G, en, I, Q', o, q, k⟩ => ⟨G, en, I, _, o, q, fun c H1 I1 e1 o1 x1 q1 => by
    cases c with
    | true => exact ⟨G, e1, I1, Q', o1, q1, fun b H2 I2 e2 o2 x2 q2 => k b H2 I2 e2 o2 (x1.tr x2) q2⟩
    | false => exact k false H1 I1 e1 o1 x1 q1⟩
theorem t_or (ha : PT X a (lT X.K t)) (hb : PW X (.BoolOp .Or (b :: rest) pos) (lT X.K u)) : PW X (.BoolOp .Or (a :: b :: rest) pos) (lT X.K (wOr t u)) :=
  (pw_or ha hb).mo fun σ H Q ⟨G, en, I, Q', o, q, k⟩ => ⟨G, en, I, _, o, q, fun c H1 I1 e1 o1 x1 q1 => by
    cases c with
    | false => exact ⟨G, e1, I1, Q', o1, q1, fun b H2 I2 e2 o2 x2 q2 => k b H2 I2 e2 o2 (x1.tr x2) q2⟩
    | true => exact k true H1 I1 e1 o1 x1 q1⟩
theorem t_not (ha : PT X a (lT X.K t)) : PT X (.UnaryOp .Not a pos) (lT X.K (wNot t)) :=
  (pt_not ha).mo fun σ H Q ⟨G, en, I, Q', o, q, k⟩ => ⟨G, en, I, _, o, q, fun c H1 I1 e1 o1 x1 q1 => k (!c) H1 I1 e1 o1 x1 q1⟩
def wAndV (wa wb : WE) : WE := fun en Q => wa en fun d e1 => ∃ c, d = .bool c ∧ if c = true then wb e1 Q else Q (.bool false) e1
def wOrV (wa wb : WE) : WE := fun en Q => wa en fun d e1 => ∃ c, d = .bool c ∧ if c = true then Q (.bool true) e1 else wb e1 Q
def wNotV (wa : WE) : WE := fun en Q => wa en fun d e1 => ∃ c, d = .bool c ∧ Q (.bool (!c)) e1
theorem d_one {op} (h : PE X a (lE X.K wa)) : PE X (.BoolOp op [a] pos) (lE X.K wa) := pe_one h
theorem d_and (ha : PE X a (lE X.K wa)) (hb : PE X (.BoolOp .And (b :: rest) pos) (lE X.K wb)) : PE X (.BoolOp .And (a :: b :: rest) pos) (lE X.K (wAndV wa wb)) :=
  (pe_and ha hb).mo fun σ H Q ⟨G, en, I, Q', o, q, k⟩ => ⟨G, en, I, _, o, q, fun v H1 I1 e1 d o1 x1 dv ⟨c, hc, q1⟩ => by
    subst hc
    refine ⟨c, dp_bl dv, ?_⟩
    cases c with
    | true => exact ⟨G, e1, I1, Q', o1, q1, fun v H2 I2 e2 d2 o2 x2 dv2 q2 => k v H2 I2 e2 d2 o2 (x1.tr x2) dv2 q2⟩
    | false => exact k (.bl false) H1 I1 e1 _ o1 x1 (.bl false) q1⟩
theorem d_or (ha : PE X a (lE X.K wa)) (hb : PE X (.BoolOp .Or (b :: rest) pos) (lE X.K wb)) : PE X (.BoolOp .Or (a :: b :: rest) pos) (lE X.K (wOrV wa wb)) :=
  (pe_or ha hb).mo fun σ H Q ⟨G, en, I, Q', o, q, k⟩ => ⟨G, en, I, _, o, q, fun v H1 I1 e1 d o1 x1 dv ⟨c, hc, q1⟩ => by
    subst hc
    refine ⟨c, dp_bl dv, ?_⟩
    cases c with
    | false => exact ⟨G, e1, I1, Q', o1, q1, fun v H2 I2 e2 d2 o2 x2 dv2 q2 => k v H2 I2 e2 d2 o2 (x1.tr x2) dv2 q2⟩
    | true => exact k (.bl true) H1 I1 e1 _ o1 x1 (.bl true) q1⟩
theorem d_not (ha : PE X a (lE X.K wa)) : PE X (.UnaryOp .Not a pos) (lE X.K (wNotV wa)) :=
  (pe_not ha).mo fun σ H Q ⟨G, en, I, Q', o, q, k⟩ => ⟨G, en, I, _, o, q, fun v H1 I1 e1 d o1 x1 dv ⟨c, hc, q1⟩ => by
    subst hc
    exact ⟨c, dp_bl dv, k (.bl (!c)) H1 I1 e1 _ o1 x1 (.bl _) q1⟩⟩
def wIf (t : WT) (wa wb : WE) : WE := fun en Q => t en fun c e1 => if c = true then wa e1 Q else wb e1 Q
theorem d_if (hc : PT X c (lT X.K t)) (ha : PE X a (lE X.K wa)) (hb : PE X b (lE X.K wb)) : PE X (.IfExp c a b pos) (lE X.K (wIf t wa wb)) :=
  (pe_ifExp hc ha hb).mo fun σ H Q ⟨G, en, I, Q', o, q, k⟩ => ⟨G, en, I, _, o, q, fun c H1 I1 e1 o1 x1 q1 => by
    cases c with
    | true => exact ⟨G, e1, I1, Q', o1, q1, fun v H2 I2 e2 d2 o2 x2 dv2 q2 => k v H2 I2 e2 d2 o2 (x1.tr x2) dv2 q2⟩
    | false => exact ⟨G, e1, I1, Q', o1, q1, fun v H2 I2 e2 d2 o2 x2 dv2 q2 => k v H2 I2 e2 d2 o2 (x1.tr x2) dv2 q2⟩⟩
/-- a chain of two comparisons -/
def wCh (f g : D → D → D → Prop) (wa wb wc : WE) : WE := fun en Q => wa en fun x e1 => wb e1 fun y e2 => ∃ b, f x y (.bool b) ∧ if b = true then wc e2 fun z e3 => ∃ r, g y z r ∧ Q r e3 else Q (.bool false) e2
/-! ### argument lists, displays -/
def wNil : WA := fun en Q => Q [] en
def wCons (w : WE) (r : WA) : WA := fun en Q => w en fun d e1 => r e1 fun ds e2 => Q (d :: ds) e2
theorem a_nil : PA X [] (lA X.K wNil) := pa_nil.mo fun σ H Q ⟨G, en, I, Q', o, q, k⟩ => k [] H I en [] o (Ex.rf I) .nil q
theorem a_cons {w : WE} {r : WA} (ha : PE X e (lE X.K w)) (hr : PA X es (lA X.K r)) (hs : starEach (e :: es) X.env = (false, eval e X.env) :: starEach es X.env := by rfl) : PA X (e :: es) (lA X.K (wCons w r)) :=
  (pa_cons ha hr hs).mo fun σ H Q ⟨G, en, I, Q', o, q, k⟩ => ⟨G, en, I, _, o, q, fun v H1 I1 e1 d o1 x1 dv q1 => ⟨G, e1, I1, _, o1, q1, fun vs H2 I2 e2 ds o2 x2 dvs q2 => k (v :: vs) H2 I2 e2 (d :: ds) o2 (x1.tr x2) (.cons (dv.up x2) dvs) q2⟩⟩
def wTup (w : WA) : WE := fun en Q => w en fun ds e1 => ds.length ≤ sizeLine ∧ Q (.tuple ds) e1
theorem d_tup {x1} {w : WA} (h : PA X es (lA X.K w)) : PE X (.Tuple es x1 pos) (lE X.K (wTup w)) :=
  (pe_tup h).mo fun σ H Q ⟨G, en, I, Q', o, q, k⟩ => ⟨G, en, I, _, o, q, fun vs H1 I1 e1 ds o1 x1 dvs ⟨hl, q1⟩ => ⟨by rw [dpa_len dvs]; exact hl, fun p hp => by
    obtain ⟨o2, x2⟩ := o1.new (u := .tup vs) hp
    exact k (.ref p) _ _ e1 _ o2 (x1.tr x2) (.tup (SqT.of upd_same) (dvs.up x2)) q1⟩⟩
/-- a list of one's own: new, its items known -/
def lL (K : PySem.W.Frag) (w : WA) : TE := fun σ H Q => ∃ (G : Gh) (en : En) (I : Hp) (Q' : List D → En → Prop), Ok K G σ en H I ∧ w en Q' ∧
  ∀ p vs H' I' en' ds, Ok K G σ en' H' I' → Ex I I' → H' p = none → DaAll K I' vs ds → Q' ds en' → Q (.ref p) (upd H' p (.lst vs))
def wLe (w : WA) : WE := fun en Q => w en fun ds e1 => Q (.list ds) e1
theorem d_lL {w : WA} (h : PE X e (lL X.K w)) : PE X e (lE X.K (wLe w)) := h.mo fun σ H Q ⟨G, en, I, Q', o, q, k⟩ => ⟨G, en, I, _, o, q, fun p vs H1 I1 e1 ds o1 x1 hp dvs q1 => by
  obtain ⟨o2, x2⟩ := o1.new (u := .lst vs) hp
  exact k (.ref p) _ _ e1 _ o2 (x1.tr x2) (.lst upd_same (dvs.up x2)) q1⟩
def wSz (w : WA) : WA := fun en Q => w en fun ds e1 => ds.length ≤ sizeLine ∧ Q ds e1
theorem l_lst {w : WA} (h : PA X es (lA X.K w)) : PE X (.List es pos) (lL X.K (wSz w)) :=
  (pe_lst h).mo fun σ H Q ⟨G, en, I, Q', o, q, k⟩ => ⟨G, en, I, _, o, q, fun vs H1 I1 e1 ds o1 x1 dvs ⟨hl, q1⟩ => ⟨by rw [dpa_len dvs]; exact hl, fun p hp => k p vs H1 I1 e1 ds o1 x1 hp dvs q1⟩⟩
theorem d_lst {w : WA} (h : PA X es (lA X.K w)) : PE X (.List es pos) (lE X.K (wLe (wSz w))) := d_lL (l_lst h)
/-- a call of a built-in by values -/
theorem lcl {r : List V → Hp → VK → Prop} {f : List D → D → Prop} {w : WA} (hs : SndCl X.K r f) {σ : Sg} {H : Hp} {Q : VK} (q : lE X.K (wCl f w) σ H Q) : tCB r (lA X.K w) σ H Q := by
  obtain ⟨G, en, I, Q', o, q, k⟩ := q
  exact ⟨G, en, I, _, o, q, fun vs H1 I1 e1 ds o1 x1 dvs ⟨z, fz, q1⟩ => hs H1 I1 vs ds z o1.iH dvs fz Q fun v' H3 I3 g dz => k v' H3 I3 e1 z (o1.gr g) (x1.tr g.i) dz q1⟩
end
end Pd

set_option Elab.async false
set_option linter.all false
set_option maxRecDepth 100000
set_option maxHeartbeats 4000000
namespace Pd
open PySem PySem.Spec PyProof.Rows L2
/-! ### what a def promises over data -/
abbrev WF := List D → (D → Prop) → Prop
abbrev WJ := List D → List D → (D → List D → Prop) → Prop
def spP (K : PySem.W.Frag) (n : Nat) (wf : WF) : Sp := fun vs H Q _ => ∃ (I : Hp) (ds : List D) (Q' : D → Prop), Ex I H ∧ DaAll K I vs ds ∧ ds.length = n ∧ wf ds Q' ∧
  ∀ v H' I' d, Gr H I H' I' → Da K I' v d → Q' d → Q v H'
def spJ (K : PySem.W.Frag) (n : Nat) (wf : WJ) : Sp := fun vs H Q _ => ∃ (j : Addr) (vj : List V) (dj : List D) (us : List V) (ds : List D) (I : Hp) (Q' : D → List D → Prop),
  vs = .ref j :: us ∧ I j = none ∧ H j = some (.lst vj) ∧ DaAll K I vj dj ∧ Ex I H ∧ DaAll K I us ds ∧ ds.length + 1 = n ∧ wf dj ds Q' ∧
  ∀ v H' I' d vj' dj', (∀ a o, a ≠ j → H a = some o → H' a = some o) → Ex I I' → Ex I' H' → (∀ a, I' a ≠ none → I a = none → H a = none) → H' j = some (.lst vj') → DaAll K I' vj' dj' → Da K I' v d → Q' d dj' → Q v H'
section
variable {K : PySem.W.Frag} {G : Gh} {σ : Sg} {en : En} {H I H' I' : Hp}
theorem set_get {α : Type} {l : List α} {i j : Nat} {x y : α} (h : (l.set i x)[j]? = some y) : (i = j ∧ y = x) ∨ (i ≠ j ∧ l[j]? = some y) := by
  by_cases e : i = j
  · subst e
    rw [List.getElem?_set] at h
    simp only [if_true] at h
    split at h
    · injection h with h; exact Or.inl ⟨rfl, h.symm⟩
    · cases h
  · rw [List.getElem?_set_ne e] at h
    exact Or.inr ⟨e, h⟩
/-- one's own list at slot i has turned -/
theorem Ok.turn (o : Ok K G σ en H I) {i : Nat} {l : Addr} {vs : List V} {ds : List D} (hi : OwnAt σ en i l) (k : ∀ a u, a ≠ l → H a = some u → H' a = some u) (e2 : Ex I I') (e3 : Ex I' H') (n : ∀ a, I' a ≠ none → I a = none → H a = none)
    (hl : H' l = some (.lst vs)) (hd : DaAll K I' vs ds) : Ok K G σ (en.set i (.own ds)) H' I' := by
  obtain ⟨h1, ds0, h2⟩ := hi
  have hi : OwnAt σ en i l := ⟨h1, ds0, h2⟩
  have Hl : ∃ u, H l = some u := by
    obtain ⟨l', vs', q1, q2, q3, q4⟩ := o.own h2
    rw [h1] at q1
    have q5 : l = l' := by injection q1 with q1; injection q1 with q1; injection q1
    rw [q5]; exact ⟨_, q3⟩
  have Il : I l = none := by
    obtain ⟨l', vs', q1, q2, q3, q4⟩ := o.own h2
    rw [h1] at q1
    have q5 : l = l' := by injection q1 with q1; injection q1 with q1; injection q1
    rw [q5]; exact q2
  have nIl : ∀ b u, H b = some u → I b = none → I' b = none := fun b u hb ib => by
    by_cases h4 : I' b = none
    · exact h4
    · have h5 := n b h4 ib
      rw [hb] at h5; cases h5
  have own' : ∀ j b, OwnAt σ (en.set i (.own ds)) j b → OwnAt σ en j b := fun j b ⟨q1, es, q2⟩ => by
    rcases set_get q2 with ⟨e, _⟩ | ⟨_, q3⟩
    · subst e; exact ⟨q1, ds0, h2⟩
    · exact ⟨q1, es, q3⟩
  refine ⟨o.i0.tr e2, e3, fun a q1 q2 => ?_, fun a u q1 q2 => ?_, by rw [List.length_set]; exact o.ln, fun j s q => ?_, fun j b q => o.ml j b (own' j b q), fun a b c q1 q2 => o.ds a b c (own' a c q1) (own' b c q2), fun b q => ?_, fun p hp => ?_⟩
  · have q3 := o.nw a q1 q2
    cases q4 : G.He a with
    | none => exact absurd q4 q1
    | some u =>
      by_cases hj : G.J = some a
      · obtain ⟨r1, es, r2⟩ := o.pj a hj
        obtain ⟨l', vs', r3, r4, r5, r6⟩ := o.own r2
        rw [r1] at r3
        have q5 : a = l' := by injection r3 with r3; injection r3 with r3; injection r3
        rw [← q5] at r5
        exact nIl a _ r5 q3
      · exact nIl a u (o.fr a u q4 hj) q3
  · have q3 := o.fr a u q1 q2
    refine k a u (fun e => ?_) q3
    subst e
    rcases o.ml i a hi with r | r
    · exact q2 r
    · rw [q1] at r; cases r
  · rcases set_get q with ⟨e, q2⟩ | ⟨ne, q2⟩
    · subst e q2
      exact ⟨l, vs, h1, nIl l _ Hl.choose_spec Il, hl, hd⟩
    · have r := o.sl j s q2
      cases s with
      | un => trivial
      | scr ns => obtain ⟨a, q1, q2⟩ := r; exact ⟨a, q1, sqs_ex e2 q2⟩
      | imm d =>
        obtain ⟨x, r1, r2⟩ := r
        exact ⟨x, r1, r2.up e2⟩
      | own es =>
        obtain ⟨l', vs', r1, r2, r3, r4⟩ := r
        refine ⟨l', vs', r1, nIl l' _ r3 r2, k l' _ (fun e => ?_) r3, r4.up e2⟩
        subst e
        exact ne (o.ds i j l' hi ⟨r1, es, q2⟩)
  · obtain ⟨r1, es, r2⟩ := o.pj b q
    refine ⟨r1, ?_⟩
    by_cases e : i = 0
    · subst e
      refine ⟨ds, ?_⟩
      rw [List.getElem?_set, if_pos rfl]
      have : 0 < en.length := (List.getElem?_eq_some_iff.mp r2).1
      simp [this]
    · exact ⟨es, by rw [List.getElem?_set_ne e]; exact r2⟩
  · obtain ⟨q1, q2, q3⟩ := o.pr p hp
    exact ⟨k _ _ (fun e => q3 i (by rw [e]; exact hi)) q1, nIl _ _ q1 q2, fun j q => q3 j (own' j _ q)⟩
/-- slot i gets data (it is not the one that the caller handed in) -/
theorem Ok.put (o : Ok K G σ en H I) {i : Nat} {v : V} {d : D} (hd : Da K I v d) (hi : i ≠ 0 ∨ ∀ ds, en[i]? ≠ some (.own ds)) : Ok K G (σ.set i (some v)) (en.set i (.imm d)) H I := by
  have own' : ∀ j b, OwnAt (σ.set i (some v)) (en.set i (.imm d)) j b → OwnAt σ en j b := fun j b ⟨q1, es, q2⟩ => by
    rcases set_get q2 with ⟨e, q⟩ | ⟨ne, q3⟩
    · cases q
    · rw [List.getElem?_set_ne ne] at q1
      exact ⟨q1, es, q3⟩
  refine ⟨o.i0, o.iH, o.nw, o.fr, by rw [List.length_set, List.length_set]; exact o.ln, fun j s q => ?_, fun j b q => o.ml j b (own' j b q), fun a b c q1 q2 => o.ds a b c (own' a c q1) (own' b c q2), fun b q => ?_, fun p hp => ⟨(o.pr p hp).1, (o.pr p hp).2.1, fun j q => (o.pr p hp).2.2 j (own' j _ q)⟩⟩
  · rcases set_get q with ⟨e, q2⟩ | ⟨ne, q2⟩
    · subst e q2
      refine ⟨v, ?_, hd⟩
      rw [List.getElem?_set, if_pos rfl]
      have : i < (en.set i (.imm d)).length := (List.getElem?_eq_some_iff.mp q).1
      rw [List.length_set] at this
      simp [o.ln, this]
    · rw [List.getElem?_set_ne ne]
      exact o.sl j s q2
  · obtain ⟨r1, es, r2⟩ := o.pj b q
    by_cases e : i = 0
    · subst e
      rcases hi with hi | hi
      · exact absurd rfl hi
      · exact absurd r2 (hi es)
    · exact ⟨by rw [List.getElem?_set_ne e]; exact r1, es, by rw [List.getElem?_set_ne e]; exact r2⟩
/-- slot i gets a new list of its own -/
theorem Ok.putOwn (o : Ok K G σ en H I) {i : Nat} {p : Addr} {vs : List V} {ds : List D} (hp : H p = none) (hd : DaAll K I vs ds) (hi : i ≠ 0) : Ok K G (σ.set i (some (.ref p))) (en.set i (.own ds)) (upd H p (.lst vs)) I := by
  have ip : I p = none := o.iH.no hp
  have hep : G.He p = none := by
    cases q : G.He p with
    | none => rfl
    | some u =>
      by_cases hj : G.J = some p
      · obtain ⟨r1, es, r2⟩ := o.pj p hj
        obtain ⟨l', vs', r3, r4, r5, r6⟩ := o.own r2
        rw [r1] at r3
        have q5 : p = l' := by injection r3 with r3; injection r3 with r3; injection r3
        rw [← q5, hp] at r5; cases r5
      · rw [o.fr p u q hj] at hp; cases hp
  have np : ∀ j, ¬ OwnAt σ en j p := fun j ⟨q1, es, q2⟩ => by
    obtain ⟨l', vs', r3, r4, r5, r6⟩ := o.own q2
    rw [q1] at r3
    have q5 : p = l' := by injection r3 with r3; injection r3 with r3; injection r3
    rw [← q5, hp] at r5; cases r5
  have own' : ∀ j b, OwnAt (σ.set i (some (.ref p))) (en.set i (.own ds)) j b → (i = j ∧ b = p) ∨ (i ≠ j ∧ OwnAt σ en j b) := fun j b ⟨q1, es, q2⟩ => by
    rcases set_get q1 with ⟨e, q⟩ | ⟨ne, q3⟩
    · injection q with q; injection q with q; exact Or.inl ⟨e, q⟩
    · rw [List.getElem?_set_ne ne] at q2
      exact Or.inr ⟨ne, q3, es, q2⟩
  refine ⟨o.i0, fun a u h => ?_, o.nw, fun a u h1 h2 => ?_, by rw [List.length_set, List.length_set]; exact o.ln, fun j s q => ?_, fun j b q => ?_, fun a b c q1 q2 => ?_, fun b q => ?_, fun p' hp' => ?_⟩
  · rw [upd_ne (ne_of_none h ip)]; exact o.iH a u h
  · have h3 := o.fr a u h1 h2
    rw [upd_ne (ne_of_none h3 hp)]; exact h3
  · rcases set_get q with ⟨e, q2⟩ | ⟨ne, q2⟩
    · subst e q2
      refine ⟨p, vs, ?_, ip, upd_same, hd⟩
      rw [List.getElem?_set, if_pos rfl]
      have : i < (en.set i (.own ds)).length := (List.getElem?_eq_some_iff.mp q).1
      rw [List.length_set] at this
      simp [o.ln, this]
    · rw [List.getElem?_set_ne ne]
      have r := o.sl j s q2
      cases s with
      | un => trivial
      | scr ns => exact r
      | imm d => exact r
      | own es =>
        obtain ⟨l', vs', r1, r2, r3, r4⟩ := r
        exact ⟨l', vs', r1, r2, by rw [upd_ne (ne_of_none r3 hp)]; exact r3, r4⟩
  · rcases own' j b q with ⟨_, e⟩ | ⟨_, q⟩
    · subst e; exact Or.inr hep
    · exact o.ml j b q
  · rcases own' a c q1 with ⟨e1, e2⟩ | ⟨e1, z1⟩
    · rcases own' b c q2 with ⟨e3, e4⟩ | ⟨e3, z2⟩
      · exact e1.symm.trans e3
      · exact absurd (e2 ▸ z2) (np b)
    · rcases own' b c q2 with ⟨e3, e4⟩ | ⟨e3, z2⟩
      · exact absurd (e4 ▸ z1) (np a)
      · exact o.ds a b c z1 z2
  · obtain ⟨r1, es, r2⟩ := o.pj b q
    exact ⟨by rw [List.getElem?_set_ne hi]; exact r1, es, by rw [List.getElem?_set_ne hi]; exact r2⟩
  · obtain ⟨q1, q2, q3⟩ := o.pr p' hp'
    refine ⟨by rw [upd_ne (ne_of_none q1 hp)]; exact q1, q2, fun j q => ?_⟩
    rcases own' j _ q with ⟨_, e⟩ | ⟨_, q⟩
    · rw [e, hp] at q1; cases q1
    · exact q3 j q
/-- slot i forgotten -/
theorem Ok.forget (o : Ok K G σ en H I) {i : Nat} {v : Option V} (hi : i ≠ 0 ∨ ∀ ds, en[i]? ≠ some (.own ds)) : Ok K G (σ.set i v) (en.set i .un) H I := by
  have own' : ∀ j b, OwnAt (σ.set i v) (en.set i .un) j b → OwnAt σ en j b := fun j b ⟨q1, es, q2⟩ => by
    rcases set_get q2 with ⟨e, q⟩ | ⟨ne, q3⟩
    · cases q
    · rw [List.getElem?_set_ne ne] at q1
      exact ⟨q1, es, q3⟩
  refine ⟨o.i0, o.iH, o.nw, o.fr, by rw [List.length_set, List.length_set]; exact o.ln, fun j s q => ?_, fun j b q => o.ml j b (own' j b q), fun a b c q1 q2 => o.ds a b c (own' a c q1) (own' b c q2), fun b q => ?_, fun p hp => ⟨(o.pr p hp).1, (o.pr p hp).2.1, fun j q => (o.pr p hp).2.2 j (own' j _ q)⟩⟩
  · rcases set_get q with ⟨e, q2⟩ | ⟨ne, q2⟩
    · subst e q2; trivial
    · rw [List.getElem?_set_ne ne]
      exact o.sl j s q2
  · obtain ⟨r1, es, r2⟩ := o.pj b q
    by_cases e : i = 0
    · subst e
      rcases hi with hi | hi
      · exact absurd rfl hi
      · exact absurd r2 (hi es)
    · exact ⟨by rw [List.getElem?_set_ne e]; exact r1, es, by rw [List.getElem?_set_ne e]; exact r2⟩
/-- a new object, protected from now on -/
theorem Ok.prot (o : Ok K G σ en H I) {p : Addr} {u : HO} (hp : H p = none) : Ok K { G with P := (p, u) :: G.P } σ en (upd H p u) I := by
  have ip : I p = none := o.iH.no hp
  have np : ∀ j, ¬ OwnAt σ en j p := fun j ⟨q1, es, q2⟩ => by
    obtain ⟨l', vs', r3, r4, r5, r6⟩ := o.own q2
    rw [q1] at r3
    have q5 : p = l' := by injection r3 with r3; injection r3 with r3; injection r3
    rw [← q5, hp] at r5; cases r5
  refine ⟨o.i0, fun a v h => by rw [upd_ne (ne_of_none h ip)]; exact o.iH a v h, o.nw, fun a v h1 h2 => ?_, o.ln, fun j s q => ?_, o.ml, o.ds, o.pj, fun q hq => ?_⟩
  · have h3 := o.fr a v h1 h2
    rw [upd_ne (ne_of_none h3 hp)]; exact h3
  · have r := o.sl j s q
    cases s with
    | un => trivial
    | scr ns => exact r
    | imm d => exact r
    | own es =>
      obtain ⟨l', vs', r1, r2, r3, r4⟩ := r
      exact ⟨l', vs', r1, r2, by rw [upd_ne (ne_of_none r3 hp)]; exact r3, r4⟩
  · rcases List.mem_cons.mp hq with e | hq
    · subst e; exact ⟨upd_same, ip, np⟩
    · obtain ⟨q1, q2, q3⟩ := o.pr q hq
      exact ⟨by rw [upd_ne (ne_of_none q1 hp)]; exact q1, q2, q3⟩
/-- the protected object is written by the code around -/
theorem Ok.rewr {P : List (Addr × HO)} {p : Addr} {u w : HO} (o : Ok K { G with P := (p, u) :: P } σ en H I) (hj : G.J ≠ some p) (he : G.He p = none) (hP : ∀ q ∈ P, q.1 ≠ p) : Ok K { G with P := (p, w) :: P } σ en (upd H p w) I := by
  obtain ⟨h1, h2, h3⟩ := o.pr (p, u) List.mem_cons_self
  refine ⟨o.i0, fun a v h => ?_, o.nw, fun a v h1 h2 => ?_, o.ln, fun j s q => ?_, o.ml, o.ds, o.pj, fun q hq => ?_⟩
  · have : a ≠ p := fun e => by subst e; rw [h2] at h; cases h
    rw [upd_ne this]; exact o.iH a v h
  · have : a ≠ p := fun e => by subst e; rw [he] at h1; cases h1
    rw [upd_ne this]; exact o.fr a v h1 h2
  · have r := o.sl j s q
    cases s with
    | un => trivial
    | scr ns => exact r
    | imm d => exact r
    | own es =>
      obtain ⟨l', vs', r1, r2, r3, r4⟩ := r
      have : l' ≠ p := fun e => by subst e; exact h3 j ⟨r1, es, q⟩
      exact ⟨l', vs', r1, r2, by rw [upd_ne this]; exact r3, r4⟩
  · rcases List.mem_cons.mp hq with e | hq
    · subst e; exact ⟨upd_same, h2, h3⟩
    · obtain ⟨q1, q2, q3⟩ := o.pr q (List.mem_cons_of_mem _ hq)
      exact ⟨by rw [upd_ne (hP q hq)]; exact q1, q2, q3⟩
theorem Ok.unprot {P : List (Addr × HO)} {p : Addr × HO} (o : Ok K { G with P := p :: P } σ en H I) : Ok K { G with P := P } σ en H I :=
  ⟨o.i0, o.iH, o.nw, o.fr, o.ln, o.sl, o.ml, o.ds, o.pj, fun q hq => o.pr q (List.mem_cons_of_mem _ hq)⟩
end
end Pd

set_option Elab.async false
set_option linter.all false
set_option maxRecDepth 100000
set_option maxHeartbeats 4000000
namespace Pd
open PySem PySem.Spec PyProof.Rows L2
/-! ### calls -/
def wFn (n : Nat) (wf : WF) (w : WA) : WE := fun en Q => w en fun ds e1 => ds.length = n ∧ wf ds fun d => Q d e1
def wFnJ (i n : Nat) (wf : WJ) (w : WA) : WE := fun en Q => (∃ dj, en[i]? = some (.own dj)) ∧ w en fun ds e1 => ds.length + 1 = n ∧ ∃ dj, e1[i]? = some (.own dj) ∧ wf dj ds fun d dj' => Q d (e1.set i (.own dj'))
section
variable {X : Cx} {e : Expr} {es : List Expr} {pos p : Pos} {x : Str} {k n : Nat} {f : Addr} {fd : FuncData} {ps : List Str}
theorem d_call {wf : WF} {w : WA} (F : FnOk X.prog X.w X.K X.mg X.base CX0 k f fd ps (spP X.K n wf)) (hr : Room k X.A) (hm : X.mg x = some (.ref f)) (hk : PySem.W.keepIn X.K (.ref f) = true) (hb : Binds X.K fd ps []) (ha : PA X (e :: es) (lA X.K w)) (hg : Gl X x := by rfl)
    (hdb : (x == ("__debug__" : Str)) = false := by decide) (he : starEach (e :: es) X.env = (false, eval e X.env) :: starEach es X.env := by rfl) (hpl : (backTo pos (starEach es X.env)).any (·.1) = false := by rfl) :
    PE X (.Call (.Name x p) (e :: es) [] pos) (lE X.K (wFn n wf w)) :=
  (pe_call F hr hg hm hk hb .nil pass0 ha hdb he hpl).mo fun σ H Q ⟨G, en, I, Q', o, q, k⟩ => ⟨G, en, I, _, o, q, fun vs H1 I1 e1 ds o1 x1 dvs ⟨hn, q1⟩ => by
    refine ⟨I1, ds, _, o1.iH, by rw [List.append_nil]; exact dvs, hn, q1, fun v H2 I2 d g dv q2 => ?_⟩
    exact k v H2 I2 e1 d (o1.gr g) (x1.tr g.i) dv q2⟩
theorem d_call0 {wf : WF} (F : FnOk X.prog X.w X.K X.mg X.base CX0 k f fd ps (spP X.K 0 wf)) (hr : Room k X.A) (hm : X.mg x = some (.ref f)) (hk : PySem.W.keepIn X.K (.ref f) = true) (hb : Binds X.K fd ps []) (hg : Gl X x := by rfl)
    (hdb : (x == ("__debug__" : Str)) = false := by decide) :
    PE X (.Call (.Name x p) [] [] pos) (lE X.K (wFn 0 wf wNil)) :=
  (pe_call0 F hr hg hm hk hb .nil pass0 hdb).mo fun σ H Q ⟨G, en, I, Q', o, ⟨hn, q⟩, k⟩ => by
    refine ⟨I, [], _, o.iH, .nil, hn, q, fun v H2 I2 d g dv q2 => ?_⟩
    exact k v H2 I2 en d (o.gr g) g.i dv q2
theorem d_callJ {wf : WJ} {w : WA} {i : Nat} (F : FnOk X.prog X.w X.K X.mg X.base CX0 k f fd ps (spJ X.K n wf)) (hr : Room k X.A) (hm : X.mg x = some (.ref f)) (hk : PySem.W.keepIn X.K (.ref f) = true) (hb : Binds X.K fd ps []) (h0 : PE X e (tVar i)) (ha : PA X es (lA X.K w)) (hg : Gl X x := by rfl)
    (hdb : (x == ("__debug__" : Str)) = false := by decide) (he : starEach (e :: es) X.env = (false, eval e X.env) :: starEach es X.env := by rfl) (hpl : (backTo pos (starEach es X.env)).any (·.1) = false := by rfl) :
    PE X (.Call (.Name x p) (e :: es) [] pos) (lE X.K (wFnJ i n wf w)) :=
  (pe_call F hr hg hm hk hb .nil pass0 (pa_cons h0 ha he) hdb he hpl).mo fun σ H Q ⟨G, en, I, Q', o, ⟨⟨dj0, hj0⟩, q⟩, k⟩ => by
    -- the slot's list is read ahead of the other arguments; it stands at its address behind them
    have key : ∀ (j : Addr), σ[i]? = some (some (.ref j)) → lA X.K w σ H fun vs H1 => spJ X.K n wf ((V.ref j :: vs) ++ []) H1 Q E0 := fun j hj => by
      refine ⟨G, en, I, _, o, q, fun vs H1 I1 e1 ds o1 x1 dvs ⟨hn, dj, hd, q1⟩ => ?_⟩
      obtain ⟨l, vj, r1, r2, r3, r4⟩ := o1.own hd
      rw [hj] at r1
      have q5 : j = l := by injection r1 with r1; injection r1 with r1; injection r1
      subst q5
      refine ⟨j, vj, dj, vs, ds, I1, _, by rw [List.append_nil], r2, r3, r4, o1.iH, dvs, hn, q1, fun v H2 I2 d vj' dj' k1 k2 k3 k4 k5 k6 k7 k8 => ?_⟩
      exact k v H2 I2 _ d (o1.turn ⟨hj, dj, hd⟩ k1 k2 k3 k4 k5 k6) (x1.tr k2) k7 k8
    obtain ⟨j, _, hj, _⟩ := o.own hj0
    exact ⟨.ref j, hj, key j hj⟩
theorem d_cb {id : String} {r : List V → Hp → VK → Prop} {g : List D → D → Prop} {w : WA} (hc : CallR X (.builtin id) r) (hs : SndCl X.K r g) (hm : X.mg x = none) (hv : bootBuiltins x = some (.builtin id)) (ha : PA X (e :: es) (lA X.K w)) (hg : Gl X x := by rfl)
    (hn : x ≠ "__name__" := by decide) (hdb : (x == ("__debug__" : Str)) = false := by decide)
    (he : starEach (e :: es) X.env = (false, eval e X.env) :: starEach es X.env := by rfl) (hpl : (backTo pos (starEach es X.env)).any (·.1) = false := by rfl) : PE X (.Call (.Name x p) (e :: es) [] pos) (lE X.K (wCl g w)) :=
  (pe_callB hc hg hm hv ha hn hdb he hpl).mo fun σ H Q q => lcl hs q
theorem d_cty {T : String} {r : List V → Hp → VK → Prop} {g : List D → D → Prop} {w : WA} (hc : CallR X (.type T) r) (hs : SndCl X.K r g) (hm : X.mg x = none) (hv : bootBuiltins x = some (.type T)) (ha : PA X (e :: es) (lA X.K w)) (hg : Gl X x := by rfl)
    (hn : x ≠ "__name__" := by decide) (hdb : (x == ("__debug__" : Str)) = false := by decide)
    (he : starEach (e :: es) X.env = (false, eval e X.env) :: starEach es X.env := by rfl) (hpl : (backTo pos (starEach es X.env)).any (·.1) = false := by rfl) : PE X (.Call (.Name x p) (e :: es) [] pos) (lE X.K (wCl g w)) :=
  (pe_callTy hc hg hm hv ha hn hdb he hpl).mo fun σ H Q q => lcl hs q
end
/-! ### statements -/
def KS (K : PySem.W.Frag) (G : Gh) (R' : Ed) (R : Ends) : Prop :=
  (∀ σ' H' I' en', Ok K G σ' en' H' I' → R'.nx en' → R.nx σ' H') ∧
  (∀ v σ' H' I' en' d, Ok K G σ' en' H' I' → Da K I' v d → R'.rt d en' → R.rt v H') ∧
  (∀ σ' H' I' en', Ok K G σ' en' H' I' → R'.bk en' → R.bk σ' H') ∧
  (∀ σ' H' I' en', Ok K G σ' en' H' I' → R'.ct en' → R.ct σ' H')
theorem lS_mk {K : PySem.W.Frag} {w : WS} {R : Ends} {σ : Sg} {H : Hp} {G : Gh} {en : En} {I : Hp} {R' : Ed} (o : Ok K G σ en H I) (q : w R' en) (k : KS K G R' R) : lS K w R σ H := ⟨G, en, I, R', o, q, k⟩
def wNext : WS := fun R en => R.nx en
def wSeq (t u : WS) : WS := fun R en => t { R with nx := u R } en
def wRet (w : WE) : WS := fun R en => w en R.rt
def wRetN : WS := fun R en => R.rt .none en
def wDrop (w : WE) : WS := fun R en => w en fun _ e1 => R.nx e1
def wIfS (t : WT) (u v : WS) : WS := fun R en => t en fun c e1 => if c = true then u R e1 else v R e1
def NotOwn : Option Sl → Prop
  | some (.own _) => False
  | _ => True
theorem notOwn_ne {s : Option Sl} (h : NotOwn s) : ∀ ds, s ≠ some (.own ds) := fun ds e => by subst e; exact h
def wSet (i : Nat) (w : WE) : WS := fun R en => w en fun d e1 => (i ≠ 0 ∨ NotOwn e1[i]?) ∧ R.nx (e1.set i (.imm d))
def wSetOwn (i : Nat) (w : WA) : WS := fun R en => w en fun ds e1 => i ≠ 0 ∧ R.nx (e1.set i (.own ds))
def wNever : WS := fun _ _ => False
section
variable {X : Cx} {e : Expr} {st : Stmt} {sts rest : List Stmt} {pos : Pos} {t u v : WS} {w : WE} {x : Str} {i : Nat}
theorem s_nil : PSs X [] (lS X.K wNext) := pss_nil.mo fun R σ H ⟨G, en, I, R', o, q, k⟩ => k.1 σ H I en o q
theorem s_cons (h1 : PS X st (lS X.K t)) (h2 : PSs X rest (lS X.K u)) : PSs X (st :: rest) (lS X.K (wSeq t u)) :=
  (pss_cons h1 h2).mo fun R σ H ⟨G, en, I, R', o, q, k⟩ => ⟨G, en, I, _, o, q, fun σ1 H1 I1 e1 o1 q1 => lS_mk o1 q1 k, k.2.1, k.2.2.1, k.2.2.2⟩
theorem s_one (h1 : PS X st (lS X.K t)) : PSs X [st] (lS X.K t) := pss_one h1
theorem s_pass : PS X (.Pass pos) (lS X.K wNext) := ps_pass.mo fun R σ H ⟨G, en, I, R', o, q, k⟩ => k.1 σ H I en o q
def wBrk : WS := fun R en => R.bk en
def wCnt : WS := fun R en => R.ct en
theorem s_break : PS X (.Break pos) (lS X.K wBrk) := ps_break.mo fun R σ H ⟨G, en, I, R', o, q, k⟩ => k.2.2.1 σ H I en o q
theorem s_cont : PS X (.Continue pos) (lS X.K wCnt) := ps_continue.mo fun R σ H ⟨G, en, I, R', o, q, k⟩ => k.2.2.2 σ H I en o q
theorem s_ret (h : PE X e (lE X.K w)) : PS X (.Return (some e) pos) (lS X.K (wRet w)) :=
  (ps_ret h).mo fun R σ H ⟨G, en, I, R', o, q, k⟩ => ⟨G, en, I, _, o, q, fun v H1 I1 e1 d o1 x1 dv q1 => k.2.1 v σ H1 I1 e1 d o1 dv q1⟩
theorem s_retN : PS X (.Return none pos) (lS X.K wRetN) := ps_retN.mo fun R σ H ⟨G, en, I, R', o, q, k⟩ => k.2.1 .non σ H I en .none o .non q
theorem s_expr (h : PE X e (lE X.K w)) (hs : swapsWith e none pos.line X.env = pure false := by rfl) : PS X (.Expr e pos) (lS X.K (wDrop w)) :=
  (ps_expr h hs).mo fun R σ H ⟨G, en, I, R', o, q, k⟩ => ⟨G, en, I, _, o, q, fun v H1 I1 e1 d o1 x1 dv q1 => k.1 σ H1 I1 e1 o1 q1⟩
theorem s_if {c : Expr} {a b : List Stmt} {tc : WT} (hc : PT X c (lT X.K tc)) (ha : PSs X a (lS X.K t)) (hb : PSs X b (lS X.K u)) : PS X (.If c a b pos) (lS X.K (wIfS tc t u)) :=
  (ps_if hc ha hb).mo fun R σ H ⟨G, en, I, R', o, q, k⟩ => ⟨G, en, I, _, o, q, fun c H1 I1 e1 o1 x1 q1 => by
    cases c with
    | true => exact lS_mk o1 q1 k
    | false => exact lS_mk o1 q1 k⟩
theorem s_never : PS X st (lS X.K wNever) := ps_never.mo fun R σ H ⟨G, en, I, R', o, q, k⟩ => q.elim
theorem ss_never : PSs X sts (lS X.K wNever) := pss_never.mo fun R σ H ⟨G, en, I, R', o, q, k⟩ => q.elim
theorem s_set {pos' : Pos} (hN : X.N.Nodup) (hi : X.N[i]? = some x) (hx : Loc X.env.scope x) (he : PE X e (lE X.K w)) (hs : swapsWith e (some (.Name x pos')) pos.line X.env = pure false := by rfl) (hf : X.fn x = true ∨ X.env.scope.names.lookup x = some .local := by first | exact .inl rfl | exact .inr rfl | assumption) :
    PS X (.Assign [.Name x pos'] e pos) (lS X.K (wSet i w)) :=
  (ps_set hN hi hx he hs hf).mo fun R σ H ⟨G, en, I, R', o, q, k⟩ => ⟨G, en, I, _, o, q, fun v H1 I1 e1 d o1 x1 dv ⟨hi, q1⟩ => k.1 _ H1 I1 _ (o1.put dv (hi.imp id notOwn_ne)) q1⟩
theorem s_setOwn {pos' : Pos} {w : WA} (hN : X.N.Nodup) (hi : X.N[i]? = some x) (hx : Loc X.env.scope x) (he : PE X e (lL X.K w)) (hs : swapsWith e (some (.Name x pos')) pos.line X.env = pure false := by rfl) (hf : X.fn x = true ∨ X.env.scope.names.lookup x = some .local := by first | exact .inl rfl | exact .inr rfl | assumption) :
    PS X (.Assign [.Name x pos'] e pos) (lS X.K (wSetOwn i w)) :=
  (ps_set hN hi hx he hs hf).mo fun R σ H ⟨G, en, I, R', o, q, k⟩ => ⟨G, en, I, _, o, q, fun p vs H1 I1 e1 ds o1 x1 hp dvs ⟨hi, q1⟩ => k.1 _ _ I1 _ (o1.putOwn hp dvs hi) q1⟩
/-- an augmented assignment to a name -/
def wAug (i : Nat) (f : D → D → D → Prop) (w : WE) : WS := fun R en => (∃ d0, en[i]? = some (.imm d0)) ∧ w en fun y e1 => ∃ d, e1[i]? = some (.imm d) ∧ (∀ d0, en[i]? = some (.imm d0) → d0 = d) ∧ ∃ z, f d y z ∧ R.nx (e1.set i (.imm z))
theorem s_aug {op : Operator} {r : R2} {f : D → D → D → Prop} {pos' : Pos} (hN : X.N.Nodup) (hi : X.N[i]? = some x) (hx : Loc X.env.scope x) (he : PE X e (lE X.K w)) (ho : PIp X op r) (hs : SndOp X.K r f) (hf : X.fn x = true ∨ X.env.scope.names.lookup x = some .local := by first | exact .inl rfl | exact .inr rfl | assumption) :
    PS X (.AugAssign (.Name x pos') op e pos) (lS X.K (wAug i f w)) :=
  (ps_aug hN hi hx he ho hf).mo fun R σ H ⟨G, en, I, R', o, ⟨⟨d0, h0⟩, q⟩, k⟩ => by
    obtain ⟨v0, hv, dv0⟩ := o.imm h0
    refine ⟨v0, hv, G, en, I, _, o, q, fun v H1 I1 e1 y o1 x1 dv ⟨d, hd, hdd, z, fz, q1⟩ => ?_⟩
    have e0 : d0 = d := hdd d0 h0
    subst e0
    refine hs H1 I1 v0 v d0 y z o1.iH (dv0.up x1) dv fz _ fun v' H3 I3 g dz => ?_
    exact k.1 _ H3 I3 _ ((o1.gr g).put dz (Or.inr fun ds h => by rw [hd] at h; cases h)) q1
end
end Pd

set_option Elab.async false
set_option linter.all false
set_option maxRecDepth 100000
set_option maxHeartbeats 4000000
namespace Pd
open PySem PySem.Spec PyProof.Rows L2
theorem or_op {X : Cx} {f : Value → Value → Sem Value} {r1 r2 : R2} (h1 : OpR X f r1) (h2 : OpR X f r2) : OpR X f (fun x y H Q => r1 x y H Q ∨ r2 x y H Q) := fun pins s σ H x y v u Q I rx ry h => by
  rcases h with h | h
  · exact h1 pins s σ H x y v u Q I rx ry h
  · exact h2 pins s σ H x y v u Q I rx ry h
theorem fin_tup {K : PySem.W.Frag} {H I : Hp} {p : Addr} {vs : List V} {ds : List D} {Q : VK} (iH : Ex I H) (hp : H p = none) (a : DaAll K I vs ds) (k : ∀ v H' I', Gr H I H' I' → Da K I' v (.tuple ds) → Q v H') : Q (.ref p) (upd H p (.tup vs)) :=
  k _ _ _ (Gr.nw (u := .tup vs) iH hp) (.tup (SqT.of upd_same) (a.up (Gr.nw (u := .tup vs) iH hp).i))
theorem fin_lst {K : PySem.W.Frag} {H I : Hp} {p : Addr} {vs : List V} {ds : List D} {Q : VK} (iH : Ex I H) (hp : H p = none) (a : DaAll K I vs ds) (k : ∀ v H' I', Gr H I H' I' → Da K I' v (.list ds) → Q v H') : Q (.ref p) (upd H p (.lst vs)) :=
  k _ _ _ (Gr.nw (u := .lst vs) iH hp) (.lst upd_same (a.up (Gr.nw (u := .lst vs) iH hp).i))
section
variable {K : PySem.W.Frag} {X : Cx}
/-! ### + -/
def dAdd : D → D → D → Prop
  | .int i, .int j, z => z = .int (i + j)
  | .tuple xs, .tuple ys, z => xs.length + ys.length ≤ sizeLine ∧ z = .tuple (xs ++ ys)
  | .list xs, .list ys, z => xs.length + ys.length ≤ sizeLine ∧ z = .list (xs ++ ys)
  | .str a, .str b, z => a.length + b.length ≤ sizeLine ∧ z = .str (a ++ b)
  | _, _, _ => False
def rAddS : R2 := fun x y H Q => ∃ i j, x = .str i ∧ y = .str j ∧ i.length + j.length ≤ sizeLine ∧ Q (.str (i ++ j)) H
def rAddD (K : PySem.W.Frag) : R2 := fun x y H Q => (rI0 fun i j => .int (i + j)) x y H Q ∨ (rCatA K x y H Q ∨ (rCat x y H Q ∨ rAddS x y H Q))
theorem op_addD : OpR X (binaryOp .Add) (rAddD X.K) := or_op op_add (or_op op_catA (or_op op_cat op_add_str))
theorem snd_add : SndOp K (rAddD K) dAdd := by
  intro H I x y d e z iH hx hy hf Q k
  unfold dAdd at hf
  split at hf
  · subst hf; cases hx; cases hy
    exact Or.inl ⟨_, _, rfl, rfl, k _ H I (Gr.rf iH) (.int _)⟩
  · rename_i xs ys
    obtain ⟨hl, rfl⟩ := hf
    cases hx with
    | tup h1 a1 =>
      cases hy with
      | tup h2 a2 =>
        refine Or.inr (Or.inl ⟨_, _, _, _, rfl, rfl, sqt_ex iH h1, sqt_ex iH h2, by rw [dpa_len a1, dpa_len a2]; exact hl, fun q => ?_, fun _ q => ?_, fun _ _ p hp => ?_⟩)
        · subst q; cases a1
          exact k _ H I (Gr.rf iH) (.tup h2 a2)
        · subst q; cases a2
          exact k _ H I (Gr.rf iH) (by rw [List.append_nil]; exact .tup h1 a1)
        · exact fin_tup iH hp (dpa_app a1 a2) k
  · rename_i xs ys
    obtain ⟨hl, rfl⟩ := hf
    cases hx with
    | lst h1 a1 =>
      cases hy with
      | lst h2 a2 =>
        refine Or.inr (Or.inr (Or.inl ⟨_, _, _, _, rfl, rfl, iH _ _ h1, iH _ _ h2, by rw [dpa_len a1, dpa_len a2]; exact hl, fun p hp => ?_⟩))
        exact fin_lst iH hp (dpa_app a1 a2) k
  · obtain ⟨hl, rfl⟩ := hf
    cases hx; cases hy
    exact Or.inr (Or.inr (Or.inr ⟨_, _, rfl, rfl, hl, k _ H I (Gr.rf iH) (.str _)⟩))
  · exact hf.elim
/-! ### ints -/
def dInt (C : Int → Int → Prop) (g : Int → Int → D) : D → D → D → Prop := fun x y z => ∃ i j, x = .int i ∧ y = .int j ∧ C i j ∧ z = g i j
theorem snd_int {C : Int → Int → Prop} {g : Int → Int → Int} : SndOp K (rI C fun i j => .int (g i j)) (dInt C fun i j => .int (g i j)) := by
  rintro H I x y d e z iH hx hy ⟨i, j, rfl, rfl, hc, rfl⟩ Q k
  cases hx; cases hy
  exact ⟨i, j, rfl, rfl, hc, k _ H I (Gr.rf iH) (.int _)⟩
theorem snd_int0 {g : Int → Int → Int} : SndOp K (rI0 fun i j => .int (g i j)) (dInt (fun _ _ => True) fun i j => .int (g i j)) := by
  rintro H I x y d e z iH hx hy ⟨i, j, rfl, rfl, hc, rfl⟩ Q k
  cases hx; cases hy
  exact ⟨i, j, rfl, rfl, k _ H I (Gr.rf iH) (.int _)⟩
def dSub : D → D → D → Prop := dInt (fun _ _ => True) fun i j => .int (i - j)
theorem snd_sub : SndOp K (rI0 fun i j => .int (i - j)) dSub := snd_int0
/-- two factors, one of them small, or together below a million bits -/
def MulOk (i j : Int) : Prop := CMul i j ∨ CMulW i j
def dMulI : D → D → D → Prop := dInt MulOk fun i j => .int (i * j)
def dMul : D → D → D → Prop := fun x y z => dMulI x y z ∨ (∃ xs k, x = .tuple xs ∧ y = .int k ∧ xs ≠ [] ∧ 2 ≤ k ∧ k ≤ 1000 ∧ xs.length ≤ 1000 ∧ z = .tuple (List.replicate k.toNat xs).flatten) ∨
  (∃ xs k, x = .list xs ∧ y = .int k ∧ -(2 ^ 63) ≤ k ∧ k < 2 ^ 63 ∧ xs.length * k.toNat ≤ sizeLine ∧ z = .list (List.replicate k.toNat xs).flatten)
theorem op_mulA : OpR X (binaryOp .Mult) (rI MulOk fun i j => .int (i * j)) := fun pins s σ H x y v u Q I rx ry h => by
  obtain ⟨i, j, e1, e2, hc, q⟩ := h
  rcases hc with hc | hc
  · exact op_mul pins s σ H x y v u Q I rx ry ⟨i, j, e1, e2, hc, q⟩
  · exact op_mulW pins s σ H x y v u Q I rx ry ⟨i, j, e1, e2, hc, q⟩
def rMulD (K : PySem.W.Frag) : R2 := fun x y H Q => (rI MulOk fun i j => .int (i * j)) x y H Q ∨ (rRepT K x y H Q ∨ rRep x y H Q)
theorem op_mulD : OpR X (binaryOp .Mult) (rMulD X.K) := or_op op_mulA (or_op op_repT op_rep)
theorem dpa_rep {I : Hp} {vs : List V} {ds : List D} (h : DaAll K I vs ds) : ∀ n : Nat, DaAll K I (List.replicate n vs).flatten (List.replicate n ds).flatten
  | 0 => .nil
  | n + 1 => by
    rw [List.replicate_succ, List.replicate_succ, List.flatten_cons, List.flatten_cons]
    exact dpa_app h (dpa_rep h n)
theorem snd_mul : SndOp K (rMulD K) dMul := by
  rintro H I x y d e z iH hx hy hf Q k
  rcases hf with ⟨i, j, rfl, rfl, hc, rfl⟩ | ⟨xs, m, rfl, rfl, h1, h2, h3, h4, rfl⟩ | ⟨xs, m, rfl, rfl, h1, h2, h3, rfl⟩
  · cases hx; cases hy
    exact Or.inl ⟨i, j, rfl, rfl, hc, k _ H I (Gr.rf iH) (.int _)⟩
  · cases hy
    cases hx with
    | tup q1 a1 =>
      refine Or.inr (Or.inl ⟨_, m, _, rfl, rfl, sqt_ex iH q1, fun e => ?_, h2, h3, by rw [dpa_len a1]; exact h4, fun p hp => ?_⟩)
      · subst e; cases a1; exact h1 rfl
      · exact fin_tup iH hp (dpa_rep a1 _) k
  · cases hy
    cases hx with
    | lst q1 a1 =>
      refine Or.inr (Or.inr ⟨_, m, _, rfl, rfl, iH _ _ q1, h1, h2, by rw [dpa_len a1]; exact h3, fun p hp => ?_⟩)
      exact fin_lst iH hp (dpa_rep a1 _) k
/-- // by a positive divisor below 2 ^ 9000 -/
def dFdiv : D → D → D → Prop := dInt CDivW fun i j => .int (i / j)
theorem snd_fdiv : SndOp K (rI CDivW fun i j => .int (i / j)) dFdiv := snd_int
def dMod : D → D → D → Prop := dInt (fun _ j => 0 < j) fun i j => .int (i % j)
theorem snd_mod : SndOp K (rI (fun _ j => 0 < j) fun i j => .int (i % j)) dMod := snd_int
def PowOk (i j : Int) : Prop := 0 ≤ j ∧ (Builtin.Int.intBits i : Int) * j ≤ 2 ^ 27
theorem op_powW : OpR X (binaryOp .Pow) (rI PowOk fun i j => .int (i ^ j.toNat)) := opI fun _ _ _ _ _ _ _ hc q => pow_int hc.1 hc.2 q
def dPow : D → D → D → Prop := dInt PowOk fun i j => .int (i ^ j.toNat)
theorem snd_pow : SndOp K (rI PowOk fun i j => .int (i ^ j.toNat)) dPow := snd_int
def dNeg : D → D → Prop := fun x z => ∃ i, x = .int i ∧ z = .int (-i)
theorem snd_neg : SndUn K (rU fun i => .int (-i)) dNeg := by
  rintro H I x d z iH hx ⟨i, rfl, rfl⟩ Q k
  cases hx
  exact ⟨i, rfl, k _ H I (Gr.rf iH) (.int _)⟩
/-! ### comparisons -/
def dEq : D → D → D → Prop := fun x y z => SeqAt.shaped x = true ∧ SeqAt.shaped y = true ∧ z = .bool (PyData.eqv x y)
def dNe : D → D → D → Prop := fun x y z => SeqAt.shaped x = true ∧ SeqAt.shaped y = true ∧ z = .bool (!PyData.eqv x y)
theorem snd_eq : SndOp K (rEqD K) dEq := by
  rintro H I x y d e z iH hx hy ⟨h1, h2, rfl⟩ Q k
  exact ⟨d, e, (hx.up iH).dp h1, (hy.up iH).dp h2, h1, h2, k _ H I (Gr.rf iH) (.bl _)⟩
theorem snd_ne : SndOp K (rNeD K) dNe := by
  rintro H I x y d e z iH hx hy ⟨h1, h2, rfl⟩ Q k
  exact ⟨d, e, (hx.up iH).dp h1, (hy.up iH).dp h2, h1, h2, k _ H I (Gr.rf iH) (.bl _)⟩
def dBoo (g : Int → Int → Bool) : D → D → D → Prop := fun x y z => ∃ i j, x = .int i ∧ y = .int j ∧ z = .bool (g i j)
theorem snd_boo {g : Int → Int → Bool} : SndOp K (rI0 fun i j => .bl (g i j)) (dBoo g) := by
  rintro H I x y d e z iH hx hy ⟨i, j, rfl, rfl, rfl⟩ Q k
  cases hx; cases hy
  exact ⟨i, j, rfl, rfl, k _ H I (Gr.rf iH) (.bl _)⟩
def dLe : D → D → D → Prop := dBoo fun i j => decide (i ≤ j)
def dGt : D → D → D → Prop := dBoo fun i j => decide (j < i)
def dGe : D → D → D → Prop := dBoo fun i j => decide (j ≤ i)
def dLtI : D → D → D → Prop := dBoo fun i j => decide (i < j)
def dLt : D → D → D → Prop := fun x y z => dLtI x y z ∨ ∃ ns ms : List Int, x = .tuple (ns.map .int) ∧ y = .tuple (ms.map .int) ∧ z = .bool (HT.lexLt ns ms)
def rLtD (K : PySem.W.Frag) : R2 := fun x y H Q => (rI0 fun i j => .bl (decide (i < j))) x y H Q ∨ rLtT K x y H Q
theorem op_ltD (hu : X.A.units < cLine) : OpR X (compareOp .Lt) (rLtD X.K) := or_op op_lt (op_ltT hu)
theorem snd_lt : SndOp K (rLtD K) dLt := by
  rintro H I x y d e z iH hx hy hf Q k
  rcases hf with hf | ⟨ns, ms, rfl, rfl, rfl⟩
  · exact Or.inl (snd_boo H I x y d e z iH hx hy hf Q k)
  · cases hx with
    | tup h1 a1 =>
      cases hy with
      | tup h2 a2 =>
        have e1 := dpa_ints_inv ns a1
        have e2 := dpa_ints_inv ms a2
        subst e1 e2
        exact Or.inr ⟨_, _, ns, ms, rfl, rfl, sqt_ex iH h1, sqt_ex iH h2, k _ H I (Gr.rf iH) (.bl _)⟩
theorem snd_le : SndOp K (rI0 fun i j => .bl (decide (i ≤ j))) dLe := snd_boo
theorem snd_gt : SndOp K (rI0 fun i j => .bl (decide (j < i))) dGt := snd_boo
theorem snd_ge : SndOp K (rI0 fun i j => .bl (decide (j ≤ i))) dGe := snd_boo
/-- is None -/
def rIsN : R2 := fun x y H Q => y = .non ∧ Q (.bl (decide (x = .non))) H
def rNotN : R2 := fun x y H Q => y = .non ∧ Q (.bl (!decide (x = .non))) H
def isNone : D → Bool
  | .none => true
  | _ => false
def dIsN : D → D → D → Prop := fun x y z => y = .none ∧ z = .bool (isNone x)
def dNotN : D → D → D → Prop := fun x y z => y = .none ∧ z = .bool (!isNone x)
theorem isN_eq {I : Hp} {v : V} {d : D} (h : Da K I v d) : decide (v = .non) = isNone d := by
  cases h <;> simp [isNone]
theorem snd_isN : SndOp K rIsN dIsN := by
  rintro H I x y d e z iH hx hy ⟨rfl, rfl⟩ Q k
  cases hy
  exact ⟨rfl, k _ H I (Gr.rf iH) (by rw [isN_eq hx]; exact .bl _)⟩
theorem snd_notN : SndOp K rNotN dNotN := by
  rintro H I x y d e z iH hx hy ⟨rfl, rfl⟩ Q k
  cases hy
  exact ⟨rfl, k _ H I (Gr.rf iH) (by rw [isN_eq hx]; exact .bl _)⟩
/-! ### chains -/
variable {a b c : Expr} {pos : Pos} {wa wb wc : WE} {r r' : R2} {f g : D → D → D → Prop} {op op' : CmpOp}
theorem lch (hs : SndOp X.K r f) (hs' : SndOp X.K r' g) {σ : Sg} {H : Hp} {Q : VK} (q : lE X.K (wCh f g wa wb wc) σ H Q) : tChain r r' (lE X.K wa) (lE X.K wb) (lE X.K wc) σ H Q := by
  obtain ⟨G, en, I, Q', o, q, k⟩ := q
  refine ⟨G, en, I, _, o, q, fun v H1 I1 e1 d o1 x1 dv q1 => ⟨G, e1, I1, _, o1, q1, fun u H2 I2 e2 d2 o2 x2 du ⟨bb, fz, q2⟩ => ?_⟩⟩
  refine hs H2 I2 v u d d2 (.bool bb) o2.iH (dv.up x2) du fz _ fun v' H3 I3 gg dz => ?_
  refine ⟨bb, dp_bl dz, ?_⟩
  have o3 := o2.gr gg
  cases bb with
  | true =>
    refine ⟨G, e2, I3, _, o3, q2, fun t H4 I4 e4 d4 o4 x4 dt ⟨z, gz, q4⟩ => ?_⟩
    exact hs' H4 I4 u t d2 d4 z o4.iH ((du.up gg.i).up x4) dt gz Q fun v5 H5 I5 g5 d5 => k v5 H5 I5 e4 z (o4.gr g5) ((((x1.tr x2).tr gg.i).tr x4).tr g5.i) d5 q4
  | false => exact k (.bl false) H3 I3 e2 (.bool false) o3 ((x1.tr x2).tr gg.i) (.bl false) q2
theorem d_ch (ho : OpR X (compareOp op) r) (hs : SndOp X.K r f) (ho' : OpR X (compareOp op') r') (hs' : SndOp X.K r' g) (ha : PE X a (lE X.K wa)) (hb : PE X b (lE X.K wb)) (hc : PE X c (lE X.K wc))
    (hm : lastMarks [op, op'] [b, c] = false := by with_unfolding_all rfl) : PE X (.Compare a [op, op'] [b, c] pos) (lE X.K (wCh f g wa wb wc)) := (pe_chain ho ho' ha hb hc hm).mo fun σ H Q q => lch hs hs' q
theorem t_ch (ho : OpR X (compareOp op) r) (hs : SndOp X.K r f) (ho' : OpR X (compareOp op') r') (hs' : SndOp X.K r' g) (ha : PE X a (lE X.K wa)) (hb : PE X b (lE X.K wb)) (hc : PE X c (lE X.K wc))
    (hm : lastMarks [op, op'] [b, c] = false := by with_unfolding_all rfl) : PT X (.Compare a [op, op'] [b, c] pos) (lT X.K (wB (wCh f g wa wb wc))) := (pt_chain ho ho' ha hb hc hm).mo fun σ H Q q => by
  obtain ⟨G, en, I, Q2, o, q2, k⟩ := ltst q
  exact lch hs hs' ⟨G, en, I, Q2, o, q2, k⟩
/-! ### built-ins -/
def dLen : List D → D → Prop
  | [.list xs], z => z = .int xs.length
  | [.tuple xs], z => z = .int xs.length
  | [.str x], z => x.length ≤ sizeLine ∧ z = .int x.length
  | _, _ => False
def rLenD (K : PySem.W.Frag) : List V → Hp → VK → Prop := fun xs H Q => ∃ x n, xs = [x] ∧ LenV K x H n ∧ Q (.int n) H
theorem snd_len : SndCl K (rLenD K) dLen := by
  intro H I xs ds z iH hx hf Q k
  unfold dLen at hf
  split at hf
  · subst hf
    cases hx with
    | cons h t =>
      cases t; cases h with
      | lst h a => exact ⟨_, _, rfl, Or.inl ⟨_, SqL.of (iH _ _ h), (dpa_len a).symm⟩, k _ H I (Gr.rf iH) (.int _)⟩
  · subst hf
    cases hx with
    | cons h t =>
      cases t; cases h with
      | tup h a => exact ⟨_, _, rfl, Or.inr ⟨_, sqt_ex iH h, (dpa_len a).symm⟩, k _ H I (Gr.rf iH) (.int _)⟩
  · obtain ⟨hl, rfl⟩ := hf
    cases hx with
    | cons h t =>
      cases t; cases h
      exact ⟨_, _, rfl, ⟨hl, rfl⟩, k _ H I (Gr.rf iH) (.int _)⟩
  · exact hf.elim
def dIntOf : List D → D → Prop
  | [.int i], z => z = .int i
  | [.bool b], z => z = .int (if b then 1 else 0)
  | _, _ => False
def rIntD : List V → Hp → VK → Prop := fun xs H Q => (∃ i, xs = [.int i] ∧ Q (.int i) H) ∨ ∃ k, xs = [.bl k] ∧ Q (.int (if k then 1 else 0)) H
theorem snd_intOf : SndCl K rIntD dIntOf := by
  intro H I xs ds z iH hx hf Q k
  unfold dIntOf at hf
  split at hf
  · subst hf; cases hx with
    | cons h t => cases t; cases h; exact Or.inl ⟨_, rfl, k _ H I (Gr.rf iH) (.int _)⟩
  · subst hf; cases hx with
    | cons h t => cases t; cases h; exact Or.inr ⟨_, rfl, k _ H I (Gr.rf iH) (.int _)⟩
  · exact hf.elim
def dAbs : List D → D → Prop := fun xs z => ∃ i, xs = [.int i] ∧ z = .int (if i < 0 then -i else i)
theorem snd_abs : SndCl K (fun xs H Q => ∃ i, xs = [.int i] ∧ Q (.int (if i < 0 then -i else i)) H) dAbs := by
  rintro H I xs ds z iH hx ⟨i, rfl, rfl⟩ Q k
  cases hx with
  | cons h t => cases t; cases h; exact ⟨_, rfl, k _ H I (Gr.rf iH) (.int _)⟩
def dMax2 : List D → D → Prop := fun xs z => ∃ i j, xs = [.int i, .int j] ∧ z = .int (if j > i then j else i)
def dMin2 : List D → D → Prop := fun xs z => ∃ i j, xs = [.int i, .int j] ∧ z = .int (if j < i then j else i)
theorem snd_max2 : SndCl K (fun xs H Q => ∃ i j, xs = [.int i, .int j] ∧ Q (.int (if j > i then j else i)) H) dMax2 := by
  rintro H I xs ds z iH hx ⟨i, j, rfl, rfl⟩ Q k
  cases hx with
  | cons h t => cases t with
    | cons h2 t => cases t; cases h; cases h2; exact ⟨_, _, rfl, k _ H I (Gr.rf iH) (.int _)⟩
theorem snd_min2 : SndCl K (fun xs H Q => ∃ i j, xs = [.int i, .int j] ∧ Q (.int (if j < i then j else i)) H) dMin2 := by
  rintro H I xs ds z iH hx ⟨i, j, rfl, rfl⟩ Q k
  cases hx with
  | cons h t => cases t with
    | cons h2 t => cases t; cases h; cases h2; exact ⟨_, _, rfl, k _ H I (Gr.rf iH) (.int _)⟩
def dSum : List D → D → Prop := fun xs z => ∃ ns : List Int, xs = [.list (ns.map .int)] ∧ z = .int ns.sum
theorem snd_sum : SndCl K (rSum K) dSum := by
  rintro H I xs ds z iH hx ⟨ns, rfl, rfl⟩ Q k
  cases hx with
  | cons h t => cases t; cases h with
    | lst h a =>
      have e := dpa_ints_inv ns a
      subst e
      exact ⟨_, ns, rfl, SqL.of (iH _ _ h), k _ H I (Gr.rf iH) (.int _)⟩
def dAll : List D → D → Prop := fun xs z => ∃ bs : List Bool, xs = [.list (bs.map .bool)] ∧ z = .bool (bs.all id)
def dAny : List D → D → Prop := fun xs z => ∃ bs : List Bool, xs = [.list (bs.map .bool)] ∧ z = .bool (bs.any id)
theorem snd_all : SndCl K (rAll K) dAll := by
  rintro H I xs ds z iH hx ⟨ns, rfl, rfl⟩ Q k
  cases hx with
  | cons h t => cases t; cases h with
    | lst h a =>
      have e := dpa_bls_inv ns a
      subst e
      exact ⟨_, ns, rfl, SqL.of (iH _ _ h), k _ H I (Gr.rf iH) (.bl _)⟩
theorem snd_any : SndCl K (rAny K) dAny := by
  rintro H I xs ds z iH hx ⟨ns, rfl, rfl⟩ Q k
  cases hx with
  | cons h t => cases t; cases h with
    | lst h a =>
      have e := dpa_bls_inv ns a
      subst e
      exact ⟨_, ns, rfl, SqL.of (iH _ _ h), k _ H I (Gr.rf iH) (.bl _)⟩
def dTupOf : List D → D → Prop
  | [.list xs], z => z = .tuple xs
  | [.tuple xs], z => z = .tuple xs
  | _, _ => False
def rTupD (K : PySem.W.Frag) : List V → Hp → VK → Prop := fun xs H Q => ∃ p ys, xs = [.ref p] ∧ ((SqL K H p ys ∧ ∀ l, H l = none → Q (.ref l) (upd H l (.tup ys))) ∨ (SqT K H p ys ∧ Q (.ref p) H))
theorem snd_tupOf : SndCl K (rTupD K) dTupOf := by
  intro H I xs ds z iH hx hf Q k
  unfold dTupOf at hf
  split at hf
  · subst hf; cases hx with
    | cons h t => cases t; cases h with
      | lst h a => exact ⟨_, _, rfl, Or.inl ⟨SqL.of (iH _ _ h), fun l hl => fin_tup iH hl a k⟩⟩
  · subst hf; cases hx with
    | cons h t => cases t; cases h with
      | tup h a => exact ⟨_, _, rfl, Or.inr ⟨sqt_ex iH h, k _ H I (Gr.rf iH) (.tup h a)⟩⟩
  · exact hf.elim
def dListOf : List D → List D → Prop
  | [.list xs], z => z = xs
  | [.tuple xs], z => z = xs
  | _, _ => False
/-- isinstance: x of the type T -/
def tyName : D → String
  | .none => "NoneType"
  | .bool _ => "bool"
  | .int _ => "int"
  | .str _ => "str"
  | .list _ => "list"
  | .tuple _ => "tuple"
  | .dict _ => "dict"
def rGcdD : List V → Hp → VK → Prop := rGcd
def dGcd : List D → D → Prop := fun xs z => ∃ i j : Int, xs = [.int i, .int j] ∧ z = .int ((Nat.gcd i.natAbs j.natAbs : Nat) : Int)
theorem snd_gcd : SndCl K rGcd dGcd := by
  rintro H I xs ds z iH hx ⟨i, j, rfl, rfl⟩ Q k
  cases hx with
  | cons h t => cases t with
    | cons h2 t => cases t; cases h; cases h2; exact ⟨_, _, rfl, k _ H I (Gr.rf iH) (.int _)⟩
end
end Pd

set_option Elab.async false
set_option linter.all false
set_option maxRecDepth 100000
set_option maxHeartbeats 4000000
namespace Pd
open PySem PySem.Spec PyProof.Rows L2
section
variable {K : PySem.W.Frag} {X : Cx} {a b c e : Expr} {es : List Expr} {pos p p2 : Pos} {x : Str} {wa wb wc : WE}
/-! ### subscripts -/
theorem dpa_at {I : Hp} {vs : List V} {ds : List D} {i : Int} {z : D} (h : DaAll K I vs ds) (hz : atI ds i = some z) : ∃ v, atI vs i = some v ∧ Da K I v z := by
  unfold atI at hz ⊢
  rw [dpa_len h]
  cases q : ixN ds.length i with
  | none => rw [q] at hz; cases hz
  | some j =>
    rw [q] at hz
    exact dpa_get h hz
def dIx : D → D → D → Prop
  | .list xs, .int i, z => atI xs i = some z
  | .tuple xs, .int i, z => atI xs i = some z
  | _, _, _ => False
theorem snd_ix : SndOp K (rIx K) dIx := by
  intro H I x y d e z iH hx hy hf Q k
  unfold dIx at hf
  split at hf
  · cases hy
    cases hx with
    | lst h a =>
      obtain ⟨v, h1, h2⟩ := dpa_at a hf
      exact Or.inl ⟨_, _, _, v, rfl, rfl, SqL.of (iH _ _ h), h1, k v H I (Gr.rf iH) h2⟩
  · cases hy
    cases hx with
    | tup h a =>
      obtain ⟨v, h1, h2⟩ := dpa_at a hf
      exact Or.inr (Or.inl ⟨_, _, _, v, rfl, rfl, sqt_ex iH h, h1, k v H I (Gr.rf iH) h2⟩)
  · exact hf.elim
theorem d_ix (ha : PE X a (lE X.K wa)) (hb : PE X b (lE X.K wb)) (hs : PlainIx b := by exact fun _ _ => rfl) : PE X (.Subscript a b pos) (lE X.K (wOp dIx wa wb)) :=
  (pe_ix ix_seq ha hb hs).mo fun σ H Q q => lop snd_ix q
def cutA {α : Type} (xs : List α) (lo hi : Option Int) : List α := (xs.drop (HT.sIx xs.length 0 lo)).take (HT.sIx xs.length xs.length hi - HT.sIx xs.length 0 lo)
theorem dpa_cut {I : Hp} {vs : List V} {ds : List D} {lo hi : Option Int} (h : DaAll K I vs ds) : DaAll K I (cutV vs lo hi) (cutA ds lo hi) := by
  unfold cutV cutA
  rw [dpa_len h]
  exact dpa_take _ (dpa_drop _ h)
abbrev WO := En → (Option Int → En → Prop) → Prop
def lO (K : PySem.W.Frag) (w : WO) : TO := fun σ H Q => ∃ (G : Gh) (en : En) (I : Hp) (Q' : Option Int → En → Prop), Ok K G σ en H I ∧ w en Q' ∧
  ∀ o H' I' en', Ok K G σ en' H' I' → Ex I I' → Q' o en' → Q o H'
def wNoP : WO := fun en Q => Q none en
def wPart (w : WE) : WO := fun en Q => w en fun d e1 => ∃ i, d = .int i ∧ Q (some i) e1
theorem o_none : PO X none (lO X.K wNoP) := ⟨fun pins s σ H Q I h => po_none.run pins s σ H Q I (by obtain ⟨G, en, I, Q', o, q, k⟩ := h; exact k none H I en o (Ex.rf I) q)⟩
theorem o_some (h : PE X e (lE X.K wa)) : PO X (some e) (lO X.K (wPart wa)) := ⟨fun pins s σ H Q I h' => (po_some h).run pins s σ H Q I (by
  obtain ⟨G, en, I, Q', o, q, k⟩ := h'
  exact ⟨G, en, I, _, o, q, fun v H1 I1 e1 d o1 x1 dv ⟨i, hi, q1⟩ => ⟨i, by subst hi; exact dp_int dv, k (some i) H1 I1 e1 o1 x1 q1⟩⟩)⟩
def wSl (wa : WE) (wl wh : WO) : WE := fun en Q => wa en fun d e1 => wl e1 fun l e2 => wh e2 fun h e3 => (∃ xs, d = .list xs ∧ Q (.list (cutA xs l h)) e3) ∨ (∃ xs, d = .tuple xs ∧ Q (.tuple (cutA xs l h)) e3)
theorem d_sl {lo hi : Option Expr} {wl wh : WO} (ha : PE X a (lE X.K wa)) (hl : PO X lo (lO X.K wl)) (hh : PO X hi (lO X.K wh)) : PE X (.Subscript a (.Slice lo hi none p2) pos) (lE X.K (wSl wa wl wh)) :=
  (pe_slice (sl_list.or sl_tupA) ha hl hh).mo fun σ H Q ⟨G, en, I, Q', o, q, k⟩ => ⟨G, en, I, _, o, q, fun v H1 I1 e1 d o1 x1 dv q1 => ⟨G, e1, I1, _, o1, q1, fun l H2 I2 e2 o2 x2 q2 => ⟨G, e2, I2, _, o2, q2, fun h H3 I3 e3 o3 x3 q3 => by
    have dv3 := (dv.up x2).up x3
    have x := (x1.tr x2).tr x3
    rcases q3 with ⟨xs, rfl, q3⟩ | ⟨xs, rfl, q3⟩
    · cases dv3 with
      | lst hs ha => exact Or.inl ⟨_, _, rfl, SqL.of (o3.iH _ _ hs), fun p hp => fin_lst (ds := cutA xs l h) o3.iH hp (dpa_cut ha) fun v' H4 I4 g dz => k v' H4 I4 e3 _ (o3.gr g) (x.tr g.i) dz q3⟩
    · cases dv3 with
      | tup hs ha =>
        refine Or.inr ⟨_, _, rfl, sqt_ex o3.iH hs, fun hw => ?_, fun _ p hp => fin_tup (ds := cutA xs l h) o3.iH hp (dpa_cut ha) fun v' H4 I4 g dz => k v' H4 I4 e3 _ (o3.gr g) (x.tr g.i) dz q3⟩
        have e0 : cutA xs l h = xs := by
          unfold cutA
          rw [← dpa_len ha, hw.1, hw.2, List.drop_zero, Nat.sub_zero, dpa_len ha, List.take_length]
        rw [e0] at q3
        exact k _ H3 I3 e3 _ o3 x (.tup hs ha) q3⟩⟩⟩
/-- xs[::-1], a list -/
def wRev (wa : WE) : WA := fun en Q => wa en fun d e1 => ∃ xs, d = .list xs ∧ Q xs.reverse e1
theorem l_rev {k : Nat} {p1 p2 p3 : Pos} (ha : PE X a (lE X.K wa)) : PE X (.Subscript a (.Slice none none (some (.UnaryOp .USub (.Constant (.int 1) k p1) p2)) p3) pos) (lL X.K (wRev wa)) :=
  (pe_revL ha).mo fun σ H Q ⟨G, en, I, Q', o, q, k⟩ => ⟨G, en, I, _, o, q, fun v H1 I1 e1 d o1 x1 dv ⟨xs, hd, q1⟩ => by
    subst hd
    cases dv with
    | lst hs ha => exact ⟨_, _, rfl, SqL.of (o1.iH _ _ hs), fun p hp => k p _ H1 I1 e1 _ o1 x1 hp (dpa_rev ha) q1⟩⟩
def wListOf (w : WA) : WA := fun en Q => w en fun ds e1 => ∃ z, dListOf ds z ∧ Q z e1
theorem l_listOf {w : WA} (hm : X.mg "list" = none) (ha : PA X (e :: es) (lA X.K w)) (hg : Gl X "list" := by rfl)
    (he : starEach (e :: es) X.env = (false, eval e X.env) :: starEach es X.env := by rfl) (hpl : (backTo pos (starEach es X.env)).any (·.1) = false := by rfl) :
    PE X (.Call (.Name "list" p) (e :: es) [] pos) (lL X.K (wListOf w)) :=
  (pe_callTy call_list_of hg hm (by decide +kernel) ha (by decide) (by decide) he hpl).mo fun σ H Q ⟨G, en, I, Q', o, q, k⟩ => ⟨G, en, I, _, o, q, fun vs H1 I1 e1 ds o1 x1 dvs ⟨z, hz, q1⟩ => by
    unfold dListOf at hz
    split at hz
    · subst hz
      cases dvs with
      | cons h t => cases t; cases h with
        | lst hs ha => exact ⟨_, _, rfl, Or.inl (SqL.of (o1.iH _ _ hs)), fun l hl => k l _ H1 I1 e1 _ o1 x1 hl ha q1⟩
    · subst hz
      cases dvs with
      | cons h t => cases t; cases h with
        | tup hs ha => exact ⟨_, _, rfl, Or.inr (sqt_ex o1.iH hs), fun l hl => k l _ H1 I1 e1 _ o1 x1 hl ha q1⟩
    · exact hz.elim⟩
/-! ### isinstance -/
def wIsi (T : String) (wa : WE) : WE := fun en Q => wa en fun d e1 => ∃ r, kitB (tyName d) T = some r ∧ Q (.bool r) e1
theorem da_ty {H I : Hp} {v : V} {d : D} (iH : Ex I H) (h : Da K I v d) : TyX K H v (.type (tyName d)) := by
  cases h with
  | non => exact .base .non
  | bl b => exact .base (.bl b)
  | int i => exact .base (.int i)
  | str x => exact .base (.str x)
  | lst h a => exact .base (.lst (iH _ _ h))
  | dic h => exact .base (.dK (iH _ _ h))
  | tup h a =>
    rcases sqt_ex iH h with (h | ⟨o, h⟩) | ⟨o, its, n, h1, h2, h3, h4, h5⟩
    · exact .base (.tup h)
    · exact .fTuple h
    · exact .kTuple h1 h2
theorem d_isi {T : Str} {T' : String} (hm : X.mg "isinstance" = none) (hmT : X.mg T = none) (hT : bootBuiltins T = some (.type T')) (ha : PE X a (lE X.K wa)) (hg : Gl X "isinstance" := by rfl) (hgT : Gl X T := by rfl) (hn : T ≠ "__name__" := by decide) (hdb : (T == ("__debug__" : Str)) = false := by decide)
    (he : starEach (a :: [.Name T p2]) X.env = (false, eval a X.env) :: starEach [.Name T p2] X.env := by rfl) (he2 : starEach (.Name T p2 :: []) X.env = (false, eval (.Name T p2) X.env) :: starEach [] X.env := by rfl) (hpl : (backTo pos (starEach [.Name T p2] X.env)).any (·.1) = false := by rfl) :
    PE X (.Call (.Name "isinstance" p) [a, .Name T p2] [] pos) (lE X.K (wIsi T' wa)) :=
  (pe_callB call_isi hg hm (by decide +kernel) (pa_cons ha (pa_cons (pe_bltn (v := .ty T') hgT hmT hT rfl hn hdb) pa_nil he2) he) (by decide) (by decide) he hpl).mo fun σ H Q ⟨G, en, I, Q', o, q, k⟩ => ⟨G, en, I, _, o, q, fun v H1 I1 e1 d o1 x1 dv ⟨r, hr, q1⟩ => by
    exact ⟨v, .ty T', .type (tyName d), .type T', r, rfl, .ty T', da_ty o1.iH dv, kit_ty hr, k (.bl r) H1 I1 e1 _ o1 x1 (.bl r) q1⟩⟩
/-! ### one's own list, read and written -/
def Flat : D → Prop
  | .none | .bool _ | .int _ | .str _ => True
  | _ => False
theorem flat_any {I J : Hp} {v : V} {d : D} (h : Da K I v d) (f : Flat d) : Da K J v d := by
  cases h with
  | non => exact .non
  | bl b => exact .bl b
  | int i => exact .int i
  | str x => exact .str x
  | lst h a => exact f.elim
  | tup h a => exact f.elim
  | dic h => exact f.elim
/-- the region with one's own list within -/
theorem Ok.withOwn {G : Gh} {σ : Sg} {en : En} {H I : Hp} (o : Ok K G σ en H I) {i : Nat} {ds : List D} (h : en[i]? = some (.own ds)) : ∃ l vs, σ[i]? = some (some (.ref l)) ∧ H l = some (.lst vs) ∧ Ex I (upd I l (.lst vs)) ∧ Ex (upd I l (.lst vs)) H ∧ Da K (upd I l (.lst vs)) (.ref l) (.list ds) := by
  obtain ⟨l, vs, h1, h2, h3, h4⟩ := o.own h
  have e1 : Ex I (upd I l (.lst vs)) := Ex.up h2
  refine ⟨l, vs, h1, h3, e1, fun a u h => ?_, .lst upd_same (h4.up e1)⟩
  by_cases q : a = l
  · subst q; rw [upd_same] at h; rw [h3]; exact h
  · rw [upd_ne q] at h; exact o.iH a u h
def wOpO (i : Nat) (f : D → D → D → Prop) (wb : WE) : WE := fun en Q => (∃ ds, en[i]? = some (.own ds)) ∧ wb en fun y e1 => ∃ ds z, e1[i]? = some (.own ds) ∧ f (.list ds) y z ∧ Flat z ∧ Q z e1
def wOpR (i : Nat) (f : D → D → D → Prop) (wa : WE) : WE := fun en Q => wa en fun x e1 => ∃ ds z, e1[i]? = some (.own ds) ∧ f x (.list ds) z ∧ Flat z ∧ Q z e1
def wClO (i : Nat) (g : List D → D → Prop) : WE := fun en Q => ∃ ds z, en[i]? = some (.own ds) ∧ g [.list ds] z ∧ Flat z ∧ Q z en
theorem ok_same {G : Gh} {σ : Sg} {en : En} {H I H' I' J : Hp} (o : Ok K G σ en H I) (g : Gr H J H' I') (e : Ex I J) : Ok K G σ en H' I := o.grow g.h (Ex.rf I) (o.iH.tr g.h) fun a h1 h2 => absurd h2 h1
theorem lopO {r : R2} {f : D → D → D → Prop} {i : Nat} (h : SndOp X.K r f) {σ : Sg} {H : Hp} {Q : VK} (q : lE X.K (wOpO i f wb) σ H Q) : tOp r (tVar i) (lE X.K wb) σ H Q := by
  obtain ⟨G, en, I, Q', o, ⟨⟨ds0, hi⟩, q⟩, k⟩ := q
  obtain ⟨l, vs0, r1, _⟩ := o.own hi
  refine ⟨.ref l, r1, G, en, I, _, o, q, fun u H2 I2 e2 d2 o2 x2 du ⟨ds, z, hd, fz, fl, q2⟩ => ?_⟩
  obtain ⟨l', vs, s1, s2, s3, s4, s5⟩ := o2.withOwn hd
  rw [r1] at s1
  have q5 : l = l' := by injection s1 with s1; injection s1 with s1; injection s1
  subst q5
  exact h H2 _ (.ref l) u (.list ds) d2 z s4 s5 (du.up s3) fz Q fun v' H3 I3 g dz => k v' H3 I2 e2 z (ok_same o2 g s3) x2 (flat_any dz fl) q2
theorem lopR {r : R2} {f : D → D → D → Prop} {i : Nat} (h : SndOp X.K r f) {σ : Sg} {H : Hp} {Q : VK} (q : lE X.K (wOpR i f wa) σ H Q) : tOp r (lE X.K wa) (tVar i) σ H Q := by
  obtain ⟨G, en, I, Q', o, q, k⟩ := q
  refine ⟨G, en, I, _, o, q, fun u H2 I2 e2 d2 o2 x2 du ⟨ds, z, hd, fz, fl, q2⟩ => ?_⟩
  obtain ⟨l, vs, s1, s2, s3, s4, s5⟩ := o2.withOwn hd
  exact ⟨.ref l, s1, h H2 _ u (.ref l) d2 (.list ds) z s4 (du.up s3) s5 fz Q fun v' H3 I3 g dz => k v' H3 I2 e2 z (ok_same o2 g s3) x2 (flat_any dz fl) q2⟩
theorem d_ixO {i : Nat} (ha : PE X a (tVar i)) (hb : PE X b (lE X.K wb)) (hs : PlainIx b := by exact fun _ _ => rfl) : PE X (.Subscript a b pos) (lE X.K (wOpO i dIx wb)) :=
  (pe_ix ix_seq ha hb hs).mo fun σ H Q q => lopO snd_ix q
theorem d_cmpO {op : CmpOp} {r : R2} {f : D → D → D → Prop} {i : Nat} (ho : OpR X (compareOp op) r) (hs : SndOp X.K r f) (ha : PE X a (tVar i)) (hb : PE X b (lE X.K wb)) (hm : behindInMarks op b = false) : PE X (.Compare a [op] [b] pos) (lE X.K (wOpO i f wb)) :=
  (pe_cmpR ho ha hb hm).mo fun σ H Q q => lopO hs q
theorem t_cmpO {op : CmpOp} {r : R2} {f : D → D → D → Prop} {i : Nat} (ho : OpR X (compareOp op) r) (hs : SndOp X.K r f) (ha : PE X a (tVar i)) (hb : PE X b (lE X.K wb)) (hm : behindInMarks op b = false) : PT X (.Compare a [op] [b] pos) (lT X.K (wB (wOpO i f wb))) :=
  (pt_cmpR ho ha hb hm).mo fun σ H Q q => by
    obtain ⟨G, en, I, Q2, o, q2, k⟩ := ltst q
    exact lopO hs ⟨G, en, I, Q2, o, q2, k⟩
theorem d_cmpR {op : CmpOp} {r : R2} {f : D → D → D → Prop} {i : Nat} (ho : OpR X (compareOp op) r) (hs : SndOp X.K r f) (ha : PE X a (lE X.K wa)) (hb : PE X b (tVar i)) (hm : behindInMarks op b = false) : PE X (.Compare a [op] [b] pos) (lE X.K (wOpR i f wa)) :=
  (pe_cmpR ho ha hb hm).mo fun σ H Q q => lopR hs q
theorem t_cmpR {op : CmpOp} {r : R2} {f : D → D → D → Prop} {i : Nat} (ho : OpR X (compareOp op) r) (hs : SndOp X.K r f) (ha : PE X a (lE X.K wa)) (hb : PE X b (tVar i)) (hm : behindInMarks op b = false) : PT X (.Compare a [op] [b] pos) (lT X.K (wB (wOpR i f wa))) :=
  (pt_cmpR ho ha hb hm).mo fun σ H Q q => by
    obtain ⟨G, en, I, Q2, o, q2, k⟩ := ltst q
    exact lopR hs ⟨G, en, I, Q2, o, q2, k⟩
theorem d_cbO {id : String} {r : List V → Hp → VK → Prop} {g : List D → D → Prop} {i : Nat} (hc : CallR X (.builtin id) r) (hs : SndCl X.K r g) (hm : X.mg x = none) (hv : bootBuiltins x = some (.builtin id)) (ha : PE X e (tVar i)) (hg : Gl X x := by rfl)
    (hn : x ≠ "__name__" := by decide) (hdb : (x == ("__debug__" : Str)) = false := by decide)
    (he : starEach (e :: []) X.env = (false, eval e X.env) :: starEach [] X.env := by rfl) (hpl : (backTo pos (starEach [] X.env)).any (·.1) = false := by rfl) : PE X (.Call (.Name x p) [e] [] pos) (lE X.K (wClO i g)) :=
  (pe_callB hc hg hm hv (pa_cons ha pa_nil he) hn hdb he hpl).mo fun σ H Q ⟨G, en, I, Q', o, ⟨ds, z, hd, fz, fl, q⟩, k⟩ => by
    obtain ⟨l, vs, s1, s2, s3, s4, s5⟩ := o.withOwn hd
    exact ⟨.ref l, s1, hs H _ [.ref l] [.list ds] z s4 (.cons s5 .nil) fz Q fun v' H3 I3 g dz => k v' H3 I en z (ok_same o g s3) (Ex.rf I) (flat_any dz fl) q⟩
end
section
variable {X : Cx} {e o idx : Expr} {st : Stmt} {sts : List Stmt} {pos p1 p2 : Pos} {t u : WS} {w wi : WE} {x : Str} {i : Nat}
/-- xs.append(e) -/
def wApp (i : Nat) (w : WE) : WS := fun R en => (∃ ds, en[i]? = some (.own ds)) ∧ w en fun d e1 => ∃ ds, e1[i]? = some (.own ds) ∧ ds.length < sizeLine ∧ R.nx (e1.set i (.own (ds ++ [d])))
theorem s_app (ho : PE X o (tVar i)) (he : PE X e (lE X.K w))
    (hs : swapsWith (.Call (.Attribute o "append" p1) [e] [] p2) none pos.line X.env = pure false := by rfl)
    (pe : PE X (.Call (.Attribute o "append" p1) [e] [] p2) (tBM X.K "list" rAppend (tVar i) (tCons (lE X.K w) tNil)) := by exact (pe_bm PySem.F.plainAttrs_list PySem.F.slot_list_append PySem.F.type_list_append mt_append (by assumption) (pa_cons (by assumption) pa_nil))) :
    PS X (.Expr (.Call (.Attribute o "append" p1) [e] [] p2) pos) (lS X.K (wApp i w)) :=
  (ps_expr pe hs).mo fun R σ H ⟨G, en, I, R', ok, ⟨⟨ds0, h0⟩, q⟩, k⟩ => by
    obtain ⟨l, vs0, r1, r2, r3, r4⟩ := ok.own h0
    refine ⟨.ref l, r1, Or.inl ⟨rfl, vs0, SqL.of r3⟩, G, en, I, _, ok, q, fun v H1 I1 e1 d o1 x1 dv ⟨ds, hd, hz, q1⟩ => ?_⟩
    obtain ⟨l', vs, s1, s2, s3, s4⟩ := o1.own hd
    rw [r1] at s1
    have q5 : l = l' := by injection s1 with s1; injection s1 with s1; injection s1
    subst q5
    refine ⟨l, vs, v, rfl, rfl, s3, by rw [dpa_len s4]; exact hz, ?_⟩
    refine k.1 σ _ I1 _ (o1.turn (H' := upd H1 l (.lst (vs ++ [v]))) (vs := vs ++ [v]) ⟨r1, ds, hd⟩ (fun a u ha h => by rw [upd_ne ha]; exact h) (Ex.rf I1) (fun a u h => ?_) (fun a h1 h2 => absurd h2 h1) upd_same (dpa_app s4 (.cons dv .nil))) q1
    have : a ≠ l := fun ea => by subst ea; rw [s2] at h; cases h
    rw [upd_ne this]; exact o1.iH a u h
/-- xs[k] = e -/
def wSetIt (i : Nat) (wi w : WE) : WS := fun R en => w en fun d e1 => (∃ ds, e1[i]? = some (.own ds)) ∧ wi e1 fun k e2 => ∃ ds m j, e2[i]? = some (.own ds) ∧ k = .int m ∧ ixN ds.length m = some j ∧ R.nx (e2.set i (.own (ds.set j d)))
theorem s_setIt (ps : PS X st (tAsg (lE X.K w) (gSub (tVar i) (lE X.K wi) rSetL))) : PS X st (lS X.K (wSetIt i wi w)) :=
  ps.mo fun R σ H ⟨G, en, I, R', ok, q, k⟩ => ⟨G, en, I, _, ok, q, fun v H1 I1 e1 d o1 x1 dv ⟨⟨ds0, h0⟩, q1⟩ => by
    obtain ⟨l, vs0, r1, r2, r3, r4⟩ := o1.own h0
    refine ⟨.ref l, r1, G, e1, I1, _, o1, q1, fun m H2 I2 e2 dm o2 x2 dvm ⟨ds, mm, j, hd, hm, hj, q2⟩ => ?_⟩
    subst hm
    obtain ⟨l', vs, s1, s2, s3, s4⟩ := o2.own hd
    rw [r1] at s1
    have q5 : l = l' := by injection s1 with s1; injection s1 with s1; injection s1
    subst q5
    refine ⟨l, vs, mm, j, rfl, dp_int dvm, s3, by rw [dpa_len s4]; exact hj, ?_⟩
    refine k.1 σ _ I2 _ (o2.turn (H' := upd H2 l (.lst (vs.set j v))) (vs := vs.set j v) ⟨r1, ds, hd⟩ (fun a u ha h => by rw [upd_ne ha]; exact h) (Ex.rf I2) (fun a u h => ?_) (fun a h1 h2 => absurd h2 h1) upd_same (dpa_set j s4 (dv.up x2))) q2
    have : a ≠ l := fun ea => by subst ea; rw [s2] at h; cases h
    rw [upd_ne this]; exact o2.iH a u h⟩
/-- from here on slot i is data -/
def wFrz (i : Nat) (t : WS) : WS := fun R en => ∃ ds, en[i]? = some (.own ds) ∧ i ≠ 0 ∧ t R (en.set i (.imm (.list ds)))
theorem Ok.freeze {K : PySem.W.Frag} {G : Gh} {σ : Sg} {en : En} {H I : Hp} (o : Ok K G σ en H I) {i : Nat} {ds : List D} (h : en[i]? = some (.own ds)) (hi : i ≠ 0) : ∃ I', Ok K G σ (en.set i (.imm (.list ds))) H I' ∧ Ex I I' := by
  obtain ⟨l, vs, h1, h2, h3, h4⟩ := o.own h
  have ow : OwnAt σ en i l := ⟨h1, ds, h⟩
  have nj : G.J ≠ some l := fun e => hi (o.ds i 0 l ow (o.pj l e))
  have he : G.He l = none := (o.ml i l ow).resolve_left nj
  have e1 : Ex I (upd I l (.lst vs)) := Ex.up h2
  have own' : ∀ j b, OwnAt σ (en.set i (.imm (.list ds))) j b → i ≠ j ∧ OwnAt σ en j b := fun j b ⟨q1, es, q2⟩ => by
    rcases set_get q2 with ⟨e, q⟩ | ⟨ne, q3⟩
    · cases q
    · exact ⟨ne, q1, es, q3⟩
  refine ⟨upd I l (.lst vs), ⟨o.i0.tr e1, fun a u q => ?_, fun a q1 q2 => ?_, o.fr, by rw [List.length_set]; exact o.ln, fun j s q => ?_, fun j b q => o.ml j b (own' j b q).2, fun a b c q1 q2 => o.ds a b c (own' a c q1).2 (own' b c q2).2, fun b q => ?_, fun p hp => ?_⟩, e1⟩
  · by_cases e : a = l
    · subst e; rw [upd_same] at q; rw [h3]; exact q
    · rw [upd_ne e] at q; exact o.iH a u q
  · have : a ≠ l := fun e => by subst e; exact q1 he
    rw [upd_ne this]; exact o.nw a q1 q2
  · rcases set_get q with ⟨e, q2⟩ | ⟨ne, q2⟩
    · subst e q2
      exact ⟨_, h1, .lst upd_same (h4.up e1)⟩
    · have r := o.sl j s q2
      cases s with
      | un => trivial
      | scr ns => obtain ⟨a, q1, q2⟩ := r; exact ⟨a, q1, sqs_ex e1 q2⟩
      | imm d =>
        obtain ⟨y, r1, r2⟩ := r
        exact ⟨y, r1, r2.up e1⟩
      | own es =>
        obtain ⟨l', vs', r1, r2, r3, r4⟩ := r
        have : l' ≠ l := fun e => by subst e; exact ne (o.ds i j l' ow ⟨r1, es, q2⟩)
        exact ⟨l', vs', r1, by rw [upd_ne this]; exact r2, r3, r4.up e1⟩
  · obtain ⟨r1, es, r2⟩ := o.pj b q
    exact ⟨r1, es, by rw [List.getElem?_set_ne hi]; exact r2⟩
  · obtain ⟨q1, q2, q3⟩ := o.pr p hp
    have : p.1 ≠ l := fun e => q3 i (by rw [e]; exact ow)
    exact ⟨q1, by rw [upd_ne this]; exact q2, fun j q => q3 j (own' j _ q).2⟩
theorem s_frz (h : PS X st (lS X.K t)) : PS X st (lS X.K (wFrz i t)) := h.mo fun R σ H ⟨G, en, I, R', ok, ⟨ds, hd, hi, q⟩, k⟩ => by
  obtain ⟨I', o', e'⟩ := ok.freeze hd hi
  exact lS_mk o' q k
theorem ss_frz (h : PSs X sts (lS X.K t)) : PSs X sts (lS X.K (wFrz i t)) := h.mo fun R σ H ⟨G, en, I, R', ok, ⟨ds, hd, hi, q⟩, k⟩ => by
  obtain ⟨I', o', e'⟩ := ok.freeze hd hi
  exact lS_mk o' q k
/-! ### while -/
def wWhile (tc : WT) (tb : WS) : WS := fun R en => ∃ W : Nat → En → Prop, (∃ m, W m en) ∧ ∀ m e, W m e → tc e fun b e1 => if b = true then tb { R with nx := fun e' => ∃ m', m' < m ∧ W m' e', ct := fun e' => ∃ m', m' < m ∧ W m' e', bk := R.nx } e1 else R.nx e1
theorem s_while {c : Expr} {body : List Stmt} {tc : WT} {tb : WS} (hp : PassesOwn (model X.prog X.w) X.A X.env X.xe) (hc : PT X c (lT X.K tc)) (hb : PSs X body (lS X.K tb)) : PS X (.While c body [] pos) (lS X.K (wWhile tc tb)) :=
  (ps_while hp hc hb).mo fun R σ H ⟨G, en, I, R', ok, ⟨W, ⟨m0, w0⟩, turn⟩, k⟩ => by
    refine ⟨fun m σ H => ∃ en I, Ok X.K G σ en H I ∧ W m en, ⟨m0, en, I, ok, w0⟩, fun m σ1 H1 ⟨e1, I1, o1, w1⟩ => ?_⟩
    refine ⟨G, e1, I1, _, o1, turn m e1 w1, fun b H2 I2 e2 o2 x2 q2 => ?_⟩
    cases b with
    | true =>
      refine ⟨fun σ H => ∃ m', m' < m ∧ ∃ en I, Ok X.K G σ en H I ∧ W m' en, fun _ _ h => h, G, e2, I2, _, o2, q2, ?_⟩
      exact ⟨fun σ' H' I' en' o' ⟨m', hm, w'⟩ => ⟨m', hm, en', I', o', w'⟩, k.2.1, fun σ' H' I' en' o' q' => k.1 σ' H' I' en' o' q', fun σ' H' I' en' o' ⟨m', hm, w'⟩ => ⟨m', hm, en', I', o', w'⟩⟩
    | false => exact k.1 σ1 H2 I2 e2 o2 q2
end
end Pd

set_option Elab.async false
set_option linter.all false
set_option maxRecDepth 100000
set_option maxHeartbeats 4000000
namespace Pd
open PySem PySem.Spec PyProof.Rows L2
/-! ### what is walked -/
/-- the iterator yields these data, turn by turn -/
structure ItD (K : PySem.W.Frag) (J : It) (I0 : Hp) (xs : List D) : Prop where
  go : ∀ i H I, Ex I0 I → Ex I H → i < xs.length → J.go i H
  stop : ∀ H I, Ex I0 I → Ex I H → J.stop xs.length H
  yld : ∀ i H I v H' d, Ex I0 I → Ex I H → xs[i]? = some d → J.yld i H v H' → ∃ I', Gr H I H' I' ∧ Da K I' v d
def lI (K : PySem.W.Frag) (w : WA) : TI := fun σ H R => ∃ (G : Gh) (en : En) (I : Hp) (Q' : List D → En → Prop), Ok K G σ en H I ∧ w en Q' ∧
  ∀ J H' I' en' xs, Ok K G σ en' H' I' → Ex I I' → ItD K J I' xs → Q' xs en' → R J H'
theorem _root_.L2.PI.mo {X : Cx} {tg e : Expr} {t t' : TI} (h : PI X tg e t) (m : ∀ σ H R, t' σ H R → t σ H R) : PI X tg e t' := ⟨fun pins s σ H Q I q => h.run pins s σ H Q I (m σ H Q q)⟩
section
variable {K : PySem.W.Frag} {X : Cx} {tg e a b : Expr} {es : List Expr} {pos p tpos : Pos} {w wb : WE} {wa : WA}
theorem itd_list {I : Hp} {a : Addr} {vs : List V} {ds : List D} (h : I a = some (.lst vs)) (hd : DaAll K I vs ds) : ItD K (Itl K a) I ds where
  go := fun i H I1 e1 e2 hi => by
    obtain ⟨v, hv, _⟩ := dpa_get hd (List.getElem?_eq_getElem hi)
    exact ⟨vs, v, SqL.of (e2 _ _ (e1 _ _ h)), hv⟩
  stop := fun H I1 e1 e2 => ⟨vs, SqL.of (e2 _ _ (e1 _ _ h)), by rw [dpa_len hd]; exact Nat.le_refl _⟩
  yld := fun i H I1 v H' d e1 e2 hd' ⟨eH, hv⟩ => by
    subst eH
    obtain ⟨v', hv', q⟩ := dpa_get hd hd'
    have := hv vs (SqL.of (e2 _ _ (e1 _ _ h)))
    rw [hv'] at this
    cases this
    exact ⟨I1, Gr.rf e2, q.up e1⟩
theorem itd_tup {I : Hp} {a : Addr} {vs : List V} {ds : List D} (h : SqT K I a vs) (hd : DaAll K I vs ds) : ItD K (Itt K a) I ds where
  go := fun i H I1 e1 e2 hi => by
    obtain ⟨v, hv, _⟩ := dpa_get hd (List.getElem?_eq_getElem hi)
    exact ⟨vs, v, sqt_ex (e1.tr e2) h, hv⟩
  stop := fun H I1 e1 e2 => ⟨vs, sqt_ex (e1.tr e2) h, by rw [dpa_len hd]; exact Nat.le_refl _⟩
  yld := fun i H I1 v H' d e1 e2 hd' ⟨eH, hv⟩ => by
    subst eH
    obtain ⟨v', hv', q⟩ := dpa_get hd hd'
    have := hv vs (sqt_ex (e1.tr e2) h)
    rw [hv'] at this
    cases this
    exact ⟨I1, Gr.rf e2, q.up e1⟩
def iSeq (K : PySem.W.Frag) (tl : TE) : TI := fun σ H R => tl σ H fun x H1 => ∃ a, x = .ref a ∧ (((∃ xs, SqL K H1 a xs) ∧ R (Itl K a) H1) ∨ ((∃ xs, SqT K H1 a xs) ∧ R (Itt K a) H1))
theorem pi_seq {l : Expr} {tl : TE} (hl : PE X l tl) : PI X tg l (iSeq X.K tl) := by
  refine ⟨fun pins s σ H R I h => ?_⟩
  refine thn (hl.run pins s σ H _ I h) fun v s1 ⟨x, H1, I1, r1, q1⟩ => ?_
  obtain ⟨a, e, q⟩ := q1
  subst e
  cases r1
  rcases q with ⟨⟨xs, hq⟩, q⟩ | ⟨⟨xs, hq⟩, q⟩
  · obtain ⟨its, rv, p, hz⟩ := I1.list hq
    refine wpAny_pyIter_list p.isList ?_
    refine ⟨s1.heap.objs.size, [s1.heap.objs.size], _, _, H1, rfl, I1.kept (t' := s1.toks) fun b o e => Heap.get?_push_of_some _ e, turn_list a _, ⟨_, Heap.get?_push_size _ rfl, rfl, rfl⟩, fun b hb => ?_, q⟩
    have e : b = s1.heap.objs.size := by simpa using hb
    subst e
    exact I1.fpOk (Nat.le_refl _) (I1.hok.fresh (Nat.le_refl _))
  · obtain ⟨its, rv, p, hz⟩ := I1.tuple hq
    refine wpAny_pyIter_tuple (show s1.heap.IsTuple a its.toArray from p) ?_
    refine ⟨s1.heap.objs.size, [s1.heap.objs.size], _, _, H1, rfl, I1.kept (t' := s1.toks) fun b o e => Heap.get?_push_of_some _ e, turn_tuple a _, ⟨_, Heap.get?_push_size _ rfl, rfl, rfl⟩, fun b hb => ?_, q⟩
    have e : b = s1.heap.objs.size := by simpa using hb
    subst e
    exact I1.fpOk (Nat.le_refl _) (I1.hok.fresh (Nat.le_refl _))
/-- over a list or a tuple -/
def wSq (w : WE) : WA := fun en Q => w en fun d e1 => ∃ xs, (d = .list xs ∨ d = .tuple xs) ∧ Q xs e1
theorem i_seq (h : PE X e (lE X.K w)) : PI X tg e (lI X.K (wSq w)) :=
  (pi_seq h).mo fun σ H R ⟨G, en, I, Q', o, q, k⟩ => ⟨G, en, I, _, o, q, fun v H1 I1 e1 d o1 x1 dv ⟨xs, hd, q1⟩ => by
    rcases hd with rfl | rfl
    · cases dv with
      | lst hs ha => exact ⟨_, rfl, Or.inl ⟨⟨_, SqL.of (o1.iH _ _ hs)⟩, k _ H1 I1 e1 xs o1 x1 (itd_list hs ha) q1⟩⟩
    · cases dv with
      | tup hs ha => exact ⟨_, rfl, Or.inr ⟨⟨_, sqt_ex o1.iH hs⟩, k _ H1 I1 e1 xs o1 x1 (itd_tup hs ha) q1⟩⟩⟩
/-- the ints lo, lo + 1, .., n of them -/
def rngD (lo : Int) (n : Nat) : List D := (List.range n).map fun i => PyData.int (lo + (i : Nat))
theorem rngD_len (lo : Int) (n : Nat) : (rngD lo n).length = n := by unfold rngD; rw [List.length_map, List.length_range]
theorem rngD_get {lo : Int} {n i : Nat} {d : D} (h : (rngD lo n)[i]? = some d) : d = .int (lo + (i : Nat)) ∧ i < n := by
  unfold rngD at h
  rw [List.getElem?_map] at h
  cases q : (List.range n)[i]? with
  | none => rw [q] at h; cases h
  | some j =>
    rw [q] at h
    obtain ⟨h1, h2⟩ := List.getElem?_eq_some_iff.mp q
    rw [List.getElem_range] at h2
    subst h2
    cases h
    exact ⟨rfl, by simpa using h1⟩
theorem itd_rng {I : Hp} {lo : Int} {n : Nat} : ItD K (Itr lo n) I (rngD lo n) where
  go := fun i H I1 e1 e2 hi => by rw [rngD_len] at hi; exact hi
  stop := fun H I1 e1 e2 => by rw [rngD_len]; exact Nat.le_refl _
  yld := fun i H I1 v H' d e1 e2 hd ⟨eH, hv⟩ => by
    subst eH hv
    obtain ⟨h1, h2⟩ := rngD_get hd
    subst h1
    exact ⟨I1, Gr.rf e2, .int _⟩
def wRg1 (w : WA) : WA := fun en Q => w en fun ds e1 => ∃ j : Int, ds = [.int j] ∧ -(2 ^ 62) ≤ j ∧ j < 2 ^ 62 ∧ Q (rngD 0 j.toNat) e1
def wRg2 (w : WA) : WA := fun en Q => w en fun ds e1 => ∃ i j : Int, ds = [.int i, .int j] ∧ (-(2 ^ 62) ≤ i ∧ i < 2 ^ 62 ∧ -(2 ^ 62) ≤ j ∧ j < 2 ^ 62) ∧ Q (rngD i (j - i).toNat) e1
theorem i_rng1 (hm : X.mg "range" = none) (ha : PA X [a] (lA X.K wa)) (hg : Gl X "range" := by rfl) (hs : starEach [a] X.env = [(false, eval a X.env)] := by rfl) : PI X tg (.Call (.Name "range" p) [a] [] pos) (lI X.K (wRg1 wa)) :=
  (pi_range1 hg hm ha hs).mo fun σ H R ⟨G, en, I, Q', o, q, k⟩ => ⟨G, en, I, _, o, q, fun vs H1 I1 e1 ds o1 x1 dvs ⟨j, hd, h1, h2, q1⟩ => by
    subst hd
    cases dvs with
    | cons h t => cases t; cases h; exact ⟨j, rfl, h1, h2, k _ H1 I1 e1 _ o1 x1 itd_rng q1⟩⟩
theorem i_rng2 (hm : X.mg "range" = none) (ha : PA X [a, b] (lA X.K wa)) (hg : Gl X "range" := by rfl) (hs : starEach [a, b] X.env = [(false, eval a X.env), (false, eval b X.env)] := by rfl) (hs2 : starEach [b] X.env = [(false, eval b X.env)] := by rfl) : PI X tg (.Call (.Name "range" p) [a, b] [] pos) (lI X.K (wRg2 wa)) :=
  (pi_range2 hg hm ha hs hs2).mo fun σ H R ⟨G, en, I, Q', o, q, k⟩ => ⟨G, en, I, _, o, q, fun vs H1 I1 e1 ds o1 x1 dvs ⟨i, j, hd, h1, q1⟩ => by
    subst hd
    cases dvs with
    | cons h t => cases t with
      | cons h2 t => cases t; cases h; cases h2; exact ⟨i, j, rfl, h1, k _ H1 I1 e1 _ o1 x1 itd_rng q1⟩⟩
/-! ### targets -/
abbrev WG := D → En → (En → Prop) → Prop
/-- is: the slots that are stored -/
def lG (K : PySem.W.Frag) (is : List Nat) (w : WG) : TG := fun v σ H Q => ∃ (G : Gh) (en : En) (I : Hp) (d : D) (Q' : En → Prop), Ok K G σ en H I ∧ Da K I v d ∧ w d en Q' ∧
  ∀ σ' H' I' en', Ok K G σ' en' H' I' → Ex I I' → σ'.length = σ.length → (∀ j, j ∉ is → σ'[j]? = σ[j]?) → Q' en' → Q σ' H'
theorem _root_.L2.PG.mo {X : Cx} {tg : Expr} {t t' : TG} (h : PG X tg t) (m : ∀ v σ H Q, t' v σ H Q → t v σ H Q) : PG X tg t' := ⟨fun pins s σ H v u Q I r q => h.run pins s σ H v u Q I r (m v σ H Q q)⟩
def wgN (i : Nat) : WG := fun d en Q => (i ≠ 0 ∨ NotOwn en[i]?) ∧ Q (en.set i (.imm d))
theorem g_name {i : Nat} {x : Str} (hN : X.N.Nodup) (hi : X.N[i]? = some x) (hx : Loc X.env.scope x) (hf : X.fn x = true ∨ X.env.scope.names.lookup x = some .local := by first | exact .inl rfl | exact .inr rfl | assumption) : PG X (.Name x pos) (lG X.K [i] (wgN i)) :=
  (pg_name hN hi hx hf).mo fun v σ H Q ⟨G, en, I, d, Q', o, dv, ⟨hi, q⟩, k⟩ =>
    k _ H I _ (o.put dv (hi.imp id notOwn_ne)) (Ex.rf I) (by rw [List.length_set]) (fun j hj => by rw [List.getElem?_set_ne]; exact fun e => hj (by rw [e]; exact List.mem_singleton.mpr rfl)) q
abbrev WGs := List D → En → (En → Prop) → Prop
def lGs (K : PySem.W.Frag) (is : List Nat) (w : WGs) : TGs := fun vs σ H Q => ∃ (G : Gh) (en : En) (I : Hp) (ds : List D) (Q' : En → Prop), Ok K G σ en H I ∧ DaAll K I vs ds ∧ w ds en Q' ∧
  ∀ σ' H' I' en', Ok K G σ' en' H' I' → Ex I I' → σ'.length = σ.length → (∀ j, j ∉ is → σ'[j]? = σ[j]?) → Q' en' → Q σ' H'
def wgNil : WGs := fun ds en Q => ds = [] ∧ Q en
def wgCons (g : WG) (r : WGs) : WGs := fun ds en Q => ∃ d t, ds = d :: t ∧ g d en fun e1 => r t e1 Q
theorem gs_nil : PGs X [] (lGs X.K [] wgNil) := ⟨fun pins s σ H vs us Q I r h => pgs_nil.run pins s σ H vs us Q I r (by
  obtain ⟨G, en, I, ds, Q', o, dvs, ⟨hd, q⟩, k⟩ := h
  subst hd; cases dvs
  exact ⟨rfl, k σ H I en o (Ex.rf I) rfl (fun _ _ => rfl) q⟩)⟩
theorem gs_cons {is js : List Nat} {g : WG} {r : WGs} (h1 : PG X e (lG X.K is g)) (h2 : PGs X es (lGs X.K js r)) (hs : (assignEach (e :: es) X.env).map (·.2) = assign e X.env :: (assignEach es X.env).map (·.2) := by rfl) : PGs X (e :: es) (lGs X.K (is ++ js) (wgCons g r)) := ⟨fun pins s σ H vs us Q I rr h => (pgs_cons h1 h2 hs).run pins s σ H vs us Q I rr (by
  obtain ⟨G, en, I, ds, Q', o, dvs, ⟨d, t, hd, q⟩, k⟩ := h
  subst hd
  cases dvs with
  | cons dv dvs =>
    refine ⟨_, _, rfl, G, en, I, d, _, o, dv, q, fun σ1 H1 I1 e1 o1 x1 l1 k1 q1 => ?_⟩
    refine ⟨G, e1, I1, t, _, o1, dvs.up x1, q1, fun σ2 H2 I2 e2 o2 x2 l2 k2 q2 => ?_⟩
    exact k σ2 H2 I2 e2 o2 (x1.tr x2) (l2.trans l1) (fun j hj => (k2 j fun h => hj (List.mem_append_right _ h)).trans (k1 j fun h => hj (List.mem_append_left _ h))) q2)⟩
def wgT (n : Nat) (r : WGs) : WG := fun d en Q => ∃ ds, d = .tuple ds ∧ ds.length = n ∧ r ds en Q
theorem g_tup {is : List Nat} {k n : Nat} {r : WGs} (hc : X.calm = true) (h : PGs X es (lGs X.K is r)) (pg : PG X (.Tuple es k pos) (gTup X.K n (lGs X.K is r))) : PG X (.Tuple es k pos) (lG X.K is (wgT n r)) :=
  pg.mo fun v σ H Q ⟨G, en, I, d, Q', o, dv, ⟨ds, hd, hn, q⟩, kk⟩ => by
    subst hd
    cases dv with
    | tup hs ha => exact ⟨_, _, rfl, sqt_ex o.iH hs, by rw [dpa_len ha]; exact hn, G, en, I, ds, Q', o, ha, q, kk⟩
end
/-! ### for -/
def forW (g : WG) (b : WS) (R : Ed) : List D → En → Prop
  | [], en => R.nx en
  | x :: xs, en => g x en fun e1 => b { R with nx := forW g b R xs, ct := forW g b R xs, bk := R.nx } e1
def wFor (wi : WA) (g : WG) (b : WS) : WS := fun R en => wi en fun xs e1 => forW g b R xs e1
theorem Ok.base {K : PySem.W.Frag} {G : Gh} {σ σ1 : Sg} {en e1 : En} {H H1 I I1 : Hp} (o1 : Ok K G σ1 e1 H1 I1) (o : Ok K G σ en H I) (x : Ex I1 I) : Ok K { G with I0 := I1 } σ en H I :=
  ⟨x, o.iH, fun a h1 h2 => o.nw a h1 (o1.i0.no h2), o.fr, o.ln, o.sl, o.ml, o.ds, o.pj, o.pr⟩
theorem Ok.back {K : PySem.W.Frag} {G : Gh} {σ σ1 : Sg} {en e1 : En} {H H1 I I1 : Hp} (o1 : Ok K G σ1 e1 H1 I1) (o : Ok K { G with I0 := I1 } σ en H I) : Ok K G σ en H I ∧ Ex I1 I :=
  ⟨⟨o1.i0.tr o.i0, o.iH, fun a h1 h2 => o.nw a h1 (o1.nw a h1 h2), o.fr, o.ln, o.sl, o.ml, o.ds, o.pj, o.pr⟩, o.i0⟩
theorem s_for {X : Cx} {tg iter : Expr} {body : List Stmt} {pos : Pos} {wi : WA} {is : List Nat} {g : WG} {b : WS} (hp : PassesOwn (model X.prog X.w) X.A X.env X.xe) (hc : X.calm = true) (hi : PI X tg iter (lI X.K wi)) (hg : PG X tg (lG X.K is g)) (hb : PSs X body (lS X.K b))
    (hs : ∀ x, foldedSetIterable iter X.env x = pure x := by intro _; rfl) : PS X (.For tg iter body [] pos) (lS X.K (wFor wi g b)) :=
  (ps_for hp hc hi hg hb hs).mo fun R σ H ⟨G, en, I, R', ok, q, k⟩ => ⟨G, en, I, _, ok, q, fun J H1 I1 e1 xs o1 x1 it q1 => by
    refine ⟨fun i m σ H => m = xs.length - i ∧ i ≤ xs.length ∧ ∃ en I, Ok X.K { G with I0 := I1 } σ en H I ∧ forW g b R' (xs.drop i) en, ⟨xs.length, by omega, Nat.zero_le _, e1, I1, o1.base o1 (Ex.rf I1), q1⟩, ?_⟩
    rintro i m σ2 H2 ⟨hm, hi, e2, I2, o2, q2⟩
    by_cases hlt : i < xs.length
    · rw [List.drop_eq_getElem_cons hlt] at q2
      refine Or.inr ⟨it.go i H2 I2 o2.i0 o2.iH hlt, fun σ H => ∃ en I, Ok X.K { G with I0 := I1 } σ en H I ∧ forW g b R' (xs.drop (i + 1)) en, fun σ' H' h => ⟨xs.length - (i + 1), by omega, rfl, hlt, h⟩, fun v H3 y3 => ?_⟩
      obtain ⟨I3, g3, d3⟩ := it.yld i H2 I2 v H3 _ o2.i0 o2.iH (List.getElem?_eq_getElem hlt) y3
      refine ⟨{ G with I0 := I1 }, e2, I3, xs[i], _, o2.gr g3, d3, q2, fun σ4 H4 I4 e4 o4 x4 _ _ q4 => ?_⟩
      refine ⟨{ G with I0 := I1 }, e4, I4, _, o4, q4, fun σ' H' I' en' o' h => ⟨en', I', o', h⟩, fun v σ' H' I' en' d o' dv h => ?_, fun σ' H' I' en' o' h => ?_, fun σ' H' I' en' o' h => ⟨en', I', o', h⟩⟩
      · exact k.2.1 v σ' H' I' en' d (o1.back o').1 dv h
      · exact k.1 σ' H' I' en' (o1.back o').1 h
    · have e : i = xs.length := by omega
      subst e
      rw [List.drop_length] at q2
      exact Or.inl ⟨it.stop H2 I2 o2.i0 o2.iH, k.1 σ2 H2 I2 e2 (o1.back o2).1 q2⟩⟩
/-! ### list comprehensions -/
theorem _root_.L2.PTs.mo {X : Cx} {ifs : List Expr} {t t' : TT} (h : PTs X ifs t) (m : ∀ σ H Q, t' σ H Q → t σ H Q) : PTs X ifs t' := ⟨fun pins s σ H Q I q => h.run pins s σ H Q I (m σ H Q q)⟩
def wYes : WT := fun en Q => Q true en
theorem ts_nil {X : Cx} : PTs X [] (lT X.K wYes) := pts_nil.mo fun σ H Q ⟨G, en, I, Q', o, q, k⟩ => k true H I en o (Ex.rf I) q
theorem ts_one {X : Cx} {c : Expr} {t : WT} (h : PT X c (lT X.K t)) : PTs X [c] (lT X.K t) := pts_one h
/-- the slots vs forgotten -/
def wip : List Nat → En → En
  | [], en => en
  | v :: vs, en => (wip vs en).set v .un
theorem wip_get : ∀ {vs : List Nat} {en : En} {i : Nat} {s : Sl}, (wip vs en)[i]? = some s → (i ∈ vs ∧ s = .un) ∨ (i ∉ vs ∧ en[i]? = some s)
  | [], en, i, s, h => Or.inr ⟨by simp, h⟩
  | v :: vs, en, i, s, h => by
    rcases set_get h with ⟨e, q⟩ | ⟨ne, q⟩
    · exact Or.inl ⟨by rw [e]; exact List.mem_cons_self, q⟩
    · rcases wip_get q with ⟨h1, h2⟩ | ⟨h1, h2⟩
      · exact Or.inl ⟨List.mem_cons_of_mem _ h1, h2⟩
      · exact Or.inr ⟨fun h => (List.mem_cons.mp h).elim (fun e => ne e.symm) h1, h2⟩
/-- none of the slots vs holds the caller's list -/
def FreeS (en : En) (vs : List Nat) : Prop := ∀ v ∈ vs, v ≠ 0 ∨ NotOwn en[v]?
theorem Ok.wip {K : PySem.W.Frag} {G : Gh} {σ : Sg} {en : En} {H I : Hp} (o : Ok K G σ en H I) : ∀ {vs : List Nat}, FreeS en vs → Ok K G (wipe σ vs) (wip vs en) H I
  | [], _ => o
  | v :: vs, h => by
    have o1 := Ok.wip o (vs := vs) fun u hu => h u (List.mem_cons_of_mem _ hu)
    refine o1.forget ?_
    rcases h v List.mem_cons_self with q | q
    · exact Or.inl q
    · refine Or.inr fun ds e => ?_
      rcases wip_get e with ⟨_, e2⟩ | ⟨_, e2⟩
      · cases e2
      · rw [e2] at q; exact q
/-- the slots vs as they were -/
def bak (vs : List Nat) (en e : En) : En := (List.range e.length).map fun i => if i ∈ vs then en.getD i .un else e.getD i .un
def lcW (g : WG) (t : WT) (w : WE) (vs : List Nat) : List D → List D → En → (List D → En → Prop) → Prop
  | [], acc, e, Q => Q acc e
  | x :: xs, acc, e, Q => g x e fun e1 => t e1 fun b e2 => FreeS e2 vs ∧ if b = true then w e2 fun y e3 => FreeS e3 vs ∧ lcW g t w vs xs (acc ++ [y]) (wip vs e3) Q else lcW g t w vs xs acc (wip vs e2) Q
def wLc (wi : WA) (g : WG) (t : WT) (w : WE) (vs : List Nat) : WA := fun en Q => wi en fun xs e1 => FreeS e1 vs ∧ (∀ v ∈ vs, NotOwn e1[v]?) ∧ xs.length ≤ sizeLine ∧ lcW g t w vs xs [] (wip vs e1) fun ys e2 => Q ys (bak vs e1 e2)
theorem wipe_out {i : Nat} : ∀ {σ : Sg} {vs : List Nat}, i ∉ vs → (wipe σ vs)[i]? = σ[i]?
  | σ, [], _ => rfl
  | σ, v :: vs, hi => by
    show ((wipe σ vs).set v none)[i]? = σ[i]?
    rw [List.getElem?_set_ne fun e => hi (by rw [e]; exact List.mem_cons_self)]
    exact wipe_out fun q => hi (List.mem_cons_of_mem _ q)
theorem wipe_in {i : Nat} {σ : Sg} (hl : i < σ.length) : ∀ {vs : List Nat}, i ∈ vs → (wipe σ vs)[i]? = some none
  | [], h => by cases h
  | v :: vs, hi => by
    show ((wipe σ vs).set v none)[i]? = some none
    by_cases e : v = i
    · subst e; rw [List.getElem?_set_self]; rw [wipe_length]; exact hl
    · rw [List.getElem?_set_ne e]
      exact wipe_in hl ((List.mem_cons.mp hi).resolve_left fun q => e q.symm)
theorem wipe_of {σ σ' : Sg} (hl : σ'.length = σ.length) {vs : List Nat} (h : ∀ j, j ∉ vs → σ'[j]? = σ[j]?) : wipe σ' vs = wipe σ vs := by
  refine List.ext_getElem? fun i => ?_
  by_cases hi : i ∈ vs
  · by_cases hl2 : i < σ.length
    · rw [wipe_in (by omega) hi, wipe_in hl2 hi]
    · rw [List.getElem?_eq_none (by rw [wipe_length]; omega), List.getElem?_eq_none (by rw [wipe_length]; omega)]
  · rw [wipe_out hi, wipe_out hi, h i hi]
theorem bak_get {vs : List Nat} {en e : En} {i : Nat} {s : Sl} (h : (bak vs en e)[i]? = some s) : i < e.length ∧ ((i ∈ vs ∧ s = en.getD i .un) ∨ (i ∉ vs ∧ e[i]? = some s)) := by
  unfold bak at h
  rw [List.getElem?_map] at h
  cases q : (List.range e.length)[i]? with
  | none => rw [q] at h; cases h
  | some j =>
    rw [q] at h
    obtain ⟨h1, h2⟩ := List.getElem?_eq_some_iff.mp q
    rw [List.getElem_range] at h2
    subst h2
    rw [List.length_range] at h1
    refine ⟨h1, ?_⟩
    have h3 : (if i ∈ vs then en.getD i .un else e.getD i .un) = s := Option.some.inj h
    by_cases hi : i ∈ vs
    · rw [if_pos hi] at h3; exact Or.inl ⟨hi, h3.symm⟩
    · rw [if_neg hi] at h3
      refine Or.inr ⟨hi, ?_⟩
      rw [List.getElem?_eq_getElem h1]
      rw [List.getD_eq_getElem?_getD, List.getElem?_eq_getElem h1] at h3
      exact congrArg some h3
theorem Ok.bak {K : PySem.W.Frag} {G : Gh} {σ : Sg} {e1 e : En} {H1 I1 H I : Hp} {vs : List Nat} (o1 : Ok K G σ e1 H1 I1) (n : ∀ v ∈ vs, NotOwn e1[v]?) (o : Ok K G (wipe σ vs) e H I) (x : Ex I1 I) : Ok K G σ (bak vs e1 e) H I := by
  have hl : σ.length = e.length := by rw [← o.ln, wipe_length]
  have own' : ∀ i b, OwnAt σ (Pd.bak vs e1 e) i b → OwnAt (wipe σ vs) e i b := fun i b ⟨q1, es, q2⟩ => by
    rcases (bak_get q2).2 with ⟨h1, h2⟩ | ⟨h1, h2⟩
    · have q := n i h1
      have h3 : e1[i]? = some (.own es) := by
        rw [List.getD_eq_getElem?_getD] at h2
        cases z : e1[i]? with
        | none => rw [z] at h2; cases h2
        | some y => rw [z] at h2; exact congrArg some h2.symm
      rw [h3] at q; exact q.elim
    · exact ⟨by rw [wipe_out h1]; exact q1, es, h2⟩
  refine ⟨o.i0, o.iH, o.nw, o.fr, by unfold Pd.bak; rw [List.length_map, List.length_range]; exact hl, fun i s q => ?_, fun i b q => o.ml i b (own' i b q), fun a b c q1 q2 => o.ds a b c (own' a c q1) (own' b c q2), fun b q => ?_, fun p hp => ⟨(o.pr p hp).1, (o.pr p hp).2.1, fun j q => (o.pr p hp).2.2 j (own' j _ q)⟩⟩
  · obtain ⟨hlt, q⟩ := bak_get q
    rcases q with ⟨h1, h2⟩ | ⟨h1, h2⟩
    · have q := n i h1
      rw [List.getD_eq_getElem?_getD] at h2
      cases z : e1[i]? with
      | none => rw [z] at h2; subst h2; trivial
      | some y =>
        rw [z] at h2 q
        have h3 : s = y := h2
        subst h3
        have r := o1.sl i s z
        cases s with
        | un => trivial
        | scr ns => obtain ⟨a, q1, q2⟩ := r; exact ⟨a, q1, sqs_ex x q2⟩
        | imm d =>
          obtain ⟨v, r1, r2⟩ := r
          exact ⟨v, r1, r2.up x⟩
        | own es => exact q.elim
    · have r := o.sl i s h2
      rw [wipe_out h1] at r
      exact r
  · obtain ⟨q1, es, q2⟩ := o.pj b q
    obtain ⟨q3, q4⟩ := wipe_some q1
    refine ⟨q3, es, ?_⟩
    have hlt : 0 < e.length := (List.getElem?_eq_some_iff.mp q2).1
    unfold Pd.bak
    rw [List.getElem?_map, List.getElem?_eq_getElem (by rw [List.length_range]; exact hlt), List.getElem_range]
    show some (if 0 ∈ vs then e1.getD 0 .un else e.getD 0 .un) = _
    rw [if_neg q4, List.getD_eq_getElem?_getD, q2]
    rfl
def hid (H : Hp) (p : Addr) : Hp := fun b => if b = p then none else H b
theorem hid_ne {H : Hp} {p a : Addr} (h : a ≠ p) : hid H p a = H a := if_neg h
theorem hid_at {H : Hp} {p : Addr} : hid H p p = none := if_pos rfl
/-- a protected object that is new since the entry is taken out of sight -/
theorem Ok.drop {K : PySem.W.Frag} {G : Gh} {σ : Sg} {en : En} {H I : Hp} {P : List (Addr × HO)} {p : Addr} {u : HO} (o : Ok K { G with P := (p, u) :: P } σ en H I) (he : G.He p = none) (hP : ∀ q ∈ P, q.1 ≠ p) : Ok K { G with P := P } σ en (hid H p) I ∧ H = upd (hid H p) p u := by
  obtain ⟨h1, h2, h3⟩ := o.pr (p, u) List.mem_cons_self
  refine ⟨⟨o.i0, fun a v h => ?_, o.nw, fun a v h1 h2 => ?_, o.ln, fun j s q => ?_, o.ml, o.ds, o.pj, fun q hq => ?_⟩, ?_⟩
  · have e : a ≠ p := fun e => by rw [e, h2] at h; cases h
    rw [hid_ne e]; exact o.iH a v h
  · have h1' : G.He a = some v := h1
    have e : a ≠ p := fun e => by rw [e, he] at h1'; cases h1'
    rw [hid_ne e]; exact o.fr a v h1 h2
  · have r := o.sl j s q
    cases s with
    | un => trivial
    | scr ns => exact r
    | imm d => exact r
    | own es =>
      obtain ⟨l', vs', r1, r2, r3, r4⟩ := r
      have e : l' ≠ p := fun e => h3 j ⟨by rw [r1, e], es, q⟩
      exact ⟨l', vs', r1, r2, by rw [hid_ne e]; exact r3, r4⟩
  · obtain ⟨q1, q2, q3⟩ := o.pr q (List.mem_cons_of_mem _ hq)
    exact ⟨by rw [hid_ne (hP q hq)]; exact q1, q2, q3⟩
  · funext b
    by_cases e : b = p
    · rw [e, upd_same, h1]
    · rw [upd_ne e, hid_ne e]
theorem Ok.fresh {K : PySem.W.Frag} {G : Gh} {σ : Sg} {en : En} {H I : Hp} (o : Ok K G σ en H I) {p : Addr} (hp : H p = none) : G.J ≠ some p ∧ G.He p = none ∧ ∀ q ∈ G.P, q.1 ≠ p := by
  have nj : G.J ≠ some p := fun hj => by
    obtain ⟨r1, es, r2⟩ := o.pj p hj
    obtain ⟨l', vs', r3, r4, r5, r6⟩ := o.own r2
    rw [r1] at r3
    have q5 : p = l' := by injection r3 with r3; injection r3 with r3; injection r3
    rw [← q5, hp] at r5; cases r5
  refine ⟨nj, ?_, fun q hq e => by rw [← e, (o.pr q hq).1] at hp; cases hp⟩
  cases q : G.He p with
  | none => rfl
  | some u => rw [o.fr p u q nj] at hp; cases hp
theorem lcm {K : PySem.W.Frag} {wi : WA} {is : List Nat} {g : WG} {t : WT} {w : WE} {vs : List Nat} {σ : Sg} {H : Hp} {Q : VK} (his : ∀ i ∈ is, i ∈ vs) (h : lL K (wLc wi g t w vs) σ H Q) : tLc (lI K wi) (lG K is g) (lT K t) (lE K w) vs σ H Q := by
  obtain ⟨G, en, I, Q', o, q, k⟩ := h
  refine ⟨G, en, I, _, o, q, fun J H1 I1 e1 xs o1 x1 it ⟨fr1, no1, hz, q1⟩ => fun D hD => ?_⟩
  obtain ⟨nj, hn, hP⟩ := o1.fresh hD
  have id2 : wipe (wipe σ vs) vs = wipe σ vs := wipe_of (wipe_length σ vs) fun j hj => wipe_out hj
  refine ⟨fun i m H => m = xs.length - i ∧ i ≤ xs.length ∧ ∃ e I acc vacc, Ok K { G with I0 := I1, P := (D, .lst vacc) :: G.P } (wipe σ vs) e H I ∧ DaAll K I vacc acc ∧ acc.length ≤ i ∧ lcW g t w vs (xs.drop i) acc e fun ys e2 => Q' ys (bak vs e1 e2),
    ⟨xs.length, by omega, Nat.zero_le _, wip vs e1, I1, [], [], ((o1.base o1 (Ex.rf I1)).wip fr1).prot hD, .nil, Nat.le_refl _, q1⟩, ?_⟩
  rintro i m H2 ⟨hm, hi, e2, I2, acc, vacc, o2, da2, hacc, q2⟩
  by_cases hlt : i < xs.length
  · rw [List.drop_eq_getElem_cons hlt] at q2
    refine Or.inr ⟨it.go i H2 I2 o2.i0 o2.iH hlt, fun H => ∃ e I acc vacc, Ok K { G with I0 := I1, P := (D, .lst vacc) :: G.P } (wipe σ vs) e H I ∧ DaAll K I vacc acc ∧ acc.length ≤ i + 1 ∧ lcW g t w vs (xs.drop (i + 1)) acc e fun ys e2 => Q' ys (bak vs e1 e2),
      fun H' h => ⟨xs.length - (i + 1), by omega, rfl, hlt, h⟩, fun v H3 y3 => ?_⟩
    obtain ⟨I3, g3, d3⟩ := it.yld i H2 I2 v H3 _ o2.i0 o2.iH (List.getElem?_eq_getElem hlt) y3
    refine ⟨_, e2, I3, xs[i], _, o2.gr g3, d3, q2, fun σ4 H4 I4 e4 o4 x4 l4 k4 q4 => ?_⟩
    have e4' : wipe σ4 vs = wipe σ vs := (wipe_of l4 fun j hj => k4 j fun h => hj (his j h)).trans id2
    refine ⟨e4', _, e4, I4, _, o4, q4, fun b H5 I5 e5 o5 x5 ⟨f5, q5⟩ => ?_⟩
    cases b with
    | false =>
      have o5' := o5.wip f5
      rw [e4'] at o5'
      exact ⟨wip vs e5, I5, acc, vacc, o5', ((da2.up g3.i).up x4).up x5, by omega, q5⟩
    | true =>
      refine ⟨_, e5, I5, _, o5, q5, fun y H6 I6 e6 d6 o6 x6 dv6 ⟨f6, q6⟩ => ?_⟩
      have da6 := (((da2.up g3.i).up x4).up x5).up x6
      refine ⟨vacc, (o6.pr _ List.mem_cons_self).1, by rw [dpa_len da6]; omega, ?_⟩
      have o6' := o6.wip f6
      rw [e4'] at o6'
      exact ⟨wip vs e6, I6, acc ++ [d6], vacc ++ [y], Ok.rewr (G := { G with I0 := I1 }) o6' nj hn hP, dpa_app da6 (.cons dv6 .nil), by rw [List.length_append, List.length_singleton]; omega, q6⟩
  · have e : i = xs.length := by omega
    subst e
    rw [List.drop_length] at q2
    refine Or.inl ⟨it.stop H2 I2 o2.i0 o2.iH, ?_⟩
    obtain ⟨o3, eH⟩ := Ok.drop (G := { G with I0 := I1 }) o2 hn hP
    rw [eH]
    have o3' : Ok K { G with I0 := I1 } (wipe σ vs) e2 (hid H2 D) I2 := o3
    obtain ⟨o4, x4⟩ := o1.back o3'
    exact k D vacc _ I2 _ acc (o1.bak no1 o4 x4) (x1.tr x4) hid_at da2 q2
theorem l_lc {X : Cx} {elt tg iter : Expr} {ifs : List Expr} {scope : Scope} {own : List (Str × Nat)} {pos : Pos} {wi : WA} {is : List Nat} {g : WG} {t : WT} {w : WE} (hc : X.calm = true) (hN : X.N.Nodup) (hi : PI X tg iter (lI X.K wi)) (ok : BlkOk X.N X.env.scope scope own)
    (hg : ∀ (s : Shared) (H : Hp) (C : Addr) (cl : List (Str × Addr)) (fp : List Addr), PG (X.blk s H scope (compEnvC scope cl C X.env) fp) tg (lG X.K is g)) (ht : ∀ (s : Shared) (H : Hp) (C : Addr) (cl : List (Str × Addr)) (fp : List Addr), PTs (X.blk s H scope (compEnvC scope cl C X.env) fp) ifs (lT X.K t))
    (he : ∀ (s : Shared) (H : Hp) (C : Addr) (cl : List (Str × Addr)) (fp : List Addr), PE (X.blk s H scope (compEnvC scope cl C X.env) fp) elt (lE X.K w)) (hs : ∀ x, foldedSetIterable iter X.env x = pure x := by intro _; rfl)
    (his : ∀ i ∈ is, i ∈ own.map (·.2) := by decide) :
    PE X (.ListComp elt [⟨tg, iter, ifs, 0⟩] scope pos) (lL X.K (wLc wi g t w (own.map (·.2)))) :=
  (pe_lc hc hN hi ok hg ht he hs).mo fun σ H Q h => lcm his h
end Pd

set_option Elab.async false
set_option linter.all false
set_option maxRecDepth 100000
set_option maxHeartbeats 4000000
namespace Pd
open PySem PySem.Spec PyProof.Rows L2
section
variable {X : Cx}
/-- x = [..] on one line -/
theorem s_lc {i : Nat} {y : Str} {py : Pos} {elt tg iter : Expr} {ifs : List Expr} {scope : Scope} {own : List (Str × Nat)} {pos spos : Pos} {wi : WA} {is : List Nat} {g : WG} {t : WT} {w : WE} (hc : X.calm = true) (hN : X.N.Nodup) (hy : X.N[i]? = some y) (hyl : X.env.scope.names.lookup y = some .local)
    (hsw : swapsWith (.ListComp elt [⟨tg, iter, ifs, 0⟩] scope pos) (some (.Name y py)) spos.line X.env = pure true) (hi : PI X tg iter (lI X.K wi)) (ok : BlkOk X.N X.env.scope scope own)
    (hg : ∀ (s : Shared) (H : Hp) (C : Addr) (cl : List (Str × Addr)) (fp : List Addr), PG (X.blk s H scope (compEnvC scope cl C X.env) fp) tg (lG X.K is g)) (ht : ∀ (s : Shared) (H : Hp) (C : Addr) (cl : List (Str × Addr)) (fp : List Addr), PTs (X.blk s H scope (compEnvC scope cl C X.env) fp) ifs (lT X.K t))
    (he : ∀ (s : Shared) (H : Hp) (C : Addr) (cl : List (Str × Addr)) (fp : List Addr), PE (X.blk s H scope (compEnvC scope cl C X.env) fp) elt (lE X.K w)) (hs : ∀ x, foldedSetIterable iter X.env x = pure x := by intro _; rfl)
    (his : ∀ i ∈ is, i ∈ own.map (·.2) := by decide) :
    PS X (.Assign [.Name y py] (.ListComp elt [⟨tg, iter, ifs, 0⟩] scope pos) spos) (lS X.K (wSet i (wLe (wLc wi g t w (own.map (·.2)))))) :=
  (ps_setLc hc hN hy hyl hsw hi ok hg ht he hs).mo fun R σ H ⟨G, en, I, R', o, q, k⟩ => lcm his ⟨G, en, I, _, o, q, fun p vs H1 I1 e1 ds o1 x1 hp dvs ⟨hi, q1⟩ => by
    obtain ⟨o2, x2⟩ := o1.new (u := .lst vs) hp
    exact k.1 _ _ _ _ (o2.put (.lst upd_same (dvs.up x2)) (hi.imp id notOwn_ne)) q1⟩
theorem s_lcOwn {i : Nat} {y : Str} {py : Pos} {elt tg iter : Expr} {ifs : List Expr} {scope : Scope} {own : List (Str × Nat)} {pos spos : Pos} {wi : WA} {is : List Nat} {g : WG} {t : WT} {w : WE} (hc : X.calm = true) (hN : X.N.Nodup) (hy : X.N[i]? = some y) (hyl : X.env.scope.names.lookup y = some .local)
    (hsw : swapsWith (.ListComp elt [⟨tg, iter, ifs, 0⟩] scope pos) (some (.Name y py)) spos.line X.env = pure true) (hi : PI X tg iter (lI X.K wi)) (ok : BlkOk X.N X.env.scope scope own)
    (hg : ∀ (s : Shared) (H : Hp) (C : Addr) (cl : List (Str × Addr)) (fp : List Addr), PG (X.blk s H scope (compEnvC scope cl C X.env) fp) tg (lG X.K is g)) (ht : ∀ (s : Shared) (H : Hp) (C : Addr) (cl : List (Str × Addr)) (fp : List Addr), PTs (X.blk s H scope (compEnvC scope cl C X.env) fp) ifs (lT X.K t))
    (he : ∀ (s : Shared) (H : Hp) (C : Addr) (cl : List (Str × Addr)) (fp : List Addr), PE (X.blk s H scope (compEnvC scope cl C X.env) fp) elt (lE X.K w)) (hs : ∀ x, foldedSetIterable iter X.env x = pure x := by intro _; rfl)
    (his : ∀ i ∈ is, i ∈ own.map (·.2) := by decide) :
    PS X (.Assign [.Name y py] (.ListComp elt [⟨tg, iter, ifs, 0⟩] scope pos) spos) (lS X.K (wSetOwn i (wLc wi g t w (own.map (·.2))))) :=
  (ps_setLc hc hN hy hyl hsw hi ok hg ht he hs).mo fun R σ H ⟨G, en, I, R', o, q, k⟩ => lcm his ⟨G, en, I, _, o, q, fun p vs H1 I1 e1 ds o1 x1 hp dvs ⟨hi, q1⟩ => k.1 _ _ _ _ (o1.putOwn hp dvs hi) q1⟩
/-! ### a, b = e1, e2 -/
def wPar (i j : Nat) (wa wb : WE) : WS := fun R en => wa en fun x e1 => wb e1 fun y e2 => (i ≠ 0 ∨ NotOwn e2[i]?) ∧ (j ≠ 0 ∨ NotOwn (e2.set i (.imm x))[j]?) ∧ R.nx ((e2.set i (.imm x)).set j (.imm y))
def wParOO (i j : Nat) (wa wb : WA) : WS := fun R en => wa en fun x e1 => wb e1 fun y e2 => i ≠ 0 ∧ j ≠ 0 ∧ R.nx ((e2.set i (.own x)).set j (.own y))
def wParOI (i j : Nat) (wa : WA) (wb : WE) : WS := fun R en => wa en fun x e1 => wb e1 fun y e2 => i ≠ 0 ∧ j ≠ 0 ∧ R.nx ((e2.set i (.own x)).set j (.imm y))
def wParIO (i j : Nat) (wa : WE) (wb : WA) : WS := fun R en => wa en fun x e1 => wb e1 fun y e2 => i ≠ 0 ∧ j ≠ 0 ∧ R.nx ((e2.set i (.imm x)).set j (.own y))
variable {i j : Nat} {x y : Str} {a b : Expr} {px py pt pos pt2 : Pos} {kt k2 : Nat}
theorem s_par {wa wb : WE} (h : PS X (.Assign [.Tuple [.Name x px, .Name y py] kt pt] (.Tuple [a, b] k2 pt2) pos) (tPar i j (tCons (lE X.K wa) (tCons (lE X.K wb) tNil)))) :
    PS X (.Assign [.Tuple [.Name x px, .Name y py] kt pt] (.Tuple [a, b] k2 pt2) pos) (lS X.K (wPar i j wa wb)) :=
  h.mo fun R σ H ⟨G, en, I, R', o, q, k⟩ => ⟨G, en, I, _, o, q, fun v H1 I1 e1 d o1 x1 dv q1 => ⟨G, e1, I1, _, o1, q1, fun u H2 I2 e2 d2 o2 x2 du ⟨h1, h2, q2⟩ => ⟨v, u, rfl, k.1 _ H2 I2 _ ((o2.put (dv.up x2) (h1.imp id notOwn_ne)).put du (h2.imp id notOwn_ne)) q2⟩⟩⟩
theorem s_parOO {wa wb : WA} (h : PS X (.Assign [.Tuple [.Name x px, .Name y py] kt pt] (.Tuple [a, b] k2 pt2) pos) (tPar i j (tCons (lL X.K wa) (tCons (lL X.K wb) tNil)))) :
    PS X (.Assign [.Tuple [.Name x px, .Name y py] kt pt] (.Tuple [a, b] k2 pt2) pos) (lS X.K (wParOO i j wa wb)) :=
  h.mo fun R σ H ⟨G, en, I, R', o, q, k⟩ => ⟨G, en, I, _, o, q, fun p vs H1 I1 e1 ds o1 x1 hp dvs q1 => by
    obtain ⟨nj, hn, hP⟩ := o1.fresh hp
    refine ⟨_, e1, I1, _, o1.prot (u := .lst vs) hp, q1, fun p2 us H2 I2 e2 es o2 x2 hp2 dus ⟨h1, h2, q2⟩ => ?_⟩
    obtain ⟨o3, eH⟩ := Ok.drop (G := G) (P := G.P) o2 hn hP
    have o4 := o3.putOwn (i := i) (p := p) (vs := vs) (ds := ds) hid_at (dvs.up x2) h1
    rw [← eH] at o4
    exact ⟨_, _, rfl, k.1 _ _ I2 _ (o4.putOwn hp2 dus h2) q2⟩⟩
theorem s_parOI {wa : WA} {wb : WE} (h : PS X (.Assign [.Tuple [.Name x px, .Name y py] kt pt] (.Tuple [a, b] k2 pt2) pos) (tPar i j (tCons (lL X.K wa) (tCons (lE X.K wb) tNil)))) :
    PS X (.Assign [.Tuple [.Name x px, .Name y py] kt pt] (.Tuple [a, b] k2 pt2) pos) (lS X.K (wParOI i j wa wb)) :=
  h.mo fun R σ H ⟨G, en, I, R', o, q, k⟩ => ⟨G, en, I, _, o, q, fun p vs H1 I1 e1 ds o1 x1 hp dvs q1 => by
    obtain ⟨nj, hn, hP⟩ := o1.fresh hp
    refine ⟨_, e1, I1, _, o1.prot (u := .lst vs) hp, q1, fun u H2 I2 e2 d2 o2 x2 du ⟨h1, h2, q2⟩ => ?_⟩
    obtain ⟨o3, eH⟩ := Ok.drop (G := G) (P := G.P) o2 hn hP
    have o4 := o3.putOwn (i := i) (p := p) (vs := vs) (ds := ds) hid_at (dvs.up x2) h1
    rw [← eH] at o4
    exact ⟨_, _, rfl, k.1 _ _ I2 _ (o4.put du (Or.inl h2)) q2⟩⟩
theorem s_parIO {wa : WE} {wb : WA} (h : PS X (.Assign [.Tuple [.Name x px, .Name y py] kt pt] (.Tuple [a, b] k2 pt2) pos) (tPar i j (tCons (lE X.K wa) (tCons (lL X.K wb) tNil)))) :
    PS X (.Assign [.Tuple [.Name x px, .Name y py] kt pt] (.Tuple [a, b] k2 pt2) pos) (lS X.K (wParIO i j wa wb)) :=
  h.mo fun R σ H ⟨G, en, I, R', o, q, k⟩ => ⟨G, en, I, _, o, q, fun v H1 I1 e1 d o1 x1 dv q1 => ⟨G, e1, I1, _, o1, q1, fun p us H2 I2 e2 es o2 x2 hp dus ⟨h1, h2, q2⟩ =>
    ⟨_, _, rfl, k.1 _ _ I2 _ ((o2.put (dv.up x2) (Or.inl h1)).putOwn hp dus h2) q2⟩⟩⟩
end
/-! ### a def of the text -/
section
variable {P : Program} {w : World} {K : PySem.W.Frag} {mg : Str → Option Value} {base : Heap} {x qual : Str} {params : Arguments} {body : List Stmt} {scope : Scope} {f : Addr} {fd : FuncData} {N ps : List Str} {k : Nat}
/-- what is wanted behind the body -/
def edP (Q' : D → Prop) : Ed := { nx := fun _ => Q' .none, rt := fun d _ => Q' d }
def edJ (Q' : D → List D → Prop) : Ed := { nx := fun en => ∀ dj, en[0]? = some (.own dj) → Q' .none dj, rt := fun d en => ∀ dj, en[0]? = some (.own dj) → Q' d dj }
def enP (N : List Str) (ds : List D) : En := ds.map .imm ++ List.replicate (N.length - ds.length) .un
def enJ (N : List Str) (dj ds : List D) : En := .own dj :: (ds.map .imm ++ List.replicate (N.length - (ds.length + 1)) .un)
theorem fnP {wf : WF} {ws : WS} (F : FunD K x qual params body scope [] [] f fd) (S : FnScope N ps scope)
    (hb : ∀ (cdv : Value) (A : Around) (outer : List Env) (s : Shared) (H : Hp) (E : XK), Room k (A.deeper (envOfC qual scope s.heap.objs.size f cdv)) → PSs (cxOf CX0 P w K mg base N qual scope f cdv A outer s H E).nox body (lS K ws))
    (hp : ∀ ds Q', ds.length = ps.length → wf ds Q' → ws (edP Q') (enP N ds)) : FnOk P w K mg base CX0 (k + 1) f fd ps (spP K ps.length wf) := by
  refine F.ok S (fun vs H Q E h => ?_) (fun cdv A outer s H vs Q E hr h => ?_)
  · obtain ⟨I, ds, Q', _, h2, h3, _⟩ := h
    rw [dpa_len h2, h3]
  · obtain ⟨I, ds, Q', h1, h2, h3, h4, h5⟩ := h
    refine ⟨lS K ws, PSs.nox (hb cdv A outer s H E hr), ?_⟩
    have hpl : ps.length ≤ N.length := by have := congrArg List.length S.pre; rw [List.length_take] at this; omega
    have hl : vs.length = ds.length := dpa_len h2
    have gsl : ∀ (i : Nat) (s : Sl), (enP N ds)[i]? = some s → SlOk K I H (L2.start N vs)[i]? s := fun i s hs => by
      unfold enP at hs
      by_cases hi : i < ds.length
      · rw [List.getElem?_append_left (by rw [List.length_map]; exact hi), List.getElem?_map] at hs
        cases q : ds[i]? with
        | none => rw [q] at hs; cases hs
        | some d =>
          rw [q] at hs
          cases hs
          obtain ⟨v, hv, dv⟩ := dpa_get h2 q
          refine ⟨v, ?_, dv⟩
          unfold L2.start
          rw [List.getElem?_append_left (by rw [List.length_map, hl]; exact hi), List.getElem?_map, hv]
          rfl
      · rw [List.getElem?_append_right (by rw [List.length_map]; omega), List.getElem?_replicate] at hs
        split at hs
        · cases hs; trivial
        · cases hs
    have nown : ∀ (i : Nat) (l : Addr), ¬ OwnAt (L2.start N vs) (enP N ds) i l := fun i l ⟨q1, es, q2⟩ => by
      unfold enP at q2
      by_cases hi : i < ds.length
      · rw [List.getElem?_append_left (by rw [List.length_map]; exact hi), List.getElem?_map] at q2
        cases q : ds[i]? with
        | none => rw [q] at q2; cases q2
        | some d => rw [q] at q2; cases q2
      · rw [List.getElem?_append_right (by rw [List.length_map]; omega), List.getElem?_replicate] at q2
        split at q2
        · cases q2
        · cases q2
    have o : Ok K ⟨H, I, none, []⟩ (L2.start N vs) (enP N ds) H I :=
      ⟨Ex.rf I, h1, fun a _ h => h, fun a o h _ => h, by unfold L2.start enP; simp [hl], gsl, fun i l h => absurd h (nown i l), fun i j l h => absurd h (nown i l), fun l h => (by cases h), fun p hp => (by cases hp)⟩
    refine lS_mk o (hp ds Q' h3 h4) ⟨fun σ' H' I' en' o' q => ?_, fun v σ' H' I' en' d o' dv q => ?_, fun _ _ _ _ _ q => q.elim, fun _ _ _ _ _ q => q.elim⟩
    · exact h5 .non H' I' .none ⟨fun a u q => o'.fr a u q (by simp), o'.i0, o'.iH, fun a h1 h2 => by
        cases q : H a with
        | none => rfl
        | some u => exact absurd (o'.nw a (show H a ≠ none by rw [q]; simp) h2) h1⟩ .non q
    · exact h5 v H' I' d ⟨fun a u q => o'.fr a u q (by simp), o'.i0, o'.iH, fun a h1 h2 => by
        cases q : H a with
        | none => rfl
        | some u => exact absurd (o'.nw a (show H a ≠ none by rw [q]; simp) h2) h1⟩ dv q
theorem fnJ {wf : WJ} {ws : WS} {n : Nat} (F : FunD K x qual params body scope [] [] f fd) (S : FnScope N ps scope) (hn : ps.length = n)
    (hb : ∀ (cdv : Value) (A : Around) (outer : List Env) (s : Shared) (H : Hp) (E : XK), Room k (A.deeper (envOfC qual scope s.heap.objs.size f cdv)) → PSs (cxOf CX0 P w K mg base N qual scope f cdv A outer s H E).nox body (lS K ws))
    (hp : ∀ dj ds Q', ds.length + 1 = n → wf dj ds Q' → ws (edJ Q') (enJ N dj ds)) : FnOk P w K mg base CX0 (k + 1) f fd ps (spJ K n wf) := by
  refine F.ok S (fun vs H Q E h => ?_) (fun cdv A outer s H vs Q E hr h => ?_)
  · obtain ⟨j, vj, dj, us, ds, I, Q', rfl, _, _, _, _, h6, h7, _⟩ := h
    rw [List.length_cons, dpa_len h6, h7, hn]
  · obtain ⟨j, vj, dj, us, ds, I, Q', rfl, g1, g2, g3, h1, h2, h3, h4, h5⟩ := h
    refine ⟨lS K ws, PSs.nox (hb cdv A outer s H E hr), ?_⟩
    have hpl : ps.length ≤ N.length := by have := congrArg List.length S.pre; rw [List.length_take] at this; omega
    have hl : us.length = ds.length := dpa_len h2
    have get_ : ∀ (i : Nat) (s : Sl), (enJ N dj ds)[i]? = some s → (i = 0 ∧ s = .own dj) ∨ (∃ d v, ds[i - 1]? = some d ∧ us[i - 1]? = some v ∧ Da K I v d ∧ s = .imm d ∧ 1 ≤ i ∧ (L2.start N (V.ref j :: us))[i]? = some (some v)) ∨ s = .un := fun i s hs => by
      unfold enJ at hs
      cases i with
      | zero => exact Or.inl ⟨rfl, by simpa using hs.symm⟩
      | succ i =>
        rw [List.getElem?_cons_succ] at hs
        by_cases hi : i < ds.length
        · rw [List.getElem?_append_left (by rw [List.length_map]; exact hi), List.getElem?_map] at hs
          cases q : ds[i]? with
          | none => rw [q] at hs; cases hs
          | some d =>
            rw [q] at hs
            cases hs
            obtain ⟨v, hv, dv⟩ := dpa_get h2 q
            refine Or.inr (Or.inl ⟨d, v, q, hv, dv, rfl, by omega, ?_⟩)
            unfold L2.start
            rw [List.getElem?_append_left (by rw [List.length_map, List.length_cons, hl]; omega), List.getElem?_map, List.getElem?_cons_succ, hv]
            rfl
        · rw [List.getElem?_append_right (by rw [List.length_map]; omega), List.getElem?_replicate] at hs
          split at hs
          · cases hs; exact Or.inr (Or.inr rfl)
          · cases hs
    have s0 : (L2.start N (V.ref j :: us))[0]? = some (some (V.ref j)) := by unfold L2.start; simp
    have own0 : ∀ (i : Nat) (l : Addr), OwnAt (L2.start N (V.ref j :: us)) (enJ N dj ds) i l → i = 0 ∧ l = j := fun i l ⟨q1, es, q2⟩ => by
      rcases get_ i _ q2 with ⟨e, _⟩ | ⟨d, v, _, _, _, e, _⟩ | e
      · subst e
        rw [s0] at q1
        injection q1 with q1; injection q1 with q1; injection q1 with q1
        exact ⟨rfl, q1.symm⟩
      · cases e
      · cases e
    have o : Ok K ⟨H, I, some j, []⟩ (L2.start N (V.ref j :: us)) (enJ N dj ds) H I := by
      refine ⟨Ex.rf I, h1, fun a _ h => h, fun a o h _ => h, ?_, fun i s hs => ?_, fun i l h => ?_, fun a b l h g => ?_, fun l h => ?_, fun p hp => (by cases hp)⟩
      · unfold L2.start enJ
        rw [List.length_append, List.length_map, List.length_replicate, List.length_cons, List.length_cons, List.length_append, List.length_map, List.length_replicate]
        omega
      · rcases get_ i s hs with ⟨e1, e2⟩ | ⟨d, v, q1, q2, q3, e, q4, q5⟩ | e
        · subst e1 e2
          exact ⟨j, vj, s0, g1, g2, g3⟩
        · subst e
          exact ⟨v, q5, q3⟩
        · subst e; trivial
      · obtain ⟨_, e⟩ := own0 i l h
        exact Or.inl (by rw [e])
      · rw [(own0 a l h).1, (own0 b l g).1]
      · have e : j = l := Option.some.inj h
        subst e
        exact ⟨s0, dj, rfl⟩
    have fin : ∀ {v σ' H' I' en' d}, Ok K ⟨H, I, some j, []⟩ σ' en' H' I' → Da K I' v d → (∀ dj, en'[0]? = some (.own dj) → Q' d dj) → Q v H' := fun {v σ' H' I' en' d} o' dv q => by
      obtain ⟨p1, dj', p2⟩ := o'.pj j rfl
      obtain ⟨l, vs', r1, r2, r3, r4⟩ := o'.own p2
      rw [p1] at r1
      have e : j = l := by injection r1 with r1; injection r1 with r1; injection r1
      subst e
      refine h5 v H' I' d vs' dj' (fun a u ha q => o'.fr a u q fun e => ha (Option.some.inj e).symm) o'.i0 o'.iH (fun a h1 h2 => ?_) r3 r4 dv (q dj' p2)
      cases z : H a with
      | none => rfl
      | some u => exact absurd (o'.nw a (show H a ≠ none by rw [z]; simp) h2) h1
    exact lS_mk o (hp dj ds Q' h3 h4) ⟨fun σ' H' I' en' o' q => fin o' .non q, fun v σ' H' I' en' d o' dv q => fin o' dv q, fun _ _ _ _ _ q => q.elim, fun _ _ _ _ _ q => q.elim⟩
end
end Pd

set_option Elab.async false
set_option linter.all false
set_option maxRecDepth 100000
set_option maxHeartbeats 4000000
namespace Pd
open PySem PySem.Spec PyProof.Rows L2
section
variable {K : PySem.W.Frag} {X : Cx}
/-! ### in, not in, over flat items -/
def flatD : D → Bool
  | .none | .bool _ | .int _ | .str _ => true
  | _ => false
theorem flat_da {I : Hp} {v : V} {d : D} (h : Da K I v d) (f : flatD d = true) : flatV v = true := by
  cases h <;> first | rfl | exact absurd f (by simp [flatD])
theorem eqv_da {I J : Hp} {v u : V} {d e : D} (h : Da K I v d) (g : Da K J u e) (f : flatD d = true) (f2 : flatD e = true) : eqV v u = PyData.eqv d e := by
  cases h <;> cases g <;> first | rfl | (simp [flatD] at f; done) | (simp [flatD] at f2; done) | simp [eqV, PyData.eqv]
theorem all_da {I : Hp} : ∀ {vs : List V} {ds : List D}, DaAll K I vs ds → ds.all flatD = true → vs.all flatV = true
  | _, _, .nil, _ => rfl
  | _, _, .cons h t, f => by
    rw [List.all_cons, Bool.and_eq_true] at f ⊢
    exact ⟨flat_da h f.1, all_da t f.2⟩
theorem in_da {I J : Hp} {v : V} {d : D} (h : Da K J v d) (fd : flatD d = true) : ∀ {vs : List V} {ds : List D}, DaAll K I vs ds → ds.all flatD = true → inV v vs = ds.any fun y => PyData.eqv y d
  | _, _, .nil, _ => rfl
  | _, _, .cons (v := w) (vs := vs) a t, f => by
    rw [List.all_cons, Bool.and_eq_true] at f
    show (w :: vs).any (fun y => eqV y v) = _
    rw [List.any_cons, List.any_cons, eqv_da a h f.1 fd]
    have q := in_da h fd t f.2
    unfold inV at q
    rw [q]
def dIn (neg : Bool) : D → D → D → Prop := fun x y z => ∃ ys, (y = .list ys ∨ y = .tuple ys) ∧ flatD x = true ∧ ys.all flatD = true ∧ z = .bool (if neg then !(ys.any fun y => PyData.eqv y x) else ys.any fun y => PyData.eqv y x)
theorem snd_in {neg : Bool} : SndOp K (rIn K neg) (dIn neg) := by
  rintro H I x y d e z iH hx hy ⟨ys, hy', fx, fy, rfl⟩ Q k
  rcases hy' with rfl | rfl
  · cases hy with
    | lst h a => exact ⟨_, _, rfl, Or.inl (SqL.of (iH _ _ h)), flat_da hx fx, all_da a fy, by rw [in_da hx fx a fy]; exact k _ H I (Gr.rf iH) (.bl _)⟩
  · cases hy with
    | tup h a => exact ⟨_, _, rfl, Or.inr (sqt_ex iH h), flat_da hx fx, all_da a fy, by rw [in_da hx fx a fy]; exact k _ H I (Gr.rf iH) (.bl _)⟩
/-! ### list + list, list * int, as new lists of one's own -/
variable {a b e : Expr} {pos : Pos} {wa wb : WE} {wl : WA}
def wCatL (wa wb : WE) : WA := fun en Q => wa en fun x e1 => wb e1 fun y e2 => ∃ xs ys, x = .list xs ∧ y = .list ys ∧ xs.length + ys.length ≤ sizeLine ∧ Q (xs ++ ys) e2
theorem l_cat (ha : PE X a (lE X.K wa)) (hb : PE X b (lE X.K wb)) : PE X (.BinOp a .Add b pos) (lL X.K (wCatL wa wb)) :=
  (pe_op op_cat ha hb).mo fun σ H Q ⟨G, en, I, Q', o, q, k⟩ => ⟨G, en, I, _, o, q, fun v H1 I1 e1 d o1 x1 dv q1 => ⟨G, e1, I1, _, o1, q1, fun u H2 I2 e2 d2 o2 x2 du ⟨xs, ys, hx, hy, hl, q2⟩ => by
    subst hx hy
    have dv2 := dv.up x2
    cases dv2 with
    | lst h1 a1 =>
      cases du with
      | lst h2 a2 => exact ⟨_, _, _, _, rfl, rfl, o2.iH _ _ h1, o2.iH _ _ h2, by rw [dpa_len a1, dpa_len a2]; exact hl, fun p hp => k p _ H2 I2 e2 _ o2 (x1.tr x2) hp (dpa_app a1 a2) q2⟩⟩⟩
def wRepL (wa wb : WE) : WA := fun en Q => wa en fun x e1 => wb e1 fun y e2 => ∃ xs m, x = .list xs ∧ y = .int m ∧ -(2 ^ 63) ≤ m ∧ m < 2 ^ 63 ∧ xs.length * m.toNat ≤ sizeLine ∧ Q (List.replicate m.toNat xs).flatten e2
theorem l_rep (ha : PE X a (lE X.K wa)) (hb : PE X b (lE X.K wb)) : PE X (.BinOp a .Mult b pos) (lL X.K (wRepL wa wb)) :=
  (pe_op op_rep ha hb).mo fun σ H Q ⟨G, en, I, Q', o, q, k⟩ => ⟨G, en, I, _, o, q, fun v H1 I1 e1 d o1 x1 dv q1 => ⟨G, e1, I1, _, o1, q1, fun u H2 I2 e2 d2 o2 x2 du ⟨xs, m, hx, hy, h1, h2, hl, q2⟩ => by
    subst hx hy
    have dv2 := dv.up x2
    cases du
    cases dv2 with
    | lst g1 a1 => exact ⟨_, m, _, rfl, rfl, o2.iH _ _ g1, h1, h2, by rw [dpa_len a1]; exact hl, fun p hp => k p _ H2 I2 e2 _ o2 (x1.tr x2) hp (dpa_rep a1 _) q2⟩⟩⟩
/-! ### calls by a bundle -/
def Cal (P : Program) (w : World) (K : PySem.W.Frag) (mg : Str → Option Value) (base : Heap) (k : Nat) (x : Str) (ps : List Str) (sp : Sp) : Prop :=
  ∃ (f : Addr) (fd : FuncData), FnOk P w K mg base CX0 k f fd ps sp ∧ mg x = some (.ref f) ∧ PySem.W.keepIn K (.ref f) = true ∧ Binds K fd ps []
variable {p : Pos} {x : Str} {k n : Nat} {ps : List Str} {es : List Expr}
theorem c_call {wf : WF} {w : WA} (C : Cal X.prog X.w X.K X.mg X.base k x ps (spP X.K n wf)) (hr : Room k X.A) (ha : PA X (e :: es) (lA X.K w)) (hg : Gl X x := by rfl)
    (hdb : (x == ("__debug__" : Str)) = false := by decide) (he : starEach (e :: es) X.env = (false, eval e X.env) :: starEach es X.env := by rfl) (hpl : (backTo pos (starEach es X.env)).any (·.1) = false := by rfl) :
    PE X (.Call (.Name x p) (e :: es) [] pos) (lE X.K (wFn n wf w)) := by
  obtain ⟨f, fd, F, hm, hk, hb⟩ := C
  exact d_call F hr hm hk hb ha hg hdb he hpl
theorem c_call0 {wf : WF} (C : Cal X.prog X.w X.K X.mg X.base k x ps (spP X.K 0 wf)) (hr : Room k X.A) (hg : Gl X x := by rfl) (hdb : (x == ("__debug__" : Str)) = false := by decide) : PE X (.Call (.Name x p) [] [] pos) (lE X.K (wFn 0 wf wNil)) := by
  obtain ⟨f, fd, F, hm, hk, hb⟩ := C
  exact d_call0 F hr hm hk hb hg hdb
theorem c_callJ {wf : WJ} {w : WA} {i : Nat} (C : Cal X.prog X.w X.K X.mg X.base k x ps (spJ X.K n wf)) (hr : Room k X.A) (h0 : PE X e (tVar i)) (ha : PA X es (lA X.K w)) (hg : Gl X x := by rfl)
    (hdb : (x == ("__debug__" : Str)) = false := by decide) (he : starEach (e :: es) X.env = (false, eval e X.env) :: starEach es X.env := by rfl) (hpl : (backTo pos (starEach es X.env)).any (·.1) = false := by rfl) :
    PE X (.Call (.Name x p) (e :: es) [] pos) (lE X.K (wFnJ i n wf w)) := by
  obtain ⟨f, fd, F, hm, hk, hb⟩ := C
  exact d_callJ F hr hm hk hb h0 ha hg hdb he hpl
/-- an int of the module -/
theorem d_gint {i : Int} (hm : ∃ t, X.mg x = some (.int i t)) (hg : Gl X x := by rfl) (hd : (x == ("__debug__" : Str)) = false := by decide) : PE X (.Name x pos) (lE X.K (wC (.int i))) := by
  obtain ⟨t, hm⟩ := hm
  exact d_c (pe_glob (v := .int i) hg hm ⟨t, rfl⟩ hd) fun _ => .int i
/-! ### greater powers -/
end
end Pd

set_option Elab.async false
set_option linter.all false
set_option maxRecDepth 100000
set_option maxHeartbeats 4000000
namespace Pd
open PySem PySem.Spec PyProof.Rows L2
open AutoSeq1 (wpAny_loadPart')
/-! ### enumerate over a tuple -/
theorem meets_enum1 {v : Value} {o : Obj} {H : Heap → Prop} (B : Begins v o H) :
    Meets (Builtin.«enumerate.__new__» ⟨[.type "enumerate", v], []⟩) (fun _ R s => H s.heap ∧
      R (.ok (.ret (.ref (s.heap.push o).objs.size))) { s with heap := (s.heap.push o).push { cls := .type "enumerate", data := .fields #[.none, .bool false, .ref s.heap.objs.size, rawInt 0, .none, .none] } }) :=
  .of_wp fun prog w A R s h => by
    obtain ⟨hp, g, d, tk, os⟩ := s; obtain ⟨hl, h⟩ := h
    have hsub := sub_enumerate
    have hB := fun (A : Around) (E : Value → Shared → Prop) (Q : Value → Shared → Prop) (q : Q (.ref hp.objs.size) ⟨hp.push o, g, d, tk, os⟩) => B.iter prog w A E ⟨hp, g, d, tk, os⟩ Q hl q
    wp_walk
    refine wpAny_stack_any fun st => wpAny_pure ?_
    split
    · rename_i c _ _ _ _ _
      cases (c == Value.type "enumerate")
      · wp_walk using hB
        exact ⟨_, rfl, h⟩
      · wp_walk using hB
        exact ⟨_, rfl, h⟩
    · wp_walk using hB
      exact ⟨_, rfl, h⟩
theorem call_enum1 {prog : Program} {w : World} {A : Around} {E : Value → Shared → Prop} {s : Shared} {v : Value} {o : Obj} {H : Heap → Prop} (B : Begins v o H) {Q : Value → Shared → Prop} (h1 : H s.heap)
    (h : ∀ h', IsEnum h' (s.heap.objs.size + 1) s.heap.objs.size 0 .none → h'.get? s.heap.objs.size = some o → h'.objs.size = s.heap.objs.size + 2 →
      (∀ b o, s.heap.get? b = some o → h'.get? b = some o) → Q (.ref (s.heap.objs.size + 1)) { s with heap := h' }) :
    wpAny (model prog w) A (call (.type "enumerate") [v]) Q E s := by
  refine callType_new F.called_enumerate (by decide) (F.typeCall_enumerate_1 _) (F.newCall_enumerate_1 _) (fun obj => F.args_object_init_2 obj _) F.entry_enumerate_new
    (meets_enum1 B) ⟨h1, ?_⟩
  have hz : (s.heap.push o).objs.size = s.heap.objs.size + 1 := Heap.size_push ..
  show _ ∧ _
  rw [hz]
  have he : IsEnum ((s.heap.push o).push { cls := .type "enumerate", data := .fields #[.none, .bool false, .ref s.heap.objs.size, rawInt 0, .none, .none] }) (s.heap.objs.size + 1) s.heap.objs.size 0 .none := by
    have := Heap.get?_push_size (s.heap.push o) (o := { cls := .type "enumerate", data := .fields #[.none, .bool false, .ref s.heap.objs.size, rawInt 0, .none, .none] }) rfl
    rw [hz] at this; exact this
  refine ⟨⟨_, he, rfl⟩, h _ he (Heap.get?_push_of_some _ (Heap.get?_push_size _ B.free)) (by rw [Heap.size_push, hz]) fun b o x => Heap.get?_push_of_some _ (Heap.get?_push_of_some _ x)⟩
theorem enum_endT {prog : Program} {w : World} {A : Around} {E : Value → Shared → Prop} {s : Shared} {e it l : Addr} {i : Nat} {items : Array Value} {old : Value} {Q : Option Value → Shared → Prop} (hh : A.handled = none)
    (he : IsEnum s.heap e it i old) (hit : s.heap.IsTupleIter it l i) (hl : s.heap.IsTuple l items) (hx : items[i]? = none)
    (hQ : ∀ h', Heap.ExtBut it s.heap h' → Q none { s with heap := h' }) : wpAny (model prog w) A (pyNext (.ref e)) Q E s := by
  have hT : s.TypeIs (.ref e) "enumerate" := ⟨_, he, rfl⟩
  unfold pyNext
  refine wpAny_bind (wpAny_attempt (wpAny_callSpecial?_slot (name := Str.ofString "__next__") hT F.slot_enumerate_next
    (wpAny_call_entry F.slot_enumerate_next hT F.entry_enumerate_next ?_ (F.args_enumerate_next_1 _))))
  show wpAny _ _ (field (.ref e) 2 >>= _) _ _ _
  refine wpAny_bind (wpAny_field he rfl (x := .ref it) rfl ?_)
  refine wpAny_bind (wpAny_nextOf_tuple_end (show A.in1.handled = none from hh) hit hl hx fun h' x he' hx' => ?_)
  obtain ⟨o, ho, hc⟩ := hx'
  refine wpAny_bind (wpAny_isInstance (T := "StopIteration") (b := true) ⟨o, ho, hc⟩ isSubtype_stop ?_)
  exact wpAny_pure (hQ _ he')
/-- the tuple at a as it stands at each turn, each item in a new pair -/
def IteT (K : PySem.W.Frag) (a : Addr) : It :=
  ⟨fun i H => ∃ (xs : List V) (x : V), SqT K H a xs ∧ xs[i]? = some x, fun i H v H' => ∃ T x, v = .ref T ∧ H T = none ∧ H' = upd H T (.tup [.int (i : Nat), x]) ∧ ∀ xs, SqT K H a xs → xs[i]? = some x, fun i H => ∃ xs : List V, SqT K H a xs ∧ xs.length ≤ i⟩
theorem ne_tup {h : Heap} {e it a : Addr} {c : Int} {old : Value} {items : Array Value} (he : IsEnum h e it c old) (ht : h.IsTuple a items) : e ≠ a := fun z => by
  obtain ⟨o, ho, hc, _⟩ := ht
  subst z
  have he' : h.get? e = some _ := he
  rw [he'] at ho
  have e := Option.some.inj ho
  rw [← e] at hc
  have hc' : Value.type "enumerate" = Value.type "tuple" := hc
  injection hc' with hc'
  exact absurd hc' (by decide)
theorem turn_enumT {P : Program} {w : World} {K : PySem.W.Frag} {elts : List Expr} {kk : Nat} {tpos : Pos} (a e it : Addr) (hai : a ≠ it) :
    Turn P w K (.Tuple elts kk tpos) (IteT K a) [e, it] e (fun i h => (∃ old, IsEnum h e it ((i : Nat) : Int) old) ∧ h.IsTupleIter it a i ∧ e ≠ it) where
  mem := by simp
  obj := fun i h st b hb => by
    obtain ⟨⟨old, he⟩, ⟨o, ho, hc, hd⟩, _⟩ := st
    have e' : b = e ∨ b = it := by simpa using hb
    rcases e' with z | z
    · rw [z]; exact ⟨_, he, fun v q => nomatch q⟩
    · rw [z]; exact ⟨o, ho, fun v q => by rw [hd] at q; cases q⟩
  keep := fun i h h' st k => let ⟨⟨old, he⟩, hi, hne⟩ := st; ⟨⟨old, k e (by simp) _ he⟩, hi.at fun o q => k it (by simp) o q, hne⟩
  item := by
    intro X hP hw hK hc i pins s σ H E I hf st hg
    subst hP hw hK
    obtain ⟨⟨old, he⟩, hit, hne⟩ := st
    obtain ⟨xs, x, hq, hx⟩ := hg
    obtain ⟨its, rv, p, hz⟩ := I.tuple hq
    have p' : s.heap.IsTuple a its.toArray := p
    obtain ⟨u, hu, ru⟩ := rv.get hx
    have hlt : i < its.toArray.size := by
      rw [List.size_toArray]
      exact (List.getElem?_eq_some_iff.mp hu).1
    have hel : e < s.heap.objs.size := Heap.lt_size he
    have hil : it < s.heap.objs.size := by obtain ⟨_, q, _⟩ := hit; exact Heap.lt_size q
    refine wpAny_pyNext_enum_itemD (Draws.tuple (show X.A.in1.handled = none from I.ok.hd hc) it a hai its.toArray) he ⟨hit, p'⟩ hlt hne (by simp [hne, ne_tup he p']) fun y h' tk hy ho hit' hT hsz hk => ?_
    have ey : y = u := by
      have h1 : its[i]? = some y := by simpa using hy
      rw [hu] at h1
      exact (Option.some.inj h1).symm
    subst ey
    refine ⟨_, rfl, wpAny_letOwnedTupleGo_enum (s := { s with heap := h', toks := tk + 1 }) ho fun h'' he' sb => ?_⟩
    have hT2 : h''.get? s.heap.objs.size = some { cls := .type "tuple", data := .seq #[.int i tk, y] } := (sb.2 _ (Nat.ne_of_gt hel)).trans hT
    have new : ObjOk X.prog X.w (upd H s.heap.objs.size (.tup [.int (i : Nat), x])) h'' s.heap.objs.size (.tup [.int (i : Nat), x]) :=
      ⟨by show 2 ≤ sizeLine; decide, [.int i tk, y], .cons ⟨_, rfl⟩ (.cons ru .nil), ⟨_, hT2, rfl, _, rfl⟩⟩
    have I1 : Inv X pins σ (upd H s.heap.objs.size (.tup [.int (i : Nat), x])) { s with heap := h'', toks := tk + 1 } :=
      I.turnedNew (ch := [e, it]) (fun b ob hb q => (sb.2 b (fun z => hb (by simp [z]))).trans (hk b ob (fun z => hb (by simp [z])) (fun z => hb (by simp [z])) q)) hf (Nat.le_refl _) new
    refine ⟨.ref s.heap.objs.size, _, I1, rfl, ⟨_, x, rfl, I.hok.fresh (Nat.le_refl _), rfl, fun ys hy => by rw [I.tuple_inj hy hq]; exact hx⟩, ⟨⟨y, ?_⟩, hit'.1.at fun o q => (sb.2 it (Ne.symm hne)).trans q, hne⟩, fun b hb => ?_⟩
    · have e1 : ((i + 1 : Nat) : Int) = (i : Int) + 1 := by omega
      rw [e1]; exact he'
    · have hb' : b < s.heap.objs.size := by
        have e' : b = e ∨ b = it := by simpa using hb
        rcases e' with z | z
        · rw [z]; exact hel
        · rw [z]; exact hil
      rw [upd_ne (Nat.ne_of_lt hb')]
      exact (hf b hb).1
  done := by
    intro X hP hw hK hc i pins s σ H E I hf st hg
    subst hP hw hK
    obtain ⟨⟨old, he⟩, hit, hne⟩ := st
    obtain ⟨xs, hq, hx⟩ := hg
    obtain ⟨its, rv, p, hz⟩ := I.tuple hq
    have p' : s.heap.IsTuple a its.toArray := p
    obtain ⟨f0, f1, f2, f3, f4, f5⟩ := hf it (by simp)
    have hl := rv.length
    exact enum_endT (I.ok.hd hc) he hit p' (by simp; omega) fun h' eb => ⟨rfl, I.turned (t' := s.toks) (fun b o hb q => eb b o hb q) f0 f1 f3 f4 f5⟩
  self := fun A i s Q E st h => let ⟨⟨_, he⟩, _⟩ := st; wpAny_pyIter_enum he h
def iEnA (K : PySem.W.Frag) (ta : TA) : TI := fun σ H R => ta σ H fun vs H1 => ∃ a, vs = [.ref a] ∧ ((∃ xs, SqL K H1 a xs ∧ R (Ite K a) H1) ∨ (∃ xs, SqT K H1 a xs ∧ R (IteT K a) H1))
theorem pi_enA {X : Cx} {e : Expr} {ta : TA} {p pos tpos : Pos} {elts : List Expr} {kk : Nat} (hg : Gl X "enumerate") (hm : X.mg "enumerate" = none) (ha : PA X [e] ta) (hs : starEach [e] X.env = [(false, eval e X.env)] := by rfl) :
    PI X (.Tuple elts kk tpos) (.Call (.Name "enumerate" p) [e] [] pos) (iEnA X.K ta) := by
  refine ⟨fun pins s σ H R I h => ?_⟩
  refine Call_ (ld_blt I hg hm boot_enumerate (PyProof.Rows.callWith_type1 (thn (ha.run pos pins s σ H _ I h) fun us s1 ⟨vs, H1, I1, r1, q1⟩ => ?_) hs rfl))
  obtain ⟨a, ex, q1⟩ := q1
  subst ex
  cases r1 with
  | cons r rr =>
    cases rr
    cases r
    have tail : ∀ b ∈ [s1.heap.objs.size + 1, s1.heap.objs.size], FpOk X pins H1 b := fun b hb => by
      have e' : b = s1.heap.objs.size + 1 ∨ b = s1.heap.objs.size := by simpa using hb
      have hle : s1.heap.objs.size ≤ b := by
        rcases e' with z | z
        · rw [z]; exact Nat.le_add_right _ _
        · rw [z]; exact Nat.le_refl _
      exact I1.fpOk hle (I1.hok.fresh hle)
    rcases q1 with ⟨xs, hq, q⟩ | ⟨xs, hq, q⟩
    · obtain ⟨its, rv, p', hz⟩ := I1.list hq
      refine call_enumerate_list p'.isList fun h' he hit hsz hk => wpAny_pyIter_enum he ?_
      have I2 : Inv X pins σ H1 { s1 with heap := h' } := I1.kept (t' := s1.toks) hk
      exact ⟨s1.heap.objs.size + 1, [s1.heap.objs.size + 1, s1.heap.objs.size], _, _, H1, rfl, I2, turn_enum a (s1.heap.objs.size + 1) s1.heap.objs.size, ⟨⟨.none, he⟩, hit, Nat.succ_ne_self _⟩, tail, q⟩
    · obtain ⟨its, rv, p', hz⟩ := I1.tuple hq
      have al : a < s1.heap.objs.size := by obtain ⟨_, z, _⟩ := p'; exact Heap.lt_size z
      refine call_enum1 (begins_tuple a its.toArray) p' fun h' he hit hsz hk => wpAny_pyIter_enum he ?_
      have I2 : Inv X pins σ H1 { s1 with heap := h' } := I1.kept (t' := s1.toks) hk
      exact ⟨s1.heap.objs.size + 1, [s1.heap.objs.size + 1, s1.heap.objs.size], _, _, H1, rfl, I2, turn_enumT a (s1.heap.objs.size + 1) s1.heap.objs.size (Nat.ne_of_lt al), ⟨⟨.none, he⟩, ⟨_, hit, rfl, rfl⟩, Nat.succ_ne_self _⟩, tail, q⟩
/-- pairs of number and item -/
def enuD : Nat → List D → List D
  | _, [] => []
  | i, x :: xs => .tuple [.int (i : Nat), x] :: enuD (i + 1) xs
theorem enuD_len : ∀ (i : Nat) (xs : List D), (enuD i xs).length = xs.length
  | _, [] => rfl
  | i, x :: xs => congrArg (· + 1) (enuD_len (i + 1) xs)
theorem enuD_get : ∀ {j : Nat} {xs : List D} {i : Nat} {d : D}, (enuD j xs)[i]? = some d → ∃ x, xs[i]? = some x ∧ d = .tuple [.int ((j + i : Nat) : Int), x]
  | _, [], _, _, h => by simp [enuD] at h
  | j, x :: xs, 0, d, h => by
    have e : PyData.tuple [.int (j : Nat), x] = d := Option.some.inj h
    exact ⟨x, rfl, e.symm⟩
  | j, x :: xs, i + 1, d, h => by
    have h' : (enuD (j + 1) xs)[i]? = some d := h
    obtain ⟨y, h1, h2⟩ := enuD_get h'
    refine ⟨y, h1, ?_⟩
    rw [h2, show j + 1 + i = j + (i + 1) by omega]
def zipD : List D → List D → List D
  | x :: xs, y :: ys => .tuple [x, y] :: zipD xs ys
  | _, _ => []
theorem zipD_get : ∀ {xs ys : List D} {i : Nat} {d : D}, (zipD xs ys)[i]? = some d → ∃ x y, xs[i]? = some x ∧ ys[i]? = some y ∧ d = .tuple [x, y]
  | [], _, _, _, h => by simp [zipD] at h
  | _ :: _, [], _, _, h => by simp [zipD] at h
  | x :: xs, y :: ys, 0, d, h => by
    have e : PyData.tuple [x, y] = d := Option.some.inj h
    exact ⟨x, y, rfl, rfl, e.symm⟩
  | x :: xs, y :: ys, i + 1, d, h => by
    have h' : (zipD xs ys)[i]? = some d := h
    obtain ⟨a, b, h1, h2, h3⟩ := zipD_get h'
    exact ⟨a, b, h1, h2, h3⟩
theorem zipD_len : ∀ (xs ys : List D), (zipD xs ys).length = min xs.length ys.length
  | [], ys => by simp [zipD]
  | x :: xs, [] => by simp [zipD]
  | x :: xs, y :: ys => by simp [zipD, zipD_len xs ys]
section
variable {K : PySem.W.Frag} {X : Cx} {tg e a b : Expr} {es elts : List Expr} {kk : Nat} {pos p tpos : Pos} {w : WA}
theorem pair_gr {H I : Hp} {T : Addr} {x y : V} {d e : D} (iH : Ex I H) (hT : H T = none) (hx : Da K I x d) (hy : Da K I y e) : ∃ I', Gr H I (upd H T (.tup [x, y])) I' ∧ Da K I' (.ref T) (.tuple [d, e]) :=
  ⟨_, Gr.nw (u := .tup [x, y]) iH hT, .tup (SqT.of upd_same) ((DaAll.cons hx (.cons hy .nil)).up (Gr.nw (u := .tup [x, y]) iH hT).i)⟩
theorem itd_enL {I : Hp} {a : Addr} {vs : List V} {ds : List D} (h : I a = some (.lst vs)) (hd : DaAll K I vs ds) : ItD K (Ite K a) I (enuD 0 ds) where
  go := fun i H I1 e1 e2 hi => by
    rw [enuD_len] at hi
    obtain ⟨v, hv, _⟩ := dpa_get hd (List.getElem?_eq_getElem hi)
    exact ⟨vs, v, SqL.of (e2 _ _ (e1 _ _ h)), hv⟩
  stop := fun H I1 e1 e2 => ⟨vs, SqL.of (e2 _ _ (e1 _ _ h)), by rw [enuD_len, dpa_len hd]; exact Nat.le_refl _⟩
  yld := fun i H I1 v H' d e1 e2 hd' ⟨T, x, ev, hT, eH, hv⟩ => by
    subst ev eH
    obtain ⟨y, hy, ed⟩ := enuD_get hd'
    obtain ⟨v', hv', q⟩ := dpa_get hd hy
    have := hv vs (SqL.of (e2 _ _ (e1 _ _ h)))
    rw [hv'] at this
    cases this
    subst ed
    rw [Nat.zero_add]
    exact pair_gr e2 hT (.int _) (q.up e1)
theorem itd_enT {I : Hp} {a : Addr} {vs : List V} {ds : List D} (h : SqT K I a vs) (hd : DaAll K I vs ds) : ItD K (IteT K a) I (enuD 0 ds) where
  go := fun i H I1 e1 e2 hi => by
    rw [enuD_len] at hi
    obtain ⟨v, hv, _⟩ := dpa_get hd (List.getElem?_eq_getElem hi)
    exact ⟨vs, v, sqt_ex (e1.tr e2) h, hv⟩
  stop := fun H I1 e1 e2 => ⟨vs, sqt_ex (e1.tr e2) h, by rw [enuD_len, dpa_len hd]; exact Nat.le_refl _⟩
  yld := fun i H I1 v H' d e1 e2 hd' ⟨T, x, ev, hT, eH, hv⟩ => by
    subst ev eH
    obtain ⟨y, hy, ed⟩ := enuD_get hd'
    obtain ⟨v', hv', q⟩ := dpa_get hd hy
    have := hv vs (sqt_ex (e1.tr e2) h)
    rw [hv'] at this
    cases this
    subst ed
    rw [Nat.zero_add]
    exact pair_gr e2 hT (.int _) (q.up e1)
def wEnum (w : WA) : WA := fun en Q => w en fun ds e1 => ∃ xs, (ds = [.list xs] ∨ ds = [.tuple xs]) ∧ Q (enuD 0 xs) e1
theorem i_enum (hm : X.mg "enumerate" = none) (ha : PA X [e] (lA X.K w)) (hg : Gl X "enumerate" := by rfl) (hs : starEach [e] X.env = [(false, eval e X.env)] := by rfl) : PI X (.Tuple elts kk tpos) (.Call (.Name "enumerate" p) [e] [] pos) (lI X.K (wEnum w)) :=
  (pi_enA hg hm ha hs).mo fun σ H R ⟨G, en, I, Q', o, q, k⟩ => ⟨G, en, I, _, o, q, fun vs H1 I1 e1 ds o1 x1 dvs ⟨xs, hd, q1⟩ => by
    rcases hd with rfl | rfl
    · cases dvs with
      | cons h t => cases t; cases h with
        | lst hs ha => exact ⟨_, rfl, Or.inl ⟨_, SqL.of (o1.iH _ _ hs), k _ H1 I1 e1 _ o1 x1 (itd_enL hs ha) q1⟩⟩
    · cases dvs with
      | cons h t => cases t; cases h with
        | tup hs ha => exact ⟨_, rfl, Or.inr ⟨_, sqt_ex o1.iH hs, k _ H1 I1 e1 _ o1 x1 (itd_enT hs ha) q1⟩⟩⟩
theorem itd_zipL {I : Hp} {a b : Addr} {vs us : List V} {ds es : List D} (h : I a = some (.lst vs)) (hd : DaAll K I vs ds) (g : I b = some (.lst us)) (he : DaAll K I us es) : ItD K (Itz K a b) I (zipD ds es) where
  go := fun i H I1 e1 e2 hi => by
    rw [zipD_len] at hi
    obtain ⟨v, hv, _⟩ := dpa_get hd (List.getElem?_eq_getElem (i := i) (by omega))
    obtain ⟨u, hu, _⟩ := dpa_get he (List.getElem?_eq_getElem (i := i) (by omega))
    exact ⟨vs, us, v, u, SqL.of (e2 _ _ (e1 _ _ h)), SqL.of (e2 _ _ (e1 _ _ g)), hv, hu⟩
  stop := fun H I1 e1 e2 => ⟨vs, us, SqL.of (e2 _ _ (e1 _ _ h)), SqL.of (e2 _ _ (e1 _ _ g)), by rw [zipD_len, dpa_len hd, dpa_len he]; omega⟩
  yld := fun i H I1 v H' d e1 e2 hd' ⟨T, x, y, ev, hT, eH, hv, hu⟩ => by
    subst ev eH
    obtain ⟨x', y', hx, hy, ed⟩ := zipD_get hd'
    obtain ⟨v', hv', q⟩ := dpa_get hd hx
    obtain ⟨u', hu', q'⟩ := dpa_get he hy
    have t1 := hv vs (SqL.of (e2 _ _ (e1 _ _ h)))
    have t2 := hu us (SqL.of (e2 _ _ (e1 _ _ g)))
    rw [hv'] at t1
    rw [hu'] at t2
    cases t1; cases t2
    subst ed
    exact pair_gr e2 hT (q.up e1) (q'.up e1)
theorem itd_zipT {I : Hp} {a b : Addr} {vs us : List V} {ds es : List D} (h : SqT K I a vs) (hd : DaAll K I vs ds) (g : SqT K I b us) (he : DaAll K I us es) : ItD K (RZ.ItzT K a b) I (zipD ds es) where
  go := fun i H I1 e1 e2 hi => by
    rw [zipD_len] at hi
    obtain ⟨v, hv, _⟩ := dpa_get hd (List.getElem?_eq_getElem (i := i) (by omega))
    obtain ⟨u, hu, _⟩ := dpa_get he (List.getElem?_eq_getElem (i := i) (by omega))
    exact ⟨vs, us, v, u, sqt_ex (e1.tr e2) h, sqt_ex (e1.tr e2) g, hv, hu⟩
  stop := fun H I1 e1 e2 => ⟨vs, us, sqt_ex (e1.tr e2) h, sqt_ex (e1.tr e2) g, by rw [zipD_len, dpa_len hd, dpa_len he]; omega⟩
  yld := fun i H I1 v H' d e1 e2 hd' ⟨T, x, y, ev, hT, eH, hv, hu⟩ => by
    subst ev eH
    obtain ⟨x', y', hx, hy, ed⟩ := zipD_get hd'
    obtain ⟨v', hv', q⟩ := dpa_get hd hx
    obtain ⟨u', hu', q'⟩ := dpa_get he hy
    have t1 := hv vs (sqt_ex (e1.tr e2) h)
    have t2 := hu us (sqt_ex (e1.tr e2) g)
    rw [hv'] at t1
    rw [hu'] at t2
    cases t1; cases t2
    subst ed
    exact pair_gr e2 hT (q.up e1) (q'.up e1)
def wZip (w : WA) : WA := fun en Q => w en fun ds e1 => ∃ xs ys, (ds = [.list xs, .list ys] ∨ ds = [.tuple xs, .tuple ys]) ∧ Q (zipD xs ys) e1
theorem i_zip (hm : X.mg "zip" = none) (ha : PA X [a, b] (lA X.K w)) (hg : Gl X "zip" := by rfl) (hs : starEach [a, b] X.env = (false, eval a X.env) :: starEach [b] X.env := by rfl) (hpl : (backTo pos (starEach [b] X.env)).any (·.1) = false := by rfl) :
    PI X (.Tuple elts kk tpos) (.Call (.Name "zip" p) [a, b] [] pos) (lI X.K (wZip w)) :=
  (RZ.pi_zipA hg hm ha hs hpl).mo fun σ H R ⟨G, en, I, Q', o, q, k⟩ => ⟨G, en, I, _, o, q, fun vs H1 I1 e1 ds o1 x1 dvs ⟨xs, ys, hd, q1⟩ => by
    rcases hd with rfl | rfl
    · cases dvs with
      | cons h t => cases t with
        | cons h2 t => cases t; cases h with
          | lst hs ha => cases h2 with
            | lst hs2 ha2 => exact ⟨_, _, _, _, rfl, Or.inl ⟨SqL.of (o1.iH _ _ hs), SqL.of (o1.iH _ _ hs2), k _ H1 I1 e1 _ o1 x1 (itd_zipL hs ha hs2 ha2) q1⟩⟩
    · cases dvs with
      | cons h t => cases t with
        | cons h2 t => cases t; cases h with
          | tup hs ha => cases h2 with
            | tup hs2 ha2 => exact ⟨_, _, _, _, rfl, Or.inr ⟨sqt_ex o1.iH hs, sqt_ex o1.iH hs2, k _ H1 I1 e1 _ o1 x1 (itd_zipT hs ha hs2 ha2) q1⟩⟩⟩
end
end Pd

set_option Elab.async false
set_option linter.all false
set_option maxRecDepth 100000
set_option maxHeartbeats 4000000
namespace Pd
open PySem PySem.Spec PyProof.Rows L2
section
variable {K : PySem.W.Frag} {X : Cx} {e a b : Expr} {es : List Expr} {pos p : Pos} {wb : WE} {x : Str} {k n : Nat} {ps : List Str}
/-! ### the law's own list -/
def wLenS (i : Nat) : WE := fun en Q => ∃ ns, en[i]? = some (.scr ns) ∧ Q (.int (ns.length : Nat)) en
theorem d_lenS {i : Nat} (hm : X.mg "len" = none) (ha : PE X e (tVar i)) (hg : Gl X "len" := by rfl)
    (he : starEach (e :: []) X.env = (false, eval e X.env) :: starEach [] X.env := by rfl) (hpl : (backTo pos (starEach [] X.env)).any (·.1) = false := by rfl) : PE X (.Call (.Name "len" p) [e] [] pos) (lE X.K (wLenS i)) :=
  (pe_callB call_len hg hm (by decide +kernel) (pa_cons ha pa_nil he) (by decide) (by decide) he hpl).mo fun σ H Q ⟨G, en, I, Q', o, ⟨ns, hd, q⟩, k⟩ => by
    obtain ⟨a, h1, h2⟩ := o.sl i _ hd
    exact ⟨.ref a, h1, _, ns.length, rfl, Or.inl ⟨_, (sqs_ex o.iH h2).l, by rw [List.length_map]⟩, k _ H I en _ o (Ex.rf I) (.int _) q⟩
def wIxS (i : Nat) (wb : WE) : WE := fun en Q => (∃ ns, en[i]? = some (.scr ns)) ∧ wb en fun y e1 => ∃ ns j m, e1[i]? = some (.scr ns) ∧ y = .int j ∧ atI ns j = some m ∧ Q (.int m) e1
theorem at_map {ns : List Int} {j m : Int} (h : atI ns j = some m) : atI (ns.map V.int) j = some (.int m) := by
  unfold atI at h ⊢
  rw [List.length_map]
  cases q : ixN ns.length j with
  | none => rw [q] at h; cases h
  | some t =>
    rw [q] at h
    have h' : ns[t]? = some m := h
    show (ns.map V.int)[t]? = _
    rw [List.getElem?_map, h']
    rfl
theorem d_ixS {i : Nat} (ha : PE X a (tVar i)) (hb : PE X b (lE X.K wb)) (hs : PlainIx b := by exact fun _ _ => rfl) : PE X (.Subscript a b pos) (lE X.K (wIxS i wb)) :=
  (pe_ix ix_seq ha hb hs).mo fun σ H Q ⟨G, en, I, Q', o, ⟨⟨ns0, hd0⟩, q⟩, k⟩ => by
    obtain ⟨l, h1, h2⟩ := o.sl i _ hd0
    refine ⟨.ref l, h1, G, en, I, _, o, q, fun u H1 I1 e1 d o1 x1 du ⟨ns, j, m, hd, hj, hm, q1⟩ => ?_⟩
    subst hj
    obtain ⟨l', h3, h4⟩ := o1.sl i _ hd
    rw [h1] at h3
    have q5 : l = l' := by injection h3 with h3; injection h3 with h3; injection h3
    subst q5
    exact Or.inl ⟨l, _, j, _, rfl, dp_int du, (sqs_ex o1.iH h4).l, at_map hm, k _ H1 I1 e1 _ o1 x1 (.int m) q1⟩
abbrev WSc := List Int → List D → (D → Prop) → Prop
/-- a def whose first argument is the law's list -/
def spS (K : PySem.W.Frag) (n : Nat) (wf : WSc) : Sp := fun vs H Q _ => ∃ (a : Addr) (ns : List Int) (us : List V) (ds : List D) (I : Hp) (Q' : D → Prop),
  vs = .ref a :: us ∧ Ex I H ∧ SqS K I a (ns.map V.int) ∧ DaAll K I us ds ∧ ds.length + 1 = n ∧ wf ns ds Q' ∧ ∀ v H' I' d, Gr H I H' I' → Da K I' v d → Q' d → Q v H'
/-- a call of such a def that hands back a new list of ints: one's own -/
def wFnS (i n : Nat) (wf : WSc) (w : WA) : WA := fun en Q => (∃ ns, en[i]? = some (.scr ns)) ∧ w en fun ds e1 => ∃ (ns js : List Int), ds = js.map PyData.int ∧ js.length + 1 = n ∧ e1[i]? = some (.scr ns) ∧ wf ns ds fun d => ∃ ms : List Int, d = .list (ms.map .int) ∧ Q (ms.map .int) e1
theorem c_callS {wf : WSc} {w : WA} {i : Nat} (C : Cal X.prog X.w X.K X.mg X.base k x ps (spS X.K n wf)) (hr : Room k X.A) (h0 : PE X e (tVar i)) (ha : PA X es (lA X.K w)) (hg : Gl X x := by rfl)
    (hdb : (x == ("__debug__" : Str)) = false := by decide) (he : starEach (e :: es) X.env = (false, eval e X.env) :: starEach es X.env := by rfl) (hpl : (backTo pos (starEach es X.env)).any (·.1) = false := by rfl) :
    PE X (.Call (.Name x p) (e :: es) [] pos) (lL X.K (wFnS i n wf w)) := by
  obtain ⟨f, fd, F, hm, hk, hb⟩ := C
  refine (pe_call F hr hg hm hk hb .nil pass0 (pa_cons h0 ha he) hdb he hpl).mo fun σ H Q ⟨G, en, I, Q', o, ⟨⟨ns0, hd0⟩, q⟩, k⟩ => ?_
  obtain ⟨l, h1, h2⟩ := o.sl i _ hd0
  refine ⟨.ref l, h1, G, en, I, _, o, q, fun vs H1 I1 e1 ds o1 x1 dvs ⟨ns, js, hjs, hn, hd, q1⟩ => ?_⟩
  obtain ⟨l', h3, h4⟩ := o1.sl i _ hd
  rw [h1] at h3
  have q5 : l = l' := by injection h3 with h3; injection h3 with h3; injection h3
  subst q5 hjs
  have evs := dpa_ints_inv js dvs
  subst evs
  -- the callee sees nothing but the law's list
  obtain ⟨J, jI, jl, jn⟩ : ∃ J : Hp, Ex J I1 ∧ SqS X.K J l (ns.map V.int) ∧ ∀ b xs, J b ≠ some (.lst xs) := by
    rcases h4 with ⟨w, h4⟩ | h4
    · refine ⟨fun b => if b = l then some (.frz w (.lst (ns.map V.int))) else none, fun b u hb => ?_, Or.inl ⟨w, if_pos rfl⟩, fun b xs hb => ?_⟩
      · by_cases eb : b = l
        · have hb' : (if b = l then some (HO.frz w (.lst (ns.map V.int))) else none) = some u := hb
          rw [if_pos eb] at hb'
          rw [eb, h4]; exact hb'
        · have hb' : (if b = l then some (HO.frz w (.lst (ns.map V.int))) else none) = some u := hb
          rw [if_neg eb] at hb'; cases hb'
      · have hb' : (if b = l then some (HO.frz w (.lst (ns.map V.int))) else none) = some (HO.lst xs) := hb
        split at hb' <;> cases hb'
    · exact ⟨fun _ => none, fun b u hb => (by cases hb), Or.inr h4, fun b xs hb => (by cases hb)⟩
  show spS X.K n wf ((V.ref l :: js.map V.int) ++ []) H1 Q E0
  rw [List.append_nil]
  refine ⟨l, ns, js.map V.int, js.map .int, J, _, rfl, jI.tr o1.iH, jl, dpa_ints js, by rw [List.length_map]; exact hn, q1, fun v H2 I2 d g dv ⟨ms, hms, q2⟩ => ?_⟩
  subst hms
  cases dv with
  | lst hp ha =>
    rename_i pp vs
    have ev := dpa_ints_inv ms ha
    subst ev
    have fresh : H1 pp = none := g.n pp (by rw [hp]; simp) (by
      cases z : J pp with
      | none => rfl
      | some u =>
        have z2 := g.i pp u z
        rw [hp] at z2
        cases z2
        exact absurd z (jn _ _))
    have e2 : Ex H1 (hid H2 pp) := fun b u hb => by
      have ne : b ≠ pp := fun e => by rw [e, fresh] at hb; cases hb
      rw [hid_ne ne]; exact g.h b u hb
    have eH : H2 = upd (hid H2 pp) pp (.lst (ms.map V.int)) := by
      funext b
      by_cases e : b = pp
      · rw [e, upd_same]; exact g.s _ _ hp
      · rw [upd_ne e, hid_ne e]
    rw [eH]
    exact k pp _ _ I1 e1 _ (o1.grow e2 (Ex.rf I1) (o1.iH.tr e2) fun a h1 h2 => absurd h2 h1) x1 hid_at (dpa_ints ms) q2
/-! ### the defs that take the law's list -/
def enS (N : List Str) (ns : List Int) (ds : List D) : En := .scr ns :: (ds.map .imm ++ List.replicate (N.length - (ds.length + 1)) .un)
end
section
variable {P : Program} {w : World} {K : PySem.W.Frag} {mg : Str → Option Value} {base : Heap} {x qual : Str} {params : Arguments} {body : List Stmt} {scope : Scope} {f : Addr} {fd : FuncData} {N ps : List Str} {k : Nat}
theorem fnS {wf : WSc} {ws : WS} {n : Nat} (F : FunD K x qual params body scope [] [] f fd) (S : FnScope N ps scope) (hn : ps.length = n)
    (hb : ∀ (cdv : Value) (A : Around) (outer : List Env) (s : Shared) (H : Hp) (E : XK), Room k (A.deeper (envOfC qual scope s.heap.objs.size f cdv)) → PSs (cxOf CX0 P w K mg base N qual scope f cdv A outer s H E).nox body (lS K ws))
    (hp : ∀ ns ds Q', ds.length + 1 = n → wf ns ds Q' → ws (edP Q') (enS N ns ds)) : FnOk P w K mg base CX0 (k + 1) f fd ps (spS K n wf) := by
  refine F.ok S (fun vs H Q E h => ?_) (fun cdv A outer s H vs Q E hr h => ?_)
  · obtain ⟨a, ns, us, ds, I, Q', rfl, _, _, h6, h7, _⟩ := h
    rw [List.length_cons, dpa_len h6, h7, hn]
  · obtain ⟨a, ns, us, ds, I, Q', rfl, h1, h0, h2, h3, h4, h5⟩ := h
    refine ⟨lS K ws, PSs.nox (hb cdv A outer s H E hr), ?_⟩
    have hpl : ps.length ≤ N.length := by have := congrArg List.length S.pre; rw [List.length_take] at this; omega
    have hl : us.length = ds.length := dpa_len h2
    have get_ : ∀ (i : Nat) (s : Sl), (enS N ns ds)[i]? = some s → (i = 0 ∧ s = .scr ns) ∨ (∃ d v, ds[i - 1]? = some d ∧ us[i - 1]? = some v ∧ Da K I v d ∧ s = .imm d ∧ 1 ≤ i ∧ (L2.start N (V.ref a :: us))[i]? = some (some v)) ∨ s = .un := fun i s hs => by
      unfold enS at hs
      cases i with
      | zero => exact Or.inl ⟨rfl, by simpa using hs.symm⟩
      | succ i =>
        rw [List.getElem?_cons_succ] at hs
        by_cases hi : i < ds.length
        · rw [List.getElem?_append_left (by rw [List.length_map]; exact hi), List.getElem?_map] at hs
          cases q : ds[i]? with
          | none => rw [q] at hs; cases hs
          | some d =>
            rw [q] at hs
            cases hs
            obtain ⟨v, hv, dv⟩ := dpa_get h2 q
            refine Or.inr (Or.inl ⟨d, v, q, hv, dv, rfl, by omega, ?_⟩)
            unfold L2.start
            rw [List.getElem?_append_left (by rw [List.length_map, List.length_cons, hl]; omega), List.getElem?_map, List.getElem?_cons_succ, hv]
            rfl
        · rw [List.getElem?_append_right (by rw [List.length_map]; omega), List.getElem?_replicate] at hs
          split at hs
          · cases hs; exact Or.inr (Or.inr rfl)
          · cases hs
    have s0 : (L2.start N (V.ref a :: us))[0]? = some (some (V.ref a)) := by unfold L2.start; simp
    have nown : ∀ (i : Nat) (l : Addr), ¬ OwnAt (L2.start N (V.ref a :: us)) (enS N ns ds) i l := fun i l ⟨q1, es, q2⟩ => by
      rcases get_ i _ q2 with ⟨e, e2⟩ | ⟨d, v, _, _, _, e, _⟩ | e
      · cases e2
      · cases e
      · cases e
    have o : Ok K ⟨H, I, none, []⟩ (L2.start N (V.ref a :: us)) (enS N ns ds) H I := by
      refine ⟨Ex.rf I, h1, fun a _ h => h, fun a o h _ => h, ?_, fun i s hs => ?_, fun i l h => absurd h (nown i l), fun i j l h => absurd h (nown i l), fun l h => (by cases h), fun p hp => (by cases hp)⟩
      · unfold L2.start enS
        rw [List.length_append, List.length_map, List.length_replicate, List.length_cons, List.length_cons, List.length_append, List.length_map, List.length_replicate]
        omega
      · rcases get_ i s hs with ⟨e1, e2⟩ | ⟨d, v, q1, q2, q3, e, q4, q5⟩ | e
        · subst e1 e2
          exact ⟨a, s0, h0⟩
        · subst e
          exact ⟨v, q5, q3⟩
        · subst e; trivial
    have fin : ∀ {v σ' H' I' en' d}, Ok K ⟨H, I, none, []⟩ σ' en' H' I' → Da K I' v d → Q' d → Q v H' := fun {v σ' H' I' en' d} o' dv q =>
      h5 v H' I' d ⟨fun a u q => o'.fr a u q (by simp), o'.i0, o'.iH, fun a h1 h2 => by
        cases z : H a with
        | none => rfl
        | some u => exact absurd (o'.nw a (show H a ≠ none by rw [z]; simp) h2) h1⟩ dv q
    exact lS_mk o (hp ns ds Q' h3 h4) ⟨fun σ' H' I' en' o' q => fin o' .non q, fun v σ' H' I' en' d o' dv q => fin o' dv q, fun _ _ _ _ _ q => q.elim, fun _ _ _ _ _ q => q.elim⟩
/-- the law hands back True -/
def wfLaw (n : Nat) : WSc := fun ns ds Q => ds = [] ∧ ns.length ≤ n ∧ Q (.bool true)
theorem law_sp {n : Nat} {H : Hp} {a : Addr} {ns : List Int} (hn : ns.length ≤ n) (hO : Only H) (hS : SqL K H a (ns.map V.int)) : spS K 1 (wfLaw n) [.ref a] H (fun v _ => v = .bl true) fun _ _ _ => False := by
  have h : SqS K H a (ns.map V.int) := by
    rcases hS with (h | ⟨o, h⟩) | h
    · rcases hO a with q | ⟨o, xs, q⟩
      · rw [q] at h; cases h
      · rw [q] at h; cases h
    · exact Or.inl ⟨o, h⟩
    · exact Or.inr fun _ => Or.inr h
  exact ⟨a, ns, [], [], H, fun d => d = .bool true, rfl, Ex.rf H, h, .nil, rfl, ⟨rfl, hn, rfl⟩, fun v H' I' d g dv hd => by
    subst hd
    exact dp_bl dv⟩
end
end Pd

set_option Elab.async false
set_option linter.all false
set_option maxRecDepth 100000
set_option maxHeartbeats 4000000
namespace Pd
open PySem PySem.Spec PyProof.Rows L2
section
variable {K : PySem.W.Frag} {X : Cx}
def dIadd : D → D → D → Prop := dInt (fun _ _ => True) fun i j => .int (i + j)
def dIsub : D → D → D → Prop := dInt (fun _ _ => True) fun i j => .int (i - j)
theorem snd_ipadd : SndOp K (ipI fun i j => i + j) dIadd := by
  rintro H I x y d e z iH hx hy ⟨i, j, rfl, rfl, _, rfl⟩ Q k
  cases hx; cases hy
  exact ⟨i, j, rfl, rfl, k _ H I (Gr.rf iH) (.int _)⟩
theorem snd_ipsub : SndOp K (ipI fun i j => i - j) dIsub := by
  rintro H I x y d e z iH hx hy ⟨i, j, rfl, rfl, _, rfl⟩ Q k
  cases hx; cases hy
  exact ⟨i, j, rfl, rfl, k _ H I (Gr.rf iH) (.int _)⟩
/-- math.gcd by the module's name -/
theorem d_gcd {p pos : Pos} {x : Str} {e : Expr} {es : List Expr} {w : WA} (hm : X.mg x = some (.builtin "math.gcd")) (ha : PA X (e :: es) (lA X.K w)) (hg : Gl X x := by rfl) (hdb : (x == ("__debug__" : Str)) = false := by decide)
    (he : starEach (e :: es) X.env = (false, eval e X.env) :: starEach es X.env := by rfl) (hpl : (backTo pos (starEach es X.env)).any (·.1) = false := by rfl) : PE X (.Call (.Name x p) (e :: es) [] pos) (lE X.K (wCl dGcd w)) :=
  (pe_callBfun cr_gcd hg hm ha hdb he hpl).mo fun σ H Q q => lcl snd_gcd q
/-- a target takes a value -/
def wAsgT (w : WE) (g : WG) : WS := fun R en => w en fun d e1 => g d e1 R.nx
theorem s_asgT {st : Stmt} {is : List Nat} {w : WE} {g : WG} (h : PS X st (tAsg (lE X.K w) (lG X.K is g))) : PS X st (lS X.K (wAsgT w g)) :=
  h.mo fun R σ H ⟨G, en, I, R', o, q, k⟩ => ⟨G, en, I, _, o, q, fun v H1 I1 e1 d o1 x1 dv q1 => ⟨G, e1, I1, d, R'.nx, o1, dv, q1, fun σ' H' I' en' o' x' l' k' q' => k.1 σ' H' I' en' o' q'⟩⟩
end
/-! ### readings of ints -/
theorem i_add {i j : Int} {z : D} : dAdd (.int i) (.int j) z ↔ z = .int (i + j) := Iff.rfl
theorem i_iadd {i j : Int} {z : D} : dIadd (.int i) (.int j) z ↔ z = .int (i + j) := ⟨fun ⟨_, _, rfl, rfl, _, h⟩ => h, fun h => ⟨_, _, rfl, rfl, trivial, h⟩⟩
theorem i_sub {i j : Int} {z : D} : dSub (.int i) (.int j) z ↔ z = .int (i - j) := ⟨fun ⟨_, _, rfl, rfl, _, h⟩ => h, fun h => ⟨_, _, rfl, rfl, trivial, h⟩⟩
theorem i_mul {i j : Int} {z : D} : dMul (.int i) (.int j) z ↔ MulOk i j ∧ z = .int (i * j) := by
  constructor
  · intro h
    rcases h with ⟨_, _, e1, e2, c, h⟩ | ⟨_, _, h, _⟩ | ⟨_, _, h, _⟩
    · cases e1; cases e2; exact ⟨c, h⟩
    · cases h
    · cases h
  · rintro ⟨c, h⟩
    exact Or.inl ⟨_, _, rfl, rfl, c, h⟩
theorem i_mod {i j : Int} {z : D} : dMod (.int i) (.int j) z ↔ 0 < j ∧ z = .int (i % j) := ⟨fun ⟨_, _, rfl, rfl, c, h⟩ => ⟨c, h⟩, fun ⟨c, h⟩ => ⟨_, _, rfl, rfl, c, h⟩⟩
theorem i_fdiv {i j : Int} {z : D} : dFdiv (.int i) (.int j) z ↔ CDivW i j ∧ z = .int (i / j) := ⟨fun ⟨_, _, rfl, rfl, c, h⟩ => ⟨c, h⟩, fun ⟨c, h⟩ => ⟨_, _, rfl, rfl, c, h⟩⟩
theorem i_pow {i j : Int} {z : D} : dPow (.int i) (.int j) z ↔ PowOk i j ∧ z = .int (i ^ j.toNat) := ⟨fun ⟨_, _, rfl, rfl, c, h⟩ => ⟨c, h⟩, fun ⟨c, h⟩ => ⟨_, _, rfl, rfl, c, h⟩⟩
theorem i_neg {i : Int} {z : D} : dNeg (.int i) z ↔ z = .int (-i) := ⟨fun ⟨_, rfl, h⟩ => h, fun h => ⟨_, rfl, h⟩⟩
theorem i_le {i j : Int} {z : D} : dLe (.int i) (.int j) z ↔ z = .bool (decide (i ≤ j)) := ⟨fun ⟨_, _, rfl, rfl, h⟩ => h, fun h => ⟨_, _, rfl, rfl, h⟩⟩
theorem i_ge {i j : Int} {z : D} : dGe (.int i) (.int j) z ↔ z = .bool (decide (j ≤ i)) := ⟨fun ⟨_, _, rfl, rfl, h⟩ => h, fun h => ⟨_, _, rfl, rfl, h⟩⟩
theorem i_gt {i j : Int} {z : D} : dGt (.int i) (.int j) z ↔ z = .bool (decide (j < i)) := ⟨fun ⟨_, _, rfl, rfl, h⟩ => h, fun h => ⟨_, _, rfl, rfl, h⟩⟩
theorem i_lt {i j : Int} {z : D} : dLt (.int i) (.int j) z ↔ z = .bool (decide (i < j)) := by
  constructor
  · intro h
    rcases h with ⟨_, _, e1, e2, h⟩ | ⟨_, _, e, _⟩
    · cases e1; cases e2; exact h
    · cases e
  · exact fun h => Or.inl ⟨_, _, rfl, rfl, h⟩
theorem ints_inj : ∀ {as bs : List Int}, as.map PyData.int = bs.map PyData.int → as = bs
  | [], [], _ => rfl
  | [], _ :: _, h => by cases h
  | _ :: _, [], h => by cases h
  | a :: as, b :: bs, h => by
    simp only [List.map_cons, List.cons.injEq, PyData.int.injEq] at h
    rw [h.1, ints_inj h.2]
theorem i_ltT {ns ms : List Int} {z : D} : dLt (.tuple (ns.map .int)) (.tuple (ms.map .int)) z ↔ z = .bool (HT.lexLt ns ms) := by
  constructor
  · intro h
    rcases h with ⟨_, _, e1, e2, h⟩ | ⟨ns', ms', e1, e2, h⟩
    · cases e1
    · simp only [PyData.tuple.injEq] at e1 e2
      rw [ints_inj e1, ints_inj e2]; exact h
  · exact fun h => Or.inr ⟨_, _, rfl, rfl, h⟩
theorem eqv_int {i j : Int} : PyData.eqv (.int i) (.int j) = decide (i = j) := by simp [PyData.eqv]; rfl
theorem i_eq {i j : Int} {z : D} : dEq (.int i) (.int j) z ↔ z = .bool (decide (i = j)) := by
  unfold dEq; rw [eqv_int]; exact ⟨fun h => h.2.2, fun h => ⟨rfl, rfl, h⟩⟩
theorem i_ne {i j : Int} {z : D} : dNe (.int i) (.int j) z ↔ z = .bool (decide (i ≠ j)) := by
  unfold dNe; rw [eqv_int, decide_not]; exact ⟨fun h => h.2.2, fun h => ⟨rfl, rfl, h⟩⟩
theorem i_intI {i : Int} {z : D} : dIntOf [.int i] z ↔ z = .int i := Iff.rfl
theorem i_intB {b : Bool} {z : D} : dIntOf [.bool b] z ↔ z = .int (if b then 1 else 0) := Iff.rfl
theorem i_abs {i : Int} {z : D} : dAbs [.int i] z ↔ z = .int (if i < 0 then -i else i) := ⟨fun ⟨_, e, h⟩ => by cases e; exact h, fun h => ⟨_, rfl, h⟩⟩
theorem i_max {i j : Int} {z : D} : dMax2 [.int i, .int j] z ↔ z = .int (if j > i then j else i) := ⟨fun ⟨_, _, e, h⟩ => by cases e; exact h, fun h => ⟨_, _, rfl, h⟩⟩
theorem i_min {i j : Int} {z : D} : dMin2 [.int i, .int j] z ↔ z = .int (if j < i then j else i) := ⟨fun ⟨_, _, e, h⟩ => by cases e; exact h, fun h => ⟨_, _, rfl, h⟩⟩
theorem i_lenL {xs : List D} {z : D} : dLen [.list xs] z ↔ z = .int xs.length := Iff.rfl
theorem i_lenT {xs : List D} {z : D} : dLen [.tuple xs] z ↔ z = .int xs.length := Iff.rfl
theorem i_ixL {xs : List D} {i : Int} {z : D} : dIx (.list xs) (.int i) z ↔ atI xs i = some z := Iff.rfl
theorem i_ixT {xs : List D} {i : Int} {z : D} : dIx (.tuple xs) (.int i) z ↔ atI xs i = some z := Iff.rfl
theorem i_tupL {xs : List D} {z : D} : dTupOf [.list xs] z ↔ z = .tuple xs := Iff.rfl
theorem i_tupT {xs : List D} {z : D} : dTupOf [.tuple xs] z ↔ z = .tuple xs := Iff.rfl
theorem i_truB {b c : Bool} : Tru (.bool b) c ↔ c = b := by unfold Tru; constructor <;> intro h <;> first | exact h | exact h.symm
end Pd

set_option Elab.async false
set_option linter.all false
set_option maxRecDepth 100000
set_option maxHeartbeats 4000000
namespace Pd
open PySem PySem.Spec PyProof.Rows L2
theorem small_l {i j : Int} (h : -(2 ^ 64) < i) (h2 : i < 2 ^ 64) : MulOk i j := Or.inl (Or.inl ⟨h, h2⟩)
theorem small_r {i j : Int} (h : -(2 ^ 64) < j) (h2 : j < 2 ^ 64) : MulOk i j := Or.inl (Or.inr ⟨h, h2⟩)
theorem pow_ok {i j : Int} (h : decide (0 ≤ j) && decide ((Builtin.Int.intBits i : Int) * j ≤ 2 ^ 27) = true) : PowOk i j := by
  simp only [Bool.and_eq_true, decide_eq_true_eq] at h
  exact h
theorem at0 {α : Type} {a : α} {l : List α} : atI (a :: l) 0 = some a := by
  unfold atI ixN; simp
theorem at_nat {α : Type} {l : List α} {i : Nat} (h : i < l.length) : atI l (i : Int) = some l[i] := by
  unfold atI ixN
  rw [if_pos (by omega), if_pos (by omega)]
  show l[(i : Int).toNat]? = _
  rw [show (i : Int).toNat = i by omega, List.getElem?_eq_getElem h]
theorem at_int {α : Type} {l : List α} {i : Int} (h0 : 0 ≤ i) (h : i < l.length) : ∃ x, atI l i = some x ∧ x ∈ l := by
  obtain ⟨k, rfl⟩ := Int.eq_ofNat_of_zero_le h0
  exact ⟨_, at_nat (by omega), List.getElem_mem _⟩
theorem at1 {α : Type} {a b : α} {l : List α} : atI (a :: b :: l) 1 = some b := at_nat (i := 1) (by simp)
theorem at2 {α : Type} {a b c : α} {l : List α} : atI (a :: b :: c :: l) 2 = some c := at_nat (i := 2) (by simp)
theorem ix30 : ixN 3 0 = some 0 := rfl
theorem ix31 : ixN 3 1 = some 1 := rfl
theorem ix32 : ixN 3 2 = some 2 := rfl
/-! ### comparisons of sequences of ints -/
theorem lay_ints : ∀ ls : List Int, PyData.canLayAll0 (ls.map .int) = true
  | [] => rfl
  | _ :: ls => lay_ints ls
theorem dep_ints : ∀ ls : List Int, PyData.depthAll (ls.map .int) = 0
  | [] => rfl
  | _ :: ls => by
    show max 0 (PyData.depthAll (ls.map .int)) = 0
    rw [dep_ints ls]; rfl
theorem shaped_tup (ls : List Int) : SeqAt.shaped (.tuple (ls.map .int)) = true := by
  show (PyData.canLayAll0 (ls.map .int) && decide (PyData.depthAll (ls.map .int) + 1 ≤ 64)) = true
  rw [lay_ints, dep_ints]; rfl
theorem shaped_lst (ls : List Int) : SeqAt.shaped (.list (ls.map .int)) = true := by
  show (PyData.canLayAll0 (ls.map .int) && decide (PyData.depthAll (ls.map .int) + 1 ≤ 64)) = true
  rw [lay_ints, dep_ints]; rfl
theorem eqv_ints : ∀ as bs : List Int, PyData.eqvAll (as.map .int) (bs.map .int) = decide (as = bs)
  | [], [] => rfl
  | [], _ :: _ => rfl
  | _ :: _, [] => rfl
  | a :: as, b :: bs => by
    show (PyData.eqv (.int a) (.int b) && PyData.eqvAll (as.map .int) (bs.map .int)) = _
    rw [eqv_int, eqv_ints as bs, ← Bool.decide_and]
    exact decide_eq_decide.mpr (by rw [List.cons.injEq])
theorem i_eqT {as bs : List Int} {z : D} : dEq (.tuple (as.map .int)) (.tuple (bs.map .int)) z ↔ z = .bool (decide (as = bs)) := by
  unfold dEq
  rw [show PyData.eqv (.tuple (as.map .int)) (.tuple (bs.map .int)) = decide (as = bs) from eqv_ints as bs]
  exact ⟨fun h => h.2.2, fun h => ⟨shaped_tup _, shaped_tup _, h⟩⟩
theorem i_neT {as bs : List Int} {z : D} : dNe (.tuple (as.map .int)) (.tuple (bs.map .int)) z ↔ z = .bool (decide (as ≠ bs)) := by
  unfold dNe
  rw [show PyData.eqv (.tuple (as.map .int)) (.tuple (bs.map .int)) = decide (as = bs) from eqv_ints as bs, decide_not]
  exact ⟨fun h => h.2.2, fun h => ⟨shaped_tup _, shaped_tup _, h⟩⟩
theorem i_eqL {as bs : List Int} {z : D} : dEq (.list (as.map .int)) (.list (bs.map .int)) z ↔ z = .bool (decide (as = bs)) := by
  unfold dEq
  rw [show PyData.eqv (.list (as.map .int)) (.list (bs.map .int)) = decide (as = bs) from eqv_ints as bs]
  exact ⟨fun h => h.2.2, fun h => ⟨shaped_lst _, shaped_lst _, h⟩⟩
theorem i_neL {as bs : List Int} {z : D} : dNe (.list (as.map .int)) (.list (bs.map .int)) z ↔ z = .bool (decide (as ≠ bs)) := by
  unfold dNe
  rw [show PyData.eqv (.list (as.map .int)) (.list (bs.map .int)) = decide (as = bs) from eqv_ints as bs, decide_not]
  exact ⟨fun h => h.2.2, fun h => ⟨shaped_lst _, shaped_lst _, h⟩⟩
theorem i_eqB {a b : Bool} {z : D} : dEq (.bool a) (.bool b) z ↔ z = .bool (a == b) := by
  unfold dEq; exact ⟨fun h => h.2.2, fun h => ⟨rfl, rfl, h⟩⟩
theorem i_neB {a b : Bool} {z : D} : dNe (.bool a) (.bool b) z ↔ z = .bool (!(a == b)) := by
  unfold dNe; exact ⟨fun h => h.2.2, fun h => ⟨rfl, rfl, h⟩⟩
/-! ### comprehensions -/
theorem lc_pure {j : Nat} {f : D → D} {w : WE} {en : En} (hj : j ≠ 0) : ∀ {xs acc : List D} {Q : List D → En → Prop}, (∀ x ∈ xs, ∀ Q : D → En → Prop, Q (f x) (en.set j (.imm x)) → w (en.set j (.imm x)) Q) → Q (acc ++ xs.map f) (en.set j .un) → lcW (wgN j) wYes w [j] xs acc (en.set j .un) Q
  | [], acc, Q, _, q => by rw [List.map_nil, List.append_nil] at q; exact q
  | x :: xs, acc, Q, h, q => by
    refine ⟨Or.inl hj, ?_⟩
    show FreeS _ [j] ∧ _
    rw [List.set_set]
    refine ⟨fun v hv => Or.inl (by rw [List.mem_singleton] at hv; rw [hv]; exact hj), ?_⟩
    rw [if_pos rfl]
    refine h x List.mem_cons_self _ ⟨fun v hv => Or.inl (by rw [List.mem_singleton] at hv; rw [hv]; exact hj), ?_⟩
    show lcW _ _ _ _ _ _ ((en.set j (.imm x)).set j .un) _
    rw [List.set_set]
    refine lc_pure hj (fun y hy => h y (List.mem_cons_of_mem _ hy)) ?_
    rw [List.append_assoc]
    exact q
theorem bak_one {j : Nat} {en : En} : bak [j] en (en.set j .un) = en := by
  refine List.ext_getElem? fun i => ?_
  unfold bak
  rw [List.getElem?_map, List.length_set]
  by_cases hi : i < en.length
  · rw [List.getElem?_eq_getElem (by rw [List.length_range]; exact hi), List.getElem_range, List.getElem?_eq_getElem hi]
    show some (if i ∈ [j] then en.getD i .un else (en.set j .un).getD i .un) = _
    by_cases hm : i ∈ [j]
    · rw [if_pos hm, List.getD_eq_getElem?_getD, List.getElem?_eq_getElem hi]; rfl
    · rw [if_neg hm, List.getD_eq_getElem?_getD, List.getElem?_set_ne (fun e => hm (by rw [e]; exact List.mem_singleton.mpr rfl)), List.getElem?_eq_getElem hi]; rfl
  · rw [List.getElem?_eq_none (by rw [List.length_range]; omega), List.getElem?_eq_none (by omega)]; rfl
theorem free_one {j : Nat} {en : En} (hj : j ≠ 0) : FreeS en [j] := fun v hv => Or.inl (by rw [List.mem_singleton] at hv; rw [hv]; exact hj)
/-- a comprehension without a test over one name, of no change -/
theorem lc1 {wi : WA} {j : Nat} {f : D → D} {w : WE} {en e1 : En} {xs : List D} {Q : List D → En → Prop} (hj : j ≠ 0) (hi : ∀ Q : List D → En → Prop, Q xs e1 → wi en Q) (hn : NotOwn e1[j]?) (hl : xs.length ≤ sizeLine)
    (hw : ∀ x ∈ xs, ∀ Q : D → En → Prop, Q (f x) (e1.set j (.imm x)) → w (e1.set j (.imm x)) Q) (q : Q (xs.map f) e1) : wLc wi (wgN j) wYes w [j] en Q := by
  refine hi _ ⟨free_one hj, fun v hv => by rw [List.mem_singleton] at hv; rw [hv]; exact hn, hl, ?_⟩
  show lcW _ _ _ _ _ _ (e1.set j .un) _
  refine lc_pure hj hw ?_
  show Q ([] ++ xs.map f) (bak [j] e1 (e1.set j .un))
  rw [bak_one]; exact q
/-- a comprehension with a test, of no change -/
theorem lc_if {j : Nat} {f : D → D} {c : D → Bool} {t : WT} {w : WE} {en : En} (hj : j ≠ 0) : ∀ {xs acc : List D} {Q : List D → En → Prop}, (∀ x ∈ xs, ∀ Q : Bool → En → Prop, Q (c x) (en.set j (.imm x)) → t (en.set j (.imm x)) Q) →
    (∀ x ∈ xs, c x = true → ∀ Q : D → En → Prop, Q (f x) (en.set j (.imm x)) → w (en.set j (.imm x)) Q) → Q (acc ++ (xs.filter c).map f) (en.set j .un) → lcW (wgN j) t w [j] xs acc (en.set j .un) Q
  | [], acc, Q, _, _, q => by
    have q' : Q (acc ++ []) (en.set j .un) := q
    rw [List.append_nil] at q'; exact q'
  | x :: xs, acc, Q, ht, h, q => by
    refine ⟨Or.inl hj, ?_⟩
    show t ((en.set j .un).set j (.imm x)) _
    rw [List.set_set]
    refine ht x List.mem_cons_self _ ⟨free_one hj, ?_⟩
    cases hc : c x with
    | true =>
      rw [if_pos rfl]
      refine h x List.mem_cons_self hc _ ⟨free_one hj, ?_⟩
      show lcW _ _ _ _ _ _ ((en.set j (.imm x)).set j .un) _
      rw [List.set_set]
      refine lc_if hj (fun y hy => ht y (List.mem_cons_of_mem _ hy)) (fun y hy => h y (List.mem_cons_of_mem _ hy)) ?_
      rw [List.append_assoc]
      rw [List.filter_cons_of_pos hc, List.map_cons] at q
      exact q
    | false =>
      rw [if_neg (by decide)]
      show lcW _ _ _ _ _ _ ((en.set j (.imm x)).set j .un) _
      rw [List.set_set]
      refine lc_if hj (fun y hy => ht y (List.mem_cons_of_mem _ hy)) (fun y hy => h y (List.mem_cons_of_mem _ hy)) ?_
      rw [List.filter_cons_of_neg (by rw [hc]; decide)] at q
      exact q
theorem lc1if {wi : WA} {j : Nat} {f : D → D} {c : D → Bool} {t : WT} {w : WE} {en e1 : En} {xs : List D} {Q : List D → En → Prop} (hj : j ≠ 0) (hi : ∀ Q : List D → En → Prop, Q xs e1 → wi en Q) (hn : NotOwn e1[j]?) (hl : xs.length ≤ sizeLine)
    (ht : ∀ x ∈ xs, ∀ Q : Bool → En → Prop, Q (c x) (e1.set j (.imm x)) → t (e1.set j (.imm x)) Q)
    (hw : ∀ x ∈ xs, c x = true → ∀ Q : D → En → Prop, Q (f x) (e1.set j (.imm x)) → w (e1.set j (.imm x)) Q) (q : Q ((xs.filter c).map f) e1) : wLc wi (wgN j) t w [j] en Q := by
  refine hi _ ⟨free_one hj, fun v hv => by rw [List.mem_singleton] at hv; rw [hv]; exact hn, hl, ?_⟩
  show lcW _ _ _ _ _ _ (e1.set j .un) _
  refine lc_if hj ht hw ?_
  show Q ([] ++ (xs.filter c).map f) (bak [j] e1 (e1.set j .un))
  rw [bak_one]; exact q
theorem log_lt {t : Int} (h0 : 0 < t) (h : t < 2 ^ 64) : t.natAbs.log2 < 9000 := by
  have h3 : t.natAbs.log2 < 64 := (Nat.log2_lt (by omega)).mpr (by omega)
  omega
theorem div_ok {i t : Int} (h0 : 0 < t) (h : t < 2 ^ 64) : CDivW i t := ⟨h0, log_lt h0 h⟩
end Pd

set_option Elab.async false
set_option linter.all false
set_option maxRecDepth 100000
set_option maxHeartbeats 4000000
namespace Pd
open PySem PySem.Spec PyProof.Rows L2
section
variable {K : PySem.W.Frag} {X : Cx} {e o : Expr} {w : WE}
/-! ### repr of a bool -/
def rReprB : List V → Hp → VK → Prop := fun xs H Q => ∃ b, xs = [.bl b] ∧ Q (.str (if b then "True" else "False")) H
theorem call_repr_bl : CallR X (.builtin "repr") rReprB := by
  intro pins s σ H xs us Q I r h
  obtain ⟨b, rfl, q⟩ := h
  cases r with
  | cons r1 r2 =>
    cases r2
    cases r1
    exact PySem.P.repr_of_bool ⟨.str _, H, I.tok _, ⟨_, rfl⟩, q⟩
def dReprB : List D → D → Prop := fun xs z => ∃ b : Bool, xs = [.bool b] ∧ z = .str (if b then "True" else "False")
theorem snd_reprB : SndCl K rReprB dReprB := by
  rintro H I xs ds z iH hx ⟨b, rfl, rfl⟩ Q k
  cases hx with
  | cons h t => cases t; cases h; exact ⟨b, rfl, k _ H I (Gr.rf iH) (.str _)⟩
theorem i_reprB {b : Bool} {z : D} : dReprB [.bool b] z ↔ z = .str (if b then "True" else "False") := ⟨fun ⟨_, e, h⟩ => by cases e; exact h, fun h => ⟨_, rfl, h⟩⟩
theorem i_neRB {a b : Bool} {z : D} : dNe (.str (if a then "True" else "False")) (.str (if b then "True" else "False")) z ↔ z = .bool (!(a == b)) := by
  cases a <;> cases b <;> exact ⟨fun h => h.2.2.trans (by rfl), fun h => ⟨by decide +kernel, by decide +kernel, h.trans (by rfl)⟩⟩
/-! ### xs.pop(i), xs one's own -/
def wPopO (i : Nat) (w : WE) : WE := fun en Q => (∃ ds, en[i]? = some (.own ds)) ∧ w en fun d e1 => ∃ ds j x, e1[i]? = some (.own ds) ∧ d = .int (j : Nat) ∧ j < 2 ^ 62 ∧ ds[j]? = some x ∧ Q x (e1.set i (.own (ds.eraseIdx j)))
theorem d_popO {i : Nat} {p1 p2 : Pos} (pe : PE X (.Call (.Attribute o "pop" p1) [e] [] p2) (tBM X.K "list" rPopAt (tVar i) (tCons (lE X.K w) tNil))) : PE X (.Call (.Attribute o "pop" p1) [e] [] p2) (lE X.K (wPopO i w)) :=
  pe.mo fun σ H Q ⟨G, en, I, Q', ok, ⟨⟨ds0, h0⟩, q⟩, k⟩ => by
    obtain ⟨l, vs0, r1, r2, r3, r4⟩ := ok.own h0
    refine ⟨.ref l, r1, Or.inl ⟨rfl, vs0, SqL.of r3⟩, G, en, I, _, ok, q, fun v H1 I1 e1 d o1 x1 dv ⟨ds, j, x, hd, hj, hz, hx, q1⟩ => ?_⟩
    subst hj
    obtain ⟨l', vs, s1, s2, s3, s4⟩ := o1.own hd
    rw [r1] at s1
    have q5 : l = l' := by injection s1 with s1; injection s1 with s1; injection s1
    subst q5
    obtain ⟨y, hy, dy⟩ := dpa_get s4 hx
    have hlt : j < vs.length := (List.getElem?_eq_some_iff.mp hy).1
    refine ⟨l, vs, j, j, y, rfl, by rw [dp_int dv], s3, by omega, by omega, ?_, hy, ?_⟩
    · unfold seqIndex?
      have h0 : ¬ ((j : Nat) : Int) < 0 := by omega
      simp only [h0, if_false]
      simp [hlt]
    · refine k y _ I1 _ x (o1.turn (H' := upd H1 l (.lst (vs.eraseIdx j))) (vs := vs.eraseIdx j) ⟨r1, ds, hd⟩ (fun a u ha h => by rw [upd_ne ha]; exact h) (Ex.rf I1) (fun a u h => ?_) (fun a h1 h2 => absurd h2 h1) upd_same (dpa_erase j s4)) x1 dy q1
      have : a ≠ l := fun ea => by subst ea; rw [s2] at h; cases h
      rw [upd_ne this]; exact o1.iH a u h
end
end Pd

set_option Elab.async false
set_option linter.all false
set_option maxRecDepth 100000
set_option maxHeartbeats 4000000
namespace Pd
open PySem PySem.Spec PyProof.Rows L2
/-! ### a head's facts, with the module's names of built-in functions -/
abbrev AlB : Type := He.AlD × Bool
def isBf (K : PySem.W.Frag) (b : Str × String) : Bool :=
  He.eqO (PySem.W.nsIn K mainGlobals b.1) (some (some (.builtin b.2)))
def obB (fa : List He.Fa) (fn : List He.DefD) (bs : List (Str × String)) (K : PySem.W.Frag) : AlB := ⟨He.obsD fa fn K, bs.all (isBf K)⟩
def obBG (n : Nat) (fa : List He.Fa) (fn : List He.DefD) (bs : List (Str × String)) (g : Addr → Option Obj) : AlB :=
  obB fa fn bs (He.frG g (He.asD g n))
def SaysB (fa : List He.Fa) (fn : List He.DefD) (bs : List (Str × String)) (K : PySem.W.Frag) : Prop := obB fa fn bs K = ⟨He.valD fn, true⟩
def hkB (n : Nat) (fa : List He.Fa) (fn : List He.DefD) (bs : List (Str × String)) : PySem.W.Hook where
  α := AlB
  val _ := ⟨He.valD fn, true⟩
  obs s := obBG n fa fn bs s.heap.get?
  says _ h := ∃ K, PySem.W.Frag.In K h ∧ SaysB fa fn bs K
  of _ _ e := ⟨_, He.frG_in, e⟩
  keeps _ _ _ := fun ⟨K, i, c⟩ k => ⟨K, PySem.W.Frag.In.keeps i k, c⟩
theorem obB_eq {n : Nat} {fa : List He.Fa} {fn : List He.DefD} {bs : List (Str × String)} {g : Addr → Option Obj} {s : Shared} (h : ∀ a, g a = s.heap.get? a) : obBG n fa fn bs g = (hkB n fa fn bs).obs s := by
  rw [show g = s.heap.get? from funext h]
  rfl
section
variable {fa : List He.Fa} {fn : List He.DefD} {bs : List (Str × String)} {K : PySem.W.Frag} {h : Heap} {mg : Str → Option Value}
theorem SaysB.d (c : SaysB fa fn bs K) : He.SaysD fa fn K := congrArg Prod.fst c
theorem SaysB.bf (c : SaysB fa fn bs K) (X : K.In h) (G : h.Ns mainGlobals mg) (i : Nat) {b : Str × String} (e : bs[i]? = some b := by rfl) : mg b.1 = some (.builtin b.2) := by
  have q : bs.all (isBf K) = true := congrArg Prod.snd c
  exact PySem.W.mg_of X G (He.eqO_ok (List.all_eq_true.mp q b (List.mem_of_getElem? e)))
end
/-! ### // by any divisor but 0 -/
def CDivG (_ j : Int) : Prop := j ≠ 0 ∧ j.natAbs.log2 < 9000
theorem op_fdivG {X : Cx} : OpR X (binaryOp .FloorDiv) (rI CDivG fun i j => .int (i.fdiv j)) := opI fun i j _ _ _ _ _ hc q =>
  floordiv_int hc.1 q (.inl (PyProof.noPylong_of_log2 hc.2))
def dFdivG : D → D → D → Prop := dInt CDivG fun i j => .int (i.fdiv j)
theorem snd_fdivG {K : PySem.W.Frag} : SndOp K (rI CDivG fun i j => .int (i.fdiv j)) dFdivG := snd_int
theorem i_fdivG {i j : Int} {z : D} : dFdivG (.int i) (.int j) z ↔ CDivG i j ∧ z = .int (i.fdiv j) := ⟨fun ⟨_, _, rfl, rfl, c, h⟩ => ⟨c, h⟩, fun ⟨c, h⟩ => ⟨_, _, rfl, rfl, c, h⟩⟩
theorem divG {i t : Int} (h0 : 0 < t) (h : t.natAbs.log2 < 9000) : CDivG i t := ⟨by omega, h⟩
/-! ### a, b, c = a list -/
def wgLs (n : Nat) (r : WGs) : WG := fun d en Q => ∃ ds, d = .list ds ∧ ds.length = n ∧ r ds en Q
theorem g_unl {X : Cx} {es : List Expr} {pos : Pos} {is : List Nat} {k n : Nat} {r : WGs} (hc : X.calm = true) (h : PGs X es (lGs X.K is r)) (pg : PG X (.Tuple es k pos) (gUnl X.K n (lGs X.K is r))) : PG X (.Tuple es k pos) (lG X.K is (wgLs n r)) :=
  pg.mo fun v σ H Q ⟨G, en, I, d, Q', o, dv, ⟨ds, hd, hn, q⟩, kk⟩ => by
    subst hd
    cases dv with
    | lst hs ha => exact ⟨_, _, rfl, SqL.of (o.iH _ _ hs), by rw [dpa_len ha]; exact hn, G, en, I, ds, Q', o, ha, q, kk⟩
end Pd

set_option Elab.async false
set_option linter.all false
set_option maxRecDepth 100000
set_option maxHeartbeats 4000000
namespace Pd
open PySem PySem.Spec PyProof.Rows L2
/-! ### fractions -/
def BB : Nat := 2 ^ 4000
theorem bb_pos : 0 < BB := by unfold BB; exact Nat.pow_pos (by decide)
theorem bb_sq : BB * BB ≤ 2 ^ 9000 := by decide +kernel
theorem bb_le : BB ≤ BB * BB := Nat.le_mul_of_pos_left _ bb_pos
theorem log_bb {n : Nat} (h : n < BB * BB) : n.log2 < 9000 := by
  by_cases h0 : n = 0
  · rw [h0]; decide
  · exact (Nat.log2_lt h0).mpr (Nat.lt_of_lt_of_le h bb_sq)
theorem mul_bb {i j : Int} (h : i.natAbs < BB) (h2 : j.natAbs < BB) : MulOk i j := by
  have h3 := log_bb (Nat.lt_of_lt_of_le h bb_le)
  have h4 := log_bb (Nat.lt_of_lt_of_le h2 bb_le)
  refine Or.inr ?_
  show _ < 1000000
  omega
/-- a fraction, as the program has it -/
def fr (q : Rat) : D := .tuple [.int q.num, .int q.den]
/-- its parts are below b -/
def Sm (b : Nat) (q : Rat) : Prop := q.num.natAbs < b ∧ q.den < b
theorem gcd_pos {t b : Int} (hb : b ≠ 0) : 0 < Int.gcd t b := Int.gcd_pos_of_ne_zero_right t hb
theorem gcd_le {t b : Int} (hb : b ≠ 0) : Int.gcd t b ≤ b.natAbs := Nat.le_of_dvd (by omega) (Nat.gcd_dvd_right _ _)
theorem low_den {t b : Int} (hb : b ≠ 0) : ((Rat.divInt t b).den : Int) = (b.natAbs : Int) / (Int.gcd t b : Int) := by
  rw [Rat.den_divInt, if_neg hb, Int.gcd_comm]; rfl
theorem low_num {t b : Int} (hb : b ≠ 0) : (Rat.divInt t b).num = b.sign * t / (Int.gcd t b : Int) := by
  rw [Rat.num_divInt, Int.gcd_comm]
theorem low_pos {t b : Int} (hb : 0 < b) : .tuple [.int (t / (Int.gcd t b : Int)), .int (b / (Int.gcd t b : Int))] = fr (Rat.divInt t b) := by
  unfold fr
  rw [low_den (by omega), low_num (by omega), Int.sign_eq_one_of_pos hb, Int.one_mul, Int.natAbs_of_nonneg (by omega)]
theorem low_neg {t b : Int} (hb : b < 0) : .tuple [.int ((-t) / (Int.gcd t b : Int)), .int ((-b) / (Int.gcd t b : Int))] = fr (Rat.divInt t b) := by
  unfold fr
  rw [low_den (by omega), low_num (by omega), Int.sign_eq_neg_one_of_neg hb, Int.neg_mul, Int.one_mul, Int.ofNat_natAbs_of_nonpos (by omega)]
theorem fdiv_pos {a b : Int} (h : 0 < b) : a.fdiv b = a / b := Int.fdiv_eq_ediv_of_nonneg a (by omega)
theorem fdiv_neg' {a b : Int} (h : 0 < b) (hd : b ∣ a) : a.fdiv (-b) = (-a) / b := by
  rw [Int.fdiv_neg (by omega), if_pos hd, fdiv_pos h, Int.neg_ediv_of_dvd hd]
theorem gcd_dvd_l {t b : Int} : (Int.gcd t b : Int) ∣ t := Int.gcd_dvd_left t b
theorem gcd_dvd_r {t b : Int} : (Int.gcd t b : Int) ∣ b := Int.gcd_dvd_right t b
theorem fr_add (p q : Rat) : Rat.divInt (p.num * q.den + q.num * p.den) (p.den * q.den) = p + q := by
  have hp : (p.den : Int) ≠ 0 := by have := p.den_pos; omega
  have hq : (q.den : Int) ≠ 0 := by have := q.den_pos; omega
  conv => rhs; rw [← Rat.num_divInt_den p, ← Rat.num_divInt_den q]
  rw [Rat.divInt_add_divInt _ _ hp hq]
theorem fr_mul (p q : Rat) : Rat.divInt (p.num * q.num) (p.den * q.den) = p * q := by
  conv => rhs; rw [← Rat.num_divInt_den p, ← Rat.num_divInt_den q]
  rw [Rat.divInt_mul_divInt]
theorem num_le {t b : Int} : (Rat.divInt t b).num.natAbs ≤ t.natAbs := by
  by_cases hb : b = 0
  · subst hb; rw [Rat.divInt_zero]; exact Nat.zero_le _
  · rw [low_num hb]
    have h1 : (b.sign * t / (Int.gcd t b : Int)).natAbs ≤ (b.sign * t).natAbs := by
      rw [Int.natAbs_ediv_of_dvd (Int.dvd_mul_of_dvd_right gcd_dvd_l)]
      exact Nat.div_le_self _ _
    rw [Int.natAbs_mul] at h1
    have h2 : b.sign.natAbs = 1 := Int.natAbs_sign_of_ne_zero hb
    rw [h2, Nat.one_mul] at h1
    exact h1
theorem den_le {t b : Int} (hb : b ≠ 0) : (Rat.divInt t b).den ≤ b.natAbs := by
  rw [Rat.den_divInt, if_neg hb]
  exact Nat.div_le_self _ _
theorem add_num_le (p q : Rat) : (p + q).num.natAbs ≤ p.num.natAbs * q.den + q.num.natAbs * p.den := by
  rw [← fr_add]
  refine Nat.le_trans num_le (Nat.le_trans (Int.natAbs_add_le _ _) ?_)
  rw [Int.natAbs_mul, Int.natAbs_mul]
  exact Nat.le_refl _
theorem add_den_le (p q : Rat) : (p + q).den ≤ p.den * q.den := by
  rw [← fr_add]
  have hp := p.den_pos
  have hq := q.den_pos
  have h := Nat.mul_pos hp hq
  refine Nat.le_trans (den_le (by rw [← Int.natCast_mul]; omega)) ?_
  rw [Int.natAbs_mul]
  exact Nat.le_refl _
theorem mul_num_le (p q : Rat) : (p * q).num.natAbs ≤ p.num.natAbs * q.num.natAbs := by
  rw [← fr_mul]
  refine Nat.le_trans num_le ?_
  rw [Int.natAbs_mul]
  exact Nat.le_refl _
theorem mul_den_le (p q : Rat) : (p * q).den ≤ p.den * q.den := by
  rw [← fr_mul]
  have hp := p.den_pos
  have hq := q.den_pos
  have h := Nat.mul_pos hp hq
  refine Nat.le_trans (den_le (by rw [← Int.natCast_mul]; omega)) ?_
  rw [Int.natAbs_mul]
  exact Nat.le_refl _
/-- parts of at most n -/
def Le (n : Nat) (q : Rat) : Prop := q.num.natAbs ≤ n ∧ q.den ≤ n
theorem le_add {p q : Rat} {a b : Nat} (hp : Le a p) (hq : Le b q) : Le (2 * (a * b)) (p + q) := by
  refine ⟨Nat.le_trans (add_num_le p q) ?_, Nat.le_trans (add_den_le p q) ?_⟩
  · have h1 := Nat.mul_le_mul hp.1 hq.2
    have h2 := Nat.mul_le_mul hq.1 hp.2
    rw [Nat.mul_comm b a] at h2
    omega
  · have h1 := Nat.mul_le_mul hp.2 hq.2
    omega
theorem le_mul {p q : Rat} {a b : Nat} (hp : Le a p) (hq : Le b q) : Le (a * b) (p * q) :=
  ⟨Nat.le_trans (mul_num_le p q) (Nat.mul_le_mul hp.1 hq.1), Nat.le_trans (mul_den_le p q) (Nat.mul_le_mul hp.2 hq.2)⟩
theorem le_neg {q : Rat} {b : Nat} (hq : Le b q) : Le b (-q) := ⟨by rw [Rat.neg_num, Int.natAbs_neg]; exact hq.1, by rw [Rat.neg_den]; exact hq.2⟩
theorem Le.sm {q : Rat} {n b : Nat} (h : Le n q) (hn : n < b) : Sm b q := ⟨Nat.lt_of_le_of_lt h.1 hn, Nat.lt_of_le_of_lt h.2 hn⟩
theorem Sm.up {q : Rat} {n b : Nat} (h : Sm n q) (hn : n ≤ b) : Sm b q := ⟨Nat.lt_of_lt_of_le h.1 hn, Nat.lt_of_lt_of_le h.2 hn⟩
theorem fr_inj {p q : Rat} (h : p.num = q.num) (h2 : (p.den : Int) = q.den) : p = q := Rat.ext h (by omega)
theorem fr_tup (q : Rat) : fr q = .tuple ([q.num, (q.den : Int)].map .int) := rfl
theorem i_neF {p q : Rat} {z : D} : dNe (fr p) (fr q) z ↔ z = .bool (decide (p ≠ q)) := by
  rw [fr_tup, fr_tup, i_neT]
  have e : ([p.num, (p.den : Int)] ≠ [q.num, (q.den : Int)]) = (p ≠ q) := propext ⟨fun h e => h (by rw [e]), fun h e => by
    simp only [List.cons.injEq, and_true] at e
    exact h (fr_inj e.1 e.2)⟩
  simp only [e]
theorem i_eqF {p q : Rat} {z : D} : dEq (fr p) (fr q) z ↔ z = .bool (decide (p = q)) := by
  rw [fr_tup, fr_tup, i_eqT]
  have e : ([p.num, (p.den : Int)] = [q.num, (q.den : Int)]) = (p = q) := propext ⟨fun e => by
    simp only [List.cons.injEq, and_true] at e
    exact fr_inj e.1 e.2, fun e => by rw [e]⟩
  simp only [e]
/-! ### any data beside itself -/
mutual
def plainD : D → Bool
  | .none | .bool _ | .int _ => true
  | .str _ => true
  | .list xs => plainA xs
  | .tuple xs => plainA xs
  | .dict _ => false
def plainA : List D → Bool
  | [] => true
  | x :: xs => plainD x && plainA xs
end
mutual
theorem eqv_rfl : ∀ d : D, plainD d = true → PyData.eqv d d = true
  | .none, _ => rfl
  | .bool b, _ => by show (b == b) = true; exact beq_self_eq_true b
  | .int i, _ => by show (i == i) = true; exact beq_self_eq_true i
  | .str x, _ => by show (x == x) = true; exact beq_self_eq_true x
  | .list xs, h => eqvA_rfl xs h
  | .tuple xs, h => eqvA_rfl xs h
  | .dict _, h => by cases h
theorem eqvA_rfl : ∀ ds : List D, plainA ds = true → PyData.eqvAll ds ds = true
  | [], _ => rfl
  | d :: ds, h => by
    have h' : (plainD d && plainA ds) = true := h
    rw [Bool.and_eq_true] at h'
    show (PyData.eqv d d && PyData.eqvAll ds ds) = true
    rw [eqv_rfl d h'.1, eqvA_rfl ds h'.2]; rfl
end
theorem ne_self {d : D} (h : plainD d = true) (s : SeqAt.shaped d = true) {z : D} : dNe d d z ↔ z = .bool false := by
  unfold dNe
  rw [eqv_rfl d h]
  exact ⟨fun q => q.2.2, fun q => ⟨s, s, q⟩⟩
theorem eq_self' {d : D} (h : plainD d = true) (s : SeqAt.shaped d = true) {z : D} : dEq d d z ↔ z = .bool true := by
  unfold dEq
  rw [eqv_rfl d h]
  exact ⟨fun q => q.2.2, fun q => ⟨s, s, q⟩⟩
/-! ### small steps -/
theorem wSeq_eq {t u : WS} {R : Ed} {en : En} : wSeq t u R en = t { R with nx := u R } en := rfl
theorem wLc_eq {wi : WA} {g : WG} {t : WT} {w : WE} {vs : List Nat} {en : En} {Q : List D → En → Prop} : wLc wi g t w vs en Q = wi en fun xs e1 => FreeS e1 vs ∧ (∀ v ∈ vs, NotOwn e1[v]?) ∧ xs.length ≤ sizeLine ∧ lcW g t w vs xs [] (wip vs e1) fun ys e2 => Q ys (bak vs e1 e2) := rfl
theorem no1 {en : En} {a : Nat} (h : NotOwn en[a]?) : ∀ v ∈ [a], NotOwn en[v]? := fun v hv => by
  rw [List.mem_singleton] at hv; rw [hv]; exact h
theorem no2 {en : En} {a b : Nat} (h : NotOwn en[a]?) (h2 : NotOwn en[b]?) : ∀ v ∈ [a, b], NotOwn en[v]? := fun v hv => by
  rcases List.mem_cons.mp hv with rfl | hv
  · exact h
  · exact no1 h2 v hv
theorem bak_self {vs : List Nat} {en : En} : bak vs en en = en := by
  refine List.ext_getElem? fun i => ?_
  unfold bak
  rw [List.getElem?_map]
  by_cases hi : i < en.length
  · rw [List.getElem?_eq_getElem (by rw [List.length_range]; exact hi), List.getElem_range, List.getElem?_eq_getElem hi]
    show some (if i ∈ vs then en.getD i .un else en.getD i .un) = _
    rw [ite_self, List.getD_eq_getElem?_getD, List.getElem?_eq_getElem hi]; rfl
  · rw [List.getElem?_eq_none (by rw [List.length_range]; omega), List.getElem?_eq_none (by omega)]; rfl
theorem free_of {en : En} {vs : List Nat} (h : ∀ v ∈ vs, v ≠ 0) : FreeS en vs := fun v hv => Or.inl (h v hv)
theorem bak_of {vs : List Nat} {en e : En} (h : ∀ v ∈ vs, en.getD v .un = e.getD v .un) : bak vs en e = e := by
  refine List.ext_getElem? fun i => ?_
  unfold bak
  rw [List.getElem?_map]
  by_cases hi : i < e.length
  · rw [List.getElem?_eq_getElem (by rw [List.length_range]; exact hi), List.getElem_range, List.getElem?_eq_getElem hi]
    show some (if i ∈ vs then en.getD i .un else e.getD i .un) = _
    have e1 : (if i ∈ vs then en.getD i .un else e.getD i .un) = e.getD i .un := by
      by_cases hm : i ∈ vs
      · rw [if_pos hm, h i hm]
      · rw [if_neg hm]
    rw [e1, List.getD_eq_getElem?_getD, List.getElem?_eq_getElem hi]; rfl
  · rw [List.getElem?_eq_none (by rw [List.length_range]; omega), List.getElem?_eq_none (by omega)]; rfl
theorem bak1 {j : Nat} {en e : En} (h : en.getD j .un = e.getD j .un) : bak [j] en e = e := bak_of fun v hv => by rw [List.mem_singleton] at hv; subst hv; exact h
/-! ### small sizes -/
theorem sz0 : (0 ≤ sizeLine) = True := eq_true (by decide)
theorem sz1 : (1 ≤ sizeLine) = True := eq_true (by decide)
theorem sz2 : (2 ≤ sizeLine) = True := eq_true (by decide)
theorem sz3 : (3 ≤ sizeLine) = True := eq_true (by decide)
theorem sz4 : (4 ≤ sizeLine) = True := eq_true (by decide)
theorem sz5 : (5 ≤ sizeLine) = True := eq_true (by decide)
theorem sz6 : (6 ≤ sizeLine) = True := eq_true (by decide)
theorem sz7 : (7 ≤ sizeLine) = True := eq_true (by decide)
theorem sz8 : (8 ≤ sizeLine) = True := eq_true (by decide)
theorem sz9 : (9 ≤ sizeLine) = True := eq_true (by decide)
theorem sz10 : (10 ≤ sizeLine) = True := eq_true (by decide)
theorem sz11 : (11 ≤ sizeLine) = True := eq_true (by decide)
theorem sz12 : (12 ≤ sizeLine) = True := eq_true (by decide)
theorem sz13 : (13 ≤ sizeLine) = True := eq_true (by decide)
theorem sz14 : (14 ≤ sizeLine) = True := eq_true (by decide)
theorem sz15 : (15 ≤ sizeLine) = True := eq_true (by decide)
theorem sz16 : (16 ≤ sizeLine) = True := eq_true (by decide)
theorem sz17 : (17 ≤ sizeLine) = True := eq_true (by decide)
theorem sz18 : (18 ≤ sizeLine) = True := eq_true (by decide)
theorem sz19 : (19 ≤ sizeLine) = True := eq_true (by decide)
theorem sz20 : (20 ≤ sizeLine) = True := eq_true (by decide)
theorem sz21 : (21 ≤ sizeLine) = True := eq_true (by decide)
theorem sz22 : (22 ≤ sizeLine) = True := eq_true (by decide)
theorem sz23 : (23 ≤ sizeLine) = True := eq_true (by decide)
theorem sz24 : (24 ≤ sizeLine) = True := eq_true (by decide)
theorem sz25 : (25 ≤ sizeLine) = True := eq_true (by decide)
theorem sz26 : (26 ≤ sizeLine) = True := eq_true (by decide)
theorem sz27 : (27 ≤ sizeLine) = True := eq_true (by decide)
theorem sz28 : (28 ≤ sizeLine) = True := eq_true (by decide)
theorem sz29 : (29 ≤ sizeLine) = True := eq_true (by decide)
theorem sz30 : (30 ≤ sizeLine) = True := eq_true (by decide)
theorem sz31 : (31 ≤ sizeLine) = True := eq_true (by decide)
theorem sz32 : (32 ≤ sizeLine) = True := eq_true (by decide)
theorem sz33 : (33 ≤ sizeLine) = True := eq_true (by decide)
theorem sz34 : (34 ≤ sizeLine) = True := eq_true (by decide)
theorem sz35 : (35 ≤ sizeLine) = True := eq_true (by decide)
theorem sz36 : (36 ≤ sizeLine) = True := eq_true (by decide)
theorem sz37 : (37 ≤ sizeLine) = True := eq_true (by decide)
theorem sz38 : (38 ≤ sizeLine) = True := eq_true (by decide)
theorem sz39 : (39 ≤ sizeLine) = True := eq_true (by decide)
theorem sz40 : (40 ≤ sizeLine) = True := eq_true (by decide)
theorem i_addL {xs ys : List D} {z : D} : dAdd (.list xs) (.list ys) z ↔ xs.length + ys.length ≤ sizeLine ∧ z = .list (xs ++ ys) := Iff.rfl
theorem i_addT {xs ys : List D} {z : D} : dAdd (.tuple xs) (.tuple ys) z ↔ xs.length + ys.length ≤ sizeLine ∧ z = .tuple (xs ++ ys) := Iff.rfl
theorem join {c : Prop} [Decidable c] {A B : Prop} (f : c → B → A) (b : B) : if c then A else B := by
  by_cases h : c
  · rw [if_pos h]; exact f h b
  · rw [if_neg h]; exact b
end Pd

set_option Elab.async false
set_option linter.all false
set_option maxRecDepth 100000
set_option maxHeartbeats 4000000
namespace Pd
open PySem PySem.Spec PyProof.Rows L2
theorem lc_gen {α : Type} {g : WG} {t : WT} {w : WE} {vs : List Nat} {W : En} {X f : α → D} {E : α → En} {c : α → Bool} (hv : ∀ v ∈ vs, v ≠ 0) (hE : ∀ x, wip vs (E x) = W) : ∀ {xs : List α} {acc : List D} {Q : List D → En → Prop},
    (∀ x ∈ xs, ∀ Q : En → Prop, Q (E x) → g (X x) W Q) → (∀ x ∈ xs, ∀ Q : Bool → En → Prop, Q (c x) (E x) → t (E x) Q) → (∀ x ∈ xs, c x = true → ∀ Q : D → En → Prop, Q (f x) (E x) → w (E x) Q) →
    Q (acc ++ (xs.filter c).map f) W → lcW g t w vs (xs.map X) acc W Q
  | [], acc, Q, _, _, _, q => by
    have q' : Q (acc ++ []) W := q
    rw [List.append_nil] at q'; exact q'
  | x :: xs, acc, Q, hg, ht, hw, q => by
    rw [List.map_cons]
    show g (X x) W _
    refine hg x List.mem_cons_self _ (ht x List.mem_cons_self _ ⟨free_of hv, ?_⟩)
    have next : ∀ acc, Q (acc ++ (xs.filter c).map f) W → lcW g t w vs (xs.map X) acc (wip vs (E x)) Q := fun acc q => by
      rw [hE]
      exact lc_gen hv hE (fun y hy => hg y (List.mem_cons_of_mem _ hy)) (fun y hy => ht y (List.mem_cons_of_mem _ hy)) (fun y hy => hw y (List.mem_cons_of_mem _ hy)) q
    cases hc : c x with
    | true =>
      rw [if_pos rfl]
      refine hw x List.mem_cons_self hc _ ⟨free_of hv, next _ ?_⟩
      rw [List.append_assoc]
      rw [List.filter_cons_of_pos hc, List.map_cons] at q
      exact q
    | false =>
      rw [if_neg (by decide)]
      refine next _ ?_
      rw [List.filter_cons_of_neg (by rw [hc]; decide)] at q
      exact q
theorem wip_len : ∀ (vs : List Nat) (e : En), (wip vs e).length = e.length
  | [], _ => rfl
  | v :: vs, e => by
    show ((wip vs e).set v .un).length = _
    rw [List.length_set, wip_len vs e]
theorem wip_out {i : Nat} : ∀ {vs : List Nat} {e : En}, i ∉ vs → (wip vs e)[i]? = e[i]?
  | [], _, _ => rfl
  | v :: vs, e, hi => by
    show ((wip vs e).set v .un)[i]? = _
    rw [List.getElem?_set_ne (fun h => hi (by rw [h]; exact List.mem_cons_self))]
    exact wip_out fun h => hi (List.mem_cons_of_mem _ h)
theorem bak_wip {vs : List Nat} {e : En} : bak vs e (wip vs e) = e := by
  refine List.ext_getElem? fun i => ?_
  unfold bak
  rw [List.getElem?_map, wip_len]
  by_cases hi : i < e.length
  · rw [List.getElem?_eq_getElem (by rw [List.length_range]; exact hi), List.getElem_range, List.getElem?_eq_getElem hi]
    show some (if i ∈ vs then e.getD i .un else (wip vs e).getD i .un) = _
    by_cases hm : i ∈ vs
    · rw [if_pos hm, List.getD_eq_getElem?_getD, List.getElem?_eq_getElem hi]; rfl
    · rw [if_neg hm, List.getD_eq_getElem?_getD, wip_out hm, List.getElem?_eq_getElem hi]; rfl
  · rw [List.getElem?_eq_none (by rw [List.length_range]; omega), List.getElem?_eq_none (by omega)]; rfl
/-- a comprehension that changes nothing: E x the slots at the turn x -/
theorem lcG {α : Type} {wi : WA} {g : WG} {t : WT} {w : WE} {vs : List Nat} {en e1 : En} {X f : α → D} (E : α → En) (c : α → Bool) {xs : List α} {Q : List D → En → Prop} (hv : ∀ v ∈ vs, v ≠ 0) (hi : ∀ Q : List D → En → Prop, Q (xs.map X) e1 → wi en Q)
    (hn : ∀ v ∈ vs, NotOwn e1[v]?) (hl : xs.length ≤ sizeLine) (hE : ∀ x, wip vs (E x) = wip vs e1) (hg : ∀ x ∈ xs, ∀ Q : En → Prop, Q (E x) → g (X x) (wip vs e1) Q) (ht : ∀ x ∈ xs, ∀ Q : Bool → En → Prop, Q (c x) (E x) → t (E x) Q)
    (hw : ∀ x ∈ xs, c x = true → ∀ Q : D → En → Prop, Q (f x) (E x) → w (E x) Q) (q : Q ((xs.filter c).map f) e1) : wLc wi g t w vs en Q := by
  refine hi _ ⟨free_of hv, hn, by rw [List.length_map]; exact hl, ?_⟩
  refine lc_gen hv hE hg ht hw ?_
  show Q ([] ++ (xs.filter c).map f) (bak vs e1 (wip vs e1))
  rw [bak_wip]
  exact q
theorem filter_all {α : Type} : ∀ xs : List α, xs.filter (fun _ => true) = xs
  | [] => rfl
  | x :: xs => by rw [List.filter_cons_of_pos rfl, filter_all xs]
/-- .. without a test -/
theorem lcY {α : Type} {wi : WA} {g : WG} {w : WE} {vs : List Nat} {en e1 : En} {X f : α → D} (E : α → En) {xs : List α} {Q : List D → En → Prop} (hv : ∀ v ∈ vs, v ≠ 0) (hi : ∀ Q : List D → En → Prop, Q (xs.map X) e1 → wi en Q)
    (hn : ∀ v ∈ vs, NotOwn e1[v]?) (hl : xs.length ≤ sizeLine) (hE : ∀ x, wip vs (E x) = wip vs e1) (hg : ∀ x ∈ xs, ∀ Q : En → Prop, Q (E x) → g (X x) (wip vs e1) Q)
    (hw : ∀ x ∈ xs, ∀ Q : D → En → Prop, Q (f x) (E x) → w (E x) Q) (q : Q (xs.map f) e1) : wLc wi g wYes w vs en Q :=
  lcG E (fun _ => true) hv hi hn hl hE hg (fun _ _ _ q => q) (fun x hx _ => hw x hx) (by rw [filter_all]; exact q)
theorem no3 {en : En} {a b c : Nat} (h : NotOwn en[a]?) (h2 : NotOwn en[b]?) (h3 : NotOwn en[c]?) : ∀ v ∈ [a, b, c], NotOwn en[v]? := fun v hv => by
  rcases List.mem_cons.mp hv with rfl | hv
  · exact h
  · exact no2 h2 h3 v hv
end Pd

set_option Elab.async false
set_option linter.all false
set_option maxRecDepth 100000
set_option maxHeartbeats 4000000
namespace Pd
open PySem PySem.Spec PyProof.Rows L2
section
variable {K : PySem.W.Frag} {X : Cx} {e o : Expr} {w wb : WE}
/-! ### {} -/
def wDic : WE := fun en Q => Q (.dict []) en
theorem d_dic {pos : Pos} : PE X (.Dict [] [] pos) (lE X.K wDic) := pe_dnewK.mo fun σ H Q ⟨G, en, I, Q', ok, q, k⟩ => fun p hp => by
  obtain ⟨o1, x1⟩ := ok.new (u := .dK []) hp
  exact k _ _ _ en _ o1 x1 (.dic upd_same) q
/-! ### is of two bools -/
def rIsB : R2 := fun x y H Q => ∃ a b, x = .bl a ∧ y = .bl b ∧ Q (.bl (a == b)) H
theorem op_isB : OpR X (compareOp .Is) rIsB := by
  intro pins s σ H x y v u Q I rx ry h
  obtain ⟨a, b, rfl, rfl, q⟩ := h
  cases rx; cases ry
  refine wpAny_is_plain rfl ?_
  refine ⟨.bl (a == b), H, I, ?_, q⟩
  show Value.bool (Value.bool a == Value.bool b) = Value.bool (a == b)
  cases a <;> cases b <;> rfl
def dIsB : D → D → D → Prop := fun x y z => ∃ a b, x = .bool a ∧ y = .bool b ∧ z = .bool (a == b)
theorem snd_isB : SndOp K rIsB dIsB := by
  rintro H I x y d e z iH hx hy ⟨a, b, rfl, rfl, rfl⟩ Q k
  cases hx; cases hy
  exact ⟨a, b, rfl, rfl, k _ H I (Gr.rf iH) (.bl _)⟩
theorem i_isB {a b : Bool} {z : D} : dIsB (.bool a) (.bool b) z ↔ z = .bool (a == b) := ⟨fun ⟨_, _, e1, e2, h⟩ => by cases e1; cases e2; exact h, fun h => ⟨_, _, rfl, rfl, h⟩⟩
/-! ### xs.index(e), xs a list of flat items -/
def dIndex (xs : List D) (y : D) (j : Nat) : Prop := xs.all flatD = true ∧ flatD y = true ∧ (∃ z, xs[j]? = some z ∧ PyData.eqv z y = true) ∧ ∀ m z, m < j → xs[m]? = some z → PyData.eqv z y = false
def wIndex (wa wb : WE) : WE := fun en Q => wa en fun x e1 => (∃ xs, x = .list xs) ∧ wb e1 fun y e2 => ∃ xs j, x = .list xs ∧ dIndex xs y j ∧ Q (.int (j : Nat)) e2
theorem d_index {wa : WE} {p1 p2 : Pos} (pe : PE X (.Call (.Attribute o "index" p1) [e] [] p2) (tBM X.K "list" (rIndex X.K) (lE X.K wa) (tCons (lE X.K wb) tNil))) : PE X (.Call (.Attribute o "index" p1) [e] [] p2) (lE X.K (wIndex wa wb)) :=
  pe.mo fun σ H Q ⟨G, en, I, Q', ok, q, k⟩ => ⟨G, en, I, _, ok, q, fun v H1 I1 e1 d o1 x1 dv ⟨⟨xs, hx⟩, q1⟩ => by
    subst hx
    cases dv with
    | lst hs ha =>
      rename_i l vs
      refine ⟨Or.inl ⟨rfl, _, SqL.of (o1.iH _ _ hs)⟩, G, e1, I1, _, o1, q1, fun u H2 I2 e2 y o2 x2 du ⟨ys, j, hy, ⟨f1, f2, ⟨z, hz, hzy⟩, hno⟩, q2⟩ => ?_⟩
      cases hy
      have ha2 := ha.up x2
      obtain ⟨vz, hvz, dz⟩ := dpa_get ha2 hz
      have fz : flatD z = true := List.all_eq_true.mp f1 z (List.mem_of_getElem? hz)
      refine ⟨l, vs, u, j, vz, rfl, rfl, SqL.of (o2.iH _ _ (x2 _ _ hs)), flat_da du f2, all_da ha2 f1, hvz, by rw [eqv_da dz du fz f2]; exact hzy, fun m z' hm hz' => ?_, k _ H2 I2 e2 _ o2 (x1.tr x2) (.int _) q2⟩
      obtain ⟨dm, hdm, hdz⟩ := dpa_get' ha2 hz'
      rw [eqv_da hdz du (List.all_eq_true.mp f1 dm (List.mem_of_getElem? hdm)) f2]
      exact hno m dm hm hdm⟩
/-! ### sorted(xs), xs a list of ints -/
def wSorted (w : WE) : WA := fun en Q => w en fun d e1 => ∃ ns : List Int, d = .list (ns.map .int) ∧ ∀ ns' : List Int, ns'.Perm ns → ns'.Pairwise (· ≤ ·) → Q (ns'.map .int) e1
theorem l_sorted {p pos : Pos} (hm : X.mg "sorted" = none) (ha : PE X e (lE X.K w)) (hg : Gl X "sorted" := by rfl)
    (he : starEach (e :: []) X.env = (false, eval e X.env) :: starEach [] X.env := by rfl) (hpl : (backTo pos (starEach [] X.env)).any (·.1) = false := by rfl) :
    PE X (.Call (.Name "sorted" p) [e] [] pos) (lL X.K (wSorted w)) :=
  (pe_callB cr_sortedI hg hm (by decide +kernel) (pa_cons ha pa_nil he) (by decide) (by decide) he hpl).mo fun σ H Q ⟨G, en, I, Q', ok, q, k⟩ => ⟨G, en, I, _, ok, q, fun v H1 I1 e1 d o1 x1 dv ⟨ns, hd, q1⟩ => by
    subst hd
    cases dv with
    | lst hs ha =>
      have ev := dpa_ints_inv ns ha
      subst ev
      exact ⟨_, ns, rfl, SqL.of (o1.iH _ _ hs), fun ns' p h1 h2 hp => k p _ H1 I1 e1 _ o1 x1 hp (dpa_ints ns') (q1 ns' h1 h2)⟩⟩
/-! ### xs + e, xs one's own: a new list -/
variable {o' : Expr} {pos : Pos}
def wCatO (i : Nat) (wb : WE) : WA := fun en Q => (∃ xs, en[i]? = some (.own xs)) ∧ wb en fun y e1 => ∃ xs ys, e1[i]? = some (.own xs) ∧ y = .list ys ∧ xs.length + ys.length ≤ sizeLine ∧ Q (xs ++ ys) e1
theorem l_catO {i : Nat} (ha : PE X o (tVar i)) (hb : PE X o' (lE X.K wb)) : PE X (.BinOp o .Add o' pos) (lL X.K (wCatO i wb)) :=
  (pe_op op_cat ha hb).mo fun σ H Q ⟨G, en, I, Q', ok, ⟨⟨xs0, h0⟩, q⟩, k⟩ => by
    obtain ⟨l, vs0, r1, _⟩ := ok.own h0
    refine ⟨.ref l, r1, G, en, I, _, ok, q, fun u H2 I2 e2 d2 o2 x2 du ⟨xs, ys, hx, hy, hl, q2⟩ => ?_⟩
    subst hy
    obtain ⟨l', vs, s1, s2, s3, s4⟩ := o2.own hx
    rw [r1] at s1
    have q5 : l = l' := by injection s1 with s1; injection s1 with s1; injection s1
    subst q5
    cases du with
    | lst hs ha => exact ⟨_, _, _, _, rfl, rfl, s3, o2.iH _ _ hs, by rw [dpa_len s4, dpa_len ha]; exact hl, fun p hp => k p _ H2 I2 e2 _ o2 x2 hp (dpa_app s4 ha) q2⟩
/-! ### xs.extend(e) -/
def wExt (i : Nat) (w : WE) : WS := fun R en => (∃ ds, en[i]? = some (.own ds)) ∧ w en fun d e1 => ∃ ds ys, e1[i]? = some (.own ds) ∧ d = .list ys ∧ ds.length + ys.length ≤ sizeLine ∧ R.nx (e1.set i (.own (ds ++ ys)))
theorem s_ext {i : Nat} {p1 p2 : Pos} (pe : PE X (.Call (.Attribute o "extend" p1) [e] [] p2) (tBM X.K "list" rExtend (tVar i) (tCons (lE X.K w) tNil)))
    (hs : swapsWith (.Call (.Attribute o "extend" p1) [e] [] p2) none pos.line X.env = pure false := by rfl) : PS X (.Expr (.Call (.Attribute o "extend" p1) [e] [] p2) pos) (lS X.K (wExt i w)) :=
  (ps_expr pe hs).mo fun R σ H ⟨G, en, I, R', ok, ⟨⟨ds0, h0⟩, q⟩, k⟩ => by
    obtain ⟨l, vs0, r1, r2, r3, r4⟩ := ok.own h0
    refine ⟨.ref l, r1, Or.inl ⟨rfl, vs0, SqL.of r3⟩, G, en, I, _, ok, q, fun v H1 I1 e1 d o1 x1 dv ⟨ds, ys, hd, hy, hz, q1⟩ => ?_⟩
    subst hy
    obtain ⟨l', vs, s1, s2, s3, s4⟩ := o1.own hd
    rw [r1] at s1
    have q5 : l = l' := by injection s1 with s1; injection s1 with s1; injection s1
    subst q5
    cases dv with
    | lst hs ha =>
      rename_i b us
      refine ⟨l, b, vs, us, rfl, rfl, s3, o1.iH _ _ hs, by rw [dpa_len s4, dpa_len ha]; exact hz, ?_⟩
      refine k.1 σ _ I1 _ (o1.turn (H' := upd H1 l (.lst (vs ++ us))) (vs := vs ++ us) ⟨r1, ds, hd⟩ (fun a u ha h => by rw [upd_ne ha]; exact h) (Ex.rf I1) (fun a u h => ?_) (fun a h1 h2 => absurd h2 h1) upd_same (dpa_app s4 ha)) q1
      have : a ≠ l := fun ea => by subst ea; rw [s2] at h; cases h
      rw [upd_ne this]; exact o1.iH a u h
end
/-! ### a def that calls itself: the promise that is never asked -/
section
variable {P : Program} {w : World} {K : PySem.W.Frag} {mg : Str → Option Value} {base : Heap} {x qual : Str} {params : Arguments} {body : List Stmt} {scope : Scope} {f : Addr} {fd : FuncData} {N ps : List Str}
theorem fn_no (F : FunD K x qual params body scope [] [] f fd) (S : FnScope N ps scope) (k : Nat) : FnOk P w K mg base CX0 (k + 1) f fd ps (spP K ps.length fun _ _ => False) :=
  fnP (ws := wNever) F S (fun cdv A outer s H E hr => ss_never) fun ds Q' _ h => h.elim
end
end Pd

set_option Elab.async false
set_option linter.all false
set_option maxRecDepth 100000
set_option maxHeartbeats 4000000
namespace K01
open PySem PySem.Spec PyProof.Rows L2 Pd
abbrev RR : PySem.W.OpenLaw := PySem.Challenge.rw_fetchunseen_k01_whole_inverses_powers_an
abbrev PP : Program := RR.prog
def top (i : Nat) : Stmt := PP.main.body.getD i (.Pass ⟨0, 0, 0, 0⟩)
/-! ### what each def does -/
def isW : D → Bool
  | .int _ => true
  | _ => false
def isBtw : D → Int → Int → Bool
  | .int i, a, b => decide (a ≤ i) && decide (i ≤ b)
  | _, _, _ => false
def wf_is_whole : WF := fun ds Q => ∃ d, ds = [d] ∧ Q (.bool (isW d))
def wf_is_between : WF := fun ds Q => ∃ d a b, ds = [d, .int a, .int b] ∧ Q (.bool (isBtw d a b))
def wf_check_between : WF := fun ds Q => ∃ d a b, ds = [d, .int a, .int b] ∧ isBtw d a b = true ∧ Q .none
def ldF : Nat → Int → Int → Int
  | 0, n, _ => n
  | f + 1, n, d => if d * d ≤ n then (if n % d = 0 then d else ldF f n (d + 1)) else n
def isP (n : Int) : Bool := (decide (2 ≤ n) && decide (n ≤ 9973)) && decide (ldF 200 n 2 = n)
def isPD : D → Bool
  | .int n => isP n
  | _ => false
def wf_least_divisor : WF := fun ds Q => ∃ n, ds = [.int n] ∧ n ≤ 9973 ∧ Q (.int (ldF 200 n 2))
def wf_is_prime : WF := fun ds Q => ∃ d, ds = [d] ∧ Q (.bool (isPD d))
def wf_check_prime : WF := fun ds Q => ∃ n, ds = [.int n] ∧ isP n = true ∧ Q .none
def wf_check_letter : WF := fun ds Q => ∃ p l : Int, ds = [.int p, .int l] ∧ 0 ≤ l ∧ l < p ∧ Q .none
/-- the first prime from n on, k steps at most -/
def npF : Nat → Int → Int
  | 0, n => n
  | k + 1, n => if isP n = true then n else npF k (n + 1)
def wf_next_prime : WF := fun ds Q => ∃ n : Int, ds = [.int n] ∧ 0 ≤ n ∧ n ≤ 9973 ∧ Q (.int (npF (9973 - n).toNat n))
def wf_power_of : WF := fun ds Q => ∃ (p l : Int) (t : Nat), ds = [.int p, .int l, .int t] ∧ 2 ≤ p ∧ p ≤ 9973 ∧ 0 ≤ l ∧ l < p ∧ Q (.int (l ^ t % p))
def wf_inverse_of : WF := fun ds Q => ∃ (p l : Int), ds = [.int p, .int l] ∧ 2 ≤ p ∧ p ≤ 9973 ∧ 0 ≤ l ∧ l < p ∧ Q (.int (l ^ (p - 2).toNat % p))
def wf_inverse : WF := fun ds Q => ∃ (p l : Int), ds = [.int p, .int l] ∧ isP p = true ∧ 0 < l ∧ l < p ∧ Q (.int (l ^ (p - 2).toNat % p))
def wf_power : WF := fun ds Q => ∃ (p l : Int) (t : Nat), ds = [.int p, .int l, .int t] ∧ isP p = true ∧ 0 ≤ l ∧ l < p ∧ t ≤ 1000000000 ∧ Q (.int (l ^ t % p))
/-- n without its factors d -/
def stF : Nat → Int → Int → Int
  | 0, n, _ => n
  | k + 1, n, d => if n % d = 0 then stF k (n / d) d else n
def pdF : Nat → Int → List Int
  | 0, _ => []
  | k + 1, n => if 1 < n then ldF 200 n 2 :: pdF k (stF 14 n (ldF 200 n 2)) else []
def wf_prime_divisors : WF := fun ds Q => ∃ n : Int, ds = [.int n] ∧ 1 ≤ n ∧ n ≤ 9973 ∧ Q (.list ((pdF 14 n).map .int))
def rtB (p l : Int) : Bool := (pdF 14 (p - 1)).all fun d => decide (l ^ ((p - 1) / d).toNat % p ≠ 1)
def wf_is_root : WF := fun ds Q => ∃ p l : Int, ds = [.int p, .int l] ∧ 2 ≤ p ∧ p ≤ 9973 ∧ 0 ≤ l ∧ l < p ∧ Q (.bool (rtB p l))
def wf_root : WF := fun ds Q => ∃ p g : Int, ds = [.int p] ∧ isP p = true ∧ 1 ≤ g ∧ g < p ∧ rtB p g = true ∧ (∀ l, 1 ≤ l → l < g → rtB p l = false) ∧ Q (.int g)
/-- the first t from i on, k of them, for which b ^ t is l -/
def exF (p b l : Int) : Nat → Nat → D
  | 0, _ => .none
  | k + 1, i => if b ^ i % p = l then .int i else exF p b l k (i + 1)
def wf_exponent_of : WF := fun ds Q => ∃ p b l : Int, ds = [.int p, .int b, .int l] ∧ isP p = true ∧ 0 ≤ b ∧ b < p ∧ 0 ≤ l ∧ l < p ∧ Q (exF p b l p.toNat 0)
def wf__law_jug : WSc := fun ns ds Q => ∃ s : Nat, ds = [.int s] ∧ ∀ g m c : Int, Q (.list [.int g, .int m, .int c])
def wf__law_pour : WJ := fun dj ds Q => ∃ g m c t : Int, dj = [.int g, .int m, .int c] ∧ ds = [.int t] ∧ 0 < t ∧ t.natAbs.log2 < 9000 ∧ ∀ r g m c : Int, 0 ≤ r → r < t → Q (.int r) [.int g, .int m, .int c]
def wf__law_sip : WJ := fun dj ds Q => ∃ (g m c : Int) (xs : List D), dj = [.int g, .int m, .int c] ∧ ds = [.list xs] ∧ xs ≠ [] ∧ xs.length ≤ 100 ∧ ∀ x ∈ xs, ∀ g m c : Int, Q x [.int g, .int m, .int c]
def wf__law_is_prime : WF := fun ds Q => ∃ n : Int, ds = [.int n] ∧ n ≤ 9973 ∧ Q (.bool (isP n))
/-- 1, l, l ^ 2, .. mod p until one comes again -/
def pwF (p l : Int) : Nat → List Int → Int → List Int
  | 0, found, _ => found
  | k + 1, found, here => if here ∈ found then found else pwF p l k (found ++ [here]) (here * l % p)
def pwL (p l : Int) : List Int := pwF p l (p.toNat + 1) [] 1
def wf__law_powers : WF := fun ds Q => ∃ p l : Int, ds = [.int p, .int l] ∧ 2 ≤ p ∧ p ≤ 9973 ∧ 0 ≤ l ∧ l < p ∧ Q (.list ((pwL p l).map .int))
def wfr__law_power : Nat → WF
  | 0 => fun _ _ => False
  | j + 1 => fun ds Q => ∃ (p l : Int) (t : Nat), ds = [.int p, .int l, .int t] ∧ 2 ≤ p ∧ p ≤ 9973 ∧ 0 ≤ l ∧ l < p ∧ t < 2 ^ j ∧ Q (.int (l ^ t % p))
def wf__law_power : WF := wfr__law_power 31
def wf__law_numbers_right : WJ := fun dj ds Q => ∃ g m c : Int, dj = [.int g, .int m, .int c] ∧ ds = [] ∧ ∀ g m c : Int, Q (.bool true) [.int g, .int m, .int c]
/-- Fermat's word for p -/
def Fer (p : Int) : Prop := ∀ l : Int, 0 < l → l < p → l ^ (p - 1).toNat % p = 1
def wf__law_letters_right : WJ := fun dj ds Q => ∃ g m c p : Int, dj = [.int g, .int m, .int c] ∧ ds = [.int p] ∧ isP p = true ∧ Fer p ∧ ∀ g m c : Int, Q (.bool true) [.int g, .int m, .int c]
def wf__law_shared : WF := fun ds Q => ∃ a b : Nat, ds = [.int a, .int b] ∧ Q (.int (Nat.gcd a b))
def wf__law_roots_right : WJ := fun dj ds Q => ∃ g m c : Int, dj = [.int g, .int m, .int c] ∧ ds = [] ∧ ∀ g m c : Int, Q (.bool true) [.int g, .int m, .int c]
abbrev wf_law : WSc := wfLaw 63
end K01

set_option Elab.async false
set_option linter.all false
set_option maxRecDepth 100000
set_option maxHeartbeats 4000000
namespace K01
open PySem PySem.Spec PyProof.Rows L2 Pd
/-- what the module's names are -/
structure Tb (mg : Str → Option Value) : Prop where
  b_abs : mg "abs" = none
  b_all : mg "all" = none
  b_bool : mg "bool" = none
  b_int : mg "int" = none
  b_isinstance : mg "isinstance" = none
  b_len : mg "len" = none
  b_max : mg "max" = none
  b_min : mg "min" = none
  b_range : mg "range" = none
  c_MOST_PRIME : ∃ t, mg "MOST_PRIME" = some (.int 9973 t)
  c_MOST_TIMES : ∃ t, mg "MOST_TIMES" = some (.int 1000000000 t)
section
variable {P : Program} {w : World} {K : PySem.W.Frag} {mg : Str → Option Value} {base : Heap}
/-! ### is_whole -/
abbrev N_is_whole : List Str := ["value"]
theorem sc_is_whole : FnScope N_is_whole ["value"] (defScope (top 4)) := ⟨rfl, rfl, rfl, by decide +kernel, rfl, by decide +kernel, by decide +kernel⟩
def ws_is_whole : WS := (wRet (wAndV (wIsi "int" (wVar 0)) (wNotV (wIsi "bool" (wVar 0)))))
theorem der_is_whole (T : Tb mg)  (f : Addr) (cdv : Value) (A : Around) (outer : List Env) (s : Shared) (H : Hp) (E : XK) (hr : Room 0 (A.deeper (envOfC "is_whole" (defScope (top 4)) s.heap.objs.size f cdv))) : PSs (cxOf CX0 P w K mg base N_is_whole "is_whole" (defScope (top 4)) f cdv A outer s H E).nox (defBody (top 4)) (lS K ws_is_whole) :=
  (s_one (s_ret (d_and (d_isi (T' := "int") T.b_isinstance T.b_int (by decide +kernel) (d_var (pv 0))) (d_one (d_not (d_isi (T' := "bool") T.b_isinstance T.b_bool (by decide +kernel) (d_var (pv 0))))))))
theorem ok_is_whole (T : Tb mg)  {f : Addr} {fd : FuncData} (F : FunD K "is_whole" "is_whole" (defArgs (top 4)) (defBody (top 4)) (defScope (top 4)) [] [] f fd) (hm : mg "is_whole" = some (.ref f)) (pu : ∀ ds Q', ds.length = 1 → wf_is_whole ds Q' → ws_is_whole (edP Q') (enP N_is_whole ds)) : Cal P w K mg base 1 "is_whole" ["value"] (spP K 1 wf_is_whole) :=
  ⟨f, fd, fnP F sc_is_whole (fun cdv A outer s H E hr => der_is_whole T  f cdv A outer s H E hr) pu, hm, F.kp, F.bindsN (ps := ["value"]) fun _ _ _ _ _ _ us hl => match us, hl with | [_], _ => rfl⟩
/-! ### is_between -/
abbrev N_is_between : List Str := ["value", "least", "most"]
theorem sc_is_between : FnScope N_is_between ["value", "least", "most"] (defScope (top 5)) := ⟨rfl, rfl, rfl, by decide +kernel, rfl, by decide +kernel, by decide +kernel⟩
def ws_is_between : WS := (wRet (wAndV (wFn 1 wf_is_whole (wCons (wVar 0) wNil)) (wCh dLe dLe (wVar 1) (wVar 0) (wVar 2))))
theorem der_is_between (T : Tb mg) (C_is_whole : Cal P w K mg base 1 "is_whole" ["value"] (spP K 1 wf_is_whole)) (f : Addr) (cdv : Value) (A : Around) (outer : List Env) (s : Shared) (H : Hp) (E : XK) (hr : Room 1 (A.deeper (envOfC "is_between" (defScope (top 5)) s.heap.objs.size f cdv))) : PSs (cxOf CX0 P w K mg base N_is_between "is_between" (defScope (top 5)) f cdv A outer s H E).nox (defBody (top 5)) (lS K ws_is_between) :=
  (s_one (s_ret (d_and (c_call C_is_whole (hr.mono (by decide)) (a_cons (d_var (pv 0)) a_nil)) (d_one (d_ch op_le snd_le op_le snd_le (d_var (pv 1)) (d_var (pv 0)) (d_var (pv 2)))))))
theorem ok_is_between (T : Tb mg) (C_is_whole : Cal P w K mg base 1 "is_whole" ["value"] (spP K 1 wf_is_whole)) {f : Addr} {fd : FuncData} (F : FunD K "is_between" "is_between" (defArgs (top 5)) (defBody (top 5)) (defScope (top 5)) [] [] f fd) (hm : mg "is_between" = some (.ref f)) (pu : ∀ ds Q', ds.length = 3 → wf_is_between ds Q' → ws_is_between (edP Q') (enP N_is_between ds)) : Cal P w K mg base 2 "is_between" ["value", "least", "most"] (spP K 3 wf_is_between) :=
  ⟨f, fd, fnP F sc_is_between (fun cdv A outer s H E hr => der_is_between T C_is_whole f cdv A outer s H E hr) pu, hm, F.kp, F.bindsN (ps := ["value", "least", "most"]) fun _ _ _ _ _ _ us hl => match us, hl with | [_, _, _], _ => rfl⟩
/-! ### check_between -/
abbrev N_check_between : List Str := ["value", "least", "most"]
theorem sc_check_between : FnScope N_check_between ["value", "least", "most"] (defScope (top 6)) := ⟨rfl, rfl, rfl, by decide +kernel, rfl, by decide +kernel, by decide +kernel⟩
def ws_check_between : WS := (wIfS (wNot (wTr (wFn 3 wf_is_between (wCons (wVar 0) (wCons (wVar 1) (wCons (wVar 2) wNil)))))) wNever wNext)
theorem der_check_between (T : Tb mg) (C_is_between : Cal P w K mg base 2 "is_between" ["value", "least", "most"] (spP K 3 wf_is_between)) (f : Addr) (cdv : Value) (A : Around) (outer : List Env) (s : Shared) (H : Hp) (E : XK) (hr : Room 2 (A.deeper (envOfC "check_between" (defScope (top 6)) s.heap.objs.size f cdv))) : PSs (cxOf CX0 P w K mg base N_check_between "check_between" (defScope (top 6)) f cdv A outer s H E).nox (defBody (top 6)) (lS K ws_check_between) :=
  (s_one (s_if (t_not (t_tru (c_call C_is_between (hr.mono (by decide)) (a_cons (d_var (pv 0)) (a_cons (d_var (pv 1)) (a_cons (d_var (pv 2)) a_nil)))))) (s_one s_never) s_nil))
theorem ok_check_between (T : Tb mg) (C_is_between : Cal P w K mg base 2 "is_between" ["value", "least", "most"] (spP K 3 wf_is_between)) {f : Addr} {fd : FuncData} (F : FunD K "check_between" "check_between" (defArgs (top 6)) (defBody (top 6)) (defScope (top 6)) [] [] f fd) (hm : mg "check_between" = some (.ref f)) (pu : ∀ ds Q', ds.length = 3 → wf_check_between ds Q' → ws_check_between (edP Q') (enP N_check_between ds)) : Cal P w K mg base 3 "check_between" ["value", "least", "most"] (spP K 3 wf_check_between) :=
  ⟨f, fd, fnP F sc_check_between (fun cdv A outer s H E hr => der_check_between T C_is_between f cdv A outer s H E hr) pu, hm, F.kp, F.bindsN (ps := ["value", "least", "most"]) fun _ _ _ _ _ _ us hl => match us, hl with | [_, _, _], _ => rfl⟩
/-! ### least_divisor -/
abbrev N_least_divisor : List Str := ["number", "divisor"]
theorem sc_least_divisor : FnScope N_least_divisor ["number"] (defScope (top 10)) := ⟨rfl, rfl, rfl, by decide +kernel, rfl, by decide +kernel, by decide +kernel⟩
def ws_least_divisor : WS := (wSeq (wSet 1 (wC (.int 2))) (wSeq (wWhile (wB (wOp dLe (wOp dMul (wVar 1) (wVar 1)) (wVar 0))) (wSeq (wIfS (wB (wOp dEq (wOp dMod (wVar 0) (wVar 1)) (wC (.int 0)))) (wRet (wVar 1)) wNext) (wAug 1 dIadd (wC (.int 1))))) (wRet (wVar 0))))
theorem der_least_divisor (T : Tb mg)  (f : Addr) (cdv : Value) (A : Around) (outer : List Env) (s : Shared) (H : Hp) (E : XK) (hr : Room 0 (A.deeper (envOfC "least_divisor" (defScope (top 10)) s.heap.objs.size f cdv))) : PSs (cxOf CX0 P w K mg base N_least_divisor "least_divisor" (defScope (top 10)) f cdv A outer s H E).nox (defBody (top 10)) (lS K ws_least_divisor) :=
  (s_cons (s_set (i := 1) sc_least_divisor.nd rfl (by first | exact Or.inl rfl | exact Or.inr rfl) d_int) (s_cons (s_while PassesOwn.never (t_cmp op_le snd_le (d_op op_mulD snd_mul (d_var (pv 1)) (d_var (pv 1))) (d_var (pv 0)) (nomark _)) (s_cons (s_if (t_cmp (op_eqD hr.units) snd_eq (d_op op_mod snd_mod (d_var (pv 0)) (d_var (pv 1))) d_int (nomark _)) (s_one (s_ret (d_var (pv 1)))) s_nil) (s_one (s_aug (i := 1) sc_least_divisor.nd rfl (by first | exact Or.inl rfl | exact Or.inr rfl) d_int ip_add snd_ipadd)))) (s_one (s_ret (d_var (pv 0))))))
theorem ok_least_divisor (T : Tb mg)  {f : Addr} {fd : FuncData} (F : FunD K "least_divisor" "least_divisor" (defArgs (top 10)) (defBody (top 10)) (defScope (top 10)) [] [] f fd) (hm : mg "least_divisor" = some (.ref f)) (pu : ∀ ds Q', ds.length = 1 → wf_least_divisor ds Q' → ws_least_divisor (edP Q') (enP N_least_divisor ds)) : Cal P w K mg base 1 "least_divisor" ["number"] (spP K 1 wf_least_divisor) :=
  ⟨f, fd, fnP F sc_least_divisor (fun cdv A outer s H E hr => der_least_divisor T  f cdv A outer s H E hr) pu, hm, F.kp, F.bindsN (ps := ["number"]) fun _ _ _ _ _ _ us hl => match us, hl with | [_], _ => rfl⟩
/-! ### is_prime -/
abbrev N_is_prime : List Str := ["value"]
theorem sc_is_prime : FnScope N_is_prime ["value"] (defScope (top 11)) := ⟨rfl, rfl, rfl, by decide +kernel, rfl, by decide +kernel, by decide +kernel⟩
def ws_is_prime : WS := (wRet (wAndV (wFn 3 wf_is_between (wCons (wVar 0) (wCons (wC (.int 2)) (wCons (wC (.int 9973)) wNil)))) (wOp dEq (wFn 1 wf_least_divisor (wCons (wVar 0) wNil)) (wVar 0))))
theorem der_is_prime (T : Tb mg) (C_least_divisor : Cal P w K mg base 1 "least_divisor" ["number"] (spP K 1 wf_least_divisor)) (C_is_between : Cal P w K mg base 2 "is_between" ["value", "least", "most"] (spP K 3 wf_is_between)) (f : Addr) (cdv : Value) (A : Around) (outer : List Env) (s : Shared) (H : Hp) (E : XK) (hr : Room 2 (A.deeper (envOfC "is_prime" (defScope (top 11)) s.heap.objs.size f cdv))) : PSs (cxOf CX0 P w K mg base N_is_prime "is_prime" (defScope (top 11)) f cdv A outer s H E).nox (defBody (top 11)) (lS K ws_is_prime) :=
  (s_one (s_ret (d_and (c_call C_is_between (hr.mono (by decide)) (a_cons (d_var (pv 0)) (a_cons d_int (a_cons (d_gint T.c_MOST_PRIME) a_nil)))) (d_one (d_cmp (op_eqD hr.units) snd_eq (c_call C_least_divisor (hr.mono (by decide)) (a_cons (d_var (pv 0)) a_nil)) (d_var (pv 0)) (nomark _))))))
theorem ok_is_prime (T : Tb mg) (C_least_divisor : Cal P w K mg base 1 "least_divisor" ["number"] (spP K 1 wf_least_divisor)) (C_is_between : Cal P w K mg base 2 "is_between" ["value", "least", "most"] (spP K 3 wf_is_between)) {f : Addr} {fd : FuncData} (F : FunD K "is_prime" "is_prime" (defArgs (top 11)) (defBody (top 11)) (defScope (top 11)) [] [] f fd) (hm : mg "is_prime" = some (.ref f)) (pu : ∀ ds Q', ds.length = 1 → wf_is_prime ds Q' → ws_is_prime (edP Q') (enP N_is_prime ds)) : Cal P w K mg base 3 "is_prime" ["value"] (spP K 1 wf_is_prime) :=
  ⟨f, fd, fnP F sc_is_prime (fun cdv A outer s H E hr => der_is_prime T C_least_divisor C_is_between f cdv A outer s H E hr) pu, hm, F.kp, F.bindsN (ps := ["value"]) fun _ _ _ _ _ _ us hl => match us, hl with | [_], _ => rfl⟩
/-! ### check_prime -/
abbrev N_check_prime : List Str := ["prime"]
theorem sc_check_prime : FnScope N_check_prime ["prime"] (defScope (top 12)) := ⟨rfl, rfl, rfl, by decide +kernel, rfl, by decide +kernel, by decide +kernel⟩
def ws_check_prime : WS := (wIfS (wNot (wTr (wFn 1 wf_is_prime (wCons (wVar 0) wNil)))) wNever wNext)
theorem der_check_prime (T : Tb mg) (C_is_prime : Cal P w K mg base 3 "is_prime" ["value"] (spP K 1 wf_is_prime)) (f : Addr) (cdv : Value) (A : Around) (outer : List Env) (s : Shared) (H : Hp) (E : XK) (hr : Room 3 (A.deeper (envOfC "check_prime" (defScope (top 12)) s.heap.objs.size f cdv))) : PSs (cxOf CX0 P w K mg base N_check_prime "check_prime" (defScope (top 12)) f cdv A outer s H E).nox (defBody (top 12)) (lS K ws_check_prime) :=
  (s_one (s_if (t_not (t_tru (c_call C_is_prime (hr.mono (by decide)) (a_cons (d_var (pv 0)) a_nil)))) (s_one s_never) s_nil))
theorem ok_check_prime (T : Tb mg) (C_is_prime : Cal P w K mg base 3 "is_prime" ["value"] (spP K 1 wf_is_prime)) {f : Addr} {fd : FuncData} (F : FunD K "check_prime" "check_prime" (defArgs (top 12)) (defBody (top 12)) (defScope (top 12)) [] [] f fd) (hm : mg "check_prime" = some (.ref f)) (pu : ∀ ds Q', ds.length = 1 → wf_check_prime ds Q' → ws_check_prime (edP Q') (enP N_check_prime ds)) : Cal P w K mg base 4 "check_prime" ["prime"] (spP K 1 wf_check_prime) :=
  ⟨f, fd, fnP F sc_check_prime (fun cdv A outer s H E hr => der_check_prime T C_is_prime f cdv A outer s H E hr) pu, hm, F.kp, F.bindsN (ps := ["prime"]) fun _ _ _ _ _ _ us hl => match us, hl with | [_], _ => rfl⟩
/-! ### check_letter -/
abbrev N_check_letter : List Str := ["prime", "letter"]
theorem sc_check_letter : FnScope N_check_letter ["prime", "letter"] (defScope (top 13)) := ⟨rfl, rfl, rfl, by decide +kernel, rfl, by decide +kernel, by decide +kernel⟩
def ws_check_letter : WS := (wDrop (wFn 3 wf_check_between (wCons (wVar 1) (wCons (wC (.int 0)) (wCons (wOp dSub (wVar 0) (wC (.int 1))) wNil)))))
theorem der_check_letter (T : Tb mg) (C_check_between : Cal P w K mg base 3 "check_between" ["value", "least", "most"] (spP K 3 wf_check_between)) (f : Addr) (cdv : Value) (A : Around) (outer : List Env) (s : Shared) (H : Hp) (E : XK) (hr : Room 3 (A.deeper (envOfC "check_letter" (defScope (top 13)) s.heap.objs.size f cdv))) : PSs (cxOf CX0 P w K mg base N_check_letter "check_letter" (defScope (top 13)) f cdv A outer s H E).nox (defBody (top 13)) (lS K ws_check_letter) :=
  (s_one (s_expr (c_call C_check_between (hr.mono (by decide)) (a_cons (d_var (pv 1)) (a_cons d_int (a_cons (d_op op_sub snd_sub (d_var (pv 0)) d_int) a_nil))))))
theorem ok_check_letter (T : Tb mg) (C_check_between : Cal P w K mg base 3 "check_between" ["value", "least", "most"] (spP K 3 wf_check_between)) {f : Addr} {fd : FuncData} (F : FunD K "check_letter" "check_letter" (defArgs (top 13)) (defBody (top 13)) (defScope (top 13)) [] [] f fd) (hm : mg "check_letter" = some (.ref f)) (pu : ∀ ds Q', ds.length = 2 → wf_check_letter ds Q' → ws_check_letter (edP Q') (enP N_check_letter ds)) : Cal P w K mg base 4 "check_letter" ["prime", "letter"] (spP K 2 wf_check_letter) :=
  ⟨f, fd, fnP F sc_check_letter (fun cdv A outer s H E hr => der_check_letter T C_check_between f cdv A outer s H E hr) pu, hm, F.kp, F.bindsN (ps := ["prime", "letter"]) fun _ _ _ _ _ _ us hl => match us, hl with | [_, _], _ => rfl⟩
/-! ### next_prime -/
abbrev N_next_prime : List Str := ["number", "found"]
theorem sc_next_prime : FnScope N_next_prime ["number"] (defScope (top 14)) := ⟨rfl, rfl, rfl, by decide +kernel, rfl, by decide +kernel, by decide +kernel⟩
def ws_next_prime : WS := (wSeq (wDrop (wFn 3 wf_check_between (wCons (wVar 0) (wCons (wC (.int 0)) (wCons (wC (.int 9973)) wNil))))) (wSeq (wSet 1 (wVar 0)) (wSeq (wWhile (wNot (wTr (wFn 1 wf_is_prime (wCons (wVar 1) wNil)))) (wAug 1 dIadd (wC (.int 1)))) (wRet (wVar 1)))))
theorem der_next_prime (T : Tb mg) (C_check_between : Cal P w K mg base 3 "check_between" ["value", "least", "most"] (spP K 3 wf_check_between)) (C_is_prime : Cal P w K mg base 3 "is_prime" ["value"] (spP K 1 wf_is_prime)) (f : Addr) (cdv : Value) (A : Around) (outer : List Env) (s : Shared) (H : Hp) (E : XK) (hr : Room 3 (A.deeper (envOfC "next_prime" (defScope (top 14)) s.heap.objs.size f cdv))) : PSs (cxOf CX0 P w K mg base N_next_prime "next_prime" (defScope (top 14)) f cdv A outer s H E).nox (defBody (top 14)) (lS K ws_next_prime) :=
  (s_cons (s_expr (c_call C_check_between (hr.mono (by decide)) (a_cons (d_var (pv 0)) (a_cons d_int (a_cons (d_gint T.c_MOST_PRIME) a_nil))))) (s_cons (s_set (i := 1) sc_next_prime.nd rfl (by first | exact Or.inl rfl | exact Or.inr rfl) (d_var (pv 0))) (s_cons (s_while PassesOwn.never (t_not (t_tru (c_call C_is_prime (hr.mono (by decide)) (a_cons (d_var (pv 1)) a_nil)))) (s_one (s_aug (i := 1) sc_next_prime.nd rfl (by first | exact Or.inl rfl | exact Or.inr rfl) d_int ip_add snd_ipadd))) (s_one (s_ret (d_var (pv 1)))))))
theorem ok_next_prime (T : Tb mg) (C_check_between : Cal P w K mg base 3 "check_between" ["value", "least", "most"] (spP K 3 wf_check_between)) (C_is_prime : Cal P w K mg base 3 "is_prime" ["value"] (spP K 1 wf_is_prime)) {f : Addr} {fd : FuncData} (F : FunD K "next_prime" "next_prime" (defArgs (top 14)) (defBody (top 14)) (defScope (top 14)) [] [] f fd) (hm : mg "next_prime" = some (.ref f)) (pu : ∀ ds Q', ds.length = 1 → wf_next_prime ds Q' → ws_next_prime (edP Q') (enP N_next_prime ds)) : Cal P w K mg base 4 "next_prime" ["number"] (spP K 1 wf_next_prime) :=
  ⟨f, fd, fnP F sc_next_prime (fun cdv A outer s H E hr => der_next_prime T C_check_between C_is_prime f cdv A outer s H E hr) pu, hm, F.kp, F.bindsN (ps := ["number"]) fun _ _ _ _ _ _ us hl => match us, hl with | [_], _ => rfl⟩
/-! ### power_of -/
abbrev N_power_of : List Str := ["prime", "letter", "times", "made", "square", "left"]
theorem sc_power_of : FnScope N_power_of ["prime", "letter", "times"] (defScope (top 15)) := ⟨rfl, rfl, rfl, by decide +kernel, rfl, by decide +kernel, by decide +kernel⟩
def ws_power_of : WS := (wSeq (wSet 3 (wC (.int 1))) (wSeq (wSet 4 (wVar 1)) (wSeq (wSet 5 (wVar 2)) (wSeq (wWhile (wB (wOp dGt (wVar 5) (wC (.int 0)))) (wSeq (wIfS (wB (wOp dEq (wOp dMod (wVar 5) (wC (.int 2))) (wC (.int 1)))) (wSet 3 (wOp dMod (wOp dMul (wVar 3) (wVar 4)) (wVar 0))) wNext) (wSeq (wSet 4 (wOp dMod (wOp dMul (wVar 4) (wVar 4)) (wVar 0))) (wSet 5 (wOp dFdivG (wVar 5) (wC (.int 2))))))) (wRet (wVar 3))))))
theorem der_power_of (T : Tb mg)  (f : Addr) (cdv : Value) (A : Around) (outer : List Env) (s : Shared) (H : Hp) (E : XK) (hr : Room 0 (A.deeper (envOfC "power_of" (defScope (top 15)) s.heap.objs.size f cdv))) : PSs (cxOf CX0 P w K mg base N_power_of "power_of" (defScope (top 15)) f cdv A outer s H E).nox (defBody (top 15)) (lS K ws_power_of) :=
  (s_cons (s_set (i := 3) sc_power_of.nd rfl (by first | exact Or.inl rfl | exact Or.inr rfl) d_int) (s_cons (s_set (i := 4) sc_power_of.nd rfl (by first | exact Or.inl rfl | exact Or.inr rfl) (d_var (pv 1))) (s_cons (s_set (i := 5) sc_power_of.nd rfl (by first | exact Or.inl rfl | exact Or.inr rfl) (d_var (pv 2))) (s_cons (s_while PassesOwn.never (t_cmp op_gt snd_gt (d_var (pv 5)) d_int (nomark _)) (s_cons (s_if (t_cmp (op_eqD hr.units) snd_eq (d_op op_mod snd_mod (d_var (pv 5)) d_int) d_int (nomark _)) (s_one (s_set (i := 3) sc_power_of.nd rfl (by first | exact Or.inl rfl | exact Or.inr rfl) (d_op op_mod snd_mod (d_op op_mulD snd_mul (d_var (pv 3)) (d_var (pv 4))) (d_var (pv 0))))) s_nil) (s_cons (s_set (i := 4) sc_power_of.nd rfl (by first | exact Or.inl rfl | exact Or.inr rfl) (d_op op_mod snd_mod (d_op op_mulD snd_mul (d_var (pv 4)) (d_var (pv 4))) (d_var (pv 0)))) (s_one (s_set (i := 5) sc_power_of.nd rfl (by first | exact Or.inl rfl | exact Or.inr rfl) (d_op op_fdivG snd_fdivG (d_var (pv 5)) d_int)))))) (s_one (s_ret (d_var (pv 3))))))))
theorem ok_power_of (T : Tb mg)  {f : Addr} {fd : FuncData} (F : FunD K "power_of" "power_of" (defArgs (top 15)) (defBody (top 15)) (defScope (top 15)) [] [] f fd) (hm : mg "power_of" = some (.ref f)) (pu : ∀ ds Q', ds.length = 3 → wf_power_of ds Q' → ws_power_of (edP Q') (enP N_power_of ds)) : Cal P w K mg base 1 "power_of" ["prime", "letter", "times"] (spP K 3 wf_power_of) :=
  ⟨f, fd, fnP F sc_power_of (fun cdv A outer s H E hr => der_power_of T  f cdv A outer s H E hr) pu, hm, F.kp, F.bindsN (ps := ["prime", "letter", "times"]) fun _ _ _ _ _ _ us hl => match us, hl with | [_, _, _], _ => rfl⟩
/-! ### inverse_of -/
abbrev N_inverse_of : List Str := ["prime", "letter"]
theorem sc_inverse_of : FnScope N_inverse_of ["prime", "letter"] (defScope (top 16)) := ⟨rfl, rfl, rfl, by decide +kernel, rfl, by decide +kernel, by decide +kernel⟩
def ws_inverse_of : WS := (wRet (wFn 3 wf_power_of (wCons (wVar 0) (wCons (wVar 1) (wCons (wOp dSub (wVar 0) (wC (.int 2))) wNil)))))
theorem der_inverse_of (T : Tb mg) (C_power_of : Cal P w K mg base 1 "power_of" ["prime", "letter", "times"] (spP K 3 wf_power_of)) (f : Addr) (cdv : Value) (A : Around) (outer : List Env) (s : Shared) (H : Hp) (E : XK) (hr : Room 1 (A.deeper (envOfC "inverse_of" (defScope (top 16)) s.heap.objs.size f cdv))) : PSs (cxOf CX0 P w K mg base N_inverse_of "inverse_of" (defScope (top 16)) f cdv A outer s H E).nox (defBody (top 16)) (lS K ws_inverse_of) :=
  (s_one (s_ret (c_call C_power_of (hr.mono (by decide)) (a_cons (d_var (pv 0)) (a_cons (d_var (pv 1)) (a_cons (d_op op_sub snd_sub (d_var (pv 0)) d_int) a_nil))))))
theorem ok_inverse_of (T : Tb mg) (C_power_of : Cal P w K mg base 1 "power_of" ["prime", "letter", "times"] (spP K 3 wf_power_of)) {f : Addr} {fd : FuncData} (F : FunD K "inverse_of" "inverse_of" (defArgs (top 16)) (defBody (top 16)) (defScope (top 16)) [] [] f fd) (hm : mg "inverse_of" = some (.ref f)) (pu : ∀ ds Q', ds.length = 2 → wf_inverse_of ds Q' → ws_inverse_of (edP Q') (enP N_inverse_of ds)) : Cal P w K mg base 2 "inverse_of" ["prime", "letter"] (spP K 2 wf_inverse_of) :=
  ⟨f, fd, fnP F sc_inverse_of (fun cdv A outer s H E hr => der_inverse_of T C_power_of f cdv A outer s H E hr) pu, hm, F.kp, F.bindsN (ps := ["prime", "letter"]) fun _ _ _ _ _ _ us hl => match us, hl with | [_, _], _ => rfl⟩
/-! ### inverse -/
abbrev N_inverse : List Str := ["prime", "letter"]
theorem sc_inverse : FnScope N_inverse ["prime", "letter"] (defScope (top 17)) := ⟨rfl, rfl, rfl, by decide +kernel, rfl, by decide +kernel, by decide +kernel⟩
def ws_inverse : WS := (wSeq (wDrop (wFn 1 wf_check_prime (wCons (wVar 0) wNil))) (wSeq (wDrop (wFn 2 wf_check_letter (wCons (wVar 0) (wCons (wVar 1) wNil)))) (wSeq (wIfS (wB (wOp dEq (wVar 1) (wC (.int 0)))) wNever wNext) (wRet (wFn 2 wf_inverse_of (wCons (wVar 0) (wCons (wVar 1) wNil)))))))
theorem der_inverse (T : Tb mg) (C_check_prime : Cal P w K mg base 4 "check_prime" ["prime"] (spP K 1 wf_check_prime)) (C_check_letter : Cal P w K mg base 4 "check_letter" ["prime", "letter"] (spP K 2 wf_check_letter)) (C_inverse_of : Cal P w K mg base 2 "inverse_of" ["prime", "letter"] (spP K 2 wf_inverse_of)) (f : Addr) (cdv : Value) (A : Around) (outer : List Env) (s : Shared) (H : Hp) (E : XK) (hr : Room 4 (A.deeper (envOfC "inverse" (defScope (top 17)) s.heap.objs.size f cdv))) : PSs (cxOf CX0 P w K mg base N_inverse "inverse" (defScope (top 17)) f cdv A outer s H E).nox (defBody (top 17)) (lS K ws_inverse) :=
  (s_cons (s_expr (c_call C_check_prime (hr.mono (by decide)) (a_cons (d_var (pv 0)) a_nil))) (s_cons (s_expr (c_call C_check_letter (hr.mono (by decide)) (a_cons (d_var (pv 0)) (a_cons (d_var (pv 1)) a_nil)))) (s_cons (s_if (t_cmp (op_eqD hr.units) snd_eq (d_var (pv 1)) d_int (nomark _)) (s_one s_never) s_nil) (s_one (s_ret (c_call C_inverse_of (hr.mono (by decide)) (a_cons (d_var (pv 0)) (a_cons (d_var (pv 1)) a_nil))))))))
theorem ok_inverse (T : Tb mg) (C_check_prime : Cal P w K mg base 4 "check_prime" ["prime"] (spP K 1 wf_check_prime)) (C_check_letter : Cal P w K mg base 4 "check_letter" ["prime", "letter"] (spP K 2 wf_check_letter)) (C_inverse_of : Cal P w K mg base 2 "inverse_of" ["prime", "letter"] (spP K 2 wf_inverse_of)) {f : Addr} {fd : FuncData} (F : FunD K "inverse" "inverse" (defArgs (top 17)) (defBody (top 17)) (defScope (top 17)) [] [] f fd) (hm : mg "inverse" = some (.ref f)) (pu : ∀ ds Q', ds.length = 2 → wf_inverse ds Q' → ws_inverse (edP Q') (enP N_inverse ds)) : Cal P w K mg base 5 "inverse" ["prime", "letter"] (spP K 2 wf_inverse) :=
  ⟨f, fd, fnP F sc_inverse (fun cdv A outer s H E hr => der_inverse T C_check_prime C_check_letter C_inverse_of f cdv A outer s H E hr) pu, hm, F.kp, F.bindsN (ps := ["prime", "letter"]) fun _ _ _ _ _ _ us hl => match us, hl with | [_, _], _ => rfl⟩
/-! ### power -/
abbrev N_power : List Str := ["prime", "letter", "times"]
theorem sc_power : FnScope N_power ["prime", "letter", "times"] (defScope (top 18)) := ⟨rfl, rfl, rfl, by decide +kernel, rfl, by decide +kernel, by decide +kernel⟩
def ws_power : WS := (wSeq (wDrop (wFn 1 wf_check_prime (wCons (wVar 0) wNil))) (wSeq (wDrop (wFn 2 wf_check_letter (wCons (wVar 0) (wCons (wVar 1) wNil)))) (wSeq (wDrop (wFn 3 wf_check_between (wCons (wVar 2) (wCons (wC (.int 0)) (wCons (wC (.int 1000000000)) wNil))))) (wRet (wFn 3 wf_power_of (wCons (wVar 0) (wCons (wVar 1) (wCons (wVar 2) wNil))))))))
theorem der_power (T : Tb mg) (C_check_prime : Cal P w K mg base 4 "check_prime" ["prime"] (spP K 1 wf_check_prime)) (C_check_letter : Cal P w K mg base 4 "check_letter" ["prime", "letter"] (spP K 2 wf_check_letter)) (C_check_between : Cal P w K mg base 3 "check_between" ["value", "least", "most"] (spP K 3 wf_check_between)) (C_power_of : Cal P w K mg base 1 "power_of" ["prime", "letter", "times"] (spP K 3 wf_power_of)) (f : Addr) (cdv : Value) (A : Around) (outer : List Env) (s : Shared) (H : Hp) (E : XK) (hr : Room 4 (A.deeper (envOfC "power" (defScope (top 18)) s.heap.objs.size f cdv))) : PSs (cxOf CX0 P w K mg base N_power "power" (defScope (top 18)) f cdv A outer s H E).nox (defBody (top 18)) (lS K ws_power) :=
  (s_cons (s_expr (c_call C_check_prime (hr.mono (by decide)) (a_cons (d_var (pv 0)) a_nil))) (s_cons (s_expr (c_call C_check_letter (hr.mono (by decide)) (a_cons (d_var (pv 0)) (a_cons (d_var (pv 1)) a_nil)))) (s_cons (s_expr (c_call C_check_between (hr.mono (by decide)) (a_cons (d_var (pv 2)) (a_cons d_int (a_cons (d_gint T.c_MOST_TIMES) a_nil))))) (s_one (s_ret (c_call C_power_of (hr.mono (by decide)) (a_cons (d_var (pv 0)) (a_cons (d_var (pv 1)) (a_cons (d_var (pv 2)) a_nil)))))))))
theorem ok_power (T : Tb mg) (C_check_prime : Cal P w K mg base 4 "check_prime" ["prime"] (spP K 1 wf_check_prime)) (C_check_letter : Cal P w K mg base 4 "check_letter" ["prime", "letter"] (spP K 2 wf_check_letter)) (C_check_between : Cal P w K mg base 3 "check_between" ["value", "least", "most"] (spP K 3 wf_check_between)) (C_power_of : Cal P w K mg base 1 "power_of" ["prime", "letter", "times"] (spP K 3 wf_power_of)) {f : Addr} {fd : FuncData} (F : FunD K "power" "power" (defArgs (top 18)) (defBody (top 18)) (defScope (top 18)) [] [] f fd) (hm : mg "power" = some (.ref f)) (pu : ∀ ds Q', ds.length = 3 → wf_power ds Q' → ws_power (edP Q') (enP N_power ds)) : Cal P w K mg base 5 "power" ["prime", "letter", "times"] (spP K 3 wf_power) :=
  ⟨f, fd, fnP F sc_power (fun cdv A outer s H E hr => der_power T C_check_prime C_check_letter C_check_between C_power_of f cdv A outer s H E hr) pu, hm, F.kp, F.bindsN (ps := ["prime", "letter", "times"]) fun _ _ _ _ _ _ us hl => match us, hl with | [_, _, _], _ => rfl⟩
/-! ### prime_divisors -/
abbrev N_prime_divisors : List Str := ["number", "found", "left", "divisor"]
theorem sc_prime_divisors : FnScope N_prime_divisors ["number"] (defScope (top 19)) := ⟨rfl, rfl, rfl, by decide +kernel, rfl, by decide +kernel, by decide +kernel⟩
def ws_prime_divisors : WS := (wSeq (wSetOwn 1 (wSz wNil)) (wSeq (wSet 2 (wVar 0)) (wSeq (wWhile (wB (wOp dGt (wVar 2) (wC (.int 1)))) (wSeq (wSet 3 (wFn 1 wf_least_divisor (wCons (wVar 2) wNil))) (wSeq (wApp 1 (wVar 3)) (wWhile (wB (wOp dEq (wOp dMod (wVar 2) (wVar 3)) (wC (.int 0)))) (wSet 2 (wOp dFdivG (wVar 2) (wVar 3))))))) (wFrz 1 (wRet (wVar 1))))))
theorem der_prime_divisors (T : Tb mg) (C_least_divisor : Cal P w K mg base 1 "least_divisor" ["number"] (spP K 1 wf_least_divisor)) (f : Addr) (cdv : Value) (A : Around) (outer : List Env) (s : Shared) (H : Hp) (E : XK) (hr : Room 1 (A.deeper (envOfC "prime_divisors" (defScope (top 19)) s.heap.objs.size f cdv))) : PSs (cxOf CX0 P w K mg base N_prime_divisors "prime_divisors" (defScope (top 19)) f cdv A outer s H E).nox (defBody (top 19)) (lS K ws_prime_divisors) :=
  (s_cons (s_setOwn (i := 1) sc_prime_divisors.nd rfl (by first | exact Or.inl rfl | exact Or.inr rfl) (l_lst a_nil)) (s_cons (s_set (i := 2) sc_prime_divisors.nd rfl (by first | exact Or.inl rfl | exact Or.inr rfl) (d_var (pv 0))) (s_cons (s_while PassesOwn.never (t_cmp op_gt snd_gt (d_var (pv 2)) d_int (nomark _)) (s_cons (s_set (i := 3) sc_prime_divisors.nd rfl (by first | exact Or.inl rfl | exact Or.inr rfl) (c_call C_least_divisor (hr.mono (by decide)) (a_cons (d_var (pv 2)) a_nil))) (s_cons (s_app (i := 1) (pv 1) (d_var (pv 3)) rfl (pe_bm PySem.F.plainAttrs_list PySem.F.slot_list_append PySem.F.type_list_append mt_append (pv 1) (pa_cons (d_var (pv 3)) pa_nil))) (s_one (s_while PassesOwn.never (t_cmp (op_eqD hr.units) snd_eq (d_op op_mod snd_mod (d_var (pv 2)) (d_var (pv 3))) d_int (nomark _)) (s_one (s_set (i := 2) sc_prime_divisors.nd rfl (by first | exact Or.inl rfl | exact Or.inr rfl) (d_op op_fdivG snd_fdivG (d_var (pv 2)) (d_var (pv 3)))))))))) (ss_frz (i := 1) (s_one (s_ret (d_var (pv 1))))))))
theorem ok_prime_divisors (T : Tb mg) (C_least_divisor : Cal P w K mg base 1 "least_divisor" ["number"] (spP K 1 wf_least_divisor)) {f : Addr} {fd : FuncData} (F : FunD K "prime_divisors" "prime_divisors" (defArgs (top 19)) (defBody (top 19)) (defScope (top 19)) [] [] f fd) (hm : mg "prime_divisors" = some (.ref f)) (pu : ∀ ds Q', ds.length = 1 → wf_prime_divisors ds Q' → ws_prime_divisors (edP Q') (enP N_prime_divisors ds)) : Cal P w K mg base 2 "prime_divisors" ["number"] (spP K 1 wf_prime_divisors) :=
  ⟨f, fd, fnP F sc_prime_divisors (fun cdv A outer s H E hr => der_prime_divisors T C_least_divisor f cdv A outer s H E hr) pu, hm, F.kp, F.bindsN (ps := ["number"]) fun _ _ _ _ _ _ us hl => match us, hl with | [_], _ => rfl⟩
/-! ### is_root -/
abbrev N_is_root : List Str := ["prime", "letter", "early", "divisor", "times"]
theorem sc_is_root : FnScope N_is_root ["prime", "letter"] (defScope (top 20)) := ⟨rfl, rfl, rfl, by decide +kernel, rfl, by decide +kernel, by decide +kernel⟩
def ws_is_root : WS := (wSeq (wSet 2 (wLe (wLc (wSq (wFn 1 wf_prime_divisors (wCons (wOp dSub (wVar 0) (wC (.int 1))) wNil))) (wgN 3) wYes (wOp dFdivG (wOp dSub (wVar 0) (wC (.int 1))) (wVar 3)) [3]))) (wRet (wCl dAll (wCons (wLe (wLc (wSq (wVar 2)) (wgN 4) wYes (wOp dNe (wFn 3 wf_power_of (wCons (wVar 0) (wCons (wVar 1) (wCons (wVar 4) wNil)))) (wC (.int 1))) [4])) wNil))))
theorem der_is_root (T : Tb mg) (C_prime_divisors : Cal P w K mg base 2 "prime_divisors" ["number"] (spP K 1 wf_prime_divisors)) (C_power_of : Cal P w K mg base 1 "power_of" ["prime", "letter", "times"] (spP K 3 wf_power_of)) (f : Addr) (cdv : Value) (A : Around) (outer : List Env) (s : Shared) (H : Hp) (E : XK) (hr : Room 2 (A.deeper (envOfC "is_root" (defScope (top 20)) s.heap.objs.size f cdv))) : PSs (cxOf CX0 P w K mg base N_is_root "is_root" (defScope (top 20)) f cdv A outer s H E).nox (defBody (top 20)) (lS K ws_is_root) :=
  (s_cons (s_lc (i := 2) (own := [("divisor", 3)]) rfl sc_is_root.nd rfl rfl (sw_true rfl rfl rfl (by decide +kernel)) (i_seq (c_call C_prime_divisors (hr.mono (by decide)) (a_cons (d_op op_sub snd_sub (d_var (pv 0)) d_int) a_nil))) (blkOk_by (N := N_is_root) (sc := (defScope (top 20))) (by decide +kernel)) (fun _ _ _ _ _ => (g_name (i := 3) sc_is_root.nd rfl (by first | exact Or.inl rfl | exact Or.inr rfl))) (fun _ _ _ _ _ => ts_nil) (fun _ _ _ _ _ => (d_op op_fdivG snd_fdivG (d_op op_sub snd_sub (d_var (pv 0)) d_int) (d_var (pv 3))))) (s_one (s_ret (d_cb (cr_all rfl) snd_all T.b_all (by decide +kernel) (a_cons (d_lL (l_lc (own := [("times", 4)]) rfl sc_is_root.nd (i_seq (d_var (pv 2))) (blkOk_by (N := N_is_root) (sc := (defScope (top 20))) (by decide +kernel)) (fun _ _ _ _ _ => (g_name (i := 4) sc_is_root.nd rfl (by first | exact Or.inl rfl | exact Or.inr rfl))) (fun _ _ _ _ _ => ts_nil) (fun _ _ _ _ _ => (d_cmp (op_neD hr.units) snd_ne (c_call C_power_of (hr.mono (by decide)) (a_cons (d_var (pv 0)) (a_cons (d_var (pv 1)) (a_cons (d_var (pv 4)) a_nil)))) d_int (nomark _))))) a_nil)))))
theorem ok_is_root (T : Tb mg) (C_prime_divisors : Cal P w K mg base 2 "prime_divisors" ["number"] (spP K 1 wf_prime_divisors)) (C_power_of : Cal P w K mg base 1 "power_of" ["prime", "letter", "times"] (spP K 3 wf_power_of)) {f : Addr} {fd : FuncData} (F : FunD K "is_root" "is_root" (defArgs (top 20)) (defBody (top 20)) (defScope (top 20)) [] [] f fd) (hm : mg "is_root" = some (.ref f)) (pu : ∀ ds Q', ds.length = 2 → wf_is_root ds Q' → ws_is_root (edP Q') (enP N_is_root ds)) : Cal P w K mg base 3 "is_root" ["prime", "letter"] (spP K 2 wf_is_root) :=
  ⟨f, fd, fnP F sc_is_root (fun cdv A outer s H E hr => der_is_root T C_prime_divisors C_power_of f cdv A outer s H E hr) pu, hm, F.kp, F.bindsN (ps := ["prime", "letter"]) fun _ _ _ _ _ _ us hl => match us, hl with | [_, _], _ => rfl⟩
/-! ### root -/
abbrev N_root : List Str := ["prime", "letter"]
theorem sc_root : FnScope N_root ["prime"] (defScope (top 21)) := ⟨rfl, rfl, rfl, by decide +kernel, rfl, by decide +kernel, by decide +kernel⟩
def ws_root : WS := (wSeq (wDrop (wFn 1 wf_check_prime (wCons (wVar 0) wNil))) (wSeq (wSet 1 (wC (.int 1))) (wSeq (wWhile (wNot (wTr (wFn 2 wf_is_root (wCons (wVar 0) (wCons (wVar 1) wNil))))) (wAug 1 dIadd (wC (.int 1)))) (wRet (wVar 1)))))
theorem der_root (T : Tb mg) (C_check_prime : Cal P w K mg base 4 "check_prime" ["prime"] (spP K 1 wf_check_prime)) (C_is_root : Cal P w K mg base 3 "is_root" ["prime", "letter"] (spP K 2 wf_is_root)) (f : Addr) (cdv : Value) (A : Around) (outer : List Env) (s : Shared) (H : Hp) (E : XK) (hr : Room 4 (A.deeper (envOfC "root" (defScope (top 21)) s.heap.objs.size f cdv))) : PSs (cxOf CX0 P w K mg base N_root "root" (defScope (top 21)) f cdv A outer s H E).nox (defBody (top 21)) (lS K ws_root) :=
  (s_cons (s_expr (c_call C_check_prime (hr.mono (by decide)) (a_cons (d_var (pv 0)) a_nil))) (s_cons (s_set (i := 1) sc_root.nd rfl (by first | exact Or.inl rfl | exact Or.inr rfl) d_int) (s_cons (s_while PassesOwn.never (t_not (t_tru (c_call C_is_root (hr.mono (by decide)) (a_cons (d_var (pv 0)) (a_cons (d_var (pv 1)) a_nil))))) (s_one (s_aug (i := 1) sc_root.nd rfl (by first | exact Or.inl rfl | exact Or.inr rfl) d_int ip_add snd_ipadd))) (s_one (s_ret (d_var (pv 1)))))))
theorem ok_root (T : Tb mg) (C_check_prime : Cal P w K mg base 4 "check_prime" ["prime"] (spP K 1 wf_check_prime)) (C_is_root : Cal P w K mg base 3 "is_root" ["prime", "letter"] (spP K 2 wf_is_root)) {f : Addr} {fd : FuncData} (F : FunD K "root" "root" (defArgs (top 21)) (defBody (top 21)) (defScope (top 21)) [] [] f fd) (hm : mg "root" = some (.ref f)) (pu : ∀ ds Q', ds.length = 1 → wf_root ds Q' → ws_root (edP Q') (enP N_root ds)) : Cal P w K mg base 5 "root" ["prime"] (spP K 1 wf_root) :=
  ⟨f, fd, fnP F sc_root (fun cdv A outer s H E hr => der_root T C_check_prime C_is_root f cdv A outer s H E hr) pu, hm, F.kp, F.bindsN (ps := ["prime"]) fun _ _ _ _ _ _ us hl => match us, hl with | [_], _ => rfl⟩
/-! ### exponent_of -/
abbrev N_exponent_of : List Str := ["prime", "base", "letter", "made", "times"]
theorem sc_exponent_of : FnScope N_exponent_of ["prime", "base", "letter"] (defScope (top 22)) := ⟨rfl, rfl, rfl, by decide +kernel, rfl, by decide +kernel, by decide +kernel⟩
def ws_exponent_of : WS := (wSeq (wDrop (wFn 1 wf_check_prime (wCons (wVar 0) wNil))) (wSeq (wDrop (wFn 2 wf_check_letter (wCons (wVar 0) (wCons (wVar 1) wNil)))) (wSeq (wDrop (wFn 2 wf_check_letter (wCons (wVar 0) (wCons (wVar 2) wNil)))) (wSeq (wSet 3 (wC (.int 1))) (wSeq (wFor (wRg1 (wCons (wVar 0) wNil)) (wgN 4) (wSeq (wIfS (wB (wOp dEq (wVar 3) (wVar 2))) (wRet (wVar 4)) wNext) (wSet 3 (wOp dMod (wOp dMul (wVar 3) (wVar 1)) (wVar 0))))) (wRet (wC .none)))))))
theorem der_exponent_of (T : Tb mg) (C_check_prime : Cal P w K mg base 4 "check_prime" ["prime"] (spP K 1 wf_check_prime)) (C_check_letter : Cal P w K mg base 4 "check_letter" ["prime", "letter"] (spP K 2 wf_check_letter)) (f : Addr) (cdv : Value) (A : Around) (outer : List Env) (s : Shared) (H : Hp) (E : XK) (hr : Room 4 (A.deeper (envOfC "exponent_of" (defScope (top 22)) s.heap.objs.size f cdv))) : PSs (cxOf CX0 P w K mg base N_exponent_of "exponent_of" (defScope (top 22)) f cdv A outer s H E).nox (defBody (top 22)) (lS K ws_exponent_of) :=
  (s_cons (s_expr (c_call C_check_prime (hr.mono (by decide)) (a_cons (d_var (pv 0)) a_nil))) (s_cons (s_expr (c_call C_check_letter (hr.mono (by decide)) (a_cons (d_var (pv 0)) (a_cons (d_var (pv 1)) a_nil)))) (s_cons (s_expr (c_call C_check_letter (hr.mono (by decide)) (a_cons (d_var (pv 0)) (a_cons (d_var (pv 2)) a_nil)))) (s_cons (s_set (i := 3) sc_exponent_of.nd rfl (by first | exact Or.inl rfl | exact Or.inr rfl) d_int) (s_cons (s_for PassesOwn.never rfl (i_rng1 T.b_range (a_cons (d_var (pv 0)) a_nil)) (g_name (i := 4) sc_exponent_of.nd rfl (by first | exact Or.inl rfl | exact Or.inr rfl)) (s_cons (s_if (t_cmp (op_eqD hr.units) snd_eq (d_var (pv 3)) (d_var (pv 2)) (nomark _)) (s_one (s_ret (d_var (pv 4)))) s_nil) (s_one (s_set (i := 3) sc_exponent_of.nd rfl (by first | exact Or.inl rfl | exact Or.inr rfl) (d_op op_mod snd_mod (d_op op_mulD snd_mul (d_var (pv 3)) (d_var (pv 1))) (d_var (pv 0))))))) (s_one (s_ret d_non)))))))
theorem ok_exponent_of (T : Tb mg) (C_check_prime : Cal P w K mg base 4 "check_prime" ["prime"] (spP K 1 wf_check_prime)) (C_check_letter : Cal P w K mg base 4 "check_letter" ["prime", "letter"] (spP K 2 wf_check_letter)) {f : Addr} {fd : FuncData} (F : FunD K "exponent_of" "exponent_of" (defArgs (top 22)) (defBody (top 22)) (defScope (top 22)) [] [] f fd) (hm : mg "exponent_of" = some (.ref f)) (pu : ∀ ds Q', ds.length = 3 → wf_exponent_of ds Q' → ws_exponent_of (edP Q') (enP N_exponent_of ds)) : Cal P w K mg base 5 "exponent_of" ["prime", "base", "letter"] (spP K 3 wf_exponent_of) :=
  ⟨f, fd, fnP F sc_exponent_of (fun cdv A outer s H E hr => der_exponent_of T C_check_prime C_check_letter f cdv A outer s H E hr) pu, hm, F.kp, F.bindsN (ps := ["prime", "base", "letter"]) fun _ _ _ _ _ _ us hl => match us, hl with | [_, _, _], _ => rfl⟩
/-! ### _law_jug -/
abbrev N__law_jug : List Str := ["script", "spot", "cell", "great", "mixed"]
theorem sc__law_jug : FnScope N__law_jug ["script", "spot"] (defScope (top 24)) := ⟨rfl, rfl, rfl, by decide +kernel, rfl, by decide +kernel, by decide +kernel⟩
def ws__law_jug : WS := (wSeq (wSet 2 (wIf (wB (wOp dLt (wVar 1) (wLenS 0))) (wCl dIntOf (wCons (wIxS 0 (wVar 1)) wNil)) (wOp dAdd (wOp dMul (wC (.int 449)) (wVar 1)) (wC (.int 67))))) (wSeq (wSet 3 (wOp dMod (wCl dIntOf (wCons (wCl dAbs (wCons (wVar 2) wNil)) wNil)) (wOp dPow (wOp dPow (wC (.int 10)) (wC (.int 55))) (wC (.int 6))))) (wSeq (wSet 4 (wOp dAdd (wOp dAdd (wOp dAdd (wOp dMul (wOp dMod (wCl dIntOf (wCons (wVar 3) wNil)) (wC (.int 2305843009213693669))) (wC (.int 83))) (wOp dMul (wC (.int 1013)) (wVar 1))) (wOp dMul (wC (.int 47)) (wCl dIntOf (wCons (wOp dLt (wVar 2) (wC (.int 0))) wNil)))) (wC (.int 29)))) (wRet (wLe (wSz (wCons (wCl dMax2 (wCons (wC (.int 0)) (wCons (wOp dSub (wVar 3) (wOp dPow (wC (.int 10)) (wC (.int 16)))) wNil))) (wCons (wVar 4) (wCons (wC (.int 0)) wNil)))))))))
theorem der__law_jug (T : Tb mg)  (f : Addr) (cdv : Value) (A : Around) (outer : List Env) (s : Shared) (H : Hp) (E : XK) (hr : Room 0 (A.deeper (envOfC "_law_jug" (defScope (top 24)) s.heap.objs.size f cdv))) : PSs (cxOf CX0 P w K mg base N__law_jug "_law_jug" (defScope (top 24)) f cdv A outer s H E).nox (defBody (top 24)) (lS K ws__law_jug) :=
  (s_cons (s_set (i := 2) sc__law_jug.nd rfl (by first | exact Or.inl rfl | exact Or.inr rfl) (d_if (t_cmp (op_ltD hr.units0) snd_lt (d_var (pv 1)) (d_lenS (i := 0) T.b_len (pv 0)) (nomark _)) (d_cty call_int1 snd_intOf T.b_int (by decide +kernel) (a_cons (d_ixS (i := 0) (pv 0) (d_var (pv 1))) a_nil)) (d_op op_addD snd_add (d_op op_mulD snd_mul d_int (d_var (pv 1))) d_int))) (s_cons (s_set (i := 3) sc__law_jug.nd rfl (by first | exact Or.inl rfl | exact Or.inr rfl) (d_op op_mod snd_mod (d_cty call_int1 snd_intOf T.b_int (by decide +kernel) (a_cons (d_cb call_abs snd_abs T.b_abs (by decide +kernel) (a_cons (d_var (pv 2)) a_nil)) a_nil)) (d_op op_powW snd_pow (d_op op_powW snd_pow d_int d_int) d_int))) (s_cons (s_set (i := 4) sc__law_jug.nd rfl (by first | exact Or.inl rfl | exact Or.inr rfl) (d_op op_addD snd_add (d_op op_addD snd_add (d_op op_addD snd_add (d_op op_mulD snd_mul (d_op op_mod snd_mod (d_cty call_int1 snd_intOf T.b_int (by decide +kernel) (a_cons (d_var (pv 3)) a_nil)) d_int) d_int) (d_op op_mulD snd_mul d_int (d_var (pv 1)))) (d_op op_mulD snd_mul d_int (d_cty call_int1 snd_intOf T.b_int (by decide +kernel) (a_cons (d_cmp (op_ltD hr.units0) snd_lt (d_var (pv 2)) d_int (nomark _)) a_nil)))) d_int)) (s_one (s_ret (d_lL (l_lst (a_cons (d_cb (call_max2 rfl) snd_max2 T.b_max (by decide +kernel) (a_cons d_int (a_cons (d_op op_sub snd_sub (d_var (pv 3)) (d_op op_powW snd_pow d_int d_int)) a_nil))) (a_cons (d_var (pv 4)) (a_cons d_int a_nil))))))))))
theorem ok__law_jug (T : Tb mg)  {f : Addr} {fd : FuncData} (F : FunD K "_law_jug" "_law_jug" (defArgs (top 24)) (defBody (top 24)) (defScope (top 24)) [] [] f fd) (hm : mg "_law_jug" = some (.ref f)) (pu : ∀ ns ds Q', ds.length + 1 = 2 → wf__law_jug ns ds Q' → ws__law_jug (edP Q') (enS N__law_jug ns ds)) : Cal P w K mg base 1 "_law_jug" ["script", "spot"] (spS K 2 wf__law_jug) :=
  ⟨f, fd, fnS F sc__law_jug rfl (fun cdv A outer s H E hr => der__law_jug T  f cdv A outer s H E hr) pu, hm, F.kp, F.bindsN (ps := ["script", "spot"]) fun _ _ _ _ _ _ us hl => match us, hl with | [_, _], _ => rfl⟩
/-! ### _law_pour -/
abbrev N__law_pour : List Str := ["jug", "total", "found", "one", "two"]
theorem sc__law_pour : FnScope N__law_pour ["jug", "total"] (defScope (top 25)) := ⟨rfl, rfl, rfl, by decide +kernel, rfl, by decide +kernel, by decide +kernel⟩
def ws__law_pour : WS := (wSeq (wIfS (wB (wOp dGt (wOpO 0 dIx (wC (.int 0))) (wC (.int 0)))) (wSeq (wSet 2 (wOp dMod (wCl dIntOf (wCons (wOpO 0 dIx (wC (.int 0))) wNil)) (wVar 1))) (wSeq (wSetIt 0 (wC (.int 0)) (wOp dFdivG (wOpO 0 dIx (wC (.int 0))) (wVar 1))) (wRet (wVar 2)))) wNext) (wSeq (wSetIt 0 (wC (.int 2)) (wOp dAdd (wOpO 0 dIx (wC (.int 2))) (wC (.int 1)))) (wSeq (wSet 3 (wOp dMod (wCl dIntOf (wCons (wOp dAdd (wOpO 0 dIx (wC (.int 1))) (wOp dMul (wC (.int 49979687)) (wOpO 0 dIx (wC (.int 2))))) wNil)) (wC (.int 2305843009213693951)))) (wSeq (wSet 4 (wOp dAdd (wOp dMul (wOp dMod (wCl dIntOf (wCons (wOp dAdd (wOp dMul (wVar 3) (wVar 3)) (wOp dMul (wC (.int 131)) (wOpO 0 dIx (wC (.int 2))))) wNil)) (wC (.int 2305843009213693921))) (wC (.int 32452843))) (wVar 3))) (wRet (wOp dMod (wCl dIntOf (wCons (wOp dFdivG (wVar 4) (wC (.int 65539))) wNil)) (wVar 1)))))))
theorem der__law_pour (T : Tb mg)  (f : Addr) (cdv : Value) (A : Around) (outer : List Env) (s : Shared) (H : Hp) (E : XK) (hr : Room 0 (A.deeper (envOfC "_law_pour" (defScope (top 25)) s.heap.objs.size f cdv))) : PSs (cxOf CX0 P w K mg base N__law_pour "_law_pour" (defScope (top 25)) f cdv A outer s H E).nox (defBody (top 25)) (lS K ws__law_pour) :=
  (s_cons (s_if (t_cmp op_gt snd_gt (d_ixO (pv 0) d_int) d_int (nomark _)) (s_cons (s_set (i := 2) sc__law_pour.nd rfl (by first | exact Or.inl rfl | exact Or.inr rfl) (d_op op_mod snd_mod (d_cty call_int1 snd_intOf T.b_int (by decide +kernel) (a_cons (d_ixO (pv 0) d_int) a_nil)) (d_var (pv 1)))) (s_cons (s_setIt (i := 0) (ps_asg (d_op op_fdivG snd_fdivG (d_ixO (pv 0) d_int) (d_var (pv 1))) (pg_sub (pv 0) d_int set_list))) (s_one (s_ret (d_var (pv 2)))))) s_nil) (s_cons (s_setIt (i := 0) (ps_asg (d_op op_addD snd_add (d_ixO (pv 0) d_int) d_int) (pg_sub (pv 0) d_int set_list))) (s_cons (s_set (i := 3) sc__law_pour.nd rfl (by first | exact Or.inl rfl | exact Or.inr rfl) (d_op op_mod snd_mod (d_cty call_int1 snd_intOf T.b_int (by decide +kernel) (a_cons (d_op op_addD snd_add (d_ixO (pv 0) d_int) (d_op op_mulD snd_mul d_int (d_ixO (pv 0) d_int))) a_nil)) d_int)) (s_cons (s_set (i := 4) sc__law_pour.nd rfl (by first | exact Or.inl rfl | exact Or.inr rfl) (d_op op_addD snd_add (d_op op_mulD snd_mul (d_op op_mod snd_mod (d_cty call_int1 snd_intOf T.b_int (by decide +kernel) (a_cons (d_op op_addD snd_add (d_op op_mulD snd_mul (d_var (pv 3)) (d_var (pv 3))) (d_op op_mulD snd_mul d_int (d_ixO (pv 0) d_int))) a_nil)) d_int) d_int) (d_var (pv 3)))) (s_one (s_ret (d_op op_mod snd_mod (d_cty call_int1 snd_intOf T.b_int (by decide +kernel) (a_cons (d_op op_fdivG snd_fdivG (d_var (pv 4)) d_int) a_nil)) (d_var (pv 1)))))))))
theorem ok__law_pour (T : Tb mg)  {f : Addr} {fd : FuncData} (F : FunD K "_law_pour" "_law_pour" (defArgs (top 25)) (defBody (top 25)) (defScope (top 25)) [] [] f fd) (hm : mg "_law_pour" = some (.ref f)) (pu : ∀ dj ds Q', ds.length + 1 = 2 → wf__law_pour dj ds Q' → ws__law_pour (edJ Q') (enJ N__law_pour dj ds)) : Cal P w K mg base 1 "_law_pour" ["jug", "total"] (spJ K 2 wf__law_pour) :=
  ⟨f, fd, fnJ F sc__law_pour rfl (fun cdv A outer s H E hr => der__law_pour T  f cdv A outer s H E hr) pu, hm, F.kp, F.bindsN (ps := ["jug", "total"]) fun _ _ _ _ _ _ us hl => match us, hl with | [_, _], _ => rfl⟩
/-! ### _law_sip -/
abbrev N__law_sip : List Str := ["jug", "items"]
theorem sc__law_sip : FnScope N__law_sip ["jug", "items"] (defScope (top 26)) := ⟨rfl, rfl, rfl, by decide +kernel, rfl, by decide +kernel, by decide +kernel⟩
def ws__law_sip : WS := (wRet (wOp dIx (wVar 1) (wFnJ 0 2 wf__law_pour (wCons (wCl dLen (wCons (wVar 1) wNil)) wNil))))
theorem der__law_sip (T : Tb mg) (C__law_pour : Cal P w K mg base 1 "_law_pour" ["jug", "total"] (spJ K 2 wf__law_pour)) (f : Addr) (cdv : Value) (A : Around) (outer : List Env) (s : Shared) (H : Hp) (E : XK) (hr : Room 1 (A.deeper (envOfC "_law_sip" (defScope (top 26)) s.heap.objs.size f cdv))) : PSs (cxOf CX0 P w K mg base N__law_sip "_law_sip" (defScope (top 26)) f cdv A outer s H E).nox (defBody (top 26)) (lS K ws__law_sip) :=
  (s_one (s_ret (d_ix (d_var (pv 1)) (c_callJ (i := 0) C__law_pour (hr.mono (by decide)) (pv 0) (a_cons (d_cb call_len snd_len T.b_len (by decide +kernel) (a_cons (d_var (pv 1)) a_nil)) a_nil)))))
theorem ok__law_sip (T : Tb mg) (C__law_pour : Cal P w K mg base 1 "_law_pour" ["jug", "total"] (spJ K 2 wf__law_pour)) {f : Addr} {fd : FuncData} (F : FunD K "_law_sip" "_law_sip" (defArgs (top 26)) (defBody (top 26)) (defScope (top 26)) [] [] f fd) (hm : mg "_law_sip" = some (.ref f)) (pu : ∀ dj ds Q', ds.length + 1 = 2 → wf__law_sip dj ds Q' → ws__law_sip (edJ Q') (enJ N__law_sip dj ds)) : Cal P w K mg base 2 "_law_sip" ["jug", "items"] (spJ K 2 wf__law_sip) :=
  ⟨f, fd, fnJ F sc__law_sip rfl (fun cdv A outer s H E hr => der__law_sip T C__law_pour f cdv A outer s H E hr) pu, hm, F.kp, F.bindsN (ps := ["jug", "items"]) fun _ _ _ _ _ _ us hl => match us, hl with | [_, _], _ => rfl⟩
/-! ### _law_is_prime -/
abbrev N__law_is_prime : List Str := ["number", "some"]
theorem sc__law_is_prime : FnScope N__law_is_prime ["number"] (defScope (top 27)) := ⟨rfl, rfl, rfl, by decide +kernel, rfl, by decide +kernel, by decide +kernel⟩
def ws__law_is_prime : WS := (wSeq (wIfS (wB (wOp dLt (wVar 0) (wC (.int 2)))) (wRet (wC (.bool false))) wNext) (wSeq (wSet 1 (wC (.int 2))) (wSeq (wWhile (wB (wOp dLe (wOp dMul (wVar 1) (wVar 1)) (wVar 0))) (wSeq (wIfS (wB (wOp dEq (wOp dMod (wVar 0) (wVar 1)) (wC (.int 0)))) (wRet (wC (.bool false))) wNext) (wSet 1 (wOp dAdd (wVar 1) (wC (.int 1)))))) (wRet (wC (.bool true))))))
theorem der__law_is_prime (T : Tb mg)  (f : Addr) (cdv : Value) (A : Around) (outer : List Env) (s : Shared) (H : Hp) (E : XK) (hr : Room 0 (A.deeper (envOfC "_law_is_prime" (defScope (top 27)) s.heap.objs.size f cdv))) : PSs (cxOf CX0 P w K mg base N__law_is_prime "_law_is_prime" (defScope (top 27)) f cdv A outer s H E).nox (defBody (top 27)) (lS K ws__law_is_prime) :=
  (s_cons (s_if (t_cmp (op_ltD hr.units0) snd_lt (d_var (pv 0)) d_int (nomark _)) (s_one (s_ret d_bl)) s_nil) (s_cons (s_set (i := 1) sc__law_is_prime.nd rfl (by first | exact Or.inl rfl | exact Or.inr rfl) d_int) (s_cons (s_while PassesOwn.never (t_cmp op_le snd_le (d_op op_mulD snd_mul (d_var (pv 1)) (d_var (pv 1))) (d_var (pv 0)) (nomark _)) (s_cons (s_if (t_cmp (op_eqD hr.units) snd_eq (d_op op_mod snd_mod (d_var (pv 0)) (d_var (pv 1))) d_int (nomark _)) (s_one (s_ret d_bl)) s_nil) (s_one (s_set (i := 1) sc__law_is_prime.nd rfl (by first | exact Or.inl rfl | exact Or.inr rfl) (d_op op_addD snd_add (d_var (pv 1)) d_int))))) (s_one (s_ret d_bl)))))
theorem ok__law_is_prime (T : Tb mg)  {f : Addr} {fd : FuncData} (F : FunD K "_law_is_prime" "_law_is_prime" (defArgs (top 27)) (defBody (top 27)) (defScope (top 27)) [] [] f fd) (hm : mg "_law_is_prime" = some (.ref f)) (pu : ∀ ds Q', ds.length = 1 → wf__law_is_prime ds Q' → ws__law_is_prime (edP Q') (enP N__law_is_prime ds)) : Cal P w K mg base 1 "_law_is_prime" ["number"] (spP K 1 wf__law_is_prime) :=
  ⟨f, fd, fnP F sc__law_is_prime (fun cdv A outer s H E hr => der__law_is_prime T  f cdv A outer s H E hr) pu, hm, F.kp, F.bindsN (ps := ["number"]) fun _ _ _ _ _ _ us hl => match us, hl with | [_], _ => rfl⟩
/-! ### _law_powers -/
abbrev N__law_powers : List Str := ["prime", "letter", "found", "here"]
theorem sc__law_powers : FnScope N__law_powers ["prime", "letter"] (defScope (top 28)) := ⟨rfl, rfl, rfl, by decide +kernel, rfl, by decide +kernel, by decide +kernel⟩
def ws__law_powers : WS := (wSeq (wParOI 2 3 (wSz wNil) (wC (.int 1))) (wSeq (wWhile (wB (wOpR 2 (dIn true) (wVar 3))) (wSeq (wApp 2 (wVar 3)) (wSet 3 (wOp dMod (wOp dMul (wVar 3) (wVar 1)) (wVar 0))))) (wFrz 2 (wRet (wVar 2)))))
theorem der__law_powers (T : Tb mg)  (f : Addr) (cdv : Value) (A : Around) (outer : List Env) (s : Shared) (H : Hp) (E : XK) (hr : Room 0 (A.deeper (envOfC "_law_powers" (defScope (top 28)) s.heap.objs.size f cdv))) : PSs (cxOf CX0 P w K mg base N__law_powers "_law_powers" (defScope (top 28)) f cdv A outer s H E).nox (defBody (top 28)) (lS K ws__law_powers) :=
  (s_cons (s_parOI (ps_par (i := 2) (j := 3) rfl sc__law_powers.nd rfl rfl (by decide) rfl rfl (pa_cons (l_lst a_nil) (pa_cons d_int pa_nil)) (by rfl))) (s_cons (s_while PassesOwn.never (t_cmpR op_notIn_seq snd_in (d_var (pv 3)) (pv 2) (by rfl)) (s_cons (s_app (i := 2) (pv 2) (d_var (pv 3)) rfl (pe_bm PySem.F.plainAttrs_list PySem.F.slot_list_append PySem.F.type_list_append mt_append (pv 2) (pa_cons (d_var (pv 3)) pa_nil))) (s_one (s_set (i := 3) sc__law_powers.nd rfl (by first | exact Or.inl rfl | exact Or.inr rfl) (d_op op_mod snd_mod (d_op op_mulD snd_mul (d_var (pv 3)) (d_var (pv 1))) (d_var (pv 0))))))) (ss_frz (i := 2) (s_one (s_ret (d_var (pv 2)))))))
theorem ok__law_powers (T : Tb mg)  {f : Addr} {fd : FuncData} (F : FunD K "_law_powers" "_law_powers" (defArgs (top 28)) (defBody (top 28)) (defScope (top 28)) [] [] f fd) (hm : mg "_law_powers" = some (.ref f)) (pu : ∀ ds Q', ds.length = 2 → wf__law_powers ds Q' → ws__law_powers (edP Q') (enP N__law_powers ds)) : Cal P w K mg base 1 "_law_powers" ["prime", "letter"] (spP K 2 wf__law_powers) :=
  ⟨f, fd, fnP F sc__law_powers (fun cdv A outer s H E hr => der__law_powers T  f cdv A outer s H E hr) pu, hm, F.kp, F.bindsN (ps := ["prime", "letter"]) fun _ _ _ _ _ _ us hl => match us, hl with | [_, _], _ => rfl⟩
/-! ### _law_power -/
abbrev N__law_power : List Str := ["prime", "letter", "times", "half"]
theorem sc__law_power : FnScope N__law_power ["prime", "letter", "times"] (defScope (top 29)) := ⟨rfl, rfl, rfl, by decide +kernel, rfl, by decide +kernel, by decide +kernel⟩
def ws__law_power (wf__law_power : WF) : WS := (wSeq (wIfS (wB (wOp dEq (wVar 2) (wC (.int 0)))) (wRet (wC (.int 1))) wNext) (wSeq (wSet 3 (wFn 3 wf__law_power (wCons (wVar 0) (wCons (wVar 1) (wCons (wCl dIntOf (wCons (wOp dFdivG (wVar 2) (wC (.int 2))) wNil)) wNil))))) (wRet (wOp dMod (wOp dMul (wOp dMod (wOp dMul (wVar 3) (wVar 3)) (wVar 0)) (wIf (wB (wOp dEq (wOp dMod (wVar 2) (wC (.int 2))) (wC (.int 1)))) (wVar 1) (wC (.int 1)))) (wVar 0)))))
theorem der__law_power {k : Nat} {wf__law_power : WF} (hk : 0 ≤ k) (T : Tb mg)  (C__law_power : Cal P w K mg base k "_law_power" ["prime", "letter", "times"] (spP K 3 wf__law_power)) (f : Addr) (cdv : Value) (A : Around) (outer : List Env) (s : Shared) (H : Hp) (E : XK) (hr : Room k (A.deeper (envOfC "_law_power" (defScope (top 29)) s.heap.objs.size f cdv))) : PSs (cxOf CX0 P w K mg base N__law_power "_law_power" (defScope (top 29)) f cdv A outer s H E).nox (defBody (top 29)) (lS K (ws__law_power wf__law_power)) :=
  (s_cons (s_if (t_cmp (op_eqD hr.units) snd_eq (d_var (pv 2)) d_int (nomark _)) (s_one (s_ret d_int)) s_nil) (s_cons (s_set (i := 3) sc__law_power.nd rfl (by first | exact Or.inl rfl | exact Or.inr rfl) (c_call C__law_power (hr.mono (by omega)) (a_cons (d_var (pv 0)) (a_cons (d_var (pv 1)) (a_cons (d_cty call_int1 snd_intOf T.b_int (by decide +kernel) (a_cons (d_op op_fdivG snd_fdivG (d_var (pv 2)) d_int) a_nil)) a_nil))))) (s_one (s_ret (d_op op_mod snd_mod (d_op op_mulD snd_mul (d_op op_mod snd_mod (d_op op_mulD snd_mul (d_var (pv 3)) (d_var (pv 3))) (d_var (pv 0))) (d_if (t_cmp (op_eqD hr.units) snd_eq (d_op op_mod snd_mod (d_var (pv 2)) d_int) d_int (nomark _)) (d_var (pv 1)) d_int)) (d_var (pv 0)))))))
theorem rec__law_power (T : Tb mg)  {f : Addr} {fd : FuncData} (F : FunD K "_law_power" "_law_power" (defArgs (top 29)) (defBody (top 29)) (defScope (top 29)) [] [] f fd) (hm : mg "_law_power" = some (.ref f)) (pu : ∀ j ds Q', ds.length = 3 → wfr__law_power (j + 1) ds Q' → ws__law_power (wfr__law_power j) (edP Q') (enP N__law_power ds)) : ∀ j, Cal P w K mg base (1 + j) "_law_power" ["prime", "letter", "times"] (spP K 3 (wfr__law_power j))
  | 0 => ⟨f, fd, fn_no F sc__law_power 0, hm, F.kp, F.bindsN (ps := ["prime", "letter", "times"]) fun _ _ _ _ _ _ us hl => match us, hl with | [_, _, _], _ => rfl⟩
  | j + 1 => ⟨f, fd, fnP F sc__law_power (fun cdv A outer s H E hr => der__law_power (by omega) T  (rec__law_power T  F hm pu j) f cdv A outer s H E hr) (pu j), hm, F.kp, F.bindsN (ps := ["prime", "letter", "times"]) fun _ _ _ _ _ _ us hl => match us, hl with | [_, _, _], _ => rfl⟩
theorem ok__law_power (T : Tb mg)  {f : Addr} {fd : FuncData} (F : FunD K "_law_power" "_law_power" (defArgs (top 29)) (defBody (top 29)) (defScope (top 29)) [] [] f fd) (hm : mg "_law_power" = some (.ref f)) (pu : ∀ j ds Q', ds.length = 3 → wfr__law_power (j + 1) ds Q' → ws__law_power (wfr__law_power j) (edP Q') (enP N__law_power ds)) : Cal P w K mg base 32 "_law_power" ["prime", "letter", "times"] (spP K 3 wf__law_power) := rec__law_power T  F hm pu 31
/-! ### _law_numbers_right -/
abbrev N__law_numbers_right : List Str := ["jug", "square", "number", "due", "odd"]
theorem sc__law_numbers_right : FnScope N__law_numbers_right ["jug"] (defScope (top 30)) := ⟨rfl, rfl, rfl, by decide +kernel, rfl, by decide +kernel, by decide +kernel⟩
def ws__law_numbers_right : WS := (wSeq (wSet 1 (wOp dPow (wFnJ 0 2 wf__law_pour (wCons (wC (.int 100)) wNil)) (wC (.int 2)))) (wSeq (wSet 2 (wCl dMin2 (wCons (wC (.int 9973)) (wCons (wFnJ 0 2 wf__law_sip (wCons (wLe (wSz (wCons (wFnJ 0 2 wf__law_pour (wCons (wC (.int 30)) wNil)) (wCons (wFnJ 0 2 wf__law_pour (wCons (wC (.int 9974)) wNil)) (wCons (wOp dAdd (wC (.int 9950)) (wFnJ 0 2 wf__law_pour (wCons (wC (.int 24)) wNil))) (wCons (wVar 1) wNil)))))) wNil)) wNil)))) (wSeq (wSet 3 (wVar 2)) (wSeq (wWhile (wNot (wTr (wFn 1 wf__law_is_prime (wCons (wVar 3) wNil)))) (wSet 3 (wOp dAdd (wVar 3) (wC (.int 1))))) (wSeq (wIfS (wOr (wB (wOp dNe (wFn 1 wf_next_prime (wCons (wVar 2) wNil)) (wVar 3))) (wB (wOp dNe (wFn 1 wf_is_prime (wCons (wVar 2) wNil)) (wFn 1 wf__law_is_prime (wCons (wVar 2) wNil))))) (wRet (wC (.bool false))) wNext) (wSeq (wSet 4 (wFnJ 0 2 wf__law_sip (wCons (wLe (wSz (wCons (wC .none) (wCons (wC (.bool true)) (wCons (wUn dNeg (wC (.int 3))) (wCons (wC (.str "7")) (wCons (wTup (wCons (wC (.int 7)) wNil)) (wCons (wC (.int 9974)) (wCons (wC (.int 10007)) (wCons (wOp dPow (wC (.int 10)) (wC (.int 61))) (wCons (wLe (wSz (wCons (wC (.int 5)) wNil))) (wCons (wC (.int 1)) (wCons (wC (.int 0)) (wCons wDic wNil)))))))))))))) wNil))) (wRet (wOp dIsB (wFn 1 wf_is_prime (wCons (wVar 4) wNil)) (wC (.bool false))))))))))
theorem der__law_numbers_right (T : Tb mg) (C__law_pour : Cal P w K mg base 1 "_law_pour" ["jug", "total"] (spJ K 2 wf__law_pour)) (C__law_sip : Cal P w K mg base 2 "_law_sip" ["jug", "items"] (spJ K 2 wf__law_sip)) (C__law_is_prime : Cal P w K mg base 1 "_law_is_prime" ["number"] (spP K 1 wf__law_is_prime)) (C_is_prime : Cal P w K mg base 3 "is_prime" ["value"] (spP K 1 wf_is_prime)) (C_next_prime : Cal P w K mg base 4 "next_prime" ["number"] (spP K 1 wf_next_prime)) (f : Addr) (cdv : Value) (A : Around) (outer : List Env) (s : Shared) (H : Hp) (E : XK) (hr : Room 4 (A.deeper (envOfC "_law_numbers_right" (defScope (top 30)) s.heap.objs.size f cdv))) : PSs (cxOf CX0 P w K mg base N__law_numbers_right "_law_numbers_right" (defScope (top 30)) f cdv A outer s H E).nox (defBody (top 30)) (lS K ws__law_numbers_right) :=
  (s_cons (s_set (i := 1) sc__law_numbers_right.nd rfl (by first | exact Or.inl rfl | exact Or.inr rfl) (d_op op_powW snd_pow (c_callJ (i := 0) C__law_pour (hr.mono (by decide)) (pv 0) (a_cons d_int a_nil)) d_int)) (s_cons (s_set (i := 2) sc__law_numbers_right.nd rfl (by first | exact Or.inl rfl | exact Or.inr rfl) (d_cb (call_min2 rfl) snd_min2 T.b_min (by decide +kernel) (a_cons d_int (a_cons (c_callJ (i := 0) C__law_sip (hr.mono (by decide)) (pv 0) (a_cons (d_lL (l_lst (a_cons (c_callJ (i := 0) C__law_pour (hr.mono (by decide)) (pv 0) (a_cons d_int a_nil)) (a_cons (c_callJ (i := 0) C__law_pour (hr.mono (by decide)) (pv 0) (a_cons d_int a_nil)) (a_cons (d_op op_addD snd_add d_int (c_callJ (i := 0) C__law_pour (hr.mono (by decide)) (pv 0) (a_cons d_int a_nil))) (a_cons (d_var (pv 1)) a_nil)))))) a_nil)) a_nil)))) (s_cons (s_set (i := 3) sc__law_numbers_right.nd rfl (by first | exact Or.inl rfl | exact Or.inr rfl) (d_var (pv 2))) (s_cons (s_while PassesOwn.never (t_not (t_tru (c_call C__law_is_prime (hr.mono (by decide)) (a_cons (d_var (pv 3)) a_nil)))) (s_one (s_set (i := 3) sc__law_numbers_right.nd rfl (by first | exact Or.inl rfl | exact Or.inr rfl) (d_op op_addD snd_add (d_var (pv 3)) d_int)))) (s_cons (s_if (PW.pt (t_or (t_cmp (op_neD hr.units) snd_ne (c_call C_next_prime (hr.mono (by decide)) (a_cons (d_var (pv 2)) a_nil)) (d_var (pv 3)) (nomark _)) (t_or1 (t_cmp (op_neD hr.units) snd_ne (c_call C_is_prime (hr.mono (by decide)) (a_cons (d_var (pv 2)) a_nil)) (c_call C__law_is_prime (hr.mono (by decide)) (a_cons (d_var (pv 2)) a_nil)) (nomark _))))) (s_one (s_ret d_bl)) s_nil) (s_cons (s_set (i := 4) sc__law_numbers_right.nd rfl (by first | exact Or.inl rfl | exact Or.inr rfl) (c_callJ (i := 0) C__law_sip (hr.mono (by decide)) (pv 0) (a_cons (d_lL (l_lst (a_cons d_non (a_cons d_bl (a_cons (d_un un_neg snd_neg d_int) (a_cons d_str (a_cons (d_tup (a_cons d_int a_nil)) (a_cons d_int (a_cons d_int (a_cons (d_op op_powW snd_pow d_int d_int) (a_cons (d_lL (l_lst (a_cons d_int a_nil))) (a_cons d_int (a_cons d_int (a_cons d_dic a_nil)))))))))))))) a_nil))) (s_one (s_ret (d_cmp op_isB snd_isB (c_call C_is_prime (hr.mono (by decide)) (a_cons (d_var (pv 4)) a_nil)) d_bl (nomark _))))))))))
theorem ok__law_numbers_right (T : Tb mg) (C__law_pour : Cal P w K mg base 1 "_law_pour" ["jug", "total"] (spJ K 2 wf__law_pour)) (C__law_sip : Cal P w K mg base 2 "_law_sip" ["jug", "items"] (spJ K 2 wf__law_sip)) (C__law_is_prime : Cal P w K mg base 1 "_law_is_prime" ["number"] (spP K 1 wf__law_is_prime)) (C_is_prime : Cal P w K mg base 3 "is_prime" ["value"] (spP K 1 wf_is_prime)) (C_next_prime : Cal P w K mg base 4 "next_prime" ["number"] (spP K 1 wf_next_prime)) {f : Addr} {fd : FuncData} (F : FunD K "_law_numbers_right" "_law_numbers_right" (defArgs (top 30)) (defBody (top 30)) (defScope (top 30)) [] [] f fd) (hm : mg "_law_numbers_right" = some (.ref f)) (pu : ∀ dj ds Q', ds.length + 1 = 1 → wf__law_numbers_right dj ds Q' → ws__law_numbers_right (edJ Q') (enJ N__law_numbers_right dj ds)) : Cal P w K mg base 5 "_law_numbers_right" ["jug"] (spJ K 1 wf__law_numbers_right) :=
  ⟨f, fd, fnJ F sc__law_numbers_right rfl (fun cdv A outer s H E hr => der__law_numbers_right T C__law_pour C__law_sip C__law_is_prime C_is_prime C_next_prime f cdv A outer s H E hr) pu, hm, F.kp, F.bindsN (ps := ["jug"]) fun _ _ _ _ _ _ us hl => match us, hl with | [_], _ => rfl⟩
/-! ### _law_letters_right -/
abbrev N__law_letters_right : List Str := ["jug", "prime", "letter", "times", "other"]
theorem sc__law_letters_right : FnScope N__law_letters_right ["jug", "prime"] (defScope (top 31)) := ⟨rfl, rfl, rfl, by decide +kernel, rfl, by decide +kernel, by decide +kernel⟩
def ws__law_letters_right : WS := (wSeq (wSet 2 (wFnJ 0 2 wf__law_sip (wCons (wLe (wSz (wCons (wOp dMod (wC (.int 1)) (wVar 1)) (wCons (wOp dSub (wVar 1) (wC (.int 1))) (wCons (wFnJ 0 2 wf__law_pour (wCons (wVar 1) wNil)) (wCons (wFnJ 0 2 wf__law_pour (wCons (wVar 1) wNil)) wNil)))))) wNil))) (wSeq (wSet 3 (wFnJ 0 2 wf__law_sip (wCons (wLe (wSz (wCons (wC (.int 0)) (wCons (wC (.int 1)) (wCons (wC (.int 2)) (wCons (wOp dSub (wVar 1) (wC (.int 1))) (wCons (wVar 1) (wCons (wFnJ 0 2 wf__law_pour (wCons (wC (.int 50)) wNil)) (wCons (wFnJ 0 2 wf__law_pour (wCons (wOp dAdd (wOp dPow (wC (.int 10)) (wC (.int 9))) (wC (.int 1))) wNil)) (wCons (wOp dPow (wC (.int 10)) (wC (.int 9))) wNil)))))))))) wNil))) (wSeq (wIfS (wB (wOp dNe (wFn 3 wf_power (wCons (wVar 1) (wCons (wVar 2) (wCons (wVar 3) wNil)))) (wFn 3 wf__law_power (wCons (wVar 1) (wCons (wVar 2) (wCons (wVar 3) wNil)))))) (wRet (wC (.bool false))) wNext) (wSeq (wIfS (wB (wOp dEq (wVar 2) (wC (.int 0)))) (wRet (wOp dEq (wFn 3 wf_power (wCons (wVar 1) (wCons (wC (.int 0)) (wCons (wVar 3) wNil)))) (wCl dIntOf (wCons (wOp dEq (wVar 3) (wC (.int 0))) wNil)))) wNext) (wSeq (wSet 4 (wFn 2 wf_inverse (wCons (wVar 1) (wCons (wVar 2) wNil)))) (wSeq (wIfS (wOr (wNot (wB (wCh dLt dLt (wC (.int 0)) (wVar 4) (wVar 1)))) (wOr (wB (wOp dNe (wOp dMod (wOp dMul (wVar 2) (wVar 4)) (wVar 1)) (wC (.int 1)))) (wB (wOp dNe (wFn 2 wf_inverse (wCons (wVar 1) (wCons (wVar 4) wNil))) (wVar 2))))) (wRet (wC (.bool false))) wNext) (wRet (wAndV (wOp dEq (wFn 3 wf_power (wCons (wVar 1) (wCons (wVar 2) (wCons (wOp dSub (wVar 1) (wC (.int 1))) wNil)))) (wC (.int 1))) (wOp dEq (wFn 3 wf_power (wCons (wVar 1) (wCons (wVar 2) (wCons (wOp dSub (wVar 1) (wC (.int 2))) wNil)))) (wIf (wB (wOp dGt (wVar 1) (wC (.int 2)))) (wVar 4) (wC (.int 1))))))))))))
theorem der__law_letters_right (T : Tb mg) (C__law_sip : Cal P w K mg base 2 "_law_sip" ["jug", "items"] (spJ K 2 wf__law_sip)) (C__law_pour : Cal P w K mg base 1 "_law_pour" ["jug", "total"] (spJ K 2 wf__law_pour)) (C_power : Cal P w K mg base 5 "power" ["prime", "letter", "times"] (spP K 3 wf_power)) (C__law_power : Cal P w K mg base 32 "_law_power" ["prime", "letter", "times"] (spP K 3 wf__law_power)) (C_inverse : Cal P w K mg base 5 "inverse" ["prime", "letter"] (spP K 2 wf_inverse)) (f : Addr) (cdv : Value) (A : Around) (outer : List Env) (s : Shared) (H : Hp) (E : XK) (hr : Room 32 (A.deeper (envOfC "_law_letters_right" (defScope (top 31)) s.heap.objs.size f cdv))) : PSs (cxOf CX0 P w K mg base N__law_letters_right "_law_letters_right" (defScope (top 31)) f cdv A outer s H E).nox (defBody (top 31)) (lS K ws__law_letters_right) :=
  (s_cons (s_set (i := 2) sc__law_letters_right.nd rfl (by first | exact Or.inl rfl | exact Or.inr rfl) (c_callJ (i := 0) C__law_sip (hr.mono (by decide)) (pv 0) (a_cons (d_lL (l_lst (a_cons (d_op op_mod snd_mod d_int (d_var (pv 1))) (a_cons (d_op op_sub snd_sub (d_var (pv 1)) d_int) (a_cons (c_callJ (i := 0) C__law_pour (hr.mono (by decide)) (pv 0) (a_cons (d_var (pv 1)) a_nil)) (a_cons (c_callJ (i := 0) C__law_pour (hr.mono (by decide)) (pv 0) (a_cons (d_var (pv 1)) a_nil)) a_nil)))))) a_nil))) (s_cons (s_set (i := 3) sc__law_letters_right.nd rfl (by first | exact Or.inl rfl | exact Or.inr rfl) (c_callJ (i := 0) C__law_sip (hr.mono (by decide)) (pv 0) (a_cons (d_lL (l_lst (a_cons d_int (a_cons d_int (a_cons d_int (a_cons (d_op op_sub snd_sub (d_var (pv 1)) d_int) (a_cons (d_var (pv 1)) (a_cons (c_callJ (i := 0) C__law_pour (hr.mono (by decide)) (pv 0) (a_cons d_int a_nil)) (a_cons (c_callJ (i := 0) C__law_pour (hr.mono (by decide)) (pv 0) (a_cons (d_op op_addD snd_add (d_op op_powW snd_pow d_int d_int) d_int) a_nil)) (a_cons (d_op op_powW snd_pow d_int d_int) a_nil)))))))))) a_nil))) (s_cons (s_if (t_cmp (op_neD hr.units) snd_ne (c_call C_power (hr.mono (by decide)) (a_cons (d_var (pv 1)) (a_cons (d_var (pv 2)) (a_cons (d_var (pv 3)) a_nil)))) (c_call C__law_power (hr.mono (by decide)) (a_cons (d_var (pv 1)) (a_cons (d_var (pv 2)) (a_cons (d_var (pv 3)) a_nil)))) (nomark _)) (s_one (s_ret d_bl)) s_nil) (s_cons (s_if (t_cmp (op_eqD hr.units) snd_eq (d_var (pv 2)) d_int (nomark _)) (s_one (s_ret (d_cmp (op_eqD hr.units) snd_eq (c_call C_power (hr.mono (by decide)) (a_cons (d_var (pv 1)) (a_cons d_int (a_cons (d_var (pv 3)) a_nil)))) (d_cty call_int1 snd_intOf T.b_int (by decide +kernel) (a_cons (d_cmp (op_eqD hr.units) snd_eq (d_var (pv 3)) d_int (nomark _)) a_nil)) (nomark _)))) s_nil) (s_cons (s_set (i := 4) sc__law_letters_right.nd rfl (by first | exact Or.inl rfl | exact Or.inr rfl) (c_call C_inverse (hr.mono (by decide)) (a_cons (d_var (pv 1)) (a_cons (d_var (pv 2)) a_nil)))) (s_cons (s_if (PW.pt (t_or (t_not (t_ch (op_ltD hr.units0) snd_lt (op_ltD hr.units0) snd_lt d_int (d_var (pv 4)) (d_var (pv 1)))) (t_or (t_cmp (op_neD hr.units) snd_ne (d_op op_mod snd_mod (d_op op_mulD snd_mul (d_var (pv 2)) (d_var (pv 4))) (d_var (pv 1))) d_int (nomark _)) (t_or1 (t_cmp (op_neD hr.units) snd_ne (c_call C_inverse (hr.mono (by decide)) (a_cons (d_var (pv 1)) (a_cons (d_var (pv 4)) a_nil))) (d_var (pv 2)) (nomark _)))))) (s_one (s_ret d_bl)) s_nil) (s_one (s_ret (d_and (d_cmp (op_eqD hr.units) snd_eq (c_call C_power (hr.mono (by decide)) (a_cons (d_var (pv 1)) (a_cons (d_var (pv 2)) (a_cons (d_op op_sub snd_sub (d_var (pv 1)) d_int) a_nil)))) d_int (nomark _)) (d_one (d_cmp (op_eqD hr.units) snd_eq (c_call C_power (hr.mono (by decide)) (a_cons (d_var (pv 1)) (a_cons (d_var (pv 2)) (a_cons (d_op op_sub snd_sub (d_var (pv 1)) d_int) a_nil)))) (d_if (t_cmp op_gt snd_gt (d_var (pv 1)) d_int (nomark _)) (d_var (pv 4)) d_int) (nomark _))))))))))))
theorem ok__law_letters_right (T : Tb mg) (C__law_sip : Cal P w K mg base 2 "_law_sip" ["jug", "items"] (spJ K 2 wf__law_sip)) (C__law_pour : Cal P w K mg base 1 "_law_pour" ["jug", "total"] (spJ K 2 wf__law_pour)) (C_power : Cal P w K mg base 5 "power" ["prime", "letter", "times"] (spP K 3 wf_power)) (C__law_power : Cal P w K mg base 32 "_law_power" ["prime", "letter", "times"] (spP K 3 wf__law_power)) (C_inverse : Cal P w K mg base 5 "inverse" ["prime", "letter"] (spP K 2 wf_inverse)) {f : Addr} {fd : FuncData} (F : FunD K "_law_letters_right" "_law_letters_right" (defArgs (top 31)) (defBody (top 31)) (defScope (top 31)) [] [] f fd) (hm : mg "_law_letters_right" = some (.ref f)) (pu : ∀ dj ds Q', ds.length + 1 = 2 → wf__law_letters_right dj ds Q' → ws__law_letters_right (edJ Q') (enJ N__law_letters_right dj ds)) : Cal P w K mg base 33 "_law_letters_right" ["jug", "prime"] (spJ K 2 wf__law_letters_right) :=
  ⟨f, fd, fnJ F sc__law_letters_right rfl (fun cdv A outer s H E hr => der__law_letters_right T C__law_sip C__law_pour C_power C__law_power C_inverse f cdv A outer s H E hr) pu, hm, F.kp, F.bindsN (ps := ["jug", "prime"]) fun _ _ _ _ _ _ us hl => match us, hl with | [_, _], _ => rfl⟩
/-! ### _law_shared -/
abbrev N__law_shared : List Str := ["one", "other"]
theorem sc__law_shared : FnScope N__law_shared ["one", "other"] (defScope (top 32)) := ⟨rfl, rfl, rfl, by decide +kernel, rfl, by decide +kernel, by decide +kernel⟩
def ws__law_shared : WS := (wSeq (wWhile (wB (wOp dGt (wVar 1) (wC (.int 0)))) (wPar 0 1 (wVar 1) (wOp dMod (wVar 0) (wVar 1)))) (wRet (wVar 0)))
theorem der__law_shared (T : Tb mg)  (f : Addr) (cdv : Value) (A : Around) (outer : List Env) (s : Shared) (H : Hp) (E : XK) (hr : Room 0 (A.deeper (envOfC "_law_shared" (defScope (top 32)) s.heap.objs.size f cdv))) : PSs (cxOf CX0 P w K mg base N__law_shared "_law_shared" (defScope (top 32)) f cdv A outer s H E).nox (defBody (top 32)) (lS K ws__law_shared) :=
  (s_cons (s_while PassesOwn.never (t_cmp op_gt snd_gt (d_var (pv 1)) d_int (nomark _)) (s_one (s_par (ps_par (i := 0) (j := 1) rfl sc__law_shared.nd rfl rfl (by decide) rfl rfl (pa_cons (d_var (pv 1)) (pa_cons (d_op op_mod snd_mod (d_var (pv 0)) (d_var (pv 1))) pa_nil)) (by rfl))))) (s_one (s_ret (d_var (pv 0)))))
theorem ok__law_shared (T : Tb mg)  {f : Addr} {fd : FuncData} (F : FunD K "_law_shared" "_law_shared" (defArgs (top 32)) (defBody (top 32)) (defScope (top 32)) [] [] f fd) (hm : mg "_law_shared" = some (.ref f)) (pu : ∀ ds Q', ds.length = 2 → wf__law_shared ds Q' → ws__law_shared (edP Q') (enP N__law_shared ds)) : Cal P w K mg base 1 "_law_shared" ["one", "other"] (spP K 2 wf__law_shared) :=
  ⟨f, fd, fnP F sc__law_shared (fun cdv A outer s H E hr => der__law_shared T  f cdv A outer s H E hr) pu, hm, F.kp, F.bindsN (ps := ["one", "other"]) fun _ _ _ _ _ _ us hl => match us, hl with | [_, _], _ => rfl⟩
/-! ### _law_roots_right -/
abbrev N__law_roots_right : List Str := ["jug", "prime", "least", "times", "base", "letter", "powers", "due"]
theorem sc__law_roots_right : FnScope N__law_roots_right ["jug"] (defScope (top 33)) := ⟨rfl, rfl, rfl, by decide +kernel, rfl, by decide +kernel, by decide +kernel⟩
def ws__law_roots_right : WS := (wSeq (wSet 1 (wFnJ 0 2 wf__law_sip (wCons (wLe (wSz (wCons (wC (.int 2)) (wCons (wC (.int 3)) (wCons (wC (.int 5)) (wCons (wC (.int 7)) (wCons (wC (.int 11)) (wCons (wC (.int 13)) (wCons (wC (.int 17)) (wCons (wC (.int 19)) (wCons (wC (.int 23)) (wCons (wC (.int 31)) (wCons (wC (.int 41)) (wCons (wC (.int 43)) (wCons (wC (.int 71)) (wCons (wC (.int 73)) (wCons (wC (.int 97)) (wCons (wC (.int 191)) (wCons (wC (.int 409)) wNil))))))))))))))))))) wNil))) (wSeq (wSet 2 (wFn 1 wf_root (wCons (wVar 1) wNil))) (wSeq (wIfS (wOr (wNot (wB (wCh dLe dLt (wC (.int 1)) (wVar 2) (wVar 1)))) (wB (wOp dNe (wCl dLen (wCons (wFn 2 wf__law_powers (wCons (wVar 1) (wCons (wVar 2) wNil))) wNil)) (wOp dSub (wVar 1) (wC (.int 1)))))) (wRet (wC (.bool false))) wNext) (wSeq (wIfS (wB (wOp dNe (wLe (wLc (wRg2 (wCons (wC (.int 1)) (wCons (wVar 2) wNil))) (wgN 5) (wB (wOp dEq (wCl dLen (wCons (wFn 2 wf__law_powers (wCons (wVar 1) (wCons (wVar 5) wNil))) wNil)) (wOp dSub (wVar 1) (wC (.int 1))))) (wVar 5) [5])) (wLe (wSz wNil)))) (wRet (wC (.bool false))) wNext) (wSeq (wSet 3 (wFnJ 0 2 wf__law_pour (wCons (wOp dSub (wVar 1) (wC (.int 1))) wNil))) (wSeq (wIfS (wB (wOp dNe (wOp dEq (wCl dLen (wCons (wFn 2 wf__law_powers (wCons (wVar 1) (wCons (wFn 3 wf_power (wCons (wVar 1) (wCons (wVar 2) (wCons (wVar 3) wNil)))) wNil))) wNil)) (wOp dSub (wVar 1) (wC (.int 1)))) (wOp dEq (wFn 2 wf__law_shared (wCons (wOp dSub (wVar 1) (wC (.int 1))) (wCons (wVar 3) wNil))) (wC (.int 1))))) (wRet (wC (.bool false))) wNext) (wSeq (wPar 4 5 (wFnJ 0 2 wf__law_pour (wCons (wVar 1) wNil)) (wFnJ 0 2 wf__law_pour (wCons (wVar 1) wNil))) (wSeq (wSet 6 (wFn 2 wf__law_powers (wCons (wVar 1) (wCons (wVar 4) wNil)))) (wSeq (wSet 7 (wIf (wB (wOp (dIn false) (wVar 5) (wVar 6))) (wIndex (wVar 6) (wVar 5)) (wC .none))) (wSeq (wIfS (wOr (wB (wOp dNe (wFn 3 wf_exponent_of (wCons (wVar 1) (wCons (wVar 4) (wCons (wVar 5) wNil)))) (wVar 7))) (wAnd (wB (wOp dGt (wVar 5) (wC (.int 0)))) (wB (wOp dIsN (wFn 3 wf_exponent_of (wCons (wVar 1) (wCons (wVar 2) (wCons (wVar 5) wNil)))) (wC .none))))) (wRet (wC (.bool false))) wNext) (wRet (wOrV (wOp dEq (wVar 4) (wC (.int 0))) (wOp dEq (wOp dMod (wOp dSub (wVar 1) (wC (.int 1))) (wCl dLen (wCons (wVar 6) wNil))) (wC (.int 0)))))))))))))))
theorem der__law_roots_right (T : Tb mg) (C__law_sip : Cal P w K mg base 2 "_law_sip" ["jug", "items"] (spJ K 2 wf__law_sip)) (C_root : Cal P w K mg base 5 "root" ["prime"] (spP K 1 wf_root)) (C__law_powers : Cal P w K mg base 1 "_law_powers" ["prime", "letter"] (spP K 2 wf__law_powers)) (C__law_pour : Cal P w K mg base 1 "_law_pour" ["jug", "total"] (spJ K 2 wf__law_pour)) (C_power : Cal P w K mg base 5 "power" ["prime", "letter", "times"] (spP K 3 wf_power)) (C__law_shared : Cal P w K mg base 1 "_law_shared" ["one", "other"] (spP K 2 wf__law_shared)) (C_exponent_of : Cal P w K mg base 5 "exponent_of" ["prime", "base", "letter"] (spP K 3 wf_exponent_of)) (f : Addr) (cdv : Value) (A : Around) (outer : List Env) (s : Shared) (H : Hp) (E : XK) (hr : Room 5 (A.deeper (envOfC "_law_roots_right" (defScope (top 33)) s.heap.objs.size f cdv))) : PSs (cxOf CX0 P w K mg base N__law_roots_right "_law_roots_right" (defScope (top 33)) f cdv A outer s H E).nox (defBody (top 33)) (lS K ws__law_roots_right) :=
  (s_cons (s_set (i := 1) sc__law_roots_right.nd rfl (by first | exact Or.inl rfl | exact Or.inr rfl) (c_callJ (i := 0) C__law_sip (hr.mono (by decide)) (pv 0) (a_cons (d_lL (l_lst (a_cons d_int (a_cons d_int (a_cons d_int (a_cons d_int (a_cons d_int (a_cons d_int (a_cons d_int (a_cons d_int (a_cons d_int (a_cons d_int (a_cons d_int (a_cons d_int (a_cons d_int (a_cons d_int (a_cons d_int (a_cons d_int (a_cons d_int a_nil))))))))))))))))))) a_nil))) (s_cons (s_set (i := 2) sc__law_roots_right.nd rfl (by first | exact Or.inl rfl | exact Or.inr rfl) (c_call C_root (hr.mono (by decide)) (a_cons (d_var (pv 1)) a_nil))) (s_cons (s_if (PW.pt (t_or (t_not (t_ch op_le snd_le (op_ltD hr.units0) snd_lt d_int (d_var (pv 2)) (d_var (pv 1)))) (t_or1 (t_cmp (op_neD hr.units) snd_ne (d_cb call_len snd_len T.b_len (by decide +kernel) (a_cons (c_call C__law_powers (hr.mono (by decide)) (a_cons (d_var (pv 1)) (a_cons (d_var (pv 2)) a_nil))) a_nil)) (d_op op_sub snd_sub (d_var (pv 1)) d_int) (nomark _))))) (s_one (s_ret d_bl)) s_nil) (s_cons (s_if (t_cmp (op_neD hr.units) snd_ne (d_lL (l_lc (own := [("letter", 5)]) rfl sc__law_roots_right.nd (i_rng2 T.b_range (a_cons d_int (a_cons (d_var (pv 2)) a_nil))) (blkOk_by (N := N__law_roots_right) (sc := (defScope (top 33))) (by decide +kernel)) (fun _ _ _ _ _ => (g_name (i := 5) sc__law_roots_right.nd rfl (by first | exact Or.inl rfl | exact Or.inr rfl))) (fun _ _ _ _ _ => (ts_one (t_cmp (op_eqD hr.units) snd_eq (d_cb call_len snd_len T.b_len (by decide +kernel) (a_cons (c_call C__law_powers (hr.mono (by decide)) (a_cons (d_var (pv 1)) (a_cons (d_var (pv 5)) a_nil))) a_nil)) (d_op op_sub snd_sub (d_var (pv 1)) d_int) (nomark _)))) (fun _ _ _ _ _ => (d_var (pv 5))))) (d_lL (l_lst a_nil)) (nomark _)) (s_one (s_ret d_bl)) s_nil) (s_cons (s_set (i := 3) sc__law_roots_right.nd rfl (by first | exact Or.inl rfl | exact Or.inr rfl) (c_callJ (i := 0) C__law_pour (hr.mono (by decide)) (pv 0) (a_cons (d_op op_sub snd_sub (d_var (pv 1)) d_int) a_nil))) (s_cons (s_if (t_cmp (op_neD hr.units) snd_ne (d_cmp (op_eqD hr.units) snd_eq (d_cb call_len snd_len T.b_len (by decide +kernel) (a_cons (c_call C__law_powers (hr.mono (by decide)) (a_cons (d_var (pv 1)) (a_cons (c_call C_power (hr.mono (by decide)) (a_cons (d_var (pv 1)) (a_cons (d_var (pv 2)) (a_cons (d_var (pv 3)) a_nil)))) a_nil))) a_nil)) (d_op op_sub snd_sub (d_var (pv 1)) d_int) (nomark _)) (d_cmp (op_eqD hr.units) snd_eq (c_call C__law_shared (hr.mono (by decide)) (a_cons (d_op op_sub snd_sub (d_var (pv 1)) d_int) (a_cons (d_var (pv 3)) a_nil))) d_int (nomark _)) (nomark _)) (s_one (s_ret d_bl)) s_nil) (s_cons (s_par (ps_par (i := 4) (j := 5) rfl sc__law_roots_right.nd rfl rfl (by decide) rfl rfl (pa_cons (c_callJ (i := 0) C__law_pour (hr.mono (by decide)) (pv 0) (a_cons (d_var (pv 1)) a_nil)) (pa_cons (c_callJ (i := 0) C__law_pour (hr.mono (by decide)) (pv 0) (a_cons (d_var (pv 1)) a_nil)) pa_nil)) (by rfl))) (s_cons (s_set (i := 6) sc__law_roots_right.nd rfl (by first | exact Or.inl rfl | exact Or.inr rfl) (c_call C__law_powers (hr.mono (by decide)) (a_cons (d_var (pv 1)) (a_cons (d_var (pv 4)) a_nil)))) (s_cons (s_set (i := 7) sc__law_roots_right.nd rfl (by first | exact Or.inl rfl | exact Or.inr rfl) (d_if (t_cmp op_in_seq snd_in (d_var (pv 5)) (d_var (pv 6)) (by rfl)) (d_index (pe_bm PySem.F.plainAttrs_list PySem.F.slot_list_index PySem.F.type_list_index mt_index (d_var (pv 6)) (pa_cons (d_var (pv 5)) pa_nil))) d_non)) (s_cons (s_if (PW.pt (t_or (t_cmp (op_neD hr.units) snd_ne (c_call C_exponent_of (hr.mono (by decide)) (a_cons (d_var (pv 1)) (a_cons (d_var (pv 4)) (a_cons (d_var (pv 5)) a_nil)))) (d_var (pv 7)) (nomark _)) (t_or1 (PW.pt (t_and (t_cmp op_gt snd_gt (d_var (pv 5)) d_int (nomark _)) (t_and1 (t_cmp op_isN snd_isN (c_call C_exponent_of (hr.mono (by decide)) (a_cons (d_var (pv 1)) (a_cons (d_var (pv 2)) (a_cons (d_var (pv 5)) a_nil)))) d_non (nomark _)))))))) (s_one (s_ret d_bl)) s_nil) (s_one (s_ret (d_or (d_cmp (op_eqD hr.units) snd_eq (d_var (pv 4)) d_int (nomark _)) (d_one (d_cmp (op_eqD hr.units) snd_eq (d_op op_mod snd_mod (d_op op_sub snd_sub (d_var (pv 1)) d_int) (d_cb call_len snd_len T.b_len (by decide +kernel) (a_cons (d_var (pv 6)) a_nil))) d_int (nomark _))))))))))))))))
theorem ok__law_roots_right (T : Tb mg) (C__law_sip : Cal P w K mg base 2 "_law_sip" ["jug", "items"] (spJ K 2 wf__law_sip)) (C_root : Cal P w K mg base 5 "root" ["prime"] (spP K 1 wf_root)) (C__law_powers : Cal P w K mg base 1 "_law_powers" ["prime", "letter"] (spP K 2 wf__law_powers)) (C__law_pour : Cal P w K mg base 1 "_law_pour" ["jug", "total"] (spJ K 2 wf__law_pour)) (C_power : Cal P w K mg base 5 "power" ["prime", "letter", "times"] (spP K 3 wf_power)) (C__law_shared : Cal P w K mg base 1 "_law_shared" ["one", "other"] (spP K 2 wf__law_shared)) (C_exponent_of : Cal P w K mg base 5 "exponent_of" ["prime", "base", "letter"] (spP K 3 wf_exponent_of)) {f : Addr} {fd : FuncData} (F : FunD K "_law_roots_right" "_law_roots_right" (defArgs (top 33)) (defBody (top 33)) (defScope (top 33)) [] [] f fd) (hm : mg "_law_roots_right" = some (.ref f)) (pu : ∀ dj ds Q', ds.length + 1 = 1 → wf__law_roots_right dj ds Q' → ws__law_roots_right (edJ Q') (enJ N__law_roots_right dj ds)) : Cal P w K mg base 6 "_law_roots_right" ["jug"] (spJ K 1 wf__law_roots_right) :=
  ⟨f, fd, fnJ F sc__law_roots_right rfl (fun cdv A outer s H E hr => der__law_roots_right T C__law_sip C_root C__law_powers C__law_pour C_power C__law_shared C_exponent_of f cdv A outer s H E hr) pu, hm, F.kp, F.bindsN (ps := ["jug"]) fun _ _ _ _ _ _ us hl => match us, hl with | [_], _ => rfl⟩
/-! ### law -/
abbrev N_law : List Str := ["script", "spot", "jug", "turn", "prime", "told"]
theorem sc_law : FnScope N_law ["script"] (defScope (top 34)) := ⟨rfl, rfl, rfl, by decide +kernel, rfl, by decide +kernel, by decide +kernel⟩
def ws_law : WS := (wSeq (wFor (wRg1 (wCons (wCl dMax2 (wCons (wC (.int 1)) (wCons (wCl dMin2 (wCons (wC (.int 4)) (wCons (wLenS 0) wNil))) wNil))) wNil)) (wgN 1) (wSeq (wSetOwn 2 (wFnS 0 2 wf__law_jug (wCons (wVar 1) wNil))) (wFor (wRg1 (wCons (wC (.int 4)) wNil)) (wgN 3) (wSeq (wSet 4 (wFnJ 2 2 wf__law_sip (wCons (wLe (wSz (wCons (wC (.int 2)) (wCons (wC (.int 3)) (wCons (wC (.int 5)) (wCons (wC (.int 7)) (wCons (wC (.int 11)) (wCons (wC (.int 101)) (wCons (wC (.int 4999)) (wCons (wC (.int 9967)) (wCons (wC (.int 9973)) wNil))))))))))) wNil))) (wIfS (wOr (wNot (wTr (wFnJ 2 1 wf__law_numbers_right wNil))) (wOr (wNot (wTr (wFnJ 2 2 wf__law_letters_right (wCons (wVar 4) wNil)))) (wNot (wTr (wFnJ 2 1 wf__law_roots_right wNil))))) (wRet (wC (.bool false))) wNext))))) (wSeq (wIfS (wOr (wB (wOp dNe (wTup (wCons (wC (.int 9973)) (wCons (wC (.int 1000000000)) wNil))) (wTup (wCons (wC (.int 9973)) (wCons (wOp dPow (wC (.int 10)) (wC (.int 9))) wNil))))) (wB (wOp dNe (wLe (wSz (wCons (wFn 1 wf_root (wCons (wC (.int 2)) wNil)) (wCons (wFn 1 wf_root (wCons (wC (.int 41)) wNil)) (wCons (wFn 1 wf_root (wCons (wC (.int 71)) wNil)) (wCons (wFn 1 wf_root (wCons (wC (.int 191)) wNil)) wNil)))))) (wLe (wSz (wCons (wC (.int 1)) (wCons (wC (.int 6)) (wCons (wC (.int 7)) (wCons (wC (.int 19)) wNil))))))))) (wRet (wC (.bool false))) wNext) (wSeq (wSet 5 (wLe (wSz (wCons (wFn 3 wf_exponent_of (wCons (wC (.int 7)) (wCons (wC (.int 0)) (wCons (wC (.int 0)) wNil)))) (wCons (wFn 3 wf_exponent_of (wCons (wC (.int 7)) (wCons (wC (.int 0)) (wCons (wC (.int 3)) wNil)))) (wCons (wFn 3 wf_exponent_of (wCons (wC (.int 2)) (wCons (wC (.int 1)) (wCons (wC (.int 0)) wNil)))) (wCons (wFn 3 wf_exponent_of (wCons (wC (.int 7)) (wCons (wC (.int 5)) (wCons (wC (.int 1)) wNil)))) wNil))))))) (wRet (wAndV (wOp dEq (wVar 5) (wLe (wSz (wCons (wC (.int 1)) (wCons (wC .none) (wCons (wC .none) (wCons (wC (.int 0)) wNil))))))) (wOp dNotN (wFn 3 wf_exponent_of (wCons (wC (.int 1009)) (wCons (wC (.int 11)) (wCons (wFn 3 wf_power (wCons (wC (.int 1009)) (wCons (wC (.int 11)) (wCons (wC (.int 1007)) wNil)))) wNil)))) (wC .none)))))))
theorem der_law (T : Tb mg) (C__law_jug : Cal P w K mg base 1 "_law_jug" ["script", "spot"] (spS K 2 wf__law_jug)) (C__law_sip : Cal P w K mg base 2 "_law_sip" ["jug", "items"] (spJ K 2 wf__law_sip)) (C__law_roots_right : Cal P w K mg base 6 "_law_roots_right" ["jug"] (spJ K 1 wf__law_roots_right)) (C__law_letters_right : Cal P w K mg base 33 "_law_letters_right" ["jug", "prime"] (spJ K 2 wf__law_letters_right)) (C__law_numbers_right : Cal P w K mg base 5 "_law_numbers_right" ["jug"] (spJ K 1 wf__law_numbers_right)) (C_root : Cal P w K mg base 5 "root" ["prime"] (spP K 1 wf_root)) (C_exponent_of : Cal P w K mg base 5 "exponent_of" ["prime", "base", "letter"] (spP K 3 wf_exponent_of)) (C_power : Cal P w K mg base 5 "power" ["prime", "letter", "times"] (spP K 3 wf_power)) (f : Addr) (cdv : Value) (A : Around) (outer : List Env) (s : Shared) (H : Hp) (E : XK) (hr : Room 33 (A.deeper (envOfC "law" (defScope (top 34)) s.heap.objs.size f cdv))) : PSs (cxOf CX0 P w K mg base N_law "law" (defScope (top 34)) f cdv A outer s H E).nox (defBody (top 34)) (lS K ws_law) :=
  (s_cons (s_for PassesOwn.never rfl (i_rng1 T.b_range (a_cons (d_cb (call_max2 rfl) snd_max2 T.b_max (by decide +kernel) (a_cons d_int (a_cons (d_cb (call_min2 rfl) snd_min2 T.b_min (by decide +kernel) (a_cons d_int (a_cons (d_lenS (i := 0) T.b_len (pv 0)) a_nil))) a_nil))) a_nil)) (g_name (i := 1) sc_law.nd rfl (by first | exact Or.inl rfl | exact Or.inr rfl)) (s_cons (s_setOwn (i := 2) sc_law.nd rfl (by first | exact Or.inl rfl | exact Or.inr rfl) (c_callS (i := 0) C__law_jug (hr.mono (by decide)) (pv 0) (a_cons (d_var (pv 1)) a_nil))) (s_one (s_for PassesOwn.never rfl (i_rng1 T.b_range (a_cons d_int a_nil)) (g_name (i := 3) sc_law.nd rfl (by first | exact Or.inl rfl | exact Or.inr rfl)) (s_cons (s_set (i := 4) sc_law.nd rfl (by first | exact Or.inl rfl | exact Or.inr rfl) (c_callJ (i := 2) C__law_sip (hr.mono (by decide)) (pv 2) (a_cons (d_lL (l_lst (a_cons d_int (a_cons d_int (a_cons d_int (a_cons d_int (a_cons d_int (a_cons d_int (a_cons d_int (a_cons d_int (a_cons d_int a_nil))))))))))) a_nil))) (s_one (s_if (PW.pt (t_or (t_not (t_tru (c_callJ (i := 2) C__law_numbers_right (hr.mono (by decide)) (pv 2) a_nil))) (t_or (t_not (t_tru (c_callJ (i := 2) C__law_letters_right (hr.mono (by decide)) (pv 2) (a_cons (d_var (pv 4)) a_nil)))) (t_or1 (t_not (t_tru (c_callJ (i := 2) C__law_roots_right (hr.mono (by decide)) (pv 2) a_nil))))))) (s_one (s_ret d_bl)) s_nil))))))) (s_cons (s_if (PW.pt (t_or (t_cmp (op_neD hr.units) snd_ne (d_tup (a_cons (d_gint T.c_MOST_PRIME) (a_cons (d_gint T.c_MOST_TIMES) a_nil))) (d_tup (a_cons d_int (a_cons (d_op op_powW snd_pow d_int d_int) a_nil))) (nomark _)) (t_or1 (t_cmp (op_neD hr.units) snd_ne (d_lL (l_lst (a_cons (c_call C_root (hr.mono (by decide)) (a_cons d_int a_nil)) (a_cons (c_call C_root (hr.mono (by decide)) (a_cons d_int a_nil)) (a_cons (c_call C_root (hr.mono (by decide)) (a_cons d_int a_nil)) (a_cons (c_call C_root (hr.mono (by decide)) (a_cons d_int a_nil)) a_nil)))))) (d_lL (l_lst (a_cons d_int (a_cons d_int (a_cons d_int (a_cons d_int a_nil)))))) (nomark _))))) (s_one (s_ret d_bl)) s_nil) (s_cons (s_set (i := 5) sc_law.nd rfl (by first | exact Or.inl rfl | exact Or.inr rfl) (d_lL (l_lst (a_cons (c_call C_exponent_of (hr.mono (by decide)) (a_cons d_int (a_cons d_int (a_cons d_int a_nil)))) (a_cons (c_call C_exponent_of (hr.mono (by decide)) (a_cons d_int (a_cons d_int (a_cons d_int a_nil)))) (a_cons (c_call C_exponent_of (hr.mono (by decide)) (a_cons d_int (a_cons d_int (a_cons d_int a_nil)))) (a_cons (c_call C_exponent_of (hr.mono (by decide)) (a_cons d_int (a_cons d_int (a_cons d_int a_nil)))) a_nil))))))) (s_one (s_ret (d_and (d_cmp (op_eqD hr.units) snd_eq (d_var (pv 5)) (d_lL (l_lst (a_cons d_int (a_cons d_non (a_cons d_non (a_cons d_int a_nil)))))) (nomark _)) (d_one (d_cmp op_notN snd_notN (c_call C_exponent_of (hr.mono (by decide)) (a_cons d_int (a_cons d_int (a_cons (c_call C_power (hr.mono (by decide)) (a_cons d_int (a_cons d_int (a_cons d_int a_nil)))) a_nil)))) d_non (nomark _)))))))))
theorem ok_law (T : Tb mg) (C__law_jug : Cal P w K mg base 1 "_law_jug" ["script", "spot"] (spS K 2 wf__law_jug)) (C__law_sip : Cal P w K mg base 2 "_law_sip" ["jug", "items"] (spJ K 2 wf__law_sip)) (C__law_roots_right : Cal P w K mg base 6 "_law_roots_right" ["jug"] (spJ K 1 wf__law_roots_right)) (C__law_letters_right : Cal P w K mg base 33 "_law_letters_right" ["jug", "prime"] (spJ K 2 wf__law_letters_right)) (C__law_numbers_right : Cal P w K mg base 5 "_law_numbers_right" ["jug"] (spJ K 1 wf__law_numbers_right)) (C_root : Cal P w K mg base 5 "root" ["prime"] (spP K 1 wf_root)) (C_exponent_of : Cal P w K mg base 5 "exponent_of" ["prime", "base", "letter"] (spP K 3 wf_exponent_of)) (C_power : Cal P w K mg base 5 "power" ["prime", "letter", "times"] (spP K 3 wf_power)) {f : Addr} {fd : FuncData} (F : FunD K "law" "law" (defArgs (top 34)) (defBody (top 34)) (defScope (top 34)) [] [] f fd) (hm : mg "law" = some (.ref f)) (pu : ∀ ns ds Q', ds.length + 1 = 1 → wf_law ns ds Q' → ws_law (edP Q') (enS N_law ns ds)) : Cal P w K mg base 34 "law" ["script"] (spS K 1 wf_law) :=
  ⟨f, fd, fnS F sc_law rfl (fun cdv A outer s H E hr => der_law T C__law_jug C__law_sip C__law_roots_right C__law_letters_right C__law_numbers_right C_root C_exponent_of C_power f cdv A outer s H E hr) pu, hm, F.kp, F.bindsN (ps := ["script"]) fun _ _ _ _ _ _ us hl => match us, hl with | [_], _ => rfl⟩
end
end K01

set_option Elab.async false
set_option linter.all false
set_option maxRecDepth 100000
set_option maxHeartbeats 4000000
namespace K01
open PySem PySem.Spec PyProof.Rows L2 Pd
theorem btw_int {i a b : Int} : isBtw (.int i) a b = (decide (a ≤ i) && decide (i ≤ b)) := rfl
theorem pu_is_whole (ds Q) (hl : ds.length = 1) (h : wf_is_whole ds Q) : ws_is_whole (edP Q) (enP N_is_whole ds) := by
  obtain ⟨d, rfl, q⟩ := h
  cases d <;> exact ⟨_, rfl, _, rfl, _, rfl, by first | exact ⟨_, rfl, _, rfl, _, rfl, q⟩ | exact q⟩
theorem pu_is_between (ds Q) (hl : ds.length = 3) (h : wf_is_between ds Q) : ws_is_between (edP Q) (enP N_is_between ds) := by
  obtain ⟨d, a, b, rfl, q⟩ := h
  simp only [ws_is_between, N_is_between, wf_is_whole, wf_is_between, wVar, wC, wOp, wUn, wCl, wB, wTr, wAnd, wOr, wNot, wAndV, wOrV, wNotV, wIf, wCh, wNil, wCons, wTup, wLe, wSz, wFn, wFnJ, wNext, wSeq, wRet, wRetN, wDrop, wIfS, wSet, wSetOwn, wNever, wAug, wOpO, wOpR, wClO, wApp, wSetIt, wFrz, wFor, wRg1, wRg2, wSq, wEnum, wZip, wgN, wgT, wgNil, wgCons, wYes, wAsgT, wgLs, wLenS, wIxS, wFnS, wIsi, wListOf, wRev, edP, edJ, enP, enJ, enS, NotOwn, Flat, List.map_cons, List.map_nil, List.length_cons, List.length_nil, List.replicate_succ, List.replicate_zero, List.cons_append, List.nil_append, List.append_nil, List.set_cons_zero, List.set_cons_succ, List.getElem?_cons_zero, List.getElem?_cons_succ, Nat.reduceAdd, Nat.reduceSub, Option.some.injEq, Sl.imm.injEq, Sl.own.injEq, Sl.scr.injEq, exists_eq_left, exists_eq_left', exists_eq_right, exists_eq, exists_eq', exists_and_left, and_assoc, and_true, true_and, ne_eq, not_false_eq_true, Nat.succ_ne_zero, or_true, true_or, true_implies, forall_eq', forall_eq, PyData.int.injEq, PyData.bool.injEq, PyData.list.injEq, PyData.tuple.injEq, List.cons.injEq, i_add, i_iadd, i_sub, i_mul, i_mod, i_fdiv, i_fdivG, i_pow, i_neg, i_le, i_ge, i_gt, i_lt, i_eq, i_ne, i_intI, i_intB, i_abs, i_max, i_min, i_lenL, i_lenT, i_ixL, i_ixT, i_tupL, i_tupT, i_truB, Bool.not_true, Bool.not_false, Bool.false_eq_true, if_true, if_false, reduceIte]
  cases d with
  | int i =>
    rw [btw_int] at q
    simp only [isW, if_true, wVar, wC, wOp, wUn, wCl, wB, wTr, wAnd, wOr, wNot, wAndV, wOrV, wNotV, wIf, wCh, wNil, wCons, wTup, wLe, wSz, wFn, wFnJ, wNext, wSeq, wRet, wRetN, wDrop, wIfS, wSet, wSetOwn, wNever, wAug, wOpO, wOpR, wClO, wApp, wSetIt, wFrz, wFor, wRg1, wRg2, wSq, wEnum, wZip, wgN, wgT, wgNil, wgCons, wYes, wAsgT, wgLs, wLenS, wIxS, wFnS, wIsi, wListOf, wRev, edP, edJ, enP, enJ, enS, NotOwn, Flat, List.map_cons, List.map_nil, List.length_cons, List.length_nil, List.replicate_succ, List.replicate_zero, List.cons_append, List.nil_append, List.append_nil, List.set_cons_zero, List.set_cons_succ, List.getElem?_cons_zero, List.getElem?_cons_succ, Nat.reduceAdd, Nat.reduceSub, Option.some.injEq, Sl.imm.injEq, Sl.own.injEq, Sl.scr.injEq, exists_eq_left, exists_eq_left', exists_eq_right, exists_eq, exists_eq', exists_and_left, and_assoc, and_true, true_and, ne_eq, not_false_eq_true, Nat.succ_ne_zero, or_true, true_or, true_implies, forall_eq', forall_eq, PyData.int.injEq, PyData.bool.injEq, PyData.list.injEq, PyData.tuple.injEq, List.cons.injEq, i_add, i_iadd, i_sub, i_mul, i_mod, i_fdiv, i_fdivG, i_pow, i_neg, i_le, i_ge, i_gt, i_lt, i_eq, i_ne, i_intI, i_intB, i_abs, i_max, i_min, i_lenL, i_lenT, i_ixL, i_ixT, i_tupL, i_tupT, i_truB, Bool.not_true, Bool.not_false, Bool.false_eq_true, if_true, if_false, reduceIte]
    by_cases h : a ≤ i
    · rw [decide_eq_true h] at q ⊢; exact q
    · rw [decide_eq_false h] at q ⊢; exact q
  | _ => exact q
theorem pu_check_between (ds Q) (hl : ds.length = 3) (h : wf_check_between ds Q) : ws_check_between (edP Q) (enP N_check_between ds) := by
  obtain ⟨d, a, b, rfl, h, q⟩ := h
  simp only [ws_check_between, N_check_between, wf_is_between, h, wVar, wC, wOp, wUn, wCl, wB, wTr, wAnd, wOr, wNot, wAndV, wOrV, wNotV, wIf, wCh, wNil, wCons, wTup, wLe, wSz, wFn, wFnJ, wNext, wSeq, wRet, wRetN, wDrop, wIfS, wSet, wSetOwn, wNever, wAug, wOpO, wOpR, wClO, wApp, wSetIt, wFrz, wFor, wRg1, wRg2, wSq, wEnum, wZip, wgN, wgT, wgNil, wgCons, wYes, wAsgT, wgLs, wLenS, wIxS, wFnS, wIsi, wListOf, wRev, edP, edJ, enP, enJ, enS, NotOwn, Flat, List.map_cons, List.map_nil, List.length_cons, List.length_nil, List.replicate_succ, List.replicate_zero, List.cons_append, List.nil_append, List.append_nil, List.set_cons_zero, List.set_cons_succ, List.getElem?_cons_zero, List.getElem?_cons_succ, Nat.reduceAdd, Nat.reduceSub, Option.some.injEq, Sl.imm.injEq, Sl.own.injEq, Sl.scr.injEq, exists_eq_left, exists_eq_left', exists_eq_right, exists_eq, exists_eq', exists_and_left, and_assoc, and_true, true_and, ne_eq, not_false_eq_true, Nat.succ_ne_zero, or_true, true_or, true_implies, forall_eq', forall_eq, PyData.int.injEq, PyData.bool.injEq, PyData.list.injEq, PyData.tuple.injEq, List.cons.injEq, i_add, i_iadd, i_sub, i_mul, i_mod, i_fdiv, i_fdivG, i_pow, i_neg, i_le, i_ge, i_gt, i_lt, i_eq, i_ne, i_intI, i_intB, i_abs, i_max, i_min, i_lenL, i_lenT, i_ixL, i_ixT, i_tupL, i_tupT, i_truB, Bool.not_true, Bool.not_false, Bool.false_eq_true, if_true, if_false, reduceIte]
  exact q
theorem pu_least_divisor (ds Q) (hl : ds.length = 1) (h : wf_least_divisor ds Q) : ws_least_divisor (edP Q) (enP N_least_divisor ds) := by
  obtain ⟨n, rfl, hn, q⟩ := h
  simp only [ws_least_divisor, N_least_divisor, wWhile, wVar, wC, wOp, wUn, wCl, wB, wTr, wAnd, wOr, wNot, wAndV, wOrV, wNotV, wIf, wCh, wNil, wCons, wTup, wLe, wSz, wFn, wFnJ, wNext, wSeq, wRet, wRetN, wDrop, wIfS, wSet, wSetOwn, wNever, wAug, wOpO, wOpR, wClO, wApp, wSetIt, wFrz, wFor, wRg1, wRg2, wSq, wEnum, wZip, wgN, wgT, wgNil, wgCons, wYes, wAsgT, wgLs, wLenS, wIxS, wFnS, wIsi, wListOf, wRev, edP, edJ, enP, enJ, enS, NotOwn, Flat, List.map_cons, List.map_nil, List.length_cons, List.length_nil, List.replicate_succ, List.replicate_zero, List.cons_append, List.nil_append, List.append_nil, List.set_cons_zero, List.set_cons_succ, List.getElem?_cons_zero, List.getElem?_cons_succ, Nat.reduceAdd, Nat.reduceSub, Option.some.injEq, Sl.imm.injEq, Sl.own.injEq, Sl.scr.injEq, exists_eq_left, exists_eq_left', exists_eq_right, exists_eq, exists_eq', exists_and_left, and_assoc, and_true, true_and, ne_eq, not_false_eq_true, Nat.succ_ne_zero, or_true, true_or, true_implies, forall_eq', forall_eq, PyData.int.injEq, PyData.bool.injEq, PyData.list.injEq, PyData.tuple.injEq, List.cons.injEq, i_add, i_iadd, i_sub, i_mul, i_mod, i_fdiv, i_fdivG, i_pow, i_neg, i_le, i_ge, i_gt, i_lt, i_eq, i_ne, i_intI, i_intB, i_abs, i_max, i_min, i_lenL, i_lenT, i_ixL, i_ixT, i_tupL, i_tupT, i_truB, Bool.not_true, Bool.not_false, Bool.false_eq_true, if_true, if_false, reduceIte]
  refine ⟨fun m e => ∃ d : Int, m ≤ 200 ∧ d = 202 - m ∧ ldF m n d = ldF 200 n 2 ∧ e = [.imm (.int n), .imm (.int d)], ⟨200, 2, Nat.le_refl _, rfl, rfl, rfl⟩, ?_⟩
  rintro m e ⟨d, hm, hd, hf, rfl⟩
  simp only [wVar, wC, wOp, wUn, wCl, wB, wTr, wAnd, wOr, wNot, wAndV, wOrV, wNotV, wIf, wCh, wNil, wCons, wTup, wLe, wSz, wFn, wFnJ, wNext, wSeq, wRet, wRetN, wDrop, wIfS, wSet, wSetOwn, wNever, wAug, wOpO, wOpR, wClO, wApp, wSetIt, wFrz, wFor, wRg1, wRg2, wSq, wEnum, wZip, wgN, wgT, wgNil, wgCons, wYes, wAsgT, wgLs, wLenS, wIxS, wFnS, wIsi, wListOf, wRev, edP, edJ, enP, enJ, enS, NotOwn, Flat, List.map_cons, List.map_nil, List.length_cons, List.length_nil, List.replicate_succ, List.replicate_zero, List.cons_append, List.nil_append, List.append_nil, List.set_cons_zero, List.set_cons_succ, List.getElem?_cons_zero, List.getElem?_cons_succ, Nat.reduceAdd, Nat.reduceSub, Option.some.injEq, Sl.imm.injEq, Sl.own.injEq, Sl.scr.injEq, exists_eq_left, exists_eq_left', exists_eq_right, exists_eq, exists_eq', exists_and_left, and_assoc, and_true, true_and, ne_eq, not_false_eq_true, Nat.succ_ne_zero, or_true, true_or, true_implies, forall_eq', forall_eq, PyData.int.injEq, PyData.bool.injEq, PyData.list.injEq, PyData.tuple.injEq, List.cons.injEq, i_add, i_iadd, i_sub, i_mul, i_mod, i_fdiv, i_fdivG, i_pow, i_neg, i_le, i_ge, i_gt, i_lt, i_eq, i_ne, i_intI, i_intB, i_abs, i_max, i_min, i_lenL, i_lenT, i_ixL, i_ixT, i_tupL, i_tupT, i_truB, Bool.not_true, Bool.not_false, Bool.false_eq_true, if_true, if_false, reduceIte]
  refine ⟨small_l (by omega) (by omega), ?_⟩
  cases m with
  | zero =>
    have hd' : d = 202 := by omega
    subst hd'
    rw [if_neg (by simp; omega)]
    have : ldF 0 n 202 = n := rfl
    rw [← hf, this] at q; exact q
  | succ m =>
    by_cases hlt : d * d ≤ n
    · rw [if_pos (by simpa using hlt)]
      refine ⟨by omega, ?_⟩
      have h1 : ldF (m + 1) n d = if n % d = 0 then d else ldF m n (d + 1) := by
        show (if d * d ≤ n then (if n % d = 0 then d else ldF m n (d + 1)) else n) = _
        rw [if_pos hlt]
      by_cases h2 : n % d = 0
      · rw [if_pos (by simpa using h2)]
        rw [if_pos h2] at h1
        rw [← hf, h1] at q; exact q
      · rw [if_neg (by simpa using h2)]
        rw [if_neg h2] at h1
        exact ⟨m, by omega, by omega, by rw [← hf, h1]; congr 1; omega, by omega⟩
    · rw [if_neg (by simpa using hlt)]
      have h1 : ldF (m + 1) n d = n := by
        show (if d * d ≤ n then (if n % d = 0 then d else ldF m n (d + 1)) else n) = _
        rw [if_neg hlt]
      rw [← hf, h1] at q; exact q
theorem pu__law_jug (ns ds Q) (hl : ds.length + 1 = 2) (h : wf__law_jug ns ds Q) : ws__law_jug (edP Q) (enS N__law_jug ns ds) := by
  obtain ⟨s, rfl, q⟩ := h
  simp only [ws__law_jug, N__law_jug, wVar, wC, wOp, wUn, wCl, wB, wTr, wAnd, wOr, wNot, wAndV, wOrV, wNotV, wIf, wCh, wNil, wCons, wTup, wLe, wSz, wFn, wFnJ, wNext, wSeq, wRet, wRetN, wDrop, wIfS, wSet, wSetOwn, wNever, wAug, wOpO, wOpR, wClO, wApp, wSetIt, wFrz, wFor, wRg1, wRg2, wSq, wEnum, wZip, wgN, wgT, wgNil, wgCons, wYes, wAsgT, wgLs, wLenS, wIxS, wFnS, wIsi, wListOf, wRev, edP, edJ, enP, enJ, enS, NotOwn, Flat, List.map_cons, List.map_nil, List.length_cons, List.length_nil, List.replicate_succ, List.replicate_zero, List.cons_append, List.nil_append, List.append_nil, List.set_cons_zero, List.set_cons_succ, List.getElem?_cons_zero, List.getElem?_cons_succ, Nat.reduceAdd, Nat.reduceSub, Option.some.injEq, Sl.imm.injEq, Sl.own.injEq, Sl.scr.injEq, exists_eq_left, exists_eq_left', exists_eq_right, exists_eq, exists_eq', exists_and_left, and_assoc, and_true, true_and, ne_eq, not_false_eq_true, Nat.succ_ne_zero, or_true, true_or, true_implies, forall_eq', forall_eq, PyData.int.injEq, PyData.bool.injEq, PyData.list.injEq, PyData.tuple.injEq, List.cons.injEq, i_add, i_iadd, i_sub, i_mul, i_mod, i_fdiv, i_fdivG, i_pow, i_neg, i_le, i_ge, i_gt, i_lt, i_eq, i_ne, i_intI, i_intB, i_abs, i_max, i_min, i_lenL, i_lenT, i_ixL, i_ixT, i_tupL, i_tupT, i_truB, Bool.not_true, Bool.not_false, Bool.false_eq_true, if_true, if_false, reduceIte]
  by_cases h : (s : Int) < (ns.length : Nat)
  · rw [if_pos (by simpa using h)]
    refine ⟨_, at_nat (by omega), pow_ok (by decide +kernel), pow_ok (by decide +kernel), by decide +kernel, by decide, small_r (by decide) (by decide), small_l (by decide) (by decide), small_l (by decide) (by decide), pow_ok (by decide +kernel), by decide, q _ _ _⟩
  · rw [if_neg (by simpa using h)]
    refine ⟨small_l (by decide) (by decide), pow_ok (by decide +kernel), pow_ok (by decide +kernel), by decide +kernel, by decide, small_r (by decide) (by decide), small_l (by decide) (by decide), small_l (by decide) (by decide), pow_ok (by decide +kernel), by decide, q _ _ _⟩
theorem pu__law_pour (dj ds Q) (hl : ds.length + 1 = 2) (h : wf__law_pour dj ds Q) : ws__law_pour (edJ Q) (enJ N__law_pour dj ds) := by
  obtain ⟨g, m, c, t, rfl, rfl, ht, ht2, q⟩ := h
  simp only [ws__law_pour, N__law_pour, at0, at1, at2, ix30, ix32, wVar, wC, wOp, wUn, wCl, wB, wTr, wAnd, wOr, wNot, wAndV, wOrV, wNotV, wIf, wCh, wNil, wCons, wTup, wLe, wSz, wFn, wFnJ, wNext, wSeq, wRet, wRetN, wDrop, wIfS, wSet, wSetOwn, wNever, wAug, wOpO, wOpR, wClO, wApp, wSetIt, wFrz, wFor, wRg1, wRg2, wSq, wEnum, wZip, wgN, wgT, wgNil, wgCons, wYes, wAsgT, wgLs, wLenS, wIxS, wFnS, wIsi, wListOf, wRev, edP, edJ, enP, enJ, enS, NotOwn, Flat, List.map_cons, List.map_nil, List.length_cons, List.length_nil, List.replicate_succ, List.replicate_zero, List.cons_append, List.nil_append, List.append_nil, List.set_cons_zero, List.set_cons_succ, List.getElem?_cons_zero, List.getElem?_cons_succ, Nat.reduceAdd, Nat.reduceSub, Option.some.injEq, Sl.imm.injEq, Sl.own.injEq, Sl.scr.injEq, exists_eq_left, exists_eq_left', exists_eq_right, exists_eq, exists_eq', exists_and_left, and_assoc, and_true, true_and, ne_eq, not_false_eq_true, Nat.succ_ne_zero, or_true, true_or, true_implies, forall_eq', forall_eq, PyData.int.injEq, PyData.bool.injEq, PyData.list.injEq, PyData.tuple.injEq, List.cons.injEq, i_add, i_iadd, i_sub, i_mul, i_mod, i_fdiv, i_fdivG, i_pow, i_neg, i_le, i_ge, i_gt, i_lt, i_eq, i_ne, i_intI, i_intB, i_abs, i_max, i_min, i_lenL, i_lenT, i_ixL, i_ixT, i_tupL, i_tupT, i_truB, Bool.not_true, Bool.not_false, Bool.false_eq_true, if_true, if_false, reduceIte]
  by_cases h : 0 < g
  · rw [if_pos (by simpa using h)]
    exact ⟨ht, divG ht ht2, q _ _ _ _ (Int.emod_nonneg _ (by omega)) (Int.emod_lt_of_pos _ ht)⟩
  · rw [if_neg (by simpa using h)]
    have b1 : ∀ x : Int, 0 ≤ x % 2305843009213693951 ∧ x % 2305843009213693951 < 2305843009213693951 := fun x => by omega
    exact ⟨small_l (by decide) (by decide), by decide, small_l (by have := b1 (m + 49979687 * (c + 1)); omega) (by have := b1 (m + 49979687 * (c + 1)); omega), small_l (by decide) (by decide), by decide, small_r (by decide) (by decide),
      divG (by decide) (log_lt (by decide) (by decide)), ht, q _ _ _ _ (Int.emod_nonneg _ (by omega)) (Int.emod_lt_of_pos _ ht)⟩
theorem pu__law_sip (dj ds Q) (hl : ds.length + 1 = 2) (h : wf__law_sip dj ds Q) : ws__law_sip (edJ Q) (enJ N__law_sip dj ds) := by
  obtain ⟨g, m, c, xs, rfl, rfl, h1, h2, q⟩ := h
  simp only [ws__law_sip, N__law_sip, wf__law_pour, wVar, wC, wOp, wUn, wCl, wB, wTr, wAnd, wOr, wNot, wAndV, wOrV, wNotV, wIf, wCh, wNil, wCons, wTup, wLe, wSz, wFn, wFnJ, wNext, wSeq, wRet, wRetN, wDrop, wIfS, wSet, wSetOwn, wNever, wAug, wOpO, wOpR, wClO, wApp, wSetIt, wFrz, wFor, wRg1, wRg2, wSq, wEnum, wZip, wgN, wgT, wgNil, wgCons, wYes, wAsgT, wgLs, wLenS, wIxS, wFnS, wIsi, wListOf, wRev, edP, edJ, enP, enJ, enS, NotOwn, Flat, List.map_cons, List.map_nil, List.length_cons, List.length_nil, List.replicate_succ, List.replicate_zero, List.cons_append, List.nil_append, List.append_nil, List.set_cons_zero, List.set_cons_succ, List.getElem?_cons_zero, List.getElem?_cons_succ, Nat.reduceAdd, Nat.reduceSub, Option.some.injEq, Sl.imm.injEq, Sl.own.injEq, Sl.scr.injEq, exists_eq_left, exists_eq_left', exists_eq_right, exists_eq, exists_eq', exists_and_left, and_assoc, and_true, true_and, ne_eq, not_false_eq_true, Nat.succ_ne_zero, or_true, true_or, true_implies, forall_eq', forall_eq, PyData.int.injEq, PyData.bool.injEq, PyData.list.injEq, PyData.tuple.injEq, List.cons.injEq, i_add, i_iadd, i_sub, i_mul, i_mod, i_fdiv, i_fdivG, i_pow, i_neg, i_le, i_ge, i_gt, i_lt, i_eq, i_ne, i_intI, i_intB, i_abs, i_max, i_min, i_lenL, i_lenT, i_ixL, i_ixT, i_tupL, i_tupT, i_truB, Bool.not_true, Bool.not_false, Bool.false_eq_true, if_true, if_false, reduceIte]
  have hl : 0 < xs.length := List.length_pos_iff.mpr h1
  refine ⟨by omega, log_lt (by omega) (by omega), fun r g m c h3 h4 => ?_⟩
  obtain ⟨x, hx, hm⟩ := at_int h3 h4
  exact ⟨x, hx, q x hm g m c⟩


theorem pu_is_prime (ds Q) (hl : ds.length = 1) (h : wf_is_prime ds Q) : ws_is_prime (edP Q) (enP N_is_prime ds) := by
  obtain ⟨d, rfl, q⟩ := h
  cases d with
  | int n =>
    have q' : Q (.bool (isP n)) := q
    unfold isP at q'
    simp only [ws_is_prime, N_is_prime, wf_is_between, btw_int, wf_least_divisor, wVar, wC, wOp, wUn, wCl, wB, wTr, wAnd, wOr, wNot, wAndV, wOrV, wNotV, wIf, wCh, wNil, wCons, wTup, wLe, wSz, wFn, wFnJ, wNext, wSeq, wRet, wRetN, wDrop, wIfS, wSet, wSetOwn, wNever, wAug, wOpO, wOpR, wClO, wApp, wSetIt, wFrz, wFor, wRg1, wRg2, wSq, wEnum, wZip, wgN, wgT, wgNil, wgCons, wYes, wAsgT, wgLs, wLenS, wIxS, wFnS, wIsi, wListOf, wRev, edP, edJ, enP, enJ, enS, NotOwn, Flat, List.map_cons, List.map_nil, List.length_cons, List.length_nil, List.replicate_succ, List.replicate_zero, List.cons_append, List.nil_append, List.append_nil, List.set_cons_zero, List.set_cons_succ, List.getElem?_cons_zero, List.getElem?_cons_succ, Nat.reduceAdd, Nat.reduceSub, Option.some.injEq, Sl.imm.injEq, Sl.own.injEq, Sl.scr.injEq, exists_eq_left, exists_eq_left', exists_eq_right, exists_eq, exists_eq', exists_and_left, and_assoc, and_true, true_and, ne_eq, not_false_eq_true, Nat.succ_ne_zero, or_true, true_or, true_implies, forall_eq', forall_eq, PyData.int.injEq, PyData.bool.injEq, PyData.list.injEq, PyData.tuple.injEq, List.cons.injEq, i_add, i_iadd, i_sub, i_mul, i_mod, i_fdiv, i_fdivG, i_pow, i_neg, i_le, i_ge, i_gt, i_lt, i_eq, i_ne, i_intI, i_intB, i_abs, i_max, i_min, i_lenL, i_lenT, i_ixL, i_ixT, i_tupL, i_tupT, i_truB, Bool.not_true, Bool.not_false, Bool.false_eq_true, if_true, if_false, reduceIte]
    by_cases h : n ≤ 9973
    · simp only [h, decide_true, Bool.and_true, true_and]
      simp only [h, decide_true, Bool.and_true] at q'
      by_cases h2 : 2 ≤ n
      · simpa [h2] using q'
      · simpa [h2] using q'
    · simpa [h] using q'
  | _ =>
    simp only [ws_is_prime, N_is_prime, wf_is_between, isBtw, wVar, wC, wOp, wUn, wCl, wB, wTr, wAnd, wOr, wNot, wAndV, wOrV, wNotV, wIf, wCh, wNil, wCons, wTup, wLe, wSz, wFn, wFnJ, wNext, wSeq, wRet, wRetN, wDrop, wIfS, wSet, wSetOwn, wNever, wAug, wOpO, wOpR, wClO, wApp, wSetIt, wFrz, wFor, wRg1, wRg2, wSq, wEnum, wZip, wgN, wgT, wgNil, wgCons, wYes, wAsgT, wgLs, wLenS, wIxS, wFnS, wIsi, wListOf, wRev, edP, edJ, enP, enJ, enS, NotOwn, Flat, List.map_cons, List.map_nil, List.length_cons, List.length_nil, List.replicate_succ, List.replicate_zero, List.cons_append, List.nil_append, List.append_nil, List.set_cons_zero, List.set_cons_succ, List.getElem?_cons_zero, List.getElem?_cons_succ, Nat.reduceAdd, Nat.reduceSub, Option.some.injEq, Sl.imm.injEq, Sl.own.injEq, Sl.scr.injEq, exists_eq_left, exists_eq_left', exists_eq_right, exists_eq, exists_eq', exists_and_left, and_assoc, and_true, true_and, ne_eq, not_false_eq_true, Nat.succ_ne_zero, or_true, true_or, true_implies, forall_eq', forall_eq, PyData.int.injEq, PyData.bool.injEq, PyData.list.injEq, PyData.tuple.injEq, List.cons.injEq, i_add, i_iadd, i_sub, i_mul, i_mod, i_fdiv, i_fdivG, i_pow, i_neg, i_le, i_ge, i_gt, i_lt, i_eq, i_ne, i_intI, i_intB, i_abs, i_max, i_min, i_lenL, i_lenT, i_ixL, i_ixT, i_tupL, i_tupT, i_truB, Bool.not_true, Bool.not_false, Bool.false_eq_true, if_true, if_false, reduceIte]
    exact q
theorem pu_check_prime (ds Q) (hl : ds.length = 1) (h : wf_check_prime ds Q) : ws_check_prime (edP Q) (enP N_check_prime ds) := by
  obtain ⟨n, rfl, h, q⟩ := h
  simp only [ws_check_prime, N_check_prime, wf_is_prime, isPD, h, wVar, wC, wOp, wUn, wCl, wB, wTr, wAnd, wOr, wNot, wAndV, wOrV, wNotV, wIf, wCh, wNil, wCons, wTup, wLe, wSz, wFn, wFnJ, wNext, wSeq, wRet, wRetN, wDrop, wIfS, wSet, wSetOwn, wNever, wAug, wOpO, wOpR, wClO, wApp, wSetIt, wFrz, wFor, wRg1, wRg2, wSq, wEnum, wZip, wgN, wgT, wgNil, wgCons, wYes, wAsgT, wgLs, wLenS, wIxS, wFnS, wIsi, wListOf, wRev, edP, edJ, enP, enJ, enS, NotOwn, Flat, List.map_cons, List.map_nil, List.length_cons, List.length_nil, List.replicate_succ, List.replicate_zero, List.cons_append, List.nil_append, List.append_nil, List.set_cons_zero, List.set_cons_succ, List.getElem?_cons_zero, List.getElem?_cons_succ, Nat.reduceAdd, Nat.reduceSub, Option.some.injEq, Sl.imm.injEq, Sl.own.injEq, Sl.scr.injEq, exists_eq_left, exists_eq_left', exists_eq_right, exists_eq, exists_eq', exists_and_left, and_assoc, and_true, true_and, ne_eq, not_false_eq_true, Nat.succ_ne_zero, or_true, true_or, true_implies, forall_eq', forall_eq, PyData.int.injEq, PyData.bool.injEq, PyData.list.injEq, PyData.tuple.injEq, List.cons.injEq, i_add, i_iadd, i_sub, i_mul, i_mod, i_fdiv, i_fdivG, i_pow, i_neg, i_le, i_ge, i_gt, i_lt, i_eq, i_ne, i_intI, i_intB, i_abs, i_max, i_min, i_lenL, i_lenT, i_ixL, i_ixT, i_tupL, i_tupT, i_truB, Bool.not_true, Bool.not_false, Bool.false_eq_true, if_true, if_false, reduceIte]
  exact q
theorem pu_check_letter (ds Q) (hl : ds.length = 2) (h : wf_check_letter ds Q) : ws_check_letter (edP Q) (enP N_check_letter ds) := by
  obtain ⟨p, l, rfl, h1, h2, q⟩ := h
  simp only [ws_check_letter, N_check_letter, wf_check_between, btw_int, wVar, wC, wOp, wUn, wCl, wB, wTr, wAnd, wOr, wNot, wAndV, wOrV, wNotV, wIf, wCh, wNil, wCons, wTup, wLe, wSz, wFn, wFnJ, wNext, wSeq, wRet, wRetN, wDrop, wIfS, wSet, wSetOwn, wNever, wAug, wOpO, wOpR, wClO, wApp, wSetIt, wFrz, wFor, wRg1, wRg2, wSq, wEnum, wZip, wgN, wgT, wgNil, wgCons, wYes, wAsgT, wgLs, wLenS, wIxS, wFnS, wIsi, wListOf, wRev, edP, edJ, enP, enJ, enS, NotOwn, Flat, List.map_cons, List.map_nil, List.length_cons, List.length_nil, List.replicate_succ, List.replicate_zero, List.cons_append, List.nil_append, List.append_nil, List.set_cons_zero, List.set_cons_succ, List.getElem?_cons_zero, List.getElem?_cons_succ, Nat.reduceAdd, Nat.reduceSub, Option.some.injEq, Sl.imm.injEq, Sl.own.injEq, Sl.scr.injEq, exists_eq_left, exists_eq_left', exists_eq_right, exists_eq, exists_eq', exists_and_left, and_assoc, and_true, true_and, ne_eq, not_false_eq_true, Nat.succ_ne_zero, or_true, true_or, true_implies, forall_eq', forall_eq, PyData.int.injEq, PyData.bool.injEq, PyData.list.injEq, PyData.tuple.injEq, List.cons.injEq, i_add, i_iadd, i_sub, i_mul, i_mod, i_fdiv, i_fdivG, i_pow, i_neg, i_le, i_ge, i_gt, i_lt, i_eq, i_ne, i_intI, i_intB, i_abs, i_max, i_min, i_lenL, i_lenT, i_ixL, i_ixT, i_tupL, i_tupT, i_truB, Bool.not_true, Bool.not_false, Bool.false_eq_true, if_true, if_false, reduceIte]
  exact ⟨by simp; omega, q⟩
theorem isP_le {p : Int} (h : isP p = true) : 2 ≤ p ∧ p ≤ 9973 := by
  unfold isP at h
  simp only [Bool.and_eq_true, decide_eq_true_eq] at h
  exact ⟨h.1.1, h.1.2⟩
theorem p9973 : isP 9973 = true := by decide +kernel
theorem np_step {k : Nat} {n : Int} (h : isP n = false) : npF (k + 1) n = npF k (n + 1) := by
  show (if isP n = true then n else npF k (n + 1)) = _
  rw [h]; rfl
theorem np_here {k : Nat} {n : Int} (h : isP n = true) : npF k n = n := by
  cases k with
  | zero => rfl
  | succ k => show (if isP n = true then n else npF k (n + 1)) = n; rw [if_pos h]
theorem pu_next_prime (ds Q) (hl : ds.length = 1) (h : wf_next_prime ds Q) : ws_next_prime (edP Q) (enP N_next_prime ds) := by
  obtain ⟨n, rfl, h1, h2, q⟩ := h
  simp only [ws_next_prime, N_next_prime, wf_check_between, btw_int, wWhile, wVar, wC, wOp, wUn, wCl, wB, wTr, wAnd, wOr, wNot, wAndV, wOrV, wNotV, wIf, wCh, wNil, wCons, wTup, wLe, wSz, wFn, wFnJ, wNext, wSeq, wRet, wRetN, wDrop, wIfS, wSet, wSetOwn, wNever, wAug, wOpO, wOpR, wClO, wApp, wSetIt, wFrz, wFor, wRg1, wRg2, wSq, wEnum, wZip, wgN, wgT, wgNil, wgCons, wYes, wAsgT, wgLs, wLenS, wIxS, wFnS, wIsi, wListOf, wRev, edP, edJ, enP, enJ, enS, NotOwn, Flat, List.map_cons, List.map_nil, List.length_cons, List.length_nil, List.replicate_succ, List.replicate_zero, List.cons_append, List.nil_append, List.append_nil, List.set_cons_zero, List.set_cons_succ, List.getElem?_cons_zero, List.getElem?_cons_succ, Nat.reduceAdd, Nat.reduceSub, Option.some.injEq, Sl.imm.injEq, Sl.own.injEq, Sl.scr.injEq, exists_eq_left, exists_eq_left', exists_eq_right, exists_eq, exists_eq', exists_and_left, and_assoc, and_true, true_and, ne_eq, not_false_eq_true, Nat.succ_ne_zero, or_true, true_or, true_implies, forall_eq', forall_eq, PyData.int.injEq, PyData.bool.injEq, PyData.list.injEq, PyData.tuple.injEq, List.cons.injEq, i_add, i_iadd, i_sub, i_mul, i_mod, i_fdiv, i_fdivG, i_pow, i_neg, i_le, i_ge, i_gt, i_lt, i_eq, i_ne, i_intI, i_intB, i_abs, i_max, i_min, i_lenL, i_lenT, i_ixL, i_ixT, i_tupL, i_tupT, i_truB, Bool.not_true, Bool.not_false, Bool.false_eq_true, if_true, if_false, reduceIte]
  refine ⟨by simp; omega, fun m e => ∃ f : Int, f ≤ 9973 ∧ m = (9973 - f).toNat ∧ npF (9973 - f).toNat f = npF (9973 - n).toNat n ∧ e = [.imm (.int n), .imm (.int f)], ⟨(9973 - n).toNat, n, h2, rfl, rfl, rfl⟩, ?_⟩
  rintro m e ⟨f, hf, rfl, hn, rfl⟩
  simp only [wf_is_prime, isPD, wVar, wC, wOp, wUn, wCl, wB, wTr, wAnd, wOr, wNot, wAndV, wOrV, wNotV, wIf, wCh, wNil, wCons, wTup, wLe, wSz, wFn, wFnJ, wNext, wSeq, wRet, wRetN, wDrop, wIfS, wSet, wSetOwn, wNever, wAug, wOpO, wOpR, wClO, wApp, wSetIt, wFrz, wFor, wRg1, wRg2, wSq, wEnum, wZip, wgN, wgT, wgNil, wgCons, wYes, wAsgT, wgLs, wLenS, wIxS, wFnS, wIsi, wListOf, wRev, edP, edJ, enP, enJ, enS, NotOwn, Flat, List.map_cons, List.map_nil, List.length_cons, List.length_nil, List.replicate_succ, List.replicate_zero, List.cons_append, List.nil_append, List.append_nil, List.set_cons_zero, List.set_cons_succ, List.getElem?_cons_zero, List.getElem?_cons_succ, Nat.reduceAdd, Nat.reduceSub, Option.some.injEq, Sl.imm.injEq, Sl.own.injEq, Sl.scr.injEq, exists_eq_left, exists_eq_left', exists_eq_right, exists_eq, exists_eq', exists_and_left, and_assoc, and_true, true_and, ne_eq, not_false_eq_true, Nat.succ_ne_zero, or_true, true_or, true_implies, forall_eq', forall_eq, PyData.int.injEq, PyData.bool.injEq, PyData.list.injEq, PyData.tuple.injEq, List.cons.injEq, i_add, i_iadd, i_sub, i_mul, i_mod, i_fdiv, i_fdivG, i_pow, i_neg, i_le, i_ge, i_gt, i_lt, i_eq, i_ne, i_intI, i_intB, i_abs, i_max, i_min, i_lenL, i_lenT, i_ixL, i_ixT, i_tupL, i_tupT, i_truB, Bool.not_true, Bool.not_false, Bool.false_eq_true, if_true, if_false, reduceIte]
  by_cases hp' : isP f = true
  · rw [if_neg (by rw [hp']; decide)]
    rw [np_here hp'] at hn
    rw [hn]; exact q
  · have hp : isP f = false := by simpa using hp'
    rw [if_pos (by rw [hp]; rfl)]
    have hne : f ≠ 9973 := fun e => by rw [e, p9973] at hp; cases hp
    have e1 : (9973 - f).toNat = (9973 - (f + 1)).toNat + 1 := by omega
    refine ⟨_, by omega, f + 1, by omega, rfl, ?_, rfl⟩
    rw [← hn, e1, np_step hp]
theorem pm (x p : Int) : ∀ k : Nat, (x % p) ^ k % p = x ^ k % p
  | 0 => by rw [Int.pow_zero, Int.pow_zero]
  | k + 1 => by
    rw [Int.pow_succ, Int.pow_succ, Int.mul_emod, pm x p k, Int.emod_emod, ← Int.mul_emod]
theorem pow_sq (s : Int) (k : Nat) : (s * s) ^ k = s ^ (2 * k) := by
  rw [Int.pow_mul]
  rw [show s ^ 2 = s * s from by rw [Int.pow_succ, Int.pow_succ, Int.pow_zero, Int.one_mul]]
theorem pow_even (a s p : Int) (k : Nat) : a * ((s * s % p) ^ k) % p = a * s ^ (2 * k) % p := by
  rw [Int.mul_emod, pm, ← Int.mul_emod, pow_sq]
theorem pow_odd (a s p : Int) (k : Nat) : (a * s % p) * ((s * s % p) ^ k) % p = a * s ^ (2 * k + 1) % p := by
  rw [Int.mul_emod, pm, Int.emod_emod, ← Int.mul_emod, pow_sq, Int.pow_succ, Int.mul_assoc, Int.mul_comm s]
theorem fdiv2 {k : Nat} : ((k : Nat) : Int).fdiv 2 = ((k / 2 : Nat) : Int) := by
  rw [Int.fdiv_eq_ediv_of_nonneg _ (by decide)]; omega
theorem pu_power_of (ds Q) (hl : ds.length = 3) (h : wf_power_of ds Q) : ws_power_of (edP Q) (enP N_power_of ds) := by
  obtain ⟨p, l, t, rfl, p1, p2, l1, l2, q⟩ := h
  simp only [ws_power_of, N_power_of, wWhile, wVar, wC, wOp, wUn, wCl, wB, wTr, wAnd, wOr, wNot, wAndV, wOrV, wNotV, wIf, wCh, wNil, wCons, wTup, wLe, wSz, wFn, wFnJ, wNext, wSeq, wRet, wRetN, wDrop, wIfS, wSet, wSetOwn, wNever, wAug, wOpO, wOpR, wClO, wApp, wSetIt, wFrz, wFor, wRg1, wRg2, wSq, wEnum, wZip, wgN, wgT, wgNil, wgCons, wYes, wAsgT, wgLs, wLenS, wIxS, wFnS, wIsi, wListOf, wRev, edP, edJ, enP, enJ, enS, NotOwn, Flat, List.map_cons, List.map_nil, List.length_cons, List.length_nil, List.replicate_succ, List.replicate_zero, List.cons_append, List.nil_append, List.append_nil, List.set_cons_zero, List.set_cons_succ, List.getElem?_cons_zero, List.getElem?_cons_succ, Nat.reduceAdd, Nat.reduceSub, Option.some.injEq, Sl.imm.injEq, Sl.own.injEq, Sl.scr.injEq, exists_eq_left, exists_eq_left', exists_eq_right, exists_eq, exists_eq', exists_and_left, and_assoc, and_true, true_and, ne_eq, not_false_eq_true, Nat.succ_ne_zero, or_true, true_or, true_implies, forall_eq', forall_eq, PyData.int.injEq, PyData.bool.injEq, PyData.list.injEq, PyData.tuple.injEq, List.cons.injEq, i_add, i_iadd, i_sub, i_mul, i_mod, i_fdiv, i_fdivG, i_pow, i_neg, i_le, i_ge, i_gt, i_lt, i_eq, i_ne, i_intI, i_intB, i_abs, i_max, i_min, i_lenL, i_lenT, i_ixL, i_ixT, i_tupL, i_tupT, i_truB, Bool.not_true, Bool.not_false, Bool.false_eq_true, if_true, if_false, reduceIte]
  refine ⟨fun m e => ∃ (a s : Int) (r : Nat), m = r ∧ 0 ≤ a ∧ a < p ∧ 0 ≤ s ∧ s < p ∧ a * s ^ r % p = l ^ t % p ∧ e = [.imm (.int p), .imm (.int l), .imm (.int t), .imm (.int a), .imm (.int s), .imm (.int r)], ⟨t, 1, l, t, rfl, by omega, by omega, l1, l2, by rw [Int.one_mul], rfl⟩, ?_⟩
  rintro m e ⟨a, s, r, rfl, a1, a2, s1, s2, he, rfl⟩
  simp only [fdiv2, wVar, wC, wOp, wUn, wCl, wB, wTr, wAnd, wOr, wNot, wAndV, wOrV, wNotV, wIf, wCh, wNil, wCons, wTup, wLe, wSz, wFn, wFnJ, wNext, wSeq, wRet, wRetN, wDrop, wIfS, wSet, wSetOwn, wNever, wAug, wOpO, wOpR, wClO, wApp, wSetIt, wFrz, wFor, wRg1, wRg2, wSq, wEnum, wZip, wgN, wgT, wgNil, wgCons, wYes, wAsgT, wgLs, wLenS, wIxS, wFnS, wIsi, wListOf, wRev, edP, edJ, enP, enJ, enS, NotOwn, Flat, List.map_cons, List.map_nil, List.length_cons, List.length_nil, List.replicate_succ, List.replicate_zero, List.cons_append, List.nil_append, List.append_nil, List.set_cons_zero, List.set_cons_succ, List.getElem?_cons_zero, List.getElem?_cons_succ, Nat.reduceAdd, Nat.reduceSub, Option.some.injEq, Sl.imm.injEq, Sl.own.injEq, Sl.scr.injEq, exists_eq_left, exists_eq_left', exists_eq_right, exists_eq, exists_eq', exists_and_left, and_assoc, and_true, true_and, ne_eq, not_false_eq_true, Nat.succ_ne_zero, or_true, true_or, true_implies, forall_eq', forall_eq, PyData.int.injEq, PyData.bool.injEq, PyData.list.injEq, PyData.tuple.injEq, List.cons.injEq, i_add, i_iadd, i_sub, i_mul, i_mod, i_fdiv, i_fdivG, i_pow, i_neg, i_le, i_ge, i_gt, i_lt, i_eq, i_ne, i_intI, i_intB, i_abs, i_max, i_min, i_lenL, i_lenT, i_ixL, i_ixT, i_tupL, i_tupT, i_truB, Bool.not_true, Bool.not_false, Bool.false_eq_true, if_true, if_false, reduceIte]
  have hp0 : 0 < p := by omega
  have g2 : ∀ i : Int, CDivG i 2 := fun i => divG (by decide) (log_lt (by decide) (by decide))
  by_cases h0 : 0 < m
  · rw [if_pos (by simpa using h0)]
    refine ⟨by decide, ?_⟩
    by_cases h1 : m % 2 = 1
    · rw [if_pos (by simp; omega)]
      refine ⟨small_l (by omega) (by omega), hp0, small_l (by omega) (by omega), hp0, g2 _, m / 2, by omega, a * s % p, Int.emod_nonneg _ (by omega), Int.emod_lt_of_pos _ hp0, s * s % p, Int.emod_nonneg _ (by omega), Int.emod_lt_of_pos _ hp0, ?_, rfl, rfl, rfl⟩
      rw [pow_odd, ← he, show 2 * (m / 2) + 1 = m by omega]
    · rw [if_neg (by simp; omega)]
      refine ⟨small_l (by omega) (by omega), hp0, g2 _, m / 2, by omega, a, a1, a2, s * s % p, Int.emod_nonneg _ (by omega), Int.emod_lt_of_pos _ hp0, ?_, rfl, rfl, rfl⟩
      rw [pow_even, ← he, show 2 * (m / 2) = m by omega]
  · rw [if_neg (by simpa using h0)]
    have : m = 0 := by omega
    subst this
    rw [Int.pow_zero, Int.mul_one, Int.emod_eq_of_lt a1 a2] at he
    rw [he]; exact q
theorem pu_inverse_of (ds Q) (hl : ds.length = 2) (h : wf_inverse_of ds Q) : ws_inverse_of (edP Q) (enP N_inverse_of ds) := by
  obtain ⟨p, l, rfl, p1, p2, l1, l2, q⟩ := h
  simp only [ws_inverse_of, N_inverse_of, wVar, wC, wOp, wUn, wCl, wB, wTr, wAnd, wOr, wNot, wAndV, wOrV, wNotV, wIf, wCh, wNil, wCons, wTup, wLe, wSz, wFn, wFnJ, wNext, wSeq, wRet, wRetN, wDrop, wIfS, wSet, wSetOwn, wNever, wAug, wOpO, wOpR, wClO, wApp, wSetIt, wFrz, wFor, wRg1, wRg2, wSq, wEnum, wZip, wgN, wgT, wgNil, wgCons, wYes, wAsgT, wgLs, wLenS, wIxS, wFnS, wIsi, wListOf, wRev, edP, edJ, enP, enJ, enS, NotOwn, Flat, List.map_cons, List.map_nil, List.length_cons, List.length_nil, List.replicate_succ, List.replicate_zero, List.cons_append, List.nil_append, List.append_nil, List.set_cons_zero, List.set_cons_succ, List.getElem?_cons_zero, List.getElem?_cons_succ, Nat.reduceAdd, Nat.reduceSub, Option.some.injEq, Sl.imm.injEq, Sl.own.injEq, Sl.scr.injEq, exists_eq_left, exists_eq_left', exists_eq_right, exists_eq, exists_eq', exists_and_left, and_assoc, and_true, true_and, ne_eq, not_false_eq_true, Nat.succ_ne_zero, or_true, true_or, true_implies, forall_eq', forall_eq, PyData.int.injEq, PyData.bool.injEq, PyData.list.injEq, PyData.tuple.injEq, List.cons.injEq, i_add, i_iadd, i_sub, i_mul, i_mod, i_fdiv, i_fdivG, i_pow, i_neg, i_le, i_ge, i_gt, i_lt, i_eq, i_ne, i_intI, i_intB, i_abs, i_max, i_min, i_lenL, i_lenT, i_ixL, i_ixT, i_tupL, i_tupT, i_truB, Bool.not_true, Bool.not_false, Bool.false_eq_true, if_true, if_false, reduceIte]
  refine ⟨p, l, (p - 2).toNat, ?_, p1, p2, l1, l2, q⟩
  rw [show (((p - 2).toNat : Nat) : Int) = p - 2 by omega]
theorem pu_inverse (ds Q) (hl : ds.length = 2) (h : wf_inverse ds Q) : ws_inverse (edP Q) (enP N_inverse ds) := by
  obtain ⟨p, l, rfl, hp, l1, l2, q⟩ := h
  obtain ⟨p1, p2⟩ := isP_le hp
  simp only [ws_inverse, N_inverse, wf_check_prime, hp, wf_check_letter, wVar, wC, wOp, wUn, wCl, wB, wTr, wAnd, wOr, wNot, wAndV, wOrV, wNotV, wIf, wCh, wNil, wCons, wTup, wLe, wSz, wFn, wFnJ, wNext, wSeq, wRet, wRetN, wDrop, wIfS, wSet, wSetOwn, wNever, wAug, wOpO, wOpR, wClO, wApp, wSetIt, wFrz, wFor, wRg1, wRg2, wSq, wEnum, wZip, wgN, wgT, wgNil, wgCons, wYes, wAsgT, wgLs, wLenS, wIxS, wFnS, wIsi, wListOf, wRev, edP, edJ, enP, enJ, enS, NotOwn, Flat, List.map_cons, List.map_nil, List.length_cons, List.length_nil, List.replicate_succ, List.replicate_zero, List.cons_append, List.nil_append, List.append_nil, List.set_cons_zero, List.set_cons_succ, List.getElem?_cons_zero, List.getElem?_cons_succ, Nat.reduceAdd, Nat.reduceSub, Option.some.injEq, Sl.imm.injEq, Sl.own.injEq, Sl.scr.injEq, exists_eq_left, exists_eq_left', exists_eq_right, exists_eq, exists_eq', exists_and_left, and_assoc, and_true, true_and, ne_eq, not_false_eq_true, Nat.succ_ne_zero, or_true, true_or, true_implies, forall_eq', forall_eq, PyData.int.injEq, PyData.bool.injEq, PyData.list.injEq, PyData.tuple.injEq, List.cons.injEq, i_add, i_iadd, i_sub, i_mul, i_mod, i_fdiv, i_fdivG, i_pow, i_neg, i_le, i_ge, i_gt, i_lt, i_eq, i_ne, i_intI, i_intB, i_abs, i_max, i_min, i_lenL, i_lenT, i_ixL, i_ixT, i_tupL, i_tupT, i_truB, Bool.not_true, Bool.not_false, Bool.false_eq_true, if_true, if_false, reduceIte]
  refine ⟨by omega, l2, ?_⟩
  rw [if_neg (by simp; omega)]
  exact ⟨p, l, rfl, p1, p2, by omega, l2, q⟩
theorem pu_power (ds Q) (hl : ds.length = 3) (h : wf_power ds Q) : ws_power (edP Q) (enP N_power ds) := by
  obtain ⟨p, l, t, rfl, hp, l1, l2, t1, q⟩ := h
  obtain ⟨p1, p2⟩ := isP_le hp
  simp only [ws_power, N_power, wf_check_prime, hp, wf_check_letter, wf_check_between, btw_int, wVar, wC, wOp, wUn, wCl, wB, wTr, wAnd, wOr, wNot, wAndV, wOrV, wNotV, wIf, wCh, wNil, wCons, wTup, wLe, wSz, wFn, wFnJ, wNext, wSeq, wRet, wRetN, wDrop, wIfS, wSet, wSetOwn, wNever, wAug, wOpO, wOpR, wClO, wApp, wSetIt, wFrz, wFor, wRg1, wRg2, wSq, wEnum, wZip, wgN, wgT, wgNil, wgCons, wYes, wAsgT, wgLs, wLenS, wIxS, wFnS, wIsi, wListOf, wRev, edP, edJ, enP, enJ, enS, NotOwn, Flat, List.map_cons, List.map_nil, List.length_cons, List.length_nil, List.replicate_succ, List.replicate_zero, List.cons_append, List.nil_append, List.append_nil, List.set_cons_zero, List.set_cons_succ, List.getElem?_cons_zero, List.getElem?_cons_succ, Nat.reduceAdd, Nat.reduceSub, Option.some.injEq, Sl.imm.injEq, Sl.own.injEq, Sl.scr.injEq, exists_eq_left, exists_eq_left', exists_eq_right, exists_eq, exists_eq', exists_and_left, and_assoc, and_true, true_and, ne_eq, not_false_eq_true, Nat.succ_ne_zero, or_true, true_or, true_implies, forall_eq', forall_eq, PyData.int.injEq, PyData.bool.injEq, PyData.list.injEq, PyData.tuple.injEq, List.cons.injEq, i_add, i_iadd, i_sub, i_mul, i_mod, i_fdiv, i_fdivG, i_pow, i_neg, i_le, i_ge, i_gt, i_lt, i_eq, i_ne, i_intI, i_intB, i_abs, i_max, i_min, i_lenL, i_lenT, i_ixL, i_ixT, i_tupL, i_tupT, i_truB, Bool.not_true, Bool.not_false, Bool.false_eq_true, if_true, if_false, reduceIte]
  exact ⟨l1, l2, by simp; omega, p, l, t, rfl, p1, p2, l1, l2, q⟩
theorem root_loop {p g : Int} {Q : D → Prop} (p1 : 2 ≤ p) (p2 : p ≤ 9973) (g1 : 1 ≤ g) (g2 : g < p) (hr : rtB p g = true) (hn : ∀ l, 1 ≤ l → l < g → rtB p l = false) (q : Q (.int g)) :
    wWhile (wNot (wTr (wFn 2 wf_is_root (wCons (wVar 0) (wCons (wVar 1) wNil))))) (wAug 1 dIadd (wC (.int 1))) { nx := wRet (wVar 1) { nx := fun _ => Q .none, rt := fun d _ => Q d }, rt := fun d _ => Q d } [.imm (.int p), .imm (.int 1)] := by
  simp only [wWhile, wVar, wC, wOp, wUn, wCl, wB, wTr, wAnd, wOr, wNot, wAndV, wOrV, wNotV, wIf, wCh, wNil, wCons, wTup, wLe, wSz, wFn, wFnJ, wNext, wSeq, wRet, wRetN, wDrop, wIfS, wSet, wSetOwn, wNever, wAug, wOpO, wOpR, wClO, wApp, wSetIt, wFrz, wFor, wRg1, wRg2, wSq, wEnum, wZip, wgN, wgT, wgNil, wgCons, wYes, wAsgT, wgLs, wLenS, wIxS, wFnS, wIsi, wListOf, wRev, edP, edJ, enP, enJ, enS, NotOwn, Flat, List.map_cons, List.map_nil, List.length_cons, List.length_nil, List.replicate_succ, List.replicate_zero, List.cons_append, List.nil_append, List.append_nil, List.set_cons_zero, List.set_cons_succ, List.getElem?_cons_zero, List.getElem?_cons_succ, Nat.reduceAdd, Nat.reduceSub, Option.some.injEq, Sl.imm.injEq, Sl.own.injEq, Sl.scr.injEq, exists_eq_left, exists_eq_left', exists_eq_right, exists_eq, exists_eq', exists_and_left, and_assoc, and_true, true_and, ne_eq, not_false_eq_true, Nat.succ_ne_zero, or_true, true_or, true_implies, forall_eq', forall_eq, PyData.int.injEq, PyData.bool.injEq, PyData.list.injEq, PyData.tuple.injEq, List.cons.injEq, i_add, i_iadd, i_sub, i_mul, i_mod, i_fdiv, i_fdivG, i_pow, i_neg, i_le, i_ge, i_gt, i_lt, i_eq, i_ne, i_intI, i_intB, i_abs, i_max, i_min, i_lenL, i_lenT, i_ixL, i_ixT, i_tupL, i_tupT, i_truB, Bool.not_true, Bool.not_false, Bool.false_eq_true, if_true, if_false, reduceIte]
  refine ⟨fun m e => ∃ l : Int, 1 ≤ l ∧ l ≤ g ∧ m = (g - l).toNat ∧ e = [.imm (.int p), .imm (.int l)], ⟨_, 1, by decide, g1, rfl, rfl⟩, ?_⟩
  rintro m e ⟨l, l1, l2, rfl, rfl⟩
  simp only [wf_is_root, wVar, wC, wOp, wUn, wCl, wB, wTr, wAnd, wOr, wNot, wAndV, wOrV, wNotV, wIf, wCh, wNil, wCons, wTup, wLe, wSz, wFn, wFnJ, wNext, wSeq, wRet, wRetN, wDrop, wIfS, wSet, wSetOwn, wNever, wAug, wOpO, wOpR, wClO, wApp, wSetIt, wFrz, wFor, wRg1, wRg2, wSq, wEnum, wZip, wgN, wgT, wgNil, wgCons, wYes, wAsgT, wgLs, wLenS, wIxS, wFnS, wIsi, wListOf, wRev, edP, edJ, enP, enJ, enS, NotOwn, Flat, List.map_cons, List.map_nil, List.length_cons, List.length_nil, List.replicate_succ, List.replicate_zero, List.cons_append, List.nil_append, List.append_nil, List.set_cons_zero, List.set_cons_succ, List.getElem?_cons_zero, List.getElem?_cons_succ, Nat.reduceAdd, Nat.reduceSub, Option.some.injEq, Sl.imm.injEq, Sl.own.injEq, Sl.scr.injEq, exists_eq_left, exists_eq_left', exists_eq_right, exists_eq, exists_eq', exists_and_left, and_assoc, and_true, true_and, ne_eq, not_false_eq_true, Nat.succ_ne_zero, or_true, true_or, true_implies, forall_eq', forall_eq, PyData.int.injEq, PyData.bool.injEq, PyData.list.injEq, PyData.tuple.injEq, List.cons.injEq, i_add, i_iadd, i_sub, i_mul, i_mod, i_fdiv, i_fdivG, i_pow, i_neg, i_le, i_ge, i_gt, i_lt, i_eq, i_ne, i_intI, i_intB, i_abs, i_max, i_min, i_lenL, i_lenT, i_ixL, i_ixT, i_tupL, i_tupT, i_truB, Bool.not_true, Bool.not_false, Bool.false_eq_true, if_true, if_false, reduceIte]
  refine ⟨p1, p2, by omega, by omega, ?_⟩
  by_cases e : l = g
  · subst e
    rw [hr, if_neg (by decide)]
    exact q
  · rw [hn l l1 (by omega), if_pos (by rfl)]
    exact ⟨_, by omega, l + 1, by omega, by omega, rfl, rfl⟩
theorem pu_root (ds Q) (hl : ds.length = 1) (h : wf_root ds Q) : ws_root (edP Q) (enP N_root ds) := by
  obtain ⟨p, g, rfl, hp, g1, g2, hr, hn, q⟩ := h
  obtain ⟨p1, p2⟩ := isP_le hp
  simp only [ws_root, N_root, wf_check_prime, hp, wVar, wC, wOp, wUn, wCl, wB, wTr, wAnd, wOr, wNot, wAndV, wOrV, wNotV, wIf, wCh, wNil, wCons, wTup, wLe, wSz, wFn, wFnJ, wNext, wSeq, wRet, wRetN, wDrop, wIfS, wSet, wSetOwn, wNever, wAug, wOpO, wOpR, wClO, wApp, wSetIt, wFrz, wFor, wRg1, wRg2, wSq, wEnum, wZip, wgN, wgT, wgNil, wgCons, wYes, wAsgT, wgLs, wLenS, wIxS, wFnS, wIsi, wListOf, wRev, edP, edJ, enP, enJ, enS, NotOwn, Flat, List.map_cons, List.map_nil, List.length_cons, List.length_nil, List.replicate_succ, List.replicate_zero, List.cons_append, List.nil_append, List.append_nil, List.set_cons_zero, List.set_cons_succ, List.getElem?_cons_zero, List.getElem?_cons_succ, Nat.reduceAdd, Nat.reduceSub, Option.some.injEq, Sl.imm.injEq, Sl.own.injEq, Sl.scr.injEq, exists_eq_left, exists_eq_left', exists_eq_right, exists_eq, exists_eq', exists_and_left, and_assoc, and_true, true_and, ne_eq, not_false_eq_true, Nat.succ_ne_zero, or_true, true_or, true_implies, forall_eq', forall_eq, PyData.int.injEq, PyData.bool.injEq, PyData.list.injEq, PyData.tuple.injEq, List.cons.injEq, i_add, i_iadd, i_sub, i_mul, i_mod, i_fdiv, i_fdivG, i_pow, i_neg, i_le, i_ge, i_gt, i_lt, i_eq, i_ne, i_intI, i_intB, i_abs, i_max, i_min, i_lenL, i_lenT, i_ixL, i_ixT, i_tupL, i_tupT, i_truB, Bool.not_true, Bool.not_false, Bool.false_eq_true, if_true, if_false, reduceIte]
  exact root_loop p1 p2 g1 g2 hr hn q
theorem ex_loop {p b l : Int} {R : Ed} (p1 : 2 ≤ p) (p2 : p ≤ 9973) (b1 : 0 ≤ b) (b2 : b < p) : ∀ (k i : Nat) (s4 : Sl), (exF p b l k i = .none → ∀ a s, R.nx [.imm (.int p), .imm (.int b), .imm (.int l), .imm a, s]) → (∀ (j : Nat) e, exF p b l k i = .int j → R.rt (.int j) e) →
    forW (wgN 4) (wSeq (wIfS (wB (wOp dEq (wVar 3) (wVar 2))) (wRet (wVar 4)) wNext) (wSet 3 (wOp dMod (wOp dMul (wVar 3) (wVar 1)) (wVar 0)))) R ((List.range' i k).map fun (j : Nat) => PyData.int j) [.imm (.int p), .imm (.int b), .imm (.int l), .imm (.int (b ^ i % p)), s4]
  | 0, i, s4, h1, h2 => h1 rfl _ s4
  | k + 1, i, s4, h1, h2 => by
    rw [List.range'_succ, List.map_cons]
    unfold forW
    simp only [wVar, wC, wOp, wUn, wCl, wB, wTr, wAnd, wOr, wNot, wAndV, wOrV, wNotV, wIf, wCh, wNil, wCons, wTup, wLe, wSz, wFn, wFnJ, wNext, wSeq, wRet, wRetN, wDrop, wIfS, wSet, wSetOwn, wNever, wAug, wOpO, wOpR, wClO, wApp, wSetIt, wFrz, wFor, wRg1, wRg2, wSq, wEnum, wZip, wgN, wgT, wgNil, wgCons, wYes, wAsgT, wgLs, wLenS, wIxS, wFnS, wIsi, wListOf, wRev, edP, edJ, enP, enJ, enS, NotOwn, Flat, List.map_cons, List.map_nil, List.length_cons, List.length_nil, List.replicate_succ, List.replicate_zero, List.cons_append, List.nil_append, List.append_nil, List.set_cons_zero, List.set_cons_succ, List.getElem?_cons_zero, List.getElem?_cons_succ, Nat.reduceAdd, Nat.reduceSub, Option.some.injEq, Sl.imm.injEq, Sl.own.injEq, Sl.scr.injEq, exists_eq_left, exists_eq_left', exists_eq_right, exists_eq, exists_eq', exists_and_left, and_assoc, and_true, true_and, ne_eq, not_false_eq_true, Nat.succ_ne_zero, or_true, true_or, true_implies, forall_eq', forall_eq, PyData.int.injEq, PyData.bool.injEq, PyData.list.injEq, PyData.tuple.injEq, List.cons.injEq, i_add, i_iadd, i_sub, i_mul, i_mod, i_fdiv, i_fdivG, i_pow, i_neg, i_le, i_ge, i_gt, i_lt, i_eq, i_ne, i_intI, i_intB, i_abs, i_max, i_min, i_lenL, i_lenT, i_ixL, i_ixT, i_tupL, i_tupT, i_truB, Bool.not_true, Bool.not_false, Bool.false_eq_true, if_true, if_false, reduceIte]
    have hb := Int.emod_lt_of_pos (b ^ i) (show 0 < p by omega)
    have hb0 := Int.emod_nonneg (b ^ i) (show p ≠ 0 by omega)
    by_cases e : b ^ i % p = l
    · rw [if_pos (by simpa using e)]
      refine h2 i _ ?_
      show (if b ^ i % p = l then PyData.int i else exF p b l k (i + 1)) = _
      rw [if_pos e]
    · rw [if_neg (by simpa using e)]
      have ee : exF p b l (k + 1) i = exF p b l k (i + 1) := by
        show (if b ^ i % p = l then _ else exF p b l k (i + 1)) = _
        rw [if_neg e]
      refine ⟨small_l (by omega) (by omega), by omega, ?_⟩
      have e2 : b ^ i % p * b % p = b ^ (i + 1) % p := by
        rw [Int.pow_succ, Int.mul_emod, Int.emod_emod, ← Int.mul_emod]
      rw [e2]
      exact ex_loop p1 p2 b1 b2 k (i + 1) _ (fun h => h1 (ee.trans h)) (fun j e h => h2 j e (ee.trans h))
theorem pu_exponent_of (ds Q) (hl : ds.length = 3) (h : wf_exponent_of ds Q) : ws_exponent_of (edP Q) (enP N_exponent_of ds) := by
  obtain ⟨p, b, l, rfl, hp, b1, b2, l1, l2, q⟩ := h
  obtain ⟨p1, p2⟩ := isP_le hp
  simp only [ws_exponent_of, N_exponent_of, wf_check_prime, hp, wf_check_letter, wVar, wC, wOp, wUn, wCl, wB, wTr, wAnd, wOr, wNot, wAndV, wOrV, wNotV, wIf, wCh, wNil, wCons, wTup, wLe, wSz, wFn, wFnJ, wNext, wSeq, wRet, wRetN, wDrop, wIfS, wSet, wSetOwn, wNever, wAug, wOpO, wOpR, wClO, wApp, wSetIt, wFrz, wFor, wRg1, wRg2, wSq, wEnum, wZip, wgN, wgT, wgNil, wgCons, wYes, wAsgT, wgLs, wLenS, wIxS, wFnS, wIsi, wListOf, wRev, edP, edJ, enP, enJ, enS, NotOwn, Flat, List.map_cons, List.map_nil, List.length_cons, List.length_nil, List.replicate_succ, List.replicate_zero, List.cons_append, List.nil_append, List.append_nil, List.set_cons_zero, List.set_cons_succ, List.getElem?_cons_zero, List.getElem?_cons_succ, Nat.reduceAdd, Nat.reduceSub, Option.some.injEq, Sl.imm.injEq, Sl.own.injEq, Sl.scr.injEq, exists_eq_left, exists_eq_left', exists_eq_right, exists_eq, exists_eq', exists_and_left, and_assoc, and_true, true_and, ne_eq, not_false_eq_true, Nat.succ_ne_zero, or_true, true_or, true_implies, forall_eq', forall_eq, PyData.int.injEq, PyData.bool.injEq, PyData.list.injEq, PyData.tuple.injEq, List.cons.injEq, i_add, i_iadd, i_sub, i_mul, i_mod, i_fdiv, i_fdivG, i_pow, i_neg, i_le, i_ge, i_gt, i_lt, i_eq, i_ne, i_intI, i_intB, i_abs, i_max, i_min, i_lenL, i_lenT, i_ixL, i_ixT, i_tupL, i_tupT, i_truB, Bool.not_true, Bool.not_false, Bool.false_eq_true, if_true, if_false, reduceIte]
  refine ⟨b1, b2, l1, l2, by omega, by omega, ?_⟩
  have e0 : (1 : Int) = b ^ 0 % p := by rw [Int.pow_zero, Int.emod_eq_of_lt (by decide) (by omega)]
  have er : rngD 0 p.toNat = (List.range' 0 p.toNat).map fun (j : Nat) => PyData.int j := by
    unfold rngD
    rw [List.range_eq_range']
    refine List.map_congr_left fun i _ => ?_
    rw [Int.zero_add]
  rw [er]
  have := ex_loop (p := p) (b := b) (l := l) (R := { nx := wRet (wC PyData.none) { nx := fun x => Q PyData.none, rt := fun d x => Q d }, rt := fun d x => Q d }) p1 p2 b1 b2 p.toNat 0 .un (fun h _ _ => by
    rw [h] at q; exact q) (fun j e h => by rw [h] at q; exact q)
  rw [← e0] at this
  exact this
theorem st_le : ∀ (k : Nat) (n d : Int), 1 ≤ n → 2 ≤ d → 1 ≤ stF k n d ∧ stF k n d ≤ n
  | 0, n, d, h, _ => ⟨h, Int.le_refl _⟩
  | k + 1, n, d, h, hd => by
    show 1 ≤ (if n % d = 0 then stF k (n / d) d else n) ∧ (if n % d = 0 then stF k (n / d) d else n) ≤ n
    by_cases e : n % d = 0
    · rw [if_pos e]
      have h1 : d * (n / d) = n := by have := Int.mul_ediv_add_emod n d; omega
      have h2 : 1 ≤ n / d := by
        have : 0 ≤ n / d := Int.ediv_nonneg (by omega) (by omega)
        rcases Int.lt_or_eq_of_le this with h3 | h3
        · omega
        · rw [← h3, Int.mul_zero] at h1; omega
      have h4 : n / d ≤ n := Int.ediv_le_self _ (by omega)
      have := st_le k (n / d) d h2 hd
      omega
    · rw [if_neg e]; omega
theorem pu__law_shared (ds Q) (hl : ds.length = 2) (h : wf__law_shared ds Q) : ws__law_shared (edP Q) (enP N__law_shared ds) := by
  obtain ⟨a, b, rfl, k⟩ := h
  simp only [ws__law_shared, N__law_shared, wPar, wWhile, wVar, wC, wOp, wUn, wCl, wB, wTr, wAnd, wOr, wNot, wAndV, wOrV, wNotV, wIf, wCh, wNil, wCons, wTup, wLe, wSz, wFn, wFnJ, wNext, wSeq, wRet, wRetN, wDrop, wIfS, wSet, wSetOwn, wNever, wAug, wOpO, wOpR, wClO, wApp, wSetIt, wFrz, wFor, wRg1, wRg2, wSq, wEnum, wZip, wgN, wgT, wgNil, wgCons, wYes, wAsgT, wgLs, wLenS, wIxS, wFnS, wIsi, wListOf, wRev, edP, edJ, enP, enJ, enS, NotOwn, Flat, List.map_cons, List.map_nil, List.length_cons, List.length_nil, List.replicate_succ, List.replicate_zero, List.cons_append, List.nil_append, List.append_nil, List.set_cons_zero, List.set_cons_succ, List.getElem?_cons_zero, List.getElem?_cons_succ, Nat.reduceAdd, Nat.reduceSub, Option.some.injEq, Sl.imm.injEq, Sl.own.injEq, Sl.scr.injEq, exists_eq_left, exists_eq_left', exists_eq_right, exists_eq, exists_eq', exists_and_left, and_assoc, and_true, true_and, ne_eq, not_false_eq_true, Nat.succ_ne_zero, or_true, true_or, true_implies, forall_eq', forall_eq, PyData.int.injEq, PyData.bool.injEq, PyData.list.injEq, PyData.tuple.injEq, List.cons.injEq, i_add, i_iadd, i_sub, i_mul, i_mod, i_fdiv, i_fdivG, i_pow, i_neg, i_le, i_ge, i_gt, i_lt, i_eq, i_ne, i_intI, i_intB, i_abs, i_max, i_min, i_lenL, i_lenT, i_ixL, i_ixT, i_tupL, i_tupT, i_truB, Bool.not_true, Bool.not_false, Bool.false_eq_true, if_true, if_false, reduceIte]
  refine ⟨fun m e => ∃ x y : Nat, e = [.imm (.int x), .imm (.int y)] ∧ Nat.gcd x y = Nat.gcd a b ∧ m = y, ⟨_, _, _, rfl, rfl, rfl⟩, ?_⟩
  rintro m e ⟨x, y, rfl, hg, rfl⟩
  simp only [wVar, wC, wOp, wUn, wCl, wB, wTr, wAnd, wOr, wNot, wAndV, wOrV, wNotV, wIf, wCh, wNil, wCons, wTup, wLe, wSz, wFn, wFnJ, wNext, wSeq, wRet, wRetN, wDrop, wIfS, wSet, wSetOwn, wNever, wAug, wOpO, wOpR, wClO, wApp, wSetIt, wFrz, wFor, wRg1, wRg2, wSq, wEnum, wZip, wgN, wgT, wgNil, wgCons, wYes, wAsgT, wgLs, wLenS, wIxS, wFnS, wIsi, wListOf, wRev, edP, edJ, enP, enJ, enS, NotOwn, Flat, List.map_cons, List.map_nil, List.length_cons, List.length_nil, List.replicate_succ, List.replicate_zero, List.cons_append, List.nil_append, List.append_nil, List.set_cons_zero, List.set_cons_succ, List.getElem?_cons_zero, List.getElem?_cons_succ, Nat.reduceAdd, Nat.reduceSub, Option.some.injEq, Sl.imm.injEq, Sl.own.injEq, Sl.scr.injEq, exists_eq_left, exists_eq_left', exists_eq_right, exists_eq, exists_eq', exists_and_left, and_assoc, and_true, true_and, ne_eq, not_false_eq_true, Nat.succ_ne_zero, or_true, true_or, true_implies, forall_eq', forall_eq, PyData.int.injEq, PyData.bool.injEq, PyData.list.injEq, PyData.tuple.injEq, List.cons.injEq, i_add, i_iadd, i_sub, i_mul, i_mod, i_fdiv, i_fdivG, i_pow, i_neg, i_le, i_ge, i_gt, i_lt, i_eq, i_ne, i_intI, i_intB, i_abs, i_max, i_min, i_lenL, i_lenT, i_ixL, i_ixT, i_tupL, i_tupT, i_truB, Bool.not_true, Bool.not_false, Bool.false_eq_true, if_true, if_false, reduceIte]
  by_cases h : 0 < m
  · rw [if_pos (by simpa using h)]
    refine ⟨by omega, x % m, Nat.mod_lt _ h, m, rfl, x % m, (Int.natCast_emod x m).symm, ?_, rfl⟩
    rw [← hg, Nat.gcd_comm x m, Nat.gcd_rec m x, Nat.gcd_comm]
  · rw [if_neg (by simpa using h)]
    have hm : m = 0 := by omega
    subst hm
    rw [Nat.gcd_zero_right] at hg
    rw [hg]
    exact k
theorem ld_ge : ∀ (f : Nat) (n d : Int), 2 ≤ d → d ≤ n ∨ 2 ≤ n → 2 ≤ ldF f n d
  | 0, n, d, h, h2 => by show 2 ≤ n; omega
  | f + 1, n, d, h, h2 => by
    show 2 ≤ (if d * d ≤ n then (if n % d = 0 then d else ldF f n (d + 1)) else n)
    split
    · split
      · exact h
      · exact ld_ge f n (d + 1) (by omega) (by omega)
    · omega
theorem pu__law_is_prime (ds Q) (hl : ds.length = 1) (h : wf__law_is_prime ds Q) : ws__law_is_prime (edP Q) (enP N__law_is_prime ds) := by
  obtain ⟨n, rfl, hn, q⟩ := h
  simp only [ws__law_is_prime, N__law_is_prime, wWhile, wVar, wC, wOp, wUn, wCl, wB, wTr, wAnd, wOr, wNot, wAndV, wOrV, wNotV, wIf, wCh, wNil, wCons, wTup, wLe, wSz, wFn, wFnJ, wNext, wSeq, wRet, wRetN, wDrop, wIfS, wSet, wSetOwn, wNever, wAug, wOpO, wOpR, wClO, wApp, wSetIt, wFrz, wFor, wRg1, wRg2, wSq, wEnum, wZip, wgN, wgT, wgNil, wgCons, wYes, wAsgT, wgLs, wLenS, wIxS, wFnS, wIsi, wListOf, wRev, edP, edJ, enP, enJ, enS, NotOwn, Flat, List.map_cons, List.map_nil, List.length_cons, List.length_nil, List.replicate_succ, List.replicate_zero, List.cons_append, List.nil_append, List.append_nil, List.set_cons_zero, List.set_cons_succ, List.getElem?_cons_zero, List.getElem?_cons_succ, Nat.reduceAdd, Nat.reduceSub, Option.some.injEq, Sl.imm.injEq, Sl.own.injEq, Sl.scr.injEq, exists_eq_left, exists_eq_left', exists_eq_right, exists_eq, exists_eq', exists_and_left, and_assoc, and_true, true_and, ne_eq, not_false_eq_true, Nat.succ_ne_zero, or_true, true_or, true_implies, forall_eq', forall_eq, PyData.int.injEq, PyData.bool.injEq, PyData.list.injEq, PyData.tuple.injEq, List.cons.injEq, i_add, i_iadd, i_sub, i_mul, i_mod, i_fdiv, i_fdivG, i_pow, i_neg, i_le, i_ge, i_gt, i_lt, i_eq, i_ne, i_intI, i_intB, i_abs, i_max, i_min, i_lenL, i_lenT, i_ixL, i_ixT, i_tupL, i_tupT, i_truB, Bool.not_true, Bool.not_false, Bool.false_eq_true, if_true, if_false, reduceIte]
  by_cases h2 : n < 2
  · rw [if_pos (by simpa using h2)]
    have : isP n = false := by unfold isP; rw [decide_eq_false (by omega : ¬ 2 ≤ n)]; rfl
    rw [this] at q; exact q
  · rw [if_neg (by simpa using h2)]
    have ep : isP n = decide (ldF 200 n 2 = n) := by
      unfold isP; rw [decide_eq_true (by omega : 2 ≤ n), decide_eq_true hn]; rfl
    refine ⟨fun m e => ∃ d : Int, m ≤ 200 ∧ d = 202 - m ∧ ldF m n d = ldF 200 n 2 ∧ e = [.imm (.int n), .imm (.int d)], ⟨200, 2, Nat.le_refl _, rfl, rfl, rfl⟩, ?_⟩
    rintro m e ⟨d, hm, hd, hf, rfl⟩
    simp only [wVar, wC, wOp, wUn, wCl, wB, wTr, wAnd, wOr, wNot, wAndV, wOrV, wNotV, wIf, wCh, wNil, wCons, wTup, wLe, wSz, wFn, wFnJ, wNext, wSeq, wRet, wRetN, wDrop, wIfS, wSet, wSetOwn, wNever, wAug, wOpO, wOpR, wClO, wApp, wSetIt, wFrz, wFor, wRg1, wRg2, wSq, wEnum, wZip, wgN, wgT, wgNil, wgCons, wYes, wAsgT, wgLs, wLenS, wIxS, wFnS, wIsi, wListOf, wRev, edP, edJ, enP, enJ, enS, NotOwn, Flat, List.map_cons, List.map_nil, List.length_cons, List.length_nil, List.replicate_succ, List.replicate_zero, List.cons_append, List.nil_append, List.append_nil, List.set_cons_zero, List.set_cons_succ, List.getElem?_cons_zero, List.getElem?_cons_succ, Nat.reduceAdd, Nat.reduceSub, Option.some.injEq, Sl.imm.injEq, Sl.own.injEq, Sl.scr.injEq, exists_eq_left, exists_eq_left', exists_eq_right, exists_eq, exists_eq', exists_and_left, and_assoc, and_true, true_and, ne_eq, not_false_eq_true, Nat.succ_ne_zero, or_true, true_or, true_implies, forall_eq', forall_eq, PyData.int.injEq, PyData.bool.injEq, PyData.list.injEq, PyData.tuple.injEq, List.cons.injEq, i_add, i_iadd, i_sub, i_mul, i_mod, i_fdiv, i_fdivG, i_pow, i_neg, i_le, i_ge, i_gt, i_lt, i_eq, i_ne, i_intI, i_intB, i_abs, i_max, i_min, i_lenL, i_lenT, i_ixL, i_ixT, i_tupL, i_tupT, i_truB, Bool.not_true, Bool.not_false, Bool.false_eq_true, if_true, if_false, reduceIte]
    refine ⟨small_l (by omega) (by omega), ?_⟩
    have fin : ldF m n d = n → Q (.bool true) := fun h => by
      rw [ep, ← hf, h, decide_eq_true rfl] at q; exact q
    cases m with
    | zero =>
      have hd' : d = 202 := by omega
      subst hd'
      rw [if_neg (by simp; omega)]
      exact fin rfl
    | succ m =>
      by_cases hlt : d * d ≤ n
      · rw [if_pos (by simpa using hlt)]
        refine ⟨by omega, ?_⟩
        have h1 : ldF (m + 1) n d = if n % d = 0 then d else ldF m n (d + 1) := by
          show (if d * d ≤ n then (if n % d = 0 then d else ldF m n (d + 1)) else n) = _
          rw [if_pos hlt]
        by_cases h3 : n % d = 0
        · rw [if_pos (by simpa using h3)]
          rw [if_pos h3] at h1
          have dn : d ≠ n := fun e => by
            have h5 : d * 2 ≤ d * d := Int.mul_le_mul_of_nonneg_left (by omega) (by omega)
            omega
          rw [ep, ← hf, h1, decide_eq_false dn] at q; exact q
        · rw [if_neg (by simpa using h3)]
          rw [if_neg h3] at h1
          exact ⟨m, by omega, by omega, by rw [← hf, h1]; congr 1; omega, by omega⟩
      · rw [if_neg (by simpa using hlt)]
        refine fin ?_
        show (if d * d ≤ n then (if n % d = 0 then d else ldF m n (d + 1)) else n) = _
        rw [if_neg hlt]
theorem pu__law_power (j ds Q) (hl : ds.length = 3) (h : wfr__law_power (j + 1) ds Q) : ws__law_power (wfr__law_power j) (edP Q) (enP N__law_power ds) := by
  obtain ⟨p, l, t, rfl, p1, p2, l1, l2, ht, q⟩ := h
  simp only [ws__law_power, N__law_power, fdiv2, wVar, wC, wOp, wUn, wCl, wB, wTr, wAnd, wOr, wNot, wAndV, wOrV, wNotV, wIf, wCh, wNil, wCons, wTup, wLe, wSz, wFn, wFnJ, wNext, wSeq, wRet, wRetN, wDrop, wIfS, wSet, wSetOwn, wNever, wAug, wOpO, wOpR, wClO, wApp, wSetIt, wFrz, wFor, wRg1, wRg2, wSq, wEnum, wZip, wgN, wgT, wgNil, wgCons, wYes, wAsgT, wgLs, wLenS, wIxS, wFnS, wIsi, wListOf, wRev, edP, edJ, enP, enJ, enS, NotOwn, Flat, List.map_cons, List.map_nil, List.length_cons, List.length_nil, List.replicate_succ, List.replicate_zero, List.cons_append, List.nil_append, List.append_nil, List.set_cons_zero, List.set_cons_succ, List.getElem?_cons_zero, List.getElem?_cons_succ, Nat.reduceAdd, Nat.reduceSub, Option.some.injEq, Sl.imm.injEq, Sl.own.injEq, Sl.scr.injEq, exists_eq_left, exists_eq_left', exists_eq_right, exists_eq, exists_eq', exists_and_left, and_assoc, and_true, true_and, ne_eq, not_false_eq_true, Nat.succ_ne_zero, or_true, true_or, true_implies, forall_eq', forall_eq, PyData.int.injEq, PyData.bool.injEq, PyData.list.injEq, PyData.tuple.injEq, List.cons.injEq, i_add, i_iadd, i_sub, i_mul, i_mod, i_fdiv, i_fdivG, i_pow, i_neg, i_le, i_ge, i_gt, i_lt, i_eq, i_ne, i_intI, i_intB, i_abs, i_max, i_min, i_lenL, i_lenT, i_ixL, i_ixT, i_tupL, i_tupT, i_truB, Bool.not_true, Bool.not_false, Bool.false_eq_true, if_true, if_false, reduceIte]
  by_cases h0 : t = 0
  · subst h0
    rw [if_pos (by decide)]
    rw [Int.pow_zero, Int.emod_eq_of_lt (by decide) (by omega)] at q
    exact q
  · rw [if_neg (by simpa using h0)]
    refine ⟨divG (by decide) (log_lt (by decide) (by decide)), ?_⟩
    cases j with
    | zero => rw [Nat.pow_zero] at ht; omega
    | succ j =>
      rw [Nat.pow_succ] at ht
      refine ⟨p, l, t / 2, rfl, p1, p2, l1, l2, by omega, ?_⟩
      have hp0 : 0 < p := by omega
      have b0 := Int.emod_lt_of_pos (l ^ (t / 2)) hp0
      have b1 := Int.emod_nonneg (l ^ (t / 2)) (show p ≠ 0 by omega)
      have hh : (l ^ (t / 2) % p) * (l ^ (t / 2) % p) % p = l ^ (2 * (t / 2)) % p := by
        rw [← Int.mul_emod, ← Int.pow_add, show t / 2 + t / 2 = 2 * (t / 2) by omega]
      have c0 := Int.emod_lt_of_pos (l ^ (2 * (t / 2))) hp0
      have c1 := Int.emod_nonneg (l ^ (2 * (t / 2))) (show p ≠ 0 by omega)
      simp only [hh, wVar, wC, wOp, wUn, wCl, wB, wTr, wAnd, wOr, wNot, wAndV, wOrV, wNotV, wIf, wCh, wNil, wCons, wTup, wLe, wSz, wFn, wFnJ, wNext, wSeq, wRet, wRetN, wDrop, wIfS, wSet, wSetOwn, wNever, wAug, wOpO, wOpR, wClO, wApp, wSetIt, wFrz, wFor, wRg1, wRg2, wSq, wEnum, wZip, wgN, wgT, wgNil, wgCons, wYes, wAsgT, wgLs, wLenS, wIxS, wFnS, wIsi, wListOf, wRev, edP, edJ, enP, enJ, enS, NotOwn, Flat, List.map_cons, List.map_nil, List.length_cons, List.length_nil, List.replicate_succ, List.replicate_zero, List.cons_append, List.nil_append, List.append_nil, List.set_cons_zero, List.set_cons_succ, List.getElem?_cons_zero, List.getElem?_cons_succ, Nat.reduceAdd, Nat.reduceSub, Option.some.injEq, Sl.imm.injEq, Sl.own.injEq, Sl.scr.injEq, exists_eq_left, exists_eq_left', exists_eq_right, exists_eq, exists_eq', exists_and_left, and_assoc, and_true, true_and, ne_eq, not_false_eq_true, Nat.succ_ne_zero, or_true, true_or, true_implies, forall_eq', forall_eq, PyData.int.injEq, PyData.bool.injEq, PyData.list.injEq, PyData.tuple.injEq, List.cons.injEq, i_add, i_iadd, i_sub, i_mul, i_mod, i_fdiv, i_fdivG, i_pow, i_neg, i_le, i_ge, i_gt, i_lt, i_eq, i_ne, i_intI, i_intB, i_abs, i_max, i_min, i_lenL, i_lenT, i_ixL, i_ixT, i_tupL, i_tupT, i_truB, Bool.not_true, Bool.not_false, Bool.false_eq_true, if_true, if_false, reduceIte]
      refine ⟨small_l (by omega) (by omega), hp0, by decide, ?_⟩
      by_cases h1 : t % 2 = 1
      · rw [if_pos (by simp; omega)]
        refine ⟨small_l (by omega) (by omega), hp0, ?_⟩
        have e : l ^ (2 * (t / 2)) % p * l % p = l ^ t % p := by
          rw [Int.mul_emod, Int.emod_emod, ← Int.mul_emod, ← Int.pow_succ, show (2 * (t / 2)).succ = t by omega]
        rw [e]; exact q
      · rw [if_neg (by simp; omega)]
        refine ⟨small_r (by decide) (by decide), hp0, ?_⟩
        rw [Int.mul_one, Int.emod_emod, show 2 * (t / 2) = t by omega]; exact q
/-! ### powers in a row -/
theorem nodup_len : ∀ (n : Nat) (l : List Int), l.Nodup → (∀ x ∈ l, 0 ≤ x ∧ x < n) → l.length ≤ n
  | 0, l, _, h => by
    cases l with
    | nil => exact Nat.le_refl _
    | cons a l => have := h a List.mem_cons_self; omega
  | n + 1, l, hd, h => by
    by_cases hm : (n : Int) ∈ l
    · have h1 := nodup_len n (l.erase n) (hd.erase _) fun x hx => by
        obtain ⟨h2, h3⟩ := (hd.mem_erase_iff).mp hx
        have := h x h3
        omega
      rw [List.length_erase_of_mem hm] at h1
      omega
    · have h1 := nodup_len n l hd fun x hx => by
        have h2 := h x hx
        have h3 : x ≠ n := fun e => hm (by rw [← e]; exact hx)
        omega
      omega
theorem in_ints (x : Int) (l : List Int) : ((l.map PyData.int).any fun y => PyData.eqv y (.int x)) = decide (x ∈ l) := by
  rw [List.any_map]
  induction l with
  | nil => rfl
  | cons a l ih =>
    rw [List.any_cons, ih]
    show (PyData.eqv (.int a) (.int x) || decide (x ∈ l)) = _
    rw [eqv_int, ← Bool.decide_or]
    exact decide_eq_decide.mpr (by rw [List.mem_cons]; constructor <;> (rintro (h | h)) <;> first | exact Or.inl h.symm | exact Or.inr h)
theorem flat_ints (l : List Int) : (l.map PyData.int).all flatD = true := by
  rw [List.all_map, List.all_eq_true]; intro x _; rfl
theorem pu__law_powers (ds Q) (hl : ds.length = 2) (h : wf__law_powers ds Q) : ws__law_powers (edP Q) (enP N__law_powers ds) := by
  obtain ⟨p, l, rfl, p1, p2, l1, l2, q⟩ := h
  simp only [ws__law_powers, N__law_powers, wParOI, wWhile, wVar, wC, wOp, wUn, wCl, wB, wTr, wAnd, wOr, wNot, wAndV, wOrV, wNotV, wIf, wCh, wNil, wCons, wTup, wLe, wSz, wFn, wFnJ, wNext, wSeq, wRet, wRetN, wDrop, wIfS, wSet, wSetOwn, wNever, wAug, wOpO, wOpR, wClO, wApp, wSetIt, wFrz, wFor, wRg1, wRg2, wSq, wEnum, wZip, wgN, wgT, wgNil, wgCons, wYes, wAsgT, wgLs, wLenS, wIxS, wFnS, wIsi, wListOf, wRev, edP, edJ, enP, enJ, enS, NotOwn, Flat, List.map_cons, List.map_nil, List.length_cons, List.length_nil, List.replicate_succ, List.replicate_zero, List.cons_append, List.nil_append, List.append_nil, List.set_cons_zero, List.set_cons_succ, List.getElem?_cons_zero, List.getElem?_cons_succ, Nat.reduceAdd, Nat.reduceSub, Option.some.injEq, Sl.imm.injEq, Sl.own.injEq, Sl.scr.injEq, exists_eq_left, exists_eq_left', exists_eq_right, exists_eq, exists_eq', exists_and_left, and_assoc, and_true, true_and, ne_eq, not_false_eq_true, Nat.succ_ne_zero, or_true, true_or, true_implies, forall_eq', forall_eq, PyData.int.injEq, PyData.bool.injEq, PyData.list.injEq, PyData.tuple.injEq, List.cons.injEq, i_add, i_iadd, i_sub, i_mul, i_mod, i_fdiv, i_fdivG, i_pow, i_neg, i_le, i_ge, i_gt, i_lt, i_eq, i_ne, i_intI, i_intB, i_abs, i_max, i_min, i_lenL, i_lenT, i_ixL, i_ixT, i_tupL, i_tupT, i_truB, Bool.not_true, Bool.not_false, Bool.false_eq_true, if_true, if_false, reduceIte]
  refine ⟨by decide, fun m e => ∃ (found : List Int) (here : Int), m + found.length = p.toNat + 1 ∧ found.Nodup ∧ (∀ x ∈ found, 0 ≤ x ∧ x < p) ∧ 0 ≤ here ∧ here < p ∧ pwF p l m found here = pwL p l ∧ e = [.imm (.int p), .imm (.int l), .own (found.map .int), .imm (.int here)], ⟨p.toNat + 1, [], 1, rfl, List.nodup_nil, (fun x hx => by cases hx), by decide, by omega, rfl, rfl⟩, ?_⟩
  rintro m e ⟨found, here, hm, hd, hb, h1, h2, hf, rfl⟩
  have hlen := nodup_len p.toNat found hd fun x hx => by have := hb x hx; omega
  have hin : ∀ z, dIn true (.int here) (.list (found.map .int)) z ↔ z = .bool (!decide (here ∈ found)) := fun z => by
    constructor
    · rintro ⟨ys, hy, _, _, h⟩
      rcases hy with hy | hy
      · cases hy; rw [h, in_ints]; rfl
      · cases hy
    · intro h
      exact ⟨_, Or.inl rfl, rfl, flat_ints _, by rw [h, in_ints]; rfl⟩
  simp only [hin, wVar, wC, wOp, wUn, wCl, wB, wTr, wAnd, wOr, wNot, wAndV, wOrV, wNotV, wIf, wCh, wNil, wCons, wTup, wLe, wSz, wFn, wFnJ, wNext, wSeq, wRet, wRetN, wDrop, wIfS, wSet, wSetOwn, wNever, wAug, wOpO, wOpR, wClO, wApp, wSetIt, wFrz, wFor, wRg1, wRg2, wSq, wEnum, wZip, wgN, wgT, wgNil, wgCons, wYes, wAsgT, wgLs, wLenS, wIxS, wFnS, wIsi, wListOf, wRev, edP, edJ, enP, enJ, enS, NotOwn, Flat, List.map_cons, List.map_nil, List.length_cons, List.length_nil, List.replicate_succ, List.replicate_zero, List.cons_append, List.nil_append, List.append_nil, List.set_cons_zero, List.set_cons_succ, List.getElem?_cons_zero, List.getElem?_cons_succ, Nat.reduceAdd, Nat.reduceSub, Option.some.injEq, Sl.imm.injEq, Sl.own.injEq, Sl.scr.injEq, exists_eq_left, exists_eq_left', exists_eq_right, exists_eq, exists_eq', exists_and_left, and_assoc, and_true, true_and, ne_eq, not_false_eq_true, Nat.succ_ne_zero, or_true, true_or, true_implies, forall_eq', forall_eq, PyData.int.injEq, PyData.bool.injEq, PyData.list.injEq, PyData.tuple.injEq, List.cons.injEq, i_add, i_iadd, i_sub, i_mul, i_mod, i_fdiv, i_fdivG, i_pow, i_neg, i_le, i_ge, i_gt, i_lt, i_eq, i_ne, i_intI, i_intB, i_abs, i_max, i_min, i_lenL, i_lenT, i_ixL, i_ixT, i_tupL, i_tupT, i_truB, Bool.not_true, Bool.not_false, Bool.false_eq_true, if_true, if_false, reduceIte]
  cases m with
  | zero => omega
  | succ m =>
    by_cases hc : here ∈ found
    · rw [if_neg (by simpa using hc)]
      have : pwF p l (m + 1) found here = found := by
        show (if here ∈ found then found else _) = found
        rw [if_pos hc]
      rw [← hf, this] at q
      exact q
    · rw [if_pos (by simpa using hc)]
      have ef : found.map PyData.int ++ [.int here] = (found ++ [here]).map .int := by rw [List.map_append]; rfl
      rw [ef]
      refine ⟨by rw [List.length_map]; exact Nat.lt_of_le_of_lt (show found.length ≤ 9973 by omega) (by decide), small_l (by omega) (by omega), by omega, m, by omega, found ++ [here], by rw [List.length_append, List.length_singleton]; omega, ?_, ?_, _, Int.emod_nonneg _ (by omega), Int.emod_lt_of_pos _ (by omega), ?_, rfl, rfl⟩
      · rw [List.nodup_append]
        refine ⟨hd, List.nodup_cons.mpr ⟨by simp, List.nodup_nil⟩, fun a ha b hb' e => ?_⟩
        rw [List.mem_singleton] at hb'
        subst hb'; subst e
        exact hc ha
      · intro x hx
        rcases List.mem_append.mp hx with h | h
        · exact hb x h
        · rw [List.mem_singleton] at h; rw [h]; exact ⟨h1, h2⟩
      · rw [← hf]
        show _ = (if here ∈ found then found else pwF p l m (found ++ [here]) (here * l % p))
        rw [if_neg hc]
/-! ### divisors -/
theorem ld_dvd : ∀ (f : Nat) (n d : Int), n % ldF f n d = 0
  | 0, n, d => by show n % n = 0; exact Int.emod_self
  | f + 1, n, d => by
    show n % (if d * d ≤ n then (if n % d = 0 then d else ldF f n (d + 1)) else n) = 0
    split
    · split
      · assumption
      · exact ld_dvd f n (d + 1)
    · exact Int.emod_self
theorem ld_ge2 (n : Int) (h : 2 ≤ n) : 2 ≤ ldF 200 n 2 := ld_ge 200 n 2 (by decide) (Or.inr h)
theorem strip_ok {d : Int} {a : Sl} {f : List D} {R : Ed} (hd : 2 ≤ d) (hd2 : d ≤ 9973) {t : Int} : ∀ (q : R.nx [a, .own f, .imm (.int t), .imm (.int d)]) (n : Int), 1 ≤ n → n ≤ 9973 → stF 14 n d = t →
    wWhile (wB (wOp dEq (wOp dMod (wVar 2) (wVar 3)) (wC (.int 0)))) (wSet 2 (wOp dFdivG (wVar 2) (wVar 3))) R [a, .own f, .imm (.int n), .imm (.int d)] := by
  intro q n n1 n2 ht
  simp only [wWhile, wVar, wC, wOp, wUn, wCl, wB, wTr, wAnd, wOr, wNot, wAndV, wOrV, wNotV, wIf, wCh, wNil, wCons, wTup, wLe, wSz, wFn, wFnJ, wNext, wSeq, wRet, wRetN, wDrop, wIfS, wSet, wSetOwn, wNever, wAug, wOpO, wOpR, wClO, wApp, wSetIt, wFrz, wFor, wRg1, wRg2, wSq, wEnum, wZip, wgN, wgT, wgNil, wgCons, wYes, wAsgT, wgLs, wLenS, wIxS, wFnS, wIsi, wListOf, wRev, edP, edJ, enP, enJ, enS, NotOwn, Flat, List.map_cons, List.map_nil, List.length_cons, List.length_nil, List.replicate_succ, List.replicate_zero, List.cons_append, List.nil_append, List.append_nil, List.set_cons_zero, List.set_cons_succ, List.getElem?_cons_zero, List.getElem?_cons_succ, Nat.reduceAdd, Nat.reduceSub, Option.some.injEq, Sl.imm.injEq, Sl.own.injEq, Sl.scr.injEq, exists_eq_left, exists_eq_left', exists_eq_right, exists_eq, exists_eq', exists_and_left, and_assoc, and_true, true_and, ne_eq, not_false_eq_true, Nat.succ_ne_zero, or_true, true_or, true_implies, forall_eq', forall_eq, PyData.int.injEq, PyData.bool.injEq, PyData.list.injEq, PyData.tuple.injEq, List.cons.injEq, i_add, i_iadd, i_sub, i_mul, i_mod, i_fdiv, i_fdivG, i_pow, i_neg, i_le, i_ge, i_gt, i_lt, i_eq, i_ne, i_intI, i_intB, i_abs, i_max, i_min, i_lenL, i_lenT, i_ixL, i_ixT, i_tupL, i_tupT, i_truB, Bool.not_true, Bool.not_false, Bool.false_eq_true, if_true, if_false, reduceIte]
  refine ⟨fun m e => ∃ x : Int, 1 ≤ x ∧ x < 2 ^ m ∧ m ≤ 14 ∧ stF m x d = t ∧ e = [a, .own f, .imm (.int x), .imm (.int d)], ⟨14, n, n1, by omega, Nat.le_refl _, ht, rfl⟩, ?_⟩
  rintro m e ⟨x, x1, x2, hm, hx, rfl⟩
  simp only [wVar, wC, wOp, wUn, wCl, wB, wTr, wAnd, wOr, wNot, wAndV, wOrV, wNotV, wIf, wCh, wNil, wCons, wTup, wLe, wSz, wFn, wFnJ, wNext, wSeq, wRet, wRetN, wDrop, wIfS, wSet, wSetOwn, wNever, wAug, wOpO, wOpR, wClO, wApp, wSetIt, wFrz, wFor, wRg1, wRg2, wSq, wEnum, wZip, wgN, wgT, wgNil, wgCons, wYes, wAsgT, wgLs, wLenS, wIxS, wFnS, wIsi, wListOf, wRev, edP, edJ, enP, enJ, enS, NotOwn, Flat, List.map_cons, List.map_nil, List.length_cons, List.length_nil, List.replicate_succ, List.replicate_zero, List.cons_append, List.nil_append, List.append_nil, List.set_cons_zero, List.set_cons_succ, List.getElem?_cons_zero, List.getElem?_cons_succ, Nat.reduceAdd, Nat.reduceSub, Option.some.injEq, Sl.imm.injEq, Sl.own.injEq, Sl.scr.injEq, exists_eq_left, exists_eq_left', exists_eq_right, exists_eq, exists_eq', exists_and_left, and_assoc, and_true, true_and, ne_eq, not_false_eq_true, Nat.succ_ne_zero, or_true, true_or, true_implies, forall_eq', forall_eq, PyData.int.injEq, PyData.bool.injEq, PyData.list.injEq, PyData.tuple.injEq, List.cons.injEq, i_add, i_iadd, i_sub, i_mul, i_mod, i_fdiv, i_fdivG, i_pow, i_neg, i_le, i_ge, i_gt, i_lt, i_eq, i_ne, i_intI, i_intB, i_abs, i_max, i_min, i_lenL, i_lenT, i_ixL, i_ixT, i_tupL, i_tupT, i_truB, Bool.not_true, Bool.not_false, Bool.false_eq_true, if_true, if_false, reduceIte]
  refine ⟨by omega, ?_⟩
  cases m with
  | zero => rw [Int.pow_zero] at x2; omega
  | succ m =>
    rw [Int.pow_succ] at x2
    by_cases e : x % d = 0
    · rw [if_pos (by simpa using e)]
      have h1 : d * (x / d) = x := by have := Int.mul_ediv_add_emod x d; omega
      have h0 : 0 ≤ x / d := Int.ediv_nonneg (by omega) (by omega)
      have h2 : 1 ≤ x / d := by
        rcases Int.lt_or_eq_of_le h0 with h3 | h3
        · omega
        · rw [← h3, Int.mul_zero] at h1; omega
      have h3 : 2 * (x / d) ≤ d * (x / d) := Int.mul_le_mul_of_nonneg_right hd h0
      refine ⟨divG (by omega) (log_lt (by omega) (by omega)), m, by omega, x / d, h2, by omega, by omega, ?_, ?_⟩
      · rw [← hx]
        show _ = (if x % d = 0 then stF m (x / d) d else x)
        rw [if_pos e]
      · rw [fdiv_pos (by omega)]
    · rw [if_neg (by simpa using e)]
      have : stF (m + 1) x d = x := by
        show (if x % d = 0 then stF m (x / d) d else x) = x
        rw [if_neg e]
      rw [this] at hx
      rw [hx]; exact q
end K01

set_option Elab.async false
set_option linter.all false
set_option maxRecDepth 100000
set_option maxHeartbeats 4000000
namespace K01
open PySem PySem.Spec PyProof.Rows L2 Pd
theorem wWhile_eq {tc : WT} {tb : WS} {R : Ed} {en : En} : wWhile tc tb R en = ∃ W : Nat → En → Prop, (∃ m, W m en) ∧ ∀ m e, W m e → tc e fun b e1 => if b = true then tb { R with nx := fun e' => ∃ m', m' < m ∧ W m' e', ct := fun e' => ∃ m', m' < m ∧ W m' e', bk := R.nx } e1 else R.nx e1 := rfl
theorem st_half {n d : Int} (h : 2 ≤ d) (hn : 1 ≤ n) (hd : n % d = 0) : 2 * stF 14 n d ≤ n ∧ 1 ≤ stF 14 n d := by
  have h1 : d * (n / d) = n := by have := Int.mul_ediv_add_emod n d; omega
  have h0 : 0 ≤ n / d := Int.ediv_nonneg (by omega) (by omega)
  have h2 : 1 ≤ n / d := by
    rcases Int.lt_or_eq_of_le h0 with h3 | h3
    · omega
    · rw [← h3, Int.mul_zero] at h1; omega
  have h3 : 2 * (n / d) ≤ d * (n / d) := Int.mul_le_mul_of_nonneg_right h h0
  have h4 := st_le 13 (n / d) d h2 h
  have e : stF 14 n d = stF 13 (n / d) d := by
    show (if n % d = 0 then stF 13 (n / d) d else n) = _
    rw [if_pos hd]
  rw [e]; omega
theorem ld_le (n : Int) (h : 2 ≤ n) : ldF 200 n 2 ≤ n := by
  have h1 := ld_dvd 200 n 2
  have h2 := ld_ge2 n h
  exact Int.le_of_dvd (by omega) (Int.dvd_of_emod_eq_zero h1)
theorem pu_prime_divisors (ds Q) (hl : ds.length = 1) (h : wf_prime_divisors ds Q) : ws_prime_divisors (edP Q) (enP N_prime_divisors ds) := by
  obtain ⟨n, rfl, n1, n2, q⟩ := h
  unfold ws_prime_divisors
  rw [wSeq_eq]
  simp only [N_prime_divisors, wVar, wC, wOp, wUn, wCl, wB, wTr, wAnd, wOr, wNot, wAndV, wOrV, wNotV, wIf, wCh, wNil, wCons, wTup, wLe, wSz, wFn, wFnJ, wNext, wRet, wRetN, wDrop, wIfS, wSet, wSetOwn, wNever, wAug, wOpO, wOpR, wClO, wApp, wSetIt, wFrz, wFor, wRg1, wRg2, wSq, wEnum, wZip, wgN, wgT, wgNil, wgCons, wYes, wAsgT, wgLs, wLenS, wIxS, wFnS, wIsi, wListOf, wRev, edP, edJ, enP, enJ, enS, NotOwn, Flat, List.map_cons, List.map_nil, List.length_cons, List.length_nil, List.replicate_succ, List.replicate_zero, List.cons_append, List.nil_append, List.append_nil, List.set_cons_zero, List.set_cons_succ, List.getElem?_cons_zero, List.getElem?_cons_succ, Nat.reduceAdd, Nat.reduceSub, Option.some.injEq, Sl.imm.injEq, Sl.own.injEq, Sl.scr.injEq, exists_eq_left, exists_eq_left', exists_eq_right, exists_eq, exists_eq', exists_and_left, and_assoc, and_true, true_and, ne_eq, not_false_eq_true, Nat.succ_ne_zero, or_true, true_or, true_implies, forall_eq', forall_eq, PyData.int.injEq, PyData.bool.injEq, PyData.list.injEq, PyData.tuple.injEq, List.cons.injEq, i_add, i_iadd, i_sub, i_mul, i_mod, i_fdiv, i_fdivG, i_pow, i_neg, i_le, i_ge, i_gt, i_lt, i_eq, i_ne, i_intI, i_intB, i_abs, i_max, i_min, i_lenL, i_lenT, i_ixL, i_ixT, i_tupL, i_tupT, i_truB, Bool.not_true, Bool.not_false, Bool.false_eq_true, if_true, if_false, reduceIte]
  refine ⟨by decide, ?_⟩
  (try dsimp only); rw [wSeq_eq]; simp only [wVar, wC, wOp, wUn, wCl, wB, wTr, wAnd, wOr, wNot, wAndV, wOrV, wNotV, wIf, wCh, wNil, wCons, wTup, wLe, wSz, wFn, wFnJ, wNext, wRet, wRetN, wDrop, wIfS, wSet, wSetOwn, wNever, wAug, wOpO, wOpR, wClO, wApp, wSetIt, wFrz, wFor, wRg1, wRg2, wSq, wEnum, wZip, wgN, wgT, wgNil, wgCons, wYes, wAsgT, wgLs, wLenS, wIxS, wFnS, wIsi, wListOf, wRev, edP, edJ, enP, enJ, enS, NotOwn, Flat, List.map_cons, List.map_nil, List.length_cons, List.length_nil, List.replicate_succ, List.replicate_zero, List.cons_append, List.nil_append, List.append_nil, List.set_cons_zero, List.set_cons_succ, List.getElem?_cons_zero, List.getElem?_cons_succ, Nat.reduceAdd, Nat.reduceSub, Option.some.injEq, Sl.imm.injEq, Sl.own.injEq, Sl.scr.injEq, exists_eq_left, exists_eq_left', exists_eq_right, exists_eq, exists_eq', exists_and_left, and_assoc, and_true, true_and, ne_eq, not_false_eq_true, Nat.succ_ne_zero, or_true, true_or, true_implies, forall_eq', forall_eq, PyData.int.injEq, PyData.bool.injEq, PyData.list.injEq, PyData.tuple.injEq, List.cons.injEq, i_add, i_iadd, i_sub, i_mul, i_mod, i_fdiv, i_fdivG, i_pow, i_neg, i_le, i_ge, i_gt, i_lt, i_eq, i_ne, i_intI, i_intB, i_abs, i_max, i_min, i_lenL, i_lenT, i_ixL, i_ixT, i_tupL, i_tupT, i_truB, Bool.not_true, Bool.not_false, Bool.false_eq_true, if_true, if_false, reduceIte]
  (try dsimp only); rw [wSeq_eq]; simp only [wVar, wC, wOp, wUn, wCl, wB, wTr, wAnd, wOr, wNot, wAndV, wOrV, wNotV, wIf, wCh, wNil, wCons, wTup, wLe, wSz, wFn, wFnJ, wNext, wRet, wRetN, wDrop, wIfS, wSet, wSetOwn, wNever, wAug, wOpO, wOpR, wClO, wApp, wSetIt, wFrz, wFor, wRg1, wRg2, wSq, wEnum, wZip, wgN, wgT, wgNil, wgCons, wYes, wAsgT, wgLs, wLenS, wIxS, wFnS, wIsi, wListOf, wRev, edP, edJ, enP, enJ, enS, NotOwn, Flat, List.map_cons, List.map_nil, List.length_cons, List.length_nil, List.replicate_succ, List.replicate_zero, List.cons_append, List.nil_append, List.append_nil, List.set_cons_zero, List.set_cons_succ, List.getElem?_cons_zero, List.getElem?_cons_succ, Nat.reduceAdd, Nat.reduceSub, Option.some.injEq, Sl.imm.injEq, Sl.own.injEq, Sl.scr.injEq, exists_eq_left, exists_eq_left', exists_eq_right, exists_eq, exists_eq', exists_and_left, and_assoc, and_true, true_and, ne_eq, not_false_eq_true, Nat.succ_ne_zero, or_true, true_or, true_implies, forall_eq', forall_eq, PyData.int.injEq, PyData.bool.injEq, PyData.list.injEq, PyData.tuple.injEq, List.cons.injEq, i_add, i_iadd, i_sub, i_mul, i_mod, i_fdiv, i_fdivG, i_pow, i_neg, i_le, i_ge, i_gt, i_lt, i_eq, i_ne, i_intI, i_intB, i_abs, i_max, i_min, i_lenL, i_lenT, i_ixL, i_ixT, i_tupL, i_tupT, i_truB, Bool.not_true, Bool.not_false, Bool.false_eq_true, if_true, if_false, reduceIte]
  rw [wWhile_eq]
  refine ⟨fun m e => ∃ (x : Int) (f : List Int) (s3 : Sl), NotOwn (some s3) ∧ 1 ≤ x ∧ x < 2 ^ m ∧ x ≤ 9973 ∧ m + f.length ≤ 14 ∧ f ++ pdF m x = pdF 14 n ∧ e = [.imm (.int n), .own (f.map .int), .imm (.int x), s3], ⟨14, n, [], .un, trivial, n1, by omega, n2, Nat.le_refl _, rfl, rfl⟩, ?_⟩
  rintro m e ⟨x, f, s3, h3, x1, x2, x3, hm, hx, rfl⟩
  simp only [wVar, wC, wOp, wUn, wCl, wB, wTr, wAnd, wOr, wNot, wAndV, wOrV, wNotV, wIf, wCh, wNil, wCons, wTup, wLe, wSz, wFn, wFnJ, wNext, wRet, wRetN, wDrop, wIfS, wSet, wSetOwn, wNever, wAug, wOpO, wOpR, wClO, wApp, wSetIt, wFrz, wFor, wRg1, wRg2, wSq, wEnum, wZip, wgN, wgT, wgNil, wgCons, wYes, wAsgT, wgLs, wLenS, wIxS, wFnS, wIsi, wListOf, wRev, edP, edJ, enP, enJ, enS, NotOwn, Flat, List.map_cons, List.map_nil, List.length_cons, List.length_nil, List.replicate_succ, List.replicate_zero, List.cons_append, List.nil_append, List.append_nil, List.set_cons_zero, List.set_cons_succ, List.getElem?_cons_zero, List.getElem?_cons_succ, Nat.reduceAdd, Nat.reduceSub, Option.some.injEq, Sl.imm.injEq, Sl.own.injEq, Sl.scr.injEq, exists_eq_left, exists_eq_left', exists_eq_right, exists_eq, exists_eq', exists_and_left, and_assoc, and_true, true_and, ne_eq, not_false_eq_true, Nat.succ_ne_zero, or_true, true_or, true_implies, forall_eq', forall_eq, PyData.int.injEq, PyData.bool.injEq, PyData.list.injEq, PyData.tuple.injEq, List.cons.injEq, i_add, i_iadd, i_sub, i_mul, i_mod, i_fdiv, i_fdivG, i_pow, i_neg, i_le, i_ge, i_gt, i_lt, i_eq, i_ne, i_intI, i_intB, i_abs, i_max, i_min, i_lenL, i_lenT, i_ixL, i_ixT, i_tupL, i_tupT, i_truB, Bool.not_true, Bool.not_false, Bool.false_eq_true, if_true, if_false, reduceIte]
  cases m with
  | zero => rw [Int.pow_zero] at x2; omega
  | succ m =>
    rw [Int.pow_succ] at x2
    by_cases h1 : 1 < x
    · rw [if_pos (by simpa using h1)]
      have epd : pdF (m + 1) x = ldF 200 x 2 :: pdF m (stF 14 x (ldF 200 x 2)) := by
        show (if 1 < x then _ else _) = _
        rw [if_pos h1]
      have hge := ld_ge2 x h1
      have hle := ld_le x h1
      obtain ⟨s1, s2⟩ := st_half hge (by omega) (ld_dvd 200 x 2)
      (try dsimp only); rw [wSeq_eq]; simp only [wf_least_divisor, wVar, wC, wOp, wUn, wCl, wB, wTr, wAnd, wOr, wNot, wAndV, wOrV, wNotV, wIf, wCh, wNil, wCons, wTup, wLe, wSz, wFn, wFnJ, wNext, wRet, wRetN, wDrop, wIfS, wSet, wSetOwn, wNever, wAug, wOpO, wOpR, wClO, wApp, wSetIt, wFrz, wFor, wRg1, wRg2, wSq, wEnum, wZip, wgN, wgT, wgNil, wgCons, wYes, wAsgT, wgLs, wLenS, wIxS, wFnS, wIsi, wListOf, wRev, edP, edJ, enP, enJ, enS, NotOwn, Flat, List.map_cons, List.map_nil, List.length_cons, List.length_nil, List.replicate_succ, List.replicate_zero, List.cons_append, List.nil_append, List.append_nil, List.set_cons_zero, List.set_cons_succ, List.getElem?_cons_zero, List.getElem?_cons_succ, Nat.reduceAdd, Nat.reduceSub, Option.some.injEq, Sl.imm.injEq, Sl.own.injEq, Sl.scr.injEq, exists_eq_left, exists_eq_left', exists_eq_right, exists_eq, exists_eq', exists_and_left, and_assoc, and_true, true_and, ne_eq, not_false_eq_true, Nat.succ_ne_zero, or_true, true_or, true_implies, forall_eq', forall_eq, PyData.int.injEq, PyData.bool.injEq, PyData.list.injEq, PyData.tuple.injEq, List.cons.injEq, i_add, i_iadd, i_sub, i_mul, i_mod, i_fdiv, i_fdivG, i_pow, i_neg, i_le, i_ge, i_gt, i_lt, i_eq, i_ne, i_intI, i_intB, i_abs, i_max, i_min, i_lenL, i_lenT, i_ixL, i_ixT, i_tupL, i_tupT, i_truB, Bool.not_true, Bool.not_false, Bool.false_eq_true, if_true, if_false, reduceIte]
      refine ⟨x3, ?_⟩
      (try dsimp only); rw [wSeq_eq]; simp only [wVar, wC, wOp, wUn, wCl, wB, wTr, wAnd, wOr, wNot, wAndV, wOrV, wNotV, wIf, wCh, wNil, wCons, wTup, wLe, wSz, wFn, wFnJ, wNext, wRet, wRetN, wDrop, wIfS, wSet, wSetOwn, wNever, wAug, wOpO, wOpR, wClO, wApp, wSetIt, wFrz, wFor, wRg1, wRg2, wSq, wEnum, wZip, wgN, wgT, wgNil, wgCons, wYes, wAsgT, wgLs, wLenS, wIxS, wFnS, wIsi, wListOf, wRev, edP, edJ, enP, enJ, enS, NotOwn, Flat, List.map_cons, List.map_nil, List.length_cons, List.length_nil, List.replicate_succ, List.replicate_zero, List.cons_append, List.nil_append, List.append_nil, List.set_cons_zero, List.set_cons_succ, List.getElem?_cons_zero, List.getElem?_cons_succ, Nat.reduceAdd, Nat.reduceSub, Option.some.injEq, Sl.imm.injEq, Sl.own.injEq, Sl.scr.injEq, exists_eq_left, exists_eq_left', exists_eq_right, exists_eq, exists_eq', exists_and_left, and_assoc, and_true, true_and, ne_eq, not_false_eq_true, Nat.succ_ne_zero, or_true, true_or, true_implies, forall_eq', forall_eq, PyData.int.injEq, PyData.bool.injEq, PyData.list.injEq, PyData.tuple.injEq, List.cons.injEq, i_add, i_iadd, i_sub, i_mul, i_mod, i_fdiv, i_fdivG, i_pow, i_neg, i_le, i_ge, i_gt, i_lt, i_eq, i_ne, i_intI, i_intB, i_abs, i_max, i_min, i_lenL, i_lenT, i_ixL, i_ixT, i_tupL, i_tupT, i_truB, Bool.not_true, Bool.not_false, Bool.false_eq_true, if_true, if_false, reduceIte]
      refine ⟨by rw [List.length_map]; exact Nat.lt_of_le_of_lt (show f.length ≤ 14 by omega) (by decide), ?_⟩
      have ef : f.map PyData.int ++ [.int (ldF 200 x 2)] = (f ++ [ldF 200 x 2]).map .int := by rw [List.map_append]; rfl
      rw [ef]
      refine strip_ok hge (by omega) (t := stF 14 x (ldF 200 x 2)) ?_ x x1 x3 rfl
      refine ⟨m, by omega, stF 14 x (ldF 200 x 2), f ++ [ldF 200 x 2], _, trivial, s2, by omega, by omega, by rw [List.length_append, List.length_singleton]; omega, ?_, rfl⟩
      rw [← hx, epd, List.append_assoc]; rfl
    · rw [if_neg (by simpa using h1)]
      have epd : pdF (m + 1) x = [] := by
        show (if 1 < x then _ else _) = _
        rw [if_neg h1]
      rw [epd, List.append_nil] at hx
      rw [hx]; exact q
theorem pd_pos : ∀ (k : Nat) (n : Int), ∀ d ∈ pdF k n, 2 ≤ d
  | 0, n, d, h => by cases h
  | k + 1, n, d, h => by
    have h' : d ∈ (if 1 < n then ldF 200 n 2 :: pdF k (stF 14 n (ldF 200 n 2)) else []) := h
    by_cases h1 : 1 < n
    · rw [if_pos h1] at h'
      rcases List.mem_cons.mp h' with rfl | h2
      · exact ld_ge2 n h1
      · exact pd_pos k _ d h2
    · rw [if_neg h1] at h'; cases h'
theorem pd_le : ∀ (k : Nat) (n : Int), ∀ d ∈ pdF k n, d ≤ n
  | 0, n, d, h => by cases h
  | k + 1, n, d, h => by
    have h' : d ∈ (if 1 < n then ldF 200 n 2 :: pdF k (stF 14 n (ldF 200 n 2)) else []) := h
    by_cases h1 : 1 < n
    · rw [if_pos h1] at h'
      rcases List.mem_cons.mp h' with rfl | h2
      · exact ld_le n h1
      · have h3 := pd_le k _ d h2
        have h4 := (st_half (ld_ge2 n h1) (by omega) (ld_dvd 200 n 2))
        omega
    · rw [if_neg h1] at h'; cases h'
theorem pd_len : ∀ (k : Nat) (n : Int), (pdF k n).length ≤ k
  | 0, n => Nat.le_refl _
  | k + 1, n => by
    show (if 1 < n then ldF 200 n 2 :: pdF k (stF 14 n (ldF 200 n 2)) else []).length ≤ k + 1
    split
    · rw [List.length_cons]; have := pd_len k (stF 14 n (ldF 200 n 2)); omega
    · exact Nat.zero_le _
theorem dAll_map {α : Type} {xs : List α} {f : α → Bool} {z : D} : dAll [.list (xs.map fun x => .bool (f x))] z ↔ z = .bool (xs.all f) := by
  have inj : ∀ as bs : List Bool, as.map PyData.bool = bs.map PyData.bool → as = bs := fun as => by
    induction as with
    | nil => intro bs h; cases bs with
      | nil => rfl
      | cons _ _ => cases h
    | cons a as ih => intro bs h; cases bs with
      | nil => cases h
      | cons b bs =>
        simp only [List.map_cons, List.cons.injEq, PyData.bool.injEq] at h
        rw [h.1, ih _ h.2]
  constructor
  · rintro ⟨bs, h, rfl⟩
    have h1 : xs.map (fun x => PyData.bool (f x)) = bs.map .bool := by
      injection h with h _
      injection h
    have h2 := inj (xs.map f) bs (by rw [List.map_map]; exact h1)
    rw [← h2, List.all_map]
    rfl
  · rintro rfl
    exact ⟨xs.map f, by rw [List.map_map]; rfl, by rw [List.all_map]; rfl⟩
theorem pu_is_root (ds Q) (hl : ds.length = 2) (h : wf_is_root ds Q) : ws_is_root (edP Q) (enP N_is_root ds) := by
  obtain ⟨p, l, rfl, p1, p2, l1, l2, q⟩ := h
  have hlen : (pdF 14 (p - 1)).length ≤ sizeLine := Nat.le_trans (pd_len 14 _) (by decide)
  unfold ws_is_root
  (try dsimp only); rw [wSeq_eq]; simp only [N_is_root, wVar, wC, wOp, wUn, wCl, wB, wTr, wAnd, wOr, wNot, wAndV, wOrV, wNotV, wIf, wCh, wNil, wCons, wTup, wLe, wSz, wFn, wFnJ, wNext, wRet, wRetN, wDrop, wIfS, wSet, wSetOwn, wNever, wAug, wOpO, wOpR, wClO, wApp, wSetIt, wFrz, wFor, wRg1, wRg2, wSq, wEnum, wZip, wgN, wgT, wgNil, wgCons, wYes, wAsgT, wgLs, wLenS, wIxS, wFnS, wIsi, wListOf, wRev, edP, edJ, enP, enJ, enS, NotOwn, Flat, List.map_cons, List.map_nil, List.length_cons, List.length_nil, List.replicate_succ, List.replicate_zero, List.cons_append, List.nil_append, List.append_nil, List.set_cons_zero, List.set_cons_succ, List.getElem?_cons_zero, List.getElem?_cons_succ, Nat.reduceAdd, Nat.reduceSub, Option.some.injEq, Sl.imm.injEq, Sl.own.injEq, Sl.scr.injEq, exists_eq_left, exists_eq_left', exists_eq_right, exists_eq, exists_eq', exists_and_left, and_assoc, and_true, true_and, ne_eq, not_false_eq_true, Nat.succ_ne_zero, or_true, true_or, true_implies, forall_eq', forall_eq, PyData.int.injEq, PyData.bool.injEq, PyData.list.injEq, PyData.tuple.injEq, List.cons.injEq, i_add, i_iadd, i_sub, i_mul, i_mod, i_fdiv, i_fdivG, i_pow, i_neg, i_le, i_ge, i_gt, i_lt, i_eq, i_ne, i_intI, i_intB, i_abs, i_max, i_min, i_lenL, i_lenT, i_ixL, i_ixT, i_tupL, i_tupT, i_truB, Bool.not_true, Bool.not_false, Bool.false_eq_true, if_true, if_false, reduceIte]
  refine lcY (e1 := [.imm (.int p), .imm (.int l), .un, .un, .un]) (X := PyData.int) (f := fun d => .int ((p - 1).fdiv d)) (xs := pdF 14 (p - 1)) (fun d => [.imm (.int p), .imm (.int l), .un, .imm (.int d), .un]) (by decide) (fun Q q => ?_) (no1 trivial) hlen (fun x => rfl) (fun d hd Q q => ?_) (fun d hd Q q => ?_) ?_
  · simp only [wVar, wC, wOp, wUn, wCl, wB, wTr, wAnd, wOr, wNot, wAndV, wOrV, wNotV, wIf, wCh, wNil, wCons, wTup, wLe, wSz, wFn, wFnJ, wNext, wRet, wRetN, wDrop, wIfS, wSet, wSetOwn, wNever, wAug, wOpO, wOpR, wClO, wApp, wSetIt, wFrz, wFor, wRg1, wRg2, wSq, wEnum, wZip, wgN, wgT, wgNil, wgCons, wYes, wAsgT, wgLs, wLenS, wIxS, wFnS, wIsi, wListOf, wRev, edP, edJ, enP, enJ, enS, NotOwn, Flat, List.map_cons, List.map_nil, List.length_cons, List.length_nil, List.replicate_succ, List.replicate_zero, List.cons_append, List.nil_append, List.append_nil, List.set_cons_zero, List.set_cons_succ, List.getElem?_cons_zero, List.getElem?_cons_succ, Nat.reduceAdd, Nat.reduceSub, Option.some.injEq, Sl.imm.injEq, Sl.own.injEq, Sl.scr.injEq, exists_eq_left, exists_eq_left', exists_eq_right, exists_eq, exists_eq', exists_and_left, and_assoc, and_true, true_and, ne_eq, not_false_eq_true, Nat.succ_ne_zero, or_true, true_or, true_implies, forall_eq', forall_eq, PyData.int.injEq, PyData.bool.injEq, PyData.list.injEq, PyData.tuple.injEq, List.cons.injEq, i_add, i_iadd, i_sub, i_mul, i_mod, i_fdiv, i_fdivG, i_pow, i_neg, i_le, i_ge, i_gt, i_lt, i_eq, i_ne, i_intI, i_intB, i_abs, i_max, i_min, i_lenL, i_lenT, i_ixL, i_ixT, i_tupL, i_tupT, i_truB, Bool.not_true, Bool.not_false, Bool.false_eq_true, if_true, if_false, reduceIte]
    exact ⟨p - 1, rfl, by omega, by omega, _, Or.inl rfl, q⟩
  · simp only [wip, wVar, wC, wOp, wUn, wCl, wB, wTr, wAnd, wOr, wNot, wAndV, wOrV, wNotV, wIf, wCh, wNil, wCons, wTup, wLe, wSz, wFn, wFnJ, wNext, wRet, wRetN, wDrop, wIfS, wSet, wSetOwn, wNever, wAug, wOpO, wOpR, wClO, wApp, wSetIt, wFrz, wFor, wRg1, wRg2, wSq, wEnum, wZip, wgN, wgT, wgNil, wgCons, wYes, wAsgT, wgLs, wLenS, wIxS, wFnS, wIsi, wListOf, wRev, edP, edJ, enP, enJ, enS, NotOwn, Flat, List.map_cons, List.map_nil, List.length_cons, List.length_nil, List.replicate_succ, List.replicate_zero, List.cons_append, List.nil_append, List.append_nil, List.set_cons_zero, List.set_cons_succ, List.getElem?_cons_zero, List.getElem?_cons_succ, Nat.reduceAdd, Nat.reduceSub, Option.some.injEq, Sl.imm.injEq, Sl.own.injEq, Sl.scr.injEq, exists_eq_left, exists_eq_left', exists_eq_right, exists_eq, exists_eq', exists_and_left, and_assoc, and_true, true_and, ne_eq, not_false_eq_true, Nat.succ_ne_zero, or_true, true_or, true_implies, forall_eq', forall_eq, PyData.int.injEq, PyData.bool.injEq, PyData.list.injEq, PyData.tuple.injEq, List.cons.injEq, i_add, i_iadd, i_sub, i_mul, i_mod, i_fdiv, i_fdivG, i_pow, i_neg, i_le, i_ge, i_gt, i_lt, i_eq, i_ne, i_intI, i_intB, i_abs, i_max, i_min, i_lenL, i_lenT, i_ixL, i_ixT, i_tupL, i_tupT, i_truB, Bool.not_true, Bool.not_false, Bool.false_eq_true, if_true, if_false, reduceIte]
    exact q
  · simp only [wVar, wC, wOp, wUn, wCl, wB, wTr, wAnd, wOr, wNot, wAndV, wOrV, wNotV, wIf, wCh, wNil, wCons, wTup, wLe, wSz, wFn, wFnJ, wNext, wRet, wRetN, wDrop, wIfS, wSet, wSetOwn, wNever, wAug, wOpO, wOpR, wClO, wApp, wSetIt, wFrz, wFor, wRg1, wRg2, wSq, wEnum, wZip, wgN, wgT, wgNil, wgCons, wYes, wAsgT, wgLs, wLenS, wIxS, wFnS, wIsi, wListOf, wRev, edP, edJ, enP, enJ, enS, NotOwn, Flat, List.map_cons, List.map_nil, List.length_cons, List.length_nil, List.replicate_succ, List.replicate_zero, List.cons_append, List.nil_append, List.append_nil, List.set_cons_zero, List.set_cons_succ, List.getElem?_cons_zero, List.getElem?_cons_succ, Nat.reduceAdd, Nat.reduceSub, Option.some.injEq, Sl.imm.injEq, Sl.own.injEq, Sl.scr.injEq, exists_eq_left, exists_eq_left', exists_eq_right, exists_eq, exists_eq', exists_and_left, and_assoc, and_true, true_and, ne_eq, not_false_eq_true, Nat.succ_ne_zero, or_true, true_or, true_implies, forall_eq', forall_eq, PyData.int.injEq, PyData.bool.injEq, PyData.list.injEq, PyData.tuple.injEq, List.cons.injEq, i_add, i_iadd, i_sub, i_mul, i_mod, i_fdiv, i_fdivG, i_pow, i_neg, i_le, i_ge, i_gt, i_lt, i_eq, i_ne, i_intI, i_intB, i_abs, i_max, i_min, i_lenL, i_lenT, i_ixL, i_ixT, i_tupL, i_tupT, i_truB, Bool.not_true, Bool.not_false, Bool.false_eq_true, if_true, if_false, reduceIte]
    have h2 := pd_pos 14 _ d hd
    exact ⟨divG (by omega) (log_lt (by omega) (by have := pd_le 14 (p - 1) d hd; omega)), q⟩
  simp only [wVar, wC, wOp, wUn, wCl, wB, wTr, wAnd, wOr, wNot, wAndV, wOrV, wNotV, wIf, wCh, wNil, wCons, wTup, wLe, wSz, wFn, wFnJ, wNext, wRet, wRetN, wDrop, wIfS, wSet, wSetOwn, wNever, wAug, wOpO, wOpR, wClO, wApp, wSetIt, wFrz, wFor, wRg1, wRg2, wSq, wEnum, wZip, wgN, wgT, wgNil, wgCons, wYes, wAsgT, wgLs, wLenS, wIxS, wFnS, wIsi, wListOf, wRev, edP, edJ, enP, enJ, enS, NotOwn, Flat, List.map_cons, List.map_nil, List.length_cons, List.length_nil, List.replicate_succ, List.replicate_zero, List.cons_append, List.nil_append, List.append_nil, List.set_cons_zero, List.set_cons_succ, List.getElem?_cons_zero, List.getElem?_cons_succ, Nat.reduceAdd, Nat.reduceSub, Option.some.injEq, Sl.imm.injEq, Sl.own.injEq, Sl.scr.injEq, exists_eq_left, exists_eq_left', exists_eq_right, exists_eq, exists_eq', exists_and_left, and_assoc, and_true, true_and, ne_eq, not_false_eq_true, Nat.succ_ne_zero, or_true, true_or, true_implies, forall_eq', forall_eq, PyData.int.injEq, PyData.bool.injEq, PyData.list.injEq, PyData.tuple.injEq, List.cons.injEq, i_add, i_iadd, i_sub, i_mul, i_mod, i_fdiv, i_fdivG, i_pow, i_neg, i_le, i_ge, i_gt, i_lt, i_eq, i_ne, i_intI, i_intB, i_abs, i_max, i_min, i_lenL, i_lenT, i_ixL, i_ixT, i_tupL, i_tupT, i_truB, Bool.not_true, Bool.not_false, Bool.false_eq_true, if_true, if_false, reduceIte]
  have e1 : ((pdF 14 (p - 1)).map fun d => PyData.int ((p - 1).fdiv d)) = ((pdF 14 (p - 1)).map fun d => (p - 1) / d).map .int := by
    rw [List.map_map]
    refine List.map_congr_left fun d hd => ?_
    show PyData.int ((p - 1).fdiv d) = .int ((p - 1) / d)
    rw [fdiv_pos (by have := pd_pos 14 _ d hd; omega)]
  rw [e1]
  refine lcY (e1 := [.imm (.int p), .imm (.int l), .imm (.list (((pdF 14 (p - 1)).map fun d => (p - 1) / d).map .int)), .un, .un]) (X := PyData.int) (f := fun t => .bool (decide (l ^ t.toNat % p ≠ 1))) (xs := (pdF 14 (p - 1)).map fun d => (p - 1) / d) (fun d => [.imm (.int p), .imm (.int l), .imm (.list (((pdF 14 (p - 1)).map fun d => (p - 1) / d).map .int)), .un, .imm (.int d)]) (by decide) (fun Q q => ⟨_, rfl, _, Or.inl rfl, q⟩) (no1 trivial) (by rw [List.length_map]; exact hlen) (fun x => rfl) (fun d hd Q q => ?_) (fun d hd Q q => ?_) ?_
  · simp only [wip, wVar, wC, wOp, wUn, wCl, wB, wTr, wAnd, wOr, wNot, wAndV, wOrV, wNotV, wIf, wCh, wNil, wCons, wTup, wLe, wSz, wFn, wFnJ, wNext, wRet, wRetN, wDrop, wIfS, wSet, wSetOwn, wNever, wAug, wOpO, wOpR, wClO, wApp, wSetIt, wFrz, wFor, wRg1, wRg2, wSq, wEnum, wZip, wgN, wgT, wgNil, wgCons, wYes, wAsgT, wgLs, wLenS, wIxS, wFnS, wIsi, wListOf, wRev, edP, edJ, enP, enJ, enS, NotOwn, Flat, List.map_cons, List.map_nil, List.length_cons, List.length_nil, List.replicate_succ, List.replicate_zero, List.cons_append, List.nil_append, List.append_nil, List.set_cons_zero, List.set_cons_succ, List.getElem?_cons_zero, List.getElem?_cons_succ, Nat.reduceAdd, Nat.reduceSub, Option.some.injEq, Sl.imm.injEq, Sl.own.injEq, Sl.scr.injEq, exists_eq_left, exists_eq_left', exists_eq_right, exists_eq, exists_eq', exists_and_left, and_assoc, and_true, true_and, ne_eq, not_false_eq_true, Nat.succ_ne_zero, or_true, true_or, true_implies, forall_eq', forall_eq, PyData.int.injEq, PyData.bool.injEq, PyData.list.injEq, PyData.tuple.injEq, List.cons.injEq, i_add, i_iadd, i_sub, i_mul, i_mod, i_fdiv, i_fdivG, i_pow, i_neg, i_le, i_ge, i_gt, i_lt, i_eq, i_ne, i_intI, i_intB, i_abs, i_max, i_min, i_lenL, i_lenT, i_ixL, i_ixT, i_tupL, i_tupT, i_truB, Bool.not_true, Bool.not_false, Bool.false_eq_true, if_true, if_false, reduceIte]
    exact q
  · simp only [wVar, wC, wOp, wUn, wCl, wB, wTr, wAnd, wOr, wNot, wAndV, wOrV, wNotV, wIf, wCh, wNil, wCons, wTup, wLe, wSz, wFn, wFnJ, wNext, wRet, wRetN, wDrop, wIfS, wSet, wSetOwn, wNever, wAug, wOpO, wOpR, wClO, wApp, wSetIt, wFrz, wFor, wRg1, wRg2, wSq, wEnum, wZip, wgN, wgT, wgNil, wgCons, wYes, wAsgT, wgLs, wLenS, wIxS, wFnS, wIsi, wListOf, wRev, edP, edJ, enP, enJ, enS, NotOwn, Flat, List.map_cons, List.map_nil, List.length_cons, List.length_nil, List.replicate_succ, List.replicate_zero, List.cons_append, List.nil_append, List.append_nil, List.set_cons_zero, List.set_cons_succ, List.getElem?_cons_zero, List.getElem?_cons_succ, Nat.reduceAdd, Nat.reduceSub, Option.some.injEq, Sl.imm.injEq, Sl.own.injEq, Sl.scr.injEq, exists_eq_left, exists_eq_left', exists_eq_right, exists_eq, exists_eq', exists_and_left, and_assoc, and_true, true_and, ne_eq, not_false_eq_true, Nat.succ_ne_zero, or_true, true_or, true_implies, forall_eq', forall_eq, PyData.int.injEq, PyData.bool.injEq, PyData.list.injEq, PyData.tuple.injEq, List.cons.injEq, i_add, i_iadd, i_sub, i_mul, i_mod, i_fdiv, i_fdivG, i_pow, i_neg, i_le, i_ge, i_gt, i_lt, i_eq, i_ne, i_intI, i_intB, i_abs, i_max, i_min, i_lenL, i_lenT, i_ixL, i_ixT, i_tupL, i_tupT, i_truB, Bool.not_true, Bool.not_false, Bool.false_eq_true, if_true, if_false, reduceIte]
    obtain ⟨d0, hd0, rfl⟩ := List.mem_map.mp hd
    have h0 : 0 ≤ (p - 1) / d0 := Int.ediv_nonneg (by omega) (by have := pd_pos 14 _ d0 hd0; omega)
    refine ⟨p, l, ((p - 1) / d0).toNat, by rw [show ((((p - 1) / d0).toNat : Nat) : Int) = (p - 1) / d0 by omega], p1, p2, l1, l2, _, i_ne.mpr rfl, q⟩
  refine ⟨_, dAll_map.mpr rfl, ?_⟩
  rw [List.all_map]
  exact q
end K01

set_option Elab.async false
set_option linter.all false
set_option maxRecDepth 100000
set_option maxHeartbeats 4000000
namespace K01
open PySem PySem.Spec PyProof.Rows L2 Pd
theorem due_loop {g m c : Int} {d1 : D} {n : Int} {R : Ed} (n1 : 0 ≤ n) (n2 : n ≤ 9973) (q : R.nx [.own [.int g, .int m, .int c], .imm d1, .imm (.int n), .imm (.int (npF (9973 - n).toNat n)), .un]) :
    wWhile (wNot (wTr (wFn 1 wf__law_is_prime (wCons (wVar 3) wNil)))) (wSet 3 (wOp dAdd (wVar 3) (wC (.int 1)))) R [.own [.int g, .int m, .int c], .imm d1, .imm (.int n), .imm (.int n), .un] := by
  rw [wWhile_eq]
  refine ⟨fun k e => ∃ f : Int, f ≤ 9973 ∧ k = (9973 - f).toNat ∧ npF (9973 - f).toNat f = npF (9973 - n).toNat n ∧ e = [.own [.int g, .int m, .int c], .imm d1, .imm (.int n), .imm (.int f), .un], ⟨(9973 - n).toNat, n, n2, rfl, rfl, rfl⟩, ?_⟩
  rintro k e ⟨f, hf, rfl, hn, rfl⟩
  simp only [wf__law_is_prime, wVar, wC, wOp, wUn, wCl, wB, wTr, wAnd, wOr, wNot, wAndV, wOrV, wNotV, wIf, wCh, wNil, wCons, wTup, wLe, wSz, wFn, wFnJ, wNext, wSeq, wRet, wRetN, wDrop, wIfS, wSet, wSetOwn, wNever, wAug, wOpO, wOpR, wClO, wApp, wSetIt, wFrz, wFor, wRg1, wRg2, wSq, wEnum, wZip, wgN, wgT, wgNil, wgCons, wYes, wAsgT, wgLs, wLenS, wIxS, wFnS, wIsi, wListOf, wRev, edP, edJ, enP, enJ, enS, NotOwn, Flat, List.map_cons, List.map_nil, List.length_cons, List.length_nil, List.replicate_succ, List.replicate_zero, List.cons_append, List.nil_append, List.append_nil, List.set_cons_zero, List.set_cons_succ, List.getElem?_cons_zero, List.getElem?_cons_succ, Nat.reduceAdd, Nat.reduceSub, Option.some.injEq, Sl.imm.injEq, Sl.own.injEq, Sl.scr.injEq, exists_eq_left, exists_eq_left', exists_eq_right, exists_eq, exists_eq', exists_and_left, and_assoc, and_true, true_and, ne_eq, not_false_eq_true, Nat.succ_ne_zero, or_true, true_or, true_implies, forall_eq', forall_eq, PyData.int.injEq, PyData.bool.injEq, PyData.list.injEq, PyData.tuple.injEq, List.cons.injEq, i_add, i_iadd, i_sub, i_mul, i_mod, i_fdiv, i_fdivG, i_pow, i_neg, i_le, i_ge, i_gt, i_lt, i_eq, i_ne, i_intI, i_intB, i_abs, i_max, i_min, i_lenL, i_lenT, i_ixL, i_ixT, i_tupL, i_tupT, i_truB, Bool.not_true, Bool.not_false, Bool.false_eq_true, if_true, if_false, reduceIte]
  refine ⟨hf, ?_⟩
  by_cases hp' : isP f = true
  · rw [if_neg (by rw [hp']; decide)]
    rw [np_here hp'] at hn
    rw [hn]; exact q
  · have hp : isP f = false := by simpa using hp'
    rw [if_pos (by rw [hp]; rfl)]
    have hne : f ≠ 9973 := fun e => by rw [e, p9973] at hp; cases hp
    have e1 : (9973 - f).toNat = (9973 - (f + 1)).toNat + 1 := by omega
    refine ⟨_, by omega, f + 1, by omega, rfl, ?_, rfl⟩
    rw [← hn, e1, np_step hp]
theorem pu__law_numbers_right (dj ds Q) (hl : ds.length + 1 = 1) (h : wf__law_numbers_right dj ds Q) : ws__law_numbers_right (edJ Q) (enJ N__law_numbers_right dj ds) := by
  obtain ⟨g, m, c, rfl, rfl, fin⟩ := h
  unfold ws__law_numbers_right
  (try dsimp only); rw [wSeq_eq]; simp only [N__law_numbers_right, wf__law_pour, wVar, wC, wOp, wUn, wCl, wB, wTr, wAnd, wOr, wNot, wAndV, wOrV, wNotV, wIf, wCh, wNil, wCons, wTup, wLe, wSz, wFn, wFnJ, wNext, wRet, wRetN, wDrop, wIfS, wSet, wSetOwn, wNever, wAug, wOpO, wOpR, wClO, wApp, wSetIt, wFrz, wFor, wRg1, wRg2, wSq, wEnum, wZip, wgN, wgT, wgNil, wgCons, wYes, wAsgT, wgLs, wLenS, wIxS, wFnS, wIsi, wListOf, wRev, edP, edJ, enP, enJ, enS, NotOwn, Flat, List.map_cons, List.map_nil, List.length_cons, List.length_nil, List.replicate_succ, List.replicate_zero, List.cons_append, List.nil_append, List.append_nil, List.set_cons_zero, List.set_cons_succ, List.getElem?_cons_zero, List.getElem?_cons_succ, Nat.reduceAdd, Nat.reduceSub, Option.some.injEq, Sl.imm.injEq, Sl.own.injEq, Sl.scr.injEq, exists_eq_left, exists_eq_left', exists_eq_right, exists_eq, exists_eq', exists_and_left, and_assoc, and_true, true_and, ne_eq, not_false_eq_true, Nat.succ_ne_zero, or_true, true_or, true_implies, forall_eq', forall_eq, PyData.int.injEq, PyData.bool.injEq, PyData.list.injEq, PyData.tuple.injEq, List.cons.injEq, i_add, i_iadd, i_sub, i_mul, i_mod, i_fdiv, i_fdivG, i_pow, i_neg, i_le, i_ge, i_gt, i_lt, i_eq, i_ne, i_intI, i_intB, i_abs, i_max, i_min, i_lenL, i_lenT, i_ixL, i_ixT, i_tupL, i_tupT, i_truB, Bool.not_true, Bool.not_false, Bool.false_eq_true, if_true, if_false, reduceIte]
  refine ⟨by decide, log_lt (by decide) (by decide), fun r g m c r1 r2 => ⟨⟨by decide, ?_⟩, ?_⟩⟩
  · have := intBits_le_64 (show -(2 ^ 64) < r by omega) (show r < 2 ^ 64 by omega)
    omega
  have hs : 0 ≤ r ^ Int.toNat 2 := by
    show 0 ≤ r ^ 2
    rw [Int.pow_succ, Int.pow_succ, Int.pow_zero, Int.one_mul]; exact Int.mul_nonneg r1 r1
  (try dsimp only); rw [wSeq_eq]; simp only [wf__law_sip, wf__law_pour, wVar, wC, wOp, wUn, wCl, wB, wTr, wAnd, wOr, wNot, wAndV, wOrV, wNotV, wIf, wCh, wNil, wCons, wTup, wLe, wSz, wFn, wFnJ, wNext, wRet, wRetN, wDrop, wIfS, wSet, wSetOwn, wNever, wAug, wOpO, wOpR, wClO, wApp, wSetIt, wFrz, wFor, wRg1, wRg2, wSq, wEnum, wZip, wgN, wgT, wgNil, wgCons, wYes, wAsgT, wgLs, wLenS, wIxS, wFnS, wIsi, wListOf, wRev, edP, edJ, enP, enJ, enS, NotOwn, Flat, List.map_cons, List.map_nil, List.length_cons, List.length_nil, List.replicate_succ, List.replicate_zero, List.cons_append, List.nil_append, List.append_nil, List.set_cons_zero, List.set_cons_succ, List.getElem?_cons_zero, List.getElem?_cons_succ, Nat.reduceAdd, Nat.reduceSub, Option.some.injEq, Sl.imm.injEq, Sl.own.injEq, Sl.scr.injEq, exists_eq_left, exists_eq_left', exists_eq_right, exists_eq, exists_eq', exists_and_left, and_assoc, and_true, true_and, ne_eq, not_false_eq_true, Nat.succ_ne_zero, or_true, true_or, true_implies, forall_eq', forall_eq, PyData.int.injEq, PyData.bool.injEq, PyData.list.injEq, PyData.tuple.injEq, List.cons.injEq, i_add, i_iadd, i_sub, i_mul, i_mod, i_fdiv, i_fdivG, i_pow, i_neg, i_le, i_ge, i_gt, i_lt, i_eq, i_ne, i_intI, i_intB, i_abs, i_max, i_min, i_lenL, i_lenT, i_ixL, i_ixT, i_tupL, i_tupT, i_truB, Bool.not_true, Bool.not_false, Bool.false_eq_true, if_true, if_false, reduceIte]
  refine ⟨by decide, log_lt (by decide) (by decide), fun a g m c a1 a2 => ⟨by decide, log_lt (by decide) (by decide), fun b g m c b1 b2 => ⟨by decide, log_lt (by decide) (by decide), fun d g m c d1 d2 => ⟨by decide, by simp, by decide, fun x hx g m c => ?_⟩⟩⟩⟩
  have hx2 : ∃ y : Int, x = .int y ∧ 0 ≤ y := by
    simp only [List.mem_cons, List.not_mem_nil, or_false] at hx
    rcases hx with rfl | rfl | rfl | rfl
    · exact ⟨_, rfl, a1⟩
    · exact ⟨_, rfl, b1⟩
    · exact ⟨_, rfl, by omega⟩
    · exact ⟨_, rfl, hs⟩
  obtain ⟨y, rfl, hy⟩ := hx2
  simp only [wVar, wC, wOp, wUn, wCl, wB, wTr, wAnd, wOr, wNot, wAndV, wOrV, wNotV, wIf, wCh, wNil, wCons, wTup, wLe, wSz, wFn, wFnJ, wNext, wRet, wRetN, wDrop, wIfS, wSet, wSetOwn, wNever, wAug, wOpO, wOpR, wClO, wApp, wSetIt, wFrz, wFor, wRg1, wRg2, wSq, wEnum, wZip, wgN, wgT, wgNil, wgCons, wYes, wAsgT, wgLs, wLenS, wIxS, wFnS, wIsi, wListOf, wRev, edP, edJ, enP, enJ, enS, NotOwn, Flat, List.map_cons, List.map_nil, List.length_cons, List.length_nil, List.replicate_succ, List.replicate_zero, List.cons_append, List.nil_append, List.append_nil, List.set_cons_zero, List.set_cons_succ, List.getElem?_cons_zero, List.getElem?_cons_succ, Nat.reduceAdd, Nat.reduceSub, Option.some.injEq, Sl.imm.injEq, Sl.own.injEq, Sl.scr.injEq, exists_eq_left, exists_eq_left', exists_eq_right, exists_eq, exists_eq', exists_and_left, and_assoc, and_true, true_and, ne_eq, not_false_eq_true, Nat.succ_ne_zero, or_true, true_or, true_implies, forall_eq', forall_eq, PyData.int.injEq, PyData.bool.injEq, PyData.list.injEq, PyData.tuple.injEq, List.cons.injEq, i_add, i_iadd, i_sub, i_mul, i_mod, i_fdiv, i_fdivG, i_pow, i_neg, i_le, i_ge, i_gt, i_lt, i_eq, i_ne, i_intI, i_intB, i_abs, i_max, i_min, i_lenL, i_lenT, i_ixL, i_ixT, i_tupL, i_tupT, i_truB, Bool.not_true, Bool.not_false, Bool.false_eq_true, if_true, if_false, reduceIte]
  obtain ⟨n, hn, n1, n2⟩ : ∃ n : Int, (if y < 9973 then y else 9973) = n ∧ 0 ≤ n ∧ n ≤ 9973 := ⟨_, rfl, by split <;> omega, by split <;> omega⟩
  rw [hn]
  (try dsimp only); rw [wSeq_eq]; simp only [wVar, wC, wOp, wUn, wCl, wB, wTr, wAnd, wOr, wNot, wAndV, wOrV, wNotV, wIf, wCh, wNil, wCons, wTup, wLe, wSz, wFn, wFnJ, wNext, wRet, wRetN, wDrop, wIfS, wSet, wSetOwn, wNever, wAug, wOpO, wOpR, wClO, wApp, wSetIt, wFrz, wFor, wRg1, wRg2, wSq, wEnum, wZip, wgN, wgT, wgNil, wgCons, wYes, wAsgT, wgLs, wLenS, wIxS, wFnS, wIsi, wListOf, wRev, edP, edJ, enP, enJ, enS, NotOwn, Flat, List.map_cons, List.map_nil, List.length_cons, List.length_nil, List.replicate_succ, List.replicate_zero, List.cons_append, List.nil_append, List.append_nil, List.set_cons_zero, List.set_cons_succ, List.getElem?_cons_zero, List.getElem?_cons_succ, Nat.reduceAdd, Nat.reduceSub, Option.some.injEq, Sl.imm.injEq, Sl.own.injEq, Sl.scr.injEq, exists_eq_left, exists_eq_left', exists_eq_right, exists_eq, exists_eq', exists_and_left, and_assoc, and_true, true_and, ne_eq, not_false_eq_true, Nat.succ_ne_zero, or_true, true_or, true_implies, forall_eq', forall_eq, PyData.int.injEq, PyData.bool.injEq, PyData.list.injEq, PyData.tuple.injEq, List.cons.injEq, i_add, i_iadd, i_sub, i_mul, i_mod, i_fdiv, i_fdivG, i_pow, i_neg, i_le, i_ge, i_gt, i_lt, i_eq, i_ne, i_intI, i_intB, i_abs, i_max, i_min, i_lenL, i_lenT, i_ixL, i_ixT, i_tupL, i_tupT, i_truB, Bool.not_true, Bool.not_false, Bool.false_eq_true, if_true, if_false, reduceIte]
  (try dsimp only); rw [wSeq_eq]; simp only [wVar, wC, wOp, wUn, wCl, wB, wTr, wAnd, wOr, wNot, wAndV, wOrV, wNotV, wIf, wCh, wNil, wCons, wTup, wLe, wSz, wFn, wFnJ, wNext, wRet, wRetN, wDrop, wIfS, wSet, wSetOwn, wNever, wAug, wOpO, wOpR, wClO, wApp, wSetIt, wFrz, wFor, wRg1, wRg2, wSq, wEnum, wZip, wgN, wgT, wgNil, wgCons, wYes, wAsgT, wgLs, wLenS, wIxS, wFnS, wIsi, wListOf, wRev, edP, edJ, enP, enJ, enS, NotOwn, Flat, List.map_cons, List.map_nil, List.length_cons, List.length_nil, List.replicate_succ, List.replicate_zero, List.cons_append, List.nil_append, List.append_nil, List.set_cons_zero, List.set_cons_succ, List.getElem?_cons_zero, List.getElem?_cons_succ, Nat.reduceAdd, Nat.reduceSub, Option.some.injEq, Sl.imm.injEq, Sl.own.injEq, Sl.scr.injEq, exists_eq_left, exists_eq_left', exists_eq_right, exists_eq, exists_eq', exists_and_left, and_assoc, and_true, true_and, ne_eq, not_false_eq_true, Nat.succ_ne_zero, or_true, true_or, true_implies, forall_eq', forall_eq, PyData.int.injEq, PyData.bool.injEq, PyData.list.injEq, PyData.tuple.injEq, List.cons.injEq, i_add, i_iadd, i_sub, i_mul, i_mod, i_fdiv, i_fdivG, i_pow, i_neg, i_le, i_ge, i_gt, i_lt, i_eq, i_ne, i_intI, i_intB, i_abs, i_max, i_min, i_lenL, i_lenT, i_ixL, i_ixT, i_tupL, i_tupT, i_truB, Bool.not_true, Bool.not_false, Bool.false_eq_true, if_true, if_false, reduceIte]
  refine due_loop n1 n2 ?_
  dsimp only
  (try dsimp only); rw [wSeq_eq]; simp only [wf_next_prime, wf_is_prime, isPD, wf__law_is_prime, wVar, wC, wOp, wUn, wCl, wB, wTr, wAnd, wOr, wNot, wAndV, wOrV, wNotV, wIf, wCh, wNil, wCons, wTup, wLe, wSz, wFn, wFnJ, wNext, wRet, wRetN, wDrop, wIfS, wSet, wSetOwn, wNever, wAug, wOpO, wOpR, wClO, wApp, wSetIt, wFrz, wFor, wRg1, wRg2, wSq, wEnum, wZip, wgN, wgT, wgNil, wgCons, wYes, wAsgT, wgLs, wLenS, wIxS, wFnS, wIsi, wListOf, wRev, edP, edJ, enP, enJ, enS, NotOwn, Flat, List.map_cons, List.map_nil, List.length_cons, List.length_nil, List.replicate_succ, List.replicate_zero, List.cons_append, List.nil_append, List.append_nil, List.set_cons_zero, List.set_cons_succ, List.getElem?_cons_zero, List.getElem?_cons_succ, Nat.reduceAdd, Nat.reduceSub, Option.some.injEq, Sl.imm.injEq, Sl.own.injEq, Sl.scr.injEq, exists_eq_left, exists_eq_left', exists_eq_right, exists_eq, exists_eq', exists_and_left, and_assoc, and_true, true_and, ne_eq, not_false_eq_true, Nat.succ_ne_zero, or_true, true_or, true_implies, forall_eq', forall_eq, PyData.int.injEq, PyData.bool.injEq, PyData.list.injEq, PyData.tuple.injEq, List.cons.injEq, i_add, i_iadd, i_sub, i_mul, i_mod, i_fdiv, i_fdivG, i_pow, i_neg, i_le, i_ge, i_gt, i_lt, i_eq, i_ne, i_intI, i_intB, i_abs, i_max, i_min, i_lenL, i_lenT, i_ixL, i_ixT, i_tupL, i_tupT, i_truB, Bool.not_true, Bool.not_false, Bool.false_eq_true, if_true, if_false, reduceIte]
  refine ⟨n1, n2, ?_⟩
  simp only [i_neB, not_true_eq_false, decide_false, beq_self_eq_true, n2, wVar, wC, wOp, wUn, wCl, wB, wTr, wAnd, wOr, wNot, wAndV, wOrV, wNotV, wIf, wCh, wNil, wCons, wTup, wLe, wSz, wFn, wFnJ, wNext, wRet, wRetN, wDrop, wIfS, wSet, wSetOwn, wNever, wAug, wOpO, wOpR, wClO, wApp, wSetIt, wFrz, wFor, wRg1, wRg2, wSq, wEnum, wZip, wgN, wgT, wgNil, wgCons, wYes, wAsgT, wgLs, wLenS, wIxS, wFnS, wIsi, wListOf, wRev, edP, edJ, enP, enJ, enS, NotOwn, Flat, List.map_cons, List.map_nil, List.length_cons, List.length_nil, List.replicate_succ, List.replicate_zero, List.cons_append, List.nil_append, List.append_nil, List.set_cons_zero, List.set_cons_succ, List.getElem?_cons_zero, List.getElem?_cons_succ, Nat.reduceAdd, Nat.reduceSub, Option.some.injEq, Sl.imm.injEq, Sl.own.injEq, Sl.scr.injEq, exists_eq_left, exists_eq_left', exists_eq_right, exists_eq, exists_eq', exists_and_left, and_assoc, and_true, true_and, ne_eq, not_false_eq_true, Nat.succ_ne_zero, or_true, true_or, true_implies, forall_eq', forall_eq, PyData.int.injEq, PyData.bool.injEq, PyData.list.injEq, PyData.tuple.injEq, List.cons.injEq, i_add, i_iadd, i_sub, i_mul, i_mod, i_fdiv, i_fdivG, i_pow, i_neg, i_le, i_ge, i_gt, i_lt, i_eq, i_ne, i_intI, i_intB, i_abs, i_max, i_min, i_lenL, i_lenT, i_ixL, i_ixT, i_tupL, i_tupT, i_truB, Bool.not_true, Bool.not_false, Bool.false_eq_true, if_true, if_false, reduceIte]
  (try dsimp only); rw [wSeq_eq]; simp only [sz0, sz1, sz2, sz3, sz4, sz5, sz6, sz7, sz8, sz9, sz10, sz11, sz12, sz13, sz14, sz15, sz16, sz17, sz18, sz19, sz20, sz21, sz22, sz23, sz24, sz25, sz26, sz27, sz28, sz29, sz30, sz31, sz32, sz33, sz34, sz35, sz36, sz37, sz38, sz39, sz40, wf__law_sip, wDic, wVar, wC, wOp, wUn, wCl, wB, wTr, wAnd, wOr, wNot, wAndV, wOrV, wNotV, wIf, wCh, wNil, wCons, wTup, wLe, wSz, wFn, wFnJ, wNext, wRet, wRetN, wDrop, wIfS, wSet, wSetOwn, wNever, wAug, wOpO, wOpR, wClO, wApp, wSetIt, wFrz, wFor, wRg1, wRg2, wSq, wEnum, wZip, wgN, wgT, wgNil, wgCons, wYes, wAsgT, wgLs, wLenS, wIxS, wFnS, wIsi, wListOf, wRev, edP, edJ, enP, enJ, enS, NotOwn, Flat, List.map_cons, List.map_nil, List.length_cons, List.length_nil, List.replicate_succ, List.replicate_zero, List.cons_append, List.nil_append, List.append_nil, List.set_cons_zero, List.set_cons_succ, List.getElem?_cons_zero, List.getElem?_cons_succ, Nat.reduceAdd, Nat.reduceSub, Option.some.injEq, Sl.imm.injEq, Sl.own.injEq, Sl.scr.injEq, exists_eq_left, exists_eq_left', exists_eq_right, exists_eq, exists_eq', exists_and_left, and_assoc, and_true, true_and, ne_eq, not_false_eq_true, Nat.succ_ne_zero, or_true, true_or, true_implies, forall_eq', forall_eq, PyData.int.injEq, PyData.bool.injEq, PyData.list.injEq, PyData.tuple.injEq, List.cons.injEq, i_add, i_iadd, i_sub, i_mul, i_mod, i_fdiv, i_fdivG, i_pow, i_neg, i_le, i_ge, i_gt, i_lt, i_eq, i_ne, i_intI, i_intB, i_abs, i_max, i_min, i_lenL, i_lenT, i_ixL, i_ixT, i_tupL, i_tupT, i_truB, Bool.not_true, Bool.not_false, Bool.false_eq_true, if_true, if_false, reduceIte]
  refine ⟨pow_ok (by decide +kernel), by simp, by decide, fun x hx g m c => ?_⟩
  have ho : isPD x = false := by
    simp only [List.mem_cons, List.not_mem_nil, or_false] at hx
    rcases hx with rfl | rfl | rfl | rfl | rfl | rfl | rfl | rfl | rfl | rfl | rfl | rfl <;> first | rfl | decide +kernel
  simp only [wf_is_prime, ho, i_isB, wVar, wC, wOp, wUn, wCl, wB, wTr, wAnd, wOr, wNot, wAndV, wOrV, wNotV, wIf, wCh, wNil, wCons, wTup, wLe, wSz, wFn, wFnJ, wNext, wSeq, wRet, wRetN, wDrop, wIfS, wSet, wSetOwn, wNever, wAug, wOpO, wOpR, wClO, wApp, wSetIt, wFrz, wFor, wRg1, wRg2, wSq, wEnum, wZip, wgN, wgT, wgNil, wgCons, wYes, wAsgT, wgLs, wLenS, wIxS, wFnS, wIsi, wListOf, wRev, edP, edJ, enP, enJ, enS, NotOwn, Flat, List.map_cons, List.map_nil, List.length_cons, List.length_nil, List.replicate_succ, List.replicate_zero, List.cons_append, List.nil_append, List.append_nil, List.set_cons_zero, List.set_cons_succ, List.getElem?_cons_zero, List.getElem?_cons_succ, Nat.reduceAdd, Nat.reduceSub, Option.some.injEq, Sl.imm.injEq, Sl.own.injEq, Sl.scr.injEq, exists_eq_left, exists_eq_left', exists_eq_right, exists_eq, exists_eq', exists_and_left, and_assoc, and_true, true_and, ne_eq, not_false_eq_true, Nat.succ_ne_zero, or_true, true_or, true_implies, forall_eq', forall_eq, PyData.int.injEq, PyData.bool.injEq, PyData.list.injEq, PyData.tuple.injEq, List.cons.injEq, i_add, i_iadd, i_sub, i_mul, i_mod, i_fdiv, i_fdivG, i_pow, i_neg, i_le, i_ge, i_gt, i_lt, i_eq, i_ne, i_intI, i_intB, i_abs, i_max, i_min, i_lenL, i_lenT, i_ixL, i_ixT, i_tupL, i_tupT, i_truB, Bool.not_true, Bool.not_false, Bool.false_eq_true, if_true, if_false, reduceIte]
  exact fin g m c
theorem pu__law_letters_right (dj ds Q) (hl : ds.length + 1 = 2) (h : wf__law_letters_right dj ds Q) : ws__law_letters_right (edJ Q) (enJ N__law_letters_right dj ds) := by
  obtain ⟨g, m, c, p, rfl, rfl, hp, hf, fin⟩ := h
  obtain ⟨p1, p2⟩ := isP_le hp
  have hp0 : 0 < p := by omega
  unfold ws__law_letters_right
  (try dsimp only); rw [wSeq_eq]; simp only [N__law_letters_right, wf__law_sip, wf__law_pour, wVar, wC, wOp, wUn, wCl, wB, wTr, wAnd, wOr, wNot, wAndV, wOrV, wNotV, wIf, wCh, wNil, wCons, wTup, wLe, wSz, wFn, wFnJ, wNext, wRet, wRetN, wDrop, wIfS, wSet, wSetOwn, wNever, wAug, wOpO, wOpR, wClO, wApp, wSetIt, wFrz, wFor, wRg1, wRg2, wSq, wEnum, wZip, wgN, wgT, wgNil, wgCons, wYes, wAsgT, wgLs, wLenS, wIxS, wFnS, wIsi, wListOf, wRev, edP, edJ, enP, enJ, enS, NotOwn, Flat, List.map_cons, List.map_nil, List.length_cons, List.length_nil, List.replicate_succ, List.replicate_zero, List.cons_append, List.nil_append, List.append_nil, List.set_cons_zero, List.set_cons_succ, List.getElem?_cons_zero, List.getElem?_cons_succ, Nat.reduceAdd, Nat.reduceSub, Option.some.injEq, Sl.imm.injEq, Sl.own.injEq, Sl.scr.injEq, exists_eq_left, exists_eq_left', exists_eq_right, exists_eq, exists_eq', exists_and_left, and_assoc, and_true, true_and, ne_eq, not_false_eq_true, Nat.succ_ne_zero, or_true, true_or, true_implies, forall_eq', forall_eq, PyData.int.injEq, PyData.bool.injEq, PyData.list.injEq, PyData.tuple.injEq, List.cons.injEq, i_add, i_iadd, i_sub, i_mul, i_mod, i_fdiv, i_fdivG, i_pow, i_neg, i_le, i_ge, i_gt, i_lt, i_eq, i_ne, i_intI, i_intB, i_abs, i_max, i_min, i_lenL, i_lenT, i_ixL, i_ixT, i_tupL, i_tupT, i_truB, Bool.not_true, Bool.not_false, Bool.false_eq_true, if_true, if_false, reduceIte]
  refine ⟨hp0, hp0, log_lt hp0 (by omega), fun a g m c a1 a2 => ⟨hp0, log_lt hp0 (by omega), fun b g m c b1 b2 => ⟨by decide, by simp, by decide, fun x hx g m c => ?_⟩⟩⟩
  have hx2 : ∃ l : Int, x = .int l ∧ 0 ≤ l ∧ l < p := by
    simp only [List.mem_cons, List.not_mem_nil, or_false] at hx
    rcases hx with rfl | rfl | rfl | rfl
    · exact ⟨_, rfl, Int.emod_nonneg _ (by omega), Int.emod_lt_of_pos _ hp0⟩
    · exact ⟨_, rfl, by omega, by omega⟩
    · exact ⟨_, rfl, a1, a2⟩
    · exact ⟨_, rfl, b1, b2⟩
  clear hx
  obtain ⟨l, rfl, l1, l2⟩ := hx2
  (try dsimp only); rw [wSeq_eq]; simp only [wf__law_sip, wf__law_pour, wVar, wC, wOp, wUn, wCl, wB, wTr, wAnd, wOr, wNot, wAndV, wOrV, wNotV, wIf, wCh, wNil, wCons, wTup, wLe, wSz, wFn, wFnJ, wNext, wRet, wRetN, wDrop, wIfS, wSet, wSetOwn, wNever, wAug, wOpO, wOpR, wClO, wApp, wSetIt, wFrz, wFor, wRg1, wRg2, wSq, wEnum, wZip, wgN, wgT, wgNil, wgCons, wYes, wAsgT, wgLs, wLenS, wIxS, wFnS, wIsi, wListOf, wRev, edP, edJ, enP, enJ, enS, NotOwn, Flat, List.map_cons, List.map_nil, List.length_cons, List.length_nil, List.replicate_succ, List.replicate_zero, List.cons_append, List.nil_append, List.append_nil, List.set_cons_zero, List.set_cons_succ, List.getElem?_cons_zero, List.getElem?_cons_succ, Nat.reduceAdd, Nat.reduceSub, Option.some.injEq, Sl.imm.injEq, Sl.own.injEq, Sl.scr.injEq, exists_eq_left, exists_eq_left', exists_eq_right, exists_eq, exists_eq', exists_and_left, and_assoc, and_true, true_and, ne_eq, not_false_eq_true, Nat.succ_ne_zero, or_true, true_or, true_implies, forall_eq', forall_eq, PyData.int.injEq, PyData.bool.injEq, PyData.list.injEq, PyData.tuple.injEq, List.cons.injEq, i_add, i_iadd, i_sub, i_mul, i_mod, i_fdiv, i_fdivG, i_pow, i_neg, i_le, i_ge, i_gt, i_lt, i_eq, i_ne, i_intI, i_intB, i_abs, i_max, i_min, i_lenL, i_lenT, i_ixL, i_ixT, i_tupL, i_tupT, i_truB, Bool.not_true, Bool.not_false, Bool.false_eq_true, if_true, if_false, reduceIte]
  have e9 : (10 : Int) ^ Int.toNat 9 = 1000000000 := by decide +kernel
  rw [e9]
  refine ⟨by decide, log_lt (by decide) (by decide), fun u g m c u1 u2 => ⟨pow_ok (by decide +kernel), by decide, log_lt (by decide) (by decide), fun v g m c v1 v2 => ⟨pow_ok (by decide +kernel), by decide, by simp, by decide, fun x hx g m c => ?_⟩⟩⟩
  have hx2 : ∃ t : Nat, x = .int t ∧ t ≤ 1000000000 := by
    simp only [List.mem_cons, List.not_mem_nil, or_false] at hx
    rcases hx with rfl | rfl | rfl | rfl | rfl | rfl | rfl | rfl
    · exact ⟨0, rfl, by decide⟩
    · exact ⟨1, rfl, by decide⟩
    · exact ⟨2, rfl, by decide⟩
    · exact ⟨(p - 1).toNat, by rw [show (((p - 1).toNat : Nat) : Int) = p - 1 by omega], by omega⟩
    · exact ⟨p.toNat, by rw [show ((p.toNat : Nat) : Int) = p by omega], by omega⟩
    · exact ⟨u.toNat, by rw [show ((u.toNat : Nat) : Int) = u by omega], by omega⟩
    · exact ⟨v.toNat, by rw [show ((v.toNat : Nat) : Int) = v by omega], by omega⟩
    · exact ⟨1000000000, rfl, Nat.le_refl _⟩
  clear hx
  obtain ⟨t, rfl, ht⟩ := hx2
  (try dsimp only); rw [wSeq_eq]; simp only [wVar, wC, wOp, wUn, wCl, wB, wTr, wAnd, wOr, wNot, wAndV, wOrV, wNotV, wIf, wCh, wNil, wCons, wTup, wLe, wSz, wFn, wFnJ, wNext, wRet, wRetN, wDrop, wIfS, wSet, wSetOwn, wNever, wAug, wOpO, wOpR, wClO, wApp, wSetIt, wFrz, wFor, wRg1, wRg2, wSq, wEnum, wZip, wgN, wgT, wgNil, wgCons, wYes, wAsgT, wgLs, wLenS, wIxS, wFnS, wIsi, wListOf, wRev, edP, edJ, enP, enJ, enS, NotOwn, Flat, List.map_cons, List.map_nil, List.length_cons, List.length_nil, List.replicate_succ, List.replicate_zero, List.cons_append, List.nil_append, List.append_nil, List.set_cons_zero, List.set_cons_succ, List.getElem?_cons_zero, List.getElem?_cons_succ, Nat.reduceAdd, Nat.reduceSub, Option.some.injEq, Sl.imm.injEq, Sl.own.injEq, Sl.scr.injEq, exists_eq_left, exists_eq_left', exists_eq_right, exists_eq, exists_eq', exists_and_left, and_assoc, and_true, true_and, ne_eq, not_false_eq_true, Nat.succ_ne_zero, or_true, true_or, true_implies, forall_eq', forall_eq, PyData.int.injEq, PyData.bool.injEq, PyData.list.injEq, PyData.tuple.injEq, List.cons.injEq, i_add, i_iadd, i_sub, i_mul, i_mod, i_fdiv, i_fdivG, i_pow, i_neg, i_le, i_ge, i_gt, i_lt, i_eq, i_ne, i_intI, i_intB, i_abs, i_max, i_min, i_lenL, i_lenT, i_ixL, i_ixT, i_tupL, i_tupT, i_truB, Bool.not_true, Bool.not_false, Bool.false_eq_true, if_true, if_false, reduceIte]
  refine ⟨p, l, t, rfl, hp, l1, l2, ht, p, l, t, rfl, p1, p2, l1, l2, Nat.lt_of_le_of_lt ht (by decide), _, i_ne.mpr rfl, ?_⟩
  simp only [not_true_eq_false, decide_false, wVar, wC, wOp, wUn, wCl, wB, wTr, wAnd, wOr, wNot, wAndV, wOrV, wNotV, wIf, wCh, wNil, wCons, wTup, wLe, wSz, wFn, wFnJ, wNext, wRet, wRetN, wDrop, wIfS, wSet, wSetOwn, wNever, wAug, wOpO, wOpR, wClO, wApp, wSetIt, wFrz, wFor, wRg1, wRg2, wSq, wEnum, wZip, wgN, wgT, wgNil, wgCons, wYes, wAsgT, wgLs, wLenS, wIxS, wFnS, wIsi, wListOf, wRev, edP, edJ, enP, enJ, enS, NotOwn, Flat, List.map_cons, List.map_nil, List.length_cons, List.length_nil, List.replicate_succ, List.replicate_zero, List.cons_append, List.nil_append, List.append_nil, List.set_cons_zero, List.set_cons_succ, List.getElem?_cons_zero, List.getElem?_cons_succ, Nat.reduceAdd, Nat.reduceSub, Option.some.injEq, Sl.imm.injEq, Sl.own.injEq, Sl.scr.injEq, exists_eq_left, exists_eq_left', exists_eq_right, exists_eq, exists_eq', exists_and_left, and_assoc, and_true, true_and, ne_eq, not_false_eq_true, Nat.succ_ne_zero, or_true, true_or, true_implies, forall_eq', forall_eq, PyData.int.injEq, PyData.bool.injEq, PyData.list.injEq, PyData.tuple.injEq, List.cons.injEq, i_add, i_iadd, i_sub, i_mul, i_mod, i_fdiv, i_fdivG, i_pow, i_neg, i_le, i_ge, i_gt, i_lt, i_eq, i_ne, i_intI, i_intB, i_abs, i_max, i_min, i_lenL, i_lenT, i_ixL, i_ixT, i_tupL, i_tupT, i_truB, Bool.not_true, Bool.not_false, Bool.false_eq_true, if_true, if_false, reduceIte]
  (try dsimp only); rw [wSeq_eq]; simp only [wVar, wC, wOp, wUn, wCl, wB, wTr, wAnd, wOr, wNot, wAndV, wOrV, wNotV, wIf, wCh, wNil, wCons, wTup, wLe, wSz, wFn, wFnJ, wNext, wRet, wRetN, wDrop, wIfS, wSet, wSetOwn, wNever, wAug, wOpO, wOpR, wClO, wApp, wSetIt, wFrz, wFor, wRg1, wRg2, wSq, wEnum, wZip, wgN, wgT, wgNil, wgCons, wYes, wAsgT, wgLs, wLenS, wIxS, wFnS, wIsi, wListOf, wRev, edP, edJ, enP, enJ, enS, NotOwn, Flat, List.map_cons, List.map_nil, List.length_cons, List.length_nil, List.replicate_succ, List.replicate_zero, List.cons_append, List.nil_append, List.append_nil, List.set_cons_zero, List.set_cons_succ, List.getElem?_cons_zero, List.getElem?_cons_succ, Nat.reduceAdd, Nat.reduceSub, Option.some.injEq, Sl.imm.injEq, Sl.own.injEq, Sl.scr.injEq, exists_eq_left, exists_eq_left', exists_eq_right, exists_eq, exists_eq', exists_and_left, and_assoc, and_true, true_and, ne_eq, not_false_eq_true, Nat.succ_ne_zero, or_true, true_or, true_implies, forall_eq', forall_eq, PyData.int.injEq, PyData.bool.injEq, PyData.list.injEq, PyData.tuple.injEq, List.cons.injEq, i_add, i_iadd, i_sub, i_mul, i_mod, i_fdiv, i_fdivG, i_pow, i_neg, i_le, i_ge, i_gt, i_lt, i_eq, i_ne, i_intI, i_intB, i_abs, i_max, i_min, i_lenL, i_lenT, i_ixL, i_ixT, i_tupL, i_tupT, i_truB, Bool.not_true, Bool.not_false, Bool.false_eq_true, if_true, if_false, reduceIte]
  by_cases l0 : l = 0
  · subst l0
    rw [if_pos (by decide)]
    refine ⟨p, 0, t, rfl, hp, l1, l2, ht, ?_⟩
    simp only [wVar, wC, wOp, wUn, wCl, wB, wTr, wAnd, wOr, wNot, wAndV, wOrV, wNotV, wIf, wCh, wNil, wCons, wTup, wLe, wSz, wFn, wFnJ, wNext, wRet, wRetN, wDrop, wIfS, wSet, wSetOwn, wNever, wAug, wOpO, wOpR, wClO, wApp, wSetIt, wFrz, wFor, wRg1, wRg2, wSq, wEnum, wZip, wgN, wgT, wgNil, wgCons, wYes, wAsgT, wgLs, wLenS, wIxS, wFnS, wIsi, wListOf, wRev, edP, edJ, enP, enJ, enS, NotOwn, Flat, List.map_cons, List.map_nil, List.length_cons, List.length_nil, List.replicate_succ, List.replicate_zero, List.cons_append, List.nil_append, List.append_nil, List.set_cons_zero, List.set_cons_succ, List.getElem?_cons_zero, List.getElem?_cons_succ, Nat.reduceAdd, Nat.reduceSub, Option.some.injEq, Sl.imm.injEq, Sl.own.injEq, Sl.scr.injEq, exists_eq_left, exists_eq_left', exists_eq_right, exists_eq, exists_eq', exists_and_left, and_assoc, and_true, true_and, ne_eq, not_false_eq_true, Nat.succ_ne_zero, or_true, true_or, true_implies, forall_eq', forall_eq, PyData.int.injEq, PyData.bool.injEq, PyData.list.injEq, PyData.tuple.injEq, List.cons.injEq, i_add, i_iadd, i_sub, i_mul, i_mod, i_fdiv, i_fdivG, i_pow, i_neg, i_le, i_ge, i_gt, i_lt, i_eq, i_ne, i_intI, i_intB, i_abs, i_max, i_min, i_lenL, i_lenT, i_ixL, i_ixT, i_tupL, i_tupT, i_truB, Bool.not_true, Bool.not_false, Bool.false_eq_true, if_true, if_false, reduceIte]
    have e : (0 : Int) ^ t % p = if decide ((t : Int) = 0) = true then 1 else 0 := by
      cases t with
      | zero => rw [Int.pow_zero, Int.emod_eq_of_lt (by decide) (by omega)]; rfl
      | succ t => rw [Int.pow_succ, Int.mul_zero, Int.zero_emod, if_neg (by simp; omega)]
    rw [e, decide_eq_true rfl]
    exact fin g m c
  rw [if_neg (by simpa using l0)]
  have lp : 0 < l := by omega
  have mulp : ∀ a : Int, a * (a ^ (p - 2).toNat % p) % p = a ^ (p - 1).toNat % p := fun a => by
    rw [Int.mul_emod, Int.emod_emod, ← Int.mul_emod, Int.mul_comm, ← Int.pow_succ, show (p - 2).toNat.succ = (p - 1).toNat by omega]
  obtain ⟨o, ho⟩ : ∃ o, o = l ^ (p - 2).toNat % p := ⟨_, rfl⟩
  have o1 : 0 ≤ o := by rw [ho]; exact Int.emod_nonneg _ (by omega)
  have o2 : o < p := by rw [ho]; exact Int.emod_lt_of_pos _ hp0
  have lo : l * o % p = 1 := by rw [ho, mulp, hf l lp l2]
  have op : 0 < o := by
    rcases Int.lt_or_eq_of_le o1 with h | h
    · exact h
    · rw [← h, Int.mul_zero, Int.zero_emod] at lo; cases lo
  have oo : o * (o ^ (p - 2).toNat % p) % p = 1 := by rw [mulp, hf o op o2]
  have back : o ^ (p - 2).toNat % p = l := by
    obtain ⟨r, hr⟩ : ∃ r, r = o ^ (p - 2).toNat % p := ⟨_, rfl⟩
    rw [← hr] at oo ⊢
    have r1 : 0 ≤ r := by rw [hr]; exact Int.emod_nonneg _ (by omega)
    have r2 : r < p := by rw [hr]; exact Int.emod_lt_of_pos _ hp0
    have h1 : r * (l * o) % p = r := by rw [Int.mul_emod, lo, Int.mul_one, Int.emod_emod, Int.emod_eq_of_lt r1 r2]
    have h2 : l * (o * r) % p = l := by rw [Int.mul_emod, oo, Int.mul_one, Int.emod_emod, Int.emod_eq_of_lt l1 l2]
    exact (h1.symm.trans (by rw [Int.mul_comm r, Int.mul_assoc])).trans h2
  (try dsimp only); rw [wSeq_eq]; simp only [wVar, wC, wOp, wUn, wCl, wB, wTr, wAnd, wOr, wNot, wAndV, wOrV, wNotV, wIf, wCh, wNil, wCons, wTup, wLe, wSz, wFn, wFnJ, wNext, wRet, wRetN, wDrop, wIfS, wSet, wSetOwn, wNever, wAug, wOpO, wOpR, wClO, wApp, wSetIt, wFrz, wFor, wRg1, wRg2, wSq, wEnum, wZip, wgN, wgT, wgNil, wgCons, wYes, wAsgT, wgLs, wLenS, wIxS, wFnS, wIsi, wListOf, wRev, edP, edJ, enP, enJ, enS, NotOwn, Flat, List.map_cons, List.map_nil, List.length_cons, List.length_nil, List.replicate_succ, List.replicate_zero, List.cons_append, List.nil_append, List.append_nil, List.set_cons_zero, List.set_cons_succ, List.getElem?_cons_zero, List.getElem?_cons_succ, Nat.reduceAdd, Nat.reduceSub, Option.some.injEq, Sl.imm.injEq, Sl.own.injEq, Sl.scr.injEq, exists_eq_left, exists_eq_left', exists_eq_right, exists_eq, exists_eq', exists_and_left, and_assoc, and_true, true_and, ne_eq, not_false_eq_true, Nat.succ_ne_zero, or_true, true_or, true_implies, forall_eq', forall_eq, PyData.int.injEq, PyData.bool.injEq, PyData.list.injEq, PyData.tuple.injEq, List.cons.injEq, i_add, i_iadd, i_sub, i_mul, i_mod, i_fdiv, i_fdivG, i_pow, i_neg, i_le, i_ge, i_gt, i_lt, i_eq, i_ne, i_intI, i_intB, i_abs, i_max, i_min, i_lenL, i_lenT, i_ixL, i_ixT, i_tupL, i_tupT, i_truB, Bool.not_true, Bool.not_false, Bool.false_eq_true, if_true, if_false, reduceIte]
  refine ⟨p, l, rfl, hp, lp, l2, ?_⟩
  rw [← ho]
  (try dsimp only); rw [wSeq_eq]; simp only [wVar, wC, wOp, wUn, wCl, wB, wTr, wAnd, wOr, wNot, wAndV, wOrV, wNotV, wIf, wCh, wNil, wCons, wTup, wLe, wSz, wFn, wFnJ, wNext, wRet, wRetN, wDrop, wIfS, wSet, wSetOwn, wNever, wAug, wOpO, wOpR, wClO, wApp, wSetIt, wFrz, wFor, wRg1, wRg2, wSq, wEnum, wZip, wgN, wgT, wgNil, wgCons, wYes, wAsgT, wgLs, wLenS, wIxS, wFnS, wIsi, wListOf, wRev, edP, edJ, enP, enJ, enS, NotOwn, Flat, List.map_cons, List.map_nil, List.length_cons, List.length_nil, List.replicate_succ, List.replicate_zero, List.cons_append, List.nil_append, List.append_nil, List.set_cons_zero, List.set_cons_succ, List.getElem?_cons_zero, List.getElem?_cons_succ, Nat.reduceAdd, Nat.reduceSub, Option.some.injEq, Sl.imm.injEq, Sl.own.injEq, Sl.scr.injEq, exists_eq_left, exists_eq_left', exists_eq_right, exists_eq, exists_eq', exists_and_left, and_assoc, and_true, true_and, ne_eq, not_false_eq_true, Nat.succ_ne_zero, or_true, true_or, true_implies, forall_eq', forall_eq, PyData.int.injEq, PyData.bool.injEq, PyData.list.injEq, PyData.tuple.injEq, List.cons.injEq, i_add, i_iadd, i_sub, i_mul, i_mod, i_fdiv, i_fdivG, i_pow, i_neg, i_le, i_ge, i_gt, i_lt, i_eq, i_ne, i_intI, i_intB, i_abs, i_max, i_min, i_lenL, i_lenT, i_ixL, i_ixT, i_tupL, i_tupT, i_truB, Bool.not_true, Bool.not_false, Bool.false_eq_true, if_true, if_false, reduceIte]
  rw [decide_eq_true op]
  simp only [wVar, wC, wOp, wUn, wCl, wB, wTr, wAnd, wOr, wNot, wAndV, wOrV, wNotV, wIf, wCh, wNil, wCons, wTup, wLe, wSz, wFn, wFnJ, wNext, wRet, wRetN, wDrop, wIfS, wSet, wSetOwn, wNever, wAug, wOpO, wOpR, wClO, wApp, wSetIt, wFrz, wFor, wRg1, wRg2, wSq, wEnum, wZip, wgN, wgT, wgNil, wgCons, wYes, wAsgT, wgLs, wLenS, wIxS, wFnS, wIsi, wListOf, wRev, edP, edJ, enP, enJ, enS, NotOwn, Flat, List.map_cons, List.map_nil, List.length_cons, List.length_nil, List.replicate_succ, List.replicate_zero, List.cons_append, List.nil_append, List.append_nil, List.set_cons_zero, List.set_cons_succ, List.getElem?_cons_zero, List.getElem?_cons_succ, Nat.reduceAdd, Nat.reduceSub, Option.some.injEq, Sl.imm.injEq, Sl.own.injEq, Sl.scr.injEq, exists_eq_left, exists_eq_left', exists_eq_right, exists_eq, exists_eq', exists_and_left, and_assoc, and_true, true_and, ne_eq, not_false_eq_true, Nat.succ_ne_zero, or_true, true_or, true_implies, forall_eq', forall_eq, PyData.int.injEq, PyData.bool.injEq, PyData.list.injEq, PyData.tuple.injEq, List.cons.injEq, i_add, i_iadd, i_sub, i_mul, i_mod, i_fdiv, i_fdivG, i_pow, i_neg, i_le, i_ge, i_gt, i_lt, i_eq, i_ne, i_intI, i_intB, i_abs, i_max, i_min, i_lenL, i_lenT, i_ixL, i_ixT, i_tupL, i_tupT, i_truB, Bool.not_true, Bool.not_false, Bool.false_eq_true, if_true, if_false, reduceIte]
  rw [decide_eq_true o2]
  simp only [lo, not_true_eq_false, decide_false, wVar, wC, wOp, wUn, wCl, wB, wTr, wAnd, wOr, wNot, wAndV, wOrV, wNotV, wIf, wCh, wNil, wCons, wTup, wLe, wSz, wFn, wFnJ, wNext, wRet, wRetN, wDrop, wIfS, wSet, wSetOwn, wNever, wAug, wOpO, wOpR, wClO, wApp, wSetIt, wFrz, wFor, wRg1, wRg2, wSq, wEnum, wZip, wgN, wgT, wgNil, wgCons, wYes, wAsgT, wgLs, wLenS, wIxS, wFnS, wIsi, wListOf, wRev, edP, edJ, enP, enJ, enS, NotOwn, Flat, List.map_cons, List.map_nil, List.length_cons, List.length_nil, List.replicate_succ, List.replicate_zero, List.cons_append, List.nil_append, List.append_nil, List.set_cons_zero, List.set_cons_succ, List.getElem?_cons_zero, List.getElem?_cons_succ, Nat.reduceAdd, Nat.reduceSub, Option.some.injEq, Sl.imm.injEq, Sl.own.injEq, Sl.scr.injEq, exists_eq_left, exists_eq_left', exists_eq_right, exists_eq, exists_eq', exists_and_left, and_assoc, and_true, true_and, ne_eq, not_false_eq_true, Nat.succ_ne_zero, or_true, true_or, true_implies, forall_eq', forall_eq, PyData.int.injEq, PyData.bool.injEq, PyData.list.injEq, PyData.tuple.injEq, List.cons.injEq, i_add, i_iadd, i_sub, i_mul, i_mod, i_fdiv, i_fdivG, i_pow, i_neg, i_le, i_ge, i_gt, i_lt, i_eq, i_ne, i_intI, i_intB, i_abs, i_max, i_min, i_lenL, i_lenT, i_ixL, i_ixT, i_tupL, i_tupT, i_truB, Bool.not_true, Bool.not_false, Bool.false_eq_true, if_true, if_false, reduceIte]
  refine ⟨small_l (by omega) (by omega), hp0, p, o, rfl, hp, op, o2, ?_⟩
  rw [back]
  simp only [not_true_eq_false, decide_false, wVar, wC, wOp, wUn, wCl, wB, wTr, wAnd, wOr, wNot, wAndV, wOrV, wNotV, wIf, wCh, wNil, wCons, wTup, wLe, wSz, wFn, wFnJ, wNext, wRet, wRetN, wDrop, wIfS, wSet, wSetOwn, wNever, wAug, wOpO, wOpR, wClO, wApp, wSetIt, wFrz, wFor, wRg1, wRg2, wSq, wEnum, wZip, wgN, wgT, wgNil, wgCons, wYes, wAsgT, wgLs, wLenS, wIxS, wFnS, wIsi, wListOf, wRev, edP, edJ, enP, enJ, enS, NotOwn, Flat, List.map_cons, List.map_nil, List.length_cons, List.length_nil, List.replicate_succ, List.replicate_zero, List.cons_append, List.nil_append, List.append_nil, List.set_cons_zero, List.set_cons_succ, List.getElem?_cons_zero, List.getElem?_cons_succ, Nat.reduceAdd, Nat.reduceSub, Option.some.injEq, Sl.imm.injEq, Sl.own.injEq, Sl.scr.injEq, exists_eq_left, exists_eq_left', exists_eq_right, exists_eq, exists_eq', exists_and_left, and_assoc, and_true, true_and, ne_eq, not_false_eq_true, Nat.succ_ne_zero, or_true, true_or, true_implies, forall_eq', forall_eq, PyData.int.injEq, PyData.bool.injEq, PyData.list.injEq, PyData.tuple.injEq, List.cons.injEq, i_add, i_iadd, i_sub, i_mul, i_mod, i_fdiv, i_fdivG, i_pow, i_neg, i_le, i_ge, i_gt, i_lt, i_eq, i_ne, i_intI, i_intB, i_abs, i_max, i_min, i_lenL, i_lenT, i_ixL, i_ixT, i_tupL, i_tupT, i_truB, Bool.not_true, Bool.not_false, Bool.false_eq_true, if_true, if_false, reduceIte]
  refine ⟨p, l, (p - 1).toNat, by rw [show (((p - 1).toNat : Nat) : Int) = p - 1 by omega], hp, l1, l2, by omega, ?_⟩
  rw [hf l lp l2]
  simp only [decide_true, wVar, wC, wOp, wUn, wCl, wB, wTr, wAnd, wOr, wNot, wAndV, wOrV, wNotV, wIf, wCh, wNil, wCons, wTup, wLe, wSz, wFn, wFnJ, wNext, wRet, wRetN, wDrop, wIfS, wSet, wSetOwn, wNever, wAug, wOpO, wOpR, wClO, wApp, wSetIt, wFrz, wFor, wRg1, wRg2, wSq, wEnum, wZip, wgN, wgT, wgNil, wgCons, wYes, wAsgT, wgLs, wLenS, wIxS, wFnS, wIsi, wListOf, wRev, edP, edJ, enP, enJ, enS, NotOwn, Flat, List.map_cons, List.map_nil, List.length_cons, List.length_nil, List.replicate_succ, List.replicate_zero, List.cons_append, List.nil_append, List.append_nil, List.set_cons_zero, List.set_cons_succ, List.getElem?_cons_zero, List.getElem?_cons_succ, Nat.reduceAdd, Nat.reduceSub, Option.some.injEq, Sl.imm.injEq, Sl.own.injEq, Sl.scr.injEq, exists_eq_left, exists_eq_left', exists_eq_right, exists_eq, exists_eq', exists_and_left, and_assoc, and_true, true_and, ne_eq, not_false_eq_true, Nat.succ_ne_zero, or_true, true_or, true_implies, forall_eq', forall_eq, PyData.int.injEq, PyData.bool.injEq, PyData.list.injEq, PyData.tuple.injEq, List.cons.injEq, i_add, i_iadd, i_sub, i_mul, i_mod, i_fdiv, i_fdivG, i_pow, i_neg, i_le, i_ge, i_gt, i_lt, i_eq, i_ne, i_intI, i_intB, i_abs, i_max, i_min, i_lenL, i_lenT, i_ixL, i_ixT, i_tupL, i_tupT, i_truB, Bool.not_true, Bool.not_false, Bool.false_eq_true, if_true, if_false, reduceIte]
  refine ⟨p, l, (p - 2).toNat, by rw [show (((p - 2).toNat : Nat) : Int) = p - 2 by omega], hp, l1, l2, by omega, ?_⟩
  rw [← ho]
  by_cases h2 : 2 < p
  · rw [decide_eq_true h2]
    simp only [decide_true, wVar, wC, wOp, wUn, wCl, wB, wTr, wAnd, wOr, wNot, wAndV, wOrV, wNotV, wIf, wCh, wNil, wCons, wTup, wLe, wSz, wFn, wFnJ, wNext, wRet, wRetN, wDrop, wIfS, wSet, wSetOwn, wNever, wAug, wOpO, wOpR, wClO, wApp, wSetIt, wFrz, wFor, wRg1, wRg2, wSq, wEnum, wZip, wgN, wgT, wgNil, wgCons, wYes, wAsgT, wgLs, wLenS, wIxS, wFnS, wIsi, wListOf, wRev, edP, edJ, enP, enJ, enS, NotOwn, Flat, List.map_cons, List.map_nil, List.length_cons, List.length_nil, List.replicate_succ, List.replicate_zero, List.cons_append, List.nil_append, List.append_nil, List.set_cons_zero, List.set_cons_succ, List.getElem?_cons_zero, List.getElem?_cons_succ, Nat.reduceAdd, Nat.reduceSub, Option.some.injEq, Sl.imm.injEq, Sl.own.injEq, Sl.scr.injEq, exists_eq_left, exists_eq_left', exists_eq_right, exists_eq, exists_eq', exists_and_left, and_assoc, and_true, true_and, ne_eq, not_false_eq_true, Nat.succ_ne_zero, or_true, true_or, true_implies, forall_eq', forall_eq, PyData.int.injEq, PyData.bool.injEq, PyData.list.injEq, PyData.tuple.injEq, List.cons.injEq, i_add, i_iadd, i_sub, i_mul, i_mod, i_fdiv, i_fdivG, i_pow, i_neg, i_le, i_ge, i_gt, i_lt, i_eq, i_ne, i_intI, i_intB, i_abs, i_max, i_min, i_lenL, i_lenT, i_ixL, i_ixT, i_tupL, i_tupT, i_truB, Bool.not_true, Bool.not_false, Bool.false_eq_true, if_true, if_false, reduceIte]
    exact fin g m c
  · rw [decide_eq_false h2]
    have : p = 2 := by omega
    subst this
    have : o = 1 := by omega
    subst this
    simp only [decide_true, wVar, wC, wOp, wUn, wCl, wB, wTr, wAnd, wOr, wNot, wAndV, wOrV, wNotV, wIf, wCh, wNil, wCons, wTup, wLe, wSz, wFn, wFnJ, wNext, wRet, wRetN, wDrop, wIfS, wSet, wSetOwn, wNever, wAug, wOpO, wOpR, wClO, wApp, wSetIt, wFrz, wFor, wRg1, wRg2, wSq, wEnum, wZip, wgN, wgT, wgNil, wgCons, wYes, wAsgT, wgLs, wLenS, wIxS, wFnS, wIsi, wListOf, wRev, edP, edJ, enP, enJ, enS, NotOwn, Flat, List.map_cons, List.map_nil, List.length_cons, List.length_nil, List.replicate_succ, List.replicate_zero, List.cons_append, List.nil_append, List.append_nil, List.set_cons_zero, List.set_cons_succ, List.getElem?_cons_zero, List.getElem?_cons_succ, Nat.reduceAdd, Nat.reduceSub, Option.some.injEq, Sl.imm.injEq, Sl.own.injEq, Sl.scr.injEq, exists_eq_left, exists_eq_left', exists_eq_right, exists_eq, exists_eq', exists_and_left, and_assoc, and_true, true_and, ne_eq, not_false_eq_true, Nat.succ_ne_zero, or_true, true_or, true_implies, forall_eq', forall_eq, PyData.int.injEq, PyData.bool.injEq, PyData.list.injEq, PyData.tuple.injEq, List.cons.injEq, i_add, i_iadd, i_sub, i_mul, i_mod, i_fdiv, i_fdivG, i_pow, i_neg, i_le, i_ge, i_gt, i_lt, i_eq, i_ne, i_intI, i_intB, i_abs, i_max, i_min, i_lenL, i_lenT, i_ixL, i_ixT, i_tupL, i_tupT, i_truB, Bool.not_true, Bool.not_false, Bool.false_eq_true, if_true, if_false, reduceIte]
    exact fin g m c
end K01

set_option Elab.async false
set_option linter.all false
set_option maxRecDepth 100000
set_option maxHeartbeats 4000000
namespace K01
open PySem PySem.Spec PyProof.Rows L2 Pd
/-- k is the least number of times that leads back to 1 -/
def Ord (p l : Int) (k : Nat) : Prop := 1 ≤ k ∧ l ^ k % p = 1 ∧ ∀ i, 0 < i → i < k → l ^ i % p ≠ 1
theorem pow_mod_add (l p : Int) (a b : Nat) : (l ^ a % p) * (l ^ b % p) % p = l ^ (a + b) % p := by
  rw [← Int.mul_emod, ← Int.pow_add]
theorem ord_inj {p l : Int} {k i j : Nat} (h : Ord p l k) (hij : i < j) (hj : j < k) : l ^ i % p ≠ l ^ j % p := fun e => by
  obtain ⟨h1, h2, h3⟩ := h
  have e1 : l ^ (i + (k - i)) % p = l ^ (j + (k - i)) % p := by rw [← pow_mod_add, e, pow_mod_add]
  rw [show i + (k - i) = k by omega, h2, show j + (k - i) = (j - i) + k by omega, ← pow_mod_add, h2, Int.mul_one, Int.emod_emod] at e1
  exact h3 (j - i) (by omega) (by omega) e1.symm
abbrev pows (p l : Int) (k : Nat) : List Int := (List.range k).map fun i => l ^ i % p
theorem mem_pows {p l x : Int} {k : Nat} : x ∈ pows p l k ↔ ∃ i, i < k ∧ l ^ i % p = x := by
  rw [List.mem_map]
  constructor
  · rintro ⟨i, h1, h2⟩; exact ⟨i, List.mem_range.mp h1, h2⟩
  · rintro ⟨i, h1, h2⟩; exact ⟨i, List.mem_range.mpr h1, h2⟩
theorem pw_run {p l : Int} {k : Nat} (p1 : 2 ≤ p) (h : Ord p l k) : ∀ (f i : Nat), i ≤ k → k - i + 1 ≤ f → pwF p l f (pows p l i) (l ^ i % p) = pows p l k
  | 0, i, _, hf => by omega
  | f + 1, i, hi, hf => by
    show (if l ^ i % p ∈ pows p l i then pows p l i else pwF p l f (pows p l i ++ [l ^ i % p]) (l ^ i % p * l % p)) = _
    by_cases e : i = k
    · subst e
      rw [if_pos (mem_pows.mpr ⟨0, h.1, by rw [h.2.1, Int.pow_zero, Int.emod_eq_of_lt (by decide) (by omega)]⟩)]
    · rw [if_neg (fun hm => by
        obtain ⟨j, hj, e2⟩ := mem_pows.mp hm
        exact ord_inj h hj (by omega) e2)]
      have e1 : pows p l i ++ [l ^ i % p] = pows p l (i + 1) := by
        show _ = (List.range (i + 1)).map _
        rw [List.range_succ, List.map_append]; rfl
      have e2 : l ^ i % p * l % p = l ^ (i + 1) % p := by
        rw [Int.pow_succ, Int.mul_emod, Int.emod_emod, ← Int.mul_emod]
      rw [e1, e2]
      exact pw_run p1 h f (i + 1) (by omega) (by omega)
theorem pwL_ord {p l : Int} {k : Nat} (p1 : 2 ≤ p) (h : Ord p l k) (hk : (k : Int) ≤ p) : pwL p l = pows p l k := by
  have := pw_run p1 h (p.toNat + 1) 0 (Nat.zero_le _) (by omega)
  rw [Int.pow_zero, Int.emod_eq_of_lt (by decide) (by omega)] at this
  exact this
theorem ex_none {p b l : Int} : ∀ (n i : Nat), (∀ j, i ≤ j → j < i + n → b ^ j % p ≠ l) → exF p b l n i = .none
  | 0, _, _ => rfl
  | n + 1, i, h => by
    show (if b ^ i % p = l then _ else exF p b l n (i + 1)) = _
    rw [if_neg (h i (Nat.le_refl _) (by omega))]
    exact ex_none n (i + 1) fun j h1 h2 => h j (by omega) (by omega)
theorem ex_some {p b l : Int} {t : Nat} (ht : b ^ t % p = l) : ∀ (n i : Nat), i ≤ t → t < i + n → (∀ j, i ≤ j → j < t → b ^ j % p ≠ l) → exF p b l n i = .int t
  | 0, i, h1, h2, _ => by omega
  | n + 1, i, h1, h2, h => by
    show (if b ^ i % p = l then PyData.int i else exF p b l n (i + 1)) = _
    by_cases e : i = t
    · subst e; rw [if_pos ht]
    · rw [if_neg (h i (Nat.le_refl _) (by omega))]
      exact ex_some ht n (i + 1) (by omega) (by omega) fun j a b => h j (by omega) b
theorem ord_period {p l : Int} {k : Nat} (h : Ord p l k) : ∀ i : Nat, l ^ i % p = l ^ (i % k) % p := fun i => by
  have h1 : ∀ q r : Nat, l ^ (k * q + r) % p = l ^ r % p := fun q => by
    induction q with
    | zero => intro r; rw [Nat.mul_zero, Nat.zero_add]
    | succ q ih =>
      intro r
      rw [show k * (q + 1) + r = k + (k * q + r) by rw [Nat.mul_succ]; omega, ← pow_mod_add, h.2.1, Int.one_mul, Int.emod_emod, ih]
  have := h1 (i / k) (i % k)
  rw [Nat.div_add_mod] at this
  exact this
/-! ### what is reckoned, over Nat -/
def ordN (p l : Nat) : Nat → Nat → Nat → Nat
  | 0, _, i => i
  | f + 1, here, i => if here = 1 then i else ordN p l f (here * l % p) (i + 1)
theorem ordN_ok {p l : Nat} : ∀ (f i here : Nat), 1 ≤ i → here = l ^ i % p → (∀ j, 0 < j → j < i → l ^ j % p ≠ 1) → l ^ ordN p l f here i % p = 1 → 1 ≤ ordN p l f here i ∧ ∀ j, 0 < j → j < ordN p l f here i → l ^ j % p ≠ 1
  | 0, i, here, h1, h2, h3, _ => ⟨h1, h3⟩
  | f + 1, i, here, h1, h2, h3, h4 => by
    have e : ordN p l (f + 1) here i = if here = 1 then i else ordN p l f (here * l % p) (i + 1) := rfl
    rw [e] at h4 ⊢
    by_cases hh : here = 1
    · rw [if_pos hh] at h4 ⊢; exact ⟨h1, h3⟩
    · rw [if_neg hh] at h4 ⊢
      refine ordN_ok f (i + 1) _ (by omega) ?_ (fun j a b => ?_) h4
      · rw [h2, Nat.pow_succ, Nat.mod_mul_mod]
      · by_cases e2 : j = i
        · subst e2; rw [← h2]; exact hh
        · exact h3 j a (by omega)
def ordP (p l : Nat) : Nat := ordN p l p (l % p) 1
def okO (p l : Nat) : Bool := l ^ ordP p l % p == 1 && decide (ordP p l ≤ p)
theorem ord_of {p l : Nat} (h : okO p l = true) : Ord p l (ordP p l) ∧ ordP p l ≤ p := by
  unfold okO at h
  rw [Bool.and_eq_true, beq_iff_eq, decide_eq_true_eq] at h
  have := ordN_ok (p := p) (l := l) p 1 (l % p) (Nat.le_refl _) (by rw [Nat.pow_one]) (fun j a b => by omega) h.1
  refine ⟨⟨this.1, ?_, fun i a b e => this.2 i a b ?_⟩, h.2⟩
  · have := h.1; exact_mod_cast this
  · exact_mod_cast e
end K01

set_option Elab.async false
set_option linter.all false
set_option maxRecDepth 100000
set_option maxHeartbeats 4000000
namespace K01
open PySem PySem.Spec PyProof.Rows L2 Pd
def seekN (p g l : Nat) : Nat → Nat → Bool
  | 0, _ => false
  | f + 1, here => here == l || seekN p g l f (here * g % p)
theorem seek_ok {p g l : Nat} : ∀ (f i here : Nat), here = g ^ i % p → seekN p g l f here = true → ∃ t, t < i + f ∧ g ^ t % p = l
  | 0, _, _, _, h => by cases h
  | f + 1, i, here, e, h => by
    have h' : (here == l || seekN p g l f (here * g % p)) = true := h
    rw [Bool.or_eq_true, beq_iff_eq] at h'
    rcases h' with h' | h'
    · exact ⟨i, by omega, by rw [← e, h']⟩
    · obtain ⟨t, h1, h2⟩ := seek_ok f (i + 1) _ (by rw [e, Nat.pow_succ, Nat.mod_mul_mod]) h'
      exact ⟨t, by omega, h2⟩
def chk (p g : Nat) : Bool :=
  (List.range p).all (fun l => l == 0 || (okO p l && (p - 1) % ordP p l == 0 && seekN p g l (p - 1) (1 % p))) &&
  (ordP p g == p - 1 && (List.range g).all (fun l => l == 0 || (ordP p l != p - 1 && rtB p l == false))) &&
  ((List.range (p - 1)).all (fun t => g ^ t % p != 0 && ((ordP p (g ^ t % p) == p - 1) == (Nat.gcd (p - 1) t == 1))) && (rtB p g && decide (1 ≤ g ∧ g < p)))
structure Chk (p g : Nat) : Prop where
  o : ∀ l, 0 < l → l < p → okO p l = true ∧ (p - 1) % ordP p l = 0 ∧ ∃ t, t < p - 1 ∧ g ^ t % p = l
  g1 : 1 ≤ g ∧ g < p
  og : ordP p g = p - 1
  lo : ∀ l, 0 < l → l < g → ordP p l ≠ p - 1 ∧ rtB p l = false
  tt : ∀ t, t < p - 1 → g ^ t % p ≠ 0 ∧ ((ordP p (g ^ t % p) == p - 1) = (Nat.gcd (p - 1) t == 1))
  rt : rtB p g = true
theorem chk_ok {p g : Nat} (h : chk p g = true) : Chk p g := by
  unfold chk at h
  simp only [Bool.and_eq_true, List.all_eq_true, List.mem_range, Bool.or_eq_true, beq_iff_eq, bne_iff_ne, ne_eq, decide_eq_true_eq] at h
  obtain ⟨⟨h1, h2, h3⟩, h4, h5, h6⟩ := h
  refine ⟨fun l a b => ?_, h6, h2, fun l a b => ?_, fun t a => ?_, h5⟩
  · rcases h1 l b with e | ⟨⟨e1, e2⟩, e3⟩
    · omega
    · obtain ⟨t, ht, e⟩ := seek_ok (p - 1) 0 _ (by rw [Nat.pow_zero]) e3
      exact ⟨e1, e2, t, by omega, e⟩
  · rcases h3 l b with e | e
    · omega
    · exact e
  · exact h4 t a
theorem c2 : chk 2 1 = true := by decide +kernel
theorem c3 : chk 3 2 = true := by decide +kernel
theorem c5 : chk 5 2 = true := by decide +kernel
theorem c7 : chk 7 3 = true := by decide +kernel
theorem c11 : chk 11 2 = true := by decide +kernel
theorem c13 : chk 13 2 = true := by decide +kernel
theorem c17 : chk 17 3 = true := by decide +kernel
theorem c19 : chk 19 2 = true := by decide +kernel
theorem c23 : chk 23 5 = true := by decide +kernel
theorem c31 : chk 31 3 = true := by decide +kernel
theorem c41 : chk 41 6 = true := by decide +kernel
theorem c43 : chk 43 3 = true := by decide +kernel
theorem c71 : chk 71 7 = true := by decide +kernel
theorem c73 : chk 73 5 = true := by decide +kernel
theorem c97 : chk 97 5 = true := by decide +kernel
theorem c191 : chk 191 19 = true := by decide +kernel
theorem c409 : chk 409 21 = true := by decide +kernel
end K01

set_option Elab.async false
set_option linter.all false
set_option maxRecDepth 100000
set_option maxHeartbeats 4000000
namespace K01
open PySem PySem.Spec PyProof.Rows L2 Pd
theorem first_at : ∀ (L : List Int) (x : Int), x ∈ L → ∃ j : Nat, L[j]? = some x ∧ ∀ m : Nat, m < j → L[m]? ≠ some x
  | [], x, h => by cases h
  | a :: L, x, h => by
    by_cases e : a = x
    · exact ⟨0, by rw [e]; rfl, fun m hm => by omega⟩
    · obtain ⟨j, h1, h2⟩ := first_at L x ((List.mem_cons.mp h).resolve_left fun h => e h.symm)
      refine ⟨j + 1, h1, fun m hm hx => ?_⟩
      cases m with
      | zero => exact e (Option.some.inj hx)
      | succ m => exact h2 m (by omega) hx
/-- a row of b's powers that holds them all -/
structure Row (p b : Int) (L : List Int) : Prop where
  at_ : ∀ (j : Nat) (x : Int), L[j]? = some x → b ^ j % p = x
  all : ∀ j : Nat, b ^ j % p ∈ L
  len : (L.length : Int) ≤ p
theorem due_in {p b l : Int} {L : List Int} (h : Row p b L) (hl : l ∈ L) : ∃ j : Nat, dIndex (L.map .int) (.int l) j ∧ exF p b l p.toNat 0 = .int j := by
  obtain ⟨j, h1, h2⟩ := first_at L l hl
  have hj : j < L.length := (List.getElem?_eq_some_iff.mp h1).1
  have hlen := h.len
  refine ⟨j, ⟨flat_ints L, rfl, ⟨.int l, by rw [List.getElem?_map, h1]; rfl, by rw [eqv_int]; exact decide_eq_true rfl⟩, fun m z hm hz => ?_⟩, ?_⟩
  · rw [List.getElem?_map] at hz
    cases q : L[m]? with
    | none => rw [q] at hz; cases hz
    | some y =>
      rw [q] at hz
      cases hz
      rw [eqv_int]
      exact decide_eq_false fun e => h2 m hm (by rw [q, e])
  · refine ex_some (h.at_ j l h1) p.toNat 0 (Nat.zero_le _) (by omega) fun i _ hi e => ?_
    have hi2 : i < L.length := by omega
    have := h.at_ i L[i] (List.getElem?_eq_getElem hi2)
    exact h2 i hi (by rw [List.getElem?_eq_getElem hi2, ← this, e])
theorem due_out {p b l : Int} {L : List Int} (h : Row p b L) (hl : l ∉ L) : exF p b l p.toNat 0 = .none :=
  ex_none p.toNat 0 fun j _ _ e => hl (by rw [← e]; exact h.all j)
theorem row_pows {p l : Int} {k : Nat} (h : Ord p l k) (hk : (k : Int) ≤ p) : Row p l (pows p l k) where
  at_ := fun j x hx => by
    rw [List.getElem?_map] at hx
    cases q : (List.range k)[j]? with
    | none => rw [q] at hx; cases hx
    | some i =>
      rw [q] at hx
      obtain ⟨h1, h2⟩ := List.getElem?_eq_some_iff.mp q
      rw [List.getElem_range] at h2
      subst h2
      exact Option.some.inj hx
  all := fun j => mem_pows.mpr ⟨j % k, Nat.mod_lt _ h.1, (ord_period h j).symm⟩
  len := by rw [List.length_map, List.length_range]; exact hk
theorem pw_zero {p : Int} (p1 : 2 ≤ p) : pwL p 0 = [1, 0] := by
  unfold pwL
  rw [show p.toNat + 1 = (p.toNat - 2) + 1 + 1 + 1 by omega]
  show (if (1 : Int) ∈ [] then _ else pwF p 0 _ ([] ++ [1]) (1 * 0 % p)) = _
  rw [if_neg (by simp), Int.mul_zero, Int.zero_emod]
  show (if (0 : Int) ∈ [1] then _ else pwF p 0 _ ([1] ++ [0]) (0 * 0 % p)) = _
  rw [if_neg (by simp), Int.mul_zero, Int.zero_emod]
  show (if (0 : Int) ∈ [1, 0] then [1, 0] else _) = _
  rw [if_pos (by simp)]
theorem row_zero {p : Int} (p1 : 2 ≤ p) : Row p 0 [1, 0] where
  at_ := fun j x hx => by
    match j, hx with
    | 0, hx => cases hx; rw [Int.pow_zero, Int.emod_eq_of_lt (by decide) (by omega)]
    | 1, hx => cases hx; rw [Int.pow_succ, Int.mul_zero, Int.zero_emod]
  all := fun j => by
    cases j with
    | zero => rw [Int.pow_zero, Int.emod_eq_of_lt (by decide) (by omega)]; simp
    | succ j => rw [Int.pow_succ, Int.mul_zero, Int.zero_emod]; simp
  len := by show (2 : Int) ≤ p; exact p1
theorem ord_int {p l : Nat} (c : Chk p g) (h1 : 0 < l) (h2 : l < p) : Ord p l (ordP p l) ∧ ordP p l ≤ p := ord_of (c.o l h1 h2).1
theorem pwL_len {p l g : Nat} (p1 : 2 ≤ p) (c : Chk p g) (h1 : 0 < l) (h2 : l < p) : pwL p l = pows p l (ordP p l) ∧ (pwL p l).length = ordP p l := by
  obtain ⟨h3, h4⟩ := ord_int c h1 h2
  have e := pwL_ord (p := p) (l := l) (by omega) h3 (by omega)
  exact ⟨e, by rw [e, List.length_map, List.length_range]⟩
theorem row_any {p b g : Nat} (p1 : 2 ≤ p) (c : Chk p g) (h2 : b < p) : Row p b (pwL p b) := by
  by_cases h0 : b = 0
  · subst h0
    rw [show ((0 : Nat) : Int) = 0 from rfl, pw_zero (by omega)]
    exact row_zero (by omega)
  · obtain ⟨h3, h4⟩ := ord_int c (by omega) h2
    rw [(pwL_len p1 c (by omega) h2).1]
    exact row_pows h3 (by omega)
theorem in_false {x : Int} {L : List Int} {z : D} : dIn false (.int x) (.list (L.map .int)) z ↔ z = .bool (decide (x ∈ L)) := by
  constructor
  · rintro ⟨ys, hy, _, _, h⟩
    rcases hy with hy | hy
    · cases hy; rw [h, in_ints]; rfl
    · cases hy
  · intro h
    exact ⟨_, Or.inl rfl, rfl, flat_ints _, by rw [h, in_ints]; rfl⟩
theorem ne_none {z : D} : dNe .none .none z ↔ z = .bool false := ne_self rfl rfl
end K01

set_option Elab.async false
set_option linter.all false
set_option maxRecDepth 100000
set_option maxHeartbeats 4000000
namespace K01
open PySem PySem.Spec PyProof.Rows L2 Pd
theorem filter_no {α : Type} : ∀ xs : List α, xs.filter (fun _ => false) = []
  | [] => rfl
  | _ :: xs => filter_no xs
theorem i_dInt {a : Int} {z : D} : dIsN (.int a) .none z ↔ z = .bool false := ⟨fun h => h.2, fun h => ⟨rfl, h⟩⟩
theorem roots_end {p g bs le : Nat} {a b cc : Int} {d3 d : D} {Q : D → List D → Prop} (hp : isP p = true) (c : Chk p g) (b2 : bs < p) (l2 : le < p) (hd : exF p bs le (p : Int).toNat 0 = d) (dd : ∀ z, dNe d d z ↔ z = .bool false) (fin : ∀ g m c : Int, Q (.bool true) [.int g, .int m, .int c]) :
    (wSeq (wIfS (wOr (wB (wOp dNe (wFn 3 wf_exponent_of (wCons (wVar 1) (wCons (wVar 4) (wCons (wVar 5) wNil)))) (wVar 7))) (wAnd (wB (wOp dGt (wVar 5) (wC (.int 0)))) (wB (wOp dIsN (wFn 3 wf_exponent_of (wCons (wVar 1) (wCons (wVar 2) (wCons (wVar 5) wNil)))) (wC .none))))) (wRet (wC (.bool false))) wNext) (wRet (wOrV (wOp dEq (wVar 4) (wC (.int 0))) (wOp dEq (wOp dMod (wOp dSub (wVar 1) (wC (.int 1))) (wCl dLen (wCons (wVar 6) wNil))) (wC (.int 0))))))
      (edJ Q) [.own [.int a, .int b, .int cc], .imm (.int p), .imm (.int g), .imm d3, .imm (.int bs), .imm (.int le), .imm (.list ((pwL p bs).map .int)), .imm d] := by
  obtain ⟨p1, p2⟩ := isP_le hp
  have p1' : 2 ≤ p := by omega
  obtain ⟨g1, g2⟩ := c.g1
  have last : if decide (((bs : Nat) : Int) = 0) = true then Q (.bool true) [.int a, .int b, .int cc] else 0 < (((pwL p bs).map PyData.int).length : Int) ∧ Q (.bool (decide ((((p : Nat) : Int) - 1) % (((pwL p bs).map PyData.int).length : Int) = 0))) [.int a, .int b, .int cc] := by
    rw [List.length_map]
    by_cases h0 : bs = 0
    · subst h0
      rw [if_pos (by decide)]
      exact fin _ _ _
    · rw [if_neg (by simpa using h0)]
      have h1 := (pwL_len p1' c (show 0 < bs by omega) b2).2
      have h2 := (c.o bs (by omega) b2).2.1
      have h3 := (ord_int c (show 0 < bs by omega) b2).1.1
      rw [h1]
      refine ⟨by omega, ?_⟩
      have e : ((p : Nat) : Int) - 1 = ((p - 1 : Nat) : Int) := by omega
      rw [e, ← Int.natCast_emod, h2, show decide (((0 : Nat) : Int) = 0) = true from rfl]
      exact fin _ _ _
  (try dsimp only); rw [wSeq_eq]; simp only [wVar, wC, wOp, wUn, wCl, wB, wTr, wAnd, wOr, wNot, wAndV, wOrV, wNotV, wIf, wCh, wNil, wCons, wTup, wLe, wSz, wFn, wFnJ, wNext, wRet, wRetN, wDrop, wIfS, wSet, wSetOwn, wNever, wAug, wOpO, wOpR, wClO, wApp, wSetIt, wFrz, wFor, wRg1, wRg2, wSq, wEnum, wZip, wgN, wgT, wgNil, wgCons, wYes, wAsgT, wgLs, wLenS, wIxS, wFnS, wIsi, wListOf, wRev, edP, edJ, enP, enJ, enS, NotOwn, Flat, List.map_cons, List.map_nil, List.length_cons, List.length_nil, List.replicate_succ, List.replicate_zero, List.cons_append, List.nil_append, List.append_nil, List.set_cons_zero, List.set_cons_succ, List.getElem?_cons_zero, List.getElem?_cons_succ, Nat.reduceAdd, Nat.reduceSub, Option.some.injEq, Sl.imm.injEq, Sl.own.injEq, Sl.scr.injEq, exists_eq_left, exists_eq_left', exists_eq_right, exists_eq, exists_eq', exists_and_left, and_assoc, and_true, true_and, ne_eq, not_false_eq_true, Nat.succ_ne_zero, or_true, true_or, true_implies, forall_eq', forall_eq, PyData.int.injEq, PyData.bool.injEq, PyData.list.injEq, PyData.tuple.injEq, List.cons.injEq, i_add, i_iadd, i_sub, i_mul, i_mod, i_fdiv, i_fdivG, i_pow, i_neg, i_le, i_ge, i_gt, i_lt, i_eq, i_ne, i_intI, i_intB, i_abs, i_max, i_min, i_lenL, i_lenT, i_ixL, i_ixT, i_tupL, i_tupT, i_truB, Bool.not_true, Bool.not_false, Bool.false_eq_true, if_true, if_false, reduceIte]
  refine ⟨p, bs, le, rfl, hp, by omega, by omega, by omega, by omega, ?_⟩
  rw [hd]
  simp only [dd, wVar, wC, wOp, wUn, wCl, wB, wTr, wAnd, wOr, wNot, wAndV, wOrV, wNotV, wIf, wCh, wNil, wCons, wTup, wLe, wSz, wFn, wFnJ, wNext, wRet, wRetN, wDrop, wIfS, wSet, wSetOwn, wNever, wAug, wOpO, wOpR, wClO, wApp, wSetIt, wFrz, wFor, wRg1, wRg2, wSq, wEnum, wZip, wgN, wgT, wgNil, wgCons, wYes, wAsgT, wgLs, wLenS, wIxS, wFnS, wIsi, wListOf, wRev, edP, edJ, enP, enJ, enS, NotOwn, Flat, List.map_cons, List.map_nil, List.length_cons, List.length_nil, List.replicate_succ, List.replicate_zero, List.cons_append, List.nil_append, List.append_nil, List.set_cons_zero, List.set_cons_succ, List.getElem?_cons_zero, List.getElem?_cons_succ, Nat.reduceAdd, Nat.reduceSub, Option.some.injEq, Sl.imm.injEq, Sl.own.injEq, Sl.scr.injEq, exists_eq_left, exists_eq_left', exists_eq_right, exists_eq, exists_eq', exists_and_left, and_assoc, and_true, true_and, ne_eq, not_false_eq_true, Nat.succ_ne_zero, or_true, true_or, true_implies, forall_eq', forall_eq, PyData.int.injEq, PyData.bool.injEq, PyData.list.injEq, PyData.tuple.injEq, List.cons.injEq, i_add, i_iadd, i_sub, i_mul, i_mod, i_fdiv, i_fdivG, i_pow, i_neg, i_le, i_ge, i_gt, i_lt, i_eq, i_ne, i_intI, i_intB, i_abs, i_max, i_min, i_lenL, i_lenT, i_ixL, i_ixT, i_tupL, i_tupT, i_truB, Bool.not_true, Bool.not_false, Bool.false_eq_true, if_true, if_false, reduceIte]
  by_cases l0 : 0 < le
  · rw [if_pos (by simpa using l0)]
    obtain ⟨_, _, t, ht, e⟩ := c.o le l0 l2
    have row := row_any p1' c g2
    have hm : ((le : Nat) : Int) ∈ pwL p g := by
      have h3 := row.all t
      rw [show ((g : Nat) : Int) ^ t % (p : Nat) = ((g ^ t % p : Nat) : Int) by rw [Int.natCast_emod, Int.natCast_pow], e] at h3
      exact h3
    obtain ⟨j, _, hj⟩ := due_in row hm
    refine ⟨p, g, le, rfl, hp, by omega, by omega, by omega, by omega, ?_⟩
    rw [hj]
    simp only [i_dInt, wVar, wC, wOp, wUn, wCl, wB, wTr, wAnd, wOr, wNot, wAndV, wOrV, wNotV, wIf, wCh, wNil, wCons, wTup, wLe, wSz, wFn, wFnJ, wNext, wRet, wRetN, wDrop, wIfS, wSet, wSetOwn, wNever, wAug, wOpO, wOpR, wClO, wApp, wSetIt, wFrz, wFor, wRg1, wRg2, wSq, wEnum, wZip, wgN, wgT, wgNil, wgCons, wYes, wAsgT, wgLs, wLenS, wIxS, wFnS, wIsi, wListOf, wRev, edP, edJ, enP, enJ, enS, NotOwn, Flat, List.map_cons, List.map_nil, List.length_cons, List.length_nil, List.replicate_succ, List.replicate_zero, List.cons_append, List.nil_append, List.append_nil, List.set_cons_zero, List.set_cons_succ, List.getElem?_cons_zero, List.getElem?_cons_succ, Nat.reduceAdd, Nat.reduceSub, Option.some.injEq, Sl.imm.injEq, Sl.own.injEq, Sl.scr.injEq, exists_eq_left, exists_eq_left', exists_eq_right, exists_eq, exists_eq', exists_and_left, and_assoc, and_true, true_and, ne_eq, not_false_eq_true, Nat.succ_ne_zero, or_true, true_or, true_implies, forall_eq', forall_eq, PyData.int.injEq, PyData.bool.injEq, PyData.list.injEq, PyData.tuple.injEq, List.cons.injEq, i_add, i_iadd, i_sub, i_mul, i_mod, i_fdiv, i_fdivG, i_pow, i_neg, i_le, i_ge, i_gt, i_lt, i_eq, i_ne, i_intI, i_intB, i_abs, i_max, i_min, i_lenL, i_lenT, i_ixL, i_ixT, i_tupL, i_tupT, i_truB, Bool.not_true, Bool.not_false, Bool.false_eq_true, if_true, if_false, reduceIte]
    exact last
  · rw [if_neg (by simpa using l0)]
    exact last
theorem roots_tail {p g : Nat} {a b cc : Int} {Q : D → List D → Prop} (hp : isP p = true) (c : Chk p g) (fin : ∀ g m c : Int, Q (.bool true) [.int g, .int m, .int c]) :
    (wSeq (wSet 2 (wFn 1 wf_root (wCons (wVar 1) wNil))) (wSeq (wIfS (wOr (wNot (wB (wCh dLe dLt (wC (.int 1)) (wVar 2) (wVar 1)))) (wB (wOp dNe (wCl dLen (wCons (wFn 2 wf__law_powers (wCons (wVar 1) (wCons (wVar 2) wNil))) wNil)) (wOp dSub (wVar 1) (wC (.int 1)))))) (wRet (wC (.bool false))) wNext) (wSeq (wIfS (wB (wOp dNe (wLe (wLc (wRg2 (wCons (wC (.int 1)) (wCons (wVar 2) wNil))) (wgN 5) (wB (wOp dEq (wCl dLen (wCons (wFn 2 wf__law_powers (wCons (wVar 1) (wCons (wVar 5) wNil))) wNil)) (wOp dSub (wVar 1) (wC (.int 1))))) (wVar 5) [5])) (wLe (wSz wNil)))) (wRet (wC (.bool false))) wNext) (wSeq (wSet 3 (wFnJ 0 2 wf__law_pour (wCons (wOp dSub (wVar 1) (wC (.int 1))) wNil))) (wSeq (wIfS (wB (wOp dNe (wOp dEq (wCl dLen (wCons (wFn 2 wf__law_powers (wCons (wVar 1) (wCons (wFn 3 wf_power (wCons (wVar 1) (wCons (wVar 2) (wCons (wVar 3) wNil)))) wNil))) wNil)) (wOp dSub (wVar 1) (wC (.int 1)))) (wOp dEq (wFn 2 wf__law_shared (wCons (wOp dSub (wVar 1) (wC (.int 1))) (wCons (wVar 3) wNil))) (wC (.int 1))))) (wRet (wC (.bool false))) wNext) (wSeq (wPar 4 5 (wFnJ 0 2 wf__law_pour (wCons (wVar 1) wNil)) (wFnJ 0 2 wf__law_pour (wCons (wVar 1) wNil))) (wSeq (wSet 6 (wFn 2 wf__law_powers (wCons (wVar 1) (wCons (wVar 4) wNil)))) (wSeq (wSet 7 (wIf (wB (wOp (dIn false) (wVar 5) (wVar 6))) (wIndex (wVar 6) (wVar 5)) (wC .none))) (wSeq (wIfS (wOr (wB (wOp dNe (wFn 3 wf_exponent_of (wCons (wVar 1) (wCons (wVar 4) (wCons (wVar 5) wNil)))) (wVar 7))) (wAnd (wB (wOp dGt (wVar 5) (wC (.int 0)))) (wB (wOp dIsN (wFn 3 wf_exponent_of (wCons (wVar 1) (wCons (wVar 2) (wCons (wVar 5) wNil)))) (wC .none))))) (wRet (wC (.bool false))) wNext) (wRet (wOrV (wOp dEq (wVar 4) (wC (.int 0))) (wOp dEq (wOp dMod (wOp dSub (wVar 1) (wC (.int 1))) (wCl dLen (wCons (wVar 6) wNil))) (wC (.int 0))))))))))))))
      (edJ Q) [.own [.int a, .int b, .int cc], .imm (.int p), .un, .un, .un, .un, .un, .un] := by
  obtain ⟨p1, p2⟩ := isP_le hp
  have p1' : 2 ≤ p := by omega
  obtain ⟨g1, g2⟩ := c.g1
  have gl := (pwL_len p1' c g1 g2)
  rw [c.og] at gl
  have gl2 : ((pwL p g).length : Int) = (p : Int) - 1 := by rw [gl.2]; omega
  (try dsimp only); rw [wSeq_eq]; simp only [wVar, wC, wOp, wUn, wCl, wB, wTr, wAnd, wOr, wNot, wAndV, wOrV, wNotV, wIf, wCh, wNil, wCons, wTup, wLe, wSz, wFn, wFnJ, wNext, wRet, wRetN, wDrop, wIfS, wSet, wSetOwn, wNever, wAug, wOpO, wOpR, wClO, wApp, wSetIt, wFrz, wFor, wRg1, wRg2, wSq, wEnum, wZip, wgN, wgT, wgNil, wgCons, wYes, wAsgT, wgLs, wLenS, wIxS, wFnS, wIsi, wListOf, wRev, edP, edJ, enP, enJ, enS, NotOwn, Flat, List.map_cons, List.map_nil, List.length_cons, List.length_nil, List.replicate_succ, List.replicate_zero, List.cons_append, List.nil_append, List.append_nil, List.set_cons_zero, List.set_cons_succ, List.getElem?_cons_zero, List.getElem?_cons_succ, Nat.reduceAdd, Nat.reduceSub, Option.some.injEq, Sl.imm.injEq, Sl.own.injEq, Sl.scr.injEq, exists_eq_left, exists_eq_left', exists_eq_right, exists_eq, exists_eq', exists_and_left, and_assoc, and_true, true_and, ne_eq, not_false_eq_true, Nat.succ_ne_zero, or_true, true_or, true_implies, forall_eq', forall_eq, PyData.int.injEq, PyData.bool.injEq, PyData.list.injEq, PyData.tuple.injEq, List.cons.injEq, i_add, i_iadd, i_sub, i_mul, i_mod, i_fdiv, i_fdivG, i_pow, i_neg, i_le, i_ge, i_gt, i_lt, i_eq, i_ne, i_intI, i_intB, i_abs, i_max, i_min, i_lenL, i_lenT, i_ixL, i_ixT, i_tupL, i_tupT, i_truB, Bool.not_true, Bool.not_false, Bool.false_eq_true, if_true, if_false, reduceIte]
  refine ⟨p, g, rfl, hp, by omega, by omega, c.rt, fun l l1 l2 => ?_, ?_⟩
  · obtain ⟨n, rfl⟩ := Int.eq_ofNat_of_zero_le (show 0 ≤ l by omega)
    exact (c.lo n (by omega) (by omega)).2
  have g1' : (1 : Int) ≤ (g : Nat) := by omega
  have g2' : ((g : Nat) : Int) < (p : Nat) := by omega
  (try dsimp only); rw [wSeq_eq]; simp only [g1', g2', decide_true, wVar, wC, wOp, wUn, wCl, wB, wTr, wAnd, wOr, wNot, wAndV, wOrV, wNotV, wIf, wCh, wNil, wCons, wTup, wLe, wSz, wFn, wFnJ, wNext, wRet, wRetN, wDrop, wIfS, wSet, wSetOwn, wNever, wAug, wOpO, wOpR, wClO, wApp, wSetIt, wFrz, wFor, wRg1, wRg2, wSq, wEnum, wZip, wgN, wgT, wgNil, wgCons, wYes, wAsgT, wgLs, wLenS, wIxS, wFnS, wIsi, wListOf, wRev, edP, edJ, enP, enJ, enS, NotOwn, Flat, List.map_cons, List.map_nil, List.length_cons, List.length_nil, List.replicate_succ, List.replicate_zero, List.cons_append, List.nil_append, List.append_nil, List.set_cons_zero, List.set_cons_succ, List.getElem?_cons_zero, List.getElem?_cons_succ, Nat.reduceAdd, Nat.reduceSub, Option.some.injEq, Sl.imm.injEq, Sl.own.injEq, Sl.scr.injEq, exists_eq_left, exists_eq_left', exists_eq_right, exists_eq, exists_eq', exists_and_left, and_assoc, and_true, true_and, ne_eq, not_false_eq_true, Nat.succ_ne_zero, or_true, true_or, true_implies, forall_eq', forall_eq, PyData.int.injEq, PyData.bool.injEq, PyData.list.injEq, PyData.tuple.injEq, List.cons.injEq, i_add, i_iadd, i_sub, i_mul, i_mod, i_fdiv, i_fdivG, i_pow, i_neg, i_le, i_ge, i_gt, i_lt, i_eq, i_ne, i_intI, i_intB, i_abs, i_max, i_min, i_lenL, i_lenT, i_ixL, i_ixT, i_tupL, i_tupT, i_truB, Bool.not_true, Bool.not_false, Bool.false_eq_true, if_true, if_false, reduceIte]
  refine ⟨p, g, rfl, p1, p2, by omega, g2', ?_⟩
  simp only [List.length_map, gl2, not_true_eq_false, decide_false, wVar, wC, wOp, wUn, wCl, wB, wTr, wAnd, wOr, wNot, wAndV, wOrV, wNotV, wIf, wCh, wNil, wCons, wTup, wLe, wSz, wFn, wFnJ, wNext, wRet, wRetN, wDrop, wIfS, wSet, wSetOwn, wNever, wAug, wOpO, wOpR, wClO, wApp, wSetIt, wFrz, wFor, wRg1, wRg2, wSq, wEnum, wZip, wgN, wgT, wgNil, wgCons, wYes, wAsgT, wgLs, wLenS, wIxS, wFnS, wIsi, wListOf, wRev, edP, edJ, enP, enJ, enS, NotOwn, Flat, List.map_cons, List.map_nil, List.length_cons, List.length_nil, List.replicate_succ, List.replicate_zero, List.cons_append, List.nil_append, List.append_nil, List.set_cons_zero, List.set_cons_succ, List.getElem?_cons_zero, List.getElem?_cons_succ, Nat.reduceAdd, Nat.reduceSub, Option.some.injEq, Sl.imm.injEq, Sl.own.injEq, Sl.scr.injEq, exists_eq_left, exists_eq_left', exists_eq_right, exists_eq, exists_eq', exists_and_left, and_assoc, and_true, true_and, ne_eq, not_false_eq_true, Nat.succ_ne_zero, or_true, true_or, true_implies, forall_eq', forall_eq, PyData.int.injEq, PyData.bool.injEq, PyData.list.injEq, PyData.tuple.injEq, List.cons.injEq, i_add, i_iadd, i_sub, i_mul, i_mod, i_fdiv, i_fdivG, i_pow, i_neg, i_le, i_ge, i_gt, i_lt, i_eq, i_ne, i_intI, i_intB, i_abs, i_max, i_min, i_lenL, i_lenT, i_ixL, i_ixT, i_tupL, i_tupT, i_truB, Bool.not_true, Bool.not_false, Bool.false_eq_true, if_true, if_false, reduceIte]
  (try dsimp only); rw [wSeq_eq]; simp only [wVar, wC, wOp, wUn, wCl, wB, wTr, wAnd, wOr, wNot, wAndV, wOrV, wNotV, wIf, wCh, wNil, wCons, wTup, wLe, wSz, wFn, wFnJ, wNext, wRet, wRetN, wDrop, wIfS, wSet, wSetOwn, wNever, wAug, wOpO, wOpR, wClO, wApp, wSetIt, wFrz, wFor, wRg1, wRg2, wSq, wEnum, wZip, wgN, wgT, wgNil, wgCons, wYes, wAsgT, wgLs, wLenS, wIxS, wFnS, wIsi, wListOf, wRev, edP, edJ, enP, enJ, enS, NotOwn, Flat, List.map_cons, List.map_nil, List.length_cons, List.length_nil, List.replicate_succ, List.replicate_zero, List.cons_append, List.nil_append, List.append_nil, List.set_cons_zero, List.set_cons_succ, List.getElem?_cons_zero, List.getElem?_cons_succ, Nat.reduceAdd, Nat.reduceSub, Option.some.injEq, Sl.imm.injEq, Sl.own.injEq, Sl.scr.injEq, exists_eq_left, exists_eq_left', exists_eq_right, exists_eq, exists_eq', exists_and_left, and_assoc, and_true, true_and, ne_eq, not_false_eq_true, Nat.succ_ne_zero, or_true, true_or, true_implies, forall_eq', forall_eq, PyData.int.injEq, PyData.bool.injEq, PyData.list.injEq, PyData.tuple.injEq, List.cons.injEq, i_add, i_iadd, i_sub, i_mul, i_mod, i_fdiv, i_fdivG, i_pow, i_neg, i_le, i_ge, i_gt, i_lt, i_eq, i_ne, i_intI, i_intB, i_abs, i_max, i_min, i_lenL, i_lenT, i_ixL, i_ixT, i_tupL, i_tupT, i_truB, Bool.not_true, Bool.not_false, Bool.false_eq_true, if_true, if_false, reduceIte]
  refine lcG (α := Nat) (X := fun i => .int (1 + (i : Nat))) (f := fun i => .int (1 + (i : Nat))) (xs := List.range (g - 1)) (e1 := [.own [.int a, .int b, .int cc], .imm (.int p), .imm (.int g), .un, .un, .un, .un, .un]) (fun i => [.own [.int a, .int b, .int cc], .imm (.int p), .imm (.int g), .un, .un, .imm (.int (1 + (i : Nat))), .un, .un]) (fun _ => false) (by decide) (fun Q q => ?_) (no1 trivial) (by rw [List.length_range]; exact Nat.le_trans (show g - 1 ≤ 9973 by omega) (by decide)) (fun x => rfl) (fun x hx Q q => ?_) (fun i hi Q q => ?_) (fun x hx hc => by cases hc) ?_
  · simp only [wVar, wC, wOp, wUn, wCl, wB, wTr, wAnd, wOr, wNot, wAndV, wOrV, wNotV, wIf, wCh, wNil, wCons, wTup, wLe, wSz, wFn, wFnJ, wNext, wRet, wRetN, wDrop, wIfS, wSet, wSetOwn, wNever, wAug, wOpO, wOpR, wClO, wApp, wSetIt, wFrz, wFor, wRg1, wRg2, wSq, wEnum, wZip, wgN, wgT, wgNil, wgCons, wYes, wAsgT, wgLs, wLenS, wIxS, wFnS, wIsi, wListOf, wRev, edP, edJ, enP, enJ, enS, NotOwn, Flat, List.map_cons, List.map_nil, List.length_cons, List.length_nil, List.replicate_succ, List.replicate_zero, List.cons_append, List.nil_append, List.append_nil, List.set_cons_zero, List.set_cons_succ, List.getElem?_cons_zero, List.getElem?_cons_succ, Nat.reduceAdd, Nat.reduceSub, Option.some.injEq, Sl.imm.injEq, Sl.own.injEq, Sl.scr.injEq, exists_eq_left, exists_eq_left', exists_eq_right, exists_eq, exists_eq', exists_and_left, and_assoc, and_true, true_and, ne_eq, not_false_eq_true, Nat.succ_ne_zero, or_true, true_or, true_implies, forall_eq', forall_eq, PyData.int.injEq, PyData.bool.injEq, PyData.list.injEq, PyData.tuple.injEq, List.cons.injEq, i_add, i_iadd, i_sub, i_mul, i_mod, i_fdiv, i_fdivG, i_pow, i_neg, i_le, i_ge, i_gt, i_lt, i_eq, i_ne, i_intI, i_intB, i_abs, i_max, i_min, i_lenL, i_lenT, i_ixL, i_ixT, i_tupL, i_tupT, i_truB, Bool.not_true, Bool.not_false, Bool.false_eq_true, if_true, if_false, reduceIte]
    refine ⟨by decide, by decide, by omega, by omega, ?_⟩
    have e : rngD 1 (((g : Nat) : Int) - 1).toNat = (List.range (g - 1)).map fun i => PyData.int (1 + (i : Nat)) := by
      unfold rngD
      rw [show (((g : Nat) : Int) - 1).toNat = g - 1 by omega]
    rw [e]
    exact q
  · simp only [wip, wVar, wC, wOp, wUn, wCl, wB, wTr, wAnd, wOr, wNot, wAndV, wOrV, wNotV, wIf, wCh, wNil, wCons, wTup, wLe, wSz, wFn, wFnJ, wNext, wRet, wRetN, wDrop, wIfS, wSet, wSetOwn, wNever, wAug, wOpO, wOpR, wClO, wApp, wSetIt, wFrz, wFor, wRg1, wRg2, wSq, wEnum, wZip, wgN, wgT, wgNil, wgCons, wYes, wAsgT, wgLs, wLenS, wIxS, wFnS, wIsi, wListOf, wRev, edP, edJ, enP, enJ, enS, NotOwn, Flat, List.map_cons, List.map_nil, List.length_cons, List.length_nil, List.replicate_succ, List.replicate_zero, List.cons_append, List.nil_append, List.append_nil, List.set_cons_zero, List.set_cons_succ, List.getElem?_cons_zero, List.getElem?_cons_succ, Nat.reduceAdd, Nat.reduceSub, Option.some.injEq, Sl.imm.injEq, Sl.own.injEq, Sl.scr.injEq, exists_eq_left, exists_eq_left', exists_eq_right, exists_eq, exists_eq', exists_and_left, and_assoc, and_true, true_and, ne_eq, not_false_eq_true, Nat.succ_ne_zero, or_true, true_or, true_implies, forall_eq', forall_eq, PyData.int.injEq, PyData.bool.injEq, PyData.list.injEq, PyData.tuple.injEq, List.cons.injEq, i_add, i_iadd, i_sub, i_mul, i_mod, i_fdiv, i_fdivG, i_pow, i_neg, i_le, i_ge, i_gt, i_lt, i_eq, i_ne, i_intI, i_intB, i_abs, i_max, i_min, i_lenL, i_lenT, i_ixL, i_ixT, i_tupL, i_tupT, i_truB, Bool.not_true, Bool.not_false, Bool.false_eq_true, if_true, if_false, reduceIte]
    exact q
  · rw [List.mem_range] at hi
    have h0 := c.lo (i + 1) (by omega) (by omega)
    have h1 := pwL_len p1' c (show 0 < i + 1 by omega) (show i + 1 < p by omega)
    simp only [wVar, wC, wOp, wUn, wCl, wB, wTr, wAnd, wOr, wNot, wAndV, wOrV, wNotV, wIf, wCh, wNil, wCons, wTup, wLe, wSz, wFn, wFnJ, wNext, wRet, wRetN, wDrop, wIfS, wSet, wSetOwn, wNever, wAug, wOpO, wOpR, wClO, wApp, wSetIt, wFrz, wFor, wRg1, wRg2, wSq, wEnum, wZip, wgN, wgT, wgNil, wgCons, wYes, wAsgT, wgLs, wLenS, wIxS, wFnS, wIsi, wListOf, wRev, edP, edJ, enP, enJ, enS, NotOwn, Flat, List.map_cons, List.map_nil, List.length_cons, List.length_nil, List.replicate_succ, List.replicate_zero, List.cons_append, List.nil_append, List.append_nil, List.set_cons_zero, List.set_cons_succ, List.getElem?_cons_zero, List.getElem?_cons_succ, Nat.reduceAdd, Nat.reduceSub, Option.some.injEq, Sl.imm.injEq, Sl.own.injEq, Sl.scr.injEq, exists_eq_left, exists_eq_left', exists_eq_right, exists_eq, exists_eq', exists_and_left, and_assoc, and_true, true_and, ne_eq, not_false_eq_true, Nat.succ_ne_zero, or_true, true_or, true_implies, forall_eq', forall_eq, PyData.int.injEq, PyData.bool.injEq, PyData.list.injEq, PyData.tuple.injEq, List.cons.injEq, i_add, i_iadd, i_sub, i_mul, i_mod, i_fdiv, i_fdivG, i_pow, i_neg, i_le, i_ge, i_gt, i_lt, i_eq, i_ne, i_intI, i_intB, i_abs, i_max, i_min, i_lenL, i_lenT, i_ixL, i_ixT, i_tupL, i_tupT, i_truB, Bool.not_true, Bool.not_false, Bool.false_eq_true, if_true, if_false, reduceIte]
    refine ⟨p, 1 + (i : Nat), rfl, p1, p2, by omega, by omega, ?_⟩
    rw [show (1 : Int) + (i : Nat) = ((i + 1 : Nat) : Int) by omega] at q ⊢
    simp only [List.length_map, h1.2, wVar, wC, wOp, wUn, wCl, wB, wTr, wAnd, wOr, wNot, wAndV, wOrV, wNotV, wIf, wCh, wNil, wCons, wTup, wLe, wSz, wFn, wFnJ, wNext, wRet, wRetN, wDrop, wIfS, wSet, wSetOwn, wNever, wAug, wOpO, wOpR, wClO, wApp, wSetIt, wFrz, wFor, wRg1, wRg2, wSq, wEnum, wZip, wgN, wgT, wgNil, wgCons, wYes, wAsgT, wgLs, wLenS, wIxS, wFnS, wIsi, wListOf, wRev, edP, edJ, enP, enJ, enS, NotOwn, Flat, List.map_cons, List.map_nil, List.length_cons, List.length_nil, List.replicate_succ, List.replicate_zero, List.cons_append, List.nil_append, List.append_nil, List.set_cons_zero, List.set_cons_succ, List.getElem?_cons_zero, List.getElem?_cons_succ, Nat.reduceAdd, Nat.reduceSub, Option.some.injEq, Sl.imm.injEq, Sl.own.injEq, Sl.scr.injEq, exists_eq_left, exists_eq_left', exists_eq_right, exists_eq, exists_eq', exists_and_left, and_assoc, and_true, true_and, ne_eq, not_false_eq_true, Nat.succ_ne_zero, or_true, true_or, true_implies, forall_eq', forall_eq, PyData.int.injEq, PyData.bool.injEq, PyData.list.injEq, PyData.tuple.injEq, List.cons.injEq, i_add, i_iadd, i_sub, i_mul, i_mod, i_fdiv, i_fdivG, i_pow, i_neg, i_le, i_ge, i_gt, i_lt, i_eq, i_ne, i_intI, i_intB, i_abs, i_max, i_min, i_lenL, i_lenT, i_ixL, i_ixT, i_tupL, i_tupT, i_truB, Bool.not_true, Bool.not_false, Bool.false_eq_true, if_true, if_false, reduceIte]
    rw [decide_eq_false (by have := h0.1; omega)]
    exact q
  rw [filter_no]
  refine ⟨by decide, .bool false, (i_neL (as := []) (bs := [])).mpr rfl, false, rfl, ?_⟩
  rw [if_neg (by decide)]
  (try dsimp only); rw [wSeq_eq]; simp only [wf__law_pour, wVar, wC, wOp, wUn, wCl, wB, wTr, wAnd, wOr, wNot, wAndV, wOrV, wNotV, wIf, wCh, wNil, wCons, wTup, wLe, wSz, wFn, wFnJ, wNext, wRet, wRetN, wDrop, wIfS, wSet, wSetOwn, wNever, wAug, wOpO, wOpR, wClO, wApp, wSetIt, wFrz, wFor, wRg1, wRg2, wSq, wEnum, wZip, wgN, wgT, wgNil, wgCons, wYes, wAsgT, wgLs, wLenS, wIxS, wFnS, wIsi, wListOf, wRev, edP, edJ, enP, enJ, enS, NotOwn, Flat, List.map_cons, List.map_nil, List.length_cons, List.length_nil, List.replicate_succ, List.replicate_zero, List.cons_append, List.nil_append, List.append_nil, List.set_cons_zero, List.set_cons_succ, List.getElem?_cons_zero, List.getElem?_cons_succ, Nat.reduceAdd, Nat.reduceSub, Option.some.injEq, Sl.imm.injEq, Sl.own.injEq, Sl.scr.injEq, exists_eq_left, exists_eq_left', exists_eq_right, exists_eq, exists_eq', exists_and_left, and_assoc, and_true, true_and, ne_eq, not_false_eq_true, Nat.succ_ne_zero, or_true, true_or, true_implies, forall_eq', forall_eq, PyData.int.injEq, PyData.bool.injEq, PyData.list.injEq, PyData.tuple.injEq, List.cons.injEq, i_add, i_iadd, i_sub, i_mul, i_mod, i_fdiv, i_fdivG, i_pow, i_neg, i_le, i_ge, i_gt, i_lt, i_eq, i_ne, i_intI, i_intB, i_abs, i_max, i_min, i_lenL, i_lenT, i_ixL, i_ixT, i_tupL, i_tupT, i_truB, Bool.not_true, Bool.not_false, Bool.false_eq_true, if_true, if_false, reduceIte]
  refine ⟨by omega, log_lt (by omega) (by omega), fun t a b cc t1 t2 => ?_⟩
  obtain ⟨t, rfl⟩ := Int.eq_ofNat_of_zero_le t1
  obtain ⟨q1, q2⟩ := c.tt t (by omega)
  have gt : ((g : Nat) : Int) ^ t % (p : Nat) = ((g ^ t % p : Nat) : Int) := by
    rw [Int.natCast_emod, Int.natCast_pow]
  have gp : g ^ t % p < p := Nat.mod_lt _ (by omega)
  have tl := pwL_len p1' c (show 0 < g ^ t % p by omega) gp
  (try dsimp only); rw [wSeq_eq]; simp only [wVar, wC, wOp, wUn, wCl, wB, wTr, wAnd, wOr, wNot, wAndV, wOrV, wNotV, wIf, wCh, wNil, wCons, wTup, wLe, wSz, wFn, wFnJ, wNext, wRet, wRetN, wDrop, wIfS, wSet, wSetOwn, wNever, wAug, wOpO, wOpR, wClO, wApp, wSetIt, wFrz, wFor, wRg1, wRg2, wSq, wEnum, wZip, wgN, wgT, wgNil, wgCons, wYes, wAsgT, wgLs, wLenS, wIxS, wFnS, wIsi, wListOf, wRev, edP, edJ, enP, enJ, enS, NotOwn, Flat, List.map_cons, List.map_nil, List.length_cons, List.length_nil, List.replicate_succ, List.replicate_zero, List.cons_append, List.nil_append, List.append_nil, List.set_cons_zero, List.set_cons_succ, List.getElem?_cons_zero, List.getElem?_cons_succ, Nat.reduceAdd, Nat.reduceSub, Option.some.injEq, Sl.imm.injEq, Sl.own.injEq, Sl.scr.injEq, exists_eq_left, exists_eq_left', exists_eq_right, exists_eq, exists_eq', exists_and_left, and_assoc, and_true, true_and, ne_eq, not_false_eq_true, Nat.succ_ne_zero, or_true, true_or, true_implies, forall_eq', forall_eq, PyData.int.injEq, PyData.bool.injEq, PyData.list.injEq, PyData.tuple.injEq, List.cons.injEq, i_add, i_iadd, i_sub, i_mul, i_mod, i_fdiv, i_fdivG, i_pow, i_neg, i_le, i_ge, i_gt, i_lt, i_eq, i_ne, i_intI, i_intB, i_abs, i_max, i_min, i_lenL, i_lenT, i_ixL, i_ixT, i_tupL, i_tupT, i_truB, Bool.not_true, Bool.not_false, Bool.false_eq_true, if_true, if_false, reduceIte]
  refine ⟨p, g, t, rfl, hp, by omega, g2', by omega, ?_⟩
  rw [gt]
  refine ⟨p, ((g ^ t % p : Nat) : Int), rfl, p1, p2, by omega, by omega, ?_⟩
  simp only [List.length_map, tl.2, wVar, wC, wOp, wUn, wCl, wB, wTr, wAnd, wOr, wNot, wAndV, wOrV, wNotV, wIf, wCh, wNil, wCons, wTup, wLe, wSz, wFn, wFnJ, wNext, wRet, wRetN, wDrop, wIfS, wSet, wSetOwn, wNever, wAug, wOpO, wOpR, wClO, wApp, wSetIt, wFrz, wFor, wRg1, wRg2, wSq, wEnum, wZip, wgN, wgT, wgNil, wgCons, wYes, wAsgT, wgLs, wLenS, wIxS, wFnS, wIsi, wListOf, wRev, edP, edJ, enP, enJ, enS, NotOwn, Flat, List.map_cons, List.map_nil, List.length_cons, List.length_nil, List.replicate_succ, List.replicate_zero, List.cons_append, List.nil_append, List.append_nil, List.set_cons_zero, List.set_cons_succ, List.getElem?_cons_zero, List.getElem?_cons_succ, Nat.reduceAdd, Nat.reduceSub, Option.some.injEq, Sl.imm.injEq, Sl.own.injEq, Sl.scr.injEq, exists_eq_left, exists_eq_left', exists_eq_right, exists_eq, exists_eq', exists_and_left, and_assoc, and_true, true_and, ne_eq, not_false_eq_true, Nat.succ_ne_zero, or_true, true_or, true_implies, forall_eq', forall_eq, PyData.int.injEq, PyData.bool.injEq, PyData.list.injEq, PyData.tuple.injEq, List.cons.injEq, i_add, i_iadd, i_sub, i_mul, i_mod, i_fdiv, i_fdivG, i_pow, i_neg, i_le, i_ge, i_gt, i_lt, i_eq, i_ne, i_intI, i_intB, i_abs, i_max, i_min, i_lenL, i_lenT, i_ixL, i_ixT, i_tupL, i_tupT, i_truB, Bool.not_true, Bool.not_false, Bool.false_eq_true, if_true, if_false, reduceIte]
  refine ⟨p - 1, t, by rw [show (((p - 1 : Nat)) : Int) = (p : Int) - 1 by omega], ?_⟩
  simp only [i_neB, wVar, wC, wOp, wUn, wCl, wB, wTr, wAnd, wOr, wNot, wAndV, wOrV, wNotV, wIf, wCh, wNil, wCons, wTup, wLe, wSz, wFn, wFnJ, wNext, wRet, wRetN, wDrop, wIfS, wSet, wSetOwn, wNever, wAug, wOpO, wOpR, wClO, wApp, wSetIt, wFrz, wFor, wRg1, wRg2, wSq, wEnum, wZip, wgN, wgT, wgNil, wgCons, wYes, wAsgT, wgLs, wLenS, wIxS, wFnS, wIsi, wListOf, wRev, edP, edJ, enP, enJ, enS, NotOwn, Flat, List.map_cons, List.map_nil, List.length_cons, List.length_nil, List.replicate_succ, List.replicate_zero, List.cons_append, List.nil_append, List.append_nil, List.set_cons_zero, List.set_cons_succ, List.getElem?_cons_zero, List.getElem?_cons_succ, Nat.reduceAdd, Nat.reduceSub, Option.some.injEq, Sl.imm.injEq, Sl.own.injEq, Sl.scr.injEq, exists_eq_left, exists_eq_left', exists_eq_right, exists_eq, exists_eq', exists_and_left, and_assoc, and_true, true_and, ne_eq, not_false_eq_true, Nat.succ_ne_zero, or_true, true_or, true_implies, forall_eq', forall_eq, PyData.int.injEq, PyData.bool.injEq, PyData.list.injEq, PyData.tuple.injEq, List.cons.injEq, i_add, i_iadd, i_sub, i_mul, i_mod, i_fdiv, i_fdivG, i_pow, i_neg, i_le, i_ge, i_gt, i_lt, i_eq, i_ne, i_intI, i_intB, i_abs, i_max, i_min, i_lenL, i_lenT, i_ixL, i_ixT, i_tupL, i_tupT, i_truB, Bool.not_true, Bool.not_false, Bool.false_eq_true, if_true, if_false, reduceIte]
  have e6 : (decide (((ordP p (g ^ t % p) : Nat) : Int) = (p : Int) - 1) == decide (((Nat.gcd (p - 1) t : Nat) : Int) = 1)) = true := by
    have e1 : decide (((ordP p (g ^ t % p) : Nat) : Int) = (p : Int) - 1) = (ordP p (g ^ t % p) == p - 1) := by
      rw [Bool.eq_iff_iff, decide_eq_true_eq, beq_iff_eq]; omega
    have e2 : decide (((Nat.gcd (p - 1) t : Nat) : Int) = 1) = (Nat.gcd (p - 1) t == 1) := by
      rw [Bool.eq_iff_iff, decide_eq_true_eq, beq_iff_eq]; omega
    rw [e1, e2, q2]; exact beq_self_eq_true _
  rw [e6, if_neg (by decide)]
  (try dsimp only); rw [wSeq_eq]; simp only [wPar, wf__law_pour, wVar, wC, wOp, wUn, wCl, wB, wTr, wAnd, wOr, wNot, wAndV, wOrV, wNotV, wIf, wCh, wNil, wCons, wTup, wLe, wSz, wFn, wFnJ, wNext, wRet, wRetN, wDrop, wIfS, wSet, wSetOwn, wNever, wAug, wOpO, wOpR, wClO, wApp, wSetIt, wFrz, wFor, wRg1, wRg2, wSq, wEnum, wZip, wgN, wgT, wgNil, wgCons, wYes, wAsgT, wgLs, wLenS, wIxS, wFnS, wIsi, wListOf, wRev, edP, edJ, enP, enJ, enS, NotOwn, Flat, List.map_cons, List.map_nil, List.length_cons, List.length_nil, List.replicate_succ, List.replicate_zero, List.cons_append, List.nil_append, List.append_nil, List.set_cons_zero, List.set_cons_succ, List.getElem?_cons_zero, List.getElem?_cons_succ, Nat.reduceAdd, Nat.reduceSub, Option.some.injEq, Sl.imm.injEq, Sl.own.injEq, Sl.scr.injEq, exists_eq_left, exists_eq_left', exists_eq_right, exists_eq, exists_eq', exists_and_left, and_assoc, and_true, true_and, ne_eq, not_false_eq_true, Nat.succ_ne_zero, or_true, true_or, true_implies, forall_eq', forall_eq, PyData.int.injEq, PyData.bool.injEq, PyData.list.injEq, PyData.tuple.injEq, List.cons.injEq, i_add, i_iadd, i_sub, i_mul, i_mod, i_fdiv, i_fdivG, i_pow, i_neg, i_le, i_ge, i_gt, i_lt, i_eq, i_ne, i_intI, i_intB, i_abs, i_max, i_min, i_lenL, i_lenT, i_ixL, i_ixT, i_tupL, i_tupT, i_truB, Bool.not_true, Bool.not_false, Bool.false_eq_true, if_true, if_false, reduceIte]
  refine ⟨by omega, log_lt (by omega) (by omega), fun bs a b cc b1 b2 => ⟨by omega, log_lt (by omega) (by omega), fun le a b cc l1 l2 => ?_⟩⟩
  obtain ⟨bs, rfl⟩ := Int.eq_ofNat_of_zero_le b1
  obtain ⟨le, rfl⟩ := Int.eq_ofNat_of_zero_le l1
  have row := row_any p1' c (show bs < p by omega)
  (try dsimp only); rw [wSeq_eq]; simp only [wVar, wC, wOp, wUn, wCl, wB, wTr, wAnd, wOr, wNot, wAndV, wOrV, wNotV, wIf, wCh, wNil, wCons, wTup, wLe, wSz, wFn, wFnJ, wNext, wRet, wRetN, wDrop, wIfS, wSet, wSetOwn, wNever, wAug, wOpO, wOpR, wClO, wApp, wSetIt, wFrz, wFor, wRg1, wRg2, wSq, wEnum, wZip, wgN, wgT, wgNil, wgCons, wYes, wAsgT, wgLs, wLenS, wIxS, wFnS, wIsi, wListOf, wRev, edP, edJ, enP, enJ, enS, NotOwn, Flat, List.map_cons, List.map_nil, List.length_cons, List.length_nil, List.replicate_succ, List.replicate_zero, List.cons_append, List.nil_append, List.append_nil, List.set_cons_zero, List.set_cons_succ, List.getElem?_cons_zero, List.getElem?_cons_succ, Nat.reduceAdd, Nat.reduceSub, Option.some.injEq, Sl.imm.injEq, Sl.own.injEq, Sl.scr.injEq, exists_eq_left, exists_eq_left', exists_eq_right, exists_eq, exists_eq', exists_and_left, and_assoc, and_true, true_and, ne_eq, not_false_eq_true, Nat.succ_ne_zero, or_true, true_or, true_implies, forall_eq', forall_eq, PyData.int.injEq, PyData.bool.injEq, PyData.list.injEq, PyData.tuple.injEq, List.cons.injEq, i_add, i_iadd, i_sub, i_mul, i_mod, i_fdiv, i_fdivG, i_pow, i_neg, i_le, i_ge, i_gt, i_lt, i_eq, i_ne, i_intI, i_intB, i_abs, i_max, i_min, i_lenL, i_lenT, i_ixL, i_ixT, i_tupL, i_tupT, i_truB, Bool.not_true, Bool.not_false, Bool.false_eq_true, if_true, if_false, reduceIte]
  refine ⟨p, bs, rfl, p1, p2, b1, b2, ?_⟩
  (try dsimp only); rw [wSeq_eq]; simp only [in_false, wVar, wC, wOp, wUn, wCl, wB, wTr, wAnd, wOr, wNot, wAndV, wOrV, wNotV, wIf, wCh, wNil, wCons, wTup, wLe, wSz, wFn, wFnJ, wNext, wRet, wRetN, wDrop, wIfS, wSet, wSetOwn, wNever, wAug, wOpO, wOpR, wClO, wApp, wSetIt, wFrz, wFor, wRg1, wRg2, wSq, wEnum, wZip, wgN, wgT, wgNil, wgCons, wYes, wAsgT, wgLs, wLenS, wIxS, wFnS, wIsi, wListOf, wRev, edP, edJ, enP, enJ, enS, NotOwn, Flat, List.map_cons, List.map_nil, List.length_cons, List.length_nil, List.replicate_succ, List.replicate_zero, List.cons_append, List.nil_append, List.append_nil, List.set_cons_zero, List.set_cons_succ, List.getElem?_cons_zero, List.getElem?_cons_succ, Nat.reduceAdd, Nat.reduceSub, Option.some.injEq, Sl.imm.injEq, Sl.own.injEq, Sl.scr.injEq, exists_eq_left, exists_eq_left', exists_eq_right, exists_eq, exists_eq', exists_and_left, and_assoc, and_true, true_and, ne_eq, not_false_eq_true, Nat.succ_ne_zero, or_true, true_or, true_implies, forall_eq', forall_eq, PyData.int.injEq, PyData.bool.injEq, PyData.list.injEq, PyData.tuple.injEq, List.cons.injEq, i_add, i_iadd, i_sub, i_mul, i_mod, i_fdiv, i_fdivG, i_pow, i_neg, i_le, i_ge, i_gt, i_lt, i_eq, i_ne, i_intI, i_intB, i_abs, i_max, i_min, i_lenL, i_lenT, i_ixL, i_ixT, i_tupL, i_tupT, i_truB, Bool.not_true, Bool.not_false, Bool.false_eq_true, if_true, if_false, reduceIte]
  by_cases hm : ((le : Nat) : Int) ∈ pwL p bs
  · rw [if_pos (by simpa using hm)]
    obtain ⟨j, h1, h2⟩ := due_in row hm
    refine ⟨_, rfl, ⟨_, rfl⟩, _, rfl, _, j, rfl, h1, ?_⟩
    exact roots_end hp c (by omega) (by omega) h2 (fun z => by rw [i_ne]; simp) fin
  · rw [if_neg (by simpa using hm)]
    exact roots_end hp c (by omega) (by omega) (due_out row hm) (fun z => ne_none) fin
theorem pu__law_roots_right (dj ds Q) (hl : ds.length + 1 = 1) (h : wf__law_roots_right dj ds Q) : ws__law_roots_right (edJ Q) (enJ N__law_roots_right dj ds) := by
  obtain ⟨g, m, c, rfl, rfl, fin⟩ := h
  unfold ws__law_roots_right
  (try dsimp only); rw [wSeq_eq]; simp only [N__law_roots_right, wf__law_sip, sz0, sz1, sz2, sz3, sz4, sz5, sz6, sz7, sz8, sz9, sz10, sz11, sz12, sz13, sz14, sz15, sz16, sz17, sz18, sz19, sz20, sz21, sz22, sz23, sz24, sz25, sz26, sz27, sz28, sz29, sz30, sz31, sz32, sz33, sz34, sz35, sz36, sz37, sz38, sz39, sz40, wVar, wC, wOp, wUn, wCl, wB, wTr, wAnd, wOr, wNot, wAndV, wOrV, wNotV, wIf, wCh, wNil, wCons, wTup, wLe, wSz, wFn, wFnJ, wNext, wRet, wRetN, wDrop, wIfS, wSet, wSetOwn, wNever, wAug, wOpO, wOpR, wClO, wApp, wSetIt, wFrz, wFor, wRg1, wRg2, wSq, wEnum, wZip, wgN, wgT, wgNil, wgCons, wYes, wAsgT, wgLs, wLenS, wIxS, wFnS, wIsi, wListOf, wRev, edP, edJ, enP, enJ, enS, NotOwn, Flat, List.map_cons, List.map_nil, List.length_cons, List.length_nil, List.replicate_succ, List.replicate_zero, List.cons_append, List.nil_append, List.append_nil, List.set_cons_zero, List.set_cons_succ, List.getElem?_cons_zero, List.getElem?_cons_succ, Nat.reduceAdd, Nat.reduceSub, Option.some.injEq, Sl.imm.injEq, Sl.own.injEq, Sl.scr.injEq, exists_eq_left, exists_eq_left', exists_eq_right, exists_eq, exists_eq', exists_and_left, and_assoc, and_true, true_and, ne_eq, not_false_eq_true, Nat.succ_ne_zero, or_true, true_or, true_implies, forall_eq', forall_eq, PyData.int.injEq, PyData.bool.injEq, PyData.list.injEq, PyData.tuple.injEq, List.cons.injEq, i_add, i_iadd, i_sub, i_mul, i_mod, i_fdiv, i_fdivG, i_pow, i_neg, i_le, i_ge, i_gt, i_lt, i_eq, i_ne, i_intI, i_intB, i_abs, i_max, i_min, i_lenL, i_lenT, i_ixL, i_ixT, i_tupL, i_tupT, i_truB, Bool.not_true, Bool.not_false, Bool.false_eq_true, if_true, if_false, reduceIte]
  refine ⟨by simp, by decide, fun x hx g m c => ?_⟩
  have hx2 : ∃ p g : Nat, x = .int p ∧ isP p = true ∧ Chk p g := by
    simp only [List.mem_cons, List.not_mem_nil, or_false] at hx
    rcases hx with rfl | rfl | rfl | rfl | rfl | rfl | rfl | rfl | rfl | rfl | rfl | rfl | rfl | rfl | rfl | rfl | rfl
    · exact ⟨2, 1, rfl, by decide +kernel, chk_ok c2⟩
    · exact ⟨3, 2, rfl, by decide +kernel, chk_ok c3⟩
    · exact ⟨5, 2, rfl, by decide +kernel, chk_ok c5⟩
    · exact ⟨7, 3, rfl, by decide +kernel, chk_ok c7⟩
    · exact ⟨11, 2, rfl, by decide +kernel, chk_ok c11⟩
    · exact ⟨13, 2, rfl, by decide +kernel, chk_ok c13⟩
    · exact ⟨17, 3, rfl, by decide +kernel, chk_ok c17⟩
    · exact ⟨19, 2, rfl, by decide +kernel, chk_ok c19⟩
    · exact ⟨23, 5, rfl, by decide +kernel, chk_ok c23⟩
    · exact ⟨31, 3, rfl, by decide +kernel, chk_ok c31⟩
    · exact ⟨41, 6, rfl, by decide +kernel, chk_ok c41⟩
    · exact ⟨43, 3, rfl, by decide +kernel, chk_ok c43⟩
    · exact ⟨71, 7, rfl, by decide +kernel, chk_ok c71⟩
    · exact ⟨73, 5, rfl, by decide +kernel, chk_ok c73⟩
    · exact ⟨97, 5, rfl, by decide +kernel, chk_ok c97⟩
    · exact ⟨191, 19, rfl, by decide +kernel, chk_ok c191⟩
    · exact ⟨409, 21, rfl, by decide +kernel, chk_ok c409⟩
  obtain ⟨p, r, rfl, hp, hc⟩ := hx2
  exact roots_tail hp hc fin
/-! ### Fermat, reckoned -/
def ferN (p : Nat) : Nat → Bool
  | 0 => true
  | n + 1 => ((n + 1) ^ (p - 1) % p == 1) && ferN p n
theorem fer_ok {p : Nat} : ∀ n : Nat, ferN p n = true → ∀ l, 0 < l → l ≤ n → l ^ (p - 1) % p = 1
  | 0, _, l, h1, h2 => by omega
  | n + 1, h, l, h1, h2 => by
    have h' : (((n + 1) ^ (p - 1) % p == 1) && ferN p n) = true := h
    rw [Bool.and_eq_true, beq_iff_eq] at h'
    by_cases e : l = n + 1
    · subst e; exact h'.1
    · exact fer_ok n h'.2 l h1 (by omega)
theorem fer {p : Nat} (h : ferN p (p - 1) = true) : Fer p := fun l h1 h2 => by
  obtain ⟨n, rfl⟩ := Int.eq_ofNat_of_zero_le (show 0 ≤ l by omega)
  have := fer_ok (p - 1) h n (by omega) (by omega)
  rw [show (((p : Nat) : Int) - 1).toNat = p - 1 by omega]
  exact_mod_cast this
theorem in_loop {ns : List Int} {d s5 : Sl} {R : Ed} : ∀ (xs : List D) (s3 s4 : Sl) (g m c : Int), (∀ (s3 s4 : Sl) (g m c : Int), R.nx [.scr ns, d, .own [.int g, .int m, .int c], s3, s4, s5]) →
    forW (wgN 3) (wSeq (wSet 4 (wFnJ 2 2 wf__law_sip (wCons (wLe (wSz (wCons (wC (.int 2)) (wCons (wC (.int 3)) (wCons (wC (.int 5)) (wCons (wC (.int 7)) (wCons (wC (.int 11)) (wCons (wC (.int 101)) (wCons (wC (.int 4999)) (wCons (wC (.int 9967)) (wCons (wC (.int 9973)) wNil))))))))))) wNil)))
      (wIfS (wOr (wNot (wTr (wFnJ 2 1 wf__law_numbers_right wNil))) (wOr (wNot (wTr (wFnJ 2 2 wf__law_letters_right (wCons (wVar 4) wNil)))) (wNot (wTr (wFnJ 2 1 wf__law_roots_right wNil))))) (wRet (wC (.bool false))) wNext)) R xs [.scr ns, d, .own [.int g, .int m, .int c], s3, s4, s5]
  | [], s3, s4, g, m, c, q => q s3 s4 g m c
  | x :: xs, s3, s4, g, m, c, q => by
    unfold forW
    simp only [wVar, wC, wOp, wUn, wCl, wB, wTr, wAnd, wOr, wNot, wAndV, wOrV, wNotV, wIf, wCh, wNil, wCons, wTup, wLe, wSz, wFn, wFnJ, wNext, wRet, wRetN, wDrop, wIfS, wSet, wSetOwn, wNever, wAug, wOpO, wOpR, wClO, wApp, wSetIt, wFrz, wFor, wRg1, wRg2, wSq, wEnum, wZip, wgN, wgT, wgNil, wgCons, wYes, wAsgT, wgLs, wLenS, wIxS, wFnS, wIsi, wListOf, wRev, edP, edJ, enP, enJ, enS, NotOwn, Flat, List.map_cons, List.map_nil, List.length_cons, List.length_nil, List.replicate_succ, List.replicate_zero, List.cons_append, List.nil_append, List.append_nil, List.set_cons_zero, List.set_cons_succ, List.getElem?_cons_zero, List.getElem?_cons_succ, Nat.reduceAdd, Nat.reduceSub, Option.some.injEq, Sl.imm.injEq, Sl.own.injEq, Sl.scr.injEq, exists_eq_left, exists_eq_left', exists_eq_right, exists_eq, exists_eq', exists_and_left, and_assoc, and_true, true_and, ne_eq, not_false_eq_true, Nat.succ_ne_zero, or_true, true_or, true_implies, forall_eq', forall_eq, PyData.int.injEq, PyData.bool.injEq, PyData.list.injEq, PyData.tuple.injEq, List.cons.injEq, i_add, i_iadd, i_sub, i_mul, i_mod, i_fdiv, i_fdivG, i_pow, i_neg, i_le, i_ge, i_gt, i_lt, i_eq, i_ne, i_intI, i_intB, i_abs, i_max, i_min, i_lenL, i_lenT, i_ixL, i_ixT, i_tupL, i_tupT, i_truB, Bool.not_true, Bool.not_false, Bool.false_eq_true, if_true, if_false, reduceIte]
    (try dsimp only); rw [wSeq_eq]; simp only [wf__law_sip, sz0, sz1, sz2, sz3, sz4, sz5, sz6, sz7, sz8, sz9, sz10, sz11, sz12, sz13, sz14, sz15, sz16, sz17, sz18, sz19, sz20, sz21, sz22, sz23, sz24, sz25, sz26, sz27, sz28, sz29, sz30, sz31, sz32, sz33, sz34, sz35, sz36, sz37, sz38, sz39, sz40, wVar, wC, wOp, wUn, wCl, wB, wTr, wAnd, wOr, wNot, wAndV, wOrV, wNotV, wIf, wCh, wNil, wCons, wTup, wLe, wSz, wFn, wFnJ, wNext, wRet, wRetN, wDrop, wIfS, wSet, wSetOwn, wNever, wAug, wOpO, wOpR, wClO, wApp, wSetIt, wFrz, wFor, wRg1, wRg2, wSq, wEnum, wZip, wgN, wgT, wgNil, wgCons, wYes, wAsgT, wgLs, wLenS, wIxS, wFnS, wIsi, wListOf, wRev, edP, edJ, enP, enJ, enS, NotOwn, Flat, List.map_cons, List.map_nil, List.length_cons, List.length_nil, List.replicate_succ, List.replicate_zero, List.cons_append, List.nil_append, List.append_nil, List.set_cons_zero, List.set_cons_succ, List.getElem?_cons_zero, List.getElem?_cons_succ, Nat.reduceAdd, Nat.reduceSub, Option.some.injEq, Sl.imm.injEq, Sl.own.injEq, Sl.scr.injEq, exists_eq_left, exists_eq_left', exists_eq_right, exists_eq, exists_eq', exists_and_left, and_assoc, and_true, true_and, ne_eq, not_false_eq_true, Nat.succ_ne_zero, or_true, true_or, true_implies, forall_eq', forall_eq, PyData.int.injEq, PyData.bool.injEq, PyData.list.injEq, PyData.tuple.injEq, List.cons.injEq, i_add, i_iadd, i_sub, i_mul, i_mod, i_fdiv, i_fdivG, i_pow, i_neg, i_le, i_ge, i_gt, i_lt, i_eq, i_ne, i_intI, i_intB, i_abs, i_max, i_min, i_lenL, i_lenT, i_ixL, i_ixT, i_tupL, i_tupT, i_truB, Bool.not_true, Bool.not_false, Bool.false_eq_true, if_true, if_false, reduceIte]
    refine ⟨by simp, by decide, fun x hx g m c => ?_⟩
    have hx2 : ∃ p : Nat, x = .int p ∧ isP p = true ∧ Fer p := by
      simp only [List.mem_cons, List.not_mem_nil, or_false] at hx
      rcases hx with rfl | rfl | rfl | rfl | rfl | rfl | rfl | rfl | rfl
      · exact ⟨2, rfl, by decide +kernel, fer (by decide +kernel)⟩
      · exact ⟨3, rfl, by decide +kernel, fer (by decide +kernel)⟩
      · exact ⟨5, rfl, by decide +kernel, fer (by decide +kernel)⟩
      · exact ⟨7, rfl, by decide +kernel, fer (by decide +kernel)⟩
      · exact ⟨11, rfl, by decide +kernel, fer (by decide +kernel)⟩
      · exact ⟨101, rfl, by decide +kernel, fer (by decide +kernel)⟩
      · exact ⟨4999, rfl, by decide +kernel, fer (by decide +kernel)⟩
      · exact ⟨9967, rfl, by decide +kernel, fer (by decide +kernel)⟩
      · exact ⟨9973, rfl, by decide +kernel, fer (by decide +kernel)⟩
    obtain ⟨p, rfl, hp, hf⟩ := hx2
    simp only [wf__law_numbers_right, wf__law_roots_right, wf__law_letters_right, wVar, wC, wOp, wUn, wCl, wB, wTr, wAnd, wOr, wNot, wAndV, wOrV, wNotV, wIf, wCh, wNil, wCons, wTup, wLe, wSz, wFn, wFnJ, wNext, wSeq, wRet, wRetN, wDrop, wIfS, wSet, wSetOwn, wNever, wAug, wOpO, wOpR, wClO, wApp, wSetIt, wFrz, wFor, wRg1, wRg2, wSq, wEnum, wZip, wgN, wgT, wgNil, wgCons, wYes, wAsgT, wgLs, wLenS, wIxS, wFnS, wIsi, wListOf, wRev, edP, edJ, enP, enJ, enS, NotOwn, Flat, List.map_cons, List.map_nil, List.length_cons, List.length_nil, List.replicate_succ, List.replicate_zero, List.cons_append, List.nil_append, List.append_nil, List.set_cons_zero, List.set_cons_succ, List.getElem?_cons_zero, List.getElem?_cons_succ, Nat.reduceAdd, Nat.reduceSub, Option.some.injEq, Sl.imm.injEq, Sl.own.injEq, Sl.scr.injEq, exists_eq_left, exists_eq_left', exists_eq_right, exists_eq, exists_eq', exists_and_left, and_assoc, and_true, true_and, ne_eq, not_false_eq_true, Nat.succ_ne_zero, or_true, true_or, true_implies, forall_eq', forall_eq, PyData.int.injEq, PyData.bool.injEq, PyData.list.injEq, PyData.tuple.injEq, List.cons.injEq, i_add, i_iadd, i_sub, i_mul, i_mod, i_fdiv, i_fdivG, i_pow, i_neg, i_le, i_ge, i_gt, i_lt, i_eq, i_ne, i_intI, i_intB, i_abs, i_max, i_min, i_lenL, i_lenT, i_ixL, i_ixT, i_tupL, i_tupT, i_truB, Bool.not_true, Bool.not_false, Bool.false_eq_true, if_true, if_false, reduceIte]
    exact fun g m c => ⟨hp, hf, fun g m c g m c => in_loop xs _ _ g m c q⟩
theorem out_loop {ns : List Int} {s5 : Sl} {R : Ed} : ∀ (xs : List D), (∀ x ∈ xs, ∃ i : Nat, x = .int i) → ∀ (s1 s2 s3 s4 : Sl), (∀ (s1 s2 s3 s4 : Sl), R.nx [.scr ns, s1, s2, s3, s4, s5]) →
    forW (wgN 1) (wSeq (wSetOwn 2 (wFnS 0 2 wf__law_jug (wCons (wVar 1) wNil))) (wFor (wRg1 (wCons (wC (.int 4)) wNil)) (wgN 3) (wSeq (wSet 4 (wFnJ 2 2 wf__law_sip (wCons (wLe (wSz (wCons (wC (.int 2)) (wCons (wC (.int 3)) (wCons (wC (.int 5)) (wCons (wC (.int 7)) (wCons (wC (.int 11)) (wCons (wC (.int 101)) (wCons (wC (.int 4999)) (wCons (wC (.int 9967)) (wCons (wC (.int 9973)) wNil))))))))))) wNil)))
      (wIfS (wOr (wNot (wTr (wFnJ 2 1 wf__law_numbers_right wNil))) (wOr (wNot (wTr (wFnJ 2 2 wf__law_letters_right (wCons (wVar 4) wNil)))) (wNot (wTr (wFnJ 2 1 wf__law_roots_right wNil))))) (wRet (wC (.bool false))) wNext)))) R xs [.scr ns, s1, s2, s3, s4, s5]
  | [], _, s1, s2, s3, s4, q => q s1 s2 s3 s4
  | x :: xs, hx, s1, s2, s3, s4, q => by
    obtain ⟨i, rfl⟩ := hx x List.mem_cons_self
    unfold forW
    simp only [wVar, wC, wOp, wUn, wCl, wB, wTr, wAnd, wOr, wNot, wAndV, wOrV, wNotV, wIf, wCh, wNil, wCons, wTup, wLe, wSz, wFn, wFnJ, wNext, wRet, wRetN, wDrop, wIfS, wSet, wSetOwn, wNever, wAug, wOpO, wOpR, wClO, wApp, wSetIt, wFrz, wFor, wRg1, wRg2, wSq, wEnum, wZip, wgN, wgT, wgNil, wgCons, wYes, wAsgT, wgLs, wLenS, wIxS, wFnS, wIsi, wListOf, wRev, edP, edJ, enP, enJ, enS, NotOwn, Flat, List.map_cons, List.map_nil, List.length_cons, List.length_nil, List.replicate_succ, List.replicate_zero, List.cons_append, List.nil_append, List.append_nil, List.set_cons_zero, List.set_cons_succ, List.getElem?_cons_zero, List.getElem?_cons_succ, Nat.reduceAdd, Nat.reduceSub, Option.some.injEq, Sl.imm.injEq, Sl.own.injEq, Sl.scr.injEq, exists_eq_left, exists_eq_left', exists_eq_right, exists_eq, exists_eq', exists_and_left, and_assoc, and_true, true_and, ne_eq, not_false_eq_true, Nat.succ_ne_zero, or_true, true_or, true_implies, forall_eq', forall_eq, PyData.int.injEq, PyData.bool.injEq, PyData.list.injEq, PyData.tuple.injEq, List.cons.injEq, i_add, i_iadd, i_sub, i_mul, i_mod, i_fdiv, i_fdivG, i_pow, i_neg, i_le, i_ge, i_gt, i_lt, i_eq, i_ne, i_intI, i_intB, i_abs, i_max, i_min, i_lenL, i_lenT, i_ixL, i_ixT, i_tupL, i_tupT, i_truB, Bool.not_true, Bool.not_false, Bool.false_eq_true, if_true, if_false, reduceIte]
    (try dsimp only); rw [wSeq_eq]; simp only [wf__law_jug, wVar, wC, wOp, wUn, wCl, wB, wTr, wAnd, wOr, wNot, wAndV, wOrV, wNotV, wIf, wCh, wNil, wCons, wTup, wLe, wSz, wFn, wFnJ, wNext, wRet, wRetN, wDrop, wIfS, wSet, wSetOwn, wNever, wAug, wOpO, wOpR, wClO, wApp, wSetIt, wFrz, wFor, wRg1, wRg2, wSq, wEnum, wZip, wgN, wgT, wgNil, wgCons, wYes, wAsgT, wgLs, wLenS, wIxS, wFnS, wIsi, wListOf, wRev, edP, edJ, enP, enJ, enS, NotOwn, Flat, List.map_cons, List.map_nil, List.length_cons, List.length_nil, List.replicate_succ, List.replicate_zero, List.cons_append, List.nil_append, List.append_nil, List.set_cons_zero, List.set_cons_succ, List.getElem?_cons_zero, List.getElem?_cons_succ, Nat.reduceAdd, Nat.reduceSub, Option.some.injEq, Sl.imm.injEq, Sl.own.injEq, Sl.scr.injEq, exists_eq_left, exists_eq_left', exists_eq_right, exists_eq, exists_eq', exists_and_left, and_assoc, and_true, true_and, ne_eq, not_false_eq_true, Nat.succ_ne_zero, or_true, true_or, true_implies, forall_eq', forall_eq, PyData.int.injEq, PyData.bool.injEq, PyData.list.injEq, PyData.tuple.injEq, List.cons.injEq, i_add, i_iadd, i_sub, i_mul, i_mod, i_fdiv, i_fdivG, i_pow, i_neg, i_le, i_ge, i_gt, i_lt, i_eq, i_ne, i_intI, i_intB, i_abs, i_max, i_min, i_lenL, i_lenT, i_ixL, i_ixT, i_tupL, i_tupT, i_truB, Bool.not_true, Bool.not_false, Bool.false_eq_true, if_true, if_false, reduceIte]
    refine ⟨ns, [(i : Int)], rfl, rfl, rfl, i, rfl, fun g m c => ⟨[g, m, c], rfl, ?_⟩⟩
    simp only [wVar, wC, wOp, wUn, wCl, wB, wTr, wAnd, wOr, wNot, wAndV, wOrV, wNotV, wIf, wCh, wNil, wCons, wTup, wLe, wSz, wFn, wFnJ, wNext, wRet, wRetN, wDrop, wIfS, wSet, wSetOwn, wNever, wAug, wOpO, wOpR, wClO, wApp, wSetIt, wFrz, wFor, wRg1, wRg2, wSq, wEnum, wZip, wgN, wgT, wgNil, wgCons, wYes, wAsgT, wgLs, wLenS, wIxS, wFnS, wIsi, wListOf, wRev, edP, edJ, enP, enJ, enS, NotOwn, Flat, List.map_cons, List.map_nil, List.length_cons, List.length_nil, List.replicate_succ, List.replicate_zero, List.cons_append, List.nil_append, List.append_nil, List.set_cons_zero, List.set_cons_succ, List.getElem?_cons_zero, List.getElem?_cons_succ, Nat.reduceAdd, Nat.reduceSub, Option.some.injEq, Sl.imm.injEq, Sl.own.injEq, Sl.scr.injEq, exists_eq_left, exists_eq_left', exists_eq_right, exists_eq, exists_eq', exists_and_left, and_assoc, and_true, true_and, ne_eq, not_false_eq_true, Nat.succ_ne_zero, or_true, true_or, true_implies, forall_eq', forall_eq, PyData.int.injEq, PyData.bool.injEq, PyData.list.injEq, PyData.tuple.injEq, List.cons.injEq, i_add, i_iadd, i_sub, i_mul, i_mod, i_fdiv, i_fdivG, i_pow, i_neg, i_le, i_ge, i_gt, i_lt, i_eq, i_ne, i_intI, i_intB, i_abs, i_max, i_min, i_lenL, i_lenT, i_ixL, i_ixT, i_tupL, i_tupT, i_truB, Bool.not_true, Bool.not_false, Bool.false_eq_true, if_true, if_false, reduceIte]
    refine ⟨by decide, by decide, ?_⟩
    exact in_loop _ _ _ g m c fun s3 s4 g m c => out_loop xs (fun x hx' => hx x (List.mem_cons_of_mem _ hx')) _ _ _ _ q
theorem rng_nat {n : Nat} : ∀ x ∈ rngD 0 n, ∃ i : Nat, x = .int i ∧ i < n := fun x hx => by
  obtain ⟨i, hi⟩ := List.getElem?_of_mem hx
  obtain ⟨e, h⟩ := rngD_get hi
  exact ⟨i, by rw [e, Int.zero_add], h⟩
theorem ex_inv {p b l : Int} : ∀ (n i : Nat), (∀ j, i ≤ j → j < i + n → b ^ j % p ≠ l) ∨ ∃ t : Nat, exF p b l n i = .int t
  | 0, i => Or.inl fun j a b => by omega
  | n + 1, i => by
    by_cases e : b ^ i % p = l
    · exact Or.inr ⟨i, by show (if b ^ i % p = l then PyData.int i else _) = _; rw [if_pos e]⟩
    · rcases ex_inv (p := p) (b := b) (l := l) n (i + 1) with h | ⟨t, h⟩
      · refine Or.inl fun j a c => ?_
        by_cases e2 : j = i
        · subst e2; exact e
        · exact h j (by omega) (by omega)
      · exact Or.inr ⟨t, by show (if b ^ i % p = l then PyData.int i else exF p b l n (i + 1)) = _; rw [if_neg e]; exact h⟩
theorem rt_of {p g : Nat} (c : Chk p g) (hp : isP p = true) {Q : D → Prop} (q : Q (.int g)) : wf_root [.int p] Q :=
  ⟨p, g, rfl, hp, by have := c.g1; omega, by have := c.g1; omega, c.rt, fun l l1 l2 => by
    obtain ⟨n, rfl⟩ := Int.eq_ofNat_of_zero_le (show 0 ≤ l by omega)
    exact (c.lo n (by omega) (by omega)).2, q⟩
theorem pu_law (ns ds Q) (hl : ds.length + 1 = 1) (h : wf_law ns ds Q) : ws_law (edP Q) (enS N_law ns ds) := by
  obtain ⟨rfl, hn, q⟩ := h
  unfold ws_law
  (try dsimp only); rw [wSeq_eq]; simp only [N_law, wVar, wC, wOp, wUn, wCl, wB, wTr, wAnd, wOr, wNot, wAndV, wOrV, wNotV, wIf, wCh, wNil, wCons, wTup, wLe, wSz, wFn, wFnJ, wNext, wRet, wRetN, wDrop, wIfS, wSet, wSetOwn, wNever, wAug, wOpO, wOpR, wClO, wApp, wSetIt, wFrz, wFor, wRg1, wRg2, wSq, wEnum, wZip, wgN, wgT, wgNil, wgCons, wYes, wAsgT, wgLs, wLenS, wIxS, wFnS, wIsi, wListOf, wRev, edP, edJ, enP, enJ, enS, NotOwn, Flat, List.map_cons, List.map_nil, List.length_cons, List.length_nil, List.replicate_succ, List.replicate_zero, List.cons_append, List.nil_append, List.append_nil, List.set_cons_zero, List.set_cons_succ, List.getElem?_cons_zero, List.getElem?_cons_succ, Nat.reduceAdd, Nat.reduceSub, Option.some.injEq, Sl.imm.injEq, Sl.own.injEq, Sl.scr.injEq, exists_eq_left, exists_eq_left', exists_eq_right, exists_eq, exists_eq', exists_and_left, and_assoc, and_true, true_and, ne_eq, not_false_eq_true, Nat.succ_ne_zero, or_true, true_or, true_implies, forall_eq', forall_eq, PyData.int.injEq, PyData.bool.injEq, PyData.list.injEq, PyData.tuple.injEq, List.cons.injEq, i_add, i_iadd, i_sub, i_mul, i_mod, i_fdiv, i_fdivG, i_pow, i_neg, i_le, i_ge, i_gt, i_lt, i_eq, i_ne, i_intI, i_intB, i_abs, i_max, i_min, i_lenL, i_lenT, i_ixL, i_ixT, i_tupL, i_tupT, i_truB, Bool.not_true, Bool.not_false, Bool.false_eq_true, if_true, if_false, reduceIte]
  refine ⟨by split <;> (try split) <;> omega, by split <;> (try split) <;> omega, ?_⟩
  refine out_loop _ (fun x hx => (rng_nat x hx).imp fun _ h => h.1) _ _ _ _ fun s1 s2 s3 s4 => ?_
  have e9 : (10 : Int) ^ Int.toNat 9 = 1000000000 := by decide +kernel
  have p9 : PowOk 10 9 := pow_ok (by decide +kernel)
  have n1 : ∀ z, dNe (.tuple [.int 9973, .int 1000000000]) (.tuple [.int 9973, .int 1000000000]) z ↔ z = .bool false := fun z => ne_self (by rfl) (by rfl)
  (try dsimp only); rw [wSeq_eq]; simp only [sz0, sz1, sz2, sz3, sz4, sz5, sz6, sz7, sz8, sz9, sz10, sz11, sz12, sz13, sz14, sz15, sz16, sz17, sz18, sz19, sz20, sz21, sz22, sz23, sz24, sz25, sz26, sz27, sz28, sz29, sz30, sz31, sz32, sz33, sz34, sz35, sz36, sz37, sz38, sz39, sz40, e9, p9, n1, wVar, wC, wOp, wUn, wCl, wB, wTr, wAnd, wOr, wNot, wAndV, wOrV, wNotV, wIf, wCh, wNil, wCons, wTup, wLe, wSz, wFn, wFnJ, wNext, wRet, wRetN, wDrop, wIfS, wSet, wSetOwn, wNever, wAug, wOpO, wOpR, wClO, wApp, wSetIt, wFrz, wFor, wRg1, wRg2, wSq, wEnum, wZip, wgN, wgT, wgNil, wgCons, wYes, wAsgT, wgLs, wLenS, wIxS, wFnS, wIsi, wListOf, wRev, edP, edJ, enP, enJ, enS, NotOwn, Flat, List.map_cons, List.map_nil, List.length_cons, List.length_nil, List.replicate_succ, List.replicate_zero, List.cons_append, List.nil_append, List.append_nil, List.set_cons_zero, List.set_cons_succ, List.getElem?_cons_zero, List.getElem?_cons_succ, Nat.reduceAdd, Nat.reduceSub, Option.some.injEq, Sl.imm.injEq, Sl.own.injEq, Sl.scr.injEq, exists_eq_left, exists_eq_left', exists_eq_right, exists_eq, exists_eq', exists_and_left, and_assoc, and_true, true_and, ne_eq, not_false_eq_true, Nat.succ_ne_zero, or_true, true_or, true_implies, forall_eq', forall_eq, PyData.int.injEq, PyData.bool.injEq, PyData.list.injEq, PyData.tuple.injEq, List.cons.injEq, i_add, i_iadd, i_sub, i_mul, i_mod, i_fdiv, i_fdivG, i_pow, i_neg, i_le, i_ge, i_gt, i_lt, i_eq, i_ne, i_intI, i_intB, i_abs, i_max, i_min, i_lenL, i_lenT, i_ixL, i_ixT, i_tupL, i_tupT, i_truB, Bool.not_true, Bool.not_false, Bool.false_eq_true, if_true, if_false, reduceIte]
  refine rt_of (chk_ok c2) (by decide +kernel) (rt_of (chk_ok c41) (by decide +kernel) (rt_of (chk_ok c71) (by decide +kernel) (rt_of (chk_ok c191) (by decide +kernel) ?_)))
  have n2 : ∀ z, dNe (.list [.int 1, .int 6, .int 7, .int 19]) (.list [.int 1, .int 6, .int 7, .int 19]) z ↔ z = .bool false := fun z => ne_self (by rfl) (by rfl)
  refine ⟨.bool false, (n2 _).mpr rfl, false, rfl, ?_⟩
  rw [if_neg (by decide)]
  (try dsimp only); rw [wSeq_eq]; simp only [sz0, sz1, sz2, sz3, sz4, sz5, sz6, sz7, sz8, sz9, sz10, sz11, sz12, sz13, sz14, sz15, sz16, sz17, sz18, sz19, sz20, sz21, sz22, sz23, sz24, sz25, sz26, sz27, sz28, sz29, sz30, sz31, sz32, sz33, sz34, sz35, sz36, sz37, sz38, sz39, sz40, wVar, wC, wOp, wUn, wCl, wB, wTr, wAnd, wOr, wNot, wAndV, wOrV, wNotV, wIf, wCh, wNil, wCons, wTup, wLe, wSz, wFn, wFnJ, wNext, wRet, wRetN, wDrop, wIfS, wSet, wSetOwn, wNever, wAug, wOpO, wOpR, wClO, wApp, wSetIt, wFrz, wFor, wRg1, wRg2, wSq, wEnum, wZip, wgN, wgT, wgNil, wgCons, wYes, wAsgT, wgLs, wLenS, wIxS, wFnS, wIsi, wListOf, wRev, edP, edJ, enP, enJ, enS, NotOwn, Flat, List.map_cons, List.map_nil, List.length_cons, List.length_nil, List.replicate_succ, List.replicate_zero, List.cons_append, List.nil_append, List.append_nil, List.set_cons_zero, List.set_cons_succ, List.getElem?_cons_zero, List.getElem?_cons_succ, Nat.reduceAdd, Nat.reduceSub, Option.some.injEq, Sl.imm.injEq, Sl.own.injEq, Sl.scr.injEq, exists_eq_left, exists_eq_left', exists_eq_right, exists_eq, exists_eq', exists_and_left, and_assoc, and_true, true_and, ne_eq, not_false_eq_true, Nat.succ_ne_zero, or_true, true_or, true_implies, forall_eq', forall_eq, PyData.int.injEq, PyData.bool.injEq, PyData.list.injEq, PyData.tuple.injEq, List.cons.injEq, i_add, i_iadd, i_sub, i_mul, i_mod, i_fdiv, i_fdivG, i_pow, i_neg, i_le, i_ge, i_gt, i_lt, i_eq, i_ne, i_intI, i_intB, i_abs, i_max, i_min, i_lenL, i_lenT, i_ixL, i_ixT, i_tupL, i_tupT, i_truB, Bool.not_true, Bool.not_false, Bool.false_eq_true, if_true, if_false, reduceIte]
  have p7 : isP 7 = true := by decide +kernel
  refine ⟨7, 0, 0, rfl, p7, by decide, by decide, by decide, by decide, 7, 0, 3, rfl, p7, by decide, by decide, by decide, by decide, 2, 1, 0, rfl, by decide +kernel, by decide, by decide, by decide, by decide, 7, 5, 1, rfl, p7, by decide, by decide, by decide, by decide, ?_⟩
  have x1 : exF 7 0 0 (Int.toNat 7) 0 = .int 1 := ex_some (t := 1) (by decide +kernel) _ 0 (by decide) (by decide) fun j _ hj => (show ∀ j : Nat, j < 1 → (0 : Int) ^ j % 7 ≠ 0 by decide +kernel) j hj
  have x2 : exF 7 0 3 (Int.toNat 7) 0 = .none := ex_none _ 0 fun j _ hj => (show ∀ j : Nat, j < 7 → (0 : Int) ^ j % 7 ≠ 3 by decide +kernel) j (by have : Int.toNat 7 = 7 := rfl; omega)
  have x3 : exF 2 1 0 (Int.toNat 2) 0 = .none := ex_none _ 0 fun j _ hj => (show ∀ j : Nat, j < 2 → (1 : Int) ^ j % 2 ≠ 0 by decide +kernel) j (by have : Int.toNat 2 = 2 := rfl; omega)
  have x4 : exF 7 5 1 (Int.toNat 7) 0 = .int 0 := ex_some (t := 0) (by decide +kernel) _ 0 (by decide) (by decide) fun j _ hj => by omega
  rw [x1, x2, x3, x4]
  refine ⟨.bool true, (eq_self' (by rfl) (by rfl)).mpr rfl, true, rfl, ?_⟩
  rw [if_pos rfl]
  have p1009 : isP 1009 = true := by decide +kernel
  refine ⟨1009, 11, 1007, rfl, p1009, by decide, by decide, by decide, 1009, 11, 11 ^ 1007 % 1009, rfl, p1009, by decide, by decide, Int.emod_nonneg _ (by decide), Int.emod_lt_of_pos _ (by decide), ?_⟩
  rcases ex_inv (p := 1009) (b := 11) (l := 11 ^ 1007 % 1009) (Int.toNat 1009) 0 with h | ⟨t, h⟩
  · exact absurd rfl (h 1007 (by decide) (by decide))
  · rw [h]
    exact ⟨.bool true, ⟨rfl, rfl⟩, q⟩
end K01

set_option Elab.async false
set_option linter.all false
set_option maxRecDepth 100000
set_option maxHeartbeats 0
namespace K01
open PySem PySem.Spec PyProof.Rows L2 Pd
def dd (x : Str) (i : Nat) : He.DefD := ⟨(x, none), x, x, defArgs (top i), defBody (top i), defScope (top i), [], []⟩
def fn : List He.DefD := [dd "is_whole" 4, dd "is_between" 5, dd "check_between" 6, dd "least_divisor" 10, dd "is_prime" 11, dd "check_prime" 12, dd "check_letter" 13, dd "next_prime" 14, dd "power_of" 15, dd "inverse_of" 16, dd "inverse" 17, dd "power" 18, dd "prime_divisors" 19, dd "is_root" 20, dd "root" 21, dd "exponent_of" 22, dd "_law_jug" 24, dd "_law_pour" 25, dd "_law_sip" 26, dd "_law_is_prime" 27, dd "_law_powers" 28, dd "_law_power" 29, dd "_law_numbers_right" 30, dd "_law_letters_right" 31, dd "_law_shared" 32, dd "_law_roots_right" 33, dd "law" 34]
def fa : List He.Fa := [.glo "is_whole", .glo "is_between", .glo "check_between", .glo "least_divisor", .glo "is_prime", .glo "check_prime", .glo "check_letter", .glo "next_prime", .glo "power_of", .glo "inverse_of", .glo "inverse", .glo "power", .glo "prime_divisors", .glo "is_root", .glo "root", .glo "exponent_of", .glo "_law_jug", .glo "_law_pour", .glo "_law_sip", .glo "_law_is_prime", .glo "_law_powers", .glo "_law_power", .glo "_law_numbers_right", .glo "_law_letters_right", .glo "_law_shared", .glo "_law_roots_right", .glo "law", .int "MOST_PRIME" 9973, .int "MOST_TIMES" 1000000000, .free "abs", .free "all", .free "bool", .free "int", .free "isinstance", .free "len", .free "max", .free "min", .free "range"]
def bs : List (Str × String) := []
abbrev R : PySem.W.OpenRow := PySem.W.OpenLaw.row RR
abbrev hk : PySem.W.Hook := hkB 4 fa fn bs
def ob (s : PySem.W.SharedT) : AlB := obBG 4 fa fn bs (HandSHeadRun.getT s)
theorem ob_eq (s : PySem.W.SharedT) : ob s = hk.obs s.abs := obB_eq (HandSHeadRun.getT_eq s)
abbrev loose : List Str := (["InvalidNumber", "Refused", "is_whole", "is_between", "check_between", "MOST_PRIME", "MOST_TIMES", "least_divisor", "is_prime", "check_prime", "check_letter", "next_prime", "power_of", "inverse_of", "inverse"] : List Str) ++ (["power", "prime_divisors", "is_root", "root", "exponent_of", "_law_jug", "_law_pour", "_law_sip", "_law_is_prime", "_law_powers", "_law_power", "_law_numbers_right", "_law_letters_right", "_law_shared", "_law_roots_right"] : List Str)
theorem run (w : World) : HandSHeadRun.RunEq R (PySem.W.view R.prog [34]) hk ob 8000 loose w := by
  intro os
  kernel_rfl
theorem facts {P : Program} {w : World} {K : PySem.W.Frag} {h : Heap} {mg : Str → Option Value} {f : Addr} (X : K.In h) (G : h.Ns mainGlobals mg) (hfa : mg ("law" : Str) = some (.ref f)) (cb : SaysB fa fn bs K) :
    ∃ fd : FuncData, (∀ (s : Shared) (v : Value), BindsTo s fd ⟨[v], []⟩ [("script", v)]) ∧ ∀ base : Heap, K.In base → base.Ns mainGlobals mg → FnOk P w K mg base CX0 34 f fd ["script"] (spS K 1 wf_law) := by
  have c := cb.d
  have T : Tb mg := ⟨He.free_ok X G (c.fact 29 (f := .free "abs") rfl), He.free_ok X G (c.fact 30 (f := .free "all") rfl), He.free_ok X G (c.fact 31 (f := .free "bool") rfl), He.free_ok X G (c.fact 32 (f := .free "int") rfl), He.free_ok X G (c.fact 33 (f := .free "isinstance") rfl), He.free_ok X G (c.fact 34 (f := .free "len") rfl), He.free_ok X G (c.fact 35 (f := .free "max") rfl), He.free_ok X G (c.fact 36 (f := .free "min") rfl), He.free_ok X G (c.fact 37 (f := .free "range") rfl), He.int_ok X G (c.fact 27 (f := .int "MOST_PRIME" 9973) rfl), He.int_ok X G (c.fact 28 (f := .int "MOST_TIMES" 1000000000) rfl)⟩
  obtain ⟨_, F_is_whole⟩ := c.def_ 0 (d := dd "is_whole" 4) rfl
  obtain ⟨_, F_is_between⟩ := c.def_ 1 (d := dd "is_between" 5) rfl
  obtain ⟨_, F_check_between⟩ := c.def_ 2 (d := dd "check_between" 6) rfl
  obtain ⟨_, F_least_divisor⟩ := c.def_ 3 (d := dd "least_divisor" 10) rfl
  obtain ⟨_, F_is_prime⟩ := c.def_ 4 (d := dd "is_prime" 11) rfl
  obtain ⟨_, F_check_prime⟩ := c.def_ 5 (d := dd "check_prime" 12) rfl
  obtain ⟨_, F_check_letter⟩ := c.def_ 6 (d := dd "check_letter" 13) rfl
  obtain ⟨_, F_next_prime⟩ := c.def_ 7 (d := dd "next_prime" 14) rfl
  obtain ⟨_, F_power_of⟩ := c.def_ 8 (d := dd "power_of" 15) rfl
  obtain ⟨_, F_inverse_of⟩ := c.def_ 9 (d := dd "inverse_of" 16) rfl
  obtain ⟨_, F_inverse⟩ := c.def_ 10 (d := dd "inverse" 17) rfl
  obtain ⟨_, F_power⟩ := c.def_ 11 (d := dd "power" 18) rfl
  obtain ⟨_, F_prime_divisors⟩ := c.def_ 12 (d := dd "prime_divisors" 19) rfl
  obtain ⟨_, F_is_root⟩ := c.def_ 13 (d := dd "is_root" 20) rfl
  obtain ⟨_, F_root⟩ := c.def_ 14 (d := dd "root" 21) rfl
  obtain ⟨_, F_exponent_of⟩ := c.def_ 15 (d := dd "exponent_of" 22) rfl
  obtain ⟨_, F__law_jug⟩ := c.def_ 16 (d := dd "_law_jug" 24) rfl
  obtain ⟨_, F__law_pour⟩ := c.def_ 17 (d := dd "_law_pour" 25) rfl
  obtain ⟨_, F__law_sip⟩ := c.def_ 18 (d := dd "_law_sip" 26) rfl
  obtain ⟨_, F__law_is_prime⟩ := c.def_ 19 (d := dd "_law_is_prime" 27) rfl
  obtain ⟨_, F__law_powers⟩ := c.def_ 20 (d := dd "_law_powers" 28) rfl
  obtain ⟨_, F__law_power⟩ := c.def_ 21 (d := dd "_law_power" 29) rfl
  obtain ⟨_, F__law_numbers_right⟩ := c.def_ 22 (d := dd "_law_numbers_right" 30) rfl
  obtain ⟨_, F__law_letters_right⟩ := c.def_ 23 (d := dd "_law_letters_right" 31) rfl
  obtain ⟨_, F__law_shared⟩ := c.def_ 24 (d := dd "_law_shared" 32) rfl
  obtain ⟨_, F__law_roots_right⟩ := c.def_ 25 (d := dd "_law_roots_right" 33) rfl
  obtain ⟨fd, F⟩ := c.def_ 26 (d := dd "law" 34) rfl
  have e := hfa.symm.trans (He.glo_ok X G (c.fact 26 (f := .glo "law") rfl))
  cases e
  have b := FunD.bindsA (ps := ["script"]) F fun _ _ _ _ _ _ us hl => match us, hl with | [_], _ => rfl
  refine ⟨fd, fun s v => b s [v] rfl, fun base _ _ => ?_⟩
  have C_is_whole : Cal P w K mg base 1 "is_whole" ["value"] (spP K 1 wf_is_whole) := ok_is_whole T  F_is_whole (He.glo_ok X G (c.fact 0 (f := .glo "is_whole") rfl)) pu_is_whole
  have C_is_between : Cal P w K mg base 2 "is_between" ["value", "least", "most"] (spP K 3 wf_is_between) := ok_is_between T C_is_whole F_is_between (He.glo_ok X G (c.fact 1 (f := .glo "is_between") rfl)) pu_is_between
  have C_check_between : Cal P w K mg base 3 "check_between" ["value", "least", "most"] (spP K 3 wf_check_between) := ok_check_between T C_is_between F_check_between (He.glo_ok X G (c.fact 2 (f := .glo "check_between") rfl)) pu_check_between
  have C_least_divisor : Cal P w K mg base 1 "least_divisor" ["number"] (spP K 1 wf_least_divisor) := ok_least_divisor T  F_least_divisor (He.glo_ok X G (c.fact 3 (f := .glo "least_divisor") rfl)) pu_least_divisor
  have C_is_prime : Cal P w K mg base 3 "is_prime" ["value"] (spP K 1 wf_is_prime) := ok_is_prime T C_least_divisor C_is_between F_is_prime (He.glo_ok X G (c.fact 4 (f := .glo "is_prime") rfl)) pu_is_prime
  have C_check_prime : Cal P w K mg base 4 "check_prime" ["prime"] (spP K 1 wf_check_prime) := ok_check_prime T C_is_prime F_check_prime (He.glo_ok X G (c.fact 5 (f := .glo "check_prime") rfl)) pu_check_prime
  have C_check_letter : Cal P w K mg base 4 "check_letter" ["prime", "letter"] (spP K 2 wf_check_letter) := ok_check_letter T C_check_between F_check_letter (He.glo_ok X G (c.fact 6 (f := .glo "check_letter") rfl)) pu_check_letter
  have C_next_prime : Cal P w K mg base 4 "next_prime" ["number"] (spP K 1 wf_next_prime) := ok_next_prime T C_check_between C_is_prime F_next_prime (He.glo_ok X G (c.fact 7 (f := .glo "next_prime") rfl)) pu_next_prime
  have C_power_of : Cal P w K mg base 1 "power_of" ["prime", "letter", "times"] (spP K 3 wf_power_of) := ok_power_of T  F_power_of (He.glo_ok X G (c.fact 8 (f := .glo "power_of") rfl)) pu_power_of
  have C_inverse_of : Cal P w K mg base 2 "inverse_of" ["prime", "letter"] (spP K 2 wf_inverse_of) := ok_inverse_of T C_power_of F_inverse_of (He.glo_ok X G (c.fact 9 (f := .glo "inverse_of") rfl)) pu_inverse_of
  have C_inverse : Cal P w K mg base 5 "inverse" ["prime", "letter"] (spP K 2 wf_inverse) := ok_inverse T C_check_prime C_check_letter C_inverse_of F_inverse (He.glo_ok X G (c.fact 10 (f := .glo "inverse") rfl)) pu_inverse
  have C_power : Cal P w K mg base 5 "power" ["prime", "letter", "times"] (spP K 3 wf_power) := ok_power T C_check_prime C_check_letter C_check_between C_power_of F_power (He.glo_ok X G (c.fact 11 (f := .glo "power") rfl)) pu_power
  have C_prime_divisors : Cal P w K mg base 2 "prime_divisors" ["number"] (spP K 1 wf_prime_divisors) := ok_prime_divisors T C_least_divisor F_prime_divisors (He.glo_ok X G (c.fact 12 (f := .glo "prime_divisors") rfl)) pu_prime_divisors
  have C_is_root : Cal P w K mg base 3 "is_root" ["prime", "letter"] (spP K 2 wf_is_root) := ok_is_root T C_prime_divisors C_power_of F_is_root (He.glo_ok X G (c.fact 13 (f := .glo "is_root") rfl)) pu_is_root
  have C_root : Cal P w K mg base 5 "root" ["prime"] (spP K 1 wf_root) := ok_root T C_check_prime C_is_root F_root (He.glo_ok X G (c.fact 14 (f := .glo "root") rfl)) pu_root
  have C_exponent_of : Cal P w K mg base 5 "exponent_of" ["prime", "base", "letter"] (spP K 3 wf_exponent_of) := ok_exponent_of T C_check_prime C_check_letter F_exponent_of (He.glo_ok X G (c.fact 15 (f := .glo "exponent_of") rfl)) pu_exponent_of
  have C__law_jug : Cal P w K mg base 1 "_law_jug" ["script", "spot"] (spS K 2 wf__law_jug) := ok__law_jug T  F__law_jug (He.glo_ok X G (c.fact 16 (f := .glo "_law_jug") rfl)) pu__law_jug
  have C__law_pour : Cal P w K mg base 1 "_law_pour" ["jug", "total"] (spJ K 2 wf__law_pour) := ok__law_pour T  F__law_pour (He.glo_ok X G (c.fact 17 (f := .glo "_law_pour") rfl)) pu__law_pour
  have C__law_sip : Cal P w K mg base 2 "_law_sip" ["jug", "items"] (spJ K 2 wf__law_sip) := ok__law_sip T C__law_pour F__law_sip (He.glo_ok X G (c.fact 18 (f := .glo "_law_sip") rfl)) pu__law_sip
  have C__law_is_prime : Cal P w K mg base 1 "_law_is_prime" ["number"] (spP K 1 wf__law_is_prime) := ok__law_is_prime T  F__law_is_prime (He.glo_ok X G (c.fact 19 (f := .glo "_law_is_prime") rfl)) pu__law_is_prime
  have C__law_powers : Cal P w K mg base 1 "_law_powers" ["prime", "letter"] (spP K 2 wf__law_powers) := ok__law_powers T  F__law_powers (He.glo_ok X G (c.fact 20 (f := .glo "_law_powers") rfl)) pu__law_powers
  have C__law_power : Cal P w K mg base 32 "_law_power" ["prime", "letter", "times"] (spP K 3 wf__law_power) := ok__law_power T  F__law_power (He.glo_ok X G (c.fact 21 (f := .glo "_law_power") rfl)) pu__law_power
  have C__law_numbers_right : Cal P w K mg base 5 "_law_numbers_right" ["jug"] (spJ K 1 wf__law_numbers_right) := ok__law_numbers_right T C__law_pour C__law_sip C__law_is_prime C_is_prime C_next_prime F__law_numbers_right (He.glo_ok X G (c.fact 22 (f := .glo "_law_numbers_right") rfl)) pu__law_numbers_right
  have C__law_letters_right : Cal P w K mg base 33 "_law_letters_right" ["jug", "prime"] (spJ K 2 wf__law_letters_right) := ok__law_letters_right T C__law_sip C__law_pour C_power C__law_power C_inverse F__law_letters_right (He.glo_ok X G (c.fact 23 (f := .glo "_law_letters_right") rfl)) pu__law_letters_right
  have C__law_shared : Cal P w K mg base 1 "_law_shared" ["one", "other"] (spP K 2 wf__law_shared) := ok__law_shared T  F__law_shared (He.glo_ok X G (c.fact 24 (f := .glo "_law_shared") rfl)) pu__law_shared
  have C__law_roots_right : Cal P w K mg base 6 "_law_roots_right" ["jug"] (spJ K 1 wf__law_roots_right) := ok__law_roots_right T C__law_sip C_root C__law_powers C__law_pour C_power C__law_shared C_exponent_of F__law_roots_right (He.glo_ok X G (c.fact 25 (f := .glo "_law_roots_right") rfl)) pu__law_roots_right
  exact fnS F sc_law rfl (fun cdv A outer s H E hr => der_law T C__law_jug C__law_sip C__law_roots_right C__law_letters_right C__law_numbers_right C_root C_exponent_of C_power _ cdv A outer s H E hr) pu_law
end K01
open PySem PySem.W PySem.Calls PyProof.Rows
theorem PySem.Challenge.cw_fetchunseen_k01_whole_inverses_powers_an_holds : PySem.Challenge.rw_fetchunseen_k01_whole_inverses_powers_an.Holds := by
  w_on; o_law
  refine HandSHeadRun.head_any (r := OpenLaw.row K01.RR) (q := view (OpenLaw.row K01.RR).prog [34]) (H := K01.hk) (ob := K01.ob) (M := 8000) (loose := K01.loose) (d := HandSHeadRun.topDef (OpenLaw.row K01.RR).prog 34) (kwd := []) K01.ob_eq
    (by kernel_rfl) (fun s => by kernel_rfl) K01.run (by kernel_rfl) (by kernel_rfl) (by kernel_rfl) (by rfl) (by first | assumption | decide +kernel) (by decide +kernel) ⟨rfl, rfl, rfl, rfl, rfl, by decide +kernel⟩ ?hw ?hc
  case hw => w_witness2
  case hc =>
    refine L2.walk_ofE (l := PySem.Challenge.rw_fetchunseen_k01_whole_inverses_powers_an) (n := 63) (k := 34) (x := "script") (CX := L2.CX0) rfl (by decide) (by kernel_rfl) ⟨rfl, by decide, by decide⟩ ?F (fun _ _ _ _ z => z)
    intro w mg fa h Y G hmg0
    obtain ⟨K, KX, c⟩ := Y
    have hmg : mg ("law" : PySem.Str) = some (.ref fa) := by
      have e : (HandSHeadRun.topDef (OpenLaw.row K01.RR).prog 34).name = ("law" : PySem.Str) := by kernel_rfl
      rw [← e]
      exact hmg0
    obtain ⟨fd, hb, hF⟩ := K01.facts (P := (PySem.Challenge.rw_fetchunseen_k01_whole_inverses_powers_an).prog) (w := w) KX G hmg c
    exact ⟨K, fd, Pd.spS K 1 K01.wf_law, KX, hb, fun H a ns hl hO hS => Pd.law_sp hl hO hS, hF⟩

