import PyProof.Rows.All
import Wide.All
import OpenK.AllK
import Wide.FinOn
import HandS.ForMost
import HandS.Evl
import HandS.Wide
import HandS.IsInst
import HandS.Gcd
import HandS.Zip
import HandS.TupAny
import HandS.TupMul
import HandS.Style
import HandS.Defaults
import HandS.WordsExc
import KE.GoesMore
import KE.GoesEnum
import HandS.HeadHook2
import HandS.HeadEnd
import HandS.Head2
import HandS.RaiseMore
import HandS.NoneIn
import HandS.Head3
import PySem.Challenge.RW_fetchunseen_k13_whole_means_and_what_is
set_option Elab.async false
set_option linter.all false
set_option maxRecDepth 100000
set_option maxHeartbeats 4000000
/-! A pure reading over data: slots hold data or one's own lists, expressions and statements are read over these alone. -/
namespace Pd
open PySem PySem.Spec PyProof.Rows L2
abbrev D := PyData
abbrev Sg := List (Option V)
abbrev Ex (H H' : Hp) : Prop := ∀ a o, H a = some o → H' a = some o
theorem Ex.rf (H : Hp) : Ex H H := fun _ _ h => h
theorem Ex.tr {H H1 H2 : Hp} (a : Ex H H1) (b : Ex H1 H2) : Ex H H2 := fun x o h => b x o (a x o h)
theorem Ex.up {H : Hp} {p : Addr} {o : HO} (h : H p = none) : Ex H (upd H p o) := fun a u e => by
  rw [upd_ne (ne_of_none e h)]; exact e
theorem Ex.no {H H' : Hp} {p : Addr} (e : Ex H H') (h : H' p = none) : H p = none := by
  cases h1 : H p with
  | none => rfl
  | some o => rw [e p o h1] at h; cases h
/-! a value stands for data: tracked lists, tuples of any kind -/
mutual
inductive Da (K : PySem.W.Frag) (H : Hp) : V → PyData → Prop
  | non : Da K H .non .none
  | bl (b : Bool) : Da K H (.bl b) (.bool b)
  | int (i : Int) : Da K H (.int i) (.int i)
  | str (x : Str) : Da K H (.str x) (.str x)
  | lst {a : Addr} {xs : List V} {ds : List PyData} : H a = some (.lst xs) → DaAll K H xs ds → Da K H (.ref a) (.list ds)
  | tup {a : Addr} {xs : List V} {ds : List PyData} : SqT K H a xs → DaAll K H xs ds → Da K H (.ref a) (.tuple ds)
inductive DaAll (K : PySem.W.Frag) (H : Hp) : List V → List PyData → Prop
  | nil : DaAll K H [] []
  | cons {v : V} {vs : List V} {d : PyData} {ds : List PyData} : Da K H v d → DaAll K H vs ds → DaAll K H (v :: vs) (d :: ds)
end
section
variable {K : PySem.W.Frag} {H H' : Hp}
theorem rd_ex {a : Addr} {u : HO} (e : Ex H H') (h : Rd H a u) : Rd H' a u := by
  rcases h with h | ⟨o, h⟩
  · exact Or.inl (e a _ h)
  · exact Or.inr ⟨o, e a _ h⟩
theorem sql_ex {a : Addr} {xs : List V} (e : Ex H H') (h : SqL K H a xs) : SqL K H' a xs := by
  rcases h with h | h
  · exact Or.inl (rd_ex e h)
  · exact Or.inr h
theorem sqt_ex {a : Addr} {xs : List V} (e : Ex H H') (h : SqT K H a xs) : SqT K H' a xs := by
  rcases h with h | h
  · exact Or.inl (rd_ex e h)
  · exact Or.inr h
mutual
theorem dp_ex (e : Ex H H') : ∀ (d : D) (v : V), Da K H v d → Da K H' v d
  | .none, _, h => by cases h; exact .non
  | .bool b, _, h => by cases h; exact .bl b
  | .int i, _, h => by cases h; exact .int i
  | .str x, _, h => by cases h; exact .str x
  | .list ds, _, h => by
    cases h with
    | lst hs ha => exact .lst (e _ _ hs) (dpa_ex e ds _ ha)
  | .tuple ds, _, h => by
    cases h with
    | tup hs ha => exact .tup (sqt_ex e hs) (dpa_ex e ds _ ha)
  | .dict _, _, h => by cases h
theorem dpa_ex (e : Ex H H') : ∀ (ds : List D) (vs : List V), DaAll K H vs ds → DaAll K H' vs ds
  | [], _, h => by cases h; exact .nil
  | d :: ds, _, h => by
    cases h with
    | cons h1 h2 => exact .cons (dp_ex e d _ h1) (dpa_ex e ds _ h2)
end
theorem Da.up {v : V} {d : D} (h : Da K H v d) (e : Ex H H') : Da K H' v d := dp_ex e d v h
theorem DaAll.up {vs : List V} {ds : List D} (h : DaAll K H vs ds) (e : Ex H H') : DaAll K H' vs ds := dpa_ex e ds vs h
mutual
theorem da_dp : ∀ (d : D) (v : V), Da K H v d → Dp K H v d
  | .none, _, h => by cases h; exact .non
  | .bool b, _, h => by cases h; exact .bl b
  | .int i, _, h => by cases h; exact .int i
  | .str x, _, h => by cases h; exact .str x
  | .list ds, _, h => by
    cases h with
    | lst hs ha => exact .lst (SqL.of hs) (daa_dp ds _ ha)
  | .tuple ds, _, h => by
    cases h with
    | tup hs ha => exact .tup hs (daa_dp ds _ ha)
  | .dict _, _, h => by cases h
theorem daa_dp : ∀ (ds : List D) (vs : List V), DaAll K H vs ds → DpAll K H vs ds
  | [], _, h => by cases h; exact .nil
  | d :: ds, _, h => by
    cases h with
    | cons h1 h2 => exact .cons (da_dp d _ h1) (daa_dp ds _ h2)
end
theorem Da.dp {v : V} {d : D} (h : Da K H v d) : Dp K H v d := da_dp d v h
theorem dpa_len : ∀ {vs : List V} {ds : List D}, DaAll K H vs ds → vs.length = ds.length
  | _, _, .nil => rfl
  | _, _, .cons _ t => congrArg (· + 1) (dpa_len t)
theorem dpa_get : ∀ {vs : List V} {ds : List D} {i : Nat} {d : D}, DaAll K H vs ds → ds[i]? = some d → ∃ v, vs[i]? = some v ∧ Da K H v d
  | _, _, _, _, .nil, h => by simp at h
  | _, _, 0, _, .cons a _, h => by simp at h; subst h; exact ⟨_, rfl, a⟩
  | _, _, i + 1, d, .cons _ t, h => by
    obtain ⟨v, h1, h2⟩ := dpa_get (i := i) (d := d) t (by simpa using h)
    exact ⟨v, by simpa using h1, h2⟩
theorem dpa_get' : ∀ {vs : List V} {ds : List D} {i : Nat} {v : V}, DaAll K H vs ds → vs[i]? = some v → ∃ d, ds[i]? = some d ∧ Da K H v d
  | _, _, _, _, .nil, h => by simp at h
  | _, _, 0, _, .cons a _, h => by simp at h; subst h; exact ⟨_, rfl, a⟩
  | _, _, i + 1, d, .cons _ t, h => by
    obtain ⟨v, h1, h2⟩ := dpa_get' (i := i) t (by simpa using h)
    exact ⟨v, by simpa using h1, h2⟩
theorem dpa_app : ∀ {vs us : List V} {ds es : List D}, DaAll K H vs ds → DaAll K H us es → DaAll K H (vs ++ us) (ds ++ es)
  | _, _, _, _, .nil, h => h
  | _, _, _, _, .cons a t, h => .cons a (dpa_app t h)
theorem dpa_take : ∀ {vs : List V} {ds : List D} (n : Nat), DaAll K H vs ds → DaAll K H (vs.take n) (ds.take n)
  | _, _, 0, _ => .nil
  | _, _, _ + 1, .nil => .nil
  | _, _, n + 1, .cons r t => .cons r (dpa_take n t)
theorem dpa_drop : ∀ {vs : List V} {ds : List D} (n : Nat), DaAll K H vs ds → DaAll K H (vs.drop n) (ds.drop n)
  | _, _, 0, h => h
  | _, _, _ + 1, .nil => .nil
  | _, _, n + 1, .cons _ t => dpa_drop n t
theorem dpa_set : ∀ {vs : List V} {ds : List D} {v : V} {d : D} (n : Nat), DaAll K H vs ds → Da K H v d → DaAll K H (vs.set n v) (ds.set n d)
  | _, _, _, _, _, .nil, _ => .nil
  | _, _, _, _, 0, .cons _ t, h => .cons h t
  | _, _, _, _, n + 1, .cons r t, h => .cons r (dpa_set n t h)
theorem dpa_erase : ∀ {vs : List V} {ds : List D} (n : Nat), DaAll K H vs ds → DaAll K H (vs.eraseIdx n) (ds.eraseIdx n)
  | _, _, _, .nil => .nil
  | _, _, 0, .cons _ t => t
  | _, _, n + 1, .cons r t => .cons r (dpa_erase n t)
theorem dpa_rev : ∀ {vs : List V} {ds : List D}, DaAll K H vs ds → DaAll K H vs.reverse ds.reverse
  | _, _, .nil => .nil
  | _, _, .cons r t => by
    rw [List.reverse_cons, List.reverse_cons]
    exact dpa_app (dpa_rev t) (.cons r .nil)
theorem dpa_ints : ∀ (ns : List Int), DaAll K H (ns.map V.int) (ns.map PyData.int)
  | [] => .nil
  | n :: ns => .cons (.int n) (dpa_ints ns)
theorem dpa_ints_inv : ∀ {vs : List V} (ns : List Int), DaAll K H vs (ns.map PyData.int) → vs = ns.map V.int
  | _, [], h => by cases h; rfl
  | _, n :: ns, h => by
    cases h with
    | cons a t => cases a; rw [dpa_ints_inv ns t]; rfl
theorem dpa_bls_inv : ∀ {vs : List V} (ns : List Bool), DaAll K H vs (ns.map PyData.bool) → vs = ns.map V.bl
  | _, [], h => by cases h; rfl
  | _, n :: ns, h => by
    cases h with
    | cons a t => cases a; rw [dpa_bls_inv ns t]; rfl
end

/-! ### slots -/
inductive Sl where
  /-- data -/
  | imm (d : D)
  /-- a list of one's own, which may change -/
  | own (ds : List D)
  /-- the law's own list of ints, never written -/
  | scr (ns : List Int)
  | un
abbrev En := List Sl
/-- a list that is never written: locked, or of the module -/
def SqS (K : PySem.W.Frag) (H : Hp) (a : Addr) (xs : List V) : Prop := (∃ o, H a = some (.frz o (.lst xs))) ∨ ∀ H', SqL K H' a xs
theorem SqS.l {K : PySem.W.Frag} {H : Hp} {a : Addr} {xs : List V} (h : SqS K H a xs) : SqL K H a xs := by
  rcases h with ⟨o, h⟩ | h
  · exact Or.inl (Or.inr ⟨o, h⟩)
  · exact h H
theorem sqs_ex {K : PySem.W.Frag} {H H' : Hp} {a : Addr} {xs : List V} (e : Ex H H') (h : SqS K H a xs) : SqS K H' a xs := by
  rcases h with ⟨o, h⟩ | h
  · exact Or.inl ⟨o, e _ _ h⟩
  · exact Or.inr h
def SlOk (K : PySem.W.Frag) (I H : Hp) (v : Option (Option V)) : Sl → Prop
  | .un => True
  | .imm d => ∃ x, v = some (some x) ∧ Da K I x d
  | .own ds => ∃ l vs, v = some (some (.ref l)) ∧ I l = none ∧ H l = some (.lst vs) ∧ DaAll K I vs ds
  | .scr ns => ∃ a, v = some (some (.ref a)) ∧ SqS K I a (ns.map V.int)
structure Gh where
  He : Hp
  I0 : Hp
  J : Option Addr
  /-- objects of the code around, which stay as they are -/
  P : List (Addr × HO) := []
/-- slot i holds one's own list at l -/
def OwnAt (σ : Sg) (en : En) (i : Nat) (l : Addr) : Prop := σ[i]? = some (some (V.ref l)) ∧ ∃ ds, en[i]? = some (.own ds)
structure Ok (K : PySem.W.Frag) (G : Gh) (σ : Sg) (en : En) (H I : Hp) : Prop where
  i0 : Ex G.I0 I
  iH : Ex I H
  nw : ∀ a, G.He a ≠ none → G.I0 a = none → I a = none
  fr : ∀ a o, G.He a = some o → G.J ≠ some a → H a = some o
  ln : σ.length = en.length
  sl : ∀ (i : Nat) (s : Sl), en[i]? = some s → SlOk K I H σ[i]? s
  ml : ∀ (i : Nat) (l : Addr), OwnAt σ en i l → G.J = some l ∨ G.He l = none
  ds : ∀ (i j : Nat) (l : Addr), OwnAt σ en i l → OwnAt σ en j l → i = j
  pj : ∀ l, G.J = some l → OwnAt σ en 0 l
  pr : ∀ p ∈ G.P, H p.1 = some p.2 ∧ I p.1 = none ∧ ∀ i, ¬ OwnAt σ en i p.1
section
variable {K : PySem.W.Frag} {G : Gh} {σ : Sg} {en : En} {H I H' I' : Hp}
theorem Ok.own (o : Ok K G σ en H I) {i : Nat} {ds : List D} (h : en[i]? = some (.own ds)) : ∃ l vs, σ[i]? = some (some (.ref l)) ∧ I l = none ∧ H l = some (.lst vs) ∧ DaAll K I vs ds := o.sl i _ h
theorem Ok.imm (o : Ok K G σ en H I) {i : Nat} {d : D} (h : en[i]? = some (.imm d)) : ∃ x, σ[i]? = some (some x) ∧ Da K I x d := o.sl i _ h
/-- the heap grows by what is new -/
theorem Ok.grow (o : Ok K G σ en H I) (e1 : Ex H H') (e2 : Ex I I') (e3 : Ex I' H') (n : ∀ a, I' a ≠ none → I a = none → H a = none) : Ok K G σ en H' I' := by
  refine ⟨o.i0.tr e2, e3, fun a h1 h2 => ?_, fun a u h1 h2 => e1 a u (o.fr a u h1 h2), o.ln, fun i s h => ?_, o.ml, o.ds, o.pj, fun p hp => ?_⟩
  · have h3 := o.nw a h1 h2
    by_cases h4 : I' a = none
    · exact h4
    · have h5 := n a h4 h3
      by_cases hj : G.J = some a
      · obtain ⟨q, ds, q2⟩ := o.pj a hj
        obtain ⟨l, vs, q3, _, q5, _⟩ := o.own q2
        rw [q] at q3
        have q4 : a = l := by injection q3 with q3; injection q3 with q3; injection q3
        rw [q4, q5] at h5
        cases h5
      · cases h6 : G.He a with
        | none => exact absurd h6 h1
        | some u => rw [o.fr a u h6 hj] at h5; cases h5
  · have q := o.sl i s h
    cases s with
    | un => trivial
    | scr ns => obtain ⟨a, q1, q2⟩ := q; exact ⟨a, q1, sqs_ex e2 q2⟩
    | imm d =>
      obtain ⟨x, q1, q2⟩ := q
      exact ⟨x, q1, q2.up e2⟩
    | own ds =>
      obtain ⟨l, vs, q1, q2, q3, q4⟩ := q
      refine ⟨l, vs, q1, ?_, e1 _ _ q3, q4.up e2⟩
      by_cases h4 : I' l = none
      · exact h4
      · have h5 := n l h4 q2
        rw [q3] at h5
        cases h5
  · obtain ⟨q1, q2, q3⟩ := o.pr p hp
    refine ⟨e1 _ _ q1, ?_, q3⟩
    by_cases h4 : I' p.1 = none
    · exact h4
    · have h5 := n p.1 h4 q2
      rw [q1] at h5
      cases h5
/-- one new object, known from now on -/
theorem Ok.new (o : Ok K G σ en H I) {p : Addr} {u : HO} (hp : H p = none) : Ok K G σ en (upd H p u) (upd I p u) ∧ Ex I (upd I p u) := by
  have hi : I p = none := o.iH.no hp
  refine ⟨o.grow (Ex.up hp) (Ex.up hi) (fun a v h => ?_) fun a h1 h2 => ?_, Ex.up hi⟩
  · by_cases e : a = p
    · subst e; rw [upd_same] at h ⊢; exact h
    · rw [upd_ne e] at h ⊢; exact o.iH a v h
  · by_cases e : a = p
    · subst e; exact hp
    · rw [upd_ne e] at h1; exact absurd h2 h1
end

/-! ### readings over data -/
abbrev WE := En → (D → En → Prop) → Prop
abbrev WT := En → (Bool → En → Prop) → Prop
abbrev WA := En → (List D → En → Prop) → Prop
structure Ed where
  nx : En → Prop
  rt : D → En → Prop
  bk : En → Prop := fun _ => False
  ct : En → Prop := fun _ => False
abbrev WS := Ed → En → Prop
section
variable (K : PySem.W.Frag)
def lE (w : WE) : TE := fun σ H Q => ∃ (G : Gh) (en : En) (I : Hp) (Q' : D → En → Prop), Ok K G σ en H I ∧ w en Q' ∧
  ∀ v H' I' en' d, Ok K G σ en' H' I' → Ex I I' → Da K I' v d → Q' d en' → Q v H'
def lT (w : WT) : TT := fun σ H Q => ∃ (G : Gh) (en : En) (I : Hp) (Q' : Bool → En → Prop), Ok K G σ en H I ∧ w en Q' ∧
  ∀ b H' I' en', Ok K G σ en' H' I' → Ex I I' → Q' b en' → Q b H'
def lA (w : WA) : TA := fun σ H Q => ∃ (G : Gh) (en : En) (I : Hp) (Q' : List D → En → Prop), Ok K G σ en H I ∧ w en Q' ∧
  ∀ vs H' I' en' ds, Ok K G σ en' H' I' → Ex I I' → DaAll K I' vs ds → Q' ds en' → Q vs H'
def lS (w : WS) : TS := fun R σ H => ∃ (G : Gh) (en : En) (I : Hp) (R' : Ed), Ok K G σ en H I ∧ w R' en ∧
  (∀ σ' H' I' en', Ok K G σ' en' H' I' → R'.nx en' → R.nx σ' H') ∧
  (∀ v σ' H' I' en' d, Ok K G σ' en' H' I' → Da K I' v d → R'.rt d en' → R.rt v H') ∧
  (∀ σ' H' I' en', Ok K G σ' en' H' I' → R'.bk en' → R.bk σ' H') ∧
  (∀ σ' H' I' en', Ok K G σ' en' H' I' → R'.ct en' → R.ct σ' H')
end
theorem _root_.L2.PE.mo {X : Cx} {e : Expr} {t t' : TE} (h : PE X e t) (m : ∀ σ H Q, t' σ H Q → t σ H Q) : PE X e t' := ⟨fun pins s σ H Q I q => h.run pins s σ H Q I (m σ H Q q)⟩
theorem _root_.L2.PT.mo {X : Cx} {e : Expr} {t t' : TT} (h : PT X e t) (m : ∀ σ H Q, t' σ H Q → t σ H Q) : PT X e t' := ⟨fun pins s σ H Q I q => h.run pins s σ H Q I (m σ H Q q)⟩
theorem _root_.L2.PW.mo {X : Cx} {e : Expr} {t t' : TT} (h : PW X e t) (m : ∀ σ H Q, t' σ H Q → t σ H Q) : PW X e t' := ⟨fun wh pins s σ H Q I q => h.run wh pins s σ H Q I (m σ H Q q)⟩
theorem _root_.L2.PA.mo {X : Cx} {e : List Expr} {t t' : TA} (h : PA X e t) (m : ∀ σ H Q, t' σ H Q → t σ H Q) : PA X e t' := ⟨fun pos pins s σ H Q I q => h.run pos pins s σ H Q I (m σ H Q q)⟩
theorem _root_.L2.PS.mo {X : Cx} {e : Stmt} {t t' : TS} (h : PS X e t) (m : ∀ D σ H, t' D σ H → t D σ H) : PS X e t' := ⟨fun pins s σ H D I q => h.run pins s σ H D I (m D σ H q)⟩
theorem _root_.L2.PSs.mo {X : Cx} {e : List Stmt} {t t' : TS} (h : PSs X e t) (m : ∀ D σ H, t' D σ H → t D σ H) : PSs X e t' := ⟨fun pins s σ H D I q => h.run pins s σ H D I (m D σ H q)⟩
end Pd

set_option Elab.async false
set_option linter.all false
set_option maxRecDepth 100000
set_option maxHeartbeats 4000000
namespace Pd
open PySem PySem.Spec PyProof.Rows L2
/-! ### names, constants -/
def wVar (i : Nat) : WE := fun en Q => ∃ d, en[i]? = some (.imm d) ∧ Q d en
def wC (d : D) : WE := fun en Q => Q d en
section
variable {X : Cx} {e a b c : Expr} {es : List Expr} {pos : Pos} {wa wb wc : WE}
theorem d_var {i : Nat} (h : PE X e (tVar i)) : PE X e (lE X.K (wVar i)) := h.mo fun σ H Q ⟨G, en, I, Q', o, ⟨d, hd, q⟩, k⟩ => by
  obtain ⟨x, h1, h2⟩ := o.imm hd
  exact ⟨x, h1, k x H I en d o (Ex.rf I) h2 q⟩
theorem d_c {v : V} {d : D} (h : PE X e (tC v)) (hd : ∀ H, Da X.K H v d) : PE X e (lE X.K (wC d)) := h.mo fun σ H Q ⟨G, en, I, Q', o, q, k⟩ => k v H I en d o (Ex.rf I) (hd I) q
theorem d_int {i j pos} : PE X (.Constant (.int i) j pos) (lE X.K (wC (.int i))) := d_c pe_int fun _ => .int i
theorem d_bl {b j pos} : PE X (.Constant (.bool b) j pos) (lE X.K (wC (.bool b))) := d_c pe_bl fun _ => .bl b
theorem d_non {j pos} : PE X (.Constant .none j pos) (lE X.K (wC .none)) := d_c pe_non fun _ => .non
theorem d_str {x j pos} : PE X (.Constant (.str x) j pos) (lE X.K (wC (.str x))) := d_c pe_str fun _ => .str x

/-! ### operators -/
/-- what comes of an operation: the heap grown by what is new -/
structure Gr (H I H' I' : Hp) : Prop where
  h : Ex H H'
  i : Ex I I'
  s : Ex I' H'
  n : ∀ a, I' a ≠ none → I a = none → H a = none
theorem Gr.rf {H I : Hp} (e : Ex I H) : Gr H I H I := ⟨Ex.rf _, Ex.rf _, e, fun a h1 h2 => absurd h2 h1⟩
theorem Gr.nw {H I : Hp} {p : Addr} {u : HO} (e : Ex I H) (hp : H p = none) : Gr H I (upd H p u) (upd I p u) := by
  have hi : I p = none := e.no hp
  refine ⟨Ex.up hp, Ex.up hi, fun a v h => ?_, fun a h1 h2 => ?_⟩
  · by_cases q : a = p
    · subst q; rw [upd_same] at h ⊢; exact h
    · rw [upd_ne q] at h ⊢; exact e a v h
  · by_cases q : a = p
    · subst q; exact hp
    · rw [upd_ne q] at h1; exact absurd h2 h1
theorem Ok.gr {K : PySem.W.Frag} {G : Gh} {σ : Sg} {en : En} {H I H' I' : Hp} (o : Ok K G σ en H I) (g : Gr H I H' I') : Ok K G σ en H' I' := o.grow g.h g.i g.s g.n
/-- r does on values what f tells of data -/
def SndOp (K : PySem.W.Frag) (r : R2) (f : D → D → D → Prop) : Prop := ∀ (H I : Hp) (x y : V) (d e z : D), Ex I H → Da K I x d → Da K I y e → f d e z → ∀ Q : VK, (∀ v H' I', Gr H I H' I' → Da K I' v z → Q v H') → r x y H Q
def SndUn (K : PySem.W.Frag) (r : V → Hp → VK → Prop) (f : D → D → Prop) : Prop := ∀ (H I : Hp) (x : V) (d z : D), Ex I H → Da K I x d → f d z → ∀ Q : VK, (∀ v H' I', Gr H I H' I' → Da K I' v z → Q v H') → r x H Q
def SndCl (K : PySem.W.Frag) (r : List V → Hp → VK → Prop) (f : List D → D → Prop) : Prop := ∀ (H I : Hp) (xs : List V) (ds : List D) (z : D), Ex I H → DaAll K I xs ds → f ds z → ∀ Q : VK, (∀ v H' I', Gr H I H' I' → Da K I' v z → Q v H') → r xs H Q
def wOp (f : D → D → D → Prop) (wa wb : WE) : WE := fun en Q => wa en fun x e1 => wb e1 fun y e2 => ∃ z, f x y z ∧ Q z e2
def wUn (f : D → D → Prop) (wa : WE) : WE := fun en Q => wa en fun x e1 => ∃ z, f x z ∧ Q z e1
def wCl (f : List D → D → Prop) (wa : WA) : WE := fun en Q => wa en fun xs e1 => ∃ z, f xs z ∧ Q z e1
theorem lop {r : R2} {f : D → D → D → Prop} (h : SndOp X.K r f) {σ : Sg} {H : Hp} {Q : VK} (q : lE X.K (wOp f wa wb) σ H Q) : tOp r (lE X.K wa) (lE X.K wb) σ H Q := by
  obtain ⟨G, en, I, Q', o, q, k⟩ := q
  refine ⟨G, en, I, _, o, q, fun v H1 I1 e1 d o1 x1 dv q1 => ?_⟩
  refine ⟨G, e1, I1, _, o1, q1, fun u H2 I2 e2 d2 o2 x2 du q2 => ?_⟩
  obtain ⟨z, fz, q2⟩ := q2
  exact h H2 I2 v u d d2 z o2.iH (dv.up x2) du fz Q fun v' H3 I3 g dz => k v' H3 I3 e2 z (o2.gr g) ((x1.tr x2).tr g.i) dz q2
theorem d_op {op : Operator} {r : R2} {f : D → D → D → Prop} (ho : OpR X (binaryOp op) r) (hs : SndOp X.K r f) (ha : PE X a (lE X.K wa)) (hb : PE X b (lE X.K wb)) : PE X (.BinOp a op b pos) (lE X.K (wOp f wa wb)) :=
  (pe_op ho ha hb).mo fun σ H Q q => lop hs q
theorem d_un {op : UnaryOp} {r : V → Hp → VK → Prop} {f : D → D → Prop} (ho : UnR X (unaryOp op) r) (hs : SndUn X.K r f) (ha : PE X a (lE X.K wa)) : PE X (.UnaryOp op a pos) (lE X.K (wUn f wa)) :=
  (pe_un ho ha).mo fun σ H Q ⟨G, en, I, Q', o, q, k⟩ => ⟨G, en, I, _, o, q, fun v H1 I1 e1 d o1 x1 dv ⟨z, fz, q1⟩ => hs H1 I1 v d z o1.iH dv fz Q fun v' H3 I3 g dz => k v' H3 I3 e1 z (o1.gr g) (x1.tr g.i) dz q1⟩
theorem d_cmp {op : CmpOp} {r : R2} {f : D → D → D → Prop} (ho : OpR X (compareOp op) r) (hs : SndOp X.K r f) (ha : PE X a (lE X.K wa)) (hb : PE X b (lE X.K wb)) (hm : behindInMarks op b = false) : PE X (.Compare a [op] [b] pos) (lE X.K (wOp f wa wb)) :=
  (pe_cmpR ho ha hb hm).mo fun σ H Q q => lop hs q
/-! ### tests -/
/-- a bool -/
def wB (w : WE) : WT := fun en Q => w en fun d e1 => ∃ c, d = .bool c ∧ Q c e1
def Tru : D → Bool → Prop
  | .none, k => k = false
  | .bool b, k => k = b
  | .int i, k => k = (i != 0)
  | .str y, k => y.length ≤ sizeLine ∧ k = ((y.length : Int) != 0)
  | .list ds, k => k = !ds.isEmpty
  | .tuple ds, k => k = !ds.isEmpty
  | .dict _, _ => False
def wTr (w : WE) : WT := fun en Q => w en fun d e1 => ∃ c, Tru d c ∧ Q c e1
theorem dp_bl {K : PySem.W.Frag} {I : Hp} {v : V} {c : Bool} (h : Da K I v (.bool c)) : v = .bl c := by cases h; rfl
theorem dp_int {K : PySem.W.Frag} {I : Hp} {v : V} {c : Int} (h : Da K I v (.int c)) : v = .int c := by cases h; rfl
theorem dpa_emp {K : PySem.W.Frag} {I : Hp} {vs : List V} {ds : List D} (h : DaAll K I vs ds) : vs.isEmpty = ds.isEmpty := by cases h <;> rfl
theorem ltst {σ : Sg} {H : Hp} {Q : Bool → Hp → Prop} {w : WE} (q : lT X.K (wB w) σ H Q) : lE X.K w σ H fun x H' => ∃ k, x = .bl k ∧ Q k H' := by
  obtain ⟨G, en, I, Q', o, q, k⟩ := q
  refine ⟨G, en, I, _, o, q, fun v H1 I1 e1 d o1 x1 dv q1 => ?_⟩
  obtain ⟨c, rfl, q1⟩ := q1
  exact ⟨c, dp_bl dv, k c H1 I1 e1 o1 x1 q1⟩
theorem t_cmp {op : CmpOp} {r : R2} {f : D → D → D → Prop} (ho : OpR X (compareOp op) r) (hs : SndOp X.K r f) (ha : PE X a (lE X.K wa)) (hb : PE X b (lE X.K wb)) (hm : behindInMarks op b = false) : PT X (.Compare a [op] [b] pos) (lT X.K (wB (wOp f wa wb))) :=
  (pt_cmpR ho ha hb hm).mo fun σ H Q q => by
    obtain ⟨G, en, I, Q2, o, q2, k⟩ := ltst q
    exact lop hs ⟨G, en, I, Q2, o, q2, k⟩
theorem t_val {w : WE} (h : PE X e (lE X.K w)) (he : ∀ whole, isTrue e X.env whole = (do let v ← whole; standAt e.pos; holding [v] (truthy v)) := by intro _; rfl) : PT X e (lT X.K (wB w)) :=
  (pt_val h he).mo fun σ H Q q => ltst q
theorem t_tru {w : WE} (h : PE X e (lE X.K w)) (he : ∀ whole, isTrue e X.env whole = (do let v ← whole; standAt e.pos; holding [v] (truthy v)) := by intro _; rfl) : PT X e (lT X.K (wTr w)) :=
  (pt_truth h he).mo fun σ H Q ⟨G, en, I, Q', o, q, k⟩ => ⟨G, en, I, _, o, q, fun v H1 I1 e1 d o1 x1 dv ⟨c, hc, q1⟩ => ⟨c, by
    cases dv with
    | non => exact hc
    | bl b => exact hc
    | int i => exact hc
    | str x => exact hc
    | lst hs ha =>
      have h2 : c = !_ := hc
      exact Or.inl ⟨_, SqL.of (o1.iH _ _ hs), by rw [dpa_emp ha]; exact h2⟩
    | tup hs ha =>
      have h2 : c = !_ := hc
      exact Or.inr (Or.inl ⟨_, sqt_ex o1.iH hs, by rw [dpa_emp ha]; exact h2⟩), k c H1 I1 e1 o1 x1 q1⟩⟩
def wAnd (t u : WT) : WT := fun en Q => t en fun c e1 => if c = true then u e1 Q else Q false e1
def wOr (t u : WT) : WT := fun en Q => t en fun c e1 => if c = true then Q true e1 else u e1 Q
def wNot (t : WT) : WT := fun en Q => t en fun c e1 => Q (!c) e1
variable {t u : WT} {rest : List Expr}
theorem t_and1 (ha : PT X a (lT X.K t)) : PW X (.BoolOp .And [a] pos) (lT X.K t) := pw_and1 ha
theorem t_or1 (ha : PT X a (lT X.K t)) : PW X (.BoolOp .Or [a] pos) (lT X.K t) := pw_or1 ha
theorem t_and (ha : PT X a (lT X.K t)) (hb : PW X (.BoolOp .And (b :: rest) pos) (lT X.K u)) : PW X (.BoolOp .And (a :: b :: rest) pos) (lT X.K (wAnd t u)) :=
  (pw_and ha hb).mo fun σ H Q ⟨G, en, I, Q', o, q, k⟩ => ⟨G, en, I, _, o, q, fun c H1 I1 e1 o1 x1 q1 => by
    cases c with
    | true => exact ⟨G, e1, I1, Q', o1, q1, fun b H2 I2 e2 o2 x2 q2 => k b H2 I2 e2 o2 (x1.tr x2) q2⟩
    | false => exact k false H1 I1 e1 o1 x1 q1⟩
theorem t_or (ha : PT X a (lT X.K t)) (hb : PW X (.BoolOp .Or (b :: rest) pos) (lT X.K u)) : PW X (.BoolOp .Or (a :: b :: rest) pos) (lT X.K (wOr t u)) :=
  (pw_or ha hb).mo fun σ H Q ⟨G, en, I, Q', o, q, k⟩ => ⟨G, en, I, _, o, q, fun c H1 I1 e1 o1 x1 q1 => by
    cases c with
    | false => exact ⟨G, e1, I1, Q', o1, q1, fun b H2 I2 e2 o2 x2 q2 => k b H2 I2 e2 o2 (x1.tr x2) q2⟩
    | true => exact k true H1 I1 e1 o1 x1 q1⟩
theorem t_not (ha : PT X a (lT X.K t)) : PT X (.UnaryOp .Not a pos) (lT X.K (wNot t)) :=
  (pt_not ha).mo fun σ H Q ⟨G, en, I, Q', o, q, k⟩ => ⟨G, en, I, _, o, q, fun c H1 I1 e1 o1 x1 q1 => k (!c) H1 I1 e1 o1 x1 q1⟩
def wAndV (wa wb : WE) : WE := fun en Q => wa en fun d e1 => ∃ c, d = .bool c ∧ if c = true then wb e1 Q else Q (.bool false) e1
def wOrV (wa wb : WE) : WE := fun en Q => wa en fun d e1 => ∃ c, d = .bool c ∧ if c = true then Q (.bool true) e1 else wb e1 Q
def wNotV (wa : WE) : WE := fun en Q => wa en fun d e1 => ∃ c, d = .bool c ∧ Q (.bool (!c)) e1
theorem d_one {op} (h : PE X a (lE X.K wa)) : PE X (.BoolOp op [a] pos) (lE X.K wa) := pe_one h
theorem d_and (ha : PE X a (lE X.K wa)) (hb : PE X (.BoolOp .And (b :: rest) pos) (lE X.K wb)) : PE X (.BoolOp .And (a :: b :: rest) pos) (lE X.K (wAndV wa wb)) :=
  (pe_and ha hb).mo fun σ H Q ⟨G, en, I, Q', o, q, k⟩ => ⟨G, en, I, _, o, q, fun v H1 I1 e1 d o1 x1 dv ⟨c, hc, q1⟩ => by
    subst hc
    refine ⟨c, dp_bl dv, ?_⟩
    cases c with
    | true => exact ⟨G, e1, I1, Q', o1, q1, fun v H2 I2 e2 d2 o2 x2 dv2 q2 => k v H2 I2 e2 d2 o2 (x1.tr x2) dv2 q2⟩
    | false => exact k (.bl false) H1 I1 e1 _ o1 x1 (.bl false) q1⟩
theorem d_or (ha : PE X a (lE X.K wa)) (hb : PE X (.BoolOp .Or (b :: rest) pos) (lE X.K wb)) : PE X (.BoolOp .Or (a :: b :: rest) pos) (lE X.K (wOrV wa wb)) :=
  (pe_or ha hb).mo fun σ H Q ⟨G, en, I, Q', o, q, k⟩ => ⟨G, en, I, _, o, q, fun v H1 I1 e1 d o1 x1 dv ⟨c, hc, q1⟩ => by
    subst hc
    refine ⟨c, dp_bl dv, ?_⟩
    cases c with
    | false => exact ⟨G, e1, I1, Q', o1, q1, fun v H2 I2 e2 d2 o2 x2 dv2 q2 => k v H2 I2 e2 d2 o2 (x1.tr x2) dv2 q2⟩
    | true => exact k (.bl true) H1 I1 e1 _ o1 x1 (.bl true) q1⟩
theorem d_not (ha : PE X a (lE X.K wa)) : PE X (.UnaryOp .Not a pos) (lE X.K (wNotV wa)) :=
  (pe_not ha).mo fun σ H Q ⟨G, en, I, Q', o, q, k⟩ => ⟨G, en, I, _, o, q, fun v H1 I1 e1 d o1 x1 dv ⟨c, hc, q1⟩ => by
    subst hc
    exact ⟨c, dp_bl dv, k (.bl (!c)) H1 I1 e1 _ o1 x1 (.bl _) q1⟩⟩
def wIf (t : WT) (wa wb : WE) : WE := fun en Q => t en fun c e1 => if c = true then wa e1 Q else wb e1 Q
theorem d_if (hc : PT X c (lT X.K t)) (ha : PE X a (lE X.K wa)) (hb : PE X b (lE X.K wb)) : PE X (.IfExp c a b pos) (lE X.K (wIf t wa wb)) :=
  (pe_ifExp hc ha hb).mo fun σ H Q ⟨G, en, I, Q', o, q, k⟩ => ⟨G, en, I, _, o, q, fun c H1 I1 e1 o1 x1 q1 => by
    cases c with
    | true => exact ⟨G, e1, I1, Q', o1, q1, fun v H2 I2 e2 d2 o2 x2 dv2 q2 => k v H2 I2 e2 d2 o2 (x1.tr x2) dv2 q2⟩
    | false => exact ⟨G, e1, I1, Q', o1, q1, fun v H2 I2 e2 d2 o2 x2 dv2 q2 => k v H2 I2 e2 d2 o2 (x1.tr x2) dv2 q2⟩⟩
/-- a chain of two comparisons -/
def wCh (f g : D → D → D → Prop) (wa wb wc : WE) : WE := fun en Q => wa en fun x e1 => wb e1 fun y e2 => ∃ b, f x y (.bool b) ∧ if b = true then wc e2 fun z e3 => ∃ r, g y z r ∧ Q r e3 else Q (.bool false) e2
/-! ### argument lists, displays -/
def wNil : WA := fun en Q => Q [] en
def wCons (w : WE) (r : WA) : WA := fun en Q => w en fun d e1 => r e1 fun ds e2 => Q (d :: ds) e2
theorem a_nil : PA X [] (lA X.K wNil) := pa_nil.mo fun σ H Q ⟨G, en, I, Q', o, q, k⟩ => k [] H I en [] o (Ex.rf I) .nil q
theorem a_cons {w : WE} {r : WA} (ha : PE X e (lE X.K w)) (hr : PA X es (lA X.K r)) (hs : starEach (e :: es) X.env = (false, eval e X.env) :: starEach es X.env := by rfl) : PA X (e :: es) (lA X.K (wCons w r)) :=
  (pa_cons ha hr hs).mo fun σ H Q ⟨G, en, I, Q', o, q, k⟩ => ⟨G, en, I, _, o, q, fun v H1 I1 e1 d o1 x1 dv q1 => ⟨G, e1, I1, _, o1, q1, fun vs H2 I2 e2 ds o2 x2 dvs q2 => k (v :: vs) H2 I2 e2 (d :: ds) o2 (x1.tr x2) (.cons (dv.up x2) dvs) q2⟩⟩
def wTup (w : WA) : WE := fun en Q => w en fun ds e1 => ds.length ≤ sizeLine ∧ Q (.tuple ds) e1
theorem d_tup {x1} {w : WA} (h : PA X es (lA X.K w)) : PE X (.Tuple es x1 pos) (lE X.K (wTup w)) :=
  (pe_tup h).mo fun σ H Q ⟨G, en, I, Q', o, q, k⟩ => ⟨G, en, I, _, o, q, fun vs H1 I1 e1 ds o1 x1 dvs ⟨hl, q1⟩ => ⟨by rw [dpa_len dvs]; exact hl, fun p hp => by
    obtain ⟨o2, x2⟩ := o1.new (u := .tup vs) hp
    exact k (.ref p) _ _ e1 _ o2 (x1.tr x2) (.tup (SqT.of upd_same) (dvs.up x2)) q1⟩⟩
/-- a list of one's own: new, its items known -/
def lL (K : PySem.W.Frag) (w : WA) : TE := fun σ H Q => ∃ (G : Gh) (en : En) (I : Hp) (Q' : List D → En → Prop), Ok K G σ en H I ∧ w en Q' ∧
  ∀ p vs H' I' en' ds, Ok K G σ en' H' I' → Ex I I' → H' p = none → DaAll K I' vs ds → Q' ds en' → Q (.ref p) (upd H' p (.lst vs))
def wLe (w : WA) : WE := fun en Q => w en fun ds e1 => Q (.list ds) e1
theorem d_lL {w : WA} (h : PE X e (lL X.K w)) : PE X e (lE X.K (wLe w)) := h.mo fun σ H Q ⟨G, en, I, Q', o, q, k⟩ => ⟨G, en, I, _, o, q, fun p vs H1 I1 e1 ds o1 x1 hp dvs q1 => by
  obtain ⟨o2, x2⟩ := o1.new (u := .lst vs) hp
  exact k (.ref p) _ _ e1 _ o2 (x1.tr x2) (.lst upd_same (dvs.up x2)) q1⟩
def wSz (w : WA) : WA := fun en Q => w en fun ds e1 => ds.length ≤ sizeLine ∧ Q ds e1
theorem l_lst {w : WA} (h : PA X es (lA X.K w)) : PE X (.List es pos) (lL X.K (wSz w)) :=
  (pe_lst h).mo fun σ H Q ⟨G, en, I, Q', o, q, k⟩ => ⟨G, en, I, _, o, q, fun vs H1 I1 e1 ds o1 x1 dvs ⟨hl, q1⟩ => ⟨by rw [dpa_len dvs]; exact hl, fun p hp => k p vs H1 I1 e1 ds o1 x1 hp dvs q1⟩⟩
theorem d_lst {w : WA} (h : PA X es (lA X.K w)) : PE X (.List es pos) (lE X.K (wLe (wSz w))) := d_lL (l_lst h)
/-- a call of a built-in by values -/
theorem lcl {r : List V → Hp → VK → Prop} {f : List D → D → Prop} {w : WA} (hs : SndCl X.K r f) {σ : Sg} {H : Hp} {Q : VK} (q : lE X.K (wCl f w) σ H Q) : tCB r (lA X.K w) σ H Q := by
  obtain ⟨G, en, I, Q', o, q, k⟩ := q
  exact ⟨G, en, I, _, o, q, fun vs H1 I1 e1 ds o1 x1 dvs ⟨z, fz, q1⟩ => hs H1 I1 vs ds z o1.iH dvs fz Q fun v' H3 I3 g dz => k v' H3 I3 e1 z (o1.gr g) (x1.tr g.i) dz q1⟩
end
end Pd

set_option Elab.async false
set_option linter.all false
set_option maxRecDepth 100000
set_option maxHeartbeats 4000000
namespace Pd
open PySem PySem.Spec PyProof.Rows L2
/-! ### what a def promises over data -/
abbrev WF := List D → (D → Prop) → Prop
abbrev WJ := List D → List D → (D → List D → Prop) → Prop
def spP (K : PySem.W.Frag) (n : Nat) (wf : WF) : Sp := fun vs H Q _ => ∃ (I : Hp) (ds : List D) (Q' : D → Prop), Ex I H ∧ DaAll K I vs ds ∧ ds.length = n ∧ wf ds Q' ∧
  ∀ v H' I' d, Gr H I H' I' → Da K I' v d → Q' d → Q v H'
def spJ (K : PySem.W.Frag) (n : Nat) (wf : WJ) : Sp := fun vs H Q _ => ∃ (j : Addr) (vj : List V) (dj : List D) (us : List V) (ds : List D) (I : Hp) (Q' : D → List D → Prop),
  vs = .ref j :: us ∧ I j = none ∧ H j = some (.lst vj) ∧ DaAll K I vj dj ∧ Ex I H ∧ DaAll K I us ds ∧ ds.length + 1 = n ∧ wf dj ds Q' ∧
  ∀ v H' I' d vj' dj', (∀ a o, a ≠ j → H a = some o → H' a = some o) → Ex I I' → Ex I' H' → (∀ a, I' a ≠ none → I a = none → H a = none) → H' j = some (.lst vj') → DaAll K I' vj' dj' → Da K I' v d → Q' d dj' → Q v H'
section
variable {K : PySem.W.Frag} {G : Gh} {σ : Sg} {en : En} {H I H' I' : Hp}
theorem set_get {α : Type} {l : List α} {i j : Nat} {x y : α} (h : (l.set i x)[j]? = some y) : (i = j ∧ y = x) ∨ (i ≠ j ∧ l[j]? = some y) := by
  by_cases e : i = j
  · subst e
    rw [List.getElem?_set] at h
    simp only [if_true] at h
    split at h
    · injection h with h; exact Or.inl ⟨rfl, h.symm⟩
    · cases h
  · rw [List.getElem?_set_ne e] at h
    exact Or.inr ⟨e, h⟩
/-- one's own list at slot i has turned -/
theorem Ok.turn (o : Ok K G σ en H I) {i : Nat} {l : Addr} {vs : List V} {ds : List D} (hi : OwnAt σ en i l) (k : ∀ a u, a ≠ l → H a = some u → H' a = some u) (e2 : Ex I I') (e3 : Ex I' H') (n : ∀ a, I' a ≠ none → I a = none → H a = none)
    (hl : H' l = some (.lst vs)) (hd : DaAll K I' vs ds) : Ok K G σ (en.set i (.own ds)) H' I' := by
  obtain ⟨h1, ds0, h2⟩ := hi
  have hi : OwnAt σ en i l := ⟨h1, ds0, h2⟩
  have Hl : ∃ u, H l = some u := by
    obtain ⟨l', vs', q1, q2, q3, q4⟩ := o.own h2
    rw [h1] at q1
    have q5 : l = l' := by injection q1 with q1; injection q1 with q1; injection q1
    rw [q5]; exact ⟨_, q3⟩
  have Il : I l = none := by
    obtain ⟨l', vs', q1, q2, q3, q4⟩ := o.own h2
    rw [h1] at q1
    have q5 : l = l' := by injection q1 with q1; injection q1 with q1; injection q1
    rw [q5]; exact q2
  have nIl : ∀ b u, H b = some u → I b = none → I' b = none := fun b u hb ib => by
    by_cases h4 : I' b = none
    · exact h4
    · have h5 := n b h4 ib
      rw [hb] at h5; cases h5
  have own' : ∀ j b, OwnAt σ (en.set i (.own ds)) j b → OwnAt σ en j b := fun j b ⟨q1, es, q2⟩ => by
    rcases set_get q2 with ⟨e, _⟩ | ⟨_, q3⟩
    · subst e; exact ⟨q1, ds0, h2⟩
    · exact ⟨q1, es, q3⟩
  refine ⟨o.i0.tr e2, e3, fun a q1 q2 => ?_, fun a u q1 q2 => ?_, by rw [List.length_set]; exact o.ln, fun j s q => ?_, fun j b q => o.ml j b (own' j b q), fun a b c q1 q2 => o.ds a b c (own' a c q1) (own' b c q2), fun b q => ?_, fun p hp => ?_⟩
  · have q3 := o.nw a q1 q2
    cases q4 : G.He a with
    | none => exact absurd q4 q1
    | some u =>
      by_cases hj : G.J = some a
      · obtain ⟨r1, es, r2⟩ := o.pj a hj
        obtain ⟨l', vs', r3, r4, r5, r6⟩ := o.own r2
        rw [r1] at r3
        have q5 : a = l' := by injection r3 with r3; injection r3 with r3; injection r3
        rw [← q5] at r5
        exact nIl a _ r5 q3
      · exact nIl a u (o.fr a u q4 hj) q3
  · have q3 := o.fr a u q1 q2
    refine k a u (fun e => ?_) q3
    subst e
    rcases o.ml i a hi with r | r
    · exact q2 r
    · rw [q1] at r; cases r
  · rcases set_get q with ⟨e, q2⟩ | ⟨ne, q2⟩
    · subst e q2
      exact ⟨l, vs, h1, nIl l _ Hl.choose_spec Il, hl, hd⟩
    · have r := o.sl j s q2
      cases s with
      | un => trivial
      | scr ns => obtain ⟨a, q1, q2⟩ := r; exact ⟨a, q1, sqs_ex e2 q2⟩
      | imm d =>
        obtain ⟨x, r1, r2⟩ := r
        exact ⟨x, r1, r2.up e2⟩
      | own es =>
        obtain ⟨l', vs', r1, r2, r3, r4⟩ := r
        refine ⟨l', vs', r1, nIl l' _ r3 r2, k l' _ (fun e => ?_) r3, r4.up e2⟩
        subst e
        exact ne (o.ds i j l' hi ⟨r1, es, q2⟩)
  · obtain ⟨r1, es, r2⟩ := o.pj b q
    refine ⟨r1, ?_⟩
    by_cases e : i = 0
    · subst e
      refine ⟨ds, ?_⟩
      rw [List.getElem?_set, if_pos rfl]
      have : 0 < en.length := (List.getElem?_eq_some_iff.mp r2).1
      simp [this]
    · exact ⟨es, by rw [List.getElem?_set_ne e]; exact r2⟩
  · obtain ⟨q1, q2, q3⟩ := o.pr p hp
    exact ⟨k _ _ (fun e => q3 i (by rw [e]; exact hi)) q1, nIl _ _ q1 q2, fun j q => q3 j (own' j _ q)⟩
/-- slot i gets data (it is not the one that the caller handed in) -/
theorem Ok.put (o : Ok K G σ en H I) {i : Nat} {v : V} {d : D} (hd : Da K I v d) (hi : i ≠ 0 ∨ ∀ ds, en[i]? ≠ some (.own ds)) : Ok K G (σ.set i (some v)) (en.set i (.imm d)) H I := by
  have own' : ∀ j b, OwnAt (σ.set i (some v)) (en.set i (.imm d)) j b → OwnAt σ en j b := fun j b ⟨q1, es, q2⟩ => by
    rcases set_get q2 with ⟨e, q⟩ | ⟨ne, q3⟩
    · cases q
    · rw [List.getElem?_set_ne ne] at q1
      exact ⟨q1, es, q3⟩
  refine ⟨o.i0, o.iH, o.nw, o.fr, by rw [List.length_set, List.length_set]; exact o.ln, fun j s q => ?_, fun j b q => o.ml j b (own' j b q), fun a b c q1 q2 => o.ds a b c (own' a c q1) (own' b c q2), fun b q => ?_, fun p hp => ⟨(o.pr p hp).1, (o.pr p hp).2.1, fun j q => (o.pr p hp).2.2 j (own' j _ q)⟩⟩
  · rcases set_get q with ⟨e, q2⟩ | ⟨ne, q2⟩
    · subst e q2
      refine ⟨v, ?_, hd⟩
      rw [List.getElem?_set, if_pos rfl]
      have : i < (en.set i (.imm d)).length := (List.getElem?_eq_some_iff.mp q).1
      rw [List.length_set] at this
      simp [o.ln, this]
    · rw [List.getElem?_set_ne ne]
      exact o.sl j s q2
  · obtain ⟨r1, es, r2⟩ := o.pj b q
    by_cases e : i = 0
    · subst e
      rcases hi with hi | hi
      · exact absurd rfl hi
      · exact absurd r2 (hi es)
    · exact ⟨by rw [List.getElem?_set_ne e]; exact r1, es, by rw [List.getElem?_set_ne e]; exact r2⟩
/-- slot i gets a new list of its own -/
theorem Ok.putOwn (o : Ok K G σ en H I) {i : Nat} {p : Addr} {vs : List V} {ds : List D} (hp : H p = none) (hd : DaAll K I vs ds) (hi : i ≠ 0) : Ok K G (σ.set i (some (.ref p))) (en.set i (.own ds)) (upd H p (.lst vs)) I := by
  have ip : I p = none := o.iH.no hp
  have hep : G.He p = none := by
    cases q : G.He p with
    | none => rfl
    | some u =>
      by_cases hj : G.J = some p
      · obtain ⟨r1, es, r2⟩ := o.pj p hj
        obtain ⟨l', vs', r3, r4, r5, r6⟩ := o.own r2
        rw [r1] at r3
        have q5 : p = l' := by injection r3 with r3; injection r3 with r3; injection r3
        rw [← q5, hp] at r5; cases r5
      · rw [o.fr p u q hj] at hp; cases hp
  have np : ∀ j, ¬ OwnAt σ en j p := fun j ⟨q1, es, q2⟩ => by
    obtain ⟨l', vs', r3, r4, r5, r6⟩ := o.own q2
    rw [q1] at r3
    have q5 : p = l' := by injection r3 with r3; injection r3 with r3; injection r3
    rw [← q5, hp] at r5; cases r5
  have own' : ∀ j b, OwnAt (σ.set i (some (.ref p))) (en.set i (.own ds)) j b → (i = j ∧ b = p) ∨ (i ≠ j ∧ OwnAt σ en j b) := fun j b ⟨q1, es, q2⟩ => by
    rcases set_get q1 with ⟨e, q⟩ | ⟨ne, q3⟩
    · injection q with q; injection q with q; exact Or.inl ⟨e, q⟩
    · rw [List.getElem?_set_ne ne] at q2
      exact Or.inr ⟨ne, q3, es, q2⟩
  refine ⟨o.i0, fun a u h => ?_, o.nw, fun a u h1 h2 => ?_, by rw [List.length_set, List.length_set]; exact o.ln, fun j s q => ?_, fun j b q => ?_, fun a b c q1 q2 => ?_, fun b q => ?_, fun p' hp' => ?_⟩
  · rw [upd_ne (ne_of_none h ip)]; exact o.iH a u h
  · have h3 := o.fr a u h1 h2
    rw [upd_ne (ne_of_none h3 hp)]; exact h3
  · rcases set_get q with ⟨e, q2⟩ | ⟨ne, q2⟩
    · subst e q2
      refine ⟨p, vs, ?_, ip, upd_same, hd⟩
      rw [List.getElem?_set, if_pos rfl]
      have : i < (en.set i (.own ds)).length := (List.getElem?_eq_some_iff.mp q).1
      rw [List.length_set] at this
      simp [o.ln, this]
    · rw [List.getElem?_set_ne ne]
      have r := o.sl j s q2
      cases s with
      | un => trivial
      | scr ns => exact r
      | imm d => exact r
      | own es =>
        obtain ⟨l', vs', r1, r2, r3, r4⟩ := r
        exact ⟨l', vs', r1, r2, by rw [upd_ne (ne_of_none r3 hp)]; exact r3, r4⟩
  · rcases own' j b q with ⟨_, e⟩ | ⟨_, q⟩
    · subst e; exact Or.inr hep
    · exact o.ml j b q
  · rcases own' a c q1 with ⟨e1, e2⟩ | ⟨e1, z1⟩
    · rcases own' b c q2 with ⟨e3, e4⟩ | ⟨e3, z2⟩
      · exact e1.symm.trans e3
      · exact absurd (e2 ▸ z2) (np b)
    · rcases own' b c q2 with ⟨e3, e4⟩ | ⟨e3, z2⟩
      · exact absurd (e4 ▸ z1) (np a)
      · exact o.ds a b c z1 z2
  · obtain ⟨r1, es, r2⟩ := o.pj b q
    exact ⟨by rw [List.getElem?_set_ne hi]; exact r1, es, by rw [List.getElem?_set_ne hi]; exact r2⟩
  · obtain ⟨q1, q2, q3⟩ := o.pr p' hp'
    refine ⟨by rw [upd_ne (ne_of_none q1 hp)]; exact q1, q2, fun j q => ?_⟩
    rcases own' j _ q with ⟨_, e⟩ | ⟨_, q⟩
    · rw [e, hp] at q1; cases q1
    · exact q3 j q
/-- slot i forgotten -/
theorem Ok.forget (o : Ok K G σ en H I) {i : Nat} {v : Option V} (hi : i ≠ 0 ∨ ∀ ds, en[i]? ≠ some (.own ds)) : Ok K G (σ.set i v) (en.set i .un) H I := by
  have own' : ∀ j b, OwnAt (σ.set i v) (en.set i .un) j b → OwnAt σ en j b := fun j b ⟨q1, es, q2⟩ => by
    rcases set_get q2 with ⟨e, q⟩ | ⟨ne, q3⟩
    · cases q
    · rw [List.getElem?_set_ne ne] at q1
      exact ⟨q1, es, q3⟩
  refine ⟨o.i0, o.iH, o.nw, o.fr, by rw [List.length_set, List.length_set]; exact o.ln, fun j s q => ?_, fun j b q => o.ml j b (own' j b q), fun a b c q1 q2 => o.ds a b c (own' a c q1) (own' b c q2), fun b q => ?_, fun p hp => ⟨(o.pr p hp).1, (o.pr p hp).2.1, fun j q => (o.pr p hp).2.2 j (own' j _ q)⟩⟩
  · rcases set_get q with ⟨e, q2⟩ | ⟨ne, q2⟩
    · subst e q2; trivial
    · rw [List.getElem?_set_ne ne]
      exact o.sl j s q2
  · obtain ⟨r1, es, r2⟩ := o.pj b q
    by_cases e : i = 0
    · subst e
      rcases hi with hi | hi
      · exact absurd rfl hi
      · exact absurd r2 (hi es)
    · exact ⟨by rw [List.getElem?_set_ne e]; exact r1, es, by rw [List.getElem?_set_ne e]; exact r2⟩
/-- a new object, protected from now on -/
theorem Ok.prot (o : Ok K G σ en H I) {p : Addr} {u : HO} (hp : H p = none) : Ok K { G with P := (p, u) :: G.P } σ en (upd H p u) I := by
  have ip : I p = none := o.iH.no hp
  have np : ∀ j, ¬ OwnAt σ en j p := fun j ⟨q1, es, q2⟩ => by
    obtain ⟨l', vs', r3, r4, r5, r6⟩ := o.own q2
    rw [q1] at r3
    have q5 : p = l' := by injection r3 with r3; injection r3 with r3; injection r3
    rw [← q5, hp] at r5; cases r5
  refine ⟨o.i0, fun a v h => by rw [upd_ne (ne_of_none h ip)]; exact o.iH a v h, o.nw, fun a v h1 h2 => ?_, o.ln, fun j s q => ?_, o.ml, o.ds, o.pj, fun q hq => ?_⟩
  · have h3 := o.fr a v h1 h2
    rw [upd_ne (ne_of_none h3 hp)]; exact h3
  · have r := o.sl j s q
    cases s with
    | un => trivial
    | scr ns => exact r
    | imm d => exact r
    | own es =>
      obtain ⟨l', vs', r1, r2, r3, r4⟩ := r
      exact ⟨l', vs', r1, r2, by rw [upd_ne (ne_of_none r3 hp)]; exact r3, r4⟩
  · rcases List.mem_cons.mp hq with e | hq
    · subst e; exact ⟨upd_same, ip, np⟩
    · obtain ⟨q1, q2, q3⟩ := o.pr q hq
      exact ⟨by rw [upd_ne (ne_of_none q1 hp)]; exact q1, q2, q3⟩
/-- the protected object is written by the code around -/
theorem Ok.rewr {P : List (Addr × HO)} {p : Addr} {u w : HO} (o : Ok K { G with P := (p, u) :: P } σ en H I) (hj : G.J ≠ some p) (he : G.He p = none) (hP : ∀ q ∈ P, q.1 ≠ p) : Ok K { G with P := (p, w) :: P } σ en (upd H p w) I := by
  obtain ⟨h1, h2, h3⟩ := o.pr (p, u) List.mem_cons_self
  refine ⟨o.i0, fun a v h => ?_, o.nw, fun a v h1 h2 => ?_, o.ln, fun j s q => ?_, o.ml, o.ds, o.pj, fun q hq => ?_⟩
  · have : a ≠ p := fun e => by subst e; rw [h2] at h; cases h
    rw [upd_ne this]; exact o.iH a v h
  · have : a ≠ p := fun e => by subst e; rw [he] at h1; cases h1
    rw [upd_ne this]; exact o.fr a v h1 h2
  · have r := o.sl j s q
    cases s with
    | un => trivial
    | scr ns => exact r
    | imm d => exact r
    | own es =>
      obtain ⟨l', vs', r1, r2, r3, r4⟩ := r
      have : l' ≠ p := fun e => by subst e; exact h3 j ⟨r1, es, q⟩
      exact ⟨l', vs', r1, r2, by rw [upd_ne this]; exact r3, r4⟩
  · rcases List.mem_cons.mp hq with e | hq
    · subst e; exact ⟨upd_same, h2, h3⟩
    · obtain ⟨q1, q2, q3⟩ := o.pr q (List.mem_cons_of_mem _ hq)
      exact ⟨by rw [upd_ne (hP q hq)]; exact q1, q2, q3⟩
theorem Ok.unprot {P : List (Addr × HO)} {p : Addr × HO} (o : Ok K { G with P := p :: P } σ en H I) : Ok K { G with P := P } σ en H I :=
  ⟨o.i0, o.iH, o.nw, o.fr, o.ln, o.sl, o.ml, o.ds, o.pj, fun q hq => o.pr q (List.mem_cons_of_mem _ hq)⟩
end
end Pd

set_option Elab.async false
set_option linter.all false
set_option maxRecDepth 100000
set_option maxHeartbeats 4000000
namespace Pd
open PySem PySem.Spec PyProof.Rows L2
/-! ### calls -/
def wFn (n : Nat) (wf : WF) (w : WA) : WE := fun en Q => w en fun ds e1 => ds.length = n ∧ wf ds fun d => Q d e1
def wFnJ (i n : Nat) (wf : WJ) (w : WA) : WE := fun en Q => (∃ dj, en[i]? = some (.own dj)) ∧ w en fun ds e1 => ds.length + 1 = n ∧ ∃ dj, e1[i]? = some (.own dj) ∧ wf dj ds fun d dj' => Q d (e1.set i (.own dj'))
section
variable {X : Cx} {e : Expr} {es : List Expr} {pos p : Pos} {x : Str} {k n : Nat} {f : Addr} {fd : FuncData} {ps : List Str}
theorem d_call {wf : WF} {w : WA} (F : FnOk X.prog X.w X.K X.mg X.base CX0 k f fd ps (spP X.K n wf)) (hr : Room k X.A) (hm : X.mg x = some (.ref f)) (hk : PySem.W.keepIn X.K (.ref f) = true) (hb : Binds X.K fd ps []) (ha : PA X (e :: es) (lA X.K w)) (hg : Gl X x := by rfl)
    (hdb : (x == ("__debug__" : Str)) = false := by decide) (he : starEach (e :: es) X.env = (false, eval e X.env) :: starEach es X.env := by rfl) (hpl : (backTo pos (starEach es X.env)).any (·.1) = false := by rfl) :
    PE X (.Call (.Name x p) (e :: es) [] pos) (lE X.K (wFn n wf w)) :=
  (pe_call F hr hg hm hk hb .nil pass0 ha hdb he hpl).mo fun σ H Q ⟨G, en, I, Q', o, q, k⟩ => ⟨G, en, I, _, o, q, fun vs H1 I1 e1 ds o1 x1 dvs ⟨hn, q1⟩ => by
    refine ⟨I1, ds, _, o1.iH, by rw [List.append_nil]; exact dvs, hn, q1, fun v H2 I2 d g dv q2 => ?_⟩
    exact k v H2 I2 e1 d (o1.gr g) (x1.tr g.i) dv q2⟩
theorem d_call0 {wf : WF} (F : FnOk X.prog X.w X.K X.mg X.base CX0 k f fd ps (spP X.K 0 wf)) (hr : Room k X.A) (hm : X.mg x = some (.ref f)) (hk : PySem.W.keepIn X.K (.ref f) = true) (hb : Binds X.K fd ps []) (hg : Gl X x := by rfl)
    (hdb : (x == ("__debug__" : Str)) = false := by decide) :
    PE X (.Call (.Name x p) [] [] pos) (lE X.K (wFn 0 wf wNil)) :=
  (pe_call0 F hr hg hm hk hb .nil pass0 hdb).mo fun σ H Q ⟨G, en, I, Q', o, ⟨hn, q⟩, k⟩ => by
    refine ⟨I, [], _, o.iH, .nil, hn, q, fun v H2 I2 d g dv q2 => ?_⟩
    exact k v H2 I2 en d (o.gr g) g.i dv q2
theorem d_callJ {wf : WJ} {w : WA} {i : Nat} (F : FnOk X.prog X.w X.K X.mg X.base CX0 k f fd ps (spJ X.K n wf)) (hr : Room k X.A) (hm : X.mg x = some (.ref f)) (hk : PySem.W.keepIn X.K (.ref f) = true) (hb : Binds X.K fd ps []) (h0 : PE X e (tVar i)) (ha : PA X es (lA X.K w)) (hg : Gl X x := by rfl)
    (hdb : (x == ("__debug__" : Str)) = false := by decide) (he : starEach (e :: es) X.env = (false, eval e X.env) :: starEach es X.env := by rfl) (hpl : (backTo pos (starEach es X.env)).any (·.1) = false := by rfl) :
    PE X (.Call (.Name x p) (e :: es) [] pos) (lE X.K (wFnJ i n wf w)) :=
  (pe_call F hr hg hm hk hb .nil pass0 (pa_cons h0 ha he) hdb he hpl).mo fun σ H Q ⟨G, en, I, Q', o, ⟨⟨dj0, hj0⟩, q⟩, k⟩ => by
    -- the slot's list is read ahead of the other arguments; it stands at its address behind them
    have key : ∀ (j : Addr), σ[i]? = some (some (.ref j)) → lA X.K w σ H fun vs H1 => spJ X.K n wf ((V.ref j :: vs) ++ []) H1 Q E0 := fun j hj => by
      refine ⟨G, en, I, _, o, q, fun vs H1 I1 e1 ds o1 x1 dvs ⟨hn, dj, hd, q1⟩ => ?_⟩
      obtain ⟨l, vj, r1, r2, r3, r4⟩ := o1.own hd
      rw [hj] at r1
      have q5 : j = l := by injection r1 with r1; injection r1 with r1; injection r1
      subst q5
      refine ⟨j, vj, dj, vs, ds, I1, _, by rw [List.append_nil], r2, r3, r4, o1.iH, dvs, hn, q1, fun v H2 I2 d vj' dj' k1 k2 k3 k4 k5 k6 k7 k8 => ?_⟩
      exact k v H2 I2 _ d (o1.turn ⟨hj, dj, hd⟩ k1 k2 k3 k4 k5 k6) (x1.tr k2) k7 k8
    obtain ⟨j, _, hj, _⟩ := o.own hj0
    exact ⟨.ref j, hj, key j hj⟩
theorem d_cb {id : String} {r : List V → Hp → VK → Prop} {g : List D → D → Prop} {w : WA} (hc : CallR X (.builtin id) r) (hs : SndCl X.K r g) (hm : X.mg x = none) (hv : bootBuiltins x = some (.builtin id)) (ha : PA X (e :: es) (lA X.K w)) (hg : Gl X x := by rfl)
    (hn : x ≠ "__name__" := by decide) (hdb : (x == ("__debug__" : Str)) = false := by decide)
    (he : starEach (e :: es) X.env = (false, eval e X.env) :: starEach es X.env := by rfl) (hpl : (backTo pos (starEach es X.env)).any (·.1) = false := by rfl) : PE X (.Call (.Name x p) (e :: es) [] pos) (lE X.K (wCl g w)) :=
  (pe_callB hc hg hm hv ha hn hdb he hpl).mo fun σ H Q q => lcl hs q
theorem d_cty {T : String} {r : List V → Hp → VK → Prop} {g : List D → D → Prop} {w : WA} (hc : CallR X (.type T) r) (hs : SndCl X.K r g) (hm : X.mg x = none) (hv : bootBuiltins x = some (.type T)) (ha : PA X (e :: es) (lA X.K w)) (hg : Gl X x := by rfl)
    (hn : x ≠ "__name__" := by decide) (hdb : (x == ("__debug__" : Str)) = false := by decide)
    (he : starEach (e :: es) X.env = (false, eval e X.env) :: starEach es X.env := by rfl) (hpl : (backTo pos (starEach es X.env)).any (·.1) = false := by rfl) : PE X (.Call (.Name x p) (e :: es) [] pos) (lE X.K (wCl g w)) :=
  (pe_callTy hc hg hm hv ha hn hdb he hpl).mo fun σ H Q q => lcl hs q
end
/-! ### statements -/
def KS (K : PySem.W.Frag) (G : Gh) (R' : Ed) (R : Ends) : Prop :=
  (∀ σ' H' I' en', Ok K G σ' en' H' I' → R'.nx en' → R.nx σ' H') ∧
  (∀ v σ' H' I' en' d, Ok K G σ' en' H' I' → Da K I' v d → R'.rt d en' → R.rt v H') ∧
  (∀ σ' H' I' en', Ok K G σ' en' H' I' → R'.bk en' → R.bk σ' H') ∧
  (∀ σ' H' I' en', Ok K G σ' en' H' I' → R'.ct en' → R.ct σ' H')
theorem lS_mk {K : PySem.W.Frag} {w : WS} {R : Ends} {σ : Sg} {H : Hp} {G : Gh} {en : En} {I : Hp} {R' : Ed} (o : Ok K G σ en H I) (q : w R' en) (k : KS K G R' R) : lS K w R σ H := ⟨G, en, I, R', o, q, k⟩
def wNext : WS := fun R en => R.nx en
def wSeq (t u : WS) : WS := fun R en => t { R with nx := u R } en
def wRet (w : WE) : WS := fun R en => w en R.rt
def wRetN : WS := fun R en => R.rt .none en
def wDrop (w : WE) : WS := fun R en => w en fun _ e1 => R.nx e1
def wIfS (t : WT) (u v : WS) : WS := fun R en => t en fun c e1 => if c = true then u R e1 else v R e1
def NotOwn : Option Sl → Prop
  | some (.own _) => False
  | _ => True
theorem notOwn_ne {s : Option Sl} (h : NotOwn s) : ∀ ds, s ≠ some (.own ds) := fun ds e => by subst e; exact h
def wSet (i : Nat) (w : WE) : WS := fun R en => w en fun d e1 => (i ≠ 0 ∨ NotOwn e1[i]?) ∧ R.nx (e1.set i (.imm d))
def wSetOwn (i : Nat) (w : WA) : WS := fun R en => w en fun ds e1 => i ≠ 0 ∧ R.nx (e1.set i (.own ds))
def wNever : WS := fun _ _ => False
section
variable {X : Cx} {e : Expr} {st : Stmt} {sts rest : List Stmt} {pos : Pos} {t u v : WS} {w : WE} {x : Str} {i : Nat}
theorem s_nil : PSs X [] (lS X.K wNext) := pss_nil.mo fun R σ H ⟨G, en, I, R', o, q, k⟩ => k.1 σ H I en o q
theorem s_cons (h1 : PS X st (lS X.K t)) (h2 : PSs X rest (lS X.K u)) : PSs X (st :: rest) (lS X.K (wSeq t u)) :=
  (pss_cons h1 h2).mo fun R σ H ⟨G, en, I, R', o, q, k⟩ => ⟨G, en, I, _, o, q, fun σ1 H1 I1 e1 o1 q1 => lS_mk o1 q1 k, k.2.1, k.2.2.1, k.2.2.2⟩
theorem s_one (h1 : PS X st (lS X.K t)) : PSs X [st] (lS X.K t) := pss_one h1
theorem s_pass : PS X (.Pass pos) (lS X.K wNext) := ps_pass.mo fun R σ H ⟨G, en, I, R', o, q, k⟩ => k.1 σ H I en o q
def wBrk : WS := fun R en => R.bk en
def wCnt : WS := fun R en => R.ct en
theorem s_break : PS X (.Break pos) (lS X.K wBrk) := ps_break.mo fun R σ H ⟨G, en, I, R', o, q, k⟩ => k.2.2.1 σ H I en o q
theorem s_cont : PS X (.Continue pos) (lS X.K wCnt) := ps_continue.mo fun R σ H ⟨G, en, I, R', o, q, k⟩ => k.2.2.2 σ H I en o q
theorem s_ret (h : PE X e (lE X.K w)) : PS X (.Return (some e) pos) (lS X.K (wRet w)) :=
  (ps_ret h).mo fun R σ H ⟨G, en, I, R', o, q, k⟩ => ⟨G, en, I, _, o, q, fun v H1 I1 e1 d o1 x1 dv q1 => k.2.1 v σ H1 I1 e1 d o1 dv q1⟩
theorem s_retN : PS X (.Return none pos) (lS X.K wRetN) := ps_retN.mo fun R σ H ⟨G, en, I, R', o, q, k⟩ => k.2.1 .non σ H I en .none o .non q
theorem s_expr (h : PE X e (lE X.K w)) (hs : swapsWith e none pos.line X.env = pure false := by rfl) : PS X (.Expr e pos) (lS X.K (wDrop w)) :=
  (ps_expr h hs).mo fun R σ H ⟨G, en, I, R', o, q, k⟩ => ⟨G, en, I, _, o, q, fun v H1 I1 e1 d o1 x1 dv q1 => k.1 σ H1 I1 e1 o1 q1⟩
theorem s_if {c : Expr} {a b : List Stmt} {tc : WT} (hc : PT X c (lT X.K tc)) (ha : PSs X a (lS X.K t)) (hb : PSs X b (lS X.K u)) : PS X (.If c a b pos) (lS X.K (wIfS tc t u)) :=
  (ps_if hc ha hb).mo fun R σ H ⟨G, en, I, R', o, q, k⟩ => ⟨G, en, I, _, o, q, fun c H1 I1 e1 o1 x1 q1 => by
    cases c with
    | true => exact lS_mk o1 q1 k
    | false => exact lS_mk o1 q1 k⟩
theorem s_never : PS X st (lS X.K wNever) := ps_never.mo fun R σ H ⟨G, en, I, R', o, q, k⟩ => q.elim
theorem ss_never : PSs X sts (lS X.K wNever) := pss_never.mo fun R σ H ⟨G, en, I, R', o, q, k⟩ => q.elim
theorem s_set {pos' : Pos} (hN : X.N.Nodup) (hi : X.N[i]? = some x) (hx : Loc X.env.scope x) (he : PE X e (lE X.K w)) (hs : swapsWith e (some (.Name x pos')) pos.line X.env = pure false := by rfl) (hf : X.fn x = true ∨ X.env.scope.names.lookup x = some .local := by first | exact .inl rfl | exact .inr rfl | assumption) :
    PS X (.Assign [.Name x pos'] e pos) (lS X.K (wSet i w)) :=
  (ps_set hN hi hx he hs hf).mo fun R σ H ⟨G, en, I, R', o, q, k⟩ => ⟨G, en, I, _, o, q, fun v H1 I1 e1 d o1 x1 dv ⟨hi, q1⟩ => k.1 _ H1 I1 _ (o1.put dv (hi.imp id notOwn_ne)) q1⟩
theorem s_setOwn {pos' : Pos} {w : WA} (hN : X.N.Nodup) (hi : X.N[i]? = some x) (hx : Loc X.env.scope x) (he : PE X e (lL X.K w)) (hs : swapsWith e (some (.Name x pos')) pos.line X.env = pure false := by rfl) (hf : X.fn x = true ∨ X.env.scope.names.lookup x = some .local := by first | exact .inl rfl | exact .inr rfl | assumption) :
    PS X (.Assign [.Name x pos'] e pos) (lS X.K (wSetOwn i w)) :=
  (ps_set hN hi hx he hs hf).mo fun R σ H ⟨G, en, I, R', o, q, k⟩ => ⟨G, en, I, _, o, q, fun p vs H1 I1 e1 ds o1 x1 hp dvs ⟨hi, q1⟩ => k.1 _ _ I1 _ (o1.putOwn hp dvs hi) q1⟩
/-- an augmented assignment to a name -/
def wAug (i : Nat) (f : D → D → D → Prop) (w : WE) : WS := fun R en => (∃ d0, en[i]? = some (.imm d0)) ∧ w en fun y e1 => ∃ d, e1[i]? = some (.imm d) ∧ (∀ d0, en[i]? = some (.imm d0) → d0 = d) ∧ ∃ z, f d y z ∧ R.nx (e1.set i (.imm z))
theorem s_aug {op : Operator} {r : R2} {f : D → D → D → Prop} {pos' : Pos} (hN : X.N.Nodup) (hi : X.N[i]? = some x) (hx : Loc X.env.scope x) (he : PE X e (lE X.K w)) (ho : PIp X op r) (hs : SndOp X.K r f) (hf : X.fn x = true ∨ X.env.scope.names.lookup x = some .local := by first | exact .inl rfl | exact .inr rfl | assumption) :
    PS X (.AugAssign (.Name x pos') op e pos) (lS X.K (wAug i f w)) :=
  (ps_aug hN hi hx he ho hf).mo fun R σ H ⟨G, en, I, R', o, ⟨⟨d0, h0⟩, q⟩, k⟩ => by
    obtain ⟨v0, hv, dv0⟩ := o.imm h0
    refine ⟨v0, hv, G, en, I, _, o, q, fun v H1 I1 e1 y o1 x1 dv ⟨d, hd, hdd, z, fz, q1⟩ => ?_⟩
    have e0 : d0 = d := hdd d0 h0
    subst e0
    refine hs H1 I1 v0 v d0 y z o1.iH (dv0.up x1) dv fz _ fun v' H3 I3 g dz => ?_
    exact k.1 _ H3 I3 _ ((o1.gr g).put dz (Or.inr fun ds h => by rw [hd] at h; cases h)) q1
end
end Pd

set_option Elab.async false
set_option linter.all false
set_option maxRecDepth 100000
set_option maxHeartbeats 4000000
namespace Pd
open PySem PySem.Spec PyProof.Rows L2
theorem or_op {X : Cx} {f : Value → Value → Sem Value} {r1 r2 : R2} (h1 : OpR X f r1) (h2 : OpR X f r2) : OpR X f (fun x y H Q => r1 x y H Q ∨ r2 x y H Q) := fun pins s σ H x y v u Q I rx ry h => by
  rcases h with h | h
  · exact h1 pins s σ H x y v u Q I rx ry h
  · exact h2 pins s σ H x y v u Q I rx ry h
theorem fin_tup {K : PySem.W.Frag} {H I : Hp} {p : Addr} {vs : List V} {ds : List D} {Q : VK} (iH : Ex I H) (hp : H p = none) (a : DaAll K I vs ds) (k : ∀ v H' I', Gr H I H' I' → Da K I' v (.tuple ds) → Q v H') : Q (.ref p) (upd H p (.tup vs)) :=
  k _ _ _ (Gr.nw (u := .tup vs) iH hp) (.tup (SqT.of upd_same) (a.up (Gr.nw (u := .tup vs) iH hp).i))
theorem fin_lst {K : PySem.W.Frag} {H I : Hp} {p : Addr} {vs : List V} {ds : List D} {Q : VK} (iH : Ex I H) (hp : H p = none) (a : DaAll K I vs ds) (k : ∀ v H' I', Gr H I H' I' → Da K I' v (.list ds) → Q v H') : Q (.ref p) (upd H p (.lst vs)) :=
  k _ _ _ (Gr.nw (u := .lst vs) iH hp) (.lst upd_same (a.up (Gr.nw (u := .lst vs) iH hp).i))
section
variable {K : PySem.W.Frag} {X : Cx}
/-! ### + -/
def dAdd : D → D → D → Prop
  | .int i, .int j, z => z = .int (i + j)
  | .tuple xs, .tuple ys, z => xs.length + ys.length ≤ sizeLine ∧ z = .tuple (xs ++ ys)
  | .list xs, .list ys, z => xs.length + ys.length ≤ sizeLine ∧ z = .list (xs ++ ys)
  | .str a, .str b, z => a.length + b.length ≤ sizeLine ∧ z = .str (a ++ b)
  | _, _, _ => False
def rAddS : R2 := fun x y H Q => ∃ i j, x = .str i ∧ y = .str j ∧ i.length + j.length ≤ sizeLine ∧ Q (.str (i ++ j)) H
def rAddD (K : PySem.W.Frag) : R2 := fun x y H Q => (rI0 fun i j => .int (i + j)) x y H Q ∨ (rCatA K x y H Q ∨ (rCat x y H Q ∨ rAddS x y H Q))
theorem op_addD : OpR X (binaryOp .Add) (rAddD X.K) := or_op op_add (or_op op_catA (or_op op_cat op_add_str))
theorem snd_add : SndOp K (rAddD K) dAdd := by
  intro H I x y d e z iH hx hy hf Q k
  unfold dAdd at hf
  split at hf
  · subst hf; cases hx; cases hy
    exact Or.inl ⟨_, _, rfl, rfl, k _ H I (Gr.rf iH) (.int _)⟩
  · rename_i xs ys
    obtain ⟨hl, rfl⟩ := hf
    cases hx with
    | tup h1 a1 =>
      cases hy with
      | tup h2 a2 =>
        refine Or.inr (Or.inl ⟨_, _, _, _, rfl, rfl, sqt_ex iH h1, sqt_ex iH h2, by rw [dpa_len a1, dpa_len a2]; exact hl, fun q => ?_, fun _ q => ?_, fun _ _ p hp => ?_⟩)
        · subst q; cases a1
          exact k _ H I (Gr.rf iH) (.tup h2 a2)
        · subst q; cases a2
          exact k _ H I (Gr.rf iH) (by rw [List.append_nil]; exact .tup h1 a1)
        · exact fin_tup iH hp (dpa_app a1 a2) k
  · rename_i xs ys
    obtain ⟨hl, rfl⟩ := hf
    cases hx with
    | lst h1 a1 =>
      cases hy with
      | lst h2 a2 =>
        refine Or.inr (Or.inr (Or.inl ⟨_, _, _, _, rfl, rfl, iH _ _ h1, iH _ _ h2, by rw [dpa_len a1, dpa_len a2]; exact hl, fun p hp => ?_⟩))
        exact fin_lst iH hp (dpa_app a1 a2) k
  · obtain ⟨hl, rfl⟩ := hf
    cases hx; cases hy
    exact Or.inr (Or.inr (Or.inr ⟨_, _, rfl, rfl, hl, k _ H I (Gr.rf iH) (.str _)⟩))
  · exact hf.elim
/-! ### ints -/
def dInt (C : Int → Int → Prop) (g : Int → Int → D) : D → D → D → Prop := fun x y z => ∃ i j, x = .int i ∧ y = .int j ∧ C i j ∧ z = g i j
theorem snd_int {C : Int → Int → Prop} {g : Int → Int → Int} : SndOp K (rI C fun i j => .int (g i j)) (dInt C fun i j => .int (g i j)) := by
  rintro H I x y d e z iH hx hy ⟨i, j, rfl, rfl, hc, rfl⟩ Q k
  cases hx; cases hy
  exact ⟨i, j, rfl, rfl, hc, k _ H I (Gr.rf iH) (.int _)⟩
theorem snd_int0 {g : Int → Int → Int} : SndOp K (rI0 fun i j => .int (g i j)) (dInt (fun _ _ => True) fun i j => .int (g i j)) := by
  rintro H I x y d e z iH hx hy ⟨i, j, rfl, rfl, hc, rfl⟩ Q k
  cases hx; cases hy
  exact ⟨i, j, rfl, rfl, k _ H I (Gr.rf iH) (.int _)⟩
def dSub : D → D → D → Prop := dInt (fun _ _ => True) fun i j => .int (i - j)
theorem snd_sub : SndOp K (rI0 fun i j => .int (i - j)) dSub := snd_int0
/-- two factors, one of them small, or together below a million bits -/
def MulOk (i j : Int) : Prop := CMul i j ∨ CMulW i j
def dMulI : D → D → D → Prop := dInt MulOk fun i j => .int (i * j)
def dMul : D → D → D → Prop := fun x y z => dMulI x y z ∨ (∃ xs k, x = .tuple xs ∧ y = .int k ∧ xs ≠ [] ∧ 2 ≤ k ∧ k ≤ 1000 ∧ xs.length ≤ 1000 ∧ z = .tuple (List.replicate k.toNat xs).flatten) ∨
  (∃ xs k, x = .list xs ∧ y = .int k ∧ -(2 ^ 63) ≤ k ∧ k < 2 ^ 63 ∧ xs.length * k.toNat ≤ sizeLine ∧ z = .list (List.replicate k.toNat xs).flatten)
theorem op_mulA : OpR X (binaryOp .Mult) (rI MulOk fun i j => .int (i * j)) := fun pins s σ H x y v u Q I rx ry h => by
  obtain ⟨i, j, e1, e2, hc, q⟩ := h
  rcases hc with hc | hc
  · exact op_mul pins s σ H x y v u Q I rx ry ⟨i, j, e1, e2, hc, q⟩
  · exact op_mulW pins s σ H x y v u Q I rx ry ⟨i, j, e1, e2, hc, q⟩
def rMulD (K : PySem.W.Frag) : R2 := fun x y H Q => (rI MulOk fun i j => .int (i * j)) x y H Q ∨ (rRepT K x y H Q ∨ rRep x y H Q)
theorem op_mulD : OpR X (binaryOp .Mult) (rMulD X.K) := or_op op_mulA (or_op op_repT op_rep)
theorem dpa_rep {I : Hp} {vs : List V} {ds : List D} (h : DaAll K I vs ds) : ∀ n : Nat, DaAll K I (List.replicate n vs).flatten (List.replicate n ds).flatten
  | 0 => .nil
  | n + 1 => by
    rw [List.replicate_succ, List.replicate_succ, List.flatten_cons, List.flatten_cons]
    exact dpa_app h (dpa_rep h n)
theorem snd_mul : SndOp K (rMulD K) dMul := by
  rintro H I x y d e z iH hx hy hf Q k
  rcases hf with ⟨i, j, rfl, rfl, hc, rfl⟩ | ⟨xs, m, rfl, rfl, h1, h2, h3, h4, rfl⟩ | ⟨xs, m, rfl, rfl, h1, h2, h3, rfl⟩
  · cases hx; cases hy
    exact Or.inl ⟨i, j, rfl, rfl, hc, k _ H I (Gr.rf iH) (.int _)⟩
  · cases hy
    cases hx with
    | tup q1 a1 =>
      refine Or.inr (Or.inl ⟨_, m, _, rfl, rfl, sqt_ex iH q1, fun e => ?_, h2, h3, by rw [dpa_len a1]; exact h4, fun p hp => ?_⟩)
      · subst e; cases a1; exact h1 rfl
      · exact fin_tup iH hp (dpa_rep a1 _) k
  · cases hy
    cases hx with
    | lst q1 a1 =>
      refine Or.inr (Or.inr ⟨_, m, _, rfl, rfl, iH _ _ q1, h1, h2, by rw [dpa_len a1]; exact h3, fun p hp => ?_⟩)
      exact fin_lst iH hp (dpa_rep a1 _) k
/-- // by a positive divisor below 2 ^ 9000 -/
def dFdiv : D → D → D → Prop := dInt CDivW fun i j => .int (i / j)
theorem snd_fdiv : SndOp K (rI CDivW fun i j => .int (i / j)) dFdiv := snd_int
def dMod : D → D → D → Prop := dInt (fun _ j => 0 < j) fun i j => .int (i % j)
theorem snd_mod : SndOp K (rI (fun _ j => 0 < j) fun i j => .int (i % j)) dMod := snd_int
def PowOk (i j : Int) : Prop := 0 ≤ j ∧ (Builtin.Int.intBits i : Int) * j ≤ 2 ^ 27
theorem op_powW : OpR X (binaryOp .Pow) (rI PowOk fun i j => .int (i ^ j.toNat)) := opI fun _ _ _ _ _ _ _ hc q => pow_int hc.1 hc.2 q
def dPow : D → D → D → Prop := dInt PowOk fun i j => .int (i ^ j.toNat)
theorem snd_pow : SndOp K (rI PowOk fun i j => .int (i ^ j.toNat)) dPow := snd_int
def dNeg : D → D → Prop := fun x z => ∃ i, x = .int i ∧ z = .int (-i)
theorem snd_neg : SndUn K (rU fun i => .int (-i)) dNeg := by
  rintro H I x d z iH hx ⟨i, rfl, rfl⟩ Q k
  cases hx
  exact ⟨i, rfl, k _ H I (Gr.rf iH) (.int _)⟩
/-! ### comparisons -/
def dEq : D → D → D → Prop := fun x y z => SeqAt.shaped x = true ∧ SeqAt.shaped y = true ∧ z = .bool (PyData.eqv x y)
def dNe : D → D → D → Prop := fun x y z => SeqAt.shaped x = true ∧ SeqAt.shaped y = true ∧ z = .bool (!PyData.eqv x y)
theorem snd_eq : SndOp K (rEqD K) dEq := by
  rintro H I x y d e z iH hx hy ⟨h1, h2, rfl⟩ Q k
  exact ⟨d, e, (hx.up iH).dp, (hy.up iH).dp, h1, h2, k _ H I (Gr.rf iH) (.bl _)⟩
theorem snd_ne : SndOp K (rNeD K) dNe := by
  rintro H I x y d e z iH hx hy ⟨h1, h2, rfl⟩ Q k
  exact ⟨d, e, (hx.up iH).dp, (hy.up iH).dp, h1, h2, k _ H I (Gr.rf iH) (.bl _)⟩
def dBoo (g : Int → Int → Bool) : D → D → D → Prop := fun x y z => ∃ i j, x = .int i ∧ y = .int j ∧ z = .bool (g i j)
theorem snd_boo {g : Int → Int → Bool} : SndOp K (rI0 fun i j => .bl (g i j)) (dBoo g) := by
  rintro H I x y d e z iH hx hy ⟨i, j, rfl, rfl, rfl⟩ Q k
  cases hx; cases hy
  exact ⟨i, j, rfl, rfl, k _ H I (Gr.rf iH) (.bl _)⟩
def dLe : D → D → D → Prop := dBoo fun i j => decide (i ≤ j)
def dGt : D → D → D → Prop := dBoo fun i j => decide (j < i)
def dGe : D → D → D → Prop := dBoo fun i j => decide (j ≤ i)
def dLtI : D → D → D → Prop := dBoo fun i j => decide (i < j)
def dLt : D → D → D → Prop := fun x y z => dLtI x y z ∨ ∃ ns ms : List Int, x = .tuple (ns.map .int) ∧ y = .tuple (ms.map .int) ∧ z = .bool (HT.lexLt ns ms)
def rLtD (K : PySem.W.Frag) : R2 := fun x y H Q => (rI0 fun i j => .bl (decide (i < j))) x y H Q ∨ rLtT K x y H Q
theorem op_ltD (hu : X.A.units < cLine) : OpR X (compareOp .Lt) (rLtD X.K) := or_op op_lt (op_ltT hu)
theorem snd_lt : SndOp K (rLtD K) dLt := by
  rintro H I x y d e z iH hx hy hf Q k
  rcases hf with hf | ⟨ns, ms, rfl, rfl, rfl⟩
  · exact Or.inl (snd_boo H I x y d e z iH hx hy hf Q k)
  · cases hx with
    | tup h1 a1 =>
      cases hy with
      | tup h2 a2 =>
        have e1 := dpa_ints_inv ns a1
        have e2 := dpa_ints_inv ms a2
        subst e1 e2
        exact Or.inr ⟨_, _, ns, ms, rfl, rfl, sqt_ex iH h1, sqt_ex iH h2, k _ H I (Gr.rf iH) (.bl _)⟩
theorem snd_le : SndOp K (rI0 fun i j => .bl (decide (i ≤ j))) dLe := snd_boo
theorem snd_gt : SndOp K (rI0 fun i j => .bl (decide (j < i))) dGt := snd_boo
theorem snd_ge : SndOp K (rI0 fun i j => .bl (decide (j ≤ i))) dGe := snd_boo
/-- is None -/
def rIsN : R2 := fun x y H Q => y = .non ∧ Q (.bl (decide (x = .non))) H
def rNotN : R2 := fun x y H Q => y = .non ∧ Q (.bl (!decide (x = .non))) H
def isNone : D → Bool
  | .none => true
  | _ => false
def dIsN : D → D → D → Prop := fun x y z => y = .none ∧ z = .bool (isNone x)
def dNotN : D → D → D → Prop := fun x y z => y = .none ∧ z = .bool (!isNone x)
theorem isN_eq {I : Hp} {v : V} {d : D} (h : Da K I v d) : decide (v = .non) = isNone d := by
  cases h <;> simp [isNone]
theorem snd_isN : SndOp K rIsN dIsN := by
  rintro H I x y d e z iH hx hy ⟨rfl, rfl⟩ Q k
  cases hy
  exact ⟨rfl, k _ H I (Gr.rf iH) (by rw [isN_eq hx]; exact .bl _)⟩
theorem snd_notN : SndOp K rNotN dNotN := by
  rintro H I x y d e z iH hx hy ⟨rfl, rfl⟩ Q k
  cases hy
  exact ⟨rfl, k _ H I (Gr.rf iH) (by rw [isN_eq hx]; exact .bl _)⟩
/-! ### chains -/
variable {a b c : Expr} {pos : Pos} {wa wb wc : WE} {r r' : R2} {f g : D → D → D → Prop} {op op' : CmpOp}
theorem lch (hs : SndOp X.K r f) (hs' : SndOp X.K r' g) {σ : Sg} {H : Hp} {Q : VK} (q : lE X.K (wCh f g wa wb wc) σ H Q) : tChain r r' (lE X.K wa) (lE X.K wb) (lE X.K wc) σ H Q := by
  obtain ⟨G, en, I, Q', o, q, k⟩ := q
  refine ⟨G, en, I, _, o, q, fun v H1 I1 e1 d o1 x1 dv q1 => ⟨G, e1, I1, _, o1, q1, fun u H2 I2 e2 d2 o2 x2 du ⟨bb, fz, q2⟩ => ?_⟩⟩
  refine hs H2 I2 v u d d2 (.bool bb) o2.iH (dv.up x2) du fz _ fun v' H3 I3 gg dz => ?_
  refine ⟨bb, dp_bl dz, ?_⟩
  have o3 := o2.gr gg
  cases bb with
  | true =>
    refine ⟨G, e2, I3, _, o3, q2, fun t H4 I4 e4 d4 o4 x4 dt ⟨z, gz, q4⟩ => ?_⟩
    exact hs' H4 I4 u t d2 d4 z o4.iH ((du.up gg.i).up x4) dt gz Q fun v5 H5 I5 g5 d5 => k v5 H5 I5 e4 z (o4.gr g5) ((((x1.tr x2).tr gg.i).tr x4).tr g5.i) d5 q4
  | false => exact k (.bl false) H3 I3 e2 (.bool false) o3 ((x1.tr x2).tr gg.i) (.bl false) q2
theorem d_ch (ho : OpR X (compareOp op) r) (hs : SndOp X.K r f) (ho' : OpR X (compareOp op') r') (hs' : SndOp X.K r' g) (ha : PE X a (lE X.K wa)) (hb : PE X b (lE X.K wb)) (hc : PE X c (lE X.K wc))
    (hm : lastMarks [op, op'] [b, c] = false := by with_unfolding_all rfl) : PE X (.Compare a [op, op'] [b, c] pos) (lE X.K (wCh f g wa wb wc)) := (pe_chain ho ho' ha hb hc hm).mo fun σ H Q q => lch hs hs' q
theorem t_ch (ho : OpR X (compareOp op) r) (hs : SndOp X.K r f) (ho' : OpR X (compareOp op') r') (hs' : SndOp X.K r' g) (ha : PE X a (lE X.K wa)) (hb : PE X b (lE X.K wb)) (hc : PE X c (lE X.K wc))
    (hm : lastMarks [op, op'] [b, c] = false := by with_unfolding_all rfl) : PT X (.Compare a [op, op'] [b, c] pos) (lT X.K (wB (wCh f g wa wb wc))) := (pt_chain ho ho' ha hb hc hm).mo fun σ H Q q => by
  obtain ⟨G, en, I, Q2, o, q2, k⟩ := ltst q
  exact lch hs hs' ⟨G, en, I, Q2, o, q2, k⟩
/-! ### built-ins -/
def dLen : List D → D → Prop
  | [.list xs], z => z = .int xs.length
  | [.tuple xs], z => z = .int xs.length
  | [.str x], z => x.length ≤ sizeLine ∧ z = .int x.length
  | _, _ => False
def rLenD (K : PySem.W.Frag) : List V → Hp → VK → Prop := fun xs H Q => ∃ x n, xs = [x] ∧ LenV K x H n ∧ Q (.int n) H
theorem snd_len : SndCl K (rLenD K) dLen := by
  intro H I xs ds z iH hx hf Q k
  unfold dLen at hf
  split at hf
  · subst hf
    cases hx with
    | cons h t =>
      cases t; cases h with
      | lst h a => exact ⟨_, _, rfl, Or.inl ⟨_, SqL.of (iH _ _ h), (dpa_len a).symm⟩, k _ H I (Gr.rf iH) (.int _)⟩
  · subst hf
    cases hx with
    | cons h t =>
      cases t; cases h with
      | tup h a => exact ⟨_, _, rfl, Or.inr ⟨_, sqt_ex iH h, (dpa_len a).symm⟩, k _ H I (Gr.rf iH) (.int _)⟩
  · obtain ⟨hl, rfl⟩ := hf
    cases hx with
    | cons h t =>
      cases t; cases h
      exact ⟨_, _, rfl, ⟨hl, rfl⟩, k _ H I (Gr.rf iH) (.int _)⟩
  · exact hf.elim
def dIntOf : List D → D → Prop
  | [.int i], z => z = .int i
  | [.bool b], z => z = .int (if b then 1 else 0)
  | _, _ => False
def rIntD : List V → Hp → VK → Prop := fun xs H Q => (∃ i, xs = [.int i] ∧ Q (.int i) H) ∨ ∃ k, xs = [.bl k] ∧ Q (.int (if k then 1 else 0)) H
theorem snd_intOf : SndCl K rIntD dIntOf := by
  intro H I xs ds z iH hx hf Q k
  unfold dIntOf at hf
  split at hf
  · subst hf; cases hx with
    | cons h t => cases t; cases h; exact Or.inl ⟨_, rfl, k _ H I (Gr.rf iH) (.int _)⟩
  · subst hf; cases hx with
    | cons h t => cases t; cases h; exact Or.inr ⟨_, rfl, k _ H I (Gr.rf iH) (.int _)⟩
  · exact hf.elim
def dAbs : List D → D → Prop := fun xs z => ∃ i, xs = [.int i] ∧ z = .int (if i < 0 then -i else i)
theorem snd_abs : SndCl K (fun xs H Q => ∃ i, xs = [.int i] ∧ Q (.int (if i < 0 then -i else i)) H) dAbs := by
  rintro H I xs ds z iH hx ⟨i, rfl, rfl⟩ Q k
  cases hx with
  | cons h t => cases t; cases h; exact ⟨_, rfl, k _ H I (Gr.rf iH) (.int _)⟩
def dMax2 : List D → D → Prop := fun xs z => ∃ i j, xs = [.int i, .int j] ∧ z = .int (if j > i then j else i)
def dMin2 : List D → D → Prop := fun xs z => ∃ i j, xs = [.int i, .int j] ∧ z = .int (if j < i then j else i)
theorem snd_max2 : SndCl K (fun xs H Q => ∃ i j, xs = [.int i, .int j] ∧ Q (.int (if j > i then j else i)) H) dMax2 := by
  rintro H I xs ds z iH hx ⟨i, j, rfl, rfl⟩ Q k
  cases hx with
  | cons h t => cases t with
    | cons h2 t => cases t; cases h; cases h2; exact ⟨_, _, rfl, k _ H I (Gr.rf iH) (.int _)⟩
theorem snd_min2 : SndCl K (fun xs H Q => ∃ i j, xs = [.int i, .int j] ∧ Q (.int (if j < i then j else i)) H) dMin2 := by
  rintro H I xs ds z iH hx ⟨i, j, rfl, rfl⟩ Q k
  cases hx with
  | cons h t => cases t with
    | cons h2 t => cases t; cases h; cases h2; exact ⟨_, _, rfl, k _ H I (Gr.rf iH) (.int _)⟩
def dSum : List D → D → Prop := fun xs z => ∃ ns : List Int, xs = [.list (ns.map .int)] ∧ z = .int ns.sum
theorem snd_sum : SndCl K (rSum K) dSum := by
  rintro H I xs ds z iH hx ⟨ns, rfl, rfl⟩ Q k
  cases hx with
  | cons h t => cases t; cases h with
    | lst h a =>
      have e := dpa_ints_inv ns a
      subst e
      exact ⟨_, ns, rfl, SqL.of (iH _ _ h), k _ H I (Gr.rf iH) (.int _)⟩
def dAll : List D → D → Prop := fun xs z => ∃ bs : List Bool, xs = [.list (bs.map .bool)] ∧ z = .bool (bs.all id)
def dAny : List D → D → Prop := fun xs z => ∃ bs : List Bool, xs = [.list (bs.map .bool)] ∧ z = .bool (bs.any id)
theorem snd_all : SndCl K (rAll K) dAll := by
  rintro H I xs ds z iH hx ⟨ns, rfl, rfl⟩ Q k
  cases hx with
  | cons h t => cases t; cases h with
    | lst h a =>
      have e := dpa_bls_inv ns a
      subst e
      exact ⟨_, ns, rfl, SqL.of (iH _ _ h), k _ H I (Gr.rf iH) (.bl _)⟩
theorem snd_any : SndCl K (rAny K) dAny := by
  rintro H I xs ds z iH hx ⟨ns, rfl, rfl⟩ Q k
  cases hx with
  | cons h t => cases t; cases h with
    | lst h a =>
      have e := dpa_bls_inv ns a
      subst e
      exact ⟨_, ns, rfl, SqL.of (iH _ _ h), k _ H I (Gr.rf iH) (.bl _)⟩
def dTupOf : List D → D → Prop
  | [.list xs], z => z = .tuple xs
  | [.tuple xs], z => z = .tuple xs
  | _, _ => False
def rTupD (K : PySem.W.Frag) : List V → Hp → VK → Prop := fun xs H Q => ∃ p ys, xs = [.ref p] ∧ ((SqL K H p ys ∧ ∀ l, H l = none → Q (.ref l) (upd H l (.tup ys))) ∨ (SqT K H p ys ∧ Q (.ref p) H))
theorem snd_tupOf : SndCl K (rTupD K) dTupOf := by
  intro H I xs ds z iH hx hf Q k
  unfold dTupOf at hf
  split at hf
  · subst hf; cases hx with
    | cons h t => cases t; cases h with
      | lst h a => exact ⟨_, _, rfl, Or.inl ⟨SqL.of (iH _ _ h), fun l hl => fin_tup iH hl a k⟩⟩
  · subst hf; cases hx with
    | cons h t => cases t; cases h with
      | tup h a => exact ⟨_, _, rfl, Or.inr ⟨sqt_ex iH h, k _ H I (Gr.rf iH) (.tup h a)⟩⟩
  · exact hf.elim
def dListOf : List D → List D → Prop
  | [.list xs], z => z = xs
  | [.tuple xs], z => z = xs
  | _, _ => False
/-- isinstance: x of the type T -/
def tyName : D → String
  | .none => "NoneType"
  | .bool _ => "bool"
  | .int _ => "int"
  | .str _ => "str"
  | .list _ => "list"
  | .tuple _ => "tuple"
  | .dict _ => "dict"
def rGcdD : List V → Hp → VK → Prop := rGcd
def dGcd : List D → D → Prop := fun xs z => ∃ i j : Int, xs = [.int i, .int j] ∧ z = .int ((Nat.gcd i.natAbs j.natAbs : Nat) : Int)
theorem snd_gcd : SndCl K rGcd dGcd := by
  rintro H I xs ds z iH hx ⟨i, j, rfl, rfl⟩ Q k
  cases hx with
  | cons h t => cases t with
    | cons h2 t => cases t; cases h; cases h2; exact ⟨_, _, rfl, k _ H I (Gr.rf iH) (.int _)⟩
end
end Pd

set_option Elab.async false
set_option linter.all false
set_option maxRecDepth 100000
set_option maxHeartbeats 4000000
namespace Pd
open PySem PySem.Spec PyProof.Rows L2
section
variable {K : PySem.W.Frag} {X : Cx} {a b c e : Expr} {es : List Expr} {pos p p2 : Pos} {x : Str} {wa wb wc : WE}
/-! ### subscripts -/
theorem dpa_at {I : Hp} {vs : List V} {ds : List D} {i : Int} {z : D} (h : DaAll K I vs ds) (hz : atI ds i = some z) : ∃ v, atI vs i = some v ∧ Da K I v z := by
  unfold atI at hz ⊢
  rw [dpa_len h]
  cases q : ixN ds.length i with
  | none => rw [q] at hz; cases hz
  | some j =>
    rw [q] at hz
    exact dpa_get h hz
def dIx : D → D → D → Prop
  | .list xs, .int i, z => atI xs i = some z
  | .tuple xs, .int i, z => atI xs i = some z
  | _, _, _ => False
theorem snd_ix : SndOp K (rIx K) dIx := by
  intro H I x y d e z iH hx hy hf Q k
  unfold dIx at hf
  split at hf
  · cases hy
    cases hx with
    | lst h a =>
      obtain ⟨v, h1, h2⟩ := dpa_at a hf
      exact Or.inl ⟨_, _, _, v, rfl, rfl, SqL.of (iH _ _ h), h1, k v H I (Gr.rf iH) h2⟩
  · cases hy
    cases hx with
    | tup h a =>
      obtain ⟨v, h1, h2⟩ := dpa_at a hf
      exact Or.inr (Or.inl ⟨_, _, _, v, rfl, rfl, sqt_ex iH h, h1, k v H I (Gr.rf iH) h2⟩)
  · exact hf.elim
theorem d_ix (ha : PE X a (lE X.K wa)) (hb : PE X b (lE X.K wb)) (hs : PlainIx b := by exact fun _ _ => rfl) : PE X (.Subscript a b pos) (lE X.K (wOp dIx wa wb)) :=
  (pe_ix ix_seq ha hb hs).mo fun σ H Q q => lop snd_ix q
def cutA {α : Type} (xs : List α) (lo hi : Option Int) : List α := (xs.drop (HT.sIx xs.length 0 lo)).take (HT.sIx xs.length xs.length hi - HT.sIx xs.length 0 lo)
theorem dpa_cut {I : Hp} {vs : List V} {ds : List D} {lo hi : Option Int} (h : DaAll K I vs ds) : DaAll K I (cutV vs lo hi) (cutA ds lo hi) := by
  unfold cutV cutA
  rw [dpa_len h]
  exact dpa_take _ (dpa_drop _ h)
abbrev WO := En → (Option Int → En → Prop) → Prop
def lO (K : PySem.W.Frag) (w : WO) : TO := fun σ H Q => ∃ (G : Gh) (en : En) (I : Hp) (Q' : Option Int → En → Prop), Ok K G σ en H I ∧ w en Q' ∧
  ∀ o H' I' en', Ok K G σ en' H' I' → Ex I I' → Q' o en' → Q o H'
def wNoP : WO := fun en Q => Q none en
def wPart (w : WE) : WO := fun en Q => w en fun d e1 => ∃ i, d = .int i ∧ Q (some i) e1
theorem o_none : PO X none (lO X.K wNoP) := ⟨fun pins s σ H Q I h => po_none.run pins s σ H Q I (by obtain ⟨G, en, I, Q', o, q, k⟩ := h; exact k none H I en o (Ex.rf I) q)⟩
theorem o_some (h : PE X e (lE X.K wa)) : PO X (some e) (lO X.K (wPart wa)) := ⟨fun pins s σ H Q I h' => (po_some h).run pins s σ H Q I (by
  obtain ⟨G, en, I, Q', o, q, k⟩ := h'
  exact ⟨G, en, I, _, o, q, fun v H1 I1 e1 d o1 x1 dv ⟨i, hi, q1⟩ => ⟨i, by subst hi; exact dp_int dv, k (some i) H1 I1 e1 o1 x1 q1⟩⟩)⟩
def wSl (wa : WE) (wl wh : WO) : WE := fun en Q => wa en fun d e1 => wl e1 fun l e2 => wh e2 fun h e3 => (∃ xs, d = .list xs ∧ Q (.list (cutA xs l h)) e3) ∨ (∃ xs, d = .tuple xs ∧ Q (.tuple (cutA xs l h)) e3)
theorem d_sl {lo hi : Option Expr} {wl wh : WO} (ha : PE X a (lE X.K wa)) (hl : PO X lo (lO X.K wl)) (hh : PO X hi (lO X.K wh)) : PE X (.Subscript a (.Slice lo hi none p2) pos) (lE X.K (wSl wa wl wh)) :=
  (pe_slice (sl_list.or sl_tupA) ha hl hh).mo fun σ H Q ⟨G, en, I, Q', o, q, k⟩ => ⟨G, en, I, _, o, q, fun v H1 I1 e1 d o1 x1 dv q1 => ⟨G, e1, I1, _, o1, q1, fun l H2 I2 e2 o2 x2 q2 => ⟨G, e2, I2, _, o2, q2, fun h H3 I3 e3 o3 x3 q3 => by
    have dv3 := (dv.up x2).up x3
    have x := (x1.tr x2).tr x3
    rcases q3 with ⟨xs, rfl, q3⟩ | ⟨xs, rfl, q3⟩
    · cases dv3 with
      | lst hs ha => exact Or.inl ⟨_, _, rfl, SqL.of (o3.iH _ _ hs), fun p hp => fin_lst (ds := cutA xs l h) o3.iH hp (dpa_cut ha) fun v' H4 I4 g dz => k v' H4 I4 e3 _ (o3.gr g) (x.tr g.i) dz q3⟩
    · cases dv3 with
      | tup hs ha =>
        refine Or.inr ⟨_, _, rfl, sqt_ex o3.iH hs, fun hw => ?_, fun _ p hp => fin_tup (ds := cutA xs l h) o3.iH hp (dpa_cut ha) fun v' H4 I4 g dz => k v' H4 I4 e3 _ (o3.gr g) (x.tr g.i) dz q3⟩
        have e0 : cutA xs l h = xs := by
          unfold cutA
          rw [← dpa_len ha, hw.1, hw.2, List.drop_zero, Nat.sub_zero, dpa_len ha, List.take_length]
        rw [e0] at q3
        exact k _ H3 I3 e3 _ o3 x (.tup hs ha) q3⟩⟩⟩
/-- xs[::-1], a list -/
def wRev (wa : WE) : WA := fun en Q => wa en fun d e1 => ∃ xs, d = .list xs ∧ Q xs.reverse e1
theorem l_rev {k : Nat} {p1 p2 p3 : Pos} (ha : PE X a (lE X.K wa)) : PE X (.Subscript a (.Slice none none (some (.UnaryOp .USub (.Constant (.int 1) k p1) p2)) p3) pos) (lL X.K (wRev wa)) :=
  (pe_revL ha).mo fun σ H Q ⟨G, en, I, Q', o, q, k⟩ => ⟨G, en, I, _, o, q, fun v H1 I1 e1 d o1 x1 dv ⟨xs, hd, q1⟩ => by
    subst hd
    cases dv with
    | lst hs ha => exact ⟨_, _, rfl, SqL.of (o1.iH _ _ hs), fun p hp => k p _ H1 I1 e1 _ o1 x1 hp (dpa_rev ha) q1⟩⟩
def wListOf (w : WA) : WA := fun en Q => w en fun ds e1 => ∃ z, dListOf ds z ∧ Q z e1
theorem l_listOf {w : WA} (hm : X.mg "list" = none) (ha : PA X (e :: es) (lA X.K w)) (hg : Gl X "list" := by rfl)
    (he : starEach (e :: es) X.env = (false, eval e X.env) :: starEach es X.env := by rfl) (hpl : (backTo pos (starEach es X.env)).any (·.1) = false := by rfl) :
    PE X (.Call (.Name "list" p) (e :: es) [] pos) (lL X.K (wListOf w)) :=
  (pe_callTy call_list_of hg hm (by decide +kernel) ha (by decide) (by decide) he hpl).mo fun σ H Q ⟨G, en, I, Q', o, q, k⟩ => ⟨G, en, I, _, o, q, fun vs H1 I1 e1 ds o1 x1 dvs ⟨z, hz, q1⟩ => by
    unfold dListOf at hz
    split at hz
    · subst hz
      cases dvs with
      | cons h t => cases t; cases h with
        | lst hs ha => exact ⟨_, _, rfl, Or.inl (SqL.of (o1.iH _ _ hs)), fun l hl => k l _ H1 I1 e1 _ o1 x1 hl ha q1⟩
    · subst hz
      cases dvs with
      | cons h t => cases t; cases h with
        | tup hs ha => exact ⟨_, _, rfl, Or.inr (sqt_ex o1.iH hs), fun l hl => k l _ H1 I1 e1 _ o1 x1 hl ha q1⟩
    · exact hz.elim⟩
/-! ### isinstance -/
def wIsi (T : String) (wa : WE) : WE := fun en Q => wa en fun d e1 => ∃ r, kitB (tyName d) T = some r ∧ Q (.bool r) e1
theorem da_ty {H I : Hp} {v : V} {d : D} (iH : Ex I H) (h : Da K I v d) : TyX K H v (.type (tyName d)) := by
  cases h with
  | non => exact .base .non
  | bl b => exact .base (.bl b)
  | int i => exact .base (.int i)
  | str x => exact .base (.str x)
  | lst h a => exact .base (.lst (iH _ _ h))
  | tup h a =>
    rcases sqt_ex iH h with (h | ⟨o, h⟩) | ⟨o, its, n, h1, h2, h3, h4, h5⟩
    · exact .base (.tup h)
    · exact .fTuple h
    · exact .kTuple h1 h2
theorem d_isi {T : Str} {T' : String} (hm : X.mg "isinstance" = none) (hmT : X.mg T = none) (hT : bootBuiltins T = some (.type T')) (ha : PE X a (lE X.K wa)) (hg : Gl X "isinstance" := by rfl) (hgT : Gl X T := by rfl) (hn : T ≠ "__name__" := by decide) (hdb : (T == ("__debug__" : Str)) = false := by decide)
    (he : starEach (a :: [.Name T p2]) X.env = (false, eval a X.env) :: starEach [.Name T p2] X.env := by rfl) (he2 : starEach (.Name T p2 :: []) X.env = (false, eval (.Name T p2) X.env) :: starEach [] X.env := by rfl) (hpl : (backTo pos (starEach [.Name T p2] X.env)).any (·.1) = false := by rfl) :
    PE X (.Call (.Name "isinstance" p) [a, .Name T p2] [] pos) (lE X.K (wIsi T' wa)) :=
  (pe_callB call_isi hg hm (by decide +kernel) (pa_cons ha (pa_cons (pe_bltn (v := .ty T') hgT hmT hT rfl hn hdb) pa_nil he2) he) (by decide) (by decide) he hpl).mo fun σ H Q ⟨G, en, I, Q', o, q, k⟩ => ⟨G, en, I, _, o, q, fun v H1 I1 e1 d o1 x1 dv ⟨r, hr, q1⟩ => by
    exact ⟨v, .ty T', .type (tyName d), .type T', r, rfl, .ty T', da_ty o1.iH dv, kit_ty hr, k (.bl r) H1 I1 e1 _ o1 x1 (.bl r) q1⟩⟩
/-! ### one's own list, read and written -/
def Flat : D → Prop
  | .none | .bool _ | .int _ | .str _ => True
  | _ => False
theorem flat_any {I J : Hp} {v : V} {d : D} (h : Da K I v d) (f : Flat d) : Da K J v d := by
  cases h with
  | non => exact .non
  | bl b => exact .bl b
  | int i => exact .int i
  | str x => exact .str x
  | lst h a => exact f.elim
  | tup h a => exact f.elim
/-- the region with one's own list within -/
theorem Ok.withOwn {G : Gh} {σ : Sg} {en : En} {H I : Hp} (o : Ok K G σ en H I) {i : Nat} {ds : List D} (h : en[i]? = some (.own ds)) : ∃ l vs, σ[i]? = some (some (.ref l)) ∧ H l = some (.lst vs) ∧ Ex I (upd I l (.lst vs)) ∧ Ex (upd I l (.lst vs)) H ∧ Da K (upd I l (.lst vs)) (.ref l) (.list ds) := by
  obtain ⟨l, vs, h1, h2, h3, h4⟩ := o.own h
  have e1 : Ex I (upd I l (.lst vs)) := Ex.up h2
  refine ⟨l, vs, h1, h3, e1, fun a u h => ?_, .lst upd_same (h4.up e1)⟩
  by_cases q : a = l
  · subst q; rw [upd_same] at h; rw [h3]; exact h
  · rw [upd_ne q] at h; exact o.iH a u h
def wOpO (i : Nat) (f : D → D → D → Prop) (wb : WE) : WE := fun en Q => (∃ ds, en[i]? = some (.own ds)) ∧ wb en fun y e1 => ∃ ds z, e1[i]? = some (.own ds) ∧ f (.list ds) y z ∧ Flat z ∧ Q z e1
def wOpR (i : Nat) (f : D → D → D → Prop) (wa : WE) : WE := fun en Q => wa en fun x e1 => ∃ ds z, e1[i]? = some (.own ds) ∧ f x (.list ds) z ∧ Flat z ∧ Q z e1
def wClO (i : Nat) (g : List D → D → Prop) : WE := fun en Q => ∃ ds z, en[i]? = some (.own ds) ∧ g [.list ds] z ∧ Flat z ∧ Q z en
theorem ok_same {G : Gh} {σ : Sg} {en : En} {H I H' I' J : Hp} (o : Ok K G σ en H I) (g : Gr H J H' I') (e : Ex I J) : Ok K G σ en H' I := o.grow g.h (Ex.rf I) (o.iH.tr g.h) fun a h1 h2 => absurd h2 h1
theorem lopO {r : R2} {f : D → D → D → Prop} {i : Nat} (h : SndOp X.K r f) {σ : Sg} {H : Hp} {Q : VK} (q : lE X.K (wOpO i f wb) σ H Q) : tOp r (tVar i) (lE X.K wb) σ H Q := by
  obtain ⟨G, en, I, Q', o, ⟨⟨ds0, hi⟩, q⟩, k⟩ := q
  obtain ⟨l, vs0, r1, _⟩ := o.own hi
  refine ⟨.ref l, r1, G, en, I, _, o, q, fun u H2 I2 e2 d2 o2 x2 du ⟨ds, z, hd, fz, fl, q2⟩ => ?_⟩
  obtain ⟨l', vs, s1, s2, s3, s4, s5⟩ := o2.withOwn hd
  rw [r1] at s1
  have q5 : l = l' := by injection s1 with s1; injection s1 with s1; injection s1
  subst q5
  exact h H2 _ (.ref l) u (.list ds) d2 z s4 s5 (du.up s3) fz Q fun v' H3 I3 g dz => k v' H3 I2 e2 z (ok_same o2 g s3) x2 (flat_any dz fl) q2
theorem lopR {r : R2} {f : D → D → D → Prop} {i : Nat} (h : SndOp X.K r f) {σ : Sg} {H : Hp} {Q : VK} (q : lE X.K (wOpR i f wa) σ H Q) : tOp r (lE X.K wa) (tVar i) σ H Q := by
  obtain ⟨G, en, I, Q', o, q, k⟩ := q
  refine ⟨G, en, I, _, o, q, fun u H2 I2 e2 d2 o2 x2 du ⟨ds, z, hd, fz, fl, q2⟩ => ?_⟩
  obtain ⟨l, vs, s1, s2, s3, s4, s5⟩ := o2.withOwn hd
  exact ⟨.ref l, s1, h H2 _ u (.ref l) d2 (.list ds) z s4 (du.up s3) s5 fz Q fun v' H3 I3 g dz => k v' H3 I2 e2 z (ok_same o2 g s3) x2 (flat_any dz fl) q2⟩
theorem d_ixO {i : Nat} (ha : PE X a (tVar i)) (hb : PE X b (lE X.K wb)) (hs : PlainIx b := by exact fun _ _ => rfl) : PE X (.Subscript a b pos) (lE X.K (wOpO i dIx wb)) :=
  (pe_ix ix_seq ha hb hs).mo fun σ H Q q => lopO snd_ix q
theorem d_cmpO {op : CmpOp} {r : R2} {f : D → D → D → Prop} {i : Nat} (ho : OpR X (compareOp op) r) (hs : SndOp X.K r f) (ha : PE X a (tVar i)) (hb : PE X b (lE X.K wb)) (hm : behindInMarks op b = false) : PE X (.Compare a [op] [b] pos) (lE X.K (wOpO i f wb)) :=
  (pe_cmpR ho ha hb hm).mo fun σ H Q q => lopO hs q
theorem t_cmpO {op : CmpOp} {r : R2} {f : D → D → D → Prop} {i : Nat} (ho : OpR X (compareOp op) r) (hs : SndOp X.K r f) (ha : PE X a (tVar i)) (hb : PE X b (lE X.K wb)) (hm : behindInMarks op b = false) : PT X (.Compare a [op] [b] pos) (lT X.K (wB (wOpO i f wb))) :=
  (pt_cmpR ho ha hb hm).mo fun σ H Q q => by
    obtain ⟨G, en, I, Q2, o, q2, k⟩ := ltst q
    exact lopO hs ⟨G, en, I, Q2, o, q2, k⟩
theorem d_cmpR {op : CmpOp} {r : R2} {f : D → D → D → Prop} {i : Nat} (ho : OpR X (compareOp op) r) (hs : SndOp X.K r f) (ha : PE X a (lE X.K wa)) (hb : PE X b (tVar i)) (hm : behindInMarks op b = false) : PE X (.Compare a [op] [b] pos) (lE X.K (wOpR i f wa)) :=
  (pe_cmpR ho ha hb hm).mo fun σ H Q q => lopR hs q
theorem t_cmpR {op : CmpOp} {r : R2} {f : D → D → D → Prop} {i : Nat} (ho : OpR X (compareOp op) r) (hs : SndOp X.K r f) (ha : PE X a (lE X.K wa)) (hb : PE X b (tVar i)) (hm : behindInMarks op b = false) : PT X (.Compare a [op] [b] pos) (lT X.K (wB (wOpR i f wa))) :=
  (pt_cmpR ho ha hb hm).mo fun σ H Q q => by
    obtain ⟨G, en, I, Q2, o, q2, k⟩ := ltst q
    exact lopR hs ⟨G, en, I, Q2, o, q2, k⟩
theorem d_cbO {id : String} {r : List V → Hp → VK → Prop} {g : List D → D → Prop} {i : Nat} (hc : CallR X (.builtin id) r) (hs : SndCl X.K r g) (hm : X.mg x = none) (hv : bootBuiltins x = some (.builtin id)) (ha : PE X e (tVar i)) (hg : Gl X x := by rfl)
    (hn : x ≠ "__name__" := by decide) (hdb : (x == ("__debug__" : Str)) = false := by decide)
    (he : starEach (e :: []) X.env = (false, eval e X.env) :: starEach [] X.env := by rfl) (hpl : (backTo pos (starEach [] X.env)).any (·.1) = false := by rfl) : PE X (.Call (.Name x p) [e] [] pos) (lE X.K (wClO i g)) :=
  (pe_callB hc hg hm hv (pa_cons ha pa_nil he) hn hdb he hpl).mo fun σ H Q ⟨G, en, I, Q', o, ⟨ds, z, hd, fz, fl, q⟩, k⟩ => by
    obtain ⟨l, vs, s1, s2, s3, s4, s5⟩ := o.withOwn hd
    exact ⟨.ref l, s1, hs H _ [.ref l] [.list ds] z s4 (.cons s5 .nil) fz Q fun v' H3 I3 g dz => k v' H3 I en z (ok_same o g s3) (Ex.rf I) (flat_any dz fl) q⟩
end
section
variable {X : Cx} {e o idx : Expr} {st : Stmt} {sts : List Stmt} {pos p1 p2 : Pos} {t u : WS} {w wi : WE} {x : Str} {i : Nat}
/-- xs.append(e) -/
def wApp (i : Nat) (w : WE) : WS := fun R en => (∃ ds, en[i]? = some (.own ds)) ∧ w en fun d e1 => ∃ ds, e1[i]? = some (.own ds) ∧ ds.length < sizeLine ∧ R.nx (e1.set i (.own (ds ++ [d])))
theorem s_app (ho : PE X o (tVar i)) (he : PE X e (lE X.K w))
    (hs : swapsWith (.Call (.Attribute o "append" p1) [e] [] p2) none pos.line X.env = pure false := by rfl)
    (pe : PE X (.Call (.Attribute o "append" p1) [e] [] p2) (tBM X.K "list" rAppend (tVar i) (tCons (lE X.K w) tNil)) := by exact (pe_bm PySem.F.plainAttrs_list PySem.F.slot_list_append PySem.F.type_list_append mt_append (by assumption) (pa_cons (by assumption) pa_nil))) :
    PS X (.Expr (.Call (.Attribute o "append" p1) [e] [] p2) pos) (lS X.K (wApp i w)) :=
  (ps_expr pe hs).mo fun R σ H ⟨G, en, I, R', ok, ⟨⟨ds0, h0⟩, q⟩, k⟩ => by
    obtain ⟨l, vs0, r1, r2, r3, r4⟩ := ok.own h0
    refine ⟨.ref l, r1, Or.inl ⟨rfl, vs0, SqL.of r3⟩, G, en, I, _, ok, q, fun v H1 I1 e1 d o1 x1 dv ⟨ds, hd, hz, q1⟩ => ?_⟩
    obtain ⟨l', vs, s1, s2, s3, s4⟩ := o1.own hd
    rw [r1] at s1
    have q5 : l = l' := by injection s1 with s1; injection s1 with s1; injection s1
    subst q5
    refine ⟨l, vs, v, rfl, rfl, s3, by rw [dpa_len s4]; exact hz, ?_⟩
    refine k.1 σ _ I1 _ (o1.turn (H' := upd H1 l (.lst (vs ++ [v]))) (vs := vs ++ [v]) ⟨r1, ds, hd⟩ (fun a u ha h => by rw [upd_ne ha]; exact h) (Ex.rf I1) (fun a u h => ?_) (fun a h1 h2 => absurd h2 h1) upd_same (dpa_app s4 (.cons dv .nil))) q1
    have : a ≠ l := fun ea => by subst ea; rw [s2] at h; cases h
    rw [upd_ne this]; exact o1.iH a u h
/-- xs[k] = e -/
def wSetIt (i : Nat) (wi w : WE) : WS := fun R en => w en fun d e1 => (∃ ds, e1[i]? = some (.own ds)) ∧ wi e1 fun k e2 => ∃ ds m j, e2[i]? = some (.own ds) ∧ k = .int m ∧ ixN ds.length m = some j ∧ R.nx (e2.set i (.own (ds.set j d)))
theorem s_setIt (ps : PS X st (tAsg (lE X.K w) (gSub (tVar i) (lE X.K wi) rSetL))) : PS X st (lS X.K (wSetIt i wi w)) :=
  ps.mo fun R σ H ⟨G, en, I, R', ok, q, k⟩ => ⟨G, en, I, _, ok, q, fun v H1 I1 e1 d o1 x1 dv ⟨⟨ds0, h0⟩, q1⟩ => by
    obtain ⟨l, vs0, r1, r2, r3, r4⟩ := o1.own h0
    refine ⟨.ref l, r1, G, e1, I1, _, o1, q1, fun m H2 I2 e2 dm o2 x2 dvm ⟨ds, mm, j, hd, hm, hj, q2⟩ => ?_⟩
    subst hm
    obtain ⟨l', vs, s1, s2, s3, s4⟩ := o2.own hd
    rw [r1] at s1
    have q5 : l = l' := by injection s1 with s1; injection s1 with s1; injection s1
    subst q5
    refine ⟨l, vs, mm, j, rfl, dp_int dvm, s3, by rw [dpa_len s4]; exact hj, ?_⟩
    refine k.1 σ _ I2 _ (o2.turn (H' := upd H2 l (.lst (vs.set j v))) (vs := vs.set j v) ⟨r1, ds, hd⟩ (fun a u ha h => by rw [upd_ne ha]; exact h) (Ex.rf I2) (fun a u h => ?_) (fun a h1 h2 => absurd h2 h1) upd_same (dpa_set j s4 (dv.up x2))) q2
    have : a ≠ l := fun ea => by subst ea; rw [s2] at h; cases h
    rw [upd_ne this]; exact o2.iH a u h⟩
/-- from here on slot i is data -/
def wFrz (i : Nat) (t : WS) : WS := fun R en => ∃ ds, en[i]? = some (.own ds) ∧ i ≠ 0 ∧ t R (en.set i (.imm (.list ds)))
theorem Ok.freeze {K : PySem.W.Frag} {G : Gh} {σ : Sg} {en : En} {H I : Hp} (o : Ok K G σ en H I) {i : Nat} {ds : List D} (h : en[i]? = some (.own ds)) (hi : i ≠ 0) : ∃ I', Ok K G σ (en.set i (.imm (.list ds))) H I' ∧ Ex I I' := by
  obtain ⟨l, vs, h1, h2, h3, h4⟩ := o.own h
  have ow : OwnAt σ en i l := ⟨h1, ds, h⟩
  have nj : G.J ≠ some l := fun e => hi (o.ds i 0 l ow (o.pj l e))
  have he : G.He l = none := (o.ml i l ow).resolve_left nj
  have e1 : Ex I (upd I l (.lst vs)) := Ex.up h2
  have own' : ∀ j b, OwnAt σ (en.set i (.imm (.list ds))) j b → i ≠ j ∧ OwnAt σ en j b := fun j b ⟨q1, es, q2⟩ => by
    rcases set_get q2 with ⟨e, q⟩ | ⟨ne, q3⟩
    · cases q
    · exact ⟨ne, q1, es, q3⟩
  refine ⟨upd I l (.lst vs), ⟨o.i0.tr e1, fun a u q => ?_, fun a q1 q2 => ?_, o.fr, by rw [List.length_set]; exact o.ln, fun j s q => ?_, fun j b q => o.ml j b (own' j b q).2, fun a b c q1 q2 => o.ds a b c (own' a c q1).2 (own' b c q2).2, fun b q => ?_, fun p hp => ?_⟩, e1⟩
  · by_cases e : a = l
    · subst e; rw [upd_same] at q; rw [h3]; exact q
    · rw [upd_ne e] at q; exact o.iH a u q
  · have : a ≠ l := fun e => by subst e; exact q1 he
    rw [upd_ne this]; exact o.nw a q1 q2
  · rcases set_get q with ⟨e, q2⟩ | ⟨ne, q2⟩
    · subst e q2
      exact ⟨_, h1, .lst upd_same (h4.up e1)⟩
    · have r := o.sl j s q2
      cases s with
      | un => trivial
      | scr ns => obtain ⟨a, q1, q2⟩ := r; exact ⟨a, q1, sqs_ex e1 q2⟩
      | imm d =>
        obtain ⟨y, r1, r2⟩ := r
        exact ⟨y, r1, r2.up e1⟩
      | own es =>
        obtain ⟨l', vs', r1, r2, r3, r4⟩ := r
        have : l' ≠ l := fun e => by subst e; exact ne (o.ds i j l' ow ⟨r1, es, q2⟩)
        exact ⟨l', vs', r1, by rw [upd_ne this]; exact r2, r3, r4.up e1⟩
  · obtain ⟨r1, es, r2⟩ := o.pj b q
    exact ⟨r1, es, by rw [List.getElem?_set_ne hi]; exact r2⟩
  · obtain ⟨q1, q2, q3⟩ := o.pr p hp
    have : p.1 ≠ l := fun e => q3 i (by rw [e]; exact ow)
    exact ⟨q1, by rw [upd_ne this]; exact q2, fun j q => q3 j (own' j _ q).2⟩
theorem s_frz (h : PS X st (lS X.K t)) : PS X st (lS X.K (wFrz i t)) := h.mo fun R σ H ⟨G, en, I, R', ok, ⟨ds, hd, hi, q⟩, k⟩ => by
  obtain ⟨I', o', e'⟩ := ok.freeze hd hi
  exact lS_mk o' q k
theorem ss_frz (h : PSs X sts (lS X.K t)) : PSs X sts (lS X.K (wFrz i t)) := h.mo fun R σ H ⟨G, en, I, R', ok, ⟨ds, hd, hi, q⟩, k⟩ => by
  obtain ⟨I', o', e'⟩ := ok.freeze hd hi
  exact lS_mk o' q k
/-! ### while -/
def wWhile (tc : WT) (tb : WS) : WS := fun R en => ∃ W : Nat → En → Prop, (∃ m, W m en) ∧ ∀ m e, W m e → tc e fun b e1 => if b = true then tb { R with nx := fun e' => ∃ m', m' < m ∧ W m' e', ct := fun e' => ∃ m', m' < m ∧ W m' e', bk := R.nx } e1 else R.nx e1
theorem s_while {c : Expr} {body : List Stmt} {tc : WT} {tb : WS} (hp : PassesOwn (model X.prog X.w) X.A X.env X.xe) (hc : PT X c (lT X.K tc)) (hb : PSs X body (lS X.K tb)) : PS X (.While c body [] pos) (lS X.K (wWhile tc tb)) :=
  (ps_while hp hc hb).mo fun R σ H ⟨G, en, I, R', ok, ⟨W, ⟨m0, w0⟩, turn⟩, k⟩ => by
    refine ⟨fun m σ H => ∃ en I, Ok X.K G σ en H I ∧ W m en, ⟨m0, en, I, ok, w0⟩, fun m σ1 H1 ⟨e1, I1, o1, w1⟩ => ?_⟩
    refine ⟨G, e1, I1, _, o1, turn m e1 w1, fun b H2 I2 e2 o2 x2 q2 => ?_⟩
    cases b with
    | true =>
      refine ⟨fun σ H => ∃ m', m' < m ∧ ∃ en I, Ok X.K G σ en H I ∧ W m' en, fun _ _ h => h, G, e2, I2, _, o2, q2, ?_⟩
      exact ⟨fun σ' H' I' en' o' ⟨m', hm, w'⟩ => ⟨m', hm, en', I', o', w'⟩, k.2.1, fun σ' H' I' en' o' q' => k.1 σ' H' I' en' o' q', fun σ' H' I' en' o' ⟨m', hm, w'⟩ => ⟨m', hm, en', I', o', w'⟩⟩
    | false => exact k.1 σ1 H2 I2 e2 o2 q2
end
end Pd

set_option Elab.async false
set_option linter.all false
set_option maxRecDepth 100000
set_option maxHeartbeats 4000000
namespace Pd
open PySem PySem.Spec PyProof.Rows L2
/-! ### what is walked -/
/-- the iterator yields these data, turn by turn -/
structure ItD (K : PySem.W.Frag) (J : It) (I0 : Hp) (xs : List D) : Prop where
  go : ∀ i H I, Ex I0 I → Ex I H → i < xs.length → J.go i H
  stop : ∀ H I, Ex I0 I → Ex I H → J.stop xs.length H
  yld : ∀ i H I v H' d, Ex I0 I → Ex I H → xs[i]? = some d → J.yld i H v H' → ∃ I', Gr H I H' I' ∧ Da K I' v d
def lI (K : PySem.W.Frag) (w : WA) : TI := fun σ H R => ∃ (G : Gh) (en : En) (I : Hp) (Q' : List D → En → Prop), Ok K G σ en H I ∧ w en Q' ∧
  ∀ J H' I' en' xs, Ok K G σ en' H' I' → Ex I I' → ItD K J I' xs → Q' xs en' → R J H'
theorem _root_.L2.PI.mo {X : Cx} {tg e : Expr} {t t' : TI} (h : PI X tg e t) (m : ∀ σ H R, t' σ H R → t σ H R) : PI X tg e t' := ⟨fun pins s σ H Q I q => h.run pins s σ H Q I (m σ H Q q)⟩
section
variable {K : PySem.W.Frag} {X : Cx} {tg e a b : Expr} {es : List Expr} {pos p tpos : Pos} {w wb : WE} {wa : WA}
theorem itd_list {I : Hp} {a : Addr} {vs : List V} {ds : List D} (h : I a = some (.lst vs)) (hd : DaAll K I vs ds) : ItD K (Itl K a) I ds where
  go := fun i H I1 e1 e2 hi => by
    obtain ⟨v, hv, _⟩ := dpa_get hd (List.getElem?_eq_getElem hi)
    exact ⟨vs, v, SqL.of (e2 _ _ (e1 _ _ h)), hv⟩
  stop := fun H I1 e1 e2 => ⟨vs, SqL.of (e2 _ _ (e1 _ _ h)), by rw [dpa_len hd]; exact Nat.le_refl _⟩
  yld := fun i H I1 v H' d e1 e2 hd' ⟨eH, hv⟩ => by
    subst eH
    obtain ⟨v', hv', q⟩ := dpa_get hd hd'
    have := hv vs (SqL.of (e2 _ _ (e1 _ _ h)))
    rw [hv'] at this
    cases this
    exact ⟨I1, Gr.rf e2, q.up e1⟩
theorem itd_tup {I : Hp} {a : Addr} {vs : List V} {ds : List D} (h : SqT K I a vs) (hd : DaAll K I vs ds) : ItD K (Itt K a) I ds where
  go := fun i H I1 e1 e2 hi => by
    obtain ⟨v, hv, _⟩ := dpa_get hd (List.getElem?_eq_getElem hi)
    exact ⟨vs, v, sqt_ex (e1.tr e2) h, hv⟩
  stop := fun H I1 e1 e2 => ⟨vs, sqt_ex (e1.tr e2) h, by rw [dpa_len hd]; exact Nat.le_refl _⟩
  yld := fun i H I1 v H' d e1 e2 hd' ⟨eH, hv⟩ => by
    subst eH
    obtain ⟨v', hv', q⟩ := dpa_get hd hd'
    have := hv vs (sqt_ex (e1.tr e2) h)
    rw [hv'] at this
    cases this
    exact ⟨I1, Gr.rf e2, q.up e1⟩
def iSeq (K : PySem.W.Frag) (tl : TE) : TI := fun σ H R => tl σ H fun x H1 => ∃ a, x = .ref a ∧ (((∃ xs, SqL K H1 a xs) ∧ R (Itl K a) H1) ∨ ((∃ xs, SqT K H1 a xs) ∧ R (Itt K a) H1))
theorem pi_seq {l : Expr} {tl : TE} (hl : PE X l tl) : PI X tg l (iSeq X.K tl) := by
  refine ⟨fun pins s σ H R I h => ?_⟩
  refine thn (hl.run pins s σ H _ I h) fun v s1 ⟨x, H1, I1, r1, q1⟩ => ?_
  obtain ⟨a, e, q⟩ := q1
  subst e
  cases r1
  rcases q with ⟨⟨xs, hq⟩, q⟩ | ⟨⟨xs, hq⟩, q⟩
  · obtain ⟨its, rv, p, hz⟩ := I1.list hq
    refine wpAny_pyIter_list p.isList ?_
    refine ⟨s1.heap.objs.size, [s1.heap.objs.size], _, _, H1, rfl, I1.kept (t' := s1.toks) fun b o e => Heap.get?_push_of_some _ e, turn_list a _, ⟨_, Heap.get?_push_size _ rfl, rfl, rfl⟩, fun b hb => ?_, q⟩
    have e : b = s1.heap.objs.size := by simpa using hb
    subst e
    exact I1.fpOk (Nat.le_refl _) (I1.hok.fresh (Nat.le_refl _))
  · obtain ⟨its, rv, p, hz⟩ := I1.tuple hq
    refine wpAny_pyIter_tuple (show s1.heap.IsTuple a its.toArray from p) ?_
    refine ⟨s1.heap.objs.size, [s1.heap.objs.size], _, _, H1, rfl, I1.kept (t' := s1.toks) fun b o e => Heap.get?_push_of_some _ e, turn_tuple a _, ⟨_, Heap.get?_push_size _ rfl, rfl, rfl⟩, fun b hb => ?_, q⟩
    have e : b = s1.heap.objs.size := by simpa using hb
    subst e
    exact I1.fpOk (Nat.le_refl _) (I1.hok.fresh (Nat.le_refl _))
/-- over a list or a tuple -/
def wSq (w : WE) : WA := fun en Q => w en fun d e1 => ∃ xs, (d = .list xs ∨ d = .tuple xs) ∧ Q xs e1
theorem i_seq (h : PE X e (lE X.K w)) : PI X tg e (lI X.K (wSq w)) :=
  (pi_seq h).mo fun σ H R ⟨G, en, I, Q', o, q, k⟩ => ⟨G, en, I, _, o, q, fun v H1 I1 e1 d o1 x1 dv ⟨xs, hd, q1⟩ => by
    rcases hd with rfl | rfl
    · cases dv with
      | lst hs ha => exact ⟨_, rfl, Or.inl ⟨⟨_, SqL.of (o1.iH _ _ hs)⟩, k _ H1 I1 e1 xs o1 x1 (itd_list hs ha) q1⟩⟩
    · cases dv with
      | tup hs ha => exact ⟨_, rfl, Or.inr ⟨⟨_, sqt_ex o1.iH hs⟩, k _ H1 I1 e1 xs o1 x1 (itd_tup hs ha) q1⟩⟩⟩
/-- the ints lo, lo + 1, .., n of them -/
def rngD (lo : Int) (n : Nat) : List D := (List.range n).map fun i => PyData.int (lo + (i : Nat))
theorem rngD_len (lo : Int) (n : Nat) : (rngD lo n).length = n := by unfold rngD; rw [List.length_map, List.length_range]
theorem rngD_get {lo : Int} {n i : Nat} {d : D} (h : (rngD lo n)[i]? = some d) : d = .int (lo + (i : Nat)) ∧ i < n := by
  unfold rngD at h
  rw [List.getElem?_map] at h
  cases q : (List.range n)[i]? with
  | none => rw [q] at h; cases h
  | some j =>
    rw [q] at h
    obtain ⟨h1, h2⟩ := List.getElem?_eq_some_iff.mp q
    rw [List.getElem_range] at h2
    subst h2
    cases h
    exact ⟨rfl, by simpa using h1⟩
theorem itd_rng {I : Hp} {lo : Int} {n : Nat} : ItD K (Itr lo n) I (rngD lo n) where
  go := fun i H I1 e1 e2 hi => by rw [rngD_len] at hi; exact hi
  stop := fun H I1 e1 e2 => by rw [rngD_len]; exact Nat.le_refl _
  yld := fun i H I1 v H' d e1 e2 hd ⟨eH, hv⟩ => by
    subst eH hv
    obtain ⟨h1, h2⟩ := rngD_get hd
    subst h1
    exact ⟨I1, Gr.rf e2, .int _⟩
def wRg1 (w : WA) : WA := fun en Q => w en fun ds e1 => ∃ j : Int, ds = [.int j] ∧ -(2 ^ 62) ≤ j ∧ j < 2 ^ 62 ∧ Q (rngD 0 j.toNat) e1
def wRg2 (w : WA) : WA := fun en Q => w en fun ds e1 => ∃ i j : Int, ds = [.int i, .int j] ∧ (-(2 ^ 62) ≤ i ∧ i < 2 ^ 62 ∧ -(2 ^ 62) ≤ j ∧ j < 2 ^ 62) ∧ Q (rngD i (j - i).toNat) e1
theorem i_rng1 (hm : X.mg "range" = none) (ha : PA X [a] (lA X.K wa)) (hg : Gl X "range" := by rfl) (hs : starEach [a] X.env = [(false, eval a X.env)] := by rfl) : PI X tg (.Call (.Name "range" p) [a] [] pos) (lI X.K (wRg1 wa)) :=
  (pi_range1 hg hm ha hs).mo fun σ H R ⟨G, en, I, Q', o, q, k⟩ => ⟨G, en, I, _, o, q, fun vs H1 I1 e1 ds o1 x1 dvs ⟨j, hd, h1, h2, q1⟩ => by
    subst hd
    cases dvs with
    | cons h t => cases t; cases h; exact ⟨j, rfl, h1, h2, k _ H1 I1 e1 _ o1 x1 itd_rng q1⟩⟩
theorem i_rng2 (hm : X.mg "range" = none) (ha : PA X [a, b] (lA X.K wa)) (hg : Gl X "range" := by rfl) (hs : starEach [a, b] X.env = [(false, eval a X.env), (false, eval b X.env)] := by rfl) (hs2 : starEach [b] X.env = [(false, eval b X.env)] := by rfl) : PI X tg (.Call (.Name "range" p) [a, b] [] pos) (lI X.K (wRg2 wa)) :=
  (pi_range2 hg hm ha hs hs2).mo fun σ H R ⟨G, en, I, Q', o, q, k⟩ => ⟨G, en, I, _, o, q, fun vs H1 I1 e1 ds o1 x1 dvs ⟨i, j, hd, h1, q1⟩ => by
    subst hd
    cases dvs with
    | cons h t => cases t with
      | cons h2 t => cases t; cases h; cases h2; exact ⟨i, j, rfl, h1, k _ H1 I1 e1 _ o1 x1 itd_rng q1⟩⟩
/-! ### targets -/
abbrev WG := D → En → (En → Prop) → Prop
/-- is: the slots that are stored -/
def lG (K : PySem.W.Frag) (is : List Nat) (w : WG) : TG := fun v σ H Q => ∃ (G : Gh) (en : En) (I : Hp) (d : D) (Q' : En → Prop), Ok K G σ en H I ∧ Da K I v d ∧ w d en Q' ∧
  ∀ σ' H' I' en', Ok K G σ' en' H' I' → Ex I I' → σ'.length = σ.length → (∀ j, j ∉ is → σ'[j]? = σ[j]?) → Q' en' → Q σ' H'
theorem _root_.L2.PG.mo {X : Cx} {tg : Expr} {t t' : TG} (h : PG X tg t) (m : ∀ v σ H Q, t' v σ H Q → t v σ H Q) : PG X tg t' := ⟨fun pins s σ H v u Q I r q => h.run pins s σ H v u Q I r (m v σ H Q q)⟩
def wgN (i : Nat) : WG := fun d en Q => (i ≠ 0 ∨ NotOwn en[i]?) ∧ Q (en.set i (.imm d))
theorem g_name {i : Nat} {x : Str} (hN : X.N.Nodup) (hi : X.N[i]? = some x) (hx : Loc X.env.scope x) (hf : X.fn x = true ∨ X.env.scope.names.lookup x = some .local := by first | exact .inl rfl | exact .inr rfl | assumption) : PG X (.Name x pos) (lG X.K [i] (wgN i)) :=
  (pg_name hN hi hx hf).mo fun v σ H Q ⟨G, en, I, d, Q', o, dv, ⟨hi, q⟩, k⟩ =>
    k _ H I _ (o.put dv (hi.imp id notOwn_ne)) (Ex.rf I) (by rw [List.length_set]) (fun j hj => by rw [List.getElem?_set_ne]; exact fun e => hj (by rw [e]; exact List.mem_singleton.mpr rfl)) q
abbrev WGs := List D → En → (En → Prop) → Prop
def lGs (K : PySem.W.Frag) (is : List Nat) (w : WGs) : TGs := fun vs σ H Q => ∃ (G : Gh) (en : En) (I : Hp) (ds : List D) (Q' : En → Prop), Ok K G σ en H I ∧ DaAll K I vs ds ∧ w ds en Q' ∧
  ∀ σ' H' I' en', Ok K G σ' en' H' I' → Ex I I' → σ'.length = σ.length → (∀ j, j ∉ is → σ'[j]? = σ[j]?) → Q' en' → Q σ' H'
def wgNil : WGs := fun ds en Q => ds = [] ∧ Q en
def wgCons (g : WG) (r : WGs) : WGs := fun ds en Q => ∃ d t, ds = d :: t ∧ g d en fun e1 => r t e1 Q
theorem gs_nil : PGs X [] (lGs X.K [] wgNil) := ⟨fun pins s σ H vs us Q I r h => pgs_nil.run pins s σ H vs us Q I r (by
  obtain ⟨G, en, I, ds, Q', o, dvs, ⟨hd, q⟩, k⟩ := h
  subst hd; cases dvs
  exact ⟨rfl, k σ H I en o (Ex.rf I) rfl (fun _ _ => rfl) q⟩)⟩
theorem gs_cons {is js : List Nat} {g : WG} {r : WGs} (h1 : PG X e (lG X.K is g)) (h2 : PGs X es (lGs X.K js r)) (hs : (assignEach (e :: es) X.env).map (·.2) = assign e X.env :: (assignEach es X.env).map (·.2) := by rfl) : PGs X (e :: es) (lGs X.K (is ++ js) (wgCons g r)) := ⟨fun pins s σ H vs us Q I rr h => (pgs_cons h1 h2 hs).run pins s σ H vs us Q I rr (by
  obtain ⟨G, en, I, ds, Q', o, dvs, ⟨d, t, hd, q⟩, k⟩ := h
  subst hd
  cases dvs with
  | cons dv dvs =>
    refine ⟨_, _, rfl, G, en, I, d, _, o, dv, q, fun σ1 H1 I1 e1 o1 x1 l1 k1 q1 => ?_⟩
    refine ⟨G, e1, I1, t, _, o1, dvs.up x1, q1, fun σ2 H2 I2 e2 o2 x2 l2 k2 q2 => ?_⟩
    exact k σ2 H2 I2 e2 o2 (x1.tr x2) (l2.trans l1) (fun j hj => (k2 j fun h => hj (List.mem_append_right _ h)).trans (k1 j fun h => hj (List.mem_append_left _ h))) q2)⟩
def wgT (n : Nat) (r : WGs) : WG := fun d en Q => ∃ ds, d = .tuple ds ∧ ds.length = n ∧ r ds en Q
theorem g_tup {is : List Nat} {k n : Nat} {r : WGs} (hc : X.calm = true) (h : PGs X es (lGs X.K is r)) (pg : PG X (.Tuple es k pos) (gTup X.K n (lGs X.K is r))) : PG X (.Tuple es k pos) (lG X.K is (wgT n r)) :=
  pg.mo fun v σ H Q ⟨G, en, I, d, Q', o, dv, ⟨ds, hd, hn, q⟩, kk⟩ => by
    subst hd
    cases dv with
    | tup hs ha => exact ⟨_, _, rfl, sqt_ex o.iH hs, by rw [dpa_len ha]; exact hn, G, en, I, ds, Q', o, ha, q, kk⟩
end
/-! ### for -/
def forW (g : WG) (b : WS) (R : Ed) : List D → En → Prop
  | [], en => R.nx en
  | x :: xs, en => g x en fun e1 => b { R with nx := forW g b R xs, ct := forW g b R xs, bk := R.nx } e1
def wFor (wi : WA) (g : WG) (b : WS) : WS := fun R en => wi en fun xs e1 => forW g b R xs e1
theorem Ok.base {K : PySem.W.Frag} {G : Gh} {σ σ1 : Sg} {en e1 : En} {H H1 I I1 : Hp} (o1 : Ok K G σ1 e1 H1 I1) (o : Ok K G σ en H I) (x : Ex I1 I) : Ok K { G with I0 := I1 } σ en H I :=
  ⟨x, o.iH, fun a h1 h2 => o.nw a h1 (o1.i0.no h2), o.fr, o.ln, o.sl, o.ml, o.ds, o.pj, o.pr⟩
theorem Ok.back {K : PySem.W.Frag} {G : Gh} {σ σ1 : Sg} {en e1 : En} {H H1 I I1 : Hp} (o1 : Ok K G σ1 e1 H1 I1) (o : Ok K { G with I0 := I1 } σ en H I) : Ok K G σ en H I ∧ Ex I1 I :=
  ⟨⟨o1.i0.tr o.i0, o.iH, fun a h1 h2 => o.nw a h1 (o1.nw a h1 h2), o.fr, o.ln, o.sl, o.ml, o.ds, o.pj, o.pr⟩, o.i0⟩
theorem s_for {X : Cx} {tg iter : Expr} {body : List Stmt} {pos : Pos} {wi : WA} {is : List Nat} {g : WG} {b : WS} (hp : PassesOwn (model X.prog X.w) X.A X.env X.xe) (hc : X.calm = true) (hi : PI X tg iter (lI X.K wi)) (hg : PG X tg (lG X.K is g)) (hb : PSs X body (lS X.K b))
    (hs : ∀ x, foldedSetIterable iter X.env x = pure x := by intro _; rfl) : PS X (.For tg iter body [] pos) (lS X.K (wFor wi g b)) :=
  (ps_for hp hc hi hg hb hs).mo fun R σ H ⟨G, en, I, R', ok, q, k⟩ => ⟨G, en, I, _, ok, q, fun J H1 I1 e1 xs o1 x1 it q1 => by
    refine ⟨fun i m σ H => m = xs.length - i ∧ i ≤ xs.length ∧ ∃ en I, Ok X.K { G with I0 := I1 } σ en H I ∧ forW g b R' (xs.drop i) en, ⟨xs.length, by omega, Nat.zero_le _, e1, I1, o1.base o1 (Ex.rf I1), q1⟩, ?_⟩
    rintro i m σ2 H2 ⟨hm, hi, e2, I2, o2, q2⟩
    by_cases hlt : i < xs.length
    · rw [List.drop_eq_getElem_cons hlt] at q2
      refine Or.inr ⟨it.go i H2 I2 o2.i0 o2.iH hlt, fun σ H => ∃ en I, Ok X.K { G with I0 := I1 } σ en H I ∧ forW g b R' (xs.drop (i + 1)) en, fun σ' H' h => ⟨xs.length - (i + 1), by omega, rfl, hlt, h⟩, fun v H3 y3 => ?_⟩
      obtain ⟨I3, g3, d3⟩ := it.yld i H2 I2 v H3 _ o2.i0 o2.iH (List.getElem?_eq_getElem hlt) y3
      refine ⟨{ G with I0 := I1 }, e2, I3, xs[i], _, o2.gr g3, d3, q2, fun σ4 H4 I4 e4 o4 x4 _ _ q4 => ?_⟩
      refine ⟨{ G with I0 := I1 }, e4, I4, _, o4, q4, fun σ' H' I' en' o' h => ⟨en', I', o', h⟩, fun v σ' H' I' en' d o' dv h => ?_, fun σ' H' I' en' o' h => ?_, fun σ' H' I' en' o' h => ⟨en', I', o', h⟩⟩
      · exact k.2.1 v σ' H' I' en' d (o1.back o').1 dv h
      · exact k.1 σ' H' I' en' (o1.back o').1 h
    · have e : i = xs.length := by omega
      subst e
      rw [List.drop_length] at q2
      exact Or.inl ⟨it.stop H2 I2 o2.i0 o2.iH, k.1 σ2 H2 I2 e2 (o1.back o2).1 q2⟩⟩
/-! ### list comprehensions -/
theorem _root_.L2.PTs.mo {X : Cx} {ifs : List Expr} {t t' : TT} (h : PTs X ifs t) (m : ∀ σ H Q, t' σ H Q → t σ H Q) : PTs X ifs t' := ⟨fun pins s σ H Q I q => h.run pins s σ H Q I (m σ H Q q)⟩
def wYes : WT := fun en Q => Q true en
theorem ts_nil {X : Cx} : PTs X [] (lT X.K wYes) := pts_nil.mo fun σ H Q ⟨G, en, I, Q', o, q, k⟩ => k true H I en o (Ex.rf I) q
theorem ts_one {X : Cx} {c : Expr} {t : WT} (h : PT X c (lT X.K t)) : PTs X [c] (lT X.K t) := pts_one h
/-- the slots vs forgotten -/
def wip : List Nat → En → En
  | [], en => en
  | v :: vs, en => (wip vs en).set v .un
theorem wip_get : ∀ {vs : List Nat} {en : En} {i : Nat} {s : Sl}, (wip vs en)[i]? = some s → (i ∈ vs ∧ s = .un) ∨ (i ∉ vs ∧ en[i]? = some s)
  | [], en, i, s, h => Or.inr ⟨by simp, h⟩
  | v :: vs, en, i, s, h => by
    rcases set_get h with ⟨e, q⟩ | ⟨ne, q⟩
    · exact Or.inl ⟨by rw [e]; exact List.mem_cons_self, q⟩
    · rcases wip_get q with ⟨h1, h2⟩ | ⟨h1, h2⟩
      · exact Or.inl ⟨List.mem_cons_of_mem _ h1, h2⟩
      · exact Or.inr ⟨fun h => (List.mem_cons.mp h).elim (fun e => ne e.symm) h1, h2⟩
/-- none of the slots vs holds the caller's list -/
def FreeS (en : En) (vs : List Nat) : Prop := ∀ v ∈ vs, v ≠ 0 ∨ NotOwn en[v]?
theorem Ok.wip {K : PySem.W.Frag} {G : Gh} {σ : Sg} {en : En} {H I : Hp} (o : Ok K G σ en H I) : ∀ {vs : List Nat}, FreeS en vs → Ok K G (wipe σ vs) (wip vs en) H I
  | [], _ => o
  | v :: vs, h => by
    have o1 := Ok.wip o (vs := vs) fun u hu => h u (List.mem_cons_of_mem _ hu)
    refine o1.forget ?_
    rcases h v List.mem_cons_self with q | q
    · exact Or.inl q
    · refine Or.inr fun ds e => ?_
      rcases wip_get e with ⟨_, e2⟩ | ⟨_, e2⟩
      · cases e2
      · rw [e2] at q; exact q
/-- the slots vs as they were -/
def bak (vs : List Nat) (en e : En) : En := (List.range e.length).map fun i => if i ∈ vs then en.getD i .un else e.getD i .un
def lcW (g : WG) (t : WT) (w : WE) (vs : List Nat) : List D → List D → En → (List D → En → Prop) → Prop
  | [], acc, e, Q => Q acc e
  | x :: xs, acc, e, Q => g x e fun e1 => t e1 fun b e2 => FreeS e2 vs ∧ if b = true then w e2 fun y e3 => FreeS e3 vs ∧ lcW g t w vs xs (acc ++ [y]) (wip vs e3) Q else lcW g t w vs xs acc (wip vs e2) Q
def wLc (wi : WA) (g : WG) (t : WT) (w : WE) (vs : List Nat) : WA := fun en Q => wi en fun xs e1 => FreeS e1 vs ∧ (∀ v ∈ vs, NotOwn e1[v]?) ∧ xs.length ≤ sizeLine ∧ lcW g t w vs xs [] (wip vs e1) fun ys e2 => Q ys (bak vs e1 e2)
theorem wipe_out {i : Nat} : ∀ {σ : Sg} {vs : List Nat}, i ∉ vs → (wipe σ vs)[i]? = σ[i]?
  | σ, [], _ => rfl
  | σ, v :: vs, hi => by
    show ((wipe σ vs).set v none)[i]? = σ[i]?
    rw [List.getElem?_set_ne fun e => hi (by rw [e]; exact List.mem_cons_self)]
    exact wipe_out fun q => hi (List.mem_cons_of_mem _ q)
theorem wipe_in {i : Nat} {σ : Sg} (hl : i < σ.length) : ∀ {vs : List Nat}, i ∈ vs → (wipe σ vs)[i]? = some none
  | [], h => by cases h
  | v :: vs, hi => by
    show ((wipe σ vs).set v none)[i]? = some none
    by_cases e : v = i
    · subst e; rw [List.getElem?_set_self]; rw [wipe_length]; exact hl
    · rw [List.getElem?_set_ne e]
      exact wipe_in hl ((List.mem_cons.mp hi).resolve_left fun q => e q.symm)
theorem wipe_of {σ σ' : Sg} (hl : σ'.length = σ.length) {vs : List Nat} (h : ∀ j, j ∉ vs → σ'[j]? = σ[j]?) : wipe σ' vs = wipe σ vs := by
  refine List.ext_getElem? fun i => ?_
  by_cases hi : i ∈ vs
  · by_cases hl2 : i < σ.length
    · rw [wipe_in (by omega) hi, wipe_in hl2 hi]
    · rw [List.getElem?_eq_none (by rw [wipe_length]; omega), List.getElem?_eq_none (by rw [wipe_length]; omega)]
  · rw [wipe_out hi, wipe_out hi, h i hi]
theorem bak_get {vs : List Nat} {en e : En} {i : Nat} {s : Sl} (h : (bak vs en e)[i]? = some s) : i < e.length ∧ ((i ∈ vs ∧ s = en.getD i .un) ∨ (i ∉ vs ∧ e[i]? = some s)) := by
  unfold bak at h
  rw [List.getElem?_map] at h
  cases q : (List.range e.length)[i]? with
  | none => rw [q] at h; cases h
  | some j =>
    rw [q] at h
    obtain ⟨h1, h2⟩ := List.getElem?_eq_some_iff.mp q
    rw [List.getElem_range] at h2
    subst h2
    rw [List.length_range] at h1
    refine ⟨h1, ?_⟩
    have h3 : (if i ∈ vs then en.getD i .un else e.getD i .un) = s := Option.some.inj h
    by_cases hi : i ∈ vs
    · rw [if_pos hi] at h3; exact Or.inl ⟨hi, h3.symm⟩
    · rw [if_neg hi] at h3
      refine Or.inr ⟨hi, ?_⟩
      rw [List.getElem?_eq_getElem h1]
      rw [List.getD_eq_getElem?_getD, List.getElem?_eq_getElem h1] at h3
      exact congrArg some h3
theorem Ok.bak {K : PySem.W.Frag} {G : Gh} {σ : Sg} {e1 e : En} {H1 I1 H I : Hp} {vs : List Nat} (o1 : Ok K G σ e1 H1 I1) (n : ∀ v ∈ vs, NotOwn e1[v]?) (o : Ok K G (wipe σ vs) e H I) (x : Ex I1 I) : Ok K G σ (bak vs e1 e) H I := by
  have hl : σ.length = e.length := by rw [← o.ln, wipe_length]
  have own' : ∀ i b, OwnAt σ (Pd.bak vs e1 e) i b → OwnAt (wipe σ vs) e i b := fun i b ⟨q1, es, q2⟩ => by
    rcases (bak_get q2).2 with ⟨h1, h2⟩ | ⟨h1, h2⟩
    · have q := n i h1
      have h3 : e1[i]? = some (.own es) := by
        rw [List.getD_eq_getElem?_getD] at h2
        cases z : e1[i]? with
        | none => rw [z] at h2; cases h2
        | some y => rw [z] at h2; exact congrArg some h2.symm
      rw [h3] at q; exact q.elim
    · exact ⟨by rw [wipe_out h1]; exact q1, es, h2⟩
  refine ⟨o.i0, o.iH, o.nw, o.fr, by unfold Pd.bak; rw [List.length_map, List.length_range]; exact hl, fun i s q => ?_, fun i b q => o.ml i b (own' i b q), fun a b c q1 q2 => o.ds a b c (own' a c q1) (own' b c q2), fun b q => ?_, fun p hp => ⟨(o.pr p hp).1, (o.pr p hp).2.1, fun j q => (o.pr p hp).2.2 j (own' j _ q)⟩⟩
  · obtain ⟨hlt, q⟩ := bak_get q
    rcases q with ⟨h1, h2⟩ | ⟨h1, h2⟩
    · have q := n i h1
      rw [List.getD_eq_getElem?_getD] at h2
      cases z : e1[i]? with
      | none => rw [z] at h2; subst h2; trivial
      | some y =>
        rw [z] at h2 q
        have h3 : s = y := h2
        subst h3
        have r := o1.sl i s z
        cases s with
        | un => trivial
        | scr ns => obtain ⟨a, q1, q2⟩ := r; exact ⟨a, q1, sqs_ex x q2⟩
        | imm d =>
          obtain ⟨v, r1, r2⟩ := r
          exact ⟨v, r1, r2.up x⟩
        | own es => exact q.elim
    · have r := o.sl i s h2
      rw [wipe_out h1] at r
      exact r
  · obtain ⟨q1, es, q2⟩ := o.pj b q
    obtain ⟨q3, q4⟩ := wipe_some q1
    refine ⟨q3, es, ?_⟩
    have hlt : 0 < e.length := (List.getElem?_eq_some_iff.mp q2).1
    unfold Pd.bak
    rw [List.getElem?_map, List.getElem?_eq_getElem (by rw [List.length_range]; exact hlt), List.getElem_range]
    show some (if 0 ∈ vs then e1.getD 0 .un else e.getD 0 .un) = _
    rw [if_neg q4, List.getD_eq_getElem?_getD, q2]
    rfl
def hid (H : Hp) (p : Addr) : Hp := fun b => if b = p then none else H b
theorem hid_ne {H : Hp} {p a : Addr} (h : a ≠ p) : hid H p a = H a := if_neg h
theorem hid_at {H : Hp} {p : Addr} : hid H p p = none := if_pos rfl
/-- a protected object that is new since the entry is taken out of sight -/
theorem Ok.drop {K : PySem.W.Frag} {G : Gh} {σ : Sg} {en : En} {H I : Hp} {P : List (Addr × HO)} {p : Addr} {u : HO} (o : Ok K { G with P := (p, u) :: P } σ en H I) (he : G.He p = none) (hP : ∀ q ∈ P, q.1 ≠ p) : Ok K { G with P := P } σ en (hid H p) I ∧ H = upd (hid H p) p u := by
  obtain ⟨h1, h2, h3⟩ := o.pr (p, u) List.mem_cons_self
  refine ⟨⟨o.i0, fun a v h => ?_, o.nw, fun a v h1 h2 => ?_, o.ln, fun j s q => ?_, o.ml, o.ds, o.pj, fun q hq => ?_⟩, ?_⟩
  · have e : a ≠ p := fun e => by rw [e, h2] at h; cases h
    rw [hid_ne e]; exact o.iH a v h
  · have h1' : G.He a = some v := h1
    have e : a ≠ p := fun e => by rw [e, he] at h1'; cases h1'
    rw [hid_ne e]; exact o.fr a v h1 h2
  · have r := o.sl j s q
    cases s with
    | un => trivial
    | scr ns => exact r
    | imm d => exact r
    | own es =>
      obtain ⟨l', vs', r1, r2, r3, r4⟩ := r
      have e : l' ≠ p := fun e => h3 j ⟨by rw [r1, e], es, q⟩
      exact ⟨l', vs', r1, r2, by rw [hid_ne e]; exact r3, r4⟩
  · obtain ⟨q1, q2, q3⟩ := o.pr q (List.mem_cons_of_mem _ hq)
    exact ⟨by rw [hid_ne (hP q hq)]; exact q1, q2, q3⟩
  · funext b
    by_cases e : b = p
    · rw [e, upd_same, h1]
    · rw [upd_ne e, hid_ne e]
theorem Ok.fresh {K : PySem.W.Frag} {G : Gh} {σ : Sg} {en : En} {H I : Hp} (o : Ok K G σ en H I) {p : Addr} (hp : H p = none) : G.J ≠ some p ∧ G.He p = none ∧ ∀ q ∈ G.P, q.1 ≠ p := by
  have nj : G.J ≠ some p := fun hj => by
    obtain ⟨r1, es, r2⟩ := o.pj p hj
    obtain ⟨l', vs', r3, r4, r5, r6⟩ := o.own r2
    rw [r1] at r3
    have q5 : p = l' := by injection r3 with r3; injection r3 with r3; injection r3
    rw [← q5, hp] at r5; cases r5
  refine ⟨nj, ?_, fun q hq e => by rw [← e, (o.pr q hq).1] at hp; cases hp⟩
  cases q : G.He p with
  | none => rfl
  | some u => rw [o.fr p u q nj] at hp; cases hp
theorem lcm {K : PySem.W.Frag} {wi : WA} {is : List Nat} {g : WG} {t : WT} {w : WE} {vs : List Nat} {σ : Sg} {H : Hp} {Q : VK} (his : ∀ i ∈ is, i ∈ vs) (h : lL K (wLc wi g t w vs) σ H Q) : tLc (lI K wi) (lG K is g) (lT K t) (lE K w) vs σ H Q := by
  obtain ⟨G, en, I, Q', o, q, k⟩ := h
  refine ⟨G, en, I, _, o, q, fun J H1 I1 e1 xs o1 x1 it ⟨fr1, no1, hz, q1⟩ => fun D hD => ?_⟩
  obtain ⟨nj, hn, hP⟩ := o1.fresh hD
  have id2 : wipe (wipe σ vs) vs = wipe σ vs := wipe_of (wipe_length σ vs) fun j hj => wipe_out hj
  refine ⟨fun i m H => m = xs.length - i ∧ i ≤ xs.length ∧ ∃ e I acc vacc, Ok K { G with I0 := I1, P := (D, .lst vacc) :: G.P } (wipe σ vs) e H I ∧ DaAll K I vacc acc ∧ acc.length ≤ i ∧ lcW g t w vs (xs.drop i) acc e fun ys e2 => Q' ys (bak vs e1 e2),
    ⟨xs.length, by omega, Nat.zero_le _, wip vs e1, I1, [], [], ((o1.base o1 (Ex.rf I1)).wip fr1).prot hD, .nil, Nat.le_refl _, q1⟩, ?_⟩
  rintro i m H2 ⟨hm, hi, e2, I2, acc, vacc, o2, da2, hacc, q2⟩
  by_cases hlt : i < xs.length
  · rw [List.drop_eq_getElem_cons hlt] at q2
    refine Or.inr ⟨it.go i H2 I2 o2.i0 o2.iH hlt, fun H => ∃ e I acc vacc, Ok K { G with I0 := I1, P := (D, .lst vacc) :: G.P } (wipe σ vs) e H I ∧ DaAll K I vacc acc ∧ acc.length ≤ i + 1 ∧ lcW g t w vs (xs.drop (i + 1)) acc e fun ys e2 => Q' ys (bak vs e1 e2),
      fun H' h => ⟨xs.length - (i + 1), by omega, rfl, hlt, h⟩, fun v H3 y3 => ?_⟩
    obtain ⟨I3, g3, d3⟩ := it.yld i H2 I2 v H3 _ o2.i0 o2.iH (List.getElem?_eq_getElem hlt) y3
    refine ⟨_, e2, I3, xs[i], _, o2.gr g3, d3, q2, fun σ4 H4 I4 e4 o4 x4 l4 k4 q4 => ?_⟩
    have e4' : wipe σ4 vs = wipe σ vs := (wipe_of l4 fun j hj => k4 j fun h => hj (his j h)).trans id2
    refine ⟨e4', _, e4, I4, _, o4, q4, fun b H5 I5 e5 o5 x5 ⟨f5, q5⟩ => ?_⟩
    cases b with
    | false =>
      have o5' := o5.wip f5
      rw [e4'] at o5'
      exact ⟨wip vs e5, I5, acc, vacc, o5', ((da2.up g3.i).up x4).up x5, by omega, q5⟩
    | true =>
      refine ⟨_, e5, I5, _, o5, q5, fun y H6 I6 e6 d6 o6 x6 dv6 ⟨f6, q6⟩ => ?_⟩
      have da6 := (((da2.up g3.i).up x4).up x5).up x6
      refine ⟨vacc, (o6.pr _ List.mem_cons_self).1, by rw [dpa_len da6]; omega, ?_⟩
      have o6' := o6.wip f6
      rw [e4'] at o6'
      exact ⟨wip vs e6, I6, acc ++ [d6], vacc ++ [y], Ok.rewr (G := { G with I0 := I1 }) o6' nj hn hP, dpa_app da6 (.cons dv6 .nil), by rw [List.length_append, List.length_singleton]; omega, q6⟩
  · have e : i = xs.length := by omega
    subst e
    rw [List.drop_length] at q2
    refine Or.inl ⟨it.stop H2 I2 o2.i0 o2.iH, ?_⟩
    obtain ⟨o3, eH⟩ := Ok.drop (G := { G with I0 := I1 }) o2 hn hP
    rw [eH]
    have o3' : Ok K { G with I0 := I1 } (wipe σ vs) e2 (hid H2 D) I2 := o3
    obtain ⟨o4, x4⟩ := o1.back o3'
    exact k D vacc _ I2 _ acc (o1.bak no1 o4 x4) (x1.tr x4) hid_at da2 q2
theorem l_lc {X : Cx} {elt tg iter : Expr} {ifs : List Expr} {scope : Scope} {own : List (Str × Nat)} {pos : Pos} {wi : WA} {is : List Nat} {g : WG} {t : WT} {w : WE} (hc : X.calm = true) (hN : X.N.Nodup) (hi : PI X tg iter (lI X.K wi)) (ok : BlkOk X.N X.env.scope scope own)
    (hg : ∀ (s : Shared) (H : Hp) (C : Addr) (cl : List (Str × Addr)) (fp : List Addr), PG (X.blk s H scope (compEnvC scope cl C X.env) fp) tg (lG X.K is g)) (ht : ∀ (s : Shared) (H : Hp) (C : Addr) (cl : List (Str × Addr)) (fp : List Addr), PTs (X.blk s H scope (compEnvC scope cl C X.env) fp) ifs (lT X.K t))
    (he : ∀ (s : Shared) (H : Hp) (C : Addr) (cl : List (Str × Addr)) (fp : List Addr), PE (X.blk s H scope (compEnvC scope cl C X.env) fp) elt (lE X.K w)) (hs : ∀ x, foldedSetIterable iter X.env x = pure x := by intro _; rfl)
    (his : ∀ i ∈ is, i ∈ own.map (·.2) := by decide) :
    PE X (.ListComp elt [⟨tg, iter, ifs, 0⟩] scope pos) (lL X.K (wLc wi g t w (own.map (·.2)))) :=
  (pe_lc hc hN hi ok hg ht he hs).mo fun σ H Q h => lcm his h
end Pd

set_option Elab.async false
set_option linter.all false
set_option maxRecDepth 100000
set_option maxHeartbeats 4000000
namespace Pd
open PySem PySem.Spec PyProof.Rows L2
section
variable {X : Cx}
/-- x = [..] on one line -/
theorem s_lc {i : Nat} {y : Str} {py : Pos} {elt tg iter : Expr} {ifs : List Expr} {scope : Scope} {own : List (Str × Nat)} {pos spos : Pos} {wi : WA} {is : List Nat} {g : WG} {t : WT} {w : WE} (hc : X.calm = true) (hN : X.N.Nodup) (hy : X.N[i]? = some y) (hyl : X.env.scope.names.lookup y = some .local)
    (hsw : swapsWith (.ListComp elt [⟨tg, iter, ifs, 0⟩] scope pos) (some (.Name y py)) spos.line X.env = pure true) (hi : PI X tg iter (lI X.K wi)) (ok : BlkOk X.N X.env.scope scope own)
    (hg : ∀ (s : Shared) (H : Hp) (C : Addr) (cl : List (Str × Addr)) (fp : List Addr), PG (X.blk s H scope (compEnvC scope cl C X.env) fp) tg (lG X.K is g)) (ht : ∀ (s : Shared) (H : Hp) (C : Addr) (cl : List (Str × Addr)) (fp : List Addr), PTs (X.blk s H scope (compEnvC scope cl C X.env) fp) ifs (lT X.K t))
    (he : ∀ (s : Shared) (H : Hp) (C : Addr) (cl : List (Str × Addr)) (fp : List Addr), PE (X.blk s H scope (compEnvC scope cl C X.env) fp) elt (lE X.K w)) (hs : ∀ x, foldedSetIterable iter X.env x = pure x := by intro _; rfl)
    (his : ∀ i ∈ is, i ∈ own.map (·.2) := by decide) :
    PS X (.Assign [.Name y py] (.ListComp elt [⟨tg, iter, ifs, 0⟩] scope pos) spos) (lS X.K (wSet i (wLe (wLc wi g t w (own.map (·.2)))))) :=
  (ps_setLc hc hN hy hyl hsw hi ok hg ht he hs).mo fun R σ H ⟨G, en, I, R', o, q, k⟩ => lcm his ⟨G, en, I, _, o, q, fun p vs H1 I1 e1 ds o1 x1 hp dvs ⟨hi, q1⟩ => by
    obtain ⟨o2, x2⟩ := o1.new (u := .lst vs) hp
    exact k.1 _ _ _ _ (o2.put (.lst upd_same (dvs.up x2)) (hi.imp id notOwn_ne)) q1⟩
theorem s_lcOwn {i : Nat} {y : Str} {py : Pos} {elt tg iter : Expr} {ifs : List Expr} {scope : Scope} {own : List (Str × Nat)} {pos spos : Pos} {wi : WA} {is : List Nat} {g : WG} {t : WT} {w : WE} (hc : X.calm = true) (hN : X.N.Nodup) (hy : X.N[i]? = some y) (hyl : X.env.scope.names.lookup y = some .local)
    (hsw : swapsWith (.ListComp elt [⟨tg, iter, ifs, 0⟩] scope pos) (some (.Name y py)) spos.line X.env = pure true) (hi : PI X tg iter (lI X.K wi)) (ok : BlkOk X.N X.env.scope scope own)
    (hg : ∀ (s : Shared) (H : Hp) (C : Addr) (cl : List (Str × Addr)) (fp : List Addr), PG (X.blk s H scope (compEnvC scope cl C X.env) fp) tg (lG X.K is g)) (ht : ∀ (s : Shared) (H : Hp) (C : Addr) (cl : List (Str × Addr)) (fp : List Addr), PTs (X.blk s H scope (compEnvC scope cl C X.env) fp) ifs (lT X.K t))
    (he : ∀ (s : Shared) (H : Hp) (C : Addr) (cl : List (Str × Addr)) (fp : List Addr), PE (X.blk s H scope (compEnvC scope cl C X.env) fp) elt (lE X.K w)) (hs : ∀ x, foldedSetIterable iter X.env x = pure x := by intro _; rfl)
    (his : ∀ i ∈ is, i ∈ own.map (·.2) := by decide) :
    PS X (.Assign [.Name y py] (.ListComp elt [⟨tg, iter, ifs, 0⟩] scope pos) spos) (lS X.K (wSetOwn i (wLc wi g t w (own.map (·.2))))) :=
  (ps_setLc hc hN hy hyl hsw hi ok hg ht he hs).mo fun R σ H ⟨G, en, I, R', o, q, k⟩ => lcm his ⟨G, en, I, _, o, q, fun p vs H1 I1 e1 ds o1 x1 hp dvs ⟨hi, q1⟩ => k.1 _ _ _ _ (o1.putOwn hp dvs hi) q1⟩
/-! ### a, b = e1, e2 -/
def wPar (i j : Nat) (wa wb : WE) : WS := fun R en => wa en fun x e1 => wb e1 fun y e2 => (i ≠ 0 ∨ NotOwn e2[i]?) ∧ (j ≠ 0 ∨ NotOwn (e2.set i (.imm x))[j]?) ∧ R.nx ((e2.set i (.imm x)).set j (.imm y))
def wParOO (i j : Nat) (wa wb : WA) : WS := fun R en => wa en fun x e1 => wb e1 fun y e2 => i ≠ 0 ∧ j ≠ 0 ∧ R.nx ((e2.set i (.own x)).set j (.own y))
def wParOI (i j : Nat) (wa : WA) (wb : WE) : WS := fun R en => wa en fun x e1 => wb e1 fun y e2 => i ≠ 0 ∧ j ≠ 0 ∧ R.nx ((e2.set i (.own x)).set j (.imm y))
def wParIO (i j : Nat) (wa : WE) (wb : WA) : WS := fun R en => wa en fun x e1 => wb e1 fun y e2 => i ≠ 0 ∧ j ≠ 0 ∧ R.nx ((e2.set i (.imm x)).set j (.own y))
variable {i j : Nat} {x y : Str} {a b : Expr} {px py pt pos pt2 : Pos} {kt k2 : Nat}
theorem s_par {wa wb : WE} (h : PS X (.Assign [.Tuple [.Name x px, .Name y py] kt pt] (.Tuple [a, b] k2 pt2) pos) (tPar i j (tCons (lE X.K wa) (tCons (lE X.K wb) tNil)))) :
    PS X (.Assign [.Tuple [.Name x px, .Name y py] kt pt] (.Tuple [a, b] k2 pt2) pos) (lS X.K (wPar i j wa wb)) :=
  h.mo fun R σ H ⟨G, en, I, R', o, q, k⟩ => ⟨G, en, I, _, o, q, fun v H1 I1 e1 d o1 x1 dv q1 => ⟨G, e1, I1, _, o1, q1, fun u H2 I2 e2 d2 o2 x2 du ⟨h1, h2, q2⟩ => ⟨v, u, rfl, k.1 _ H2 I2 _ ((o2.put (dv.up x2) (h1.imp id notOwn_ne)).put du (h2.imp id notOwn_ne)) q2⟩⟩⟩
theorem s_parOO {wa wb : WA} (h : PS X (.Assign [.Tuple [.Name x px, .Name y py] kt pt] (.Tuple [a, b] k2 pt2) pos) (tPar i j (tCons (lL X.K wa) (tCons (lL X.K wb) tNil)))) :
    PS X (.Assign [.Tuple [.Name x px, .Name y py] kt pt] (.Tuple [a, b] k2 pt2) pos) (lS X.K (wParOO i j wa wb)) :=
  h.mo fun R σ H ⟨G, en, I, R', o, q, k⟩ => ⟨G, en, I, _, o, q, fun p vs H1 I1 e1 ds o1 x1 hp dvs q1 => by
    obtain ⟨nj, hn, hP⟩ := o1.fresh hp
    refine ⟨_, e1, I1, _, o1.prot (u := .lst vs) hp, q1, fun p2 us H2 I2 e2 es o2 x2 hp2 dus ⟨h1, h2, q2⟩ => ?_⟩
    obtain ⟨o3, eH⟩ := Ok.drop (G := G) (P := G.P) o2 hn hP
    have o4 := o3.putOwn (i := i) (p := p) (vs := vs) (ds := ds) hid_at (dvs.up x2) h1
    rw [← eH] at o4
    exact ⟨_, _, rfl, k.1 _ _ I2 _ (o4.putOwn hp2 dus h2) q2⟩⟩
theorem s_parOI {wa : WA} {wb : WE} (h : PS X (.Assign [.Tuple [.Name x px, .Name y py] kt pt] (.Tuple [a, b] k2 pt2) pos) (tPar i j (tCons (lL X.K wa) (tCons (lE X.K wb) tNil)))) :
    PS X (.Assign [.Tuple [.Name x px, .Name y py] kt pt] (.Tuple [a, b] k2 pt2) pos) (lS X.K (wParOI i j wa wb)) :=
  h.mo fun R σ H ⟨G, en, I, R', o, q, k⟩ => ⟨G, en, I, _, o, q, fun p vs H1 I1 e1 ds o1 x1 hp dvs q1 => by
    obtain ⟨nj, hn, hP⟩ := o1.fresh hp
    refine ⟨_, e1, I1, _, o1.prot (u := .lst vs) hp, q1, fun u H2 I2 e2 d2 o2 x2 du ⟨h1, h2, q2⟩ => ?_⟩
    obtain ⟨o3, eH⟩ := Ok.drop (G := G) (P := G.P) o2 hn hP
    have o4 := o3.putOwn (i := i) (p := p) (vs := vs) (ds := ds) hid_at (dvs.up x2) h1
    rw [← eH] at o4
    exact ⟨_, _, rfl, k.1 _ _ I2 _ (o4.put du (Or.inl h2)) q2⟩⟩
theorem s_parIO {wa : WE} {wb : WA} (h : PS X (.Assign [.Tuple [.Name x px, .Name y py] kt pt] (.Tuple [a, b] k2 pt2) pos) (tPar i j (tCons (lE X.K wa) (tCons (lL X.K wb) tNil)))) :
    PS X (.Assign [.Tuple [.Name x px, .Name y py] kt pt] (.Tuple [a, b] k2 pt2) pos) (lS X.K (wParIO i j wa wb)) :=
  h.mo fun R σ H ⟨G, en, I, R', o, q, k⟩ => ⟨G, en, I, _, o, q, fun v H1 I1 e1 d o1 x1 dv q1 => ⟨G, e1, I1, _, o1, q1, fun p us H2 I2 e2 es o2 x2 hp dus ⟨h1, h2, q2⟩ =>
    ⟨_, _, rfl, k.1 _ _ I2 _ ((o2.put (dv.up x2) (Or.inl h1)).putOwn hp dus h2) q2⟩⟩⟩
end
/-! ### a def of the text -/
section
variable {P : Program} {w : World} {K : PySem.W.Frag} {mg : Str → Option Value} {base : Heap} {x qual : Str} {params : Arguments} {body : List Stmt} {scope : Scope} {f : Addr} {fd : FuncData} {N ps : List Str} {k : Nat}
/-- what is wanted behind the body -/
def edP (Q' : D → Prop) : Ed := { nx := fun _ => Q' .none, rt := fun d _ => Q' d }
def edJ (Q' : D → List D → Prop) : Ed := { nx := fun en => ∀ dj, en[0]? = some (.own dj) → Q' .none dj, rt := fun d en => ∀ dj, en[0]? = some (.own dj) → Q' d dj }
def enP (N : List Str) (ds : List D) : En := ds.map .imm ++ List.replicate (N.length - ds.length) .un
def enJ (N : List Str) (dj ds : List D) : En := .own dj :: (ds.map .imm ++ List.replicate (N.length - (ds.length + 1)) .un)
theorem fnP {wf : WF} {ws : WS} (F : FunD K x qual params body scope [] [] f fd) (S : FnScope N ps scope)
    (hb : ∀ (cdv : Value) (A : Around) (outer : List Env) (s : Shared) (H : Hp) (E : XK), Room k (A.deeper (envOfC qual scope s.heap.objs.size f cdv)) → PSs (cxOf CX0 P w K mg base N qual scope f cdv A outer s H E).nox body (lS K ws))
    (hp : ∀ ds Q', ds.length = ps.length → wf ds Q' → ws (edP Q') (enP N ds)) : FnOk P w K mg base CX0 (k + 1) f fd ps (spP K ps.length wf) := by
  refine F.ok S (fun vs H Q E h => ?_) (fun cdv A outer s H vs Q E hr h => ?_)
  · obtain ⟨I, ds, Q', _, h2, h3, _⟩ := h
    rw [dpa_len h2, h3]
  · obtain ⟨I, ds, Q', h1, h2, h3, h4, h5⟩ := h
    refine ⟨lS K ws, PSs.nox (hb cdv A outer s H E hr), ?_⟩
    have hpl : ps.length ≤ N.length := by have := congrArg List.length S.pre; rw [List.length_take] at this; omega
    have hl : vs.length = ds.length := dpa_len h2
    have gsl : ∀ (i : Nat) (s : Sl), (enP N ds)[i]? = some s → SlOk K I H (L2.start N vs)[i]? s := fun i s hs => by
      unfold enP at hs
      by_cases hi : i < ds.length
      · rw [List.getElem?_append_left (by rw [List.length_map]; exact hi), List.getElem?_map] at hs
        cases q : ds[i]? with
        | none => rw [q] at hs; cases hs
        | some d =>
          rw [q] at hs
          cases hs
          obtain ⟨v, hv, dv⟩ := dpa_get h2 q
          refine ⟨v, ?_, dv⟩
          unfold L2.start
          rw [List.getElem?_append_left (by rw [List.length_map, hl]; exact hi), List.getElem?_map, hv]
          rfl
      · rw [List.getElem?_append_right (by rw [List.length_map]; omega), List.getElem?_replicate] at hs
        split at hs
        · cases hs; trivial
        · cases hs
    have nown : ∀ (i : Nat) (l : Addr), ¬ OwnAt (L2.start N vs) (enP N ds) i l := fun i l ⟨q1, es, q2⟩ => by
      unfold enP at q2
      by_cases hi : i < ds.length
      · rw [List.getElem?_append_left (by rw [List.length_map]; exact hi), List.getElem?_map] at q2
        cases q : ds[i]? with
        | none => rw [q] at q2; cases q2
        | some d => rw [q] at q2; cases q2
      · rw [List.getElem?_append_right (by rw [List.length_map]; omega), List.getElem?_replicate] at q2
        split at q2
        · cases q2
        · cases q2
    have o : Ok K ⟨H, I, none, []⟩ (L2.start N vs) (enP N ds) H I :=
      ⟨Ex.rf I, h1, fun a _ h => h, fun a o h _ => h, by unfold L2.start enP; simp [hl], gsl, fun i l h => absurd h (nown i l), fun i j l h => absurd h (nown i l), fun l h => (by cases h), fun p hp => (by cases hp)⟩
    refine lS_mk o (hp ds Q' h3 h4) ⟨fun σ' H' I' en' o' q => ?_, fun v σ' H' I' en' d o' dv q => ?_, fun _ _ _ _ _ q => q.elim, fun _ _ _ _ _ q => q.elim⟩
    · exact h5 .non H' I' .none ⟨fun a u q => o'.fr a u q (by simp), o'.i0, o'.iH, fun a h1 h2 => by
        cases q : H a with
        | none => rfl
        | some u => exact absurd (o'.nw a (show H a ≠ none by rw [q]; simp) h2) h1⟩ .non q
    · exact h5 v H' I' d ⟨fun a u q => o'.fr a u q (by simp), o'.i0, o'.iH, fun a h1 h2 => by
        cases q : H a with
        | none => rfl
        | some u => exact absurd (o'.nw a (show H a ≠ none by rw [q]; simp) h2) h1⟩ dv q
theorem fnJ {wf : WJ} {ws : WS} {n : Nat} (F : FunD K x qual params body scope [] [] f fd) (S : FnScope N ps scope) (hn : ps.length = n)
    (hb : ∀ (cdv : Value) (A : Around) (outer : List Env) (s : Shared) (H : Hp) (E : XK), Room k (A.deeper (envOfC qual scope s.heap.objs.size f cdv)) → PSs (cxOf CX0 P w K mg base N qual scope f cdv A outer s H E).nox body (lS K ws))
    (hp : ∀ dj ds Q', ds.length + 1 = n → wf dj ds Q' → ws (edJ Q') (enJ N dj ds)) : FnOk P w K mg base CX0 (k + 1) f fd ps (spJ K n wf) := by
  refine F.ok S (fun vs H Q E h => ?_) (fun cdv A outer s H vs Q E hr h => ?_)
  · obtain ⟨j, vj, dj, us, ds, I, Q', rfl, _, _, _, _, h6, h7, _⟩ := h
    rw [List.length_cons, dpa_len h6, h7, hn]
  · obtain ⟨j, vj, dj, us, ds, I, Q', rfl, g1, g2, g3, h1, h2, h3, h4, h5⟩ := h
    refine ⟨lS K ws, PSs.nox (hb cdv A outer s H E hr), ?_⟩
    have hpl : ps.length ≤ N.length := by have := congrArg List.length S.pre; rw [List.length_take] at this; omega
    have hl : us.length = ds.length := dpa_len h2
    have get_ : ∀ (i : Nat) (s : Sl), (enJ N dj ds)[i]? = some s → (i = 0 ∧ s = .own dj) ∨ (∃ d v, ds[i - 1]? = some d ∧ us[i - 1]? = some v ∧ Da K I v d ∧ s = .imm d ∧ 1 ≤ i ∧ (L2.start N (V.ref j :: us))[i]? = some (some v)) ∨ s = .un := fun i s hs => by
      unfold enJ at hs
      cases i with
      | zero => exact Or.inl ⟨rfl, by simpa using hs.symm⟩
      | succ i =>
        rw [List.getElem?_cons_succ] at hs
        by_cases hi : i < ds.length
        · rw [List.getElem?_append_left (by rw [List.length_map]; exact hi), List.getElem?_map] at hs
          cases q : ds[i]? with
          | none => rw [q] at hs; cases hs
          | some d =>
            rw [q] at hs
            cases hs
            obtain ⟨v, hv, dv⟩ := dpa_get h2 q
            refine Or.inr (Or.inl ⟨d, v, q, hv, dv, rfl, by omega, ?_⟩)
            unfold L2.start
            rw [List.getElem?_append_left (by rw [List.length_map, List.length_cons, hl]; omega), List.getElem?_map, List.getElem?_cons_succ, hv]
            rfl
        · rw [List.getElem?_append_right (by rw [List.length_map]; omega), List.getElem?_replicate] at hs
          split at hs
          · cases hs; exact Or.inr (Or.inr rfl)
          · cases hs
    have s0 : (L2.start N (V.ref j :: us))[0]? = some (some (V.ref j)) := by unfold L2.start; simp
    have own0 : ∀ (i : Nat) (l : Addr), OwnAt (L2.start N (V.ref j :: us)) (enJ N dj ds) i l → i = 0 ∧ l = j := fun i l ⟨q1, es, q2⟩ => by
      rcases get_ i _ q2 with ⟨e, _⟩ | ⟨d, v, _, _, _, e, _⟩ | e
      · subst e
        rw [s0] at q1
        injection q1 with q1; injection q1 with q1; injection q1 with q1
        exact ⟨rfl, q1.symm⟩
      · cases e
      · cases e
    have o : Ok K ⟨H, I, some j, []⟩ (L2.start N (V.ref j :: us)) (enJ N dj ds) H I := by
      refine ⟨Ex.rf I, h1, fun a _ h => h, fun a o h _ => h, ?_, fun i s hs => ?_, fun i l h => ?_, fun a b l h g => ?_, fun l h => ?_, fun p hp => (by cases hp)⟩
      · unfold L2.start enJ
        rw [List.length_append, List.length_map, List.length_replicate, List.length_cons, List.length_cons, List.length_append, List.length_map, List.length_replicate]
        omega
      · rcases get_ i s hs with ⟨e1, e2⟩ | ⟨d, v, q1, q2, q3, e, q4, q5⟩ | e
        · subst e1 e2
          exact ⟨j, vj, s0, g1, g2, g3⟩
        · subst e
          exact ⟨v, q5, q3⟩
        · subst e; trivial
      · obtain ⟨_, e⟩ := own0 i l h
        exact Or.inl (by rw [e])
      · rw [(own0 a l h).1, (own0 b l g).1]
      · have e : j = l := Option.some.inj h
        subst e
        exact ⟨s0, dj, rfl⟩
    have fin : ∀ {v σ' H' I' en' d}, Ok K ⟨H, I, some j, []⟩ σ' en' H' I' → Da K I' v d → (∀ dj, en'[0]? = some (.own dj) → Q' d dj) → Q v H' := fun {v σ' H' I' en' d} o' dv q => by
      obtain ⟨p1, dj', p2⟩ := o'.pj j rfl
      obtain ⟨l, vs', r1, r2, r3, r4⟩ := o'.own p2
      rw [p1] at r1
      have e : j = l := by injection r1 with r1; injection r1 with r1; injection r1
      subst e
      refine h5 v H' I' d vs' dj' (fun a u ha q => o'.fr a u q fun e => ha (Option.some.inj e).symm) o'.i0 o'.iH (fun a h1 h2 => ?_) r3 r4 dv (q dj' p2)
      cases z : H a with
      | none => rfl
      | some u => exact absurd (o'.nw a (show H a ≠ none by rw [z]; simp) h2) h1
    exact lS_mk o (hp dj ds Q' h3 h4) ⟨fun σ' H' I' en' o' q => fin o' .non q, fun v σ' H' I' en' d o' dv q => fin o' dv q, fun _ _ _ _ _ q => q.elim, fun _ _ _ _ _ q => q.elim⟩
end
end Pd

set_option Elab.async false
set_option linter.all false
set_option maxRecDepth 100000
set_option maxHeartbeats 4000000
namespace Pd
open PySem PySem.Spec PyProof.Rows L2
section
variable {K : PySem.W.Frag} {X : Cx}
/-! ### in, not in, over flat items -/
def flatD : D → Bool
  | .none | .bool _ | .int _ | .str _ => true
  | _ => false
theorem flat_da {I : Hp} {v : V} {d : D} (h : Da K I v d) (f : flatD d = true) : flatV v = true := by
  cases h <;> first | rfl | exact absurd f (by simp [flatD])
theorem eqv_da {I J : Hp} {v u : V} {d e : D} (h : Da K I v d) (g : Da K J u e) (f : flatD d = true) (f2 : flatD e = true) : eqV v u = PyData.eqv d e := by
  cases h <;> cases g <;> first | rfl | (simp [flatD] at f; done) | (simp [flatD] at f2; done) | simp [eqV, PyData.eqv]
theorem all_da {I : Hp} : ∀ {vs : List V} {ds : List D}, DaAll K I vs ds → ds.all flatD = true → vs.all flatV = true
  | _, _, .nil, _ => rfl
  | _, _, .cons h t, f => by
    rw [List.all_cons, Bool.and_eq_true] at f ⊢
    exact ⟨flat_da h f.1, all_da t f.2⟩
theorem in_da {I J : Hp} {v : V} {d : D} (h : Da K J v d) (fd : flatD d = true) : ∀ {vs : List V} {ds : List D}, DaAll K I vs ds → ds.all flatD = true → inV v vs = ds.any fun y => PyData.eqv y d
  | _, _, .nil, _ => rfl
  | _, _, .cons (v := w) (vs := vs) a t, f => by
    rw [List.all_cons, Bool.and_eq_true] at f
    show (w :: vs).any (fun y => eqV y v) = _
    rw [List.any_cons, List.any_cons, eqv_da a h f.1 fd]
    have q := in_da h fd t f.2
    unfold inV at q
    rw [q]
def dIn (neg : Bool) : D → D → D → Prop := fun x y z => ∃ ys, (y = .list ys ∨ y = .tuple ys) ∧ flatD x = true ∧ ys.all flatD = true ∧ z = .bool (if neg then !(ys.any fun y => PyData.eqv y x) else ys.any fun y => PyData.eqv y x)
theorem snd_in {neg : Bool} : SndOp K (rIn K neg) (dIn neg) := by
  rintro H I x y d e z iH hx hy ⟨ys, hy', fx, fy, rfl⟩ Q k
  rcases hy' with rfl | rfl
  · cases hy with
    | lst h a => exact ⟨_, _, rfl, Or.inl (SqL.of (iH _ _ h)), flat_da hx fx, all_da a fy, by rw [in_da hx fx a fy]; exact k _ H I (Gr.rf iH) (.bl _)⟩
  · cases hy with
    | tup h a => exact ⟨_, _, rfl, Or.inr (sqt_ex iH h), flat_da hx fx, all_da a fy, by rw [in_da hx fx a fy]; exact k _ H I (Gr.rf iH) (.bl _)⟩
/-! ### list + list, list * int, as new lists of one's own -/
variable {a b e : Expr} {pos : Pos} {wa wb : WE} {wl : WA}
def wCatL (wa wb : WE) : WA := fun en Q => wa en fun x e1 => wb e1 fun y e2 => ∃ xs ys, x = .list xs ∧ y = .list ys ∧ xs.length + ys.length ≤ sizeLine ∧ Q (xs ++ ys) e2
theorem l_cat (ha : PE X a (lE X.K wa)) (hb : PE X b (lE X.K wb)) : PE X (.BinOp a .Add b pos) (lL X.K (wCatL wa wb)) :=
  (pe_op op_cat ha hb).mo fun σ H Q ⟨G, en, I, Q', o, q, k⟩ => ⟨G, en, I, _, o, q, fun v H1 I1 e1 d o1 x1 dv q1 => ⟨G, e1, I1, _, o1, q1, fun u H2 I2 e2 d2 o2 x2 du ⟨xs, ys, hx, hy, hl, q2⟩ => by
    subst hx hy
    have dv2 := dv.up x2
    cases dv2 with
    | lst h1 a1 =>
      cases du with
      | lst h2 a2 => exact ⟨_, _, _, _, rfl, rfl, o2.iH _ _ h1, o2.iH _ _ h2, by rw [dpa_len a1, dpa_len a2]; exact hl, fun p hp => k p _ H2 I2 e2 _ o2 (x1.tr x2) hp (dpa_app a1 a2) q2⟩⟩⟩
def wRepL (wa wb : WE) : WA := fun en Q => wa en fun x e1 => wb e1 fun y e2 => ∃ xs m, x = .list xs ∧ y = .int m ∧ -(2 ^ 63) ≤ m ∧ m < 2 ^ 63 ∧ xs.length * m.toNat ≤ sizeLine ∧ Q (List.replicate m.toNat xs).flatten e2
theorem l_rep (ha : PE X a (lE X.K wa)) (hb : PE X b (lE X.K wb)) : PE X (.BinOp a .Mult b pos) (lL X.K (wRepL wa wb)) :=
  (pe_op op_rep ha hb).mo fun σ H Q ⟨G, en, I, Q', o, q, k⟩ => ⟨G, en, I, _, o, q, fun v H1 I1 e1 d o1 x1 dv q1 => ⟨G, e1, I1, _, o1, q1, fun u H2 I2 e2 d2 o2 x2 du ⟨xs, m, hx, hy, h1, h2, hl, q2⟩ => by
    subst hx hy
    have dv2 := dv.up x2
    cases du
    cases dv2 with
    | lst g1 a1 => exact ⟨_, m, _, rfl, rfl, o2.iH _ _ g1, h1, h2, by rw [dpa_len a1]; exact hl, fun p hp => k p _ H2 I2 e2 _ o2 (x1.tr x2) hp (dpa_rep a1 _) q2⟩⟩⟩
/-! ### calls by a bundle -/
def Cal (P : Program) (w : World) (K : PySem.W.Frag) (mg : Str → Option Value) (base : Heap) (k : Nat) (x : Str) (ps : List Str) (sp : Sp) : Prop :=
  ∃ (f : Addr) (fd : FuncData), FnOk P w K mg base CX0 k f fd ps sp ∧ mg x = some (.ref f) ∧ PySem.W.keepIn K (.ref f) = true ∧ Binds K fd ps []
variable {p : Pos} {x : Str} {k n : Nat} {ps : List Str} {es : List Expr}
theorem c_call {wf : WF} {w : WA} (C : Cal X.prog X.w X.K X.mg X.base k x ps (spP X.K n wf)) (hr : Room k X.A) (ha : PA X (e :: es) (lA X.K w)) (hg : Gl X x := by rfl)
    (hdb : (x == ("__debug__" : Str)) = false := by decide) (he : starEach (e :: es) X.env = (false, eval e X.env) :: starEach es X.env := by rfl) (hpl : (backTo pos (starEach es X.env)).any (·.1) = false := by rfl) :
    PE X (.Call (.Name x p) (e :: es) [] pos) (lE X.K (wFn n wf w)) := by
  obtain ⟨f, fd, F, hm, hk, hb⟩ := C
  exact d_call F hr hm hk hb ha hg hdb he hpl
theorem c_call0 {wf : WF} (C : Cal X.prog X.w X.K X.mg X.base k x ps (spP X.K 0 wf)) (hr : Room k X.A) (hg : Gl X x := by rfl) (hdb : (x == ("__debug__" : Str)) = false := by decide) : PE X (.Call (.Name x p) [] [] pos) (lE X.K (wFn 0 wf wNil)) := by
  obtain ⟨f, fd, F, hm, hk, hb⟩ := C
  exact d_call0 F hr hm hk hb hg hdb
theorem c_callJ {wf : WJ} {w : WA} {i : Nat} (C : Cal X.prog X.w X.K X.mg X.base k x ps (spJ X.K n wf)) (hr : Room k X.A) (h0 : PE X e (tVar i)) (ha : PA X es (lA X.K w)) (hg : Gl X x := by rfl)
    (hdb : (x == ("__debug__" : Str)) = false := by decide) (he : starEach (e :: es) X.env = (false, eval e X.env) :: starEach es X.env := by rfl) (hpl : (backTo pos (starEach es X.env)).any (·.1) = false := by rfl) :
    PE X (.Call (.Name x p) (e :: es) [] pos) (lE X.K (wFnJ i n wf w)) := by
  obtain ⟨f, fd, F, hm, hk, hb⟩ := C
  exact d_callJ F hr hm hk hb h0 ha hg hdb he hpl
/-- an int of the module -/
theorem d_gint {i : Int} (hm : ∃ t, X.mg x = some (.int i t)) (hg : Gl X x := by rfl) (hd : (x == ("__debug__" : Str)) = false := by decide) : PE X (.Name x pos) (lE X.K (wC (.int i))) := by
  obtain ⟨t, hm⟩ := hm
  exact d_c (pe_glob (v := .int i) hg hm ⟨t, rfl⟩ hd) fun _ => .int i
/-! ### greater powers -/
end
end Pd

set_option Elab.async false
set_option linter.all false
set_option maxRecDepth 100000
set_option maxHeartbeats 4000000
namespace Pd
open PySem PySem.Spec PyProof.Rows L2
open AutoSeq1 (wpAny_loadPart')
/-! ### enumerate over a tuple -/
theorem meets_enum1 {v : Value} {o : Obj} {H : Heap → Prop} (B : Begins v o H) :
    Meets (Builtin.«enumerate.__new__» ⟨[.type "enumerate", v], []⟩) (fun _ R s => H s.heap ∧
      R (.ok (.ret (.ref (s.heap.push o).objs.size))) { s with heap := (s.heap.push o).push { cls := .type "enumerate", data := .fields #[.none, .bool false, .ref s.heap.objs.size, rawInt 0, .none, .none] } }) :=
  .of_wp fun prog w A R s h => by
    obtain ⟨hp, g, d, tk, os⟩ := s; obtain ⟨hl, h⟩ := h
    have hsub := sub_enumerate
    have hB := fun (A : Around) (E : Value → Shared → Prop) (Q : Value → Shared → Prop) (q : Q (.ref hp.objs.size) ⟨hp.push o, g, d, tk, os⟩) => B.iter prog w A E ⟨hp, g, d, tk, os⟩ Q hl q
    wp_walk
    refine wpAny_stack_any fun st => wpAny_pure ?_
    split
    · rename_i c _ _ _ _ _
      cases (c == Value.type "enumerate")
      · wp_walk using hB
        exact ⟨_, rfl, h⟩
      · wp_walk using hB
        exact ⟨_, rfl, h⟩
    · wp_walk using hB
      exact ⟨_, rfl, h⟩
theorem call_enum1 {prog : Program} {w : World} {A : Around} {E : Value → Shared → Prop} {s : Shared} {v : Value} {o : Obj} {H : Heap → Prop} (B : Begins v o H) {Q : Value → Shared → Prop} (h1 : H s.heap)
    (h : ∀ h', IsEnum h' (s.heap.objs.size + 1) s.heap.objs.size 0 .none → h'.get? s.heap.objs.size = some o → h'.objs.size = s.heap.objs.size + 2 →
      (∀ b o, s.heap.get? b = some o → h'.get? b = some o) → Q (.ref (s.heap.objs.size + 1)) { s with heap := h' }) :
    wpAny (model prog w) A (call (.type "enumerate") [v]) Q E s := by
  refine callType_new F.called_enumerate (by decide) (F.typeCall_enumerate_1 _) (F.newCall_enumerate_1 _) (fun obj => F.args_object_init_2 obj _) F.entry_enumerate_new
    (meets_enum1 B) ⟨h1, ?_⟩
  have hz : (s.heap.push o).objs.size = s.heap.objs.size + 1 := Heap.size_push ..
  show _ ∧ _
  rw [hz]
  have he : IsEnum ((s.heap.push o).push { cls := .type "enumerate", data := .fields #[.none, .bool false, .ref s.heap.objs.size, rawInt 0, .none, .none] }) (s.heap.objs.size + 1) s.heap.objs.size 0 .none := by
    have := Heap.get?_push_size (s.heap.push o) (o := { cls := .type "enumerate", data := .fields #[.none, .bool false, .ref s.heap.objs.size, rawInt 0, .none, .none] }) rfl
    rw [hz] at this; exact this
  refine ⟨⟨_, he, rfl⟩, h _ he (Heap.get?_push_of_some _ (Heap.get?_push_size _ B.free)) (by rw [Heap.size_push, hz]) fun b o x => Heap.get?_push_of_some _ (Heap.get?_push_of_some _ x)⟩
theorem enum_endT {prog : Program} {w : World} {A : Around} {E : Value → Shared → Prop} {s : Shared} {e it l : Addr} {i : Nat} {items : Array Value} {old : Value} {Q : Option Value → Shared → Prop} (hh : A.handled = none)
    (he : IsEnum s.heap e it i old) (hit : s.heap.IsTupleIter it l i) (hl : s.heap.IsTuple l items) (hx : items[i]? = none)
    (hQ : ∀ h', Heap.ExtBut it s.heap h' → Q none { s with heap := h' }) : wpAny (model prog w) A (pyNext (.ref e)) Q E s := by
  have hT : s.TypeIs (.ref e) "enumerate" := ⟨_, he, rfl⟩
  unfold pyNext
  refine wpAny_bind (wpAny_attempt (wpAny_callSpecial?_slot (name := Str.ofString "__next__") hT F.slot_enumerate_next
    (wpAny_call_entry F.slot_enumerate_next hT F.entry_enumerate_next ?_ (F.args_enumerate_next_1 _))))
  show wpAny _ _ (field (.ref e) 2 >>= _) _ _ _
  refine wpAny_bind (wpAny_field he rfl (x := .ref it) rfl ?_)
  refine wpAny_bind (wpAny_nextOf_tuple_end (show A.in1.handled = none from hh) hit hl hx fun h' x he' hx' => ?_)
  obtain ⟨o, ho, hc⟩ := hx'
  refine wpAny_bind (wpAny_isInstance (T := "StopIteration") (b := true) ⟨o, ho, hc⟩ isSubtype_stop ?_)
  exact wpAny_pure (hQ _ he')
/-- the tuple at a as it stands at each turn, each item in a new pair -/
def IteT (K : PySem.W.Frag) (a : Addr) : It :=
  ⟨fun i H => ∃ (xs : List V) (x : V), SqT K H a xs ∧ xs[i]? = some x, fun i H v H' => ∃ T x, v = .ref T ∧ H T = none ∧ H' = upd H T (.tup [.int (i : Nat), x]) ∧ ∀ xs, SqT K H a xs → xs[i]? = some x, fun i H => ∃ xs : List V, SqT K H a xs ∧ xs.length ≤ i⟩
theorem ne_tup {h : Heap} {e it a : Addr} {c : Int} {old : Value} {items : Array Value} (he : IsEnum h e it c old) (ht : h.IsTuple a items) : e ≠ a := fun z => by
  obtain ⟨o, ho, hc, _⟩ := ht
  subst z
  have he' : h.get? e = some _ := he
  rw [he'] at ho
  have e := Option.some.inj ho
  rw [← e] at hc
  have hc' : Value.type "enumerate" = Value.type "tuple" := hc
  injection hc' with hc'
  exact absurd hc' (by decide)
theorem turn_enumT {P : Program} {w : World} {K : PySem.W.Frag} {elts : List Expr} {kk : Nat} {tpos : Pos} (a e it : Addr) (hai : a ≠ it) :
    Turn P w K (.Tuple elts kk tpos) (IteT K a) [e, it] e (fun i h => (∃ old, IsEnum h e it ((i : Nat) : Int) old) ∧ h.IsTupleIter it a i ∧ e ≠ it) where
  mem := by simp
  obj := fun i h st b hb => by
    obtain ⟨⟨old, he⟩, ⟨o, ho, hc, hd⟩, _⟩ := st
    have e' : b = e ∨ b = it := by simpa using hb
    rcases e' with z | z
    · rw [z]; exact ⟨_, he, fun v q => nomatch q⟩
    · rw [z]; exact ⟨o, ho, fun v q => by rw [hd] at q; cases q⟩
  keep := fun i h h' st k => let ⟨⟨old, he⟩, hi, hne⟩ := st; ⟨⟨old, k e (by simp) _ he⟩, hi.at fun o q => k it (by simp) o q, hne⟩
  item := by
    intro X hP hw hK hc i pins s σ H E I hf st hg
    subst hP hw hK
    obtain ⟨⟨old, he⟩, hit, hne⟩ := st
    obtain ⟨xs, x, hq, hx⟩ := hg
    obtain ⟨its, rv, p, hz⟩ := I.tuple hq
    have p' : s.heap.IsTuple a its.toArray := p
    obtain ⟨u, hu, ru⟩ := rv.get hx
    have hlt : i < its.toArray.size := by
      rw [List.size_toArray]
      exact (List.getElem?_eq_some_iff.mp hu).1
    have hel : e < s.heap.objs.size := Heap.lt_size he
    have hil : it < s.heap.objs.size := by obtain ⟨_, q, _⟩ := hit; exact Heap.lt_size q
    refine wpAny_pyNext_enum_itemD (Draws.tuple (show X.A.in1.handled = none from I.ok.hd hc) it a hai its.toArray) he ⟨hit, p'⟩ hlt hne (by simp [hne, ne_tup he p']) fun y h' tk hy ho hit' hT hsz hk => ?_
    have ey : y = u := by
      have h1 : its[i]? = some y := by simpa using hy
      rw [hu] at h1
      exact (Option.some.inj h1).symm
    subst ey
    refine ⟨_, rfl, wpAny_letOwnedTupleGo_enum (s := { s with heap := h', toks := tk + 1 }) ho fun h'' he' sb => ?_⟩
    have hT2 : h''.get? s.heap.objs.size = some { cls := .type "tuple", data := .seq #[.int i tk, y] } := (sb.2 _ (Nat.ne_of_gt hel)).trans hT
    have new : ObjOk X.prog X.w (upd H s.heap.objs.size (.tup [.int (i : Nat), x])) h'' s.heap.objs.size (.tup [.int (i : Nat), x]) :=
      ⟨by show 2 ≤ sizeLine; decide, [.int i tk, y], .cons ⟨_, rfl⟩ (.cons ru .nil), ⟨_, hT2, rfl, _, rfl⟩⟩
    have I1 : Inv X pins σ (upd H s.heap.objs.size (.tup [.int (i : Nat), x])) { s with heap := h'', toks := tk + 1 } :=
      I.turnedNew (ch := [e, it]) (fun b ob hb q => (sb.2 b (fun z => hb (by simp [z]))).trans (hk b ob (fun z => hb (by simp [z])) (fun z => hb (by simp [z])) q)) hf (Nat.le_refl _) new
    refine ⟨.ref s.heap.objs.size, _, I1, rfl, ⟨_, x, rfl, I.hok.fresh (Nat.le_refl _), rfl, fun ys hy => by rw [I.tuple_inj hy hq]; exact hx⟩, ⟨⟨y, ?_⟩, hit'.1.at fun o q => (sb.2 it (Ne.symm hne)).trans q, hne⟩, fun b hb => ?_⟩
    · have e1 : ((i + 1 : Nat) : Int) = (i : Int) + 1 := by omega
      rw [e1]; exact he'
    · have hb' : b < s.heap.objs.size := by
        have e' : b = e ∨ b = it := by simpa using hb
        rcases e' with z | z
        · rw [z]; exact hel
        · rw [z]; exact hil
      rw [upd_ne (Nat.ne_of_lt hb')]
      exact (hf b hb).1
  done := by
    intro X hP hw hK hc i pins s σ H E I hf st hg
    subst hP hw hK
    obtain ⟨⟨old, he⟩, hit, hne⟩ := st
    obtain ⟨xs, hq, hx⟩ := hg
    obtain ⟨its, rv, p, hz⟩ := I.tuple hq
    have p' : s.heap.IsTuple a its.toArray := p
    obtain ⟨f0, f1, f2, f3, f4, f5⟩ := hf it (by simp)
    have hl := rv.length
    exact enum_endT (I.ok.hd hc) he hit p' (by simp; omega) fun h' eb => ⟨rfl, I.turned (t' := s.toks) (fun b o hb q => eb b o hb q) f0 f1 f3 f4 f5⟩
  self := fun A i s Q E st h => let ⟨⟨_, he⟩, _⟩ := st; wpAny_pyIter_enum he h
def iEnA (K : PySem.W.Frag) (ta : TA) : TI := fun σ H R => ta σ H fun vs H1 => ∃ a, vs = [.ref a] ∧ ((∃ xs, SqL K H1 a xs ∧ R (Ite K a) H1) ∨ (∃ xs, SqT K H1 a xs ∧ R (IteT K a) H1))
theorem pi_enA {X : Cx} {e : Expr} {ta : TA} {p pos tpos : Pos} {elts : List Expr} {kk : Nat} (hg : Gl X "enumerate") (hm : X.mg "enumerate" = none) (ha : PA X [e] ta) (hs : starEach [e] X.env = [(false, eval e X.env)] := by rfl) :
    PI X (.Tuple elts kk tpos) (.Call (.Name "enumerate" p) [e] [] pos) (iEnA X.K ta) := by
  refine ⟨fun pins s σ H R I h => ?_⟩
  refine Call_ (ld_blt I hg hm boot_enumerate (PyProof.Rows.callWith_type1 (thn (ha.run pos pins s σ H _ I h) fun us s1 ⟨vs, H1, I1, r1, q1⟩ => ?_) hs rfl))
  obtain ⟨a, ex, q1⟩ := q1
  subst ex
  cases r1 with
  | cons r rr =>
    cases rr
    cases r
    have tail : ∀ b ∈ [s1.heap.objs.size + 1, s1.heap.objs.size], FpOk X pins H1 b := fun b hb => by
      have e' : b = s1.heap.objs.size + 1 ∨ b = s1.heap.objs.size := by simpa using hb
      have hle : s1.heap.objs.size ≤ b := by
        rcases e' with z | z
        · rw [z]; exact Nat.le_add_right _ _
        · rw [z]; exact Nat.le_refl _
      exact I1.fpOk hle (I1.hok.fresh hle)
    rcases q1 with ⟨xs, hq, q⟩ | ⟨xs, hq, q⟩
    · obtain ⟨its, rv, p', hz⟩ := I1.list hq
      refine call_enumerate_list p'.isList fun h' he hit hsz hk => wpAny_pyIter_enum he ?_
      have I2 : Inv X pins σ H1 { s1 with heap := h' } := I1.kept (t' := s1.toks) hk
      exact ⟨s1.heap.objs.size + 1, [s1.heap.objs.size + 1, s1.heap.objs.size], _, _, H1, rfl, I2, turn_enum a (s1.heap.objs.size + 1) s1.heap.objs.size, ⟨⟨.none, he⟩, hit, Nat.succ_ne_self _⟩, tail, q⟩
    · obtain ⟨its, rv, p', hz⟩ := I1.tuple hq
      have al : a < s1.heap.objs.size := by obtain ⟨_, z, _⟩ := p'; exact Heap.lt_size z
      refine call_enum1 (begins_tuple a its.toArray) p' fun h' he hit hsz hk => wpAny_pyIter_enum he ?_
      have I2 : Inv X pins σ H1 { s1 with heap := h' } := I1.kept (t' := s1.toks) hk
      exact ⟨s1.heap.objs.size + 1, [s1.heap.objs.size + 1, s1.heap.objs.size], _, _, H1, rfl, I2, turn_enumT a (s1.heap.objs.size + 1) s1.heap.objs.size (Nat.ne_of_lt al), ⟨⟨.none, he⟩, ⟨_, hit, rfl, rfl⟩, Nat.succ_ne_self _⟩, tail, q⟩
/-- pairs of number and item -/
def enuD : Nat → List D → List D
  | _, [] => []
  | i, x :: xs => .tuple [.int (i : Nat), x] :: enuD (i + 1) xs
theorem enuD_len : ∀ (i : Nat) (xs : List D), (enuD i xs).length = xs.length
  | _, [] => rfl
  | i, x :: xs => congrArg (· + 1) (enuD_len (i + 1) xs)
theorem enuD_get : ∀ {j : Nat} {xs : List D} {i : Nat} {d : D}, (enuD j xs)[i]? = some d → ∃ x, xs[i]? = some x ∧ d = .tuple [.int ((j + i : Nat) : Int), x]
  | _, [], _, _, h => by simp [enuD] at h
  | j, x :: xs, 0, d, h => by
    have e : PyData.tuple [.int (j : Nat), x] = d := Option.some.inj h
    exact ⟨x, rfl, e.symm⟩
  | j, x :: xs, i + 1, d, h => by
    have h' : (enuD (j + 1) xs)[i]? = some d := h
    obtain ⟨y, h1, h2⟩ := enuD_get h'
    refine ⟨y, h1, ?_⟩
    rw [h2, show j + 1 + i = j + (i + 1) by omega]
def zipD : List D → List D → List D
  | x :: xs, y :: ys => .tuple [x, y] :: zipD xs ys
  | _, _ => []
theorem zipD_get : ∀ {xs ys : List D} {i : Nat} {d : D}, (zipD xs ys)[i]? = some d → ∃ x y, xs[i]? = some x ∧ ys[i]? = some y ∧ d = .tuple [x, y]
  | [], _, _, _, h => by simp [zipD] at h
  | _ :: _, [], _, _, h => by simp [zipD] at h
  | x :: xs, y :: ys, 0, d, h => by
    have e : PyData.tuple [x, y] = d := Option.some.inj h
    exact ⟨x, y, rfl, rfl, e.symm⟩
  | x :: xs, y :: ys, i + 1, d, h => by
    have h' : (zipD xs ys)[i]? = some d := h
    obtain ⟨a, b, h1, h2, h3⟩ := zipD_get h'
    exact ⟨a, b, h1, h2, h3⟩
theorem zipD_len : ∀ (xs ys : List D), (zipD xs ys).length = min xs.length ys.length
  | [], ys => by simp [zipD]
  | x :: xs, [] => by simp [zipD]
  | x :: xs, y :: ys => by simp [zipD, zipD_len xs ys]
section
variable {K : PySem.W.Frag} {X : Cx} {tg e a b : Expr} {es elts : List Expr} {kk : Nat} {pos p tpos : Pos} {w : WA}
theorem pair_gr {H I : Hp} {T : Addr} {x y : V} {d e : D} (iH : Ex I H) (hT : H T = none) (hx : Da K I x d) (hy : Da K I y e) : ∃ I', Gr H I (upd H T (.tup [x, y])) I' ∧ Da K I' (.ref T) (.tuple [d, e]) :=
  ⟨_, Gr.nw (u := .tup [x, y]) iH hT, .tup (SqT.of upd_same) ((DaAll.cons hx (.cons hy .nil)).up (Gr.nw (u := .tup [x, y]) iH hT).i)⟩
theorem itd_enL {I : Hp} {a : Addr} {vs : List V} {ds : List D} (h : I a = some (.lst vs)) (hd : DaAll K I vs ds) : ItD K (Ite K a) I (enuD 0 ds) where
  go := fun i H I1 e1 e2 hi => by
    rw [enuD_len] at hi
    obtain ⟨v, hv, _⟩ := dpa_get hd (List.getElem?_eq_getElem hi)
    exact ⟨vs, v, SqL.of (e2 _ _ (e1 _ _ h)), hv⟩
  stop := fun H I1 e1 e2 => ⟨vs, SqL.of (e2 _ _ (e1 _ _ h)), by rw [enuD_len, dpa_len hd]; exact Nat.le_refl _⟩
  yld := fun i H I1 v H' d e1 e2 hd' ⟨T, x, ev, hT, eH, hv⟩ => by
    subst ev eH
    obtain ⟨y, hy, ed⟩ := enuD_get hd'
    obtain ⟨v', hv', q⟩ := dpa_get hd hy
    have := hv vs (SqL.of (e2 _ _ (e1 _ _ h)))
    rw [hv'] at this
    cases this
    subst ed
    rw [Nat.zero_add]
    exact pair_gr e2 hT (.int _) (q.up e1)
theorem itd_enT {I : Hp} {a : Addr} {vs : List V} {ds : List D} (h : SqT K I a vs) (hd : DaAll K I vs ds) : ItD K (IteT K a) I (enuD 0 ds) where
  go := fun i H I1 e1 e2 hi => by
    rw [enuD_len] at hi
    obtain ⟨v, hv, _⟩ := dpa_get hd (List.getElem?_eq_getElem hi)
    exact ⟨vs, v, sqt_ex (e1.tr e2) h, hv⟩
  stop := fun H I1 e1 e2 => ⟨vs, sqt_ex (e1.tr e2) h, by rw [enuD_len, dpa_len hd]; exact Nat.le_refl _⟩
  yld := fun i H I1 v H' d e1 e2 hd' ⟨T, x, ev, hT, eH, hv⟩ => by
    subst ev eH
    obtain ⟨y, hy, ed⟩ := enuD_get hd'
    obtain ⟨v', hv', q⟩ := dpa_get hd hy
    have := hv vs (sqt_ex (e1.tr e2) h)
    rw [hv'] at this
    cases this
    subst ed
    rw [Nat.zero_add]
    exact pair_gr e2 hT (.int _) (q.up e1)
def wEnum (w : WA) : WA := fun en Q => w en fun ds e1 => ∃ xs, (ds = [.list xs] ∨ ds = [.tuple xs]) ∧ Q (enuD 0 xs) e1
theorem i_enum (hm : X.mg "enumerate" = none) (ha : PA X [e] (lA X.K w)) (hg : Gl X "enumerate" := by rfl) (hs : starEach [e] X.env = [(false, eval e X.env)] := by rfl) : PI X (.Tuple elts kk tpos) (.Call (.Name "enumerate" p) [e] [] pos) (lI X.K (wEnum w)) :=
  (pi_enA hg hm ha hs).mo fun σ H R ⟨G, en, I, Q', o, q, k⟩ => ⟨G, en, I, _, o, q, fun vs H1 I1 e1 ds o1 x1 dvs ⟨xs, hd, q1⟩ => by
    rcases hd with rfl | rfl
    · cases dvs with
      | cons h t => cases t; cases h with
        | lst hs ha => exact ⟨_, rfl, Or.inl ⟨_, SqL.of (o1.iH _ _ hs), k _ H1 I1 e1 _ o1 x1 (itd_enL hs ha) q1⟩⟩
    · cases dvs with
      | cons h t => cases t; cases h with
        | tup hs ha => exact ⟨_, rfl, Or.inr ⟨_, sqt_ex o1.iH hs, k _ H1 I1 e1 _ o1 x1 (itd_enT hs ha) q1⟩⟩⟩
theorem itd_zipL {I : Hp} {a b : Addr} {vs us : List V} {ds es : List D} (h : I a = some (.lst vs)) (hd : DaAll K I vs ds) (g : I b = some (.lst us)) (he : DaAll K I us es) : ItD K (Itz K a b) I (zipD ds es) where
  go := fun i H I1 e1 e2 hi => by
    rw [zipD_len] at hi
    obtain ⟨v, hv, _⟩ := dpa_get hd (List.getElem?_eq_getElem (i := i) (by omega))
    obtain ⟨u, hu, _⟩ := dpa_get he (List.getElem?_eq_getElem (i := i) (by omega))
    exact ⟨vs, us, v, u, SqL.of (e2 _ _ (e1 _ _ h)), SqL.of (e2 _ _ (e1 _ _ g)), hv, hu⟩
  stop := fun H I1 e1 e2 => ⟨vs, us, SqL.of (e2 _ _ (e1 _ _ h)), SqL.of (e2 _ _ (e1 _ _ g)), by rw [zipD_len, dpa_len hd, dpa_len he]; omega⟩
  yld := fun i H I1 v H' d e1 e2 hd' ⟨T, x, y, ev, hT, eH, hv, hu⟩ => by
    subst ev eH
    obtain ⟨x', y', hx, hy, ed⟩ := zipD_get hd'
    obtain ⟨v', hv', q⟩ := dpa_get hd hx
    obtain ⟨u', hu', q'⟩ := dpa_get he hy
    have t1 := hv vs (SqL.of (e2 _ _ (e1 _ _ h)))
    have t2 := hu us (SqL.of (e2 _ _ (e1 _ _ g)))
    rw [hv'] at t1
    rw [hu'] at t2
    cases t1; cases t2
    subst ed
    exact pair_gr e2 hT (q.up e1) (q'.up e1)
theorem itd_zipT {I : Hp} {a b : Addr} {vs us : List V} {ds es : List D} (h : SqT K I a vs) (hd : DaAll K I vs ds) (g : SqT K I b us) (he : DaAll K I us es) : ItD K (RZ.ItzT K a b) I (zipD ds es) where
  go := fun i H I1 e1 e2 hi => by
    rw [zipD_len] at hi
    obtain ⟨v, hv, _⟩ := dpa_get hd (List.getElem?_eq_getElem (i := i) (by omega))
    obtain ⟨u, hu, _⟩ := dpa_get he (List.getElem?_eq_getElem (i := i) (by omega))
    exact ⟨vs, us, v, u, sqt_ex (e1.tr e2) h, sqt_ex (e1.tr e2) g, hv, hu⟩
  stop := fun H I1 e1 e2 => ⟨vs, us, sqt_ex (e1.tr e2) h, sqt_ex (e1.tr e2) g, by rw [zipD_len, dpa_len hd, dpa_len he]; omega⟩
  yld := fun i H I1 v H' d e1 e2 hd' ⟨T, x, y, ev, hT, eH, hv, hu⟩ => by
    subst ev eH
    obtain ⟨x', y', hx, hy, ed⟩ := zipD_get hd'
    obtain ⟨v', hv', q⟩ := dpa_get hd hx
    obtain ⟨u', hu', q'⟩ := dpa_get he hy
    have t1 := hv vs (sqt_ex (e1.tr e2) h)
    have t2 := hu us (sqt_ex (e1.tr e2) g)
    rw [hv'] at t1
    rw [hu'] at t2
    cases t1; cases t2
    subst ed
    exact pair_gr e2 hT (q.up e1) (q'.up e1)
def wZip (w : WA) : WA := fun en Q => w en fun ds e1 => ∃ xs ys, (ds = [.list xs, .list ys] ∨ ds = [.tuple xs, .tuple ys]) ∧ Q (zipD xs ys) e1
theorem i_zip (hm : X.mg "zip" = none) (ha : PA X [a, b] (lA X.K w)) (hg : Gl X "zip" := by rfl) (hs : starEach [a, b] X.env = (false, eval a X.env) :: starEach [b] X.env := by rfl) (hpl : (backTo pos (starEach [b] X.env)).any (·.1) = false := by rfl) :
    PI X (.Tuple elts kk tpos) (.Call (.Name "zip" p) [a, b] [] pos) (lI X.K (wZip w)) :=
  (RZ.pi_zipA hg hm ha hs hpl).mo fun σ H R ⟨G, en, I, Q', o, q, k⟩ => ⟨G, en, I, _, o, q, fun vs H1 I1 e1 ds o1 x1 dvs ⟨xs, ys, hd, q1⟩ => by
    rcases hd with rfl | rfl
    · cases dvs with
      | cons h t => cases t with
        | cons h2 t => cases t; cases h with
          | lst hs ha => cases h2 with
            | lst hs2 ha2 => exact ⟨_, _, _, _, rfl, Or.inl ⟨SqL.of (o1.iH _ _ hs), SqL.of (o1.iH _ _ hs2), k _ H1 I1 e1 _ o1 x1 (itd_zipL hs ha hs2 ha2) q1⟩⟩
    · cases dvs with
      | cons h t => cases t with
        | cons h2 t => cases t; cases h with
          | tup hs ha => cases h2 with
            | tup hs2 ha2 => exact ⟨_, _, _, _, rfl, Or.inr ⟨sqt_ex o1.iH hs, sqt_ex o1.iH hs2, k _ H1 I1 e1 _ o1 x1 (itd_zipT hs ha hs2 ha2) q1⟩⟩⟩
end
end Pd

set_option Elab.async false
set_option linter.all false
set_option maxRecDepth 100000
set_option maxHeartbeats 4000000
namespace Pd
open PySem PySem.Spec PyProof.Rows L2
section
variable {K : PySem.W.Frag} {X : Cx} {e a b : Expr} {es : List Expr} {pos p : Pos} {wb : WE} {x : Str} {k n : Nat} {ps : List Str}
/-! ### the law's own list -/
def wLenS (i : Nat) : WE := fun en Q => ∃ ns, en[i]? = some (.scr ns) ∧ Q (.int (ns.length : Nat)) en
theorem d_lenS {i : Nat} (hm : X.mg "len" = none) (ha : PE X e (tVar i)) (hg : Gl X "len" := by rfl)
    (he : starEach (e :: []) X.env = (false, eval e X.env) :: starEach [] X.env := by rfl) (hpl : (backTo pos (starEach [] X.env)).any (·.1) = false := by rfl) : PE X (.Call (.Name "len" p) [e] [] pos) (lE X.K (wLenS i)) :=
  (pe_callB call_len hg hm (by decide +kernel) (pa_cons ha pa_nil he) (by decide) (by decide) he hpl).mo fun σ H Q ⟨G, en, I, Q', o, ⟨ns, hd, q⟩, k⟩ => by
    obtain ⟨a, h1, h2⟩ := o.sl i _ hd
    exact ⟨.ref a, h1, _, ns.length, rfl, Or.inl ⟨_, (sqs_ex o.iH h2).l, by rw [List.length_map]⟩, k _ H I en _ o (Ex.rf I) (.int _) q⟩
def wIxS (i : Nat) (wb : WE) : WE := fun en Q => (∃ ns, en[i]? = some (.scr ns)) ∧ wb en fun y e1 => ∃ ns j m, e1[i]? = some (.scr ns) ∧ y = .int j ∧ atI ns j = some m ∧ Q (.int m) e1
theorem at_map {ns : List Int} {j m : Int} (h : atI ns j = some m) : atI (ns.map V.int) j = some (.int m) := by
  unfold atI at h ⊢
  rw [List.length_map]
  cases q : ixN ns.length j with
  | none => rw [q] at h; cases h
  | some t =>
    rw [q] at h
    have h' : ns[t]? = some m := h
    show (ns.map V.int)[t]? = _
    rw [List.getElem?_map, h']
    rfl
theorem d_ixS {i : Nat} (ha : PE X a (tVar i)) (hb : PE X b (lE X.K wb)) (hs : PlainIx b := by exact fun _ _ => rfl) : PE X (.Subscript a b pos) (lE X.K (wIxS i wb)) :=
  (pe_ix ix_seq ha hb hs).mo fun σ H Q ⟨G, en, I, Q', o, ⟨⟨ns0, hd0⟩, q⟩, k⟩ => by
    obtain ⟨l, h1, h2⟩ := o.sl i _ hd0
    refine ⟨.ref l, h1, G, en, I, _, o, q, fun u H1 I1 e1 d o1 x1 du ⟨ns, j, m, hd, hj, hm, q1⟩ => ?_⟩
    subst hj
    obtain ⟨l', h3, h4⟩ := o1.sl i _ hd
    rw [h1] at h3
    have q5 : l = l' := by injection h3 with h3; injection h3 with h3; injection h3
    subst q5
    exact Or.inl ⟨l, _, j, _, rfl, dp_int du, (sqs_ex o1.iH h4).l, at_map hm, k _ H1 I1 e1 _ o1 x1 (.int m) q1⟩
abbrev WSc := List Int → List D → (D → Prop) → Prop
/-- a def whose first argument is the law's list -/
def spS (K : PySem.W.Frag) (n : Nat) (wf : WSc) : Sp := fun vs H Q _ => ∃ (a : Addr) (ns : List Int) (us : List V) (ds : List D) (I : Hp) (Q' : D → Prop),
  vs = .ref a :: us ∧ Ex I H ∧ SqS K I a (ns.map V.int) ∧ DaAll K I us ds ∧ ds.length + 1 = n ∧ wf ns ds Q' ∧ ∀ v H' I' d, Gr H I H' I' → Da K I' v d → Q' d → Q v H'
/-- a call of such a def that hands back a new list of ints: one's own -/
def wFnS (i n : Nat) (wf : WSc) (w : WA) : WA := fun en Q => (∃ ns, en[i]? = some (.scr ns)) ∧ w en fun ds e1 => ∃ (ns js : List Int), ds = js.map PyData.int ∧ js.length + 1 = n ∧ e1[i]? = some (.scr ns) ∧ wf ns ds fun d => ∃ ms : List Int, d = .list (ms.map .int) ∧ Q (ms.map .int) e1
theorem c_callS {wf : WSc} {w : WA} {i : Nat} (C : Cal X.prog X.w X.K X.mg X.base k x ps (spS X.K n wf)) (hr : Room k X.A) (h0 : PE X e (tVar i)) (ha : PA X es (lA X.K w)) (hg : Gl X x := by rfl)
    (hdb : (x == ("__debug__" : Str)) = false := by decide) (he : starEach (e :: es) X.env = (false, eval e X.env) :: starEach es X.env := by rfl) (hpl : (backTo pos (starEach es X.env)).any (·.1) = false := by rfl) :
    PE X (.Call (.Name x p) (e :: es) [] pos) (lL X.K (wFnS i n wf w)) := by
  obtain ⟨f, fd, F, hm, hk, hb⟩ := C
  refine (pe_call F hr hg hm hk hb .nil pass0 (pa_cons h0 ha he) hdb he hpl).mo fun σ H Q ⟨G, en, I, Q', o, ⟨⟨ns0, hd0⟩, q⟩, k⟩ => ?_
  obtain ⟨l, h1, h2⟩ := o.sl i _ hd0
  refine ⟨.ref l, h1, G, en, I, _, o, q, fun vs H1 I1 e1 ds o1 x1 dvs ⟨ns, js, hjs, hn, hd, q1⟩ => ?_⟩
  obtain ⟨l', h3, h4⟩ := o1.sl i _ hd
  rw [h1] at h3
  have q5 : l = l' := by injection h3 with h3; injection h3 with h3; injection h3
  subst q5 hjs
  have evs := dpa_ints_inv js dvs
  subst evs
  -- the callee sees nothing but the law's list
  obtain ⟨J, jI, jl, jn⟩ : ∃ J : Hp, Ex J I1 ∧ SqS X.K J l (ns.map V.int) ∧ ∀ b xs, J b ≠ some (.lst xs) := by
    rcases h4 with ⟨w, h4⟩ | h4
    · refine ⟨fun b => if b = l then some (.frz w (.lst (ns.map V.int))) else none, fun b u hb => ?_, Or.inl ⟨w, if_pos rfl⟩, fun b xs hb => ?_⟩
      · by_cases eb : b = l
        · have hb' : (if b = l then some (HO.frz w (.lst (ns.map V.int))) else none) = some u := hb
          rw [if_pos eb] at hb'
          rw [eb, h4]; exact hb'
        · have hb' : (if b = l then some (HO.frz w (.lst (ns.map V.int))) else none) = some u := hb
          rw [if_neg eb] at hb'; cases hb'
      · have hb' : (if b = l then some (HO.frz w (.lst (ns.map V.int))) else none) = some (HO.lst xs) := hb
        split at hb' <;> cases hb'
    · exact ⟨fun _ => none, fun b u hb => (by cases hb), Or.inr h4, fun b xs hb => (by cases hb)⟩
  show spS X.K n wf ((V.ref l :: js.map V.int) ++ []) H1 Q E0
  rw [List.append_nil]
  refine ⟨l, ns, js.map V.int, js.map .int, J, _, rfl, jI.tr o1.iH, jl, dpa_ints js, by rw [List.length_map]; exact hn, q1, fun v H2 I2 d g dv ⟨ms, hms, q2⟩ => ?_⟩
  subst hms
  cases dv with
  | lst hp ha =>
    rename_i pp vs
    have ev := dpa_ints_inv ms ha
    subst ev
    have fresh : H1 pp = none := g.n pp (by rw [hp]; simp) (by
      cases z : J pp with
      | none => rfl
      | some u =>
        have z2 := g.i pp u z
        rw [hp] at z2
        cases z2
        exact absurd z (jn _ _))
    have e2 : Ex H1 (hid H2 pp) := fun b u hb => by
      have ne : b ≠ pp := fun e => by rw [e, fresh] at hb; cases hb
      rw [hid_ne ne]; exact g.h b u hb
    have eH : H2 = upd (hid H2 pp) pp (.lst (ms.map V.int)) := by
      funext b
      by_cases e : b = pp
      · rw [e, upd_same]; exact g.s _ _ hp
      · rw [upd_ne e, hid_ne e]
    rw [eH]
    exact k pp _ _ I1 e1 _ (o1.grow e2 (Ex.rf I1) (o1.iH.tr e2) fun a h1 h2 => absurd h2 h1) x1 hid_at (dpa_ints ms) q2
/-! ### the defs that take the law's list -/
def enS (N : List Str) (ns : List Int) (ds : List D) : En := .scr ns :: (ds.map .imm ++ List.replicate (N.length - (ds.length + 1)) .un)
end
section
variable {P : Program} {w : World} {K : PySem.W.Frag} {mg : Str → Option Value} {base : Heap} {x qual : Str} {params : Arguments} {body : List Stmt} {scope : Scope} {f : Addr} {fd : FuncData} {N ps : List Str} {k : Nat}
theorem fnS {wf : WSc} {ws : WS} {n : Nat} (F : FunD K x qual params body scope [] [] f fd) (S : FnScope N ps scope) (hn : ps.length = n)
    (hb : ∀ (cdv : Value) (A : Around) (outer : List Env) (s : Shared) (H : Hp) (E : XK), Room k (A.deeper (envOfC qual scope s.heap.objs.size f cdv)) → PSs (cxOf CX0 P w K mg base N qual scope f cdv A outer s H E).nox body (lS K ws))
    (hp : ∀ ns ds Q', ds.length + 1 = n → wf ns ds Q' → ws (edP Q') (enS N ns ds)) : FnOk P w K mg base CX0 (k + 1) f fd ps (spS K n wf) := by
  refine F.ok S (fun vs H Q E h => ?_) (fun cdv A outer s H vs Q E hr h => ?_)
  · obtain ⟨a, ns, us, ds, I, Q', rfl, _, _, h6, h7, _⟩ := h
    rw [List.length_cons, dpa_len h6, h7, hn]
  · obtain ⟨a, ns, us, ds, I, Q', rfl, h1, h0, h2, h3, h4, h5⟩ := h
    refine ⟨lS K ws, PSs.nox (hb cdv A outer s H E hr), ?_⟩
    have hpl : ps.length ≤ N.length := by have := congrArg List.length S.pre; rw [List.length_take] at this; omega
    have hl : us.length = ds.length := dpa_len h2
    have get_ : ∀ (i : Nat) (s : Sl), (enS N ns ds)[i]? = some s → (i = 0 ∧ s = .scr ns) ∨ (∃ d v, ds[i - 1]? = some d ∧ us[i - 1]? = some v ∧ Da K I v d ∧ s = .imm d ∧ 1 ≤ i ∧ (L2.start N (V.ref a :: us))[i]? = some (some v)) ∨ s = .un := fun i s hs => by
      unfold enS at hs
      cases i with
      | zero => exact Or.inl ⟨rfl, by simpa using hs.symm⟩
      | succ i =>
        rw [List.getElem?_cons_succ] at hs
        by_cases hi : i < ds.length
        · rw [List.getElem?_append_left (by rw [List.length_map]; exact hi), List.getElem?_map] at hs
          cases q : ds[i]? with
          | none => rw [q] at hs; cases hs
          | some d =>
            rw [q] at hs
            cases hs
            obtain ⟨v, hv, dv⟩ := dpa_get h2 q
            refine Or.inr (Or.inl ⟨d, v, q, hv, dv, rfl, by omega, ?_⟩)
            unfold L2.start
            rw [List.getElem?_append_left (by rw [List.length_map, List.length_cons, hl]; omega), List.getElem?_map, List.getElem?_cons_succ, hv]
            rfl
        · rw [List.getElem?_append_right (by rw [List.length_map]; omega), List.getElem?_replicate] at hs
          split at hs
          · cases hs; exact Or.inr (Or.inr rfl)
          · cases hs
    have s0 : (L2.start N (V.ref a :: us))[0]? = some (some (V.ref a)) := by unfold L2.start; simp
    have nown : ∀ (i : Nat) (l : Addr), ¬ OwnAt (L2.start N (V.ref a :: us)) (enS N ns ds) i l := fun i l ⟨q1, es, q2⟩ => by
      rcases get_ i _ q2 with ⟨e, e2⟩ | ⟨d, v, _, _, _, e, _⟩ | e
      · cases e2
      · cases e
      · cases e
    have o : Ok K ⟨H, I, none, []⟩ (L2.start N (V.ref a :: us)) (enS N ns ds) H I := by
      refine ⟨Ex.rf I, h1, fun a _ h => h, fun a o h _ => h, ?_, fun i s hs => ?_, fun i l h => absurd h (nown i l), fun i j l h => absurd h (nown i l), fun l h => (by cases h), fun p hp => (by cases hp)⟩
      · unfold L2.start enS
        rw [List.length_append, List.length_map, List.length_replicate, List.length_cons, List.length_cons, List.length_append, List.length_map, List.length_replicate]
        omega
      · rcases get_ i s hs with ⟨e1, e2⟩ | ⟨d, v, q1, q2, q3, e, q4, q5⟩ | e
        · subst e1 e2
          exact ⟨a, s0, h0⟩
        · subst e
          exact ⟨v, q5, q3⟩
        · subst e; trivial
    have fin : ∀ {v σ' H' I' en' d}, Ok K ⟨H, I, none, []⟩ σ' en' H' I' → Da K I' v d → Q' d → Q v H' := fun {v σ' H' I' en' d} o' dv q =>
      h5 v H' I' d ⟨fun a u q => o'.fr a u q (by simp), o'.i0, o'.iH, fun a h1 h2 => by
        cases z : H a with
        | none => rfl
        | some u => exact absurd (o'.nw a (show H a ≠ none by rw [z]; simp) h2) h1⟩ dv q
    exact lS_mk o (hp ns ds Q' h3 h4) ⟨fun σ' H' I' en' o' q => fin o' .non q, fun v σ' H' I' en' d o' dv q => fin o' dv q, fun _ _ _ _ _ q => q.elim, fun _ _ _ _ _ q => q.elim⟩
/-- the law hands back True -/
def wfLaw (n : Nat) : WSc := fun ns ds Q => ds = [] ∧ ns.length ≤ n ∧ Q (.bool true)
theorem law_sp {n : Nat} {H : Hp} {a : Addr} {ns : List Int} (hn : ns.length ≤ n) (hO : Only H) (hS : SqL K H a (ns.map V.int)) : spS K 1 (wfLaw n) [.ref a] H (fun v _ => v = .bl true) fun _ _ _ => False := by
  have h : SqS K H a (ns.map V.int) := by
    rcases hS with (h | ⟨o, h⟩) | h
    · rcases hO a with q | ⟨o, xs, q⟩
      · rw [q] at h; cases h
      · rw [q] at h; cases h
    · exact Or.inl ⟨o, h⟩
    · exact Or.inr fun _ => Or.inr h
  exact ⟨a, ns, [], [], H, fun d => d = .bool true, rfl, Ex.rf H, h, .nil, rfl, ⟨rfl, hn, rfl⟩, fun v H' I' d g dv hd => by
    subst hd
    exact dp_bl dv⟩
end
end Pd

set_option Elab.async false
set_option linter.all false
set_option maxRecDepth 100000
set_option maxHeartbeats 4000000
namespace Pd
open PySem PySem.Spec PyProof.Rows L2
section
variable {K : PySem.W.Frag} {X : Cx}
def dIadd : D → D → D → Prop := dInt (fun _ _ => True) fun i j => .int (i + j)
def dIsub : D → D → D → Prop := dInt (fun _ _ => True) fun i j => .int (i - j)
theorem snd_ipadd : SndOp K (ipI fun i j => i + j) dIadd := by
  rintro H I x y d e z iH hx hy ⟨i, j, rfl, rfl, _, rfl⟩ Q k
  cases hx; cases hy
  exact ⟨i, j, rfl, rfl, k _ H I (Gr.rf iH) (.int _)⟩
theorem snd_ipsub : SndOp K (ipI fun i j => i - j) dIsub := by
  rintro H I x y d e z iH hx hy ⟨i, j, rfl, rfl, _, rfl⟩ Q k
  cases hx; cases hy
  exact ⟨i, j, rfl, rfl, k _ H I (Gr.rf iH) (.int _)⟩
/-- math.gcd by the module's name -/
theorem d_gcd {p pos : Pos} {x : Str} {e : Expr} {es : List Expr} {w : WA} (hm : X.mg x = some (.builtin "math.gcd")) (ha : PA X (e :: es) (lA X.K w)) (hg : Gl X x := by rfl) (hdb : (x == ("__debug__" : Str)) = false := by decide)
    (he : starEach (e :: es) X.env = (false, eval e X.env) :: starEach es X.env := by rfl) (hpl : (backTo pos (starEach es X.env)).any (·.1) = false := by rfl) : PE X (.Call (.Name x p) (e :: es) [] pos) (lE X.K (wCl dGcd w)) :=
  (pe_callBfun cr_gcd hg hm ha hdb he hpl).mo fun σ H Q q => lcl snd_gcd q
/-- a target takes a value -/
def wAsgT (w : WE) (g : WG) : WS := fun R en => w en fun d e1 => g d e1 R.nx
theorem s_asgT {st : Stmt} {is : List Nat} {w : WE} {g : WG} (h : PS X st (tAsg (lE X.K w) (lG X.K is g))) : PS X st (lS X.K (wAsgT w g)) :=
  h.mo fun R σ H ⟨G, en, I, R', o, q, k⟩ => ⟨G, en, I, _, o, q, fun v H1 I1 e1 d o1 x1 dv q1 => ⟨G, e1, I1, d, R'.nx, o1, dv, q1, fun σ' H' I' en' o' x' l' k' q' => k.1 σ' H' I' en' o' q'⟩⟩
end
/-! ### readings of ints -/
theorem i_add {i j : Int} {z : D} : dAdd (.int i) (.int j) z ↔ z = .int (i + j) := Iff.rfl
theorem i_iadd {i j : Int} {z : D} : dIadd (.int i) (.int j) z ↔ z = .int (i + j) := ⟨fun ⟨_, _, rfl, rfl, _, h⟩ => h, fun h => ⟨_, _, rfl, rfl, trivial, h⟩⟩
theorem i_sub {i j : Int} {z : D} : dSub (.int i) (.int j) z ↔ z = .int (i - j) := ⟨fun ⟨_, _, rfl, rfl, _, h⟩ => h, fun h => ⟨_, _, rfl, rfl, trivial, h⟩⟩
theorem i_mul {i j : Int} {z : D} : dMul (.int i) (.int j) z ↔ MulOk i j ∧ z = .int (i * j) := by
  constructor
  · intro h
    rcases h with ⟨_, _, e1, e2, c, h⟩ | ⟨_, _, h, _⟩ | ⟨_, _, h, _⟩
    · cases e1; cases e2; exact ⟨c, h⟩
    · cases h
    · cases h
  · rintro ⟨c, h⟩
    exact Or.inl ⟨_, _, rfl, rfl, c, h⟩
theorem i_mod {i j : Int} {z : D} : dMod (.int i) (.int j) z ↔ 0 < j ∧ z = .int (i % j) := ⟨fun ⟨_, _, rfl, rfl, c, h⟩ => ⟨c, h⟩, fun ⟨c, h⟩ => ⟨_, _, rfl, rfl, c, h⟩⟩
theorem i_fdiv {i j : Int} {z : D} : dFdiv (.int i) (.int j) z ↔ CDivW i j ∧ z = .int (i / j) := ⟨fun ⟨_, _, rfl, rfl, c, h⟩ => ⟨c, h⟩, fun ⟨c, h⟩ => ⟨_, _, rfl, rfl, c, h⟩⟩
theorem i_pow {i j : Int} {z : D} : dPow (.int i) (.int j) z ↔ PowOk i j ∧ z = .int (i ^ j.toNat) := ⟨fun ⟨_, _, rfl, rfl, c, h⟩ => ⟨c, h⟩, fun ⟨c, h⟩ => ⟨_, _, rfl, rfl, c, h⟩⟩
theorem i_neg {i : Int} {z : D} : dNeg (.int i) z ↔ z = .int (-i) := ⟨fun ⟨_, rfl, h⟩ => h, fun h => ⟨_, rfl, h⟩⟩
theorem i_le {i j : Int} {z : D} : dLe (.int i) (.int j) z ↔ z = .bool (decide (i ≤ j)) := ⟨fun ⟨_, _, rfl, rfl, h⟩ => h, fun h => ⟨_, _, rfl, rfl, h⟩⟩
theorem i_ge {i j : Int} {z : D} : dGe (.int i) (.int j) z ↔ z = .bool (decide (j ≤ i)) := ⟨fun ⟨_, _, rfl, rfl, h⟩ => h, fun h => ⟨_, _, rfl, rfl, h⟩⟩
theorem i_gt {i j : Int} {z : D} : dGt (.int i) (.int j) z ↔ z = .bool (decide (j < i)) := ⟨fun ⟨_, _, rfl, rfl, h⟩ => h, fun h => ⟨_, _, rfl, rfl, h⟩⟩
theorem i_lt {i j : Int} {z : D} : dLt (.int i) (.int j) z ↔ z = .bool (decide (i < j)) := by
  constructor
  · intro h
    rcases h with ⟨_, _, e1, e2, h⟩ | ⟨_, _, e, _⟩
    · cases e1; cases e2; exact h
    · cases e
  · exact fun h => Or.inl ⟨_, _, rfl, rfl, h⟩
theorem ints_inj : ∀ {as bs : List Int}, as.map PyData.int = bs.map PyData.int → as = bs
  | [], [], _ => rfl
  | [], _ :: _, h => by cases h
  | _ :: _, [], h => by cases h
  | a :: as, b :: bs, h => by
    simp only [List.map_cons, List.cons.injEq, PyData.int.injEq] at h
    rw [h.1, ints_inj h.2]
theorem i_ltT {ns ms : List Int} {z : D} : dLt (.tuple (ns.map .int)) (.tuple (ms.map .int)) z ↔ z = .bool (HT.lexLt ns ms) := by
  constructor
  · intro h
    rcases h with ⟨_, _, e1, e2, h⟩ | ⟨ns', ms', e1, e2, h⟩
    · cases e1
    · simp only [PyData.tuple.injEq] at e1 e2
      rw [ints_inj e1, ints_inj e2]; exact h
  · exact fun h => Or.inr ⟨_, _, rfl, rfl, h⟩
theorem eqv_int {i j : Int} : PyData.eqv (.int i) (.int j) = decide (i = j) := by simp [PyData.eqv]; rfl
theorem i_eq {i j : Int} {z : D} : dEq (.int i) (.int j) z ↔ z = .bool (decide (i = j)) := by
  unfold dEq; rw [eqv_int]; exact ⟨fun h => h.2.2, fun h => ⟨rfl, rfl, h⟩⟩
theorem i_ne {i j : Int} {z : D} : dNe (.int i) (.int j) z ↔ z = .bool (decide (i ≠ j)) := by
  unfold dNe; rw [eqv_int, decide_not]; exact ⟨fun h => h.2.2, fun h => ⟨rfl, rfl, h⟩⟩
theorem i_intI {i : Int} {z : D} : dIntOf [.int i] z ↔ z = .int i := Iff.rfl
theorem i_intB {b : Bool} {z : D} : dIntOf [.bool b] z ↔ z = .int (if b then 1 else 0) := Iff.rfl
theorem i_abs {i : Int} {z : D} : dAbs [.int i] z ↔ z = .int (if i < 0 then -i else i) := ⟨fun ⟨_, e, h⟩ => by cases e; exact h, fun h => ⟨_, rfl, h⟩⟩
theorem i_max {i j : Int} {z : D} : dMax2 [.int i, .int j] z ↔ z = .int (if j > i then j else i) := ⟨fun ⟨_, _, e, h⟩ => by cases e; exact h, fun h => ⟨_, _, rfl, h⟩⟩
theorem i_min {i j : Int} {z : D} : dMin2 [.int i, .int j] z ↔ z = .int (if j < i then j else i) := ⟨fun ⟨_, _, e, h⟩ => by cases e; exact h, fun h => ⟨_, _, rfl, h⟩⟩
theorem i_lenL {xs : List D} {z : D} : dLen [.list xs] z ↔ z = .int xs.length := Iff.rfl
theorem i_lenT {xs : List D} {z : D} : dLen [.tuple xs] z ↔ z = .int xs.length := Iff.rfl
theorem i_ixL {xs : List D} {i : Int} {z : D} : dIx (.list xs) (.int i) z ↔ atI xs i = some z := Iff.rfl
theorem i_ixT {xs : List D} {i : Int} {z : D} : dIx (.tuple xs) (.int i) z ↔ atI xs i = some z := Iff.rfl
theorem i_tupL {xs : List D} {z : D} : dTupOf [.list xs] z ↔ z = .tuple xs := Iff.rfl
theorem i_tupT {xs : List D} {z : D} : dTupOf [.tuple xs] z ↔ z = .tuple xs := Iff.rfl
theorem i_truB {b c : Bool} : Tru (.bool b) c ↔ c = b := by unfold Tru; constructor <;> intro h <;> first | exact h | exact h.symm
end Pd

set_option Elab.async false
set_option linter.all false
set_option maxRecDepth 100000
set_option maxHeartbeats 4000000
namespace Pd
open PySem PySem.Spec PyProof.Rows L2
theorem small_l {i j : Int} (h : -(2 ^ 64) < i) (h2 : i < 2 ^ 64) : MulOk i j := Or.inl (Or.inl ⟨h, h2⟩)
theorem small_r {i j : Int} (h : -(2 ^ 64) < j) (h2 : j < 2 ^ 64) : MulOk i j := Or.inl (Or.inr ⟨h, h2⟩)
theorem pow_ok {i j : Int} (h : decide (0 ≤ j) && decide ((Builtin.Int.intBits i : Int) * j ≤ 2 ^ 27) = true) : PowOk i j := by
  simp only [Bool.and_eq_true, decide_eq_true_eq] at h
  exact h
theorem at0 {α : Type} {a : α} {l : List α} : atI (a :: l) 0 = some a := by
  unfold atI ixN; simp
theorem at_nat {α : Type} {l : List α} {i : Nat} (h : i < l.length) : atI l (i : Int) = some l[i] := by
  unfold atI ixN
  rw [if_pos (by omega), if_pos (by omega)]
  show l[(i : Int).toNat]? = _
  rw [show (i : Int).toNat = i by omega, List.getElem?_eq_getElem h]
theorem at_int {α : Type} {l : List α} {i : Int} (h0 : 0 ≤ i) (h : i < l.length) : ∃ x, atI l i = some x ∧ x ∈ l := by
  obtain ⟨k, rfl⟩ := Int.eq_ofNat_of_zero_le h0
  exact ⟨_, at_nat (by omega), List.getElem_mem _⟩
theorem at1 {α : Type} {a b : α} {l : List α} : atI (a :: b :: l) 1 = some b := at_nat (i := 1) (by simp)
theorem at2 {α : Type} {a b c : α} {l : List α} : atI (a :: b :: c :: l) 2 = some c := at_nat (i := 2) (by simp)
theorem ix30 : ixN 3 0 = some 0 := rfl
theorem ix31 : ixN 3 1 = some 1 := rfl
theorem ix32 : ixN 3 2 = some 2 := rfl
/-! ### comparisons of sequences of ints -/
theorem lay_ints : ∀ ls : List Int, PyData.canLayAll0 (ls.map .int) = true
  | [] => rfl
  | _ :: ls => lay_ints ls
theorem dep_ints : ∀ ls : List Int, PyData.depthAll (ls.map .int) = 0
  | [] => rfl
  | _ :: ls => by
    show max 0 (PyData.depthAll (ls.map .int)) = 0
    rw [dep_ints ls]; rfl
theorem shaped_tup (ls : List Int) : SeqAt.shaped (.tuple (ls.map .int)) = true := by
  show (PyData.canLayAll0 (ls.map .int) && decide (PyData.depthAll (ls.map .int) + 1 ≤ 64)) = true
  rw [lay_ints, dep_ints]; rfl
theorem shaped_lst (ls : List Int) : SeqAt.shaped (.list (ls.map .int)) = true := by
  show (PyData.canLayAll0 (ls.map .int) && decide (PyData.depthAll (ls.map .int) + 1 ≤ 64)) = true
  rw [lay_ints, dep_ints]; rfl
theorem eqv_ints : ∀ as bs : List Int, PyData.eqvAll (as.map .int) (bs.map .int) = decide (as = bs)
  | [], [] => rfl
  | [], _ :: _ => rfl
  | _ :: _, [] => rfl
  | a :: as, b :: bs => by
    show (PyData.eqv (.int a) (.int b) && PyData.eqvAll (as.map .int) (bs.map .int)) = _
    rw [eqv_int, eqv_ints as bs, ← Bool.decide_and]
    exact decide_eq_decide.mpr (by rw [List.cons.injEq])
theorem i_eqT {as bs : List Int} {z : D} : dEq (.tuple (as.map .int)) (.tuple (bs.map .int)) z ↔ z = .bool (decide (as = bs)) := by
  unfold dEq
  rw [show PyData.eqv (.tuple (as.map .int)) (.tuple (bs.map .int)) = decide (as = bs) from eqv_ints as bs]
  exact ⟨fun h => h.2.2, fun h => ⟨shaped_tup _, shaped_tup _, h⟩⟩
theorem i_neT {as bs : List Int} {z : D} : dNe (.tuple (as.map .int)) (.tuple (bs.map .int)) z ↔ z = .bool (decide (as ≠ bs)) := by
  unfold dNe
  rw [show PyData.eqv (.tuple (as.map .int)) (.tuple (bs.map .int)) = decide (as = bs) from eqv_ints as bs, decide_not]
  exact ⟨fun h => h.2.2, fun h => ⟨shaped_tup _, shaped_tup _, h⟩⟩
theorem i_eqL {as bs : List Int} {z : D} : dEq (.list (as.map .int)) (.list (bs.map .int)) z ↔ z = .bool (decide (as = bs)) := by
  unfold dEq
  rw [show PyData.eqv (.list (as.map .int)) (.list (bs.map .int)) = decide (as = bs) from eqv_ints as bs]
  exact ⟨fun h => h.2.2, fun h => ⟨shaped_lst _, shaped_lst _, h⟩⟩
theorem i_neL {as bs : List Int} {z : D} : dNe (.list (as.map .int)) (.list (bs.map .int)) z ↔ z = .bool (decide (as ≠ bs)) := by
  unfold dNe
  rw [show PyData.eqv (.list (as.map .int)) (.list (bs.map .int)) = decide (as = bs) from eqv_ints as bs, decide_not]
  exact ⟨fun h => h.2.2, fun h => ⟨shaped_lst _, shaped_lst _, h⟩⟩
theorem i_eqB {a b : Bool} {z : D} : dEq (.bool a) (.bool b) z ↔ z = .bool (a == b) := by
  unfold dEq; exact ⟨fun h => h.2.2, fun h => ⟨rfl, rfl, h⟩⟩
theorem i_neB {a b : Bool} {z : D} : dNe (.bool a) (.bool b) z ↔ z = .bool (!(a == b)) := by
  unfold dNe; exact ⟨fun h => h.2.2, fun h => ⟨rfl, rfl, h⟩⟩
/-! ### comprehensions -/
theorem lc_pure {j : Nat} {f : D → D} {w : WE} {en : En} (hj : j ≠ 0) : ∀ {xs acc : List D} {Q : List D → En → Prop}, (∀ x ∈ xs, ∀ Q : D → En → Prop, Q (f x) (en.set j (.imm x)) → w (en.set j (.imm x)) Q) → Q (acc ++ xs.map f) (en.set j .un) → lcW (wgN j) wYes w [j] xs acc (en.set j .un) Q
  | [], acc, Q, _, q => by rw [List.map_nil, List.append_nil] at q; exact q
  | x :: xs, acc, Q, h, q => by
    refine ⟨Or.inl hj, ?_⟩
    show FreeS _ [j] ∧ _
    rw [List.set_set]
    refine ⟨fun v hv => Or.inl (by rw [List.mem_singleton] at hv; rw [hv]; exact hj), ?_⟩
    rw [if_pos rfl]
    refine h x List.mem_cons_self _ ⟨fun v hv => Or.inl (by rw [List.mem_singleton] at hv; rw [hv]; exact hj), ?_⟩
    show lcW _ _ _ _ _ _ ((en.set j (.imm x)).set j .un) _
    rw [List.set_set]
    refine lc_pure hj (fun y hy => h y (List.mem_cons_of_mem _ hy)) ?_
    rw [List.append_assoc]
    exact q
theorem bak_one {j : Nat} {en : En} : bak [j] en (en.set j .un) = en := by
  refine List.ext_getElem? fun i => ?_
  unfold bak
  rw [List.getElem?_map, List.length_set]
  by_cases hi : i < en.length
  · rw [List.getElem?_eq_getElem (by rw [List.length_range]; exact hi), List.getElem_range, List.getElem?_eq_getElem hi]
    show some (if i ∈ [j] then en.getD i .un else (en.set j .un).getD i .un) = _
    by_cases hm : i ∈ [j]
    · rw [if_pos hm, List.getD_eq_getElem?_getD, List.getElem?_eq_getElem hi]; rfl
    · rw [if_neg hm, List.getD_eq_getElem?_getD, List.getElem?_set_ne (fun e => hm (by rw [e]; exact List.mem_singleton.mpr rfl)), List.getElem?_eq_getElem hi]; rfl
  · rw [List.getElem?_eq_none (by rw [List.length_range]; omega), List.getElem?_eq_none (by omega)]; rfl
theorem free_one {j : Nat} {en : En} (hj : j ≠ 0) : FreeS en [j] := fun v hv => Or.inl (by rw [List.mem_singleton] at hv; rw [hv]; exact hj)
/-- a comprehension without a test over one name, of no change -/
theorem lc1 {wi : WA} {j : Nat} {f : D → D} {w : WE} {en e1 : En} {xs : List D} {Q : List D → En → Prop} (hj : j ≠ 0) (hi : ∀ Q : List D → En → Prop, Q xs e1 → wi en Q) (hn : NotOwn e1[j]?) (hl : xs.length ≤ sizeLine)
    (hw : ∀ x ∈ xs, ∀ Q : D → En → Prop, Q (f x) (e1.set j (.imm x)) → w (e1.set j (.imm x)) Q) (q : Q (xs.map f) e1) : wLc wi (wgN j) wYes w [j] en Q := by
  refine hi _ ⟨free_one hj, fun v hv => by rw [List.mem_singleton] at hv; rw [hv]; exact hn, hl, ?_⟩
  show lcW _ _ _ _ _ _ (e1.set j .un) _
  refine lc_pure hj hw ?_
  show Q ([] ++ xs.map f) (bak [j] e1 (e1.set j .un))
  rw [bak_one]; exact q
/-- a comprehension with a test, of no change -/
theorem lc_if {j : Nat} {f : D → D} {c : D → Bool} {t : WT} {w : WE} {en : En} (hj : j ≠ 0) : ∀ {xs acc : List D} {Q : List D → En → Prop}, (∀ x ∈ xs, ∀ Q : Bool → En → Prop, Q (c x) (en.set j (.imm x)) → t (en.set j (.imm x)) Q) →
    (∀ x ∈ xs, c x = true → ∀ Q : D → En → Prop, Q (f x) (en.set j (.imm x)) → w (en.set j (.imm x)) Q) → Q (acc ++ (xs.filter c).map f) (en.set j .un) → lcW (wgN j) t w [j] xs acc (en.set j .un) Q
  | [], acc, Q, _, _, q => by
    have q' : Q (acc ++ []) (en.set j .un) := q
    rw [List.append_nil] at q'; exact q'
  | x :: xs, acc, Q, ht, h, q => by
    refine ⟨Or.inl hj, ?_⟩
    show t ((en.set j .un).set j (.imm x)) _
    rw [List.set_set]
    refine ht x List.mem_cons_self _ ⟨free_one hj, ?_⟩
    cases hc : c x with
    | true =>
      rw [if_pos rfl]
      refine h x List.mem_cons_self hc _ ⟨free_one hj, ?_⟩
      show lcW _ _ _ _ _ _ ((en.set j (.imm x)).set j .un) _
      rw [List.set_set]
      refine lc_if hj (fun y hy => ht y (List.mem_cons_of_mem _ hy)) (fun y hy => h y (List.mem_cons_of_mem _ hy)) ?_
      rw [List.append_assoc]
      rw [List.filter_cons_of_pos hc, List.map_cons] at q
      exact q
    | false =>
      rw [if_neg (by decide)]
      show lcW _ _ _ _ _ _ ((en.set j (.imm x)).set j .un) _
      rw [List.set_set]
      refine lc_if hj (fun y hy => ht y (List.mem_cons_of_mem _ hy)) (fun y hy => h y (List.mem_cons_of_mem _ hy)) ?_
      rw [List.filter_cons_of_neg (by rw [hc]; decide)] at q
      exact q
theorem lc1if {wi : WA} {j : Nat} {f : D → D} {c : D → Bool} {t : WT} {w : WE} {en e1 : En} {xs : List D} {Q : List D → En → Prop} (hj : j ≠ 0) (hi : ∀ Q : List D → En → Prop, Q xs e1 → wi en Q) (hn : NotOwn e1[j]?) (hl : xs.length ≤ sizeLine)
    (ht : ∀ x ∈ xs, ∀ Q : Bool → En → Prop, Q (c x) (e1.set j (.imm x)) → t (e1.set j (.imm x)) Q)
    (hw : ∀ x ∈ xs, c x = true → ∀ Q : D → En → Prop, Q (f x) (e1.set j (.imm x)) → w (e1.set j (.imm x)) Q) (q : Q ((xs.filter c).map f) e1) : wLc wi (wgN j) t w [j] en Q := by
  refine hi _ ⟨free_one hj, fun v hv => by rw [List.mem_singleton] at hv; rw [hv]; exact hn, hl, ?_⟩
  show lcW _ _ _ _ _ _ (e1.set j .un) _
  refine lc_if hj ht hw ?_
  show Q ([] ++ (xs.filter c).map f) (bak [j] e1 (e1.set j .un))
  rw [bak_one]; exact q
theorem log_lt {t : Int} (h0 : 0 < t) (h : t < 2 ^ 64) : t.natAbs.log2 < 9000 := by
  have h3 : t.natAbs.log2 < 64 := (Nat.log2_lt (by omega)).mpr (by omega)
  omega
theorem div_ok {i t : Int} (h0 : 0 < t) (h : t < 2 ^ 64) : CDivW i t := ⟨h0, log_lt h0 h⟩
end Pd

set_option Elab.async false
set_option linter.all false
set_option maxRecDepth 100000
set_option maxHeartbeats 4000000
namespace Pd
open PySem PySem.Spec PyProof.Rows L2
section
variable {K : PySem.W.Frag} {X : Cx} {e o : Expr} {w : WE}
/-! ### repr of a bool -/
def rReprB : List V → Hp → VK → Prop := fun xs H Q => ∃ b, xs = [.bl b] ∧ Q (.str (if b then "True" else "False")) H
theorem call_repr_bl : CallR X (.builtin "repr") rReprB := by
  intro pins s σ H xs us Q I r h
  obtain ⟨b, rfl, q⟩ := h
  cases r with
  | cons r1 r2 =>
    cases r2
    cases r1
    exact PySem.P.repr_of_bool ⟨.str _, H, I.tok _, ⟨_, rfl⟩, q⟩
def dReprB : List D → D → Prop := fun xs z => ∃ b : Bool, xs = [.bool b] ∧ z = .str (if b then "True" else "False")
theorem snd_reprB : SndCl K rReprB dReprB := by
  rintro H I xs ds z iH hx ⟨b, rfl, rfl⟩ Q k
  cases hx with
  | cons h t => cases t; cases h; exact ⟨b, rfl, k _ H I (Gr.rf iH) (.str _)⟩
theorem i_reprB {b : Bool} {z : D} : dReprB [.bool b] z ↔ z = .str (if b then "True" else "False") := ⟨fun ⟨_, e, h⟩ => by cases e; exact h, fun h => ⟨_, rfl, h⟩⟩
theorem i_neRB {a b : Bool} {z : D} : dNe (.str (if a then "True" else "False")) (.str (if b then "True" else "False")) z ↔ z = .bool (!(a == b)) := by
  cases a <;> cases b <;> exact ⟨fun h => h.2.2.trans (by rfl), fun h => ⟨by decide +kernel, by decide +kernel, h.trans (by rfl)⟩⟩
/-! ### xs.pop(i), xs one's own -/
def wPopO (i : Nat) (w : WE) : WE := fun en Q => (∃ ds, en[i]? = some (.own ds)) ∧ w en fun d e1 => ∃ ds j x, e1[i]? = some (.own ds) ∧ d = .int (j : Nat) ∧ j < 2 ^ 62 ∧ ds[j]? = some x ∧ Q x (e1.set i (.own (ds.eraseIdx j)))
theorem d_popO {i : Nat} {p1 p2 : Pos} (pe : PE X (.Call (.Attribute o "pop" p1) [e] [] p2) (tBM X.K "list" rPopAt (tVar i) (tCons (lE X.K w) tNil))) : PE X (.Call (.Attribute o "pop" p1) [e] [] p2) (lE X.K (wPopO i w)) :=
  pe.mo fun σ H Q ⟨G, en, I, Q', ok, ⟨⟨ds0, h0⟩, q⟩, k⟩ => by
    obtain ⟨l, vs0, r1, r2, r3, r4⟩ := ok.own h0
    refine ⟨.ref l, r1, Or.inl ⟨rfl, vs0, SqL.of r3⟩, G, en, I, _, ok, q, fun v H1 I1 e1 d o1 x1 dv ⟨ds, j, x, hd, hj, hz, hx, q1⟩ => ?_⟩
    subst hj
    obtain ⟨l', vs, s1, s2, s3, s4⟩ := o1.own hd
    rw [r1] at s1
    have q5 : l = l' := by injection s1 with s1; injection s1 with s1; injection s1
    subst q5
    obtain ⟨y, hy, dy⟩ := dpa_get s4 hx
    have hlt : j < vs.length := (List.getElem?_eq_some_iff.mp hy).1
    refine ⟨l, vs, j, j, y, rfl, by rw [dp_int dv], s3, by omega, by omega, ?_, hy, ?_⟩
    · unfold seqIndex?
      have h0 : ¬ ((j : Nat) : Int) < 0 := by omega
      simp only [h0, if_false]
      simp [hlt]
    · refine k y _ I1 _ x (o1.turn (H' := upd H1 l (.lst (vs.eraseIdx j))) (vs := vs.eraseIdx j) ⟨r1, ds, hd⟩ (fun a u ha h => by rw [upd_ne ha]; exact h) (Ex.rf I1) (fun a u h => ?_) (fun a h1 h2 => absurd h2 h1) upd_same (dpa_erase j s4)) x1 dy q1
      have : a ≠ l := fun ea => by subst ea; rw [s2] at h; cases h
      rw [upd_ne this]; exact o1.iH a u h
end
end Pd

set_option Elab.async false
set_option linter.all false
set_option maxRecDepth 100000
set_option maxHeartbeats 4000000
namespace Pd
open PySem PySem.Spec PyProof.Rows L2
/-! ### a head's facts, with the module's names of built-in functions -/
abbrev AlB : Type := He.AlD × Bool
def isBf (K : PySem.W.Frag) (b : Str × String) : Bool :=
  He.eqO (PySem.W.nsIn K mainGlobals b.1) (some (some (.builtin b.2)))
def obB (fa : List He.Fa) (fn : List He.DefD) (bs : List (Str × String)) (K : PySem.W.Frag) : AlB := ⟨He.obsD fa fn K, bs.all (isBf K)⟩
def obBG (n : Nat) (fa : List He.Fa) (fn : List He.DefD) (bs : List (Str × String)) (g : Addr → Option Obj) : AlB :=
  obB fa fn bs (He.frG g (He.asD g n))
def SaysB (fa : List He.Fa) (fn : List He.DefD) (bs : List (Str × String)) (K : PySem.W.Frag) : Prop := obB fa fn bs K = ⟨He.valD fn, true⟩
def hkB (n : Nat) (fa : List He.Fa) (fn : List He.DefD) (bs : List (Str × String)) : PySem.W.Hook where
  α := AlB
  val _ := ⟨He.valD fn, true⟩
  obs s := obBG n fa fn bs s.heap.get?
  says _ h := ∃ K, PySem.W.Frag.In K h ∧ SaysB fa fn bs K
  of _ _ e := ⟨_, He.frG_in, e⟩
  keeps _ _ _ := fun ⟨K, i, c⟩ k => ⟨K, PySem.W.Frag.In.keeps i k, c⟩
theorem obB_eq {n : Nat} {fa : List He.Fa} {fn : List He.DefD} {bs : List (Str × String)} {g : Addr → Option Obj} {s : Shared} (h : ∀ a, g a = s.heap.get? a) : obBG n fa fn bs g = (hkB n fa fn bs).obs s := by
  rw [show g = s.heap.get? from funext h]
  rfl
section
variable {fa : List He.Fa} {fn : List He.DefD} {bs : List (Str × String)} {K : PySem.W.Frag} {h : Heap} {mg : Str → Option Value}
theorem SaysB.d (c : SaysB fa fn bs K) : He.SaysD fa fn K := congrArg Prod.fst c
theorem SaysB.bf (c : SaysB fa fn bs K) (X : K.In h) (G : h.Ns mainGlobals mg) (i : Nat) {b : Str × String} (e : bs[i]? = some b := by rfl) : mg b.1 = some (.builtin b.2) := by
  have q : bs.all (isBf K) = true := congrArg Prod.snd c
  exact PySem.W.mg_of X G (He.eqO_ok (List.all_eq_true.mp q b (List.mem_of_getElem? e)))
end
/-! ### // by any divisor but 0 -/
def CDivG (_ j : Int) : Prop := j ≠ 0 ∧ j.natAbs.log2 < 9000
theorem op_fdivG {X : Cx} : OpR X (binaryOp .FloorDiv) (rI CDivG fun i j => .int (i.fdiv j)) := opI fun i j _ _ _ _ _ hc q =>
  floordiv_int hc.1 q (.inl (PyProof.noPylong_of_log2 hc.2))
def dFdivG : D → D → D → Prop := dInt CDivG fun i j => .int (i.fdiv j)
theorem snd_fdivG {K : PySem.W.Frag} : SndOp K (rI CDivG fun i j => .int (i.fdiv j)) dFdivG := snd_int
theorem i_fdivG {i j : Int} {z : D} : dFdivG (.int i) (.int j) z ↔ CDivG i j ∧ z = .int (i.fdiv j) := ⟨fun ⟨_, _, rfl, rfl, c, h⟩ => ⟨c, h⟩, fun ⟨c, h⟩ => ⟨_, _, rfl, rfl, c, h⟩⟩
theorem divG {i t : Int} (h0 : 0 < t) (h : t.natAbs.log2 < 9000) : CDivG i t := ⟨by omega, h⟩
/-! ### a, b, c = a list -/
def wgLs (n : Nat) (r : WGs) : WG := fun d en Q => ∃ ds, d = .list ds ∧ ds.length = n ∧ r ds en Q
theorem g_unl {X : Cx} {es : List Expr} {pos : Pos} {is : List Nat} {k n : Nat} {r : WGs} (hc : X.calm = true) (h : PGs X es (lGs X.K is r)) (pg : PG X (.Tuple es k pos) (gUnl X.K n (lGs X.K is r))) : PG X (.Tuple es k pos) (lG X.K is (wgLs n r)) :=
  pg.mo fun v σ H Q ⟨G, en, I, d, Q', o, dv, ⟨ds, hd, hn, q⟩, kk⟩ => by
    subst hd
    cases dv with
    | lst hs ha => exact ⟨_, _, rfl, SqL.of (o.iH _ _ hs), by rw [dpa_len ha]; exact hn, G, en, I, ds, Q', o, ha, q, kk⟩
end Pd

set_option Elab.async false
set_option linter.all false
set_option maxRecDepth 100000
set_option maxHeartbeats 4000000
namespace Pd
open PySem PySem.Spec PyProof.Rows L2
/-! ### fractions -/
def BB : Nat := 2 ^ 4000
theorem bb_pos : 0 < BB := by unfold BB; exact Nat.pow_pos (by decide)
theorem bb_sq : BB * BB ≤ 2 ^ 9000 := by decide +kernel
theorem bb_le : BB ≤ BB * BB := Nat.le_mul_of_pos_left _ bb_pos
theorem log_bb {n : Nat} (h : n < BB * BB) : n.log2 < 9000 := by
  by_cases h0 : n = 0
  · rw [h0]; decide
  · exact (Nat.log2_lt h0).mpr (Nat.lt_of_lt_of_le h bb_sq)
theorem mul_bb {i j : Int} (h : i.natAbs < BB) (h2 : j.natAbs < BB) : MulOk i j := by
  have h3 := log_bb (Nat.lt_of_lt_of_le h bb_le)
  have h4 := log_bb (Nat.lt_of_lt_of_le h2 bb_le)
  refine Or.inr ?_
  show _ < 1000000
  omega
/-- a fraction, as the program has it -/
def fr (q : Rat) : D := .tuple [.int q.num, .int q.den]
/-- its parts are below b -/
def Sm (b : Nat) (q : Rat) : Prop := q.num.natAbs < b ∧ q.den < b
theorem gcd_pos {t b : Int} (hb : b ≠ 0) : 0 < Int.gcd t b := Int.gcd_pos_of_ne_zero_right t hb
theorem gcd_le {t b : Int} (hb : b ≠ 0) : Int.gcd t b ≤ b.natAbs := Nat.le_of_dvd (by omega) (Nat.gcd_dvd_right _ _)
theorem low_den {t b : Int} (hb : b ≠ 0) : ((Rat.divInt t b).den : Int) = (b.natAbs : Int) / (Int.gcd t b : Int) := by
  rw [Rat.den_divInt, if_neg hb, Int.gcd_comm]; rfl
theorem low_num {t b : Int} (hb : b ≠ 0) : (Rat.divInt t b).num = b.sign * t / (Int.gcd t b : Int) := by
  rw [Rat.num_divInt, Int.gcd_comm]
theorem low_pos {t b : Int} (hb : 0 < b) : .tuple [.int (t / (Int.gcd t b : Int)), .int (b / (Int.gcd t b : Int))] = fr (Rat.divInt t b) := by
  unfold fr
  rw [low_den (by omega), low_num (by omega), Int.sign_eq_one_of_pos hb, Int.one_mul, Int.natAbs_of_nonneg (by omega)]
theorem low_neg {t b : Int} (hb : b < 0) : .tuple [.int ((-t) / (Int.gcd t b : Int)), .int ((-b) / (Int.gcd t b : Int))] = fr (Rat.divInt t b) := by
  unfold fr
  rw [low_den (by omega), low_num (by omega), Int.sign_eq_neg_one_of_neg hb, Int.neg_mul, Int.one_mul, Int.ofNat_natAbs_of_nonpos (by omega)]
theorem fdiv_pos {a b : Int} (h : 0 < b) : a.fdiv b = a / b := Int.fdiv_eq_ediv_of_nonneg a (by omega)
theorem fdiv_neg' {a b : Int} (h : 0 < b) (hd : b ∣ a) : a.fdiv (-b) = (-a) / b := by
  rw [Int.fdiv_neg (by omega), if_pos hd, fdiv_pos h, Int.neg_ediv_of_dvd hd]
theorem gcd_dvd_l {t b : Int} : (Int.gcd t b : Int) ∣ t := Int.gcd_dvd_left t b
theorem gcd_dvd_r {t b : Int} : (Int.gcd t b : Int) ∣ b := Int.gcd_dvd_right t b
theorem fr_add (p q : Rat) : Rat.divInt (p.num * q.den + q.num * p.den) (p.den * q.den) = p + q := by
  have hp : (p.den : Int) ≠ 0 := by have := p.den_pos; omega
  have hq : (q.den : Int) ≠ 0 := by have := q.den_pos; omega
  conv => rhs; rw [← Rat.num_divInt_den p, ← Rat.num_divInt_den q]
  rw [Rat.divInt_add_divInt _ _ hp hq]
theorem fr_mul (p q : Rat) : Rat.divInt (p.num * q.num) (p.den * q.den) = p * q := by
  conv => rhs; rw [← Rat.num_divInt_den p, ← Rat.num_divInt_den q]
  rw [Rat.divInt_mul_divInt]
theorem num_le {t b : Int} : (Rat.divInt t b).num.natAbs ≤ t.natAbs := by
  by_cases hb : b = 0
  · subst hb; rw [Rat.divInt_zero]; exact Nat.zero_le _
  · rw [low_num hb]
    have h1 : (b.sign * t / (Int.gcd t b : Int)).natAbs ≤ (b.sign * t).natAbs := by
      rw [Int.natAbs_ediv_of_dvd (Int.dvd_mul_of_dvd_right gcd_dvd_l)]
      exact Nat.div_le_self _ _
    rw [Int.natAbs_mul] at h1
    have h2 : b.sign.natAbs = 1 := Int.natAbs_sign_of_ne_zero hb
    rw [h2, Nat.one_mul] at h1
    exact h1
theorem den_le {t b : Int} (hb : b ≠ 0) : (Rat.divInt t b).den ≤ b.natAbs := by
  rw [Rat.den_divInt, if_neg hb]
  exact Nat.div_le_self _ _
theorem add_num_le (p q : Rat) : (p + q).num.natAbs ≤ p.num.natAbs * q.den + q.num.natAbs * p.den := by
  rw [← fr_add]
  refine Nat.le_trans num_le (Nat.le_trans (Int.natAbs_add_le _ _) ?_)
  rw [Int.natAbs_mul, Int.natAbs_mul]
  exact Nat.le_refl _
theorem add_den_le (p q : Rat) : (p + q).den ≤ p.den * q.den := by
  rw [← fr_add]
  have hp := p.den_pos
  have hq := q.den_pos
  have h := Nat.mul_pos hp hq
  refine Nat.le_trans (den_le (by rw [← Int.natCast_mul]; omega)) ?_
  rw [Int.natAbs_mul]
  exact Nat.le_refl _
theorem mul_num_le (p q : Rat) : (p * q).num.natAbs ≤ p.num.natAbs * q.num.natAbs := by
  rw [← fr_mul]
  refine Nat.le_trans num_le ?_
  rw [Int.natAbs_mul]
  exact Nat.le_refl _
theorem mul_den_le (p q : Rat) : (p * q).den ≤ p.den * q.den := by
  rw [← fr_mul]
  have hp := p.den_pos
  have hq := q.den_pos
  have h := Nat.mul_pos hp hq
  refine Nat.le_trans (den_le (by rw [← Int.natCast_mul]; omega)) ?_
  rw [Int.natAbs_mul]
  exact Nat.le_refl _
/-- parts of at most n -/
def Le (n : Nat) (q : Rat) : Prop := q.num.natAbs ≤ n ∧ q.den ≤ n
theorem le_add {p q : Rat} {a b : Nat} (hp : Le a p) (hq : Le b q) : Le (2 * (a * b)) (p + q) := by
  refine ⟨Nat.le_trans (add_num_le p q) ?_, Nat.le_trans (add_den_le p q) ?_⟩
  · have h1 := Nat.mul_le_mul hp.1 hq.2
    have h2 := Nat.mul_le_mul hq.1 hp.2
    rw [Nat.mul_comm b a] at h2
    omega
  · have h1 := Nat.mul_le_mul hp.2 hq.2
    omega
theorem le_mul {p q : Rat} {a b : Nat} (hp : Le a p) (hq : Le b q) : Le (a * b) (p * q) :=
  ⟨Nat.le_trans (mul_num_le p q) (Nat.mul_le_mul hp.1 hq.1), Nat.le_trans (mul_den_le p q) (Nat.mul_le_mul hp.2 hq.2)⟩
theorem le_neg {q : Rat} {b : Nat} (hq : Le b q) : Le b (-q) := ⟨by rw [Rat.neg_num, Int.natAbs_neg]; exact hq.1, by rw [Rat.neg_den]; exact hq.2⟩
theorem Le.sm {q : Rat} {n b : Nat} (h : Le n q) (hn : n < b) : Sm b q := ⟨Nat.lt_of_le_of_lt h.1 hn, Nat.lt_of_le_of_lt h.2 hn⟩
theorem Sm.up {q : Rat} {n b : Nat} (h : Sm n q) (hn : n ≤ b) : Sm b q := ⟨Nat.lt_of_lt_of_le h.1 hn, Nat.lt_of_lt_of_le h.2 hn⟩
theorem fr_inj {p q : Rat} (h : p.num = q.num) (h2 : (p.den : Int) = q.den) : p = q := Rat.ext h (by omega)
theorem fr_tup (q : Rat) : fr q = .tuple ([q.num, (q.den : Int)].map .int) := rfl
theorem i_neF {p q : Rat} {z : D} : dNe (fr p) (fr q) z ↔ z = .bool (decide (p ≠ q)) := by
  rw [fr_tup, fr_tup, i_neT]
  have e : ([p.num, (p.den : Int)] ≠ [q.num, (q.den : Int)]) = (p ≠ q) := propext ⟨fun h e => h (by rw [e]), fun h e => by
    simp only [List.cons.injEq, and_true] at e
    exact h (fr_inj e.1 e.2)⟩
  simp only [e]
theorem i_eqF {p q : Rat} {z : D} : dEq (fr p) (fr q) z ↔ z = .bool (decide (p = q)) := by
  rw [fr_tup, fr_tup, i_eqT]
  have e : ([p.num, (p.den : Int)] = [q.num, (q.den : Int)]) = (p = q) := propext ⟨fun e => by
    simp only [List.cons.injEq, and_true] at e
    exact fr_inj e.1 e.2, fun e => by rw [e]⟩
  simp only [e]
/-! ### any data beside itself -/
mutual
def plainD : D → Bool
  | .none | .bool _ | .int _ => true
  | .str _ => true
  | .list xs => plainA xs
  | .tuple xs => plainA xs
  | .dict _ => false
def plainA : List D → Bool
  | [] => true
  | x :: xs => plainD x && plainA xs
end
mutual
theorem eqv_rfl : ∀ d : D, plainD d = true → PyData.eqv d d = true
  | .none, _ => rfl
  | .bool b, _ => by show (b == b) = true; exact beq_self_eq_true b
  | .int i, _ => by show (i == i) = true; exact beq_self_eq_true i
  | .str x, _ => by show (x == x) = true; exact beq_self_eq_true x
  | .list xs, h => eqvA_rfl xs h
  | .tuple xs, h => eqvA_rfl xs h
  | .dict _, h => by cases h
theorem eqvA_rfl : ∀ ds : List D, plainA ds = true → PyData.eqvAll ds ds = true
  | [], _ => rfl
  | d :: ds, h => by
    have h' : (plainD d && plainA ds) = true := h
    rw [Bool.and_eq_true] at h'
    show (PyData.eqv d d && PyData.eqvAll ds ds) = true
    rw [eqv_rfl d h'.1, eqvA_rfl ds h'.2]; rfl
end
theorem ne_self {d : D} (h : plainD d = true) (s : SeqAt.shaped d = true) {z : D} : dNe d d z ↔ z = .bool false := by
  unfold dNe
  rw [eqv_rfl d h]
  exact ⟨fun q => q.2.2, fun q => ⟨s, s, q⟩⟩
theorem eq_self' {d : D} (h : plainD d = true) (s : SeqAt.shaped d = true) {z : D} : dEq d d z ↔ z = .bool true := by
  unfold dEq
  rw [eqv_rfl d h]
  exact ⟨fun q => q.2.2, fun q => ⟨s, s, q⟩⟩
/-! ### small steps -/
theorem wSeq_eq {t u : WS} {R : Ed} {en : En} : wSeq t u R en = t { R with nx := u R } en := rfl
theorem wLc_eq {wi : WA} {g : WG} {t : WT} {w : WE} {vs : List Nat} {en : En} {Q : List D → En → Prop} : wLc wi g t w vs en Q = wi en fun xs e1 => FreeS e1 vs ∧ (∀ v ∈ vs, NotOwn e1[v]?) ∧ xs.length ≤ sizeLine ∧ lcW g t w vs xs [] (wip vs e1) fun ys e2 => Q ys (bak vs e1 e2) := rfl
theorem no1 {en : En} {a : Nat} (h : NotOwn en[a]?) : ∀ v ∈ [a], NotOwn en[v]? := fun v hv => by
  rw [List.mem_singleton] at hv; rw [hv]; exact h
theorem no2 {en : En} {a b : Nat} (h : NotOwn en[a]?) (h2 : NotOwn en[b]?) : ∀ v ∈ [a, b], NotOwn en[v]? := fun v hv => by
  rcases List.mem_cons.mp hv with rfl | hv
  · exact h
  · exact no1 h2 v hv
theorem bak_self {vs : List Nat} {en : En} : bak vs en en = en := by
  refine List.ext_getElem? fun i => ?_
  unfold bak
  rw [List.getElem?_map]
  by_cases hi : i < en.length
  · rw [List.getElem?_eq_getElem (by rw [List.length_range]; exact hi), List.getElem_range, List.getElem?_eq_getElem hi]
    show some (if i ∈ vs then en.getD i .un else en.getD i .un) = _
    rw [ite_self, List.getD_eq_getElem?_getD, List.getElem?_eq_getElem hi]; rfl
  · rw [List.getElem?_eq_none (by rw [List.length_range]; omega), List.getElem?_eq_none (by omega)]; rfl
theorem free_of {en : En} {vs : List Nat} (h : ∀ v ∈ vs, v ≠ 0) : FreeS en vs := fun v hv => Or.inl (h v hv)
theorem bak_of {vs : List Nat} {en e : En} (h : ∀ v ∈ vs, en.getD v .un = e.getD v .un) : bak vs en e = e := by
  refine List.ext_getElem? fun i => ?_
  unfold bak
  rw [List.getElem?_map]
  by_cases hi : i < e.length
  · rw [List.getElem?_eq_getElem (by rw [List.length_range]; exact hi), List.getElem_range, List.getElem?_eq_getElem hi]
    show some (if i ∈ vs then en.getD i .un else e.getD i .un) = _
    have e1 : (if i ∈ vs then en.getD i .un else e.getD i .un) = e.getD i .un := by
      by_cases hm : i ∈ vs
      · rw [if_pos hm, h i hm]
      · rw [if_neg hm]
    rw [e1, List.getD_eq_getElem?_getD, List.getElem?_eq_getElem hi]; rfl
  · rw [List.getElem?_eq_none (by rw [List.length_range]; omega), List.getElem?_eq_none (by omega)]; rfl
theorem bak1 {j : Nat} {en e : En} (h : en.getD j .un = e.getD j .un) : bak [j] en e = e := bak_of fun v hv => by rw [List.mem_singleton] at hv; subst hv; exact h
/-! ### small sizes -/
theorem sz0 : (0 ≤ sizeLine) = True := eq_true (by decide)
theorem sz1 : (1 ≤ sizeLine) = True := eq_true (by decide)
theorem sz2 : (2 ≤ sizeLine) = True := eq_true (by decide)
theorem sz3 : (3 ≤ sizeLine) = True := eq_true (by decide)
theorem sz4 : (4 ≤ sizeLine) = True := eq_true (by decide)
theorem sz5 : (5 ≤ sizeLine) = True := eq_true (by decide)
theorem sz6 : (6 ≤ sizeLine) = True := eq_true (by decide)
theorem sz7 : (7 ≤ sizeLine) = True := eq_true (by decide)
theorem sz8 : (8 ≤ sizeLine) = True := eq_true (by decide)
theorem sz9 : (9 ≤ sizeLine) = True := eq_true (by decide)
theorem sz10 : (10 ≤ sizeLine) = True := eq_true (by decide)
theorem sz11 : (11 ≤ sizeLine) = True := eq_true (by decide)
theorem sz12 : (12 ≤ sizeLine) = True := eq_true (by decide)
theorem sz13 : (13 ≤ sizeLine) = True := eq_true (by decide)
theorem sz14 : (14 ≤ sizeLine) = True := eq_true (by decide)
theorem sz15 : (15 ≤ sizeLine) = True := eq_true (by decide)
theorem sz16 : (16 ≤ sizeLine) = True := eq_true (by decide)
theorem sz17 : (17 ≤ sizeLine) = True := eq_true (by decide)
theorem sz18 : (18 ≤ sizeLine) = True := eq_true (by decide)
theorem sz19 : (19 ≤ sizeLine) = True := eq_true (by decide)
theorem sz20 : (20 ≤ sizeLine) = True := eq_true (by decide)
theorem sz21 : (21 ≤ sizeLine) = True := eq_true (by decide)
theorem sz22 : (22 ≤ sizeLine) = True := eq_true (by decide)
theorem sz23 : (23 ≤ sizeLine) = True := eq_true (by decide)
theorem sz24 : (24 ≤ sizeLine) = True := eq_true (by decide)
theorem sz25 : (25 ≤ sizeLine) = True := eq_true (by decide)
theorem sz26 : (26 ≤ sizeLine) = True := eq_true (by decide)
theorem sz27 : (27 ≤ sizeLine) = True := eq_true (by decide)
theorem sz28 : (28 ≤ sizeLine) = True := eq_true (by decide)
theorem sz29 : (29 ≤ sizeLine) = True := eq_true (by decide)
theorem sz30 : (30 ≤ sizeLine) = True := eq_true (by decide)
theorem sz31 : (31 ≤ sizeLine) = True := eq_true (by decide)
theorem sz32 : (32 ≤ sizeLine) = True := eq_true (by decide)
theorem sz33 : (33 ≤ sizeLine) = True := eq_true (by decide)
theorem sz34 : (34 ≤ sizeLine) = True := eq_true (by decide)
theorem sz35 : (35 ≤ sizeLine) = True := eq_true (by decide)
theorem sz36 : (36 ≤ sizeLine) = True := eq_true (by decide)
theorem sz37 : (37 ≤ sizeLine) = True := eq_true (by decide)
theorem sz38 : (38 ≤ sizeLine) = True := eq_true (by decide)
theorem sz39 : (39 ≤ sizeLine) = True := eq_true (by decide)
theorem sz40 : (40 ≤ sizeLine) = True := eq_true (by decide)
theorem i_addL {xs ys : List D} {z : D} : dAdd (.list xs) (.list ys) z ↔ xs.length + ys.length ≤ sizeLine ∧ z = .list (xs ++ ys) := Iff.rfl
theorem i_addT {xs ys : List D} {z : D} : dAdd (.tuple xs) (.tuple ys) z ↔ xs.length + ys.length ≤ sizeLine ∧ z = .tuple (xs ++ ys) := Iff.rfl
theorem join {c : Prop} [Decidable c] {A B : Prop} (f : c → B → A) (b : B) : if c then A else B := by
  by_cases h : c
  · rw [if_pos h]; exact f h b
  · rw [if_neg h]; exact b
end Pd

set_option Elab.async false
set_option linter.all false
set_option maxRecDepth 100000
set_option maxHeartbeats 4000000
namespace Pd
open PySem PySem.Spec PyProof.Rows L2
theorem lc_gen {α : Type} {g : WG} {t : WT} {w : WE} {vs : List Nat} {W : En} {X f : α → D} {E : α → En} {c : α → Bool} (hv : ∀ v ∈ vs, v ≠ 0) (hE : ∀ x, wip vs (E x) = W) : ∀ {xs : List α} {acc : List D} {Q : List D → En → Prop},
    (∀ x ∈ xs, ∀ Q : En → Prop, Q (E x) → g (X x) W Q) → (∀ x ∈ xs, ∀ Q : Bool → En → Prop, Q (c x) (E x) → t (E x) Q) → (∀ x ∈ xs, c x = true → ∀ Q : D → En → Prop, Q (f x) (E x) → w (E x) Q) →
    Q (acc ++ (xs.filter c).map f) W → lcW g t w vs (xs.map X) acc W Q
  | [], acc, Q, _, _, _, q => by
    have q' : Q (acc ++ []) W := q
    rw [List.append_nil] at q'; exact q'
  | x :: xs, acc, Q, hg, ht, hw, q => by
    rw [List.map_cons]
    show g (X x) W _
    refine hg x List.mem_cons_self _ (ht x List.mem_cons_self _ ⟨free_of hv, ?_⟩)
    have next : ∀ acc, Q (acc ++ (xs.filter c).map f) W → lcW g t w vs (xs.map X) acc (wip vs (E x)) Q := fun acc q => by
      rw [hE]
      exact lc_gen hv hE (fun y hy => hg y (List.mem_cons_of_mem _ hy)) (fun y hy => ht y (List.mem_cons_of_mem _ hy)) (fun y hy => hw y (List.mem_cons_of_mem _ hy)) q
    cases hc : c x with
    | true =>
      rw [if_pos rfl]
      refine hw x List.mem_cons_self hc _ ⟨free_of hv, next _ ?_⟩
      rw [List.append_assoc]
      rw [List.filter_cons_of_pos hc, List.map_cons] at q
      exact q
    | false =>
      rw [if_neg (by decide)]
      refine next _ ?_
      rw [List.filter_cons_of_neg (by rw [hc]; decide)] at q
      exact q
theorem wip_len : ∀ (vs : List Nat) (e : En), (wip vs e).length = e.length
  | [], _ => rfl
  | v :: vs, e => by
    show ((wip vs e).set v .un).length = _
    rw [List.length_set, wip_len vs e]
theorem wip_out {i : Nat} : ∀ {vs : List Nat} {e : En}, i ∉ vs → (wip vs e)[i]? = e[i]?
  | [], _, _ => rfl
  | v :: vs, e, hi => by
    show ((wip vs e).set v .un)[i]? = _
    rw [List.getElem?_set_ne (fun h => hi (by rw [h]; exact List.mem_cons_self))]
    exact wip_out fun h => hi (List.mem_cons_of_mem _ h)
theorem bak_wip {vs : List Nat} {e : En} : bak vs e (wip vs e) = e := by
  refine List.ext_getElem? fun i => ?_
  unfold bak
  rw [List.getElem?_map, wip_len]
  by_cases hi : i < e.length
  · rw [List.getElem?_eq_getElem (by rw [List.length_range]; exact hi), List.getElem_range, List.getElem?_eq_getElem hi]
    show some (if i ∈ vs then e.getD i .un else (wip vs e).getD i .un) = _
    by_cases hm : i ∈ vs
    · rw [if_pos hm, List.getD_eq_getElem?_getD, List.getElem?_eq_getElem hi]; rfl
    · rw [if_neg hm, List.getD_eq_getElem?_getD, wip_out hm, List.getElem?_eq_getElem hi]; rfl
  · rw [List.getElem?_eq_none (by rw [List.length_range]; omega), List.getElem?_eq_none (by omega)]; rfl
/-- a comprehension that changes nothing: E x the slots at the turn x -/
theorem lcG {α : Type} {wi : WA} {g : WG} {t : WT} {w : WE} {vs : List Nat} {en e1 : En} {X f : α → D} (E : α → En) (c : α → Bool) {xs : List α} {Q : List D → En → Prop} (hv : ∀ v ∈ vs, v ≠ 0) (hi : ∀ Q : List D → En → Prop, Q (xs.map X) e1 → wi en Q)
    (hn : ∀ v ∈ vs, NotOwn e1[v]?) (hl : xs.length ≤ sizeLine) (hE : ∀ x, wip vs (E x) = wip vs e1) (hg : ∀ x ∈ xs, ∀ Q : En → Prop, Q (E x) → g (X x) (wip vs e1) Q) (ht : ∀ x ∈ xs, ∀ Q : Bool → En → Prop, Q (c x) (E x) → t (E x) Q)
    (hw : ∀ x ∈ xs, c x = true → ∀ Q : D → En → Prop, Q (f x) (E x) → w (E x) Q) (q : Q ((xs.filter c).map f) e1) : wLc wi g t w vs en Q := by
  refine hi _ ⟨free_of hv, hn, by rw [List.length_map]; exact hl, ?_⟩
  refine lc_gen hv hE hg ht hw ?_
  show Q ([] ++ (xs.filter c).map f) (bak vs e1 (wip vs e1))
  rw [bak_wip]
  exact q
theorem filter_all {α : Type} : ∀ xs : List α, xs.filter (fun _ => true) = xs
  | [] => rfl
  | x :: xs => by rw [List.filter_cons_of_pos rfl, filter_all xs]
/-- .. without a test -/
theorem lcY {α : Type} {wi : WA} {g : WG} {w : WE} {vs : List Nat} {en e1 : En} {X f : α → D} (E : α → En) {xs : List α} {Q : List D → En → Prop} (hv : ∀ v ∈ vs, v ≠ 0) (hi : ∀ Q : List D → En → Prop, Q (xs.map X) e1 → wi en Q)
    (hn : ∀ v ∈ vs, NotOwn e1[v]?) (hl : xs.length ≤ sizeLine) (hE : ∀ x, wip vs (E x) = wip vs e1) (hg : ∀ x ∈ xs, ∀ Q : En → Prop, Q (E x) → g (X x) (wip vs e1) Q)
    (hw : ∀ x ∈ xs, ∀ Q : D → En → Prop, Q (f x) (E x) → w (E x) Q) (q : Q (xs.map f) e1) : wLc wi g wYes w vs en Q :=
  lcG E (fun _ => true) hv hi hn hl hE hg (fun _ _ _ q => q) (fun x hx _ => hw x hx) (by rw [filter_all]; exact q)
theorem no3 {en : En} {a b c : Nat} (h : NotOwn en[a]?) (h2 : NotOwn en[b]?) (h3 : NotOwn en[c]?) : ∀ v ∈ [a, b, c], NotOwn en[v]? := fun v hv => by
  rcases List.mem_cons.mp hv with rfl | hv
  · exact h
  · exact no2 h2 h3 v hv
end Pd

set_option Elab.async false
set_option linter.all false
set_option maxRecDepth 100000
set_option maxHeartbeats 4000000
namespace K13
open PySem PySem.Spec PyProof.Rows L2 Pd
abbrev RR : PySem.W.OpenLaw := PySem.Challenge.rw_fetchunseen_k13_whole_means_and_what_is
abbrev PP : Program := RR.prog
def top (i : Nat) : Stmt := PP.main.body.getD i (.Pass ⟨0, 0, 0, 0⟩)
/-! ### what each def does -/
abbrev TL : Int := 1000000000000000000000000000000000000000000000000000000000000
def isW : D → Bool
  | .int _ => true
  | _ => false
def isI : D → Bool
  | .int i => decide (-TL < i) && decide (i < TL)
  | _ => false
def TN : Nat := 10 ^ 60
def wf_is_whole : WF := fun ds Q => ∃ d, ds = [d] ∧ Q (.bool (isW d))
def wf_is_integer : WF := fun ds Q => ∃ d, ds = [d] ∧ Q (.bool (isI d))
def wf_is_between : WF := fun ds Q => ∃ i a b : Int, ds = [.int i, .int a, .int b] ∧ Q (.bool (decide (a ≤ i) && decide (i ≤ b)))
def wf_is_fraction : WF := fun ds Q => ∃ q : Rat, ds = [fr q] ∧ Sm TN q ∧ Q (.bool true)
def wf_are_fractions : WF := fun ds Q => ∃ (qs : List Rat) (most : Int), ds = [.tuple (qs.map fr), .int most] ∧ qs.length ≤ 100 ∧ (qs.length : Int) ≤ most ∧ (∀ q ∈ qs, Sm TN q) ∧ Q (.bool true)
def wf_check_fraction : WF := fun ds Q => ∃ q : Rat, ds = [fr q] ∧ Sm TN q ∧ Q .none
def wf_check_two : WF := fun ds Q => ∃ p q : Rat, ds = [fr p, fr q] ∧ Sm TN p ∧ Sm TN q ∧ Q .none
def wf_lowest : WF := fun ds Q => ∃ t b : Int, ds = [.int t, .int b] ∧ b ≠ 0 ∧ b.natAbs < BB * BB ∧ Q (fr (Rat.divInt t b))
def wf_sum_of_two : WF := fun ds Q => ∃ p q : Rat, ds = [fr p, fr q] ∧ Sm BB p ∧ Sm BB q ∧ Q (fr (p + q))
def wf_product_of_two : WF := fun ds Q => ∃ p q : Rat, ds = [fr p, fr q] ∧ Sm BB p ∧ Sm BB q ∧ Q (fr (p * q))
/-- the sum from the left -/
def rsum (a : Rat) (qs : List Rat) : Rat := qs.foldl (· + ·) a
/-- each sum on the way is small enough -/
def Way (a : Rat) : List Rat → Prop
  | [] => Sm BB a
  | q :: qs => Sm BB a ∧ Sm BB q ∧ Way (a + q) qs
def wf_total : WF := fun ds Q => ∃ (qs : List Rat), (ds = [.tuple (qs.map fr)] ∨ ds = [.list (qs.map fr)]) ∧ Way 0 qs ∧ Q (fr (rsum 0 qs))
def wf_plus : WF := fun ds Q => ∃ p q : Rat, ds = [fr p, fr q] ∧ Sm TN p ∧ Sm TN q ∧ Q (fr (p + q))
def wf_times : WF := fun ds Q => ∃ p q : Rat, ds = [fr p, fr q] ∧ Sm TN p ∧ Sm TN q ∧ Q (fr (p * q))
def wf_added : WF := fun ds Q => ∃ (qs : List Rat), ds = [.tuple (qs.map fr)] ∧ qs.length ≤ 100 ∧ (∀ q ∈ qs, Sm TN q) ∧ Way 0 qs ∧ Q (fr (rsum 0 qs))
/-- times and a fraction -/
abbrev Pr := Int × Rat
def pr (x : Pr) : D := .tuple [.int x.1, fr x.2]
def Cnt (x : Pr) : Prop := 1 ≤ x.1 ∧ x.1 ≤ 1000000000 ∧ Sm TN x.2
def wf_is_counted : WF := fun ds Q => ∃ x : Pr, ds = [pr x] ∧ Cnt x ∧ Q (.bool true)
def wf_are_counted : WF := fun ds Q => ∃ xs : List Pr, ds = [.tuple (xs.map pr)] ∧ 1 ≤ xs.length ∧ xs.length ≤ 100 ∧ (∀ x ∈ xs, Cnt x) ∧ Q (.bool true)
def ws (xs : List Pr) : List Rat := xs.map fun x => (x.1 : Rat) * x.2
def cs (xs : List Pr) : Int := (xs.map (·.1)).sum
def mn (xs : List Pr) : Rat := rsum 0 (ws xs) * Rat.divInt 1 (cs xs)
def wf_mean : WF := fun ds Q => ∃ xs : List Pr, ds = [.tuple (xs.map pr)] ∧ 1 ≤ xs.length ∧ xs.length ≤ 100 ∧ (∀ x ∈ xs, Cnt x) ∧ Way 0 (ws xs) ∧ Q (fr (mn xs))
def wf__law_jug : WSc := fun ns ds Q => ∃ s : Nat, ds = [.int s] ∧ ∀ g m c : Int, Q (.list [.int g, .int m, .int c])
def wf__law_pour : WJ := fun dj ds Q => ∃ g m c t : Int, dj = [.int g, .int m, .int c] ∧ ds = [.int t] ∧ 0 < t ∧ t.natAbs.log2 < 9000 ∧ ∀ r g m c : Int, 0 ≤ r → r < t → Q (.int r) [.int g, .int m, .int c]
def wf__law_sip : WJ := fun dj ds Q => ∃ (g m c : Int) (xs : List D), dj = [.int g, .int m, .int c] ∧ ds = [.list xs] ∧ xs ≠ [] ∧ xs.length ≤ 100 ∧ ∀ x ∈ xs, ∀ g m c : Int, Q x [.int g, .int m, .int c]
def ShD (d : D) : Prop := PyData.canLay0 d = true ∧ PyData.depth d ≤ 5
def wf__law_stirred : WJ := fun dj ds Q => ∃ (g m c : Int) (xs : List D), dj = [.int g, .int m, .int c] ∧ ds = [.list xs] ∧ xs.length ≤ 100 ∧ (∀ x ∈ xs, ShD x) ∧ ∀ (ys : List D) (g m c : Int), List.Perm xs ys → Q (.list ys) [.int g, .int m, .int c]
def wf__law_fu_shared : WF := fun ds Q => ∃ a b : Int, ds = [.int a, .int b] ∧ Q (.int (Int.gcd a b))
def wf__law_fu_part : WF := fun ds Q => ∃ t b : Int, ds = [.int t, .int b] ∧ b ≠ 0 ∧ b.natAbs < BB * BB ∧ Q (fr (Rat.divInt t b))
def wf__law_fu_plus : WF := fun ds Q => ∃ p q : Rat, ds = [fr p, fr q] ∧ Sm BB p ∧ Sm BB q ∧ Q (fr (p + q))
def wf__law_fu_times : WF := fun ds Q => ∃ p q : Rat, ds = [fr p, fr q] ∧ Sm BB p ∧ Sm BB q ∧ Q (fr (p * q))
def wf__law_fu_below : WF := fun ds Q => ∃ p q : Rat, ds = [fr p, fr q] ∧ Sm BB p ∧ Sm BB q ∧ Q (.bool (decide (p < q)))
def wf__law_ta_fraction : WJ := fun dj ds Q => ∃ g m c n : Int, dj = [.int g, .int m, .int c] ∧ ds = [.int n] ∧ 0 < n ∧ n ≤ 10 ^ 40 ∧ ∀ (q : Rat) (g m c : Int), q.num.natAbs ≤ n → q.den ≤ n → Q (fr q) [.int g, .int m, .int c]
def wf__law_sum : WF := fun ds Q => ∃ (qs : List Rat), (ds = [.tuple (qs.map fr)] ∨ ds = [.list (qs.map fr)]) ∧ Way 0 qs ∧ Q (fr (rsum 0 qs))
def wf__law_mean : WF := fun ds Q => ∃ xs : List Pr, ds = [.list (xs.map pr)] ∧ xs.length ≤ 100 ∧ (∀ x ∈ xs, Cnt x) ∧ 0 < cs xs ∧ (cs xs).natAbs < BB ∧ Way 0 (ws xs) ∧ Sm BB (rsum 0 (ws xs)) ∧ Q (fr (mn xs))
def wf__law_between : WF := fun ds Q => ∃ (xs : List Pr) (m : Rat), ds = [.list (xs.map pr), fr m] ∧ 1 ≤ xs.length ∧ xs.length ≤ 100 ∧ (∀ x ∈ xs, Cnt x) ∧ m = mn xs ∧ Sm TN m ∧ Q (.bool true)
def wf__law_right : WJ := fun dj ds Q => ∃ g m c : Int, dj = [.int g, .int m, .int c] ∧ ds = [] ∧ ∀ g m c : Int, Q (.bool true) [.int g, .int m, .int c]
abbrev wf_law : WSc := wfLaw 63
end K13

set_option Elab.async false
set_option linter.all false
set_option maxRecDepth 100000
set_option maxHeartbeats 4000000
namespace K13
open PySem PySem.Spec PyProof.Rows L2 Pd
/-- what the module's names are -/
structure Tb (mg : Str → Option Value) : Prop where
  b_abs : mg "abs" = none
  b_all : mg "all" = none
  b_bool : mg "bool" = none
  b_int : mg "int" = none
  b_isinstance : mg "isinstance" = none
  b_len : mg "len" = none
  b_list : mg "list" = none
  b_max : mg "max" = none
  b_min : mg "min" = none
  b_range : mg "range" = none
  b_sum : mg "sum" = none
  b_tuple : mg "tuple" = none
  b_zip : mg "zip" = none
  c_MOST_ADDED : ∃ t, mg "MOST_ADDED" = some (.int 100 t)
  c_MOST_TIMES : ∃ t, mg "MOST_TIMES" = some (.int 1000000000 t)
  c_TOO_LONG : ∃ t, mg "TOO_LONG" = some (.int 1000000000000000000000000000000000000000000000000000000000000 t)
  g_gcd : mg "gcd" = some (.builtin "math.gcd")
section
variable {P : Program} {w : World} {K : PySem.W.Frag} {mg : Str → Option Value} {base : Heap}
/-! ### is_whole -/
abbrev N_is_whole : List Str := ["value"]
theorem sc_is_whole : FnScope N_is_whole ["value"] (defScope (top 7)) := ⟨rfl, rfl, rfl, by decide +kernel, rfl, by decide +kernel, by decide +kernel⟩
def ws_is_whole : WS := (wRet (wAndV (wIsi "int" (wVar 0)) (wNotV (wIsi "bool" (wVar 0)))))
theorem der_is_whole (T : Tb mg)  (f : Addr) (cdv : Value) (A : Around) (outer : List Env) (s : Shared) (H : Hp) (E : XK) (hr : Room 0 (A.deeper (envOfC "is_whole" (defScope (top 7)) s.heap.objs.size f cdv))) : PSs (cxOf CX0 P w K mg base N_is_whole "is_whole" (defScope (top 7)) f cdv A outer s H E).nox (defBody (top 7)) (lS K ws_is_whole) :=
  (s_one (s_ret (d_and (d_isi (T' := "int") T.b_isinstance T.b_int (by decide +kernel) (d_var (pv 0))) (d_one (d_not (d_isi (T' := "bool") T.b_isinstance T.b_bool (by decide +kernel) (d_var (pv 0))))))))
theorem ok_is_whole (T : Tb mg)  {f : Addr} {fd : FuncData} (F : FunD K "is_whole" "is_whole" (defArgs (top 7)) (defBody (top 7)) (defScope (top 7)) [] [] f fd) (hm : mg "is_whole" = some (.ref f)) (pu : ∀ ds Q', ds.length = 1 → wf_is_whole ds Q' → ws_is_whole (edP Q') (enP N_is_whole ds)) : Cal P w K mg base 1 "is_whole" ["value"] (spP K 1 wf_is_whole) :=
  ⟨f, fd, fnP F sc_is_whole (fun cdv A outer s H E hr => der_is_whole T  f cdv A outer s H E hr) pu, hm, F.kp, F.bindsN (ps := ["value"]) fun _ _ _ _ _ _ us hl => match us, hl with | [_], _ => rfl⟩
/-! ### is_integer -/
abbrev N_is_integer : List Str := ["value"]
theorem sc_is_integer : FnScope N_is_integer ["value"] (defScope (top 8)) := ⟨rfl, rfl, rfl, by decide +kernel, rfl, by decide +kernel, by decide +kernel⟩
def ws_is_integer : WS := (wRet (wAndV (wFn 1 wf_is_whole (wCons (wVar 0) wNil)) (wCh dLt dLt (wUn dNeg (wC (.int 1000000000000000000000000000000000000000000000000000000000000))) (wVar 0) (wC (.int 1000000000000000000000000000000000000000000000000000000000000)))))
theorem der_is_integer (T : Tb mg) (C_is_whole : Cal P w K mg base 1 "is_whole" ["value"] (spP K 1 wf_is_whole)) (f : Addr) (cdv : Value) (A : Around) (outer : List Env) (s : Shared) (H : Hp) (E : XK) (hr : Room 1 (A.deeper (envOfC "is_integer" (defScope (top 8)) s.heap.objs.size f cdv))) : PSs (cxOf CX0 P w K mg base N_is_integer "is_integer" (defScope (top 8)) f cdv A outer s H E).nox (defBody (top 8)) (lS K ws_is_integer) :=
  (s_one (s_ret (d_and (c_call C_is_whole (hr.mono (by decide)) (a_cons (d_var (pv 0)) a_nil)) (d_one (d_ch (op_ltD hr.units0) snd_lt (op_ltD hr.units0) snd_lt (d_un un_neg snd_neg (d_gint T.c_TOO_LONG)) (d_var (pv 0)) (d_gint T.c_TOO_LONG))))))
theorem ok_is_integer (T : Tb mg) (C_is_whole : Cal P w K mg base 1 "is_whole" ["value"] (spP K 1 wf_is_whole)) {f : Addr} {fd : FuncData} (F : FunD K "is_integer" "is_integer" (defArgs (top 8)) (defBody (top 8)) (defScope (top 8)) [] [] f fd) (hm : mg "is_integer" = some (.ref f)) (pu : ∀ ds Q', ds.length = 1 → wf_is_integer ds Q' → ws_is_integer (edP Q') (enP N_is_integer ds)) : Cal P w K mg base 2 "is_integer" ["value"] (spP K 1 wf_is_integer) :=
  ⟨f, fd, fnP F sc_is_integer (fun cdv A outer s H E hr => der_is_integer T C_is_whole f cdv A outer s H E hr) pu, hm, F.kp, F.bindsN (ps := ["value"]) fun _ _ _ _ _ _ us hl => match us, hl with | [_], _ => rfl⟩
/-! ### is_between -/
abbrev N_is_between : List Str := ["value", "least", "most"]
theorem sc_is_between : FnScope N_is_between ["value", "least", "most"] (defScope (top 9)) := ⟨rfl, rfl, rfl, by decide +kernel, rfl, by decide +kernel, by decide +kernel⟩
def ws_is_between : WS := (wRet (wAndV (wFn 1 wf_is_whole (wCons (wVar 0) wNil)) (wCh dLe dLe (wVar 1) (wVar 0) (wVar 2))))
theorem der_is_between (T : Tb mg) (C_is_whole : Cal P w K mg base 1 "is_whole" ["value"] (spP K 1 wf_is_whole)) (f : Addr) (cdv : Value) (A : Around) (outer : List Env) (s : Shared) (H : Hp) (E : XK) (hr : Room 1 (A.deeper (envOfC "is_between" (defScope (top 9)) s.heap.objs.size f cdv))) : PSs (cxOf CX0 P w K mg base N_is_between "is_between" (defScope (top 9)) f cdv A outer s H E).nox (defBody (top 9)) (lS K ws_is_between) :=
  (s_one (s_ret (d_and (c_call C_is_whole (hr.mono (by decide)) (a_cons (d_var (pv 0)) a_nil)) (d_one (d_ch op_le snd_le op_le snd_le (d_var (pv 1)) (d_var (pv 0)) (d_var (pv 2)))))))
theorem ok_is_between (T : Tb mg) (C_is_whole : Cal P w K mg base 1 "is_whole" ["value"] (spP K 1 wf_is_whole)) {f : Addr} {fd : FuncData} (F : FunD K "is_between" "is_between" (defArgs (top 9)) (defBody (top 9)) (defScope (top 9)) [] [] f fd) (hm : mg "is_between" = some (.ref f)) (pu : ∀ ds Q', ds.length = 3 → wf_is_between ds Q' → ws_is_between (edP Q') (enP N_is_between ds)) : Cal P w K mg base 2 "is_between" ["value", "least", "most"] (spP K 3 wf_is_between) :=
  ⟨f, fd, fnP F sc_is_between (fun cdv A outer s H E hr => der_is_between T C_is_whole f cdv A outer s H E hr) pu, hm, F.kp, F.bindsN (ps := ["value", "least", "most"]) fun _ _ _ _ _ _ us hl => match us, hl with | [_, _, _], _ => rfl⟩
/-! ### is_fraction -/
abbrev N_is_fraction : List Str := ["value", "number"]
theorem sc_is_fraction : FnScope N_is_fraction ["value"] (defScope (top 13)) := ⟨rfl, rfl, rfl, by decide +kernel, rfl, by decide +kernel, by decide +kernel⟩
def ws_is_fraction : WS := (wSeq (wIfS (wOr (wNot (wTr (wIsi "tuple" (wVar 0)))) (wB (wOp dNe (wCl dLen (wCons (wVar 0) wNil)) (wC (.int 2))))) (wRet (wC (.bool false))) wNext) (wSeq (wIfS (wNot (wTr (wCl dAll (wCons (wLe (wLc (wSq (wVar 0)) (wgN 1) wYes (wFn 1 wf_is_integer (wCons (wVar 1) wNil)) [1])) wNil)))) (wRet (wC (.bool false))) wNext) (wRet (wAndV (wOp dGt (wOp dIx (wVar 0) (wC (.int 1))) (wC (.int 0))) (wOp dEq (wCl dGcd (wCons (wOp dIx (wVar 0) (wC (.int 0))) (wCons (wOp dIx (wVar 0) (wC (.int 1))) wNil))) (wC (.int 1)))))))
theorem der_is_fraction (T : Tb mg) (C_is_integer : Cal P w K mg base 2 "is_integer" ["value"] (spP K 1 wf_is_integer)) (f : Addr) (cdv : Value) (A : Around) (outer : List Env) (s : Shared) (H : Hp) (E : XK) (hr : Room 2 (A.deeper (envOfC "is_fraction" (defScope (top 13)) s.heap.objs.size f cdv))) : PSs (cxOf CX0 P w K mg base N_is_fraction "is_fraction" (defScope (top 13)) f cdv A outer s H E).nox (defBody (top 13)) (lS K ws_is_fraction) :=
  (s_cons (s_if (PW.pt (t_or (t_not (t_tru (d_isi (T' := "tuple") T.b_isinstance T.b_tuple (by decide +kernel) (d_var (pv 0))))) (t_or1 (t_cmp (op_neD hr.units) snd_ne (d_cb call_len snd_len T.b_len (by decide +kernel) (a_cons (d_var (pv 0)) a_nil)) d_int (nomark _))))) (s_one (s_ret d_bl)) s_nil) (s_cons (s_if (t_not (t_tru (d_cb (cr_all rfl) snd_all T.b_all (by decide +kernel) (a_cons (d_lL (l_lc (own := [("number", 1)]) rfl sc_is_fraction.nd (i_seq (d_var (pv 0))) (blkOk_by (N := N_is_fraction) (sc := (defScope (top 13))) (by decide +kernel)) (fun _ _ _ _ _ => (g_name (i := 1) sc_is_fraction.nd rfl (by first | exact Or.inl rfl | exact Or.inr rfl))) (fun _ _ _ _ _ => ts_nil) (fun _ _ _ _ _ => (c_call C_is_integer (hr.mono (by decide)) (a_cons (d_var (pv 1)) a_nil))))) a_nil)))) (s_one (s_ret d_bl)) s_nil) (s_one (s_ret (d_and (d_cmp op_gt snd_gt (d_ix (d_var (pv 0)) d_int) d_int (nomark _)) (d_one (d_cmp (op_eqD hr.units) snd_eq (d_gcd T.g_gcd (a_cons (d_ix (d_var (pv 0)) d_int) (a_cons (d_ix (d_var (pv 0)) d_int) a_nil))) d_int (nomark _))))))))
theorem ok_is_fraction (T : Tb mg) (C_is_integer : Cal P w K mg base 2 "is_integer" ["value"] (spP K 1 wf_is_integer)) {f : Addr} {fd : FuncData} (F : FunD K "is_fraction" "is_fraction" (defArgs (top 13)) (defBody (top 13)) (defScope (top 13)) [] [] f fd) (hm : mg "is_fraction" = some (.ref f)) (pu : ∀ ds Q', ds.length = 1 → wf_is_fraction ds Q' → ws_is_fraction (edP Q') (enP N_is_fraction ds)) : Cal P w K mg base 3 "is_fraction" ["value"] (spP K 1 wf_is_fraction) :=
  ⟨f, fd, fnP F sc_is_fraction (fun cdv A outer s H E hr => der_is_fraction T C_is_integer f cdv A outer s H E hr) pu, hm, F.kp, F.bindsN (ps := ["value"]) fun _ _ _ _ _ _ us hl => match us, hl with | [_], _ => rfl⟩
/-! ### are_fractions -/
abbrev N_are_fractions : List Str := ["value", "most", "some"]
theorem sc_are_fractions : FnScope N_are_fractions ["value", "most"] (defScope (top 14)) := ⟨rfl, rfl, rfl, by decide +kernel, rfl, by decide +kernel, by decide +kernel⟩
def ws_are_fractions : WS := (wSeq (wIfS (wOr (wNot (wTr (wIsi "tuple" (wVar 0)))) (wB (wOp dGt (wCl dLen (wCons (wVar 0) wNil)) (wVar 1)))) (wRet (wC (.bool false))) wNext) (wRet (wCl dAll (wCons (wLe (wLc (wSq (wVar 0)) (wgN 2) wYes (wFn 1 wf_is_fraction (wCons (wVar 2) wNil)) [2])) wNil))))
theorem der_are_fractions (T : Tb mg) (C_is_fraction : Cal P w K mg base 3 "is_fraction" ["value"] (spP K 1 wf_is_fraction)) (f : Addr) (cdv : Value) (A : Around) (outer : List Env) (s : Shared) (H : Hp) (E : XK) (hr : Room 3 (A.deeper (envOfC "are_fractions" (defScope (top 14)) s.heap.objs.size f cdv))) : PSs (cxOf CX0 P w K mg base N_are_fractions "are_fractions" (defScope (top 14)) f cdv A outer s H E).nox (defBody (top 14)) (lS K ws_are_fractions) :=
  (s_cons (s_if (PW.pt (t_or (t_not (t_tru (d_isi (T' := "tuple") T.b_isinstance T.b_tuple (by decide +kernel) (d_var (pv 0))))) (t_or1 (t_cmp op_gt snd_gt (d_cb call_len snd_len T.b_len (by decide +kernel) (a_cons (d_var (pv 0)) a_nil)) (d_var (pv 1)) (nomark _))))) (s_one (s_ret d_bl)) s_nil) (s_one (s_ret (d_cb (cr_all rfl) snd_all T.b_all (by decide +kernel) (a_cons (d_lL (l_lc (own := [("some", 2)]) rfl sc_are_fractions.nd (i_seq (d_var (pv 0))) (blkOk_by (N := N_are_fractions) (sc := (defScope (top 14))) (by decide +kernel)) (fun _ _ _ _ _ => (g_name (i := 2) sc_are_fractions.nd rfl (by first | exact Or.inl rfl | exact Or.inr rfl))) (fun _ _ _ _ _ => ts_nil) (fun _ _ _ _ _ => (c_call C_is_fraction (hr.mono (by decide)) (a_cons (d_var (pv 2)) a_nil))))) a_nil)))))
theorem ok_are_fractions (T : Tb mg) (C_is_fraction : Cal P w K mg base 3 "is_fraction" ["value"] (spP K 1 wf_is_fraction)) {f : Addr} {fd : FuncData} (F : FunD K "are_fractions" "are_fractions" (defArgs (top 14)) (defBody (top 14)) (defScope (top 14)) [] [] f fd) (hm : mg "are_fractions" = some (.ref f)) (pu : ∀ ds Q', ds.length = 2 → wf_are_fractions ds Q' → ws_are_fractions (edP Q') (enP N_are_fractions ds)) : Cal P w K mg base 4 "are_fractions" ["value", "most"] (spP K 2 wf_are_fractions) :=
  ⟨f, fd, fnP F sc_are_fractions (fun cdv A outer s H E hr => der_are_fractions T C_is_fraction f cdv A outer s H E hr) pu, hm, F.kp, F.bindsN (ps := ["value", "most"]) fun _ _ _ _ _ _ us hl => match us, hl with | [_, _], _ => rfl⟩
/-! ### check_fraction -/
abbrev N_check_fraction : List Str := ["value"]
theorem sc_check_fraction : FnScope N_check_fraction ["value"] (defScope (top 15)) := ⟨rfl, rfl, rfl, by decide +kernel, rfl, by decide +kernel, by decide +kernel⟩
def ws_check_fraction : WS := (wIfS (wNot (wTr (wFn 1 wf_is_fraction (wCons (wVar 0) wNil)))) wNever wNext)
theorem der_check_fraction (T : Tb mg) (C_is_fraction : Cal P w K mg base 3 "is_fraction" ["value"] (spP K 1 wf_is_fraction)) (f : Addr) (cdv : Value) (A : Around) (outer : List Env) (s : Shared) (H : Hp) (E : XK) (hr : Room 3 (A.deeper (envOfC "check_fraction" (defScope (top 15)) s.heap.objs.size f cdv))) : PSs (cxOf CX0 P w K mg base N_check_fraction "check_fraction" (defScope (top 15)) f cdv A outer s H E).nox (defBody (top 15)) (lS K ws_check_fraction) :=
  (s_one (s_if (t_not (t_tru (c_call C_is_fraction (hr.mono (by decide)) (a_cons (d_var (pv 0)) a_nil)))) (s_one s_never) s_nil))
theorem ok_check_fraction (T : Tb mg) (C_is_fraction : Cal P w K mg base 3 "is_fraction" ["value"] (spP K 1 wf_is_fraction)) {f : Addr} {fd : FuncData} (F : FunD K "check_fraction" "check_fraction" (defArgs (top 15)) (defBody (top 15)) (defScope (top 15)) [] [] f fd) (hm : mg "check_fraction" = some (.ref f)) (pu : ∀ ds Q', ds.length = 1 → wf_check_fraction ds Q' → ws_check_fraction (edP Q') (enP N_check_fraction ds)) : Cal P w K mg base 4 "check_fraction" ["value"] (spP K 1 wf_check_fraction) :=
  ⟨f, fd, fnP F sc_check_fraction (fun cdv A outer s H E hr => der_check_fraction T C_is_fraction f cdv A outer s H E hr) pu, hm, F.kp, F.bindsN (ps := ["value"]) fun _ _ _ _ _ _ us hl => match us, hl with | [_], _ => rfl⟩
/-! ### check_two -/
abbrev N_check_two : List Str := ["one", "other"]
theorem sc_check_two : FnScope N_check_two ["one", "other"] (defScope (top 16)) := ⟨rfl, rfl, rfl, by decide +kernel, rfl, by decide +kernel, by decide +kernel⟩
def ws_check_two : WS := (wSeq (wDrop (wFn 1 wf_check_fraction (wCons (wVar 0) wNil))) (wDrop (wFn 1 wf_check_fraction (wCons (wVar 1) wNil))))
theorem der_check_two (T : Tb mg) (C_check_fraction : Cal P w K mg base 4 "check_fraction" ["value"] (spP K 1 wf_check_fraction)) (f : Addr) (cdv : Value) (A : Around) (outer : List Env) (s : Shared) (H : Hp) (E : XK) (hr : Room 4 (A.deeper (envOfC "check_two" (defScope (top 16)) s.heap.objs.size f cdv))) : PSs (cxOf CX0 P w K mg base N_check_two "check_two" (defScope (top 16)) f cdv A outer s H E).nox (defBody (top 16)) (lS K ws_check_two) :=
  (s_cons (s_expr (c_call C_check_fraction (hr.mono (by decide)) (a_cons (d_var (pv 0)) a_nil))) (s_one (s_expr (c_call C_check_fraction (hr.mono (by decide)) (a_cons (d_var (pv 1)) a_nil)))))
theorem ok_check_two (T : Tb mg) (C_check_fraction : Cal P w K mg base 4 "check_fraction" ["value"] (spP K 1 wf_check_fraction)) {f : Addr} {fd : FuncData} (F : FunD K "check_two" "check_two" (defArgs (top 16)) (defBody (top 16)) (defScope (top 16)) [] [] f fd) (hm : mg "check_two" = some (.ref f)) (pu : ∀ ds Q', ds.length = 2 → wf_check_two ds Q' → ws_check_two (edP Q') (enP N_check_two ds)) : Cal P w K mg base 5 "check_two" ["one", "other"] (spP K 2 wf_check_two) :=
  ⟨f, fd, fnP F sc_check_two (fun cdv A outer s H E hr => der_check_two T C_check_fraction f cdv A outer s H E hr) pu, hm, F.kp, F.bindsN (ps := ["one", "other"]) fun _ _ _ _ _ _ us hl => match us, hl with | [_, _], _ => rfl⟩
/-! ### lowest -/
abbrev N_lowest : List Str := ["top", "bottom", "common"]
theorem sc_lowest : FnScope N_lowest ["top", "bottom"] (defScope (top 17)) := ⟨rfl, rfl, rfl, by decide +kernel, rfl, by decide +kernel, by decide +kernel⟩
def ws_lowest : WS := (wSeq (wSet 2 (wCl dGcd (wCons (wVar 0) (wCons (wVar 1) wNil)))) (wSeq (wIfS (wB (wOp dLt (wVar 1) (wC (.int 0)))) (wSet 2 (wUn dNeg (wVar 2))) wNext) (wRet (wTup (wCons (wOp dFdivG (wVar 0) (wVar 2)) (wCons (wOp dFdivG (wVar 1) (wVar 2)) wNil))))))
theorem der_lowest (T : Tb mg)  (f : Addr) (cdv : Value) (A : Around) (outer : List Env) (s : Shared) (H : Hp) (E : XK) (hr : Room 0 (A.deeper (envOfC "lowest" (defScope (top 17)) s.heap.objs.size f cdv))) : PSs (cxOf CX0 P w K mg base N_lowest "lowest" (defScope (top 17)) f cdv A outer s H E).nox (defBody (top 17)) (lS K ws_lowest) :=
  (s_cons (s_set (i := 2) sc_lowest.nd rfl (by first | exact Or.inl rfl | exact Or.inr rfl) (d_gcd T.g_gcd (a_cons (d_var (pv 0)) (a_cons (d_var (pv 1)) a_nil)))) (s_cons (s_if (t_cmp (op_ltD hr.units0) snd_lt (d_var (pv 1)) d_int (nomark _)) (s_one (s_set (i := 2) sc_lowest.nd rfl (by first | exact Or.inl rfl | exact Or.inr rfl) (d_un un_neg snd_neg (d_var (pv 2))))) s_nil) (s_one (s_ret (d_tup (a_cons (d_op op_fdivG snd_fdivG (d_var (pv 0)) (d_var (pv 2))) (a_cons (d_op op_fdivG snd_fdivG (d_var (pv 1)) (d_var (pv 2))) a_nil)))))))
theorem ok_lowest (T : Tb mg)  {f : Addr} {fd : FuncData} (F : FunD K "lowest" "lowest" (defArgs (top 17)) (defBody (top 17)) (defScope (top 17)) [] [] f fd) (hm : mg "lowest" = some (.ref f)) (pu : ∀ ds Q', ds.length = 2 → wf_lowest ds Q' → ws_lowest (edP Q') (enP N_lowest ds)) : Cal P w K mg base 1 "lowest" ["top", "bottom"] (spP K 2 wf_lowest) :=
  ⟨f, fd, fnP F sc_lowest (fun cdv A outer s H E hr => der_lowest T  f cdv A outer s H E hr) pu, hm, F.kp, F.bindsN (ps := ["top", "bottom"]) fun _ _ _ _ _ _ us hl => match us, hl with | [_, _], _ => rfl⟩
/-! ### sum_of_two -/
abbrev N_sum_of_two : List Str := ["one", "other"]
theorem sc_sum_of_two : FnScope N_sum_of_two ["one", "other"] (defScope (top 18)) := ⟨rfl, rfl, rfl, by decide +kernel, rfl, by decide +kernel, by decide +kernel⟩
def ws_sum_of_two : WS := (wRet (wFn 2 wf_lowest (wCons (wOp dAdd (wOp dMul (wOp dIx (wVar 0) (wC (.int 0))) (wOp dIx (wVar 1) (wC (.int 1)))) (wOp dMul (wOp dIx (wVar 1) (wC (.int 0))) (wOp dIx (wVar 0) (wC (.int 1))))) (wCons (wOp dMul (wOp dIx (wVar 0) (wC (.int 1))) (wOp dIx (wVar 1) (wC (.int 1)))) wNil))))
theorem der_sum_of_two (T : Tb mg) (C_lowest : Cal P w K mg base 1 "lowest" ["top", "bottom"] (spP K 2 wf_lowest)) (f : Addr) (cdv : Value) (A : Around) (outer : List Env) (s : Shared) (H : Hp) (E : XK) (hr : Room 1 (A.deeper (envOfC "sum_of_two" (defScope (top 18)) s.heap.objs.size f cdv))) : PSs (cxOf CX0 P w K mg base N_sum_of_two "sum_of_two" (defScope (top 18)) f cdv A outer s H E).nox (defBody (top 18)) (lS K ws_sum_of_two) :=
  (s_one (s_ret (c_call C_lowest (hr.mono (by decide)) (a_cons (d_op op_addD snd_add (d_op op_mulD snd_mul (d_ix (d_var (pv 0)) d_int) (d_ix (d_var (pv 1)) d_int)) (d_op op_mulD snd_mul (d_ix (d_var (pv 1)) d_int) (d_ix (d_var (pv 0)) d_int))) (a_cons (d_op op_mulD snd_mul (d_ix (d_var (pv 0)) d_int) (d_ix (d_var (pv 1)) d_int)) a_nil)))))
theorem ok_sum_of_two (T : Tb mg) (C_lowest : Cal P w K mg base 1 "lowest" ["top", "bottom"] (spP K 2 wf_lowest)) {f : Addr} {fd : FuncData} (F : FunD K "sum_of_two" "sum_of_two" (defArgs (top 18)) (defBody (top 18)) (defScope (top 18)) [] [] f fd) (hm : mg "sum_of_two" = some (.ref f)) (pu : ∀ ds Q', ds.length = 2 → wf_sum_of_two ds Q' → ws_sum_of_two (edP Q') (enP N_sum_of_two ds)) : Cal P w K mg base 2 "sum_of_two" ["one", "other"] (spP K 2 wf_sum_of_two) :=
  ⟨f, fd, fnP F sc_sum_of_two (fun cdv A outer s H E hr => der_sum_of_two T C_lowest f cdv A outer s H E hr) pu, hm, F.kp, F.bindsN (ps := ["one", "other"]) fun _ _ _ _ _ _ us hl => match us, hl with | [_, _], _ => rfl⟩
/-! ### product_of_two -/
abbrev N_product_of_two : List Str := ["one", "other"]
theorem sc_product_of_two : FnScope N_product_of_two ["one", "other"] (defScope (top 19)) := ⟨rfl, rfl, rfl, by decide +kernel, rfl, by decide +kernel, by decide +kernel⟩
def ws_product_of_two : WS := (wRet (wFn 2 wf_lowest (wCons (wOp dMul (wOp dIx (wVar 0) (wC (.int 0))) (wOp dIx (wVar 1) (wC (.int 0)))) (wCons (wOp dMul (wOp dIx (wVar 0) (wC (.int 1))) (wOp dIx (wVar 1) (wC (.int 1)))) wNil))))
theorem der_product_of_two (T : Tb mg) (C_lowest : Cal P w K mg base 1 "lowest" ["top", "bottom"] (spP K 2 wf_lowest)) (f : Addr) (cdv : Value) (A : Around) (outer : List Env) (s : Shared) (H : Hp) (E : XK) (hr : Room 1 (A.deeper (envOfC "product_of_two" (defScope (top 19)) s.heap.objs.size f cdv))) : PSs (cxOf CX0 P w K mg base N_product_of_two "product_of_two" (defScope (top 19)) f cdv A outer s H E).nox (defBody (top 19)) (lS K ws_product_of_two) :=
  (s_one (s_ret (c_call C_lowest (hr.mono (by decide)) (a_cons (d_op op_mulD snd_mul (d_ix (d_var (pv 0)) d_int) (d_ix (d_var (pv 1)) d_int)) (a_cons (d_op op_mulD snd_mul (d_ix (d_var (pv 0)) d_int) (d_ix (d_var (pv 1)) d_int)) a_nil)))))
theorem ok_product_of_two (T : Tb mg) (C_lowest : Cal P w K mg base 1 "lowest" ["top", "bottom"] (spP K 2 wf_lowest)) {f : Addr} {fd : FuncData} (F : FunD K "product_of_two" "product_of_two" (defArgs (top 19)) (defBody (top 19)) (defScope (top 19)) [] [] f fd) (hm : mg "product_of_two" = some (.ref f)) (pu : ∀ ds Q', ds.length = 2 → wf_product_of_two ds Q' → ws_product_of_two (edP Q') (enP N_product_of_two ds)) : Cal P w K mg base 2 "product_of_two" ["one", "other"] (spP K 2 wf_product_of_two) :=
  ⟨f, fd, fnP F sc_product_of_two (fun cdv A outer s H E hr => der_product_of_two T C_lowest f cdv A outer s H E hr) pu, hm, F.kp, F.bindsN (ps := ["one", "other"]) fun _ _ _ _ _ _ us hl => match us, hl with | [_, _], _ => rfl⟩
/-! ### total -/
abbrev N_total : List Str := ["fractions", "made", "some"]
theorem sc_total : FnScope N_total ["fractions"] (defScope (top 20)) := ⟨rfl, rfl, rfl, by decide +kernel, rfl, by decide +kernel, by decide +kernel⟩
def ws_total : WS := (wSeq (wSet 1 (wTup (wCons (wC (.int 0)) (wCons (wC (.int 1)) wNil)))) (wSeq (wFor (wSq (wVar 0)) (wgN 2) (wSet 1 (wFn 2 wf_sum_of_two (wCons (wVar 1) (wCons (wVar 2) wNil))))) (wRet (wVar 1))))
theorem der_total (T : Tb mg) (C_sum_of_two : Cal P w K mg base 2 "sum_of_two" ["one", "other"] (spP K 2 wf_sum_of_two)) (f : Addr) (cdv : Value) (A : Around) (outer : List Env) (s : Shared) (H : Hp) (E : XK) (hr : Room 2 (A.deeper (envOfC "total" (defScope (top 20)) s.heap.objs.size f cdv))) : PSs (cxOf CX0 P w K mg base N_total "total" (defScope (top 20)) f cdv A outer s H E).nox (defBody (top 20)) (lS K ws_total) :=
  (s_cons (s_set (i := 1) sc_total.nd rfl (by first | exact Or.inl rfl | exact Or.inr rfl) (d_tup (a_cons d_int (a_cons d_int a_nil)))) (s_cons (s_for PassesOwn.never rfl (i_seq (d_var (pv 0))) (g_name (i := 2) sc_total.nd rfl (by first | exact Or.inl rfl | exact Or.inr rfl)) (s_one (s_set (i := 1) sc_total.nd rfl (by first | exact Or.inl rfl | exact Or.inr rfl) (c_call C_sum_of_two (hr.mono (by decide)) (a_cons (d_var (pv 1)) (a_cons (d_var (pv 2)) a_nil)))))) (s_one (s_ret (d_var (pv 1))))))
theorem ok_total (T : Tb mg) (C_sum_of_two : Cal P w K mg base 2 "sum_of_two" ["one", "other"] (spP K 2 wf_sum_of_two)) {f : Addr} {fd : FuncData} (F : FunD K "total" "total" (defArgs (top 20)) (defBody (top 20)) (defScope (top 20)) [] [] f fd) (hm : mg "total" = some (.ref f)) (pu : ∀ ds Q', ds.length = 1 → wf_total ds Q' → ws_total (edP Q') (enP N_total ds)) : Cal P w K mg base 3 "total" ["fractions"] (spP K 1 wf_total) :=
  ⟨f, fd, fnP F sc_total (fun cdv A outer s H E hr => der_total T C_sum_of_two f cdv A outer s H E hr) pu, hm, F.kp, F.bindsN (ps := ["fractions"]) fun _ _ _ _ _ _ us hl => match us, hl with | [_], _ => rfl⟩
/-! ### plus -/
abbrev N_plus : List Str := ["one", "other"]
theorem sc_plus : FnScope N_plus ["one", "other"] (defScope (top 21)) := ⟨rfl, rfl, rfl, by decide +kernel, rfl, by decide +kernel, by decide +kernel⟩
def ws_plus : WS := (wSeq (wDrop (wFn 2 wf_check_two (wCons (wVar 0) (wCons (wVar 1) wNil)))) (wRet (wFn 2 wf_sum_of_two (wCons (wVar 0) (wCons (wVar 1) wNil)))))
theorem der_plus (T : Tb mg) (C_check_two : Cal P w K mg base 5 "check_two" ["one", "other"] (spP K 2 wf_check_two)) (C_sum_of_two : Cal P w K mg base 2 "sum_of_two" ["one", "other"] (spP K 2 wf_sum_of_two)) (f : Addr) (cdv : Value) (A : Around) (outer : List Env) (s : Shared) (H : Hp) (E : XK) (hr : Room 5 (A.deeper (envOfC "plus" (defScope (top 21)) s.heap.objs.size f cdv))) : PSs (cxOf CX0 P w K mg base N_plus "plus" (defScope (top 21)) f cdv A outer s H E).nox (defBody (top 21)) (lS K ws_plus) :=
  (s_cons (s_expr (c_call C_check_two (hr.mono (by decide)) (a_cons (d_var (pv 0)) (a_cons (d_var (pv 1)) a_nil)))) (s_one (s_ret (c_call C_sum_of_two (hr.mono (by decide)) (a_cons (d_var (pv 0)) (a_cons (d_var (pv 1)) a_nil))))))
theorem ok_plus (T : Tb mg) (C_check_two : Cal P w K mg base 5 "check_two" ["one", "other"] (spP K 2 wf_check_two)) (C_sum_of_two : Cal P w K mg base 2 "sum_of_two" ["one", "other"] (spP K 2 wf_sum_of_two)) {f : Addr} {fd : FuncData} (F : FunD K "plus" "plus" (defArgs (top 21)) (defBody (top 21)) (defScope (top 21)) [] [] f fd) (hm : mg "plus" = some (.ref f)) (pu : ∀ ds Q', ds.length = 2 → wf_plus ds Q' → ws_plus (edP Q') (enP N_plus ds)) : Cal P w K mg base 6 "plus" ["one", "other"] (spP K 2 wf_plus) :=
  ⟨f, fd, fnP F sc_plus (fun cdv A outer s H E hr => der_plus T C_check_two C_sum_of_two f cdv A outer s H E hr) pu, hm, F.kp, F.bindsN (ps := ["one", "other"]) fun _ _ _ _ _ _ us hl => match us, hl with | [_, _], _ => rfl⟩
/-! ### times -/
abbrev N_times : List Str := ["one", "other"]
theorem sc_times : FnScope N_times ["one", "other"] (defScope (top 22)) := ⟨rfl, rfl, rfl, by decide +kernel, rfl, by decide +kernel, by decide +kernel⟩
def ws_times : WS := (wSeq (wDrop (wFn 2 wf_check_two (wCons (wVar 0) (wCons (wVar 1) wNil)))) (wRet (wFn 2 wf_product_of_two (wCons (wVar 0) (wCons (wVar 1) wNil)))))
theorem der_times (T : Tb mg) (C_check_two : Cal P w K mg base 5 "check_two" ["one", "other"] (spP K 2 wf_check_two)) (C_product_of_two : Cal P w K mg base 2 "product_of_two" ["one", "other"] (spP K 2 wf_product_of_two)) (f : Addr) (cdv : Value) (A : Around) (outer : List Env) (s : Shared) (H : Hp) (E : XK) (hr : Room 5 (A.deeper (envOfC "times" (defScope (top 22)) s.heap.objs.size f cdv))) : PSs (cxOf CX0 P w K mg base N_times "times" (defScope (top 22)) f cdv A outer s H E).nox (defBody (top 22)) (lS K ws_times) :=
  (s_cons (s_expr (c_call C_check_two (hr.mono (by decide)) (a_cons (d_var (pv 0)) (a_cons (d_var (pv 1)) a_nil)))) (s_one (s_ret (c_call C_product_of_two (hr.mono (by decide)) (a_cons (d_var (pv 0)) (a_cons (d_var (pv 1)) a_nil))))))
theorem ok_times (T : Tb mg) (C_check_two : Cal P w K mg base 5 "check_two" ["one", "other"] (spP K 2 wf_check_two)) (C_product_of_two : Cal P w K mg base 2 "product_of_two" ["one", "other"] (spP K 2 wf_product_of_two)) {f : Addr} {fd : FuncData} (F : FunD K "times" "times" (defArgs (top 22)) (defBody (top 22)) (defScope (top 22)) [] [] f fd) (hm : mg "times" = some (.ref f)) (pu : ∀ ds Q', ds.length = 2 → wf_times ds Q' → ws_times (edP Q') (enP N_times ds)) : Cal P w K mg base 6 "times" ["one", "other"] (spP K 2 wf_times) :=
  ⟨f, fd, fnP F sc_times (fun cdv A outer s H E hr => der_times T C_check_two C_product_of_two f cdv A outer s H E hr) pu, hm, F.kp, F.bindsN (ps := ["one", "other"]) fun _ _ _ _ _ _ us hl => match us, hl with | [_, _], _ => rfl⟩
/-! ### added -/
abbrev N_added : List Str := ["fractions"]
theorem sc_added : FnScope N_added ["fractions"] (defScope (top 23)) := ⟨rfl, rfl, rfl, by decide +kernel, rfl, by decide +kernel, by decide +kernel⟩
def ws_added : WS := (wSeq (wIfS (wNot (wTr (wFn 2 wf_are_fractions (wCons (wVar 0) (wCons (wC (.int 100)) wNil))))) wNever wNext) (wRet (wFn 1 wf_total (wCons (wVar 0) wNil))))
theorem der_added (T : Tb mg) (C_are_fractions : Cal P w K mg base 4 "are_fractions" ["value", "most"] (spP K 2 wf_are_fractions)) (C_total : Cal P w K mg base 3 "total" ["fractions"] (spP K 1 wf_total)) (f : Addr) (cdv : Value) (A : Around) (outer : List Env) (s : Shared) (H : Hp) (E : XK) (hr : Room 4 (A.deeper (envOfC "added" (defScope (top 23)) s.heap.objs.size f cdv))) : PSs (cxOf CX0 P w K mg base N_added "added" (defScope (top 23)) f cdv A outer s H E).nox (defBody (top 23)) (lS K ws_added) :=
  (s_cons (s_if (t_not (t_tru (c_call C_are_fractions (hr.mono (by decide)) (a_cons (d_var (pv 0)) (a_cons (d_gint T.c_MOST_ADDED) a_nil))))) (s_one s_never) s_nil) (s_one (s_ret (c_call C_total (hr.mono (by decide)) (a_cons (d_var (pv 0)) a_nil)))))
theorem ok_added (T : Tb mg) (C_are_fractions : Cal P w K mg base 4 "are_fractions" ["value", "most"] (spP K 2 wf_are_fractions)) (C_total : Cal P w K mg base 3 "total" ["fractions"] (spP K 1 wf_total)) {f : Addr} {fd : FuncData} (F : FunD K "added" "added" (defArgs (top 23)) (defBody (top 23)) (defScope (top 23)) [] [] f fd) (hm : mg "added" = some (.ref f)) (pu : ∀ ds Q', ds.length = 1 → wf_added ds Q' → ws_added (edP Q') (enP N_added ds)) : Cal P w K mg base 5 "added" ["fractions"] (spP K 1 wf_added) :=
  ⟨f, fd, fnP F sc_added (fun cdv A outer s H E hr => der_added T C_are_fractions C_total f cdv A outer s H E hr) pu, hm, F.kp, F.bindsN (ps := ["fractions"]) fun _ _ _ _ _ _ us hl => match us, hl with | [_], _ => rfl⟩
/-! ### is_counted -/
abbrev N_is_counted : List Str := ["value"]
theorem sc_is_counted : FnScope N_is_counted ["value"] (defScope (top 24)) := ⟨rfl, rfl, rfl, by decide +kernel, rfl, by decide +kernel, by decide +kernel⟩
def ws_is_counted : WS := (wSeq (wIfS (wOr (wNot (wTr (wIsi "tuple" (wVar 0)))) (wB (wOp dNe (wCl dLen (wCons (wVar 0) wNil)) (wC (.int 2))))) (wRet (wC (.bool false))) wNext) (wRet (wAndV (wFn 3 wf_is_between (wCons (wOp dIx (wVar 0) (wC (.int 0))) (wCons (wC (.int 1)) (wCons (wC (.int 1000000000)) wNil)))) (wFn 1 wf_is_fraction (wCons (wOp dIx (wVar 0) (wC (.int 1))) wNil)))))
theorem der_is_counted (T : Tb mg) (C_is_fraction : Cal P w K mg base 3 "is_fraction" ["value"] (spP K 1 wf_is_fraction)) (C_is_between : Cal P w K mg base 2 "is_between" ["value", "least", "most"] (spP K 3 wf_is_between)) (f : Addr) (cdv : Value) (A : Around) (outer : List Env) (s : Shared) (H : Hp) (E : XK) (hr : Room 3 (A.deeper (envOfC "is_counted" (defScope (top 24)) s.heap.objs.size f cdv))) : PSs (cxOf CX0 P w K mg base N_is_counted "is_counted" (defScope (top 24)) f cdv A outer s H E).nox (defBody (top 24)) (lS K ws_is_counted) :=
  (s_cons (s_if (PW.pt (t_or (t_not (t_tru (d_isi (T' := "tuple") T.b_isinstance T.b_tuple (by decide +kernel) (d_var (pv 0))))) (t_or1 (t_cmp (op_neD hr.units) snd_ne (d_cb call_len snd_len T.b_len (by decide +kernel) (a_cons (d_var (pv 0)) a_nil)) d_int (nomark _))))) (s_one (s_ret d_bl)) s_nil) (s_one (s_ret (d_and (c_call C_is_between (hr.mono (by decide)) (a_cons (d_ix (d_var (pv 0)) d_int) (a_cons d_int (a_cons (d_gint T.c_MOST_TIMES) a_nil)))) (d_one (c_call C_is_fraction (hr.mono (by decide)) (a_cons (d_ix (d_var (pv 0)) d_int) a_nil)))))))
theorem ok_is_counted (T : Tb mg) (C_is_fraction : Cal P w K mg base 3 "is_fraction" ["value"] (spP K 1 wf_is_fraction)) (C_is_between : Cal P w K mg base 2 "is_between" ["value", "least", "most"] (spP K 3 wf_is_between)) {f : Addr} {fd : FuncData} (F : FunD K "is_counted" "is_counted" (defArgs (top 24)) (defBody (top 24)) (defScope (top 24)) [] [] f fd) (hm : mg "is_counted" = some (.ref f)) (pu : ∀ ds Q', ds.length = 1 → wf_is_counted ds Q' → ws_is_counted (edP Q') (enP N_is_counted ds)) : Cal P w K mg base 4 "is_counted" ["value"] (spP K 1 wf_is_counted) :=
  ⟨f, fd, fnP F sc_is_counted (fun cdv A outer s H E hr => der_is_counted T C_is_fraction C_is_between f cdv A outer s H E hr) pu, hm, F.kp, F.bindsN (ps := ["value"]) fun _ _ _ _ _ _ us hl => match us, hl with | [_], _ => rfl⟩
/-! ### are_counted -/
abbrev N_are_counted : List Str := ["value", "pair"]
theorem sc_are_counted : FnScope N_are_counted ["value"] (defScope (top 25)) := ⟨rfl, rfl, rfl, by decide +kernel, rfl, by decide +kernel, by decide +kernel⟩
def ws_are_counted : WS := (wSeq (wIfS (wOr (wNot (wTr (wIsi "tuple" (wVar 0)))) (wNot (wB (wCh dLe dLe (wC (.int 1)) (wCl dLen (wCons (wVar 0) wNil)) (wC (.int 100)))))) (wRet (wC (.bool false))) wNext) (wRet (wCl dAll (wCons (wLe (wLc (wSq (wVar 0)) (wgN 1) wYes (wFn 1 wf_is_counted (wCons (wVar 1) wNil)) [1])) wNil))))
theorem der_are_counted (T : Tb mg) (C_is_counted : Cal P w K mg base 4 "is_counted" ["value"] (spP K 1 wf_is_counted)) (f : Addr) (cdv : Value) (A : Around) (outer : List Env) (s : Shared) (H : Hp) (E : XK) (hr : Room 4 (A.deeper (envOfC "are_counted" (defScope (top 25)) s.heap.objs.size f cdv))) : PSs (cxOf CX0 P w K mg base N_are_counted "are_counted" (defScope (top 25)) f cdv A outer s H E).nox (defBody (top 25)) (lS K ws_are_counted) :=
  (s_cons (s_if (PW.pt (t_or (t_not (t_tru (d_isi (T' := "tuple") T.b_isinstance T.b_tuple (by decide +kernel) (d_var (pv 0))))) (t_or1 (t_not (t_ch op_le snd_le op_le snd_le d_int (d_cb call_len snd_len T.b_len (by decide +kernel) (a_cons (d_var (pv 0)) a_nil)) (d_gint T.c_MOST_ADDED)))))) (s_one (s_ret d_bl)) s_nil) (s_one (s_ret (d_cb (cr_all rfl) snd_all T.b_all (by decide +kernel) (a_cons (d_lL (l_lc (own := [("pair", 1)]) rfl sc_are_counted.nd (i_seq (d_var (pv 0))) (blkOk_by (N := N_are_counted) (sc := (defScope (top 25))) (by decide +kernel)) (fun _ _ _ _ _ => (g_name (i := 1) sc_are_counted.nd rfl (by first | exact Or.inl rfl | exact Or.inr rfl))) (fun _ _ _ _ _ => ts_nil) (fun _ _ _ _ _ => (c_call C_is_counted (hr.mono (by decide)) (a_cons (d_var (pv 1)) a_nil))))) a_nil)))))
theorem ok_are_counted (T : Tb mg) (C_is_counted : Cal P w K mg base 4 "is_counted" ["value"] (spP K 1 wf_is_counted)) {f : Addr} {fd : FuncData} (F : FunD K "are_counted" "are_counted" (defArgs (top 25)) (defBody (top 25)) (defScope (top 25)) [] [] f fd) (hm : mg "are_counted" = some (.ref f)) (pu : ∀ ds Q', ds.length = 1 → wf_are_counted ds Q' → ws_are_counted (edP Q') (enP N_are_counted ds)) : Cal P w K mg base 5 "are_counted" ["value"] (spP K 1 wf_are_counted) :=
  ⟨f, fd, fnP F sc_are_counted (fun cdv A outer s H E hr => der_are_counted T C_is_counted f cdv A outer s H E hr) pu, hm, F.kp, F.bindsN (ps := ["value"]) fun _ _ _ _ _ _ us hl => match us, hl with | [_], _ => rfl⟩
/-! ### mean -/
abbrev N_mean : List Str := ["pairs", "told", "count", "some", "_"]
theorem sc_mean : FnScope N_mean ["pairs"] (defScope (top 26)) := ⟨rfl, rfl, rfl, by decide +kernel, rfl, by decide +kernel, by decide +kernel⟩
def ws_mean : WS := (wSeq (wIfS (wNot (wTr (wFn 1 wf_are_counted (wCons (wVar 0) wNil)))) wNever wNext) (wSeq (wSet 1 (wFn 1 wf_total (wCons (wLe (wLc (wSq (wVar 0)) (wgT 2 (wgCons (wgN 2) (wgCons (wgN 3) wgNil))) wYes (wFn 2 wf_product_of_two (wCons (wTup (wCons (wVar 2) (wCons (wC (.int 1)) wNil))) (wCons (wVar 3) wNil))) [2, 3])) wNil))) (wRet (wFn 2 wf_product_of_two (wCons (wVar 1) (wCons (wTup (wCons (wC (.int 1)) (wCons (wCl dSum (wCons (wLe (wLc (wSq (wVar 0)) (wgT 2 (wgCons (wgN 2) (wgCons (wgN 4) wgNil))) wYes (wVar 2) [2, 4])) wNil)) wNil))) wNil))))))
theorem der_mean (T : Tb mg) (C_are_counted : Cal P w K mg base 5 "are_counted" ["value"] (spP K 1 wf_are_counted)) (C_total : Cal P w K mg base 3 "total" ["fractions"] (spP K 1 wf_total)) (C_product_of_two : Cal P w K mg base 2 "product_of_two" ["one", "other"] (spP K 2 wf_product_of_two)) (f : Addr) (cdv : Value) (A : Around) (outer : List Env) (s : Shared) (H : Hp) (E : XK) (hr : Room 5 (A.deeper (envOfC "mean" (defScope (top 26)) s.heap.objs.size f cdv))) : PSs (cxOf CX0 P w K mg base N_mean "mean" (defScope (top 26)) f cdv A outer s H E).nox (defBody (top 26)) (lS K ws_mean) :=
  (s_cons (s_if (t_not (t_tru (c_call C_are_counted (hr.mono (by decide)) (a_cons (d_var (pv 0)) a_nil)))) (s_one s_never) s_nil) (s_cons (s_set (i := 1) sc_mean.nd rfl (by first | exact Or.inl rfl | exact Or.inr rfl) (c_call C_total (hr.mono (by decide)) (a_cons (d_lL (l_lc (own := [("count", 2), ("some", 3)]) rfl sc_mean.nd (i_seq (d_var (pv 0))) (blkOk_by (N := N_mean) (sc := (defScope (top 26))) (by decide +kernel)) (fun _ _ _ _ _ => (g_tup (n := 2) rfl (gs_cons (g_name (i := 2) sc_mean.nd rfl (by first | exact Or.inl rfl | exact Or.inr rfl)) (gs_cons (g_name (i := 3) sc_mean.nd rfl (by first | exact Or.inl rfl | exact Or.inr rfl)) gs_nil)) (pg_tup rfl (gs_cons (g_name (i := 2) sc_mean.nd rfl (by first | exact Or.inl rfl | exact Or.inr rfl)) (gs_cons (g_name (i := 3) sc_mean.nd rfl (by first | exact Or.inl rfl | exact Or.inr rfl)) gs_nil))))) (fun _ _ _ _ _ => ts_nil) (fun _ _ _ _ _ => (c_call C_product_of_two (hr.mono (by decide)) (a_cons (d_tup (a_cons (d_var (pv 2)) (a_cons d_int a_nil))) (a_cons (d_var (pv 3)) a_nil)))))) a_nil))) (s_one (s_ret (c_call C_product_of_two (hr.mono (by decide)) (a_cons (d_var (pv 1)) (a_cons (d_tup (a_cons d_int (a_cons (d_cb (cr_sum rfl) snd_sum T.b_sum (by decide +kernel) (a_cons (d_lL (l_lc (own := [("count", 2), ("_", 4)]) rfl sc_mean.nd (i_seq (d_var (pv 0))) (blkOk_by (N := N_mean) (sc := (defScope (top 26))) (by decide +kernel)) (fun _ _ _ _ _ => (g_tup (n := 2) rfl (gs_cons (g_name (i := 2) sc_mean.nd rfl (by first | exact Or.inl rfl | exact Or.inr rfl)) (gs_cons (g_name (i := 4) sc_mean.nd rfl (by first | exact Or.inl rfl | exact Or.inr rfl)) gs_nil)) (pg_tup rfl (gs_cons (g_name (i := 2) sc_mean.nd rfl (by first | exact Or.inl rfl | exact Or.inr rfl)) (gs_cons (g_name (i := 4) sc_mean.nd rfl (by first | exact Or.inl rfl | exact Or.inr rfl)) gs_nil))))) (fun _ _ _ _ _ => ts_nil) (fun _ _ _ _ _ => (d_var (pv 2))))) a_nil)) a_nil))) a_nil)))))))
theorem ok_mean (T : Tb mg) (C_are_counted : Cal P w K mg base 5 "are_counted" ["value"] (spP K 1 wf_are_counted)) (C_total : Cal P w K mg base 3 "total" ["fractions"] (spP K 1 wf_total)) (C_product_of_two : Cal P w K mg base 2 "product_of_two" ["one", "other"] (spP K 2 wf_product_of_two)) {f : Addr} {fd : FuncData} (F : FunD K "mean" "mean" (defArgs (top 26)) (defBody (top 26)) (defScope (top 26)) [] [] f fd) (hm : mg "mean" = some (.ref f)) (pu : ∀ ds Q', ds.length = 1 → wf_mean ds Q' → ws_mean (edP Q') (enP N_mean ds)) : Cal P w K mg base 6 "mean" ["pairs"] (spP K 1 wf_mean) :=
  ⟨f, fd, fnP F sc_mean (fun cdv A outer s H E hr => der_mean T C_are_counted C_total C_product_of_two f cdv A outer s H E hr) pu, hm, F.kp, F.bindsN (ps := ["pairs"]) fun _ _ _ _ _ _ us hl => match us, hl with | [_], _ => rfl⟩
/-! ### _law_jug -/
abbrev N__law_jug : List Str := ["script", "spot", "cell", "great", "mixed"]
theorem sc__law_jug : FnScope N__law_jug ["script", "spot"] (defScope (top 28)) := ⟨rfl, rfl, rfl, by decide +kernel, rfl, by decide +kernel, by decide +kernel⟩
def ws__law_jug : WS := (wSeq (wSet 2 (wIf (wB (wOp dLt (wVar 1) (wLenS 0))) (wCl dIntOf (wCons (wIxS 0 (wVar 1)) wNil)) (wOp dAdd (wOp dMul (wC (.int 449)) (wVar 1)) (wC (.int 67))))) (wSeq (wSet 3 (wOp dMod (wCl dIntOf (wCons (wCl dAbs (wCons (wVar 2) wNil)) wNil)) (wOp dPow (wOp dPow (wC (.int 10)) (wC (.int 55))) (wC (.int 6))))) (wSeq (wSet 4 (wOp dAdd (wOp dAdd (wOp dAdd (wOp dMul (wOp dMod (wCl dIntOf (wCons (wVar 3) wNil)) (wC (.int 2305843009213693669))) (wC (.int 83))) (wOp dMul (wC (.int 1013)) (wVar 1))) (wOp dMul (wC (.int 47)) (wCl dIntOf (wCons (wOp dLt (wVar 2) (wC (.int 0))) wNil)))) (wC (.int 29)))) (wRet (wLe (wSz (wCons (wCl dMax2 (wCons (wC (.int 0)) (wCons (wOp dSub (wVar 3) (wOp dPow (wC (.int 10)) (wC (.int 16)))) wNil))) (wCons (wVar 4) (wCons (wC (.int 0)) wNil)))))))))
theorem der__law_jug (T : Tb mg)  (f : Addr) (cdv : Value) (A : Around) (outer : List Env) (s : Shared) (H : Hp) (E : XK) (hr : Room 0 (A.deeper (envOfC "_law_jug" (defScope (top 28)) s.heap.objs.size f cdv))) : PSs (cxOf CX0 P w K mg base N__law_jug "_law_jug" (defScope (top 28)) f cdv A outer s H E).nox (defBody (top 28)) (lS K ws__law_jug) :=
  (s_cons (s_set (i := 2) sc__law_jug.nd rfl (by first | exact Or.inl rfl | exact Or.inr rfl) (d_if (t_cmp (op_ltD hr.units0) snd_lt (d_var (pv 1)) (d_lenS (i := 0) T.b_len (pv 0)) (nomark _)) (d_cty call_int1 snd_intOf T.b_int (by decide +kernel) (a_cons (d_ixS (i := 0) (pv 0) (d_var (pv 1))) a_nil)) (d_op op_addD snd_add (d_op op_mulD snd_mul d_int (d_var (pv 1))) d_int))) (s_cons (s_set (i := 3) sc__law_jug.nd rfl (by first | exact Or.inl rfl | exact Or.inr rfl) (d_op op_mod snd_mod (d_cty call_int1 snd_intOf T.b_int (by decide +kernel) (a_cons (d_cb call_abs snd_abs T.b_abs (by decide +kernel) (a_cons (d_var (pv 2)) a_nil)) a_nil)) (d_op op_powW snd_pow (d_op op_powW snd_pow d_int d_int) d_int))) (s_cons (s_set (i := 4) sc__law_jug.nd rfl (by first | exact Or.inl rfl | exact Or.inr rfl) (d_op op_addD snd_add (d_op op_addD snd_add (d_op op_addD snd_add (d_op op_mulD snd_mul (d_op op_mod snd_mod (d_cty call_int1 snd_intOf T.b_int (by decide +kernel) (a_cons (d_var (pv 3)) a_nil)) d_int) d_int) (d_op op_mulD snd_mul d_int (d_var (pv 1)))) (d_op op_mulD snd_mul d_int (d_cty call_int1 snd_intOf T.b_int (by decide +kernel) (a_cons (d_cmp (op_ltD hr.units0) snd_lt (d_var (pv 2)) d_int (nomark _)) a_nil)))) d_int)) (s_one (s_ret (d_lL (l_lst (a_cons (d_cb (call_max2 rfl) snd_max2 T.b_max (by decide +kernel) (a_cons d_int (a_cons (d_op op_sub snd_sub (d_var (pv 3)) (d_op op_powW snd_pow d_int d_int)) a_nil))) (a_cons (d_var (pv 4)) (a_cons d_int a_nil))))))))))
theorem ok__law_jug (T : Tb mg)  {f : Addr} {fd : FuncData} (F : FunD K "_law_jug" "_law_jug" (defArgs (top 28)) (defBody (top 28)) (defScope (top 28)) [] [] f fd) (hm : mg "_law_jug" = some (.ref f)) (pu : ∀ ns ds Q', ds.length + 1 = 2 → wf__law_jug ns ds Q' → ws__law_jug (edP Q') (enS N__law_jug ns ds)) : Cal P w K mg base 1 "_law_jug" ["script", "spot"] (spS K 2 wf__law_jug) :=
  ⟨f, fd, fnS F sc__law_jug rfl (fun cdv A outer s H E hr => der__law_jug T  f cdv A outer s H E hr) pu, hm, F.kp, F.bindsN (ps := ["script", "spot"]) fun _ _ _ _ _ _ us hl => match us, hl with | [_, _], _ => rfl⟩
/-! ### _law_pour -/
abbrev N__law_pour : List Str := ["jug", "total_v", "found", "one", "two"]
theorem sc__law_pour : FnScope N__law_pour ["jug", "total_v"] (defScope (top 29)) := ⟨rfl, rfl, rfl, by decide +kernel, rfl, by decide +kernel, by decide +kernel⟩
def ws__law_pour : WS := (wSeq (wIfS (wB (wOp dGt (wOpO 0 dIx (wC (.int 0))) (wC (.int 0)))) (wSeq (wSet 2 (wOp dMod (wCl dIntOf (wCons (wOpO 0 dIx (wC (.int 0))) wNil)) (wVar 1))) (wSeq (wSetIt 0 (wC (.int 0)) (wOp dFdivG (wOpO 0 dIx (wC (.int 0))) (wVar 1))) (wRet (wVar 2)))) wNext) (wSeq (wSetIt 0 (wC (.int 2)) (wOp dAdd (wOpO 0 dIx (wC (.int 2))) (wC (.int 1)))) (wSeq (wSet 3 (wOp dMod (wCl dIntOf (wCons (wOp dAdd (wOpO 0 dIx (wC (.int 1))) (wOp dMul (wC (.int 49979687)) (wOpO 0 dIx (wC (.int 2))))) wNil)) (wC (.int 2305843009213693951)))) (wSeq (wSet 4 (wOp dAdd (wOp dMul (wOp dMod (wCl dIntOf (wCons (wOp dAdd (wOp dMul (wVar 3) (wVar 3)) (wOp dMul (wC (.int 131)) (wOpO 0 dIx (wC (.int 2))))) wNil)) (wC (.int 2305843009213693921))) (wC (.int 32452843))) (wVar 3))) (wRet (wOp dMod (wCl dIntOf (wCons (wOp dFdivG (wVar 4) (wC (.int 65539))) wNil)) (wVar 1)))))))
theorem der__law_pour (T : Tb mg)  (f : Addr) (cdv : Value) (A : Around) (outer : List Env) (s : Shared) (H : Hp) (E : XK) (hr : Room 0 (A.deeper (envOfC "_law_pour" (defScope (top 29)) s.heap.objs.size f cdv))) : PSs (cxOf CX0 P w K mg base N__law_pour "_law_pour" (defScope (top 29)) f cdv A outer s H E).nox (defBody (top 29)) (lS K ws__law_pour) :=
  (s_cons (s_if (t_cmp op_gt snd_gt (d_ixO (pv 0) d_int) d_int (nomark _)) (s_cons (s_set (i := 2) sc__law_pour.nd rfl (by first | exact Or.inl rfl | exact Or.inr rfl) (d_op op_mod snd_mod (d_cty call_int1 snd_intOf T.b_int (by decide +kernel) (a_cons (d_ixO (pv 0) d_int) a_nil)) (d_var (pv 1)))) (s_cons (s_setIt (i := 0) (ps_asg (d_op op_fdivG snd_fdivG (d_ixO (pv 0) d_int) (d_var (pv 1))) (pg_sub (pv 0) d_int set_list))) (s_one (s_ret (d_var (pv 2)))))) s_nil) (s_cons (s_setIt (i := 0) (ps_asg (d_op op_addD snd_add (d_ixO (pv 0) d_int) d_int) (pg_sub (pv 0) d_int set_list))) (s_cons (s_set (i := 3) sc__law_pour.nd rfl (by first | exact Or.inl rfl | exact Or.inr rfl) (d_op op_mod snd_mod (d_cty call_int1 snd_intOf T.b_int (by decide +kernel) (a_cons (d_op op_addD snd_add (d_ixO (pv 0) d_int) (d_op op_mulD snd_mul d_int (d_ixO (pv 0) d_int))) a_nil)) d_int)) (s_cons (s_set (i := 4) sc__law_pour.nd rfl (by first | exact Or.inl rfl | exact Or.inr rfl) (d_op op_addD snd_add (d_op op_mulD snd_mul (d_op op_mod snd_mod (d_cty call_int1 snd_intOf T.b_int (by decide +kernel) (a_cons (d_op op_addD snd_add (d_op op_mulD snd_mul (d_var (pv 3)) (d_var (pv 3))) (d_op op_mulD snd_mul d_int (d_ixO (pv 0) d_int))) a_nil)) d_int) d_int) (d_var (pv 3)))) (s_one (s_ret (d_op op_mod snd_mod (d_cty call_int1 snd_intOf T.b_int (by decide +kernel) (a_cons (d_op op_fdivG snd_fdivG (d_var (pv 4)) d_int) a_nil)) (d_var (pv 1)))))))))
theorem ok__law_pour (T : Tb mg)  {f : Addr} {fd : FuncData} (F : FunD K "_law_pour" "_law_pour" (defArgs (top 29)) (defBody (top 29)) (defScope (top 29)) [] [] f fd) (hm : mg "_law_pour" = some (.ref f)) (pu : ∀ dj ds Q', ds.length + 1 = 2 → wf__law_pour dj ds Q' → ws__law_pour (edJ Q') (enJ N__law_pour dj ds)) : Cal P w K mg base 1 "_law_pour" ["jug", "total_v"] (spJ K 2 wf__law_pour) :=
  ⟨f, fd, fnJ F sc__law_pour rfl (fun cdv A outer s H E hr => der__law_pour T  f cdv A outer s H E hr) pu, hm, F.kp, F.bindsN (ps := ["jug", "total_v"]) fun _ _ _ _ _ _ us hl => match us, hl with | [_, _], _ => rfl⟩
/-! ### _law_sip -/
abbrev N__law_sip : List Str := ["jug", "items"]
theorem sc__law_sip : FnScope N__law_sip ["jug", "items"] (defScope (top 30)) := ⟨rfl, rfl, rfl, by decide +kernel, rfl, by decide +kernel, by decide +kernel⟩
def ws__law_sip : WS := (wRet (wOp dIx (wVar 1) (wFnJ 0 2 wf__law_pour (wCons (wCl dLen (wCons (wVar 1) wNil)) wNil))))
theorem der__law_sip (T : Tb mg) (C__law_pour : Cal P w K mg base 1 "_law_pour" ["jug", "total_v"] (spJ K 2 wf__law_pour)) (f : Addr) (cdv : Value) (A : Around) (outer : List Env) (s : Shared) (H : Hp) (E : XK) (hr : Room 1 (A.deeper (envOfC "_law_sip" (defScope (top 30)) s.heap.objs.size f cdv))) : PSs (cxOf CX0 P w K mg base N__law_sip "_law_sip" (defScope (top 30)) f cdv A outer s H E).nox (defBody (top 30)) (lS K ws__law_sip) :=
  (s_one (s_ret (d_ix (d_var (pv 1)) (c_callJ (i := 0) C__law_pour (hr.mono (by decide)) (pv 0) (a_cons (d_cb call_len snd_len T.b_len (by decide +kernel) (a_cons (d_var (pv 1)) a_nil)) a_nil)))))
theorem ok__law_sip (T : Tb mg) (C__law_pour : Cal P w K mg base 1 "_law_pour" ["jug", "total_v"] (spJ K 2 wf__law_pour)) {f : Addr} {fd : FuncData} (F : FunD K "_law_sip" "_law_sip" (defArgs (top 30)) (defBody (top 30)) (defScope (top 30)) [] [] f fd) (hm : mg "_law_sip" = some (.ref f)) (pu : ∀ dj ds Q', ds.length + 1 = 2 → wf__law_sip dj ds Q' → ws__law_sip (edJ Q') (enJ N__law_sip dj ds)) : Cal P w K mg base 2 "_law_sip" ["jug", "items"] (spJ K 2 wf__law_sip) :=
  ⟨f, fd, fnJ F sc__law_sip rfl (fun cdv A outer s H E hr => der__law_sip T C__law_pour f cdv A outer s H E hr) pu, hm, F.kp, F.bindsN (ps := ["jug", "items"]) fun _ _ _ _ _ _ us hl => match us, hl with | [_, _], _ => rfl⟩
/-! ### _law_stirred -/
abbrev N__law_stirred : List Str := ["jug", "items", "left", "found"]
theorem sc__law_stirred : FnScope N__law_stirred ["jug", "items"] (defScope (top 31)) := ⟨rfl, rfl, rfl, by decide +kernel, rfl, by decide +kernel, by decide +kernel⟩
def ws__law_stirred : WS := (wSeq (wParOO 2 3 (wListOf (wCons (wVar 1) wNil)) (wSz wNil)) (wSeq (wWhile (wB (wOpO 2 dNe (wLe (wSz wNil)))) (wApp 3 (wPopO 2 (wFnJ 0 2 wf__law_pour (wCons (wClO 2 dLen) wNil))))) (wFrz 3 (wRet (wVar 3)))))
theorem der__law_stirred (T : Tb mg) (C__law_pour : Cal P w K mg base 1 "_law_pour" ["jug", "total_v"] (spJ K 2 wf__law_pour)) (f : Addr) (cdv : Value) (A : Around) (outer : List Env) (s : Shared) (H : Hp) (E : XK) (hr : Room 1 (A.deeper (envOfC "_law_stirred" (defScope (top 31)) s.heap.objs.size f cdv))) : PSs (cxOf CX0 P w K mg base N__law_stirred "_law_stirred" (defScope (top 31)) f cdv A outer s H E).nox (defBody (top 31)) (lS K ws__law_stirred) :=
  (s_cons (s_parOO (ps_par (i := 2) (j := 3) rfl sc__law_stirred.nd rfl rfl (by decide) rfl rfl (pa_cons (l_listOf T.b_list (a_cons (d_var (pv 1)) a_nil)) (pa_cons (l_lst a_nil) pa_nil)) (by rfl))) (s_cons (s_while PassesOwn.never (t_cmpO (op_neD hr.units) snd_ne (pv 2) (d_lL (l_lst a_nil)) (nomark _)) (s_one (s_app (i := 3) (pv 3) (d_popO (i := 2) (pe_bm PySem.F.plainAttrs_list PySem.F.slot_list_pop PySem.F.type_list_pop mt_popAt (pv 2) (pa_cons (c_callJ (i := 0) C__law_pour (hr.mono (by decide)) (pv 0) (a_cons (d_cbO call_len snd_len T.b_len (by decide +kernel) (pv 2)) a_nil)) pa_nil))) rfl (pe_bm PySem.F.plainAttrs_list PySem.F.slot_list_append PySem.F.type_list_append mt_append (pv 3) (pa_cons (d_popO (i := 2) (pe_bm PySem.F.plainAttrs_list PySem.F.slot_list_pop PySem.F.type_list_pop mt_popAt (pv 2) (pa_cons (c_callJ (i := 0) C__law_pour (hr.mono (by decide)) (pv 0) (a_cons (d_cbO call_len snd_len T.b_len (by decide +kernel) (pv 2)) a_nil)) pa_nil))) pa_nil))))) (ss_frz (i := 3) (s_one (s_ret (d_var (pv 3)))))))
theorem ok__law_stirred (T : Tb mg) (C__law_pour : Cal P w K mg base 1 "_law_pour" ["jug", "total_v"] (spJ K 2 wf__law_pour)) {f : Addr} {fd : FuncData} (F : FunD K "_law_stirred" "_law_stirred" (defArgs (top 31)) (defBody (top 31)) (defScope (top 31)) [] [] f fd) (hm : mg "_law_stirred" = some (.ref f)) (pu : ∀ dj ds Q', ds.length + 1 = 2 → wf__law_stirred dj ds Q' → ws__law_stirred (edJ Q') (enJ N__law_stirred dj ds)) : Cal P w K mg base 2 "_law_stirred" ["jug", "items"] (spJ K 2 wf__law_stirred) :=
  ⟨f, fd, fnJ F sc__law_stirred rfl (fun cdv A outer s H E hr => der__law_stirred T C__law_pour f cdv A outer s H E hr) pu, hm, F.kp, F.bindsN (ps := ["jug", "items"]) fun _ _ _ _ _ _ us hl => match us, hl with | [_, _], _ => rfl⟩
/-! ### _law_fu_shared -/
abbrev N__law_fu_shared : List Str := ["one", "other"]
theorem sc__law_fu_shared : FnScope N__law_fu_shared ["one", "other"] (defScope (top 32)) := ⟨rfl, rfl, rfl, by decide +kernel, rfl, by decide +kernel, by decide +kernel⟩
def ws__law_fu_shared : WS := (wSeq (wPar 0 1 (wCl dAbs (wCons (wVar 0) wNil)) (wCl dAbs (wCons (wVar 1) wNil))) (wSeq (wWhile (wB (wOp dGt (wVar 1) (wC (.int 0)))) (wPar 0 1 (wVar 1) (wOp dMod (wVar 0) (wVar 1)))) (wRet (wVar 0))))
theorem der__law_fu_shared (T : Tb mg)  (f : Addr) (cdv : Value) (A : Around) (outer : List Env) (s : Shared) (H : Hp) (E : XK) (hr : Room 0 (A.deeper (envOfC "_law_fu_shared" (defScope (top 32)) s.heap.objs.size f cdv))) : PSs (cxOf CX0 P w K mg base N__law_fu_shared "_law_fu_shared" (defScope (top 32)) f cdv A outer s H E).nox (defBody (top 32)) (lS K ws__law_fu_shared) :=
  (s_cons (s_par (ps_par (i := 0) (j := 1) rfl sc__law_fu_shared.nd rfl rfl (by decide) rfl rfl (pa_cons (d_cb call_abs snd_abs T.b_abs (by decide +kernel) (a_cons (d_var (pv 0)) a_nil)) (pa_cons (d_cb call_abs snd_abs T.b_abs (by decide +kernel) (a_cons (d_var (pv 1)) a_nil)) pa_nil)) (by rfl))) (s_cons (s_while PassesOwn.never (t_cmp op_gt snd_gt (d_var (pv 1)) d_int (nomark _)) (s_one (s_par (ps_par (i := 0) (j := 1) rfl sc__law_fu_shared.nd rfl rfl (by decide) rfl rfl (pa_cons (d_var (pv 1)) (pa_cons (d_op op_mod snd_mod (d_var (pv 0)) (d_var (pv 1))) pa_nil)) (by rfl))))) (s_one (s_ret (d_var (pv 0))))))
theorem ok__law_fu_shared (T : Tb mg)  {f : Addr} {fd : FuncData} (F : FunD K "_law_fu_shared" "_law_fu_shared" (defArgs (top 32)) (defBody (top 32)) (defScope (top 32)) [] [] f fd) (hm : mg "_law_fu_shared" = some (.ref f)) (pu : ∀ ds Q', ds.length = 2 → wf__law_fu_shared ds Q' → ws__law_fu_shared (edP Q') (enP N__law_fu_shared ds)) : Cal P w K mg base 1 "_law_fu_shared" ["one", "other"] (spP K 2 wf__law_fu_shared) :=
  ⟨f, fd, fnP F sc__law_fu_shared (fun cdv A outer s H E hr => der__law_fu_shared T  f cdv A outer s H E hr) pu, hm, F.kp, F.bindsN (ps := ["one", "other"]) fun _ _ _ _ _ _ us hl => match us, hl with | [_, _], _ => rfl⟩
/-! ### _law_fu_part -/
abbrev N__law_fu_part : List Str := ["top", "bottom", "shared", "sign"]
theorem sc__law_fu_part : FnScope N__law_fu_part ["top", "bottom"] (defScope (top 33)) := ⟨rfl, rfl, rfl, by decide +kernel, rfl, by decide +kernel, by decide +kernel⟩
def ws__law_fu_part : WS := (wSeq (wSet 2 (wFn 2 wf__law_fu_shared (wCons (wVar 0) (wCons (wVar 1) wNil)))) (wSeq (wSet 3 (wIf (wB (wOp dGt (wVar 1) (wC (.int 0)))) (wC (.int 1)) (wUn dNeg (wC (.int 1))))) (wRet (wTup (wCons (wOp dFdivG (wOp dMul (wVar 3) (wVar 0)) (wVar 2)) (wCons (wOp dFdivG (wOp dMul (wVar 3) (wVar 1)) (wVar 2)) wNil))))))
theorem der__law_fu_part (T : Tb mg) (C__law_fu_shared : Cal P w K mg base 1 "_law_fu_shared" ["one", "other"] (spP K 2 wf__law_fu_shared)) (f : Addr) (cdv : Value) (A : Around) (outer : List Env) (s : Shared) (H : Hp) (E : XK) (hr : Room 1 (A.deeper (envOfC "_law_fu_part" (defScope (top 33)) s.heap.objs.size f cdv))) : PSs (cxOf CX0 P w K mg base N__law_fu_part "_law_fu_part" (defScope (top 33)) f cdv A outer s H E).nox (defBody (top 33)) (lS K ws__law_fu_part) :=
  (s_cons (s_set (i := 2) sc__law_fu_part.nd rfl (by first | exact Or.inl rfl | exact Or.inr rfl) (c_call C__law_fu_shared (hr.mono (by decide)) (a_cons (d_var (pv 0)) (a_cons (d_var (pv 1)) a_nil)))) (s_cons (s_set (i := 3) sc__law_fu_part.nd rfl (by first | exact Or.inl rfl | exact Or.inr rfl) (d_if (t_cmp op_gt snd_gt (d_var (pv 1)) d_int (nomark _)) d_int (d_un un_neg snd_neg d_int))) (s_one (s_ret (d_tup (a_cons (d_op op_fdivG snd_fdivG (d_op op_mulD snd_mul (d_var (pv 3)) (d_var (pv 0))) (d_var (pv 2))) (a_cons (d_op op_fdivG snd_fdivG (d_op op_mulD snd_mul (d_var (pv 3)) (d_var (pv 1))) (d_var (pv 2))) a_nil)))))))
theorem ok__law_fu_part (T : Tb mg) (C__law_fu_shared : Cal P w K mg base 1 "_law_fu_shared" ["one", "other"] (spP K 2 wf__law_fu_shared)) {f : Addr} {fd : FuncData} (F : FunD K "_law_fu_part" "_law_fu_part" (defArgs (top 33)) (defBody (top 33)) (defScope (top 33)) [] [] f fd) (hm : mg "_law_fu_part" = some (.ref f)) (pu : ∀ ds Q', ds.length = 2 → wf__law_fu_part ds Q' → ws__law_fu_part (edP Q') (enP N__law_fu_part ds)) : Cal P w K mg base 2 "_law_fu_part" ["top", "bottom"] (spP K 2 wf__law_fu_part) :=
  ⟨f, fd, fnP F sc__law_fu_part (fun cdv A outer s H E hr => der__law_fu_part T C__law_fu_shared f cdv A outer s H E hr) pu, hm, F.kp, F.bindsN (ps := ["top", "bottom"]) fun _ _ _ _ _ _ us hl => match us, hl with | [_, _], _ => rfl⟩
/-! ### _law_fu_plus -/
abbrev N__law_fu_plus : List Str := ["one", "other"]
theorem sc__law_fu_plus : FnScope N__law_fu_plus ["one", "other"] (defScope (top 34)) := ⟨rfl, rfl, rfl, by decide +kernel, rfl, by decide +kernel, by decide +kernel⟩
def ws__law_fu_plus : WS := (wRet (wFn 2 wf__law_fu_part (wCons (wOp dAdd (wOp dMul (wOp dIx (wVar 0) (wC (.int 0))) (wOp dIx (wVar 1) (wC (.int 1)))) (wOp dMul (wOp dIx (wVar 1) (wC (.int 0))) (wOp dIx (wVar 0) (wC (.int 1))))) (wCons (wOp dMul (wOp dIx (wVar 0) (wC (.int 1))) (wOp dIx (wVar 1) (wC (.int 1)))) wNil))))
theorem der__law_fu_plus (T : Tb mg) (C__law_fu_part : Cal P w K mg base 2 "_law_fu_part" ["top", "bottom"] (spP K 2 wf__law_fu_part)) (f : Addr) (cdv : Value) (A : Around) (outer : List Env) (s : Shared) (H : Hp) (E : XK) (hr : Room 2 (A.deeper (envOfC "_law_fu_plus" (defScope (top 34)) s.heap.objs.size f cdv))) : PSs (cxOf CX0 P w K mg base N__law_fu_plus "_law_fu_plus" (defScope (top 34)) f cdv A outer s H E).nox (defBody (top 34)) (lS K ws__law_fu_plus) :=
  (s_one (s_ret (c_call C__law_fu_part (hr.mono (by decide)) (a_cons (d_op op_addD snd_add (d_op op_mulD snd_mul (d_ix (d_var (pv 0)) d_int) (d_ix (d_var (pv 1)) d_int)) (d_op op_mulD snd_mul (d_ix (d_var (pv 1)) d_int) (d_ix (d_var (pv 0)) d_int))) (a_cons (d_op op_mulD snd_mul (d_ix (d_var (pv 0)) d_int) (d_ix (d_var (pv 1)) d_int)) a_nil)))))
theorem ok__law_fu_plus (T : Tb mg) (C__law_fu_part : Cal P w K mg base 2 "_law_fu_part" ["top", "bottom"] (spP K 2 wf__law_fu_part)) {f : Addr} {fd : FuncData} (F : FunD K "_law_fu_plus" "_law_fu_plus" (defArgs (top 34)) (defBody (top 34)) (defScope (top 34)) [] [] f fd) (hm : mg "_law_fu_plus" = some (.ref f)) (pu : ∀ ds Q', ds.length = 2 → wf__law_fu_plus ds Q' → ws__law_fu_plus (edP Q') (enP N__law_fu_plus ds)) : Cal P w K mg base 3 "_law_fu_plus" ["one", "other"] (spP K 2 wf__law_fu_plus) :=
  ⟨f, fd, fnP F sc__law_fu_plus (fun cdv A outer s H E hr => der__law_fu_plus T C__law_fu_part f cdv A outer s H E hr) pu, hm, F.kp, F.bindsN (ps := ["one", "other"]) fun _ _ _ _ _ _ us hl => match us, hl with | [_, _], _ => rfl⟩
/-! ### _law_fu_times -/
abbrev N__law_fu_times : List Str := ["one", "other"]
theorem sc__law_fu_times : FnScope N__law_fu_times ["one", "other"] (defScope (top 35)) := ⟨rfl, rfl, rfl, by decide +kernel, rfl, by decide +kernel, by decide +kernel⟩
def ws__law_fu_times : WS := (wRet (wFn 2 wf__law_fu_part (wCons (wOp dMul (wOp dIx (wVar 0) (wC (.int 0))) (wOp dIx (wVar 1) (wC (.int 0)))) (wCons (wOp dMul (wOp dIx (wVar 0) (wC (.int 1))) (wOp dIx (wVar 1) (wC (.int 1)))) wNil))))
theorem der__law_fu_times (T : Tb mg) (C__law_fu_part : Cal P w K mg base 2 "_law_fu_part" ["top", "bottom"] (spP K 2 wf__law_fu_part)) (f : Addr) (cdv : Value) (A : Around) (outer : List Env) (s : Shared) (H : Hp) (E : XK) (hr : Room 2 (A.deeper (envOfC "_law_fu_times" (defScope (top 35)) s.heap.objs.size f cdv))) : PSs (cxOf CX0 P w K mg base N__law_fu_times "_law_fu_times" (defScope (top 35)) f cdv A outer s H E).nox (defBody (top 35)) (lS K ws__law_fu_times) :=
  (s_one (s_ret (c_call C__law_fu_part (hr.mono (by decide)) (a_cons (d_op op_mulD snd_mul (d_ix (d_var (pv 0)) d_int) (d_ix (d_var (pv 1)) d_int)) (a_cons (d_op op_mulD snd_mul (d_ix (d_var (pv 0)) d_int) (d_ix (d_var (pv 1)) d_int)) a_nil)))))
theorem ok__law_fu_times (T : Tb mg) (C__law_fu_part : Cal P w K mg base 2 "_law_fu_part" ["top", "bottom"] (spP K 2 wf__law_fu_part)) {f : Addr} {fd : FuncData} (F : FunD K "_law_fu_times" "_law_fu_times" (defArgs (top 35)) (defBody (top 35)) (defScope (top 35)) [] [] f fd) (hm : mg "_law_fu_times" = some (.ref f)) (pu : ∀ ds Q', ds.length = 2 → wf__law_fu_times ds Q' → ws__law_fu_times (edP Q') (enP N__law_fu_times ds)) : Cal P w K mg base 3 "_law_fu_times" ["one", "other"] (spP K 2 wf__law_fu_times) :=
  ⟨f, fd, fnP F sc__law_fu_times (fun cdv A outer s H E hr => der__law_fu_times T C__law_fu_part f cdv A outer s H E hr) pu, hm, F.kp, F.bindsN (ps := ["one", "other"]) fun _ _ _ _ _ _ us hl => match us, hl with | [_, _], _ => rfl⟩
/-! ### _law_fu_below -/
abbrev N__law_fu_below : List Str := ["one", "other"]
theorem sc__law_fu_below : FnScope N__law_fu_below ["one", "other"] (defScope (top 36)) := ⟨rfl, rfl, rfl, by decide +kernel, rfl, by decide +kernel, by decide +kernel⟩
def ws__law_fu_below : WS := (wRet (wOp dLt (wOp dMul (wOp dIx (wVar 0) (wC (.int 0))) (wOp dIx (wVar 1) (wC (.int 1)))) (wOp dMul (wOp dIx (wVar 1) (wC (.int 0))) (wOp dIx (wVar 0) (wC (.int 1))))))
theorem der__law_fu_below (T : Tb mg)  (f : Addr) (cdv : Value) (A : Around) (outer : List Env) (s : Shared) (H : Hp) (E : XK) (hr : Room 0 (A.deeper (envOfC "_law_fu_below" (defScope (top 36)) s.heap.objs.size f cdv))) : PSs (cxOf CX0 P w K mg base N__law_fu_below "_law_fu_below" (defScope (top 36)) f cdv A outer s H E).nox (defBody (top 36)) (lS K ws__law_fu_below) :=
  (s_one (s_ret (d_cmp (op_ltD hr.units0) snd_lt (d_op op_mulD snd_mul (d_ix (d_var (pv 0)) d_int) (d_ix (d_var (pv 1)) d_int)) (d_op op_mulD snd_mul (d_ix (d_var (pv 1)) d_int) (d_ix (d_var (pv 0)) d_int)) (nomark _))))
theorem ok__law_fu_below (T : Tb mg)  {f : Addr} {fd : FuncData} (F : FunD K "_law_fu_below" "_law_fu_below" (defArgs (top 36)) (defBody (top 36)) (defScope (top 36)) [] [] f fd) (hm : mg "_law_fu_below" = some (.ref f)) (pu : ∀ ds Q', ds.length = 2 → wf__law_fu_below ds Q' → ws__law_fu_below (edP Q') (enP N__law_fu_below ds)) : Cal P w K mg base 1 "_law_fu_below" ["one", "other"] (spP K 2 wf__law_fu_below) :=
  ⟨f, fd, fnP F sc__law_fu_below (fun cdv A outer s H E hr => der__law_fu_below T  f cdv A outer s H E hr) pu, hm, F.kp, F.bindsN (ps := ["one", "other"]) fun _ _ _ _ _ _ us hl => match us, hl with | [_, _], _ => rfl⟩
/-! ### _law_ta_fraction -/
abbrev N__law_ta_fraction : List Str := ["jug", "size"]
theorem sc__law_ta_fraction : FnScope N__law_ta_fraction ["jug", "size"] (defScope (top 37)) := ⟨rfl, rfl, rfl, by decide +kernel, rfl, by decide +kernel, by decide +kernel⟩
def ws__law_ta_fraction : WS := (wRet (wFn 2 wf__law_fu_part (wCons (wOp dSub (wFnJ 0 2 wf__law_pour (wCons (wOp dAdd (wOp dMul (wC (.int 2)) (wVar 1)) (wC (.int 1))) wNil)) (wVar 1)) (wCons (wOp dAdd (wC (.int 1)) (wFnJ 0 2 wf__law_pour (wCons (wVar 1) wNil))) wNil))))
theorem der__law_ta_fraction (T : Tb mg) (C__law_fu_part : Cal P w K mg base 2 "_law_fu_part" ["top", "bottom"] (spP K 2 wf__law_fu_part)) (C__law_pour : Cal P w K mg base 1 "_law_pour" ["jug", "total_v"] (spJ K 2 wf__law_pour)) (f : Addr) (cdv : Value) (A : Around) (outer : List Env) (s : Shared) (H : Hp) (E : XK) (hr : Room 2 (A.deeper (envOfC "_law_ta_fraction" (defScope (top 37)) s.heap.objs.size f cdv))) : PSs (cxOf CX0 P w K mg base N__law_ta_fraction "_law_ta_fraction" (defScope (top 37)) f cdv A outer s H E).nox (defBody (top 37)) (lS K ws__law_ta_fraction) :=
  (s_one (s_ret (c_call C__law_fu_part (hr.mono (by decide)) (a_cons (d_op op_sub snd_sub (c_callJ (i := 0) C__law_pour (hr.mono (by decide)) (pv 0) (a_cons (d_op op_addD snd_add (d_op op_mulD snd_mul d_int (d_var (pv 1))) d_int) a_nil)) (d_var (pv 1))) (a_cons (d_op op_addD snd_add d_int (c_callJ (i := 0) C__law_pour (hr.mono (by decide)) (pv 0) (a_cons (d_var (pv 1)) a_nil))) a_nil)))))
theorem ok__law_ta_fraction (T : Tb mg) (C__law_fu_part : Cal P w K mg base 2 "_law_fu_part" ["top", "bottom"] (spP K 2 wf__law_fu_part)) (C__law_pour : Cal P w K mg base 1 "_law_pour" ["jug", "total_v"] (spJ K 2 wf__law_pour)) {f : Addr} {fd : FuncData} (F : FunD K "_law_ta_fraction" "_law_ta_fraction" (defArgs (top 37)) (defBody (top 37)) (defScope (top 37)) [] [] f fd) (hm : mg "_law_ta_fraction" = some (.ref f)) (pu : ∀ dj ds Q', ds.length + 1 = 2 → wf__law_ta_fraction dj ds Q' → ws__law_ta_fraction (edJ Q') (enJ N__law_ta_fraction dj ds)) : Cal P w K mg base 3 "_law_ta_fraction" ["jug", "size"] (spJ K 2 wf__law_ta_fraction) :=
  ⟨f, fd, fnJ F sc__law_ta_fraction rfl (fun cdv A outer s H E hr => der__law_ta_fraction T C__law_fu_part C__law_pour f cdv A outer s H E hr) pu, hm, F.kp, F.bindsN (ps := ["jug", "size"]) fun _ _ _ _ _ _ us hl => match us, hl with | [_, _], _ => rfl⟩
/-! ### _law_sum -/
abbrev N__law_sum : List Str := ["fractions", "found", "one"]
theorem sc__law_sum : FnScope N__law_sum ["fractions"] (defScope (top 38)) := ⟨rfl, rfl, rfl, by decide +kernel, rfl, by decide +kernel, by decide +kernel⟩
def ws__law_sum : WS := (wSeq (wSet 1 (wTup (wCons (wC (.int 0)) (wCons (wC (.int 1)) wNil)))) (wSeq (wFor (wSq (wVar 0)) (wgN 2) (wSet 1 (wFn 2 wf__law_fu_plus (wCons (wVar 1) (wCons (wVar 2) wNil))))) (wRet (wVar 1))))
theorem der__law_sum (T : Tb mg) (C__law_fu_plus : Cal P w K mg base 3 "_law_fu_plus" ["one", "other"] (spP K 2 wf__law_fu_plus)) (f : Addr) (cdv : Value) (A : Around) (outer : List Env) (s : Shared) (H : Hp) (E : XK) (hr : Room 3 (A.deeper (envOfC "_law_sum" (defScope (top 38)) s.heap.objs.size f cdv))) : PSs (cxOf CX0 P w K mg base N__law_sum "_law_sum" (defScope (top 38)) f cdv A outer s H E).nox (defBody (top 38)) (lS K ws__law_sum) :=
  (s_cons (s_set (i := 1) sc__law_sum.nd rfl (by first | exact Or.inl rfl | exact Or.inr rfl) (d_tup (a_cons d_int (a_cons d_int a_nil)))) (s_cons (s_for PassesOwn.never rfl (i_seq (d_var (pv 0))) (g_name (i := 2) sc__law_sum.nd rfl (by first | exact Or.inl rfl | exact Or.inr rfl)) (s_one (s_set (i := 1) sc__law_sum.nd rfl (by first | exact Or.inl rfl | exact Or.inr rfl) (c_call C__law_fu_plus (hr.mono (by decide)) (a_cons (d_var (pv 1)) (a_cons (d_var (pv 2)) a_nil)))))) (s_one (s_ret (d_var (pv 1))))))
theorem ok__law_sum (T : Tb mg) (C__law_fu_plus : Cal P w K mg base 3 "_law_fu_plus" ["one", "other"] (spP K 2 wf__law_fu_plus)) {f : Addr} {fd : FuncData} (F : FunD K "_law_sum" "_law_sum" (defArgs (top 38)) (defBody (top 38)) (defScope (top 38)) [] [] f fd) (hm : mg "_law_sum" = some (.ref f)) (pu : ∀ ds Q', ds.length = 1 → wf__law_sum ds Q' → ws__law_sum (edP Q') (enP N__law_sum ds)) : Cal P w K mg base 4 "_law_sum" ["fractions"] (spP K 1 wf__law_sum) :=
  ⟨f, fd, fnP F sc__law_sum (fun cdv A outer s H E hr => der__law_sum T C__law_fu_plus f cdv A outer s H E hr) pu, hm, F.kp, F.bindsN (ps := ["fractions"]) fun _ _ _ _ _ _ us hl => match us, hl with | [_], _ => rfl⟩
/-! ### _law_mean -/
abbrev N__law_mean : List Str := ["pairs", "whole", "many", "one"]
theorem sc__law_mean : FnScope N__law_mean ["pairs"] (defScope (top 39)) := ⟨rfl, rfl, rfl, by decide +kernel, rfl, by decide +kernel, by decide +kernel⟩
def ws__law_mean : WS := (wSeq (wSet 1 (wFn 1 wf__law_sum (wCons (wLe (wLc (wSq (wVar 0)) (wgT 2 (wgCons (wgN 2) (wgCons (wgN 3) wgNil))) wYes (wFn 2 wf__law_fu_times (wCons (wTup (wCons (wVar 2) (wCons (wC (.int 1)) wNil))) (wCons (wVar 3) wNil))) [2, 3])) wNil))) (wRet (wFn 2 wf__law_fu_part (wCons (wOp dIx (wVar 1) (wC (.int 0))) (wCons (wOp dMul (wOp dIx (wVar 1) (wC (.int 1))) (wCl dSum (wCons (wLe (wLc (wSq (wVar 0)) (wgT 2 (wgCons (wgN 2) (wgCons (wgN 3) wgNil))) wYes (wVar 2) [2, 3])) wNil))) wNil)))))
theorem der__law_mean (T : Tb mg) (C__law_sum : Cal P w K mg base 4 "_law_sum" ["fractions"] (spP K 1 wf__law_sum)) (C__law_fu_times : Cal P w K mg base 3 "_law_fu_times" ["one", "other"] (spP K 2 wf__law_fu_times)) (C__law_fu_part : Cal P w K mg base 2 "_law_fu_part" ["top", "bottom"] (spP K 2 wf__law_fu_part)) (f : Addr) (cdv : Value) (A : Around) (outer : List Env) (s : Shared) (H : Hp) (E : XK) (hr : Room 4 (A.deeper (envOfC "_law_mean" (defScope (top 39)) s.heap.objs.size f cdv))) : PSs (cxOf CX0 P w K mg base N__law_mean "_law_mean" (defScope (top 39)) f cdv A outer s H E).nox (defBody (top 39)) (lS K ws__law_mean) :=
  (s_cons (s_set (i := 1) sc__law_mean.nd rfl (by first | exact Or.inl rfl | exact Or.inr rfl) (c_call C__law_sum (hr.mono (by decide)) (a_cons (d_lL (l_lc (own := [("many", 2), ("one", 3)]) rfl sc__law_mean.nd (i_seq (d_var (pv 0))) (blkOk_by (N := N__law_mean) (sc := (defScope (top 39))) (by decide +kernel)) (fun _ _ _ _ _ => (g_tup (n := 2) rfl (gs_cons (g_name (i := 2) sc__law_mean.nd rfl (by first | exact Or.inl rfl | exact Or.inr rfl)) (gs_cons (g_name (i := 3) sc__law_mean.nd rfl (by first | exact Or.inl rfl | exact Or.inr rfl)) gs_nil)) (pg_tup rfl (gs_cons (g_name (i := 2) sc__law_mean.nd rfl (by first | exact Or.inl rfl | exact Or.inr rfl)) (gs_cons (g_name (i := 3) sc__law_mean.nd rfl (by first | exact Or.inl rfl | exact Or.inr rfl)) gs_nil))))) (fun _ _ _ _ _ => ts_nil) (fun _ _ _ _ _ => (c_call C__law_fu_times (hr.mono (by decide)) (a_cons (d_tup (a_cons (d_var (pv 2)) (a_cons d_int a_nil))) (a_cons (d_var (pv 3)) a_nil)))))) a_nil))) (s_one (s_ret (c_call C__law_fu_part (hr.mono (by decide)) (a_cons (d_ix (d_var (pv 1)) d_int) (a_cons (d_op op_mulD snd_mul (d_ix (d_var (pv 1)) d_int) (d_cb (cr_sum rfl) snd_sum T.b_sum (by decide +kernel) (a_cons (d_lL (l_lc (own := [("many", 2), ("one", 3)]) rfl sc__law_mean.nd (i_seq (d_var (pv 0))) (blkOk_by (N := N__law_mean) (sc := (defScope (top 39))) (by decide +kernel)) (fun _ _ _ _ _ => (g_tup (n := 2) rfl (gs_cons (g_name (i := 2) sc__law_mean.nd rfl (by first | exact Or.inl rfl | exact Or.inr rfl)) (gs_cons (g_name (i := 3) sc__law_mean.nd rfl (by first | exact Or.inl rfl | exact Or.inr rfl)) gs_nil)) (pg_tup rfl (gs_cons (g_name (i := 2) sc__law_mean.nd rfl (by first | exact Or.inl rfl | exact Or.inr rfl)) (gs_cons (g_name (i := 3) sc__law_mean.nd rfl (by first | exact Or.inl rfl | exact Or.inr rfl)) gs_nil))))) (fun _ _ _ _ _ => ts_nil) (fun _ _ _ _ _ => (d_var (pv 2))))) a_nil))) a_nil))))))
theorem ok__law_mean (T : Tb mg) (C__law_sum : Cal P w K mg base 4 "_law_sum" ["fractions"] (spP K 1 wf__law_sum)) (C__law_fu_times : Cal P w K mg base 3 "_law_fu_times" ["one", "other"] (spP K 2 wf__law_fu_times)) (C__law_fu_part : Cal P w K mg base 2 "_law_fu_part" ["top", "bottom"] (spP K 2 wf__law_fu_part)) {f : Addr} {fd : FuncData} (F : FunD K "_law_mean" "_law_mean" (defArgs (top 39)) (defBody (top 39)) (defScope (top 39)) [] [] f fd) (hm : mg "_law_mean" = some (.ref f)) (pu : ∀ ds Q', ds.length = 1 → wf__law_mean ds Q' → ws__law_mean (edP Q') (enP N__law_mean ds)) : Cal P w K mg base 5 "_law_mean" ["pairs"] (spP K 1 wf__law_mean) :=
  ⟨f, fd, fnP F sc__law_mean (fun cdv A outer s H E hr => der__law_mean T C__law_sum C__law_fu_times C__law_fu_part f cdv A outer s H E hr) pu, hm, F.kp, F.bindsN (ps := ["pairs"]) fun _ _ _ _ _ _ us hl => match us, hl with | [_], _ => rfl⟩
/-! ### _law_between -/
abbrev N__law_between : List Str := ["pairs", "middle", "told", "below", "many", "one"]
theorem sc__law_between : FnScope N__law_between ["pairs", "middle"] (defScope (top 40)) := ⟨rfl, rfl, rfl, by decide +kernel, rfl, by decide +kernel, by decide +kernel⟩
def ws__law_between : WS := (wSeq (wSet 2 (wLe (wLc (wSq (wVar 0)) (wgT 2 (wgCons (wgN 4) (wgCons (wgN 5) wgNil))) wYes (wVar 5) [4, 5]))) (wSeq (wIfS (wB (wOp dEq (wLe (wLc (wSq (wVar 2)) (wgN 5) (wB (wOp dNe (wVar 5) (wOp dIx (wVar 2) (wC (.int 0))))) (wVar 5) [5])) (wLe (wSz wNil)))) (wRet (wOp dEq (wVar 1) (wOp dIx (wVar 2) (wC (.int 0))))) wNext) (wSeq (wSet 3 (wLe (wLc (wSq (wVar 2)) (wgN 5) (wTr (wFn 2 wf__law_fu_below (wCons (wVar 5) (wCons (wVar 1) wNil)))) (wVar 5) [5]))) (wRet (wAndV (wOp dNe (wVar 3) (wLe (wSz wNil))) (wOp dNe (wLe (wLc (wSq (wVar 2)) (wgN 5) (wTr (wFn 2 wf__law_fu_below (wCons (wVar 1) (wCons (wVar 5) wNil)))) (wVar 5) [5])) (wLe (wSz wNil))))))))
theorem der__law_between (T : Tb mg) (C__law_fu_below : Cal P w K mg base 1 "_law_fu_below" ["one", "other"] (spP K 2 wf__law_fu_below)) (f : Addr) (cdv : Value) (A : Around) (outer : List Env) (s : Shared) (H : Hp) (E : XK) (hr : Room 1 (A.deeper (envOfC "_law_between" (defScope (top 40)) s.heap.objs.size f cdv))) : PSs (cxOf CX0 P w K mg base N__law_between "_law_between" (defScope (top 40)) f cdv A outer s H E).nox (defBody (top 40)) (lS K ws__law_between) :=
  (s_cons (s_set (i := 2) sc__law_between.nd rfl (by first | exact Or.inl rfl | exact Or.inr rfl) (d_lL (l_lc (own := [("many", 4), ("one", 5)]) rfl sc__law_between.nd (i_seq (d_var (pv 0))) (blkOk_by (N := N__law_between) (sc := (defScope (top 40))) (by decide +kernel)) (fun _ _ _ _ _ => (g_tup (n := 2) rfl (gs_cons (g_name (i := 4) sc__law_between.nd rfl (by first | exact Or.inl rfl | exact Or.inr rfl)) (gs_cons (g_name (i := 5) sc__law_between.nd rfl (by first | exact Or.inl rfl | exact Or.inr rfl)) gs_nil)) (pg_tup rfl (gs_cons (g_name (i := 4) sc__law_between.nd rfl (by first | exact Or.inl rfl | exact Or.inr rfl)) (gs_cons (g_name (i := 5) sc__law_between.nd rfl (by first | exact Or.inl rfl | exact Or.inr rfl)) gs_nil))))) (fun _ _ _ _ _ => ts_nil) (fun _ _ _ _ _ => (d_var (pv 5)))))) (s_cons (s_if (t_cmp (op_eqD hr.units) snd_eq (d_lL (l_lc (own := [("one", 5)]) rfl sc__law_between.nd (i_seq (d_var (pv 2))) (blkOk_by (N := N__law_between) (sc := (defScope (top 40))) (by decide +kernel)) (fun _ _ _ _ _ => (g_name (i := 5) sc__law_between.nd rfl (by first | exact Or.inl rfl | exact Or.inr rfl))) (fun _ _ _ _ _ => (ts_one (t_cmp (op_neD hr.units) snd_ne (d_var (pv 5)) (d_ix (d_var (pv 2)) d_int) (nomark _)))) (fun _ _ _ _ _ => (d_var (pv 5))))) (d_lL (l_lst a_nil)) (nomark _)) (s_one (s_ret (d_cmp (op_eqD hr.units) snd_eq (d_var (pv 1)) (d_ix (d_var (pv 2)) d_int) (nomark _)))) s_nil) (s_cons (s_lc (i := 3) (own := [("one", 5)]) rfl sc__law_between.nd rfl rfl (sw_true rfl rfl rfl (by decide +kernel)) (i_seq (d_var (pv 2))) (blkOk_by (N := N__law_between) (sc := (defScope (top 40))) (by decide +kernel)) (fun _ _ _ _ _ => (g_name (i := 5) sc__law_between.nd rfl (by first | exact Or.inl rfl | exact Or.inr rfl))) (fun _ _ _ _ _ => (ts_one (t_tru (c_call C__law_fu_below (hr.mono (by decide)) (a_cons (d_var (pv 5)) (a_cons (d_var (pv 1)) a_nil)))))) (fun _ _ _ _ _ => (d_var (pv 5)))) (s_one (s_ret (d_and (d_cmp (op_neD hr.units) snd_ne (d_var (pv 3)) (d_lL (l_lst a_nil)) (nomark _)) (d_one (d_cmp (op_neD hr.units) snd_ne (d_lL (l_lc (own := [("one", 5)]) rfl sc__law_between.nd (i_seq (d_var (pv 2))) (blkOk_by (N := N__law_between) (sc := (defScope (top 40))) (by decide +kernel)) (fun _ _ _ _ _ => (g_name (i := 5) sc__law_between.nd rfl (by first | exact Or.inl rfl | exact Or.inr rfl))) (fun _ _ _ _ _ => (ts_one (t_tru (c_call C__law_fu_below (hr.mono (by decide)) (a_cons (d_var (pv 1)) (a_cons (d_var (pv 5)) a_nil)))))) (fun _ _ _ _ _ => (d_var (pv 5))))) (d_lL (l_lst a_nil)) (nomark _)))))))))
theorem ok__law_between (T : Tb mg) (C__law_fu_below : Cal P w K mg base 1 "_law_fu_below" ["one", "other"] (spP K 2 wf__law_fu_below)) {f : Addr} {fd : FuncData} (F : FunD K "_law_between" "_law_between" (defArgs (top 40)) (defBody (top 40)) (defScope (top 40)) [] [] f fd) (hm : mg "_law_between" = some (.ref f)) (pu : ∀ ds Q', ds.length = 2 → wf__law_between ds Q' → ws__law_between (edP Q') (enP N__law_between ds)) : Cal P w K mg base 2 "_law_between" ["pairs", "middle"] (spP K 2 wf__law_between) :=
  ⟨f, fd, fnP F sc__law_between (fun cdv A outer s H E hr => der__law_between T C__law_fu_below f cdv A outer s H E hr) pu, hm, F.kp, F.bindsN (ps := ["pairs", "middle"]) fun _ _ _ _ _ _ us hl => match us, hl with | [_, _], _ => rfl⟩
/-! ### _law_right -/
abbrev N__law_right : List Str := ["jug", "size", "many", "pairs", "turn", "fractions", "told", "first", "low", "number", "more", "left", "factor", "often", "one", "other", "pair"]
theorem sc__law_right : FnScope N__law_right ["jug"] (defScope (top 41)) := ⟨rfl, rfl, rfl, by decide +kernel, rfl, by decide +kernel, by decide +kernel⟩
def ws__law_right : WS := (wSeq (wAsgT (wTup (wCons (wFnJ 0 2 wf__law_sip (wCons (wLe (wSz (wCons (wC (.int 1)) (wCons (wC (.int 4)) (wCons (wC (.int 100)) (wCons (wC (.int 1000)) wNil)))))) wNil)) (wCons (wOp dAdd (wC (.int 1)) (wFnJ 0 2 wf__law_pour (wCons (wC (.int 12)) wNil))) wNil))) (wgT 2 (wgCons (wgN 1) (wgCons (wgN 2) wgNil)))) (wSeq (wSetOwn 3 (wSz wNil)) (wSeq (wFor (wRg1 (wCons (wVar 2) wNil)) (wgN 4) (wApp 3 (wTup (wCons (wFnJ 0 2 wf__law_sip (wCons (wLe (wSz (wCons (wC (.int 1)) (wCons (wC (.int 1)) (wCons (wC (.int 2)) (wCons (wC (.int 5)) (wCons (wOp dPow (wC (.int 10)) (wC (.int 9))) (wCons (wOp dAdd (wC (.int 1)) (wFnJ 0 2 wf__law_pour (wCons (wC (.int 1000)) wNil))) wNil)))))))) wNil)) (wCons (wFnJ 0 2 wf__law_ta_fraction (wCons (wVar 1) wNil)) wNil))))) (wFrz 3 (wSeq (wPar 5 6 (wCl dTupOf (wCons (wLe (wLc (wSq (wVar 3)) (wgT 2 (wgCons (wgN 13) (wgCons (wgN 14) wgNil))) wYes (wVar 14) [13, 14])) wNil)) (wFn 1 wf_mean (wCons (wCl dTupOf (wCons (wVar 3) wNil)) wNil))) (wSeq (wIfS (wOr (wB (wOp dNe (wFn 1 wf_added (wCons (wVar 5) wNil)) (wFn 1 wf__law_sum (wCons (wVar 5) wNil)))) (wOr (wB (wOp dNe (wVar 6) (wFn 1 wf__law_mean (wCons (wVar 3) wNil)))) (wNot (wTr (wFn 2 wf__law_between (wCons (wVar 3) (wCons (wVar 6) wNil))))))) (wRet (wC (.bool false))) wNext) (wSeq (wSet 7 (wOp dIx (wOp dIx (wVar 3) (wC (.int 0))) (wC (.int 1)))) (wSeq (wIfS (wOr (wB (wOp dNe (wFn 1 wf_mean (wCons (wCl dTupOf (wCons (wFnJ 0 2 wf__law_stirred (wCons (wVar 3) wNil)) wNil)) wNil)) (wVar 6))) (wB (wOp dNe (wFn 1 wf_mean (wCons (wTup (wCons (wTup (wCons (wC (.int 7)) (wCons (wVar 7) wNil))) (wCons (wTup (wCons (wC (.int 5)) (wCons (wVar 7) wNil))) wNil))) wNil)) (wVar 7)))) (wRet (wC (.bool false))) wNext) (wSeq (wSet 8 (wLe (wLc (wSq (wVar 3)) (wgT 2 (wgCons (wgN 13) (wgCons (wgN 14) wgNil))) (wB (wOp dLt (wVar 13) (wOp dPow (wC (.int 10)) (wC (.int 6))))) (wTup (wCons (wVar 13) (wCons (wVar 14) wNil))) [13, 14]))) (wSeq (wIfS (wB (wOp dNe (wVar 8) (wLe (wSz wNil)))) (wSeq (wSet 9 (wOp dAdd (wC (.int 2)) (wFnJ 0 2 wf__law_pour (wCons (wC (.int 900)) wNil)))) (wSeq (wIfS (wB (wOp dNe (wFn 1 wf_mean (wCons (wCl dTupOf (wCons (wLe (wLc (wSq (wVar 8)) (wgT 2 (wgCons (wgN 13) (wgCons (wgN 14) wgNil))) wYes (wTup (wCons (wOp dMul (wVar 9) (wVar 13)) (wCons (wVar 14) wNil))) [13, 14])) wNil)) wNil)) (wFn 1 wf_mean (wCons (wCl dTupOf (wCons (wVar 8) wNil)) wNil)))) (wRet (wC (.bool false))) wNext) (wIfS (wB (wOp dNe (wFn 1 wf_mean (wCons (wCl dTupOf (wCons (wOp dAdd (wVar 8) (wSl (wVar 8) wNoP (wPart (wC (.int 1))))) wNil)) wNil)) (wFn 1 wf_mean (wCons (wCl dTupOf (wCons (wOp dAdd (wLe (wSz (wCons (wTup (wCons (wOp dMul (wC (.int 2)) (wOp dIx (wOp dIx (wVar 8) (wC (.int 0))) (wC (.int 0)))) (wCons (wOp dIx (wOp dIx (wVar 8) (wC (.int 0))) (wC (.int 1))) wNil))) wNil))) (wSl (wVar 8) (wPart (wC (.int 1))) wNoP)) wNil)) wNil)))) (wRet (wC (.bool false))) wNext))) wNext) (wSeq (wSet 10 (wLe (wLc (wRg1 (wCons (wVar 2) wNil)) (wgN 4) wYes (wFnJ 0 2 wf__law_ta_fraction (wCons (wVar 1) wNil)) [4]))) (wSeq (wSet 11 (wFn 1 wf_mean (wCons (wCl dTupOf (wCons (wLe (wLc (wZip (wCons (wVar 3) (wCons (wVar 10) wNil))) (wgT 2 (wgCons (wgT 2 (wgCons (wgN 13) (wgCons (wgN 14) wgNil))) (wgCons (wgN 15) wgNil))) wYes (wTup (wCons (wVar 13) (wCons (wFn 2 wf_plus (wCons (wVar 14) (wCons (wVar 15) wNil))) wNil))) [15, 13, 14])) wNil)) wNil))) (wSeq (wIfS (wB (wOp dNe (wVar 11) (wFn 2 wf_plus (wCons (wVar 6) (wCons (wFn 1 wf_mean (wCons (wCl dTupOf (wCons (wLe (wLc (wZip (wCons (wVar 3) (wCons (wVar 10) wNil))) (wgT 2 (wgCons (wgN 16) (wgCons (wgN 15) wgNil))) wYes (wTup (wCons (wOp dIx (wVar 16) (wC (.int 0))) (wCons (wVar 15) wNil))) [16, 15])) wNil)) wNil)) wNil))))) (wRet (wC (.bool false))) wNext) (wSeq (wSet 12 (wFnJ 0 2 wf__law_ta_fraction (wCons (wC (.int 30)) wNil))) (wRet (wOp dEq (wFn 1 wf_mean (wCons (wCl dTupOf (wCons (wLe (wLc (wSq (wVar 3)) (wgT 2 (wgCons (wgN 13) (wgCons (wgN 14) wgNil))) wYes (wTup (wCons (wVar 13) (wCons (wFn 2 wf_times (wCons (wVar 12) (wCons (wVar 14) wNil))) wNil))) [13, 14])) wNil)) wNil)) (wFn 2 wf_times (wCons (wVar 12) (wCons (wVar 6) wNil)))))))))))))))))))
theorem der__law_right (T : Tb mg) (C__law_pour : Cal P w K mg base 1 "_law_pour" ["jug", "total_v"] (spJ K 2 wf__law_pour)) (C__law_sip : Cal P w K mg base 2 "_law_sip" ["jug", "items"] (spJ K 2 wf__law_sip)) (C__law_ta_fraction : Cal P w K mg base 3 "_law_ta_fraction" ["jug", "size"] (spJ K 2 wf__law_ta_fraction)) (C_mean : Cal P w K mg base 6 "mean" ["pairs"] (spP K 1 wf_mean)) (C__law_between : Cal P w K mg base 2 "_law_between" ["pairs", "middle"] (spP K 2 wf__law_between)) (C__law_mean : Cal P w K mg base 5 "_law_mean" ["pairs"] (spP K 1 wf__law_mean)) (C_added : Cal P w K mg base 5 "added" ["fractions"] (spP K 1 wf_added)) (C__law_sum : Cal P w K mg base 4 "_law_sum" ["fractions"] (spP K 1 wf__law_sum)) (C__law_stirred : Cal P w K mg base 2 "_law_stirred" ["jug", "items"] (spJ K 2 wf__law_stirred)) (C_plus : Cal P w K mg base 6 "plus" ["one", "other"] (spP K 2 wf_plus)) (C_times : Cal P w K mg base 6 "times" ["one", "other"] (spP K 2 wf_times)) (f : Addr) (cdv : Value) (A : Around) (outer : List Env) (s : Shared) (H : Hp) (E : XK) (hr : Room 6 (A.deeper (envOfC "_law_right" (defScope (top 41)) s.heap.objs.size f cdv))) : PSs (cxOf CX0 P w K mg base N__law_right "_law_right" (defScope (top 41)) f cdv A outer s H E).nox (defBody (top 41)) (lS K ws__law_right) :=
  (s_cons (s_asgT (ps_asg (d_tup (a_cons (c_callJ (i := 0) C__law_sip (hr.mono (by decide)) (pv 0) (a_cons (d_lL (l_lst (a_cons d_int (a_cons d_int (a_cons d_int (a_cons d_int a_nil)))))) a_nil)) (a_cons (d_op op_addD snd_add d_int (c_callJ (i := 0) C__law_pour (hr.mono (by decide)) (pv 0) (a_cons d_int a_nil))) a_nil))) (g_tup (n := 2) rfl (gs_cons (g_name (i := 1) sc__law_right.nd rfl (by first | exact Or.inl rfl | exact Or.inr rfl)) (gs_cons (g_name (i := 2) sc__law_right.nd rfl (by first | exact Or.inl rfl | exact Or.inr rfl)) gs_nil)) (pg_tup rfl (gs_cons (g_name (i := 1) sc__law_right.nd rfl (by first | exact Or.inl rfl | exact Or.inr rfl)) (gs_cons (g_name (i := 2) sc__law_right.nd rfl (by first | exact Or.inl rfl | exact Or.inr rfl)) gs_nil)))))) (s_cons (s_setOwn (i := 3) sc__law_right.nd rfl (by first | exact Or.inl rfl | exact Or.inr rfl) (l_lst a_nil)) (s_cons (s_for PassesOwn.never rfl (i_rng1 T.b_range (a_cons (d_var (pv 2)) a_nil)) (g_name (i := 4) sc__law_right.nd rfl (by first | exact Or.inl rfl | exact Or.inr rfl)) (s_one (s_app (i := 3) (pv 3) (d_tup (a_cons (c_callJ (i := 0) C__law_sip (hr.mono (by decide)) (pv 0) (a_cons (d_lL (l_lst (a_cons d_int (a_cons d_int (a_cons d_int (a_cons d_int (a_cons (d_op op_powW snd_pow d_int d_int) (a_cons (d_op op_addD snd_add d_int (c_callJ (i := 0) C__law_pour (hr.mono (by decide)) (pv 0) (a_cons d_int a_nil))) a_nil)))))))) a_nil)) (a_cons (c_callJ (i := 0) C__law_ta_fraction (hr.mono (by decide)) (pv 0) (a_cons (d_var (pv 1)) a_nil)) a_nil))) rfl (pe_bm PySem.F.plainAttrs_list PySem.F.slot_list_append PySem.F.type_list_append mt_append (pv 3) (pa_cons (d_tup (a_cons (c_callJ (i := 0) C__law_sip (hr.mono (by decide)) (pv 0) (a_cons (d_lL (l_lst (a_cons d_int (a_cons d_int (a_cons d_int (a_cons d_int (a_cons (d_op op_powW snd_pow d_int d_int) (a_cons (d_op op_addD snd_add d_int (c_callJ (i := 0) C__law_pour (hr.mono (by decide)) (pv 0) (a_cons d_int a_nil))) a_nil)))))))) a_nil)) (a_cons (c_callJ (i := 0) C__law_ta_fraction (hr.mono (by decide)) (pv 0) (a_cons (d_var (pv 1)) a_nil)) a_nil))) pa_nil))))) (ss_frz (i := 3) (s_cons (s_par (ps_par (i := 5) (j := 6) rfl sc__law_right.nd rfl rfl (by decide) rfl rfl (pa_cons (d_cty call_tuple_of snd_tupOf T.b_tuple (by decide +kernel) (a_cons (d_lL (l_lc (own := [("often", 13), ("one", 14)]) rfl sc__law_right.nd (i_seq (d_var (pv 3))) (blkOk_by (N := N__law_right) (sc := (defScope (top 41))) (by decide +kernel)) (fun _ _ _ _ _ => (g_tup (n := 2) rfl (gs_cons (g_name (i := 13) sc__law_right.nd rfl (by first | exact Or.inl rfl | exact Or.inr rfl)) (gs_cons (g_name (i := 14) sc__law_right.nd rfl (by first | exact Or.inl rfl | exact Or.inr rfl)) gs_nil)) (pg_tup rfl (gs_cons (g_name (i := 13) sc__law_right.nd rfl (by first | exact Or.inl rfl | exact Or.inr rfl)) (gs_cons (g_name (i := 14) sc__law_right.nd rfl (by first | exact Or.inl rfl | exact Or.inr rfl)) gs_nil))))) (fun _ _ _ _ _ => ts_nil) (fun _ _ _ _ _ => (d_var (pv 14))))) a_nil)) (pa_cons (c_call C_mean (hr.mono (by decide)) (a_cons (d_cty call_tuple_of snd_tupOf T.b_tuple (by decide +kernel) (a_cons (d_var (pv 3)) a_nil)) a_nil)) pa_nil)) (by rfl))) (s_cons (s_if (PW.pt (t_or (t_cmp (op_neD hr.units) snd_ne (c_call C_added (hr.mono (by decide)) (a_cons (d_var (pv 5)) a_nil)) (c_call C__law_sum (hr.mono (by decide)) (a_cons (d_var (pv 5)) a_nil)) (nomark _)) (t_or (t_cmp (op_neD hr.units) snd_ne (d_var (pv 6)) (c_call C__law_mean (hr.mono (by decide)) (a_cons (d_var (pv 3)) a_nil)) (nomark _)) (t_or1 (t_not (t_tru (c_call C__law_between (hr.mono (by decide)) (a_cons (d_var (pv 3)) (a_cons (d_var (pv 6)) a_nil))))))))) (s_one (s_ret d_bl)) s_nil) (s_cons (s_set (i := 7) sc__law_right.nd rfl (by first | exact Or.inl rfl | exact Or.inr rfl) (d_ix (d_ix (d_var (pv 3)) d_int) d_int)) (s_cons (s_if (PW.pt (t_or (t_cmp (op_neD hr.units) snd_ne (c_call C_mean (hr.mono (by decide)) (a_cons (d_cty call_tuple_of snd_tupOf T.b_tuple (by decide +kernel) (a_cons (c_callJ (i := 0) C__law_stirred (hr.mono (by decide)) (pv 0) (a_cons (d_var (pv 3)) a_nil)) a_nil)) a_nil)) (d_var (pv 6)) (nomark _)) (t_or1 (t_cmp (op_neD hr.units) snd_ne (c_call C_mean (hr.mono (by decide)) (a_cons (d_tup (a_cons (d_tup (a_cons d_int (a_cons (d_var (pv 7)) a_nil))) (a_cons (d_tup (a_cons d_int (a_cons (d_var (pv 7)) a_nil))) a_nil))) a_nil)) (d_var (pv 7)) (nomark _))))) (s_one (s_ret d_bl)) s_nil) (s_cons (s_lc (i := 8) (own := [("often", 13), ("one", 14)]) rfl sc__law_right.nd rfl rfl (sw_true rfl rfl rfl (by decide +kernel)) (i_seq (d_var (pv 3))) (blkOk_by (N := N__law_right) (sc := (defScope (top 41))) (by decide +kernel)) (fun _ _ _ _ _ => (g_tup (n := 2) rfl (gs_cons (g_name (i := 13) sc__law_right.nd rfl (by first | exact Or.inl rfl | exact Or.inr rfl)) (gs_cons (g_name (i := 14) sc__law_right.nd rfl (by first | exact Or.inl rfl | exact Or.inr rfl)) gs_nil)) (pg_tup rfl (gs_cons (g_name (i := 13) sc__law_right.nd rfl (by first | exact Or.inl rfl | exact Or.inr rfl)) (gs_cons (g_name (i := 14) sc__law_right.nd rfl (by first | exact Or.inl rfl | exact Or.inr rfl)) gs_nil))))) (fun _ _ _ _ _ => (ts_one (t_cmp (op_ltD hr.units0) snd_lt (d_var (pv 13)) (d_op op_powW snd_pow d_int d_int) (nomark _)))) (fun _ _ _ _ _ => (d_tup (a_cons (d_var (pv 13)) (a_cons (d_var (pv 14)) a_nil))))) (s_cons (s_if (t_cmp (op_neD hr.units) snd_ne (d_var (pv 8)) (d_lL (l_lst a_nil)) (nomark _)) (s_cons (s_set (i := 9) sc__law_right.nd rfl (by first | exact Or.inl rfl | exact Or.inr rfl) (d_op op_addD snd_add d_int (c_callJ (i := 0) C__law_pour (hr.mono (by decide)) (pv 0) (a_cons d_int a_nil)))) (s_cons (s_if (t_cmp (op_neD hr.units) snd_ne (c_call C_mean (hr.mono (by decide)) (a_cons (d_cty call_tuple_of snd_tupOf T.b_tuple (by decide +kernel) (a_cons (d_lL (l_lc (own := [("often", 13), ("one", 14)]) rfl sc__law_right.nd (i_seq (d_var (pv 8))) (blkOk_by (N := N__law_right) (sc := (defScope (top 41))) (by decide +kernel)) (fun _ _ _ _ _ => (g_tup (n := 2) rfl (gs_cons (g_name (i := 13) sc__law_right.nd rfl (by first | exact Or.inl rfl | exact Or.inr rfl)) (gs_cons (g_name (i := 14) sc__law_right.nd rfl (by first | exact Or.inl rfl | exact Or.inr rfl)) gs_nil)) (pg_tup rfl (gs_cons (g_name (i := 13) sc__law_right.nd rfl (by first | exact Or.inl rfl | exact Or.inr rfl)) (gs_cons (g_name (i := 14) sc__law_right.nd rfl (by first | exact Or.inl rfl | exact Or.inr rfl)) gs_nil))))) (fun _ _ _ _ _ => ts_nil) (fun _ _ _ _ _ => (d_tup (a_cons (d_op op_mulD snd_mul (d_var (pv 9)) (d_var (pv 13))) (a_cons (d_var (pv 14)) a_nil)))))) a_nil)) a_nil)) (c_call C_mean (hr.mono (by decide)) (a_cons (d_cty call_tuple_of snd_tupOf T.b_tuple (by decide +kernel) (a_cons (d_var (pv 8)) a_nil)) a_nil)) (nomark _)) (s_one (s_ret d_bl)) s_nil) (s_one (s_if (t_cmp (op_neD hr.units) snd_ne (c_call C_mean (hr.mono (by decide)) (a_cons (d_cty call_tuple_of snd_tupOf T.b_tuple (by decide +kernel) (a_cons (d_op op_addD snd_add (d_var (pv 8)) (d_sl (d_var (pv 8)) o_none (o_some d_int))) a_nil)) a_nil)) (c_call C_mean (hr.mono (by decide)) (a_cons (d_cty call_tuple_of snd_tupOf T.b_tuple (by decide +kernel) (a_cons (d_op op_addD snd_add (d_lL (l_lst (a_cons (d_tup (a_cons (d_op op_mulD snd_mul d_int (d_ix (d_ix (d_var (pv 8)) d_int) d_int)) (a_cons (d_ix (d_ix (d_var (pv 8)) d_int) d_int) a_nil))) a_nil))) (d_sl (d_var (pv 8)) (o_some d_int) o_none)) a_nil)) a_nil)) (nomark _)) (s_one (s_ret d_bl)) s_nil)))) s_nil) (s_cons (s_lc (i := 10) (own := [("turn", 4)]) rfl sc__law_right.nd rfl rfl (sw_true rfl rfl rfl (by decide +kernel)) (i_rng1 T.b_range (a_cons (d_var (pv 2)) a_nil)) (blkOk_by (N := N__law_right) (sc := (defScope (top 41))) (by decide +kernel)) (fun _ _ _ _ _ => (g_name (i := 4) sc__law_right.nd rfl (by first | exact Or.inl rfl | exact Or.inr rfl))) (fun _ _ _ _ _ => ts_nil) (fun _ _ _ _ _ => (c_callJ (i := 0) C__law_ta_fraction (hr.mono (by decide)) (pv 0) (a_cons (d_var (pv 1)) a_nil)))) (s_cons (s_set (i := 11) sc__law_right.nd rfl (by first | exact Or.inl rfl | exact Or.inr rfl) (c_call C_mean (hr.mono (by decide)) (a_cons (d_cty call_tuple_of snd_tupOf T.b_tuple (by decide +kernel) (a_cons (d_lL (l_lc (own := [("other", 15), ("often", 13), ("one", 14)]) rfl sc__law_right.nd (i_zip T.b_zip (a_cons (d_var (pv 3)) (a_cons (d_var (pv 10)) a_nil))) (blkOk_by (N := N__law_right) (sc := (defScope (top 41))) (by decide +kernel)) (fun _ _ _ _ _ => (g_tup (n := 2) rfl (gs_cons (g_tup (n := 2) rfl (gs_cons (g_name (i := 13) sc__law_right.nd rfl (by first | exact Or.inl rfl | exact Or.inr rfl)) (gs_cons (g_name (i := 14) sc__law_right.nd rfl (by first | exact Or.inl rfl | exact Or.inr rfl)) gs_nil)) (pg_tup rfl (gs_cons (g_name (i := 13) sc__law_right.nd rfl (by first | exact Or.inl rfl | exact Or.inr rfl)) (gs_cons (g_name (i := 14) sc__law_right.nd rfl (by first | exact Or.inl rfl | exact Or.inr rfl)) gs_nil)))) (gs_cons (g_name (i := 15) sc__law_right.nd rfl (by first | exact Or.inl rfl | exact Or.inr rfl)) gs_nil)) (pg_tup rfl (gs_cons (g_tup (n := 2) rfl (gs_cons (g_name (i := 13) sc__law_right.nd rfl (by first | exact Or.inl rfl | exact Or.inr rfl)) (gs_cons (g_name (i := 14) sc__law_right.nd rfl (by first | exact Or.inl rfl | exact Or.inr rfl)) gs_nil)) (pg_tup rfl (gs_cons (g_name (i := 13) sc__law_right.nd rfl (by first | exact Or.inl rfl | exact Or.inr rfl)) (gs_cons (g_name (i := 14) sc__law_right.nd rfl (by first | exact Or.inl rfl | exact Or.inr rfl)) gs_nil)))) (gs_cons (g_name (i := 15) sc__law_right.nd rfl (by first | exact Or.inl rfl | exact Or.inr rfl)) gs_nil))))) (fun _ _ _ _ _ => ts_nil) (fun _ _ _ _ _ => (d_tup (a_cons (d_var (pv 13)) (a_cons (c_call C_plus (hr.mono (by decide)) (a_cons (d_var (pv 14)) (a_cons (d_var (pv 15)) a_nil))) a_nil)))))) a_nil)) a_nil))) (s_cons (s_if (t_cmp (op_neD hr.units) snd_ne (d_var (pv 11)) (c_call C_plus (hr.mono (by decide)) (a_cons (d_var (pv 6)) (a_cons (c_call C_mean (hr.mono (by decide)) (a_cons (d_cty call_tuple_of snd_tupOf T.b_tuple (by decide +kernel) (a_cons (d_lL (l_lc (own := [("pair", 16), ("other", 15)]) rfl sc__law_right.nd (i_zip T.b_zip (a_cons (d_var (pv 3)) (a_cons (d_var (pv 10)) a_nil))) (blkOk_by (N := N__law_right) (sc := (defScope (top 41))) (by decide +kernel)) (fun _ _ _ _ _ => (g_tup (n := 2) rfl (gs_cons (g_name (i := 16) sc__law_right.nd rfl (by first | exact Or.inl rfl | exact Or.inr rfl)) (gs_cons (g_name (i := 15) sc__law_right.nd rfl (by first | exact Or.inl rfl | exact Or.inr rfl)) gs_nil)) (pg_tup rfl (gs_cons (g_name (i := 16) sc__law_right.nd rfl (by first | exact Or.inl rfl | exact Or.inr rfl)) (gs_cons (g_name (i := 15) sc__law_right.nd rfl (by first | exact Or.inl rfl | exact Or.inr rfl)) gs_nil))))) (fun _ _ _ _ _ => ts_nil) (fun _ _ _ _ _ => (d_tup (a_cons (d_ix (d_var (pv 16)) d_int) (a_cons (d_var (pv 15)) a_nil)))))) a_nil)) a_nil)) a_nil))) (nomark _)) (s_one (s_ret d_bl)) s_nil) (s_cons (s_set (i := 12) sc__law_right.nd rfl (by first | exact Or.inl rfl | exact Or.inr rfl) (c_callJ (i := 0) C__law_ta_fraction (hr.mono (by decide)) (pv 0) (a_cons d_int a_nil))) (s_one (s_ret (d_cmp (op_eqD hr.units) snd_eq (c_call C_mean (hr.mono (by decide)) (a_cons (d_cty call_tuple_of snd_tupOf T.b_tuple (by decide +kernel) (a_cons (d_lL (l_lc (own := [("often", 13), ("one", 14)]) rfl sc__law_right.nd (i_seq (d_var (pv 3))) (blkOk_by (N := N__law_right) (sc := (defScope (top 41))) (by decide +kernel)) (fun _ _ _ _ _ => (g_tup (n := 2) rfl (gs_cons (g_name (i := 13) sc__law_right.nd rfl (by first | exact Or.inl rfl | exact Or.inr rfl)) (gs_cons (g_name (i := 14) sc__law_right.nd rfl (by first | exact Or.inl rfl | exact Or.inr rfl)) gs_nil)) (pg_tup rfl (gs_cons (g_name (i := 13) sc__law_right.nd rfl (by first | exact Or.inl rfl | exact Or.inr rfl)) (gs_cons (g_name (i := 14) sc__law_right.nd rfl (by first | exact Or.inl rfl | exact Or.inr rfl)) gs_nil))))) (fun _ _ _ _ _ => ts_nil) (fun _ _ _ _ _ => (d_tup (a_cons (d_var (pv 13)) (a_cons (c_call C_times (hr.mono (by decide)) (a_cons (d_var (pv 12)) (a_cons (d_var (pv 14)) a_nil))) a_nil)))))) a_nil)) a_nil)) (c_call C_times (hr.mono (by decide)) (a_cons (d_var (pv 12)) (a_cons (d_var (pv 6)) a_nil))) (nomark _))))))))))))))))))
theorem ok__law_right (T : Tb mg) (C__law_pour : Cal P w K mg base 1 "_law_pour" ["jug", "total_v"] (spJ K 2 wf__law_pour)) (C__law_sip : Cal P w K mg base 2 "_law_sip" ["jug", "items"] (spJ K 2 wf__law_sip)) (C__law_ta_fraction : Cal P w K mg base 3 "_law_ta_fraction" ["jug", "size"] (spJ K 2 wf__law_ta_fraction)) (C_mean : Cal P w K mg base 6 "mean" ["pairs"] (spP K 1 wf_mean)) (C__law_between : Cal P w K mg base 2 "_law_between" ["pairs", "middle"] (spP K 2 wf__law_between)) (C__law_mean : Cal P w K mg base 5 "_law_mean" ["pairs"] (spP K 1 wf__law_mean)) (C_added : Cal P w K mg base 5 "added" ["fractions"] (spP K 1 wf_added)) (C__law_sum : Cal P w K mg base 4 "_law_sum" ["fractions"] (spP K 1 wf__law_sum)) (C__law_stirred : Cal P w K mg base 2 "_law_stirred" ["jug", "items"] (spJ K 2 wf__law_stirred)) (C_plus : Cal P w K mg base 6 "plus" ["one", "other"] (spP K 2 wf_plus)) (C_times : Cal P w K mg base 6 "times" ["one", "other"] (spP K 2 wf_times)) {f : Addr} {fd : FuncData} (F : FunD K "_law_right" "_law_right" (defArgs (top 41)) (defBody (top 41)) (defScope (top 41)) [] [] f fd) (hm : mg "_law_right" = some (.ref f)) (pu : ∀ dj ds Q', ds.length + 1 = 1 → wf__law_right dj ds Q' → ws__law_right (edJ Q') (enJ N__law_right dj ds)) : Cal P w K mg base 7 "_law_right" ["jug"] (spJ K 1 wf__law_right) :=
  ⟨f, fd, fnJ F sc__law_right rfl (fun cdv A outer s H E hr => der__law_right T C__law_pour C__law_sip C__law_ta_fraction C_mean C__law_between C__law_mean C_added C__law_sum C__law_stirred C_plus C_times f cdv A outer s H E hr) pu, hm, F.kp, F.bindsN (ps := ["jug"]) fun _ _ _ _ _ _ us hl => match us, hl with | [_], _ => rfl⟩
/-! ### law -/
abbrev N_law : List Str := ["script", "spot", "jug", "turn", "told"]
theorem sc_law : FnScope N_law ["script"] (defScope (top 42)) := ⟨rfl, rfl, rfl, by decide +kernel, rfl, by decide +kernel, by decide +kernel⟩
def ws_law : WS := (wSeq (wFor (wRg1 (wCons (wCl dMax2 (wCons (wC (.int 1)) (wCons (wCl dMin2 (wCons (wC (.int 3)) (wCons (wLenS 0) wNil))) wNil))) wNil)) (wgN 1) (wSeq (wSetOwn 2 (wFnS 0 2 wf__law_jug (wCons (wVar 1) wNil))) (wFor (wRg1 (wCons (wC (.int 4)) wNil)) (wgN 3) (wIfS (wNot (wTr (wFnJ 2 1 wf__law_right wNil))) (wRet (wC (.bool false))) wNext)))) (wSeq (wIfS (wOr (wB (wOp dNe (wFn 1 wf_added (wCons (wTup (wCons (wTup (wCons (wC (.int 1)) (wCons (wC (.int 2)) wNil))) (wCons (wTup (wCons (wC (.int 1)) (wCons (wC (.int 3)) wNil))) (wCons (wTup (wCons (wC (.int 1)) (wCons (wC (.int 6)) wNil))) wNil)))) wNil)) (wTup (wCons (wC (.int 1)) (wCons (wC (.int 1)) wNil))))) (wOr (wB (wOp dNe (wFn 1 wf_added (wCons (wTup wNil) wNil)) (wTup (wCons (wC (.int 0)) (wCons (wC (.int 1)) wNil))))) (wB (wOp dNe (wFn 1 wf_added (wCons (wOp dMul (wTup (wCons (wTup (wCons (wC (.int 1)) (wCons (wC (.int 100)) wNil))) wNil)) (wC (.int 100))) wNil)) (wTup (wCons (wC (.int 1)) (wCons (wC (.int 1)) wNil))))))) (wRet (wC (.bool false))) wNext) (wSeq (wSet 4 (wLe (wSz (wCons (wFn 1 wf_mean (wCons (wTup (wCons (wTup (wCons (wC (.int 1)) (wCons (wTup (wCons (wC (.int 2)) (wCons (wC (.int 1)) wNil))) wNil))) (wCons (wTup (wCons (wC (.int 3)) (wCons (wTup (wCons (wC (.int 4)) (wCons (wC (.int 1)) wNil))) wNil))) wNil))) wNil)) (wCons (wFn 1 wf_mean (wCons (wTup (wCons (wTup (wCons (wC (.int 2)) (wCons (wTup (wCons (wC (.int 1)) (wCons (wC (.int 2)) wNil))) wNil))) (wCons (wTup (wCons (wC (.int 1)) (wCons (wTup (wCons (wC (.int 1)) (wCons (wC (.int 5)) wNil))) wNil))) wNil))) wNil)) (wCons (wFn 1 wf_mean (wCons (wOp dMul (wTup (wCons (wTup (wCons (wOp dPow (wC (.int 10)) (wC (.int 9))) (wCons (wTup (wCons (wC (.int 1)) (wCons (wC (.int 3)) wNil))) wNil))) wNil)) (wC (.int 100))) wNil)) wNil)))))) (wRet (wOp dEq (wVar 4) (wLe (wSz (wCons (wTup (wCons (wC (.int 7)) (wCons (wC (.int 2)) wNil))) (wCons (wTup (wCons (wC (.int 2)) (wCons (wC (.int 5)) wNil))) (wCons (wTup (wCons (wC (.int 1)) (wCons (wC (.int 3)) wNil))) wNil))))))))))
theorem der_law (T : Tb mg) (C__law_jug : Cal P w K mg base 1 "_law_jug" ["script", "spot"] (spS K 2 wf__law_jug)) (C__law_right : Cal P w K mg base 7 "_law_right" ["jug"] (spJ K 1 wf__law_right)) (C_added : Cal P w K mg base 5 "added" ["fractions"] (spP K 1 wf_added)) (C_mean : Cal P w K mg base 6 "mean" ["pairs"] (spP K 1 wf_mean)) (f : Addr) (cdv : Value) (A : Around) (outer : List Env) (s : Shared) (H : Hp) (E : XK) (hr : Room 7 (A.deeper (envOfC "law" (defScope (top 42)) s.heap.objs.size f cdv))) : PSs (cxOf CX0 P w K mg base N_law "law" (defScope (top 42)) f cdv A outer s H E).nox (defBody (top 42)) (lS K ws_law) :=
  (s_cons (s_for PassesOwn.never rfl (i_rng1 T.b_range (a_cons (d_cb (call_max2 rfl) snd_max2 T.b_max (by decide +kernel) (a_cons d_int (a_cons (d_cb (call_min2 rfl) snd_min2 T.b_min (by decide +kernel) (a_cons d_int (a_cons (d_lenS (i := 0) T.b_len (pv 0)) a_nil))) a_nil))) a_nil)) (g_name (i := 1) sc_law.nd rfl (by first | exact Or.inl rfl | exact Or.inr rfl)) (s_cons (s_setOwn (i := 2) sc_law.nd rfl (by first | exact Or.inl rfl | exact Or.inr rfl) (c_callS (i := 0) C__law_jug (hr.mono (by decide)) (pv 0) (a_cons (d_var (pv 1)) a_nil))) (s_one (s_for PassesOwn.never rfl (i_rng1 T.b_range (a_cons d_int a_nil)) (g_name (i := 3) sc_law.nd rfl (by first | exact Or.inl rfl | exact Or.inr rfl)) (s_one (s_if (t_not (t_tru (c_callJ (i := 2) C__law_right (hr.mono (by decide)) (pv 2) a_nil))) (s_one (s_ret d_bl)) s_nil)))))) (s_cons (s_if (PW.pt (t_or (t_cmp (op_neD hr.units) snd_ne (c_call C_added (hr.mono (by decide)) (a_cons (d_tup (a_cons (d_tup (a_cons d_int (a_cons d_int a_nil))) (a_cons (d_tup (a_cons d_int (a_cons d_int a_nil))) (a_cons (d_tup (a_cons d_int (a_cons d_int a_nil))) a_nil)))) a_nil)) (d_tup (a_cons d_int (a_cons d_int a_nil))) (nomark _)) (t_or (t_cmp (op_neD hr.units) snd_ne (c_call C_added (hr.mono (by decide)) (a_cons (d_tup a_nil) a_nil)) (d_tup (a_cons d_int (a_cons d_int a_nil))) (nomark _)) (t_or1 (t_cmp (op_neD hr.units) snd_ne (c_call C_added (hr.mono (by decide)) (a_cons (d_op op_mulD snd_mul (d_tup (a_cons (d_tup (a_cons d_int (a_cons d_int a_nil))) a_nil)) d_int) a_nil)) (d_tup (a_cons d_int (a_cons d_int a_nil))) (nomark _)))))) (s_one (s_ret d_bl)) s_nil) (s_cons (s_set (i := 4) sc_law.nd rfl (by first | exact Or.inl rfl | exact Or.inr rfl) (d_lL (l_lst (a_cons (c_call C_mean (hr.mono (by decide)) (a_cons (d_tup (a_cons (d_tup (a_cons d_int (a_cons (d_tup (a_cons d_int (a_cons d_int a_nil))) a_nil))) (a_cons (d_tup (a_cons d_int (a_cons (d_tup (a_cons d_int (a_cons d_int a_nil))) a_nil))) a_nil))) a_nil)) (a_cons (c_call C_mean (hr.mono (by decide)) (a_cons (d_tup (a_cons (d_tup (a_cons d_int (a_cons (d_tup (a_cons d_int (a_cons d_int a_nil))) a_nil))) (a_cons (d_tup (a_cons d_int (a_cons (d_tup (a_cons d_int (a_cons d_int a_nil))) a_nil))) a_nil))) a_nil)) (a_cons (c_call C_mean (hr.mono (by decide)) (a_cons (d_op op_mulD snd_mul (d_tup (a_cons (d_tup (a_cons (d_op op_powW snd_pow d_int d_int) (a_cons (d_tup (a_cons d_int (a_cons d_int a_nil))) a_nil))) a_nil)) d_int) a_nil)) a_nil)))))) (s_one (s_ret (d_cmp (op_eqD hr.units) snd_eq (d_var (pv 4)) (d_lL (l_lst (a_cons (d_tup (a_cons d_int (a_cons d_int a_nil))) (a_cons (d_tup (a_cons d_int (a_cons d_int a_nil))) (a_cons (d_tup (a_cons d_int (a_cons d_int a_nil))) a_nil))))) (nomark _)))))))
theorem ok_law (T : Tb mg) (C__law_jug : Cal P w K mg base 1 "_law_jug" ["script", "spot"] (spS K 2 wf__law_jug)) (C__law_right : Cal P w K mg base 7 "_law_right" ["jug"] (spJ K 1 wf__law_right)) (C_added : Cal P w K mg base 5 "added" ["fractions"] (spP K 1 wf_added)) (C_mean : Cal P w K mg base 6 "mean" ["pairs"] (spP K 1 wf_mean)) {f : Addr} {fd : FuncData} (F : FunD K "law" "law" (defArgs (top 42)) (defBody (top 42)) (defScope (top 42)) [] [] f fd) (hm : mg "law" = some (.ref f)) (pu : ∀ ns ds Q', ds.length + 1 = 1 → wf_law ns ds Q' → ws_law (edP Q') (enS N_law ns ds)) : Cal P w K mg base 8 "law" ["script"] (spS K 1 wf_law) :=
  ⟨f, fd, fnS F sc_law rfl (fun cdv A outer s H E hr => der_law T C__law_jug C__law_right C_added C_mean f cdv A outer s H E hr) pu, hm, F.kp, F.bindsN (ps := ["script"]) fun _ _ _ _ _ _ us hl => match us, hl with | [_], _ => rfl⟩
end
end K13

set_option Elab.async false
set_option linter.all false
set_option maxRecDepth 100000
set_option maxHeartbeats 4000000
namespace K13
open PySem PySem.Spec PyProof.Rows L2 Pd
theorem pu_is_whole (ds Q) (hl : ds.length = 1) (h : wf_is_whole ds Q) : ws_is_whole (edP Q) (enP N_is_whole ds) := by
  obtain ⟨d, rfl, q⟩ := h
  cases d <;> exact ⟨_, rfl, _, rfl, _, rfl, by first | exact ⟨_, rfl, _, rfl, _, rfl, q⟩ | exact q⟩
theorem isI_int {i : Int} : isI (.int i) = (decide (-TL < i) && decide (i < TL)) := rfl
theorem pu_is_integer (ds Q) (hl : ds.length = 1) (h : wf_is_integer ds Q) : ws_is_integer (edP Q) (enP N_is_integer ds) := by
  obtain ⟨d, rfl, q⟩ := h
  simp only [ws_is_integer, N_is_integer, wf_is_whole, wVar, wC, wOp, wUn, wCl, wB, wTr, wAnd, wOr, wNot, wAndV, wOrV, wNotV, wIf, wCh, wNil, wCons, wTup, wLe, wSz, wFn, wFnJ, wNext, wSeq, wRet, wRetN, wDrop, wIfS, wSet, wSetOwn, wNever, wAug, wOpO, wOpR, wClO, wApp, wSetIt, wFrz, wFor, wRg1, wRg2, wSq, wEnum, wZip, wgN, wgT, wgNil, wgCons, wYes, wAsgT, wgLs, wLenS, wIxS, wFnS, wIsi, wListOf, wRev, edP, edJ, enP, enJ, enS, NotOwn, Flat, List.map_cons, List.map_nil, List.length_cons, List.length_nil, List.replicate_succ, List.replicate_zero, List.cons_append, List.nil_append, List.append_nil, List.set_cons_zero, List.set_cons_succ, List.getElem?_cons_zero, List.getElem?_cons_succ, Nat.reduceAdd, Nat.reduceSub, Option.some.injEq, Sl.imm.injEq, Sl.own.injEq, Sl.scr.injEq, exists_eq_left, exists_eq_left', exists_eq_right, exists_eq, exists_eq', exists_and_left, and_assoc, and_true, true_and, ne_eq, not_false_eq_true, Nat.succ_ne_zero, or_true, true_or, true_implies, forall_eq', forall_eq, PyData.int.injEq, PyData.bool.injEq, PyData.list.injEq, PyData.tuple.injEq, List.cons.injEq, i_add, i_iadd, i_sub, i_mul, i_mod, i_fdiv, i_fdivG, i_pow, i_neg, i_le, i_ge, i_gt, i_lt, i_eq, i_ne, i_intI, i_intB, i_abs, i_max, i_min, i_lenL, i_lenT, i_ixL, i_ixT, i_tupL, i_tupT, i_truB, Bool.not_true, Bool.not_false, Bool.false_eq_true, if_true, if_false, reduceIte]
  cases d with
  | int i =>
    rw [isI_int] at q
    simp only [isW, wVar, wC, wOp, wUn, wCl, wB, wTr, wAnd, wOr, wNot, wAndV, wOrV, wNotV, wIf, wCh, wNil, wCons, wTup, wLe, wSz, wFn, wFnJ, wNext, wSeq, wRet, wRetN, wDrop, wIfS, wSet, wSetOwn, wNever, wAug, wOpO, wOpR, wClO, wApp, wSetIt, wFrz, wFor, wRg1, wRg2, wSq, wEnum, wZip, wgN, wgT, wgNil, wgCons, wYes, wAsgT, wgLs, wLenS, wIxS, wFnS, wIsi, wListOf, wRev, edP, edJ, enP, enJ, enS, NotOwn, Flat, List.map_cons, List.map_nil, List.length_cons, List.length_nil, List.replicate_succ, List.replicate_zero, List.cons_append, List.nil_append, List.append_nil, List.set_cons_zero, List.set_cons_succ, List.getElem?_cons_zero, List.getElem?_cons_succ, Nat.reduceAdd, Nat.reduceSub, Option.some.injEq, Sl.imm.injEq, Sl.own.injEq, Sl.scr.injEq, exists_eq_left, exists_eq_left', exists_eq_right, exists_eq, exists_eq', exists_and_left, and_assoc, and_true, true_and, ne_eq, not_false_eq_true, Nat.succ_ne_zero, or_true, true_or, true_implies, forall_eq', forall_eq, PyData.int.injEq, PyData.bool.injEq, PyData.list.injEq, PyData.tuple.injEq, List.cons.injEq, i_add, i_iadd, i_sub, i_mul, i_mod, i_fdiv, i_fdivG, i_pow, i_neg, i_le, i_ge, i_gt, i_lt, i_eq, i_ne, i_intI, i_intB, i_abs, i_max, i_min, i_lenL, i_lenT, i_ixL, i_ixT, i_tupL, i_tupT, i_truB, Bool.not_true, Bool.not_false, Bool.false_eq_true, if_true, if_false, reduceIte]
    by_cases h : -TL < i
    · rw [decide_eq_true h] at q ⊢; exact q
    · rw [decide_eq_false h] at q ⊢; exact q
  | _ => exact q
theorem dAll_map {xs : List D} {f : D → Bool} {z : D} : dAll [.list (xs.map fun x => .bool (f x))] z ↔ z = .bool (xs.all f) := by
  have inj : ∀ as bs : List Bool, as.map PyData.bool = bs.map PyData.bool → as = bs := fun as => by
    induction as with
    | nil => intro bs h; cases bs with
      | nil => rfl
      | cons _ _ => cases h
    | cons a as ih => intro bs h; cases bs with
      | nil => cases h
      | cons b bs =>
        simp only [List.map_cons, List.cons.injEq, PyData.bool.injEq] at h
        rw [h.1, ih _ h.2]
  constructor
  · rintro ⟨bs, h, rfl⟩
    have h1 : xs.map (fun x => PyData.bool (f x)) = bs.map .bool := by
      injection h with h _
      injection h
    have h2 := inj (xs.map f) bs (by rw [List.map_map]; exact h1)
    rw [← h2, List.all_map]
    rfl
  · rintro rfl
    exact ⟨xs.map f, by rw [List.map_map]; rfl, by rw [List.all_map]; rfl⟩
theorem i_gcd {a b : Int} {z : D} : dGcd [.int a, .int b] z ↔ z = .int (Int.gcd a b) := ⟨fun ⟨_, _, e, h⟩ => by cases e; exact h, fun h => ⟨_, _, rfl, h⟩⟩
theorem pu__law_jug (ns ds Q) (hl : ds.length + 1 = 2) (h : wf__law_jug ns ds Q) : ws__law_jug (edP Q) (enS N__law_jug ns ds) := by
  obtain ⟨s, rfl, q⟩ := h
  simp only [ws__law_jug, N__law_jug, wVar, wC, wOp, wUn, wCl, wB, wTr, wAnd, wOr, wNot, wAndV, wOrV, wNotV, wIf, wCh, wNil, wCons, wTup, wLe, wSz, wFn, wFnJ, wNext, wSeq, wRet, wRetN, wDrop, wIfS, wSet, wSetOwn, wNever, wAug, wOpO, wOpR, wClO, wApp, wSetIt, wFrz, wFor, wRg1, wRg2, wSq, wEnum, wZip, wgN, wgT, wgNil, wgCons, wYes, wAsgT, wgLs, wLenS, wIxS, wFnS, wIsi, wListOf, wRev, edP, edJ, enP, enJ, enS, NotOwn, Flat, List.map_cons, List.map_nil, List.length_cons, List.length_nil, List.replicate_succ, List.replicate_zero, List.cons_append, List.nil_append, List.append_nil, List.set_cons_zero, List.set_cons_succ, List.getElem?_cons_zero, List.getElem?_cons_succ, Nat.reduceAdd, Nat.reduceSub, Option.some.injEq, Sl.imm.injEq, Sl.own.injEq, Sl.scr.injEq, exists_eq_left, exists_eq_left', exists_eq_right, exists_eq, exists_eq', exists_and_left, and_assoc, and_true, true_and, ne_eq, not_false_eq_true, Nat.succ_ne_zero, or_true, true_or, true_implies, forall_eq', forall_eq, PyData.int.injEq, PyData.bool.injEq, PyData.list.injEq, PyData.tuple.injEq, List.cons.injEq, i_add, i_iadd, i_sub, i_mul, i_mod, i_fdiv, i_fdivG, i_pow, i_neg, i_le, i_ge, i_gt, i_lt, i_eq, i_ne, i_intI, i_intB, i_abs, i_max, i_min, i_lenL, i_lenT, i_ixL, i_ixT, i_tupL, i_tupT, i_truB, Bool.not_true, Bool.not_false, Bool.false_eq_true, if_true, if_false, reduceIte]
  by_cases h : (s : Int) < (ns.length : Nat)
  · rw [if_pos (by simpa using h)]
    refine ⟨_, at_nat (by omega), pow_ok (by decide +kernel), pow_ok (by decide +kernel), by decide +kernel, by decide, small_r (by decide) (by decide), small_l (by decide) (by decide), small_l (by decide) (by decide), pow_ok (by decide +kernel), by decide, q _ _ _⟩
  · rw [if_neg (by simpa using h)]
    refine ⟨small_l (by decide) (by decide), pow_ok (by decide +kernel), pow_ok (by decide +kernel), by decide +kernel, by decide, small_r (by decide) (by decide), small_l (by decide) (by decide), small_l (by decide) (by decide), pow_ok (by decide +kernel), by decide, q _ _ _⟩
theorem pu__law_pour (dj ds Q) (hl : ds.length + 1 = 2) (h : wf__law_pour dj ds Q) : ws__law_pour (edJ Q) (enJ N__law_pour dj ds) := by
  obtain ⟨g, m, c, t, rfl, rfl, ht, ht2, q⟩ := h
  simp only [ws__law_pour, N__law_pour, at0, at1, at2, ix30, ix32, wVar, wC, wOp, wUn, wCl, wB, wTr, wAnd, wOr, wNot, wAndV, wOrV, wNotV, wIf, wCh, wNil, wCons, wTup, wLe, wSz, wFn, wFnJ, wNext, wSeq, wRet, wRetN, wDrop, wIfS, wSet, wSetOwn, wNever, wAug, wOpO, wOpR, wClO, wApp, wSetIt, wFrz, wFor, wRg1, wRg2, wSq, wEnum, wZip, wgN, wgT, wgNil, wgCons, wYes, wAsgT, wgLs, wLenS, wIxS, wFnS, wIsi, wListOf, wRev, edP, edJ, enP, enJ, enS, NotOwn, Flat, List.map_cons, List.map_nil, List.length_cons, List.length_nil, List.replicate_succ, List.replicate_zero, List.cons_append, List.nil_append, List.append_nil, List.set_cons_zero, List.set_cons_succ, List.getElem?_cons_zero, List.getElem?_cons_succ, Nat.reduceAdd, Nat.reduceSub, Option.some.injEq, Sl.imm.injEq, Sl.own.injEq, Sl.scr.injEq, exists_eq_left, exists_eq_left', exists_eq_right, exists_eq, exists_eq', exists_and_left, and_assoc, and_true, true_and, ne_eq, not_false_eq_true, Nat.succ_ne_zero, or_true, true_or, true_implies, forall_eq', forall_eq, PyData.int.injEq, PyData.bool.injEq, PyData.list.injEq, PyData.tuple.injEq, List.cons.injEq, i_add, i_iadd, i_sub, i_mul, i_mod, i_fdiv, i_fdivG, i_pow, i_neg, i_le, i_ge, i_gt, i_lt, i_eq, i_ne, i_intI, i_intB, i_abs, i_max, i_min, i_lenL, i_lenT, i_ixL, i_ixT, i_tupL, i_tupT, i_truB, Bool.not_true, Bool.not_false, Bool.false_eq_true, if_true, if_false, reduceIte]
  by_cases h : 0 < g
  · rw [if_pos (by simpa using h)]
    exact ⟨ht, divG ht ht2, q _ _ _ _ (Int.emod_nonneg _ (by omega)) (Int.emod_lt_of_pos _ ht)⟩
  · rw [if_neg (by simpa using h)]
    have b1 : ∀ x : Int, 0 ≤ x % 2305843009213693951 ∧ x % 2305843009213693951 < 2305843009213693951 := fun x => by omega
    exact ⟨small_l (by decide) (by decide), by decide, small_l (by have := b1 (m + 49979687 * (c + 1)); omega) (by have := b1 (m + 49979687 * (c + 1)); omega), small_l (by decide) (by decide), by decide, small_r (by decide) (by decide),
      divG (by decide) (log_lt (by decide) (by decide)), ht, q _ _ _ _ (Int.emod_nonneg _ (by omega)) (Int.emod_lt_of_pos _ ht)⟩
theorem pu__law_sip (dj ds Q) (hl : ds.length + 1 = 2) (h : wf__law_sip dj ds Q) : ws__law_sip (edJ Q) (enJ N__law_sip dj ds) := by
  obtain ⟨g, m, c, xs, rfl, rfl, h1, h2, q⟩ := h
  simp only [ws__law_sip, N__law_sip, wf__law_pour, wVar, wC, wOp, wUn, wCl, wB, wTr, wAnd, wOr, wNot, wAndV, wOrV, wNotV, wIf, wCh, wNil, wCons, wTup, wLe, wSz, wFn, wFnJ, wNext, wSeq, wRet, wRetN, wDrop, wIfS, wSet, wSetOwn, wNever, wAug, wOpO, wOpR, wClO, wApp, wSetIt, wFrz, wFor, wRg1, wRg2, wSq, wEnum, wZip, wgN, wgT, wgNil, wgCons, wYes, wAsgT, wgLs, wLenS, wIxS, wFnS, wIsi, wListOf, wRev, edP, edJ, enP, enJ, enS, NotOwn, Flat, List.map_cons, List.map_nil, List.length_cons, List.length_nil, List.replicate_succ, List.replicate_zero, List.cons_append, List.nil_append, List.append_nil, List.set_cons_zero, List.set_cons_succ, List.getElem?_cons_zero, List.getElem?_cons_succ, Nat.reduceAdd, Nat.reduceSub, Option.some.injEq, Sl.imm.injEq, Sl.own.injEq, Sl.scr.injEq, exists_eq_left, exists_eq_left', exists_eq_right, exists_eq, exists_eq', exists_and_left, and_assoc, and_true, true_and, ne_eq, not_false_eq_true, Nat.succ_ne_zero, or_true, true_or, true_implies, forall_eq', forall_eq, PyData.int.injEq, PyData.bool.injEq, PyData.list.injEq, PyData.tuple.injEq, List.cons.injEq, i_add, i_iadd, i_sub, i_mul, i_mod, i_fdiv, i_fdivG, i_pow, i_neg, i_le, i_ge, i_gt, i_lt, i_eq, i_ne, i_intI, i_intB, i_abs, i_max, i_min, i_lenL, i_lenT, i_ixL, i_ixT, i_tupL, i_tupT, i_truB, Bool.not_true, Bool.not_false, Bool.false_eq_true, if_true, if_false, reduceIte]
  have hl : 0 < xs.length := List.length_pos_iff.mpr h1
  refine ⟨by omega, log_lt (by omega) (by omega), fun r g m c h3 h4 => ?_⟩
  obtain ⟨x, hx, hm⟩ := at_int h3 h4
  exact ⟨x, hx, q x hm g m c⟩

theorem isI_iff {i : Int} : isI (.int i) = true ↔ -1000000000000000000000000000000000000000000000000000000000000 < i ∧ i < 1000000000000000000000000000000000000000000000000000000000000 := by
  rw [isI_int, Bool.and_eq_true, decide_eq_true_eq, decide_eq_true_eq]
theorem tn_bb {p : Rat} (h : Sm TN p) : Sm BB p := h.up (by decide +kernel)
theorem isI_fr {p : Rat} (h : Sm TN p) : isI (.int p.num) = true ∧ isI (.int p.den) = true := by
  have ht : TN = 1000000000000000000000000000000000000000000000000000000000000 := by decide +kernel
  have h1 := h.1
  have h2 := h.2
  rw [ht] at h1 h2
  rw [isI_iff, isI_iff]
  omega
theorem pu_is_between (ds Q) (hl : ds.length = 3) (h : wf_is_between ds Q) : ws_is_between (edP Q) (enP N_is_between ds) := by
  obtain ⟨i, a, b, rfl, q⟩ := h
  simp only [ws_is_between, N_is_between, wf_is_whole, isW, wVar, wC, wOp, wUn, wCl, wB, wTr, wAnd, wOr, wNot, wAndV, wOrV, wNotV, wIf, wCh, wNil, wCons, wTup, wLe, wSz, wFn, wFnJ, wNext, wSeq, wRet, wRetN, wDrop, wIfS, wSet, wSetOwn, wNever, wAug, wOpO, wOpR, wClO, wApp, wSetIt, wFrz, wFor, wRg1, wRg2, wSq, wEnum, wZip, wgN, wgT, wgNil, wgCons, wYes, wAsgT, wgLs, wLenS, wIxS, wFnS, wIsi, wListOf, wRev, edP, edJ, enP, enJ, enS, NotOwn, Flat, List.map_cons, List.map_nil, List.length_cons, List.length_nil, List.replicate_succ, List.replicate_zero, List.cons_append, List.nil_append, List.append_nil, List.set_cons_zero, List.set_cons_succ, List.getElem?_cons_zero, List.getElem?_cons_succ, Nat.reduceAdd, Nat.reduceSub, Option.some.injEq, Sl.imm.injEq, Sl.own.injEq, Sl.scr.injEq, exists_eq_left, exists_eq_left', exists_eq_right, exists_eq, exists_eq', exists_and_left, and_assoc, and_true, true_and, ne_eq, not_false_eq_true, Nat.succ_ne_zero, or_true, true_or, true_implies, forall_eq', forall_eq, PyData.int.injEq, PyData.bool.injEq, PyData.list.injEq, PyData.tuple.injEq, List.cons.injEq, i_add, i_iadd, i_sub, i_mul, i_mod, i_fdiv, i_fdivG, i_pow, i_neg, i_le, i_ge, i_gt, i_lt, i_eq, i_ne, i_intI, i_intB, i_abs, i_max, i_min, i_lenL, i_lenT, i_ixL, i_ixT, i_tupL, i_tupT, i_truB, Bool.not_true, Bool.not_false, Bool.false_eq_true, if_true, if_false, reduceIte]
  by_cases h : a ≤ i
  · rw [decide_eq_true h] at q ⊢; exact q
  · rw [decide_eq_false h] at q ⊢; exact q
theorem pu_is_fraction (ds Q) (hl : ds.length = 1) (h : wf_is_fraction ds Q) : ws_is_fraction (edP Q) (enP N_is_fraction ds) := by
  obtain ⟨r, rfl, hr, q⟩ := h
  have kt : kitB (tyName (.tuple [.int r.num, .int r.den])) "tuple" = some true := rfl
  have hg : Int.gcd r.num r.den = 1 := r.reduced
  have hd : (0 : Int) < r.den := by have := r.den_pos; omega
  simp only [ws_is_fraction, N_is_fraction, fr, kt, wVar, wC, wOp, wUn, wCl, wB, wTr, wAnd, wOr, wNot, wAndV, wOrV, wNotV, wIf, wCh, wNil, wCons, wTup, wLe, wSz, wFn, wFnJ, wNext, wSeq, wRet, wRetN, wDrop, wIfS, wSet, wSetOwn, wNever, wAug, wOpO, wOpR, wClO, wApp, wSetIt, wFrz, wFor, wRg1, wRg2, wSq, wEnum, wZip, wgN, wgT, wgNil, wgCons, wYes, wAsgT, wgLs, wLenS, wIxS, wFnS, wIsi, wListOf, wRev, edP, edJ, enP, enJ, enS, NotOwn, Flat, List.map_cons, List.map_nil, List.length_cons, List.length_nil, List.replicate_succ, List.replicate_zero, List.cons_append, List.nil_append, List.append_nil, List.set_cons_zero, List.set_cons_succ, List.getElem?_cons_zero, List.getElem?_cons_succ, Nat.reduceAdd, Nat.reduceSub, Option.some.injEq, Sl.imm.injEq, Sl.own.injEq, Sl.scr.injEq, exists_eq_left, exists_eq_left', exists_eq_right, exists_eq, exists_eq', exists_and_left, and_assoc, and_true, true_and, ne_eq, not_false_eq_true, Nat.succ_ne_zero, or_true, true_or, true_implies, forall_eq', forall_eq, PyData.int.injEq, PyData.bool.injEq, PyData.list.injEq, PyData.tuple.injEq, List.cons.injEq, i_add, i_iadd, i_sub, i_mul, i_mod, i_fdiv, i_fdivG, i_pow, i_neg, i_le, i_ge, i_gt, i_lt, i_eq, i_ne, i_intI, i_intB, i_abs, i_max, i_min, i_lenL, i_lenT, i_ixL, i_ixT, i_tupL, i_tupT, i_truB, Bool.not_true, Bool.not_false, Bool.false_eq_true, if_true, if_false, reduceIte]
  rw [if_neg (by decide)]
  refine lc1 (f := fun x => .bool (isI x)) (xs := [.int r.num, .int r.den]) (by decide) (fun Q q => ⟨_, rfl, _, Or.inr rfl, q⟩) trivial (by show 2 ≤ sizeLine; decide) (fun x hx Q q => ?_) ?_
  · simp only [wf_is_integer, wVar, wC, wOp, wUn, wCl, wB, wTr, wAnd, wOr, wNot, wAndV, wOrV, wNotV, wIf, wCh, wNil, wCons, wTup, wLe, wSz, wFn, wFnJ, wNext, wSeq, wRet, wRetN, wDrop, wIfS, wSet, wSetOwn, wNever, wAug, wOpO, wOpR, wClO, wApp, wSetIt, wFrz, wFor, wRg1, wRg2, wSq, wEnum, wZip, wgN, wgT, wgNil, wgCons, wYes, wAsgT, wgLs, wLenS, wIxS, wFnS, wIsi, wListOf, wRev, edP, edJ, enP, enJ, enS, NotOwn, Flat, List.map_cons, List.map_nil, List.length_cons, List.length_nil, List.replicate_succ, List.replicate_zero, List.cons_append, List.nil_append, List.append_nil, List.set_cons_zero, List.set_cons_succ, List.getElem?_cons_zero, List.getElem?_cons_succ, Nat.reduceAdd, Nat.reduceSub, Option.some.injEq, Sl.imm.injEq, Sl.own.injEq, Sl.scr.injEq, exists_eq_left, exists_eq_left', exists_eq_right, exists_eq, exists_eq', exists_and_left, and_assoc, and_true, true_and, ne_eq, not_false_eq_true, Nat.succ_ne_zero, or_true, true_or, true_implies, forall_eq', forall_eq, PyData.int.injEq, PyData.bool.injEq, PyData.list.injEq, PyData.tuple.injEq, List.cons.injEq, i_add, i_iadd, i_sub, i_mul, i_mod, i_fdiv, i_fdivG, i_pow, i_neg, i_le, i_ge, i_gt, i_lt, i_eq, i_ne, i_intI, i_intB, i_abs, i_max, i_min, i_lenL, i_lenT, i_ixL, i_ixT, i_tupL, i_tupT, i_truB, Bool.not_true, Bool.not_false, Bool.false_eq_true, if_true, if_false, reduceIte]
    exact q
  · refine ⟨_, dAll_map.mpr rfl, ?_⟩
    simp only [List.all_cons, List.all_nil, Bool.and_true, at0, at1, (isI_fr hr).1, (isI_fr hr).2, Bool.and_self, i_gcd, hg, hd, decide_true, wVar, wC, wOp, wUn, wCl, wB, wTr, wAnd, wOr, wNot, wAndV, wOrV, wNotV, wIf, wCh, wNil, wCons, wTup, wLe, wSz, wFn, wFnJ, wNext, wSeq, wRet, wRetN, wDrop, wIfS, wSet, wSetOwn, wNever, wAug, wOpO, wOpR, wClO, wApp, wSetIt, wFrz, wFor, wRg1, wRg2, wSq, wEnum, wZip, wgN, wgT, wgNil, wgCons, wYes, wAsgT, wgLs, wLenS, wIxS, wFnS, wIsi, wListOf, wRev, edP, edJ, enP, enJ, enS, NotOwn, Flat, List.map_cons, List.map_nil, List.length_cons, List.length_nil, List.replicate_succ, List.replicate_zero, List.cons_append, List.nil_append, List.append_nil, List.set_cons_zero, List.set_cons_succ, List.getElem?_cons_zero, List.getElem?_cons_succ, Nat.reduceAdd, Nat.reduceSub, Option.some.injEq, Sl.imm.injEq, Sl.own.injEq, Sl.scr.injEq, exists_eq_left, exists_eq_left', exists_eq_right, exists_eq, exists_eq', exists_and_left, and_assoc, and_true, true_and, ne_eq, not_false_eq_true, Nat.succ_ne_zero, or_true, true_or, true_implies, forall_eq', forall_eq, PyData.int.injEq, PyData.bool.injEq, PyData.list.injEq, PyData.tuple.injEq, List.cons.injEq, i_add, i_iadd, i_sub, i_mul, i_mod, i_fdiv, i_fdivG, i_pow, i_neg, i_le, i_ge, i_gt, i_lt, i_eq, i_ne, i_intI, i_intB, i_abs, i_max, i_min, i_lenL, i_lenT, i_ixL, i_ixT, i_tupL, i_tupT, i_truB, Bool.not_true, Bool.not_false, Bool.false_eq_true, if_true, if_false, reduceIte]
    exact q
theorem pu_check_fraction (ds Q) (hl : ds.length = 1) (h : wf_check_fraction ds Q) : ws_check_fraction (edP Q) (enP N_check_fraction ds) := by
  obtain ⟨r, rfl, h, q⟩ := h
  simp only [ws_check_fraction, N_check_fraction, wVar, wC, wOp, wUn, wCl, wB, wTr, wAnd, wOr, wNot, wAndV, wOrV, wNotV, wIf, wCh, wNil, wCons, wTup, wLe, wSz, wFn, wFnJ, wNext, wSeq, wRet, wRetN, wDrop, wIfS, wSet, wSetOwn, wNever, wAug, wOpO, wOpR, wClO, wApp, wSetIt, wFrz, wFor, wRg1, wRg2, wSq, wEnum, wZip, wgN, wgT, wgNil, wgCons, wYes, wAsgT, wgLs, wLenS, wIxS, wFnS, wIsi, wListOf, wRev, edP, edJ, enP, enJ, enS, NotOwn, Flat, List.map_cons, List.map_nil, List.length_cons, List.length_nil, List.replicate_succ, List.replicate_zero, List.cons_append, List.nil_append, List.append_nil, List.set_cons_zero, List.set_cons_succ, List.getElem?_cons_zero, List.getElem?_cons_succ, Nat.reduceAdd, Nat.reduceSub, Option.some.injEq, Sl.imm.injEq, Sl.own.injEq, Sl.scr.injEq, exists_eq_left, exists_eq_left', exists_eq_right, exists_eq, exists_eq', exists_and_left, and_assoc, and_true, true_and, ne_eq, not_false_eq_true, Nat.succ_ne_zero, or_true, true_or, true_implies, forall_eq', forall_eq, PyData.int.injEq, PyData.bool.injEq, PyData.list.injEq, PyData.tuple.injEq, List.cons.injEq, i_add, i_iadd, i_sub, i_mul, i_mod, i_fdiv, i_fdivG, i_pow, i_neg, i_le, i_ge, i_gt, i_lt, i_eq, i_ne, i_intI, i_intB, i_abs, i_max, i_min, i_lenL, i_lenT, i_ixL, i_ixT, i_tupL, i_tupT, i_truB, Bool.not_true, Bool.not_false, Bool.false_eq_true, if_true, if_false, reduceIte]
  refine ⟨r, rfl, h, ?_⟩
  simp only [wVar, wC, wOp, wUn, wCl, wB, wTr, wAnd, wOr, wNot, wAndV, wOrV, wNotV, wIf, wCh, wNil, wCons, wTup, wLe, wSz, wFn, wFnJ, wNext, wSeq, wRet, wRetN, wDrop, wIfS, wSet, wSetOwn, wNever, wAug, wOpO, wOpR, wClO, wApp, wSetIt, wFrz, wFor, wRg1, wRg2, wSq, wEnum, wZip, wgN, wgT, wgNil, wgCons, wYes, wAsgT, wgLs, wLenS, wIxS, wFnS, wIsi, wListOf, wRev, edP, edJ, enP, enJ, enS, NotOwn, Flat, List.map_cons, List.map_nil, List.length_cons, List.length_nil, List.replicate_succ, List.replicate_zero, List.cons_append, List.nil_append, List.append_nil, List.set_cons_zero, List.set_cons_succ, List.getElem?_cons_zero, List.getElem?_cons_succ, Nat.reduceAdd, Nat.reduceSub, Option.some.injEq, Sl.imm.injEq, Sl.own.injEq, Sl.scr.injEq, exists_eq_left, exists_eq_left', exists_eq_right, exists_eq, exists_eq', exists_and_left, and_assoc, and_true, true_and, ne_eq, not_false_eq_true, Nat.succ_ne_zero, or_true, true_or, true_implies, forall_eq', forall_eq, PyData.int.injEq, PyData.bool.injEq, PyData.list.injEq, PyData.tuple.injEq, List.cons.injEq, i_add, i_iadd, i_sub, i_mul, i_mod, i_fdiv, i_fdivG, i_pow, i_neg, i_le, i_ge, i_gt, i_lt, i_eq, i_ne, i_intI, i_intB, i_abs, i_max, i_min, i_lenL, i_lenT, i_ixL, i_ixT, i_tupL, i_tupT, i_truB, Bool.not_true, Bool.not_false, Bool.false_eq_true, if_true, if_false, reduceIte]
  exact q
theorem pu_check_two (ds Q) (hl : ds.length = 2) (h : wf_check_two ds Q) : ws_check_two (edP Q) (enP N_check_two ds) := by
  obtain ⟨d, e, rfl, h, h2, q⟩ := h
  simp only [ws_check_two, N_check_two, wVar, wC, wOp, wUn, wCl, wB, wTr, wAnd, wOr, wNot, wAndV, wOrV, wNotV, wIf, wCh, wNil, wCons, wTup, wLe, wSz, wFn, wFnJ, wNext, wSeq, wRet, wRetN, wDrop, wIfS, wSet, wSetOwn, wNever, wAug, wOpO, wOpR, wClO, wApp, wSetIt, wFrz, wFor, wRg1, wRg2, wSq, wEnum, wZip, wgN, wgT, wgNil, wgCons, wYes, wAsgT, wgLs, wLenS, wIxS, wFnS, wIsi, wListOf, wRev, edP, edJ, enP, enJ, enS, NotOwn, Flat, List.map_cons, List.map_nil, List.length_cons, List.length_nil, List.replicate_succ, List.replicate_zero, List.cons_append, List.nil_append, List.append_nil, List.set_cons_zero, List.set_cons_succ, List.getElem?_cons_zero, List.getElem?_cons_succ, Nat.reduceAdd, Nat.reduceSub, Option.some.injEq, Sl.imm.injEq, Sl.own.injEq, Sl.scr.injEq, exists_eq_left, exists_eq_left', exists_eq_right, exists_eq, exists_eq', exists_and_left, and_assoc, and_true, true_and, ne_eq, not_false_eq_true, Nat.succ_ne_zero, or_true, true_or, true_implies, forall_eq', forall_eq, PyData.int.injEq, PyData.bool.injEq, PyData.list.injEq, PyData.tuple.injEq, List.cons.injEq, i_add, i_iadd, i_sub, i_mul, i_mod, i_fdiv, i_fdivG, i_pow, i_neg, i_le, i_ge, i_gt, i_lt, i_eq, i_ne, i_intI, i_intB, i_abs, i_max, i_min, i_lenL, i_lenT, i_ixL, i_ixT, i_tupL, i_tupT, i_truB, Bool.not_true, Bool.not_false, Bool.false_eq_true, if_true, if_false, reduceIte]
  exact ⟨d, rfl, h, e, rfl, h2, q⟩
theorem pu_lowest (ds Q) (hl : ds.length = 2) (h : wf_lowest ds Q) : ws_lowest (edP Q) (enP N_lowest ds) := by
  obtain ⟨t, b, rfl, hb, hs, q⟩ := h
  have gp : (0 : Int) < Int.gcd t b := by have := gcd_pos (t := t) hb; omega
  have gl : (Int.gcd t b).log2 < 9000 := log_bb (Nat.lt_of_le_of_lt (gcd_le hb) hs)
  simp only [ws_lowest, N_lowest, i_gcd, wVar, wC, wOp, wUn, wCl, wB, wTr, wAnd, wOr, wNot, wAndV, wOrV, wNotV, wIf, wCh, wNil, wCons, wTup, wLe, wSz, wFn, wFnJ, wNext, wSeq, wRet, wRetN, wDrop, wIfS, wSet, wSetOwn, wNever, wAug, wOpO, wOpR, wClO, wApp, wSetIt, wFrz, wFor, wRg1, wRg2, wSq, wEnum, wZip, wgN, wgT, wgNil, wgCons, wYes, wAsgT, wgLs, wLenS, wIxS, wFnS, wIsi, wListOf, wRev, edP, edJ, enP, enJ, enS, NotOwn, Flat, List.map_cons, List.map_nil, List.length_cons, List.length_nil, List.replicate_succ, List.replicate_zero, List.cons_append, List.nil_append, List.append_nil, List.set_cons_zero, List.set_cons_succ, List.getElem?_cons_zero, List.getElem?_cons_succ, Nat.reduceAdd, Nat.reduceSub, Option.some.injEq, Sl.imm.injEq, Sl.own.injEq, Sl.scr.injEq, exists_eq_left, exists_eq_left', exists_eq_right, exists_eq, exists_eq', exists_and_left, and_assoc, and_true, true_and, ne_eq, not_false_eq_true, Nat.succ_ne_zero, or_true, true_or, true_implies, forall_eq', forall_eq, PyData.int.injEq, PyData.bool.injEq, PyData.list.injEq, PyData.tuple.injEq, List.cons.injEq, i_add, i_iadd, i_sub, i_mul, i_mod, i_fdiv, i_fdivG, i_pow, i_neg, i_le, i_ge, i_gt, i_lt, i_eq, i_ne, i_intI, i_intB, i_abs, i_max, i_min, i_lenL, i_lenT, i_ixL, i_ixT, i_tupL, i_tupT, i_truB, Bool.not_true, Bool.not_false, Bool.false_eq_true, if_true, if_false, reduceIte]
  by_cases h : b < 0
  · rw [if_pos (by simpa using h)]
    refine ⟨⟨by omega, by rw [Int.natAbs_neg]; exact gl⟩, ⟨by omega, by rw [Int.natAbs_neg]; exact gl⟩, by decide, ?_⟩
    rw [fdiv_neg' gp gcd_dvd_l, fdiv_neg' gp gcd_dvd_r, low_neg h]
    exact q
  · rw [if_neg (by simpa using h)]
    refine ⟨⟨by omega, gl⟩, ⟨by omega, gl⟩, by decide, ?_⟩
    rw [fdiv_pos gp, fdiv_pos gp, low_pos (by omega)]
    exact q
theorem sum_ok {p q : Rat} (hp : Sm BB p) (hq : Sm BB q) : (p.den : Int) * q.den ≠ 0 ∧ ((p.den : Int) * q.den).natAbs < BB * BB ∧ Pd.MulOk p.num q.den ∧ Pd.MulOk q.num p.den ∧ Pd.MulOk p.den q.den ∧ Pd.MulOk p.num q.num := by
  have h1 := Nat.mul_pos p.den_pos q.den_pos
  refine ⟨by rw [← Int.natCast_mul]; omega, ?_, mul_bb hp.1 hq.2, mul_bb hq.1 hp.2, mul_bb hp.2 hq.2, mul_bb hp.1 hq.1⟩
  rw [← Int.natCast_mul]
  exact Nat.mul_lt_mul_of_lt_of_lt hp.2 hq.2
theorem pu_sum_of_two (ds Q) (hl : ds.length = 2) (h : wf_sum_of_two ds Q) : ws_sum_of_two (edP Q) (enP N_sum_of_two ds) := by
  obtain ⟨p, q, rfl, hp, hq, k⟩ := h
  obtain ⟨s1, s2, s3, s4, s5, s6⟩ := sum_ok hp hq
  simp only [ws_sum_of_two, N_sum_of_two, fr, at0, at1, wf_lowest, wVar, wC, wOp, wUn, wCl, wB, wTr, wAnd, wOr, wNot, wAndV, wOrV, wNotV, wIf, wCh, wNil, wCons, wTup, wLe, wSz, wFn, wFnJ, wNext, wSeq, wRet, wRetN, wDrop, wIfS, wSet, wSetOwn, wNever, wAug, wOpO, wOpR, wClO, wApp, wSetIt, wFrz, wFor, wRg1, wRg2, wSq, wEnum, wZip, wgN, wgT, wgNil, wgCons, wYes, wAsgT, wgLs, wLenS, wIxS, wFnS, wIsi, wListOf, wRev, edP, edJ, enP, enJ, enS, NotOwn, Flat, List.map_cons, List.map_nil, List.length_cons, List.length_nil, List.replicate_succ, List.replicate_zero, List.cons_append, List.nil_append, List.append_nil, List.set_cons_zero, List.set_cons_succ, List.getElem?_cons_zero, List.getElem?_cons_succ, Nat.reduceAdd, Nat.reduceSub, Option.some.injEq, Sl.imm.injEq, Sl.own.injEq, Sl.scr.injEq, exists_eq_left, exists_eq_left', exists_eq_right, exists_eq, exists_eq', exists_and_left, and_assoc, and_true, true_and, ne_eq, not_false_eq_true, Nat.succ_ne_zero, or_true, true_or, true_implies, forall_eq', forall_eq, PyData.int.injEq, PyData.bool.injEq, PyData.list.injEq, PyData.tuple.injEq, List.cons.injEq, i_add, i_iadd, i_sub, i_mul, i_mod, i_fdiv, i_fdivG, i_pow, i_neg, i_le, i_ge, i_gt, i_lt, i_eq, i_ne, i_intI, i_intB, i_abs, i_max, i_min, i_lenL, i_lenT, i_ixL, i_ixT, i_tupL, i_tupT, i_truB, Bool.not_true, Bool.not_false, Bool.false_eq_true, if_true, if_false, reduceIte]
  refine ⟨s3, s4, s5, s1, s2, ?_⟩
  rw [fr_add]
  exact k
theorem pu_product_of_two (ds Q) (hl : ds.length = 2) (h : wf_product_of_two ds Q) : ws_product_of_two (edP Q) (enP N_product_of_two ds) := by
  obtain ⟨p, q, rfl, hp, hq, k⟩ := h
  obtain ⟨s1, s2, s3, s4, s5, s6⟩ := sum_ok hp hq
  simp only [ws_product_of_two, N_product_of_two, fr, at0, at1, wf_lowest, wVar, wC, wOp, wUn, wCl, wB, wTr, wAnd, wOr, wNot, wAndV, wOrV, wNotV, wIf, wCh, wNil, wCons, wTup, wLe, wSz, wFn, wFnJ, wNext, wSeq, wRet, wRetN, wDrop, wIfS, wSet, wSetOwn, wNever, wAug, wOpO, wOpR, wClO, wApp, wSetIt, wFrz, wFor, wRg1, wRg2, wSq, wEnum, wZip, wgN, wgT, wgNil, wgCons, wYes, wAsgT, wgLs, wLenS, wIxS, wFnS, wIsi, wListOf, wRev, edP, edJ, enP, enJ, enS, NotOwn, Flat, List.map_cons, List.map_nil, List.length_cons, List.length_nil, List.replicate_succ, List.replicate_zero, List.cons_append, List.nil_append, List.append_nil, List.set_cons_zero, List.set_cons_succ, List.getElem?_cons_zero, List.getElem?_cons_succ, Nat.reduceAdd, Nat.reduceSub, Option.some.injEq, Sl.imm.injEq, Sl.own.injEq, Sl.scr.injEq, exists_eq_left, exists_eq_left', exists_eq_right, exists_eq, exists_eq', exists_and_left, and_assoc, and_true, true_and, ne_eq, not_false_eq_true, Nat.succ_ne_zero, or_true, true_or, true_implies, forall_eq', forall_eq, PyData.int.injEq, PyData.bool.injEq, PyData.list.injEq, PyData.tuple.injEq, List.cons.injEq, i_add, i_iadd, i_sub, i_mul, i_mod, i_fdiv, i_fdivG, i_pow, i_neg, i_le, i_ge, i_gt, i_lt, i_eq, i_ne, i_intI, i_intB, i_abs, i_max, i_min, i_lenL, i_lenT, i_ixL, i_ixT, i_tupL, i_tupT, i_truB, Bool.not_true, Bool.not_false, Bool.false_eq_true, if_true, if_false, reduceIte]
  refine ⟨s6, s5, s1, s2, ?_⟩
  rw [fr_mul]
  exact k
theorem pu_plus (ds Q) (hl : ds.length = 2) (h : wf_plus ds Q) : ws_plus (edP Q) (enP N_plus ds) := by
  obtain ⟨p, q, rfl, hp, hq, k⟩ := h
  simp only [ws_plus, N_plus, wVar, wC, wOp, wUn, wCl, wB, wTr, wAnd, wOr, wNot, wAndV, wOrV, wNotV, wIf, wCh, wNil, wCons, wTup, wLe, wSz, wFn, wFnJ, wNext, wSeq, wRet, wRetN, wDrop, wIfS, wSet, wSetOwn, wNever, wAug, wOpO, wOpR, wClO, wApp, wSetIt, wFrz, wFor, wRg1, wRg2, wSq, wEnum, wZip, wgN, wgT, wgNil, wgCons, wYes, wAsgT, wgLs, wLenS, wIxS, wFnS, wIsi, wListOf, wRev, edP, edJ, enP, enJ, enS, NotOwn, Flat, List.map_cons, List.map_nil, List.length_cons, List.length_nil, List.replicate_succ, List.replicate_zero, List.cons_append, List.nil_append, List.append_nil, List.set_cons_zero, List.set_cons_succ, List.getElem?_cons_zero, List.getElem?_cons_succ, Nat.reduceAdd, Nat.reduceSub, Option.some.injEq, Sl.imm.injEq, Sl.own.injEq, Sl.scr.injEq, exists_eq_left, exists_eq_left', exists_eq_right, exists_eq, exists_eq', exists_and_left, and_assoc, and_true, true_and, ne_eq, not_false_eq_true, Nat.succ_ne_zero, or_true, true_or, true_implies, forall_eq', forall_eq, PyData.int.injEq, PyData.bool.injEq, PyData.list.injEq, PyData.tuple.injEq, List.cons.injEq, i_add, i_iadd, i_sub, i_mul, i_mod, i_fdiv, i_fdivG, i_pow, i_neg, i_le, i_ge, i_gt, i_lt, i_eq, i_ne, i_intI, i_intB, i_abs, i_max, i_min, i_lenL, i_lenT, i_ixL, i_ixT, i_tupL, i_tupT, i_truB, Bool.not_true, Bool.not_false, Bool.false_eq_true, if_true, if_false, reduceIte]
  exact ⟨p, q, rfl, hp, hq, p, q, rfl, tn_bb hp, tn_bb hq, k⟩
theorem pu_times (ds Q) (hl : ds.length = 2) (h : wf_times ds Q) : ws_times (edP Q) (enP N_times ds) := by
  obtain ⟨p, q, rfl, hp, hq, k⟩ := h
  simp only [ws_times, N_times, wVar, wC, wOp, wUn, wCl, wB, wTr, wAnd, wOr, wNot, wAndV, wOrV, wNotV, wIf, wCh, wNil, wCons, wTup, wLe, wSz, wFn, wFnJ, wNext, wSeq, wRet, wRetN, wDrop, wIfS, wSet, wSetOwn, wNever, wAug, wOpO, wOpR, wClO, wApp, wSetIt, wFrz, wFor, wRg1, wRg2, wSq, wEnum, wZip, wgN, wgT, wgNil, wgCons, wYes, wAsgT, wgLs, wLenS, wIxS, wFnS, wIsi, wListOf, wRev, edP, edJ, enP, enJ, enS, NotOwn, Flat, List.map_cons, List.map_nil, List.length_cons, List.length_nil, List.replicate_succ, List.replicate_zero, List.cons_append, List.nil_append, List.append_nil, List.set_cons_zero, List.set_cons_succ, List.getElem?_cons_zero, List.getElem?_cons_succ, Nat.reduceAdd, Nat.reduceSub, Option.some.injEq, Sl.imm.injEq, Sl.own.injEq, Sl.scr.injEq, exists_eq_left, exists_eq_left', exists_eq_right, exists_eq, exists_eq', exists_and_left, and_assoc, and_true, true_and, ne_eq, not_false_eq_true, Nat.succ_ne_zero, or_true, true_or, true_implies, forall_eq', forall_eq, PyData.int.injEq, PyData.bool.injEq, PyData.list.injEq, PyData.tuple.injEq, List.cons.injEq, i_add, i_iadd, i_sub, i_mul, i_mod, i_fdiv, i_fdivG, i_pow, i_neg, i_le, i_ge, i_gt, i_lt, i_eq, i_ne, i_intI, i_intB, i_abs, i_max, i_min, i_lenL, i_lenT, i_ixL, i_ixT, i_tupL, i_tupT, i_truB, Bool.not_true, Bool.not_false, Bool.false_eq_true, if_true, if_false, reduceIte]
  exact ⟨p, q, rfl, hp, hq, p, q, rfl, tn_bb hp, tn_bb hq, k⟩
theorem pu__law_fu_shared (ds Q) (hl : ds.length = 2) (h : wf__law_fu_shared ds Q) : ws__law_fu_shared (edP Q) (enP N__law_fu_shared ds) := by
  obtain ⟨a, b, rfl, k⟩ := h
  have ab : ∀ i : Int, (if i < 0 then -i else i) = i.natAbs := fun i => by split <;> omega
  simp only [ws__law_fu_shared, N__law_fu_shared, wPar, wWhile, ab, wVar, wC, wOp, wUn, wCl, wB, wTr, wAnd, wOr, wNot, wAndV, wOrV, wNotV, wIf, wCh, wNil, wCons, wTup, wLe, wSz, wFn, wFnJ, wNext, wSeq, wRet, wRetN, wDrop, wIfS, wSet, wSetOwn, wNever, wAug, wOpO, wOpR, wClO, wApp, wSetIt, wFrz, wFor, wRg1, wRg2, wSq, wEnum, wZip, wgN, wgT, wgNil, wgCons, wYes, wAsgT, wgLs, wLenS, wIxS, wFnS, wIsi, wListOf, wRev, edP, edJ, enP, enJ, enS, NotOwn, Flat, List.map_cons, List.map_nil, List.length_cons, List.length_nil, List.replicate_succ, List.replicate_zero, List.cons_append, List.nil_append, List.append_nil, List.set_cons_zero, List.set_cons_succ, List.getElem?_cons_zero, List.getElem?_cons_succ, Nat.reduceAdd, Nat.reduceSub, Option.some.injEq, Sl.imm.injEq, Sl.own.injEq, Sl.scr.injEq, exists_eq_left, exists_eq_left', exists_eq_right, exists_eq, exists_eq', exists_and_left, and_assoc, and_true, true_and, ne_eq, not_false_eq_true, Nat.succ_ne_zero, or_true, true_or, true_implies, forall_eq', forall_eq, PyData.int.injEq, PyData.bool.injEq, PyData.list.injEq, PyData.tuple.injEq, List.cons.injEq, i_add, i_iadd, i_sub, i_mul, i_mod, i_fdiv, i_fdivG, i_pow, i_neg, i_le, i_ge, i_gt, i_lt, i_eq, i_ne, i_intI, i_intB, i_abs, i_max, i_min, i_lenL, i_lenT, i_ixL, i_ixT, i_tupL, i_tupT, i_truB, Bool.not_true, Bool.not_false, Bool.false_eq_true, if_true, if_false, reduceIte]
  refine ⟨fun m e => ∃ x y : Nat, e = [.imm (.int x), .imm (.int y)] ∧ Nat.gcd x y = Int.gcd a b ∧ m = y, ⟨_, _, _, rfl, rfl, rfl⟩, ?_⟩
  rintro m e ⟨x, y, rfl, hg, rfl⟩
  simp only [wVar, wC, wOp, wUn, wCl, wB, wTr, wAnd, wOr, wNot, wAndV, wOrV, wNotV, wIf, wCh, wNil, wCons, wTup, wLe, wSz, wFn, wFnJ, wNext, wSeq, wRet, wRetN, wDrop, wIfS, wSet, wSetOwn, wNever, wAug, wOpO, wOpR, wClO, wApp, wSetIt, wFrz, wFor, wRg1, wRg2, wSq, wEnum, wZip, wgN, wgT, wgNil, wgCons, wYes, wAsgT, wgLs, wLenS, wIxS, wFnS, wIsi, wListOf, wRev, edP, edJ, enP, enJ, enS, NotOwn, Flat, List.map_cons, List.map_nil, List.length_cons, List.length_nil, List.replicate_succ, List.replicate_zero, List.cons_append, List.nil_append, List.append_nil, List.set_cons_zero, List.set_cons_succ, List.getElem?_cons_zero, List.getElem?_cons_succ, Nat.reduceAdd, Nat.reduceSub, Option.some.injEq, Sl.imm.injEq, Sl.own.injEq, Sl.scr.injEq, exists_eq_left, exists_eq_left', exists_eq_right, exists_eq, exists_eq', exists_and_left, and_assoc, and_true, true_and, ne_eq, not_false_eq_true, Nat.succ_ne_zero, or_true, true_or, true_implies, forall_eq', forall_eq, PyData.int.injEq, PyData.bool.injEq, PyData.list.injEq, PyData.tuple.injEq, List.cons.injEq, i_add, i_iadd, i_sub, i_mul, i_mod, i_fdiv, i_fdivG, i_pow, i_neg, i_le, i_ge, i_gt, i_lt, i_eq, i_ne, i_intI, i_intB, i_abs, i_max, i_min, i_lenL, i_lenT, i_ixL, i_ixT, i_tupL, i_tupT, i_truB, Bool.not_true, Bool.not_false, Bool.false_eq_true, if_true, if_false, reduceIte]
  by_cases h : 0 < m
  · rw [if_pos (by simpa using h)]
    refine ⟨by omega, x % m, Nat.mod_lt _ h, m, rfl, x % m, (Int.natCast_emod x m).symm, ?_, rfl⟩
    rw [← hg, Nat.gcd_comm x m, Nat.gcd_rec m x, Nat.gcd_comm]
  · rw [if_neg (by simpa using h)]
    have hm : m = 0 := by omega
    subst hm
    rw [Nat.gcd_zero_right] at hg
    rw [hg]
    exact k
theorem pu__law_fu_part (ds Q) (hl : ds.length = 2) (h : wf__law_fu_part ds Q) : ws__law_fu_part (edP Q) (enP N__law_fu_part ds) := by
  obtain ⟨t, b, rfl, hb, hs, q⟩ := h
  have gp : (0 : Int) < Int.gcd t b := by have := gcd_pos (t := t) hb; omega
  have gl : (Int.gcd t b).log2 < 9000 := log_bb (Nat.lt_of_le_of_lt (gcd_le hb) hs)
  simp only [ws__law_fu_part, N__law_fu_part, wf__law_fu_shared, wVar, wC, wOp, wUn, wCl, wB, wTr, wAnd, wOr, wNot, wAndV, wOrV, wNotV, wIf, wCh, wNil, wCons, wTup, wLe, wSz, wFn, wFnJ, wNext, wSeq, wRet, wRetN, wDrop, wIfS, wSet, wSetOwn, wNever, wAug, wOpO, wOpR, wClO, wApp, wSetIt, wFrz, wFor, wRg1, wRg2, wSq, wEnum, wZip, wgN, wgT, wgNil, wgCons, wYes, wAsgT, wgLs, wLenS, wIxS, wFnS, wIsi, wListOf, wRev, edP, edJ, enP, enJ, enS, NotOwn, Flat, List.map_cons, List.map_nil, List.length_cons, List.length_nil, List.replicate_succ, List.replicate_zero, List.cons_append, List.nil_append, List.append_nil, List.set_cons_zero, List.set_cons_succ, List.getElem?_cons_zero, List.getElem?_cons_succ, Nat.reduceAdd, Nat.reduceSub, Option.some.injEq, Sl.imm.injEq, Sl.own.injEq, Sl.scr.injEq, exists_eq_left, exists_eq_left', exists_eq_right, exists_eq, exists_eq', exists_and_left, and_assoc, and_true, true_and, ne_eq, not_false_eq_true, Nat.succ_ne_zero, or_true, true_or, true_implies, forall_eq', forall_eq, PyData.int.injEq, PyData.bool.injEq, PyData.list.injEq, PyData.tuple.injEq, List.cons.injEq, i_add, i_iadd, i_sub, i_mul, i_mod, i_fdiv, i_fdivG, i_pow, i_neg, i_le, i_ge, i_gt, i_lt, i_eq, i_ne, i_intI, i_intB, i_abs, i_max, i_min, i_lenL, i_lenT, i_ixL, i_ixT, i_tupL, i_tupT, i_truB, Bool.not_true, Bool.not_false, Bool.false_eq_true, if_true, if_false, reduceIte]
  by_cases h : 0 < b
  · rw [if_pos (by simpa using h)]
    refine ⟨small_l (by decide) (by decide), ⟨by omega, gl⟩, small_l (by decide) (by decide), ⟨by omega, gl⟩, by decide, ?_⟩
    rw [fdiv_pos gp, fdiv_pos gp, Int.one_mul, Int.one_mul, low_pos h]
    exact q
  · rw [if_neg (by simpa using h)]
    refine ⟨small_l (by decide) (by decide), ⟨by omega, gl⟩, small_l (by decide) (by decide), ⟨by omega, gl⟩, by decide, ?_⟩
    rw [fdiv_pos gp, fdiv_pos gp, Int.neg_mul, Int.neg_mul, Int.one_mul, Int.one_mul, low_neg (by omega)]
    exact q
theorem pu__law_fu_plus (ds Q) (hl : ds.length = 2) (h : wf__law_fu_plus ds Q) : ws__law_fu_plus (edP Q) (enP N__law_fu_plus ds) := by
  obtain ⟨p, q, rfl, hp, hq, k⟩ := h
  obtain ⟨s1, s2, s3, s4, s5, s6⟩ := sum_ok hp hq
  simp only [ws__law_fu_plus, N__law_fu_plus, fr, at0, at1, wf__law_fu_part, wVar, wC, wOp, wUn, wCl, wB, wTr, wAnd, wOr, wNot, wAndV, wOrV, wNotV, wIf, wCh, wNil, wCons, wTup, wLe, wSz, wFn, wFnJ, wNext, wSeq, wRet, wRetN, wDrop, wIfS, wSet, wSetOwn, wNever, wAug, wOpO, wOpR, wClO, wApp, wSetIt, wFrz, wFor, wRg1, wRg2, wSq, wEnum, wZip, wgN, wgT, wgNil, wgCons, wYes, wAsgT, wgLs, wLenS, wIxS, wFnS, wIsi, wListOf, wRev, edP, edJ, enP, enJ, enS, NotOwn, Flat, List.map_cons, List.map_nil, List.length_cons, List.length_nil, List.replicate_succ, List.replicate_zero, List.cons_append, List.nil_append, List.append_nil, List.set_cons_zero, List.set_cons_succ, List.getElem?_cons_zero, List.getElem?_cons_succ, Nat.reduceAdd, Nat.reduceSub, Option.some.injEq, Sl.imm.injEq, Sl.own.injEq, Sl.scr.injEq, exists_eq_left, exists_eq_left', exists_eq_right, exists_eq, exists_eq', exists_and_left, and_assoc, and_true, true_and, ne_eq, not_false_eq_true, Nat.succ_ne_zero, or_true, true_or, true_implies, forall_eq', forall_eq, PyData.int.injEq, PyData.bool.injEq, PyData.list.injEq, PyData.tuple.injEq, List.cons.injEq, i_add, i_iadd, i_sub, i_mul, i_mod, i_fdiv, i_fdivG, i_pow, i_neg, i_le, i_ge, i_gt, i_lt, i_eq, i_ne, i_intI, i_intB, i_abs, i_max, i_min, i_lenL, i_lenT, i_ixL, i_ixT, i_tupL, i_tupT, i_truB, Bool.not_true, Bool.not_false, Bool.false_eq_true, if_true, if_false, reduceIte]
  refine ⟨s3, s4, s5, s1, s2, ?_⟩
  rw [fr_add]
  exact k
theorem pu__law_fu_times (ds Q) (hl : ds.length = 2) (h : wf__law_fu_times ds Q) : ws__law_fu_times (edP Q) (enP N__law_fu_times ds) := by
  obtain ⟨p, q, rfl, hp, hq, k⟩ := h
  obtain ⟨s1, s2, s3, s4, s5, s6⟩ := sum_ok hp hq
  simp only [ws__law_fu_times, N__law_fu_times, fr, at0, at1, wf__law_fu_part, wVar, wC, wOp, wUn, wCl, wB, wTr, wAnd, wOr, wNot, wAndV, wOrV, wNotV, wIf, wCh, wNil, wCons, wTup, wLe, wSz, wFn, wFnJ, wNext, wSeq, wRet, wRetN, wDrop, wIfS, wSet, wSetOwn, wNever, wAug, wOpO, wOpR, wClO, wApp, wSetIt, wFrz, wFor, wRg1, wRg2, wSq, wEnum, wZip, wgN, wgT, wgNil, wgCons, wYes, wAsgT, wgLs, wLenS, wIxS, wFnS, wIsi, wListOf, wRev, edP, edJ, enP, enJ, enS, NotOwn, Flat, List.map_cons, List.map_nil, List.length_cons, List.length_nil, List.replicate_succ, List.replicate_zero, List.cons_append, List.nil_append, List.append_nil, List.set_cons_zero, List.set_cons_succ, List.getElem?_cons_zero, List.getElem?_cons_succ, Nat.reduceAdd, Nat.reduceSub, Option.some.injEq, Sl.imm.injEq, Sl.own.injEq, Sl.scr.injEq, exists_eq_left, exists_eq_left', exists_eq_right, exists_eq, exists_eq', exists_and_left, and_assoc, and_true, true_and, ne_eq, not_false_eq_true, Nat.succ_ne_zero, or_true, true_or, true_implies, forall_eq', forall_eq, PyData.int.injEq, PyData.bool.injEq, PyData.list.injEq, PyData.tuple.injEq, List.cons.injEq, i_add, i_iadd, i_sub, i_mul, i_mod, i_fdiv, i_fdivG, i_pow, i_neg, i_le, i_ge, i_gt, i_lt, i_eq, i_ne, i_intI, i_intB, i_abs, i_max, i_min, i_lenL, i_lenT, i_ixL, i_ixT, i_tupL, i_tupT, i_truB, Bool.not_true, Bool.not_false, Bool.false_eq_true, if_true, if_false, reduceIte]
  refine ⟨s6, s5, s1, s2, ?_⟩
  rw [fr_mul]
  exact k
theorem pu__law_fu_below (ds Q) (hl : ds.length = 2) (h : wf__law_fu_below ds Q) : ws__law_fu_below (edP Q) (enP N__law_fu_below ds) := by
  obtain ⟨p, q, rfl, hp, hq, k⟩ := h
  obtain ⟨s1, s2, s3, s4, s5, s6⟩ := sum_ok hp hq
  simp only [ws__law_fu_below, N__law_fu_below, fr, at0, at1, wVar, wC, wOp, wUn, wCl, wB, wTr, wAnd, wOr, wNot, wAndV, wOrV, wNotV, wIf, wCh, wNil, wCons, wTup, wLe, wSz, wFn, wFnJ, wNext, wSeq, wRet, wRetN, wDrop, wIfS, wSet, wSetOwn, wNever, wAug, wOpO, wOpR, wClO, wApp, wSetIt, wFrz, wFor, wRg1, wRg2, wSq, wEnum, wZip, wgN, wgT, wgNil, wgCons, wYes, wAsgT, wgLs, wLenS, wIxS, wFnS, wIsi, wListOf, wRev, edP, edJ, enP, enJ, enS, NotOwn, Flat, List.map_cons, List.map_nil, List.length_cons, List.length_nil, List.replicate_succ, List.replicate_zero, List.cons_append, List.nil_append, List.append_nil, List.set_cons_zero, List.set_cons_succ, List.getElem?_cons_zero, List.getElem?_cons_succ, Nat.reduceAdd, Nat.reduceSub, Option.some.injEq, Sl.imm.injEq, Sl.own.injEq, Sl.scr.injEq, exists_eq_left, exists_eq_left', exists_eq_right, exists_eq, exists_eq', exists_and_left, and_assoc, and_true, true_and, ne_eq, not_false_eq_true, Nat.succ_ne_zero, or_true, true_or, true_implies, forall_eq', forall_eq, PyData.int.injEq, PyData.bool.injEq, PyData.list.injEq, PyData.tuple.injEq, List.cons.injEq, i_add, i_iadd, i_sub, i_mul, i_mod, i_fdiv, i_fdivG, i_pow, i_neg, i_le, i_ge, i_gt, i_lt, i_eq, i_ne, i_intI, i_intB, i_abs, i_max, i_min, i_lenL, i_lenT, i_ixL, i_ixT, i_tupL, i_tupT, i_truB, Bool.not_true, Bool.not_false, Bool.false_eq_true, if_true, if_false, reduceIte]
  refine ⟨s3, s4, ?_⟩
  simp only [Rat.lt_iff] at k
  exact k
theorem pu__law_ta_fraction (dj ds Q) (hl : ds.length + 1 = 2) (h : wf__law_ta_fraction dj ds Q) : ws__law_ta_fraction (edJ Q) (enJ N__law_ta_fraction dj ds) := by
  obtain ⟨g, m, c, n, rfl, rfl, h1, h2, q⟩ := h
  simp only [ws__law_ta_fraction, N__law_ta_fraction, wf__law_pour, wf__law_fu_part, wVar, wC, wOp, wUn, wCl, wB, wTr, wAnd, wOr, wNot, wAndV, wOrV, wNotV, wIf, wCh, wNil, wCons, wTup, wLe, wSz, wFn, wFnJ, wNext, wSeq, wRet, wRetN, wDrop, wIfS, wSet, wSetOwn, wNever, wAug, wOpO, wOpR, wClO, wApp, wSetIt, wFrz, wFor, wRg1, wRg2, wSq, wEnum, wZip, wgN, wgT, wgNil, wgCons, wYes, wAsgT, wgLs, wLenS, wIxS, wFnS, wIsi, wListOf, wRev, edP, edJ, enP, enJ, enS, NotOwn, Flat, List.map_cons, List.map_nil, List.length_cons, List.length_nil, List.replicate_succ, List.replicate_zero, List.cons_append, List.nil_append, List.append_nil, List.set_cons_zero, List.set_cons_succ, List.getElem?_cons_zero, List.getElem?_cons_succ, Nat.reduceAdd, Nat.reduceSub, Option.some.injEq, Sl.imm.injEq, Sl.own.injEq, Sl.scr.injEq, exists_eq_left, exists_eq_left', exists_eq_right, exists_eq, exists_eq', exists_and_left, and_assoc, and_true, true_and, ne_eq, not_false_eq_true, Nat.succ_ne_zero, or_true, true_or, true_implies, forall_eq', forall_eq, PyData.int.injEq, PyData.bool.injEq, PyData.list.injEq, PyData.tuple.injEq, List.cons.injEq, i_add, i_iadd, i_sub, i_mul, i_mod, i_fdiv, i_fdivG, i_pow, i_neg, i_le, i_ge, i_gt, i_lt, i_eq, i_ne, i_intI, i_intB, i_abs, i_max, i_min, i_lenL, i_lenT, i_ixL, i_ixT, i_tupL, i_tupT, i_truB, Bool.not_true, Bool.not_false, Bool.false_eq_true, if_true, if_false, reduceIte]
  have bb : (4 : Nat) * 10 ^ 40 < BB * BB := by decide +kernel
  refine ⟨small_l (by decide) (by decide), by omega, log_bb (Nat.lt_of_le_of_lt (show (2 * n + 1).natAbs ≤ 4 * 10 ^ 40 by omega) bb), fun r g m c a1 a2 => ⟨h1, log_bb (Nat.lt_of_le_of_lt (show n.natAbs ≤ 4 * 10 ^ 40 by omega) bb), fun r2 g m c a3 a4 => ⟨by omega, Nat.lt_of_le_of_lt (show (1 + r2).natAbs ≤ 4 * 10 ^ 40 by omega) bb, q _ _ _ _ ?_ ?_⟩⟩⟩
  · have := num_le (t := r - n) (b := 1 + r2)
    omega
  · have := den_le (t := r - n) (b := 1 + r2) (by omega)
    omega
theorem pu_are_fractions (ds Q) (hl : ds.length = 2) (h : wf_are_fractions ds Q) : ws_are_fractions (edP Q) (enP N_are_fractions ds) := by
  obtain ⟨qs, most, rfl, h1, h2, h3, q⟩ := h
  have kt : kitB (tyName (.tuple (qs.map fr))) "tuple" = some true := rfl
  simp only [ws_are_fractions, N_are_fractions, kt, List.length_map, wVar, wC, wOp, wUn, wCl, wB, wTr, wAnd, wOr, wNot, wAndV, wOrV, wNotV, wIf, wCh, wNil, wCons, wTup, wLe, wSz, wFn, wFnJ, wNext, wSeq, wRet, wRetN, wDrop, wIfS, wSet, wSetOwn, wNever, wAug, wOpO, wOpR, wClO, wApp, wSetIt, wFrz, wFor, wRg1, wRg2, wSq, wEnum, wZip, wgN, wgT, wgNil, wgCons, wYes, wAsgT, wgLs, wLenS, wIxS, wFnS, wIsi, wListOf, wRev, edP, edJ, enP, enJ, enS, NotOwn, Flat, List.map_cons, List.map_nil, List.length_cons, List.length_nil, List.replicate_succ, List.replicate_zero, List.cons_append, List.nil_append, List.append_nil, List.set_cons_zero, List.set_cons_succ, List.getElem?_cons_zero, List.getElem?_cons_succ, Nat.reduceAdd, Nat.reduceSub, Option.some.injEq, Sl.imm.injEq, Sl.own.injEq, Sl.scr.injEq, exists_eq_left, exists_eq_left', exists_eq_right, exists_eq, exists_eq', exists_and_left, and_assoc, and_true, true_and, ne_eq, not_false_eq_true, Nat.succ_ne_zero, or_true, true_or, true_implies, forall_eq', forall_eq, PyData.int.injEq, PyData.bool.injEq, PyData.list.injEq, PyData.tuple.injEq, List.cons.injEq, i_add, i_iadd, i_sub, i_mul, i_mod, i_fdiv, i_fdivG, i_pow, i_neg, i_le, i_ge, i_gt, i_lt, i_eq, i_ne, i_intI, i_intB, i_abs, i_max, i_min, i_lenL, i_lenT, i_ixL, i_ixT, i_tupL, i_tupT, i_truB, Bool.not_true, Bool.not_false, Bool.false_eq_true, if_true, if_false, reduceIte]
  rw [if_neg (by simp; omega)]
  refine lc1 (f := fun _ => .bool true) (xs := qs.map fr) (by decide) (fun Q q => ⟨_, rfl, _, Or.inr rfl, q⟩) trivial (by rw [List.length_map]; exact Nat.le_trans h1 (by decide)) (fun x hx Q q => ?_) ?_
  · obtain ⟨r, hr, rfl⟩ := List.mem_map.mp hx
    simp only [wVar, wC, wOp, wUn, wCl, wB, wTr, wAnd, wOr, wNot, wAndV, wOrV, wNotV, wIf, wCh, wNil, wCons, wTup, wLe, wSz, wFn, wFnJ, wNext, wSeq, wRet, wRetN, wDrop, wIfS, wSet, wSetOwn, wNever, wAug, wOpO, wOpR, wClO, wApp, wSetIt, wFrz, wFor, wRg1, wRg2, wSq, wEnum, wZip, wgN, wgT, wgNil, wgCons, wYes, wAsgT, wgLs, wLenS, wIxS, wFnS, wIsi, wListOf, wRev, edP, edJ, enP, enJ, enS, NotOwn, Flat, List.map_cons, List.map_nil, List.length_cons, List.length_nil, List.replicate_succ, List.replicate_zero, List.cons_append, List.nil_append, List.append_nil, List.set_cons_zero, List.set_cons_succ, List.getElem?_cons_zero, List.getElem?_cons_succ, Nat.reduceAdd, Nat.reduceSub, Option.some.injEq, Sl.imm.injEq, Sl.own.injEq, Sl.scr.injEq, exists_eq_left, exists_eq_left', exists_eq_right, exists_eq, exists_eq', exists_and_left, and_assoc, and_true, true_and, ne_eq, not_false_eq_true, Nat.succ_ne_zero, or_true, true_or, true_implies, forall_eq', forall_eq, PyData.int.injEq, PyData.bool.injEq, PyData.list.injEq, PyData.tuple.injEq, List.cons.injEq, i_add, i_iadd, i_sub, i_mul, i_mod, i_fdiv, i_fdivG, i_pow, i_neg, i_le, i_ge, i_gt, i_lt, i_eq, i_ne, i_intI, i_intB, i_abs, i_max, i_min, i_lenL, i_lenT, i_ixL, i_ixT, i_tupL, i_tupT, i_truB, Bool.not_true, Bool.not_false, Bool.false_eq_true, if_true, if_false, reduceIte]
    exact ⟨r, rfl, h3 r hr, q⟩
  · refine ⟨_, dAll_map (f := fun _ => true).mpr rfl, ?_⟩
    rw [List.all_eq_true.mpr (fun _ _ => rfl)]
    exact q
theorem tot_loop {d : D} {R : Ed} : ∀ (qs : List Rat) (a : Rat) (s : Sl), Way a qs → (∀ s, R.nx [.imm d, .imm (fr (rsum a qs)), s]) →
    forW (wgN 2) (wSet 1 (wFn 2 wf_sum_of_two (wCons (wVar 1) (wCons (wVar 2) wNil)))) R (qs.map fr) [.imm d, .imm (fr a), s]
  | [], a, s, _, q => q s
  | x :: xs, a, s, hw, q => by
    rw [List.map_cons]
    unfold forW
    simp only [wVar, wC, wOp, wUn, wCl, wB, wTr, wAnd, wOr, wNot, wAndV, wOrV, wNotV, wIf, wCh, wNil, wCons, wTup, wLe, wSz, wFn, wFnJ, wNext, wSeq, wRet, wRetN, wDrop, wIfS, wSet, wSetOwn, wNever, wAug, wOpO, wOpR, wClO, wApp, wSetIt, wFrz, wFor, wRg1, wRg2, wSq, wEnum, wZip, wgN, wgT, wgNil, wgCons, wYes, wAsgT, wgLs, wLenS, wIxS, wFnS, wIsi, wListOf, wRev, edP, edJ, enP, enJ, enS, NotOwn, Flat, List.map_cons, List.map_nil, List.length_cons, List.length_nil, List.replicate_succ, List.replicate_zero, List.cons_append, List.nil_append, List.append_nil, List.set_cons_zero, List.set_cons_succ, List.getElem?_cons_zero, List.getElem?_cons_succ, Nat.reduceAdd, Nat.reduceSub, Option.some.injEq, Sl.imm.injEq, Sl.own.injEq, Sl.scr.injEq, exists_eq_left, exists_eq_left', exists_eq_right, exists_eq, exists_eq', exists_and_left, and_assoc, and_true, true_and, ne_eq, not_false_eq_true, Nat.succ_ne_zero, or_true, true_or, true_implies, forall_eq', forall_eq, PyData.int.injEq, PyData.bool.injEq, PyData.list.injEq, PyData.tuple.injEq, List.cons.injEq, i_add, i_iadd, i_sub, i_mul, i_mod, i_fdiv, i_fdivG, i_pow, i_neg, i_le, i_ge, i_gt, i_lt, i_eq, i_ne, i_intI, i_intB, i_abs, i_max, i_min, i_lenL, i_lenT, i_ixL, i_ixT, i_tupL, i_tupT, i_truB, Bool.not_true, Bool.not_false, Bool.false_eq_true, if_true, if_false, reduceIte]
    exact ⟨a, x, rfl, hw.1, hw.2.1, tot_loop xs (a + x) _ hw.2.2 q⟩
theorem fr_0 : PyData.tuple [.int 0, .int 1] = fr 0 := rfl
theorem pu_total (ds Q) (hl : ds.length = 1) (h : wf_total ds Q) : ws_total (edP Q) (enP N_total ds) := by
  obtain ⟨qs, hd, hw, q⟩ := h
  rcases hd with rfl | rfl
  · simp only [ws_total, N_total, wVar, wC, wOp, wUn, wCl, wB, wTr, wAnd, wOr, wNot, wAndV, wOrV, wNotV, wIf, wCh, wNil, wCons, wTup, wLe, wSz, wFn, wFnJ, wNext, wSeq, wRet, wRetN, wDrop, wIfS, wSet, wSetOwn, wNever, wAug, wOpO, wOpR, wClO, wApp, wSetIt, wFrz, wFor, wRg1, wRg2, wSq, wEnum, wZip, wgN, wgT, wgNil, wgCons, wYes, wAsgT, wgLs, wLenS, wIxS, wFnS, wIsi, wListOf, wRev, edP, edJ, enP, enJ, enS, NotOwn, Flat, List.map_cons, List.map_nil, List.length_cons, List.length_nil, List.replicate_succ, List.replicate_zero, List.cons_append, List.nil_append, List.append_nil, List.set_cons_zero, List.set_cons_succ, List.getElem?_cons_zero, List.getElem?_cons_succ, Nat.reduceAdd, Nat.reduceSub, Option.some.injEq, Sl.imm.injEq, Sl.own.injEq, Sl.scr.injEq, exists_eq_left, exists_eq_left', exists_eq_right, exists_eq, exists_eq', exists_and_left, and_assoc, and_true, true_and, ne_eq, not_false_eq_true, Nat.succ_ne_zero, or_true, true_or, true_implies, forall_eq', forall_eq, PyData.int.injEq, PyData.bool.injEq, PyData.list.injEq, PyData.tuple.injEq, List.cons.injEq, i_add, i_iadd, i_sub, i_mul, i_mod, i_fdiv, i_fdivG, i_pow, i_neg, i_le, i_ge, i_gt, i_lt, i_eq, i_ne, i_intI, i_intB, i_abs, i_max, i_min, i_lenL, i_lenT, i_ixL, i_ixT, i_tupL, i_tupT, i_truB, Bool.not_true, Bool.not_false, Bool.false_eq_true, if_true, if_false, reduceIte]
    refine ⟨by decide, _, Or.inr rfl, ?_⟩
    rw [fr_0]
    refine tot_loop qs 0 _ hw fun s => ?_
    simp only [wVar, wC, wOp, wUn, wCl, wB, wTr, wAnd, wOr, wNot, wAndV, wOrV, wNotV, wIf, wCh, wNil, wCons, wTup, wLe, wSz, wFn, wFnJ, wNext, wSeq, wRet, wRetN, wDrop, wIfS, wSet, wSetOwn, wNever, wAug, wOpO, wOpR, wClO, wApp, wSetIt, wFrz, wFor, wRg1, wRg2, wSq, wEnum, wZip, wgN, wgT, wgNil, wgCons, wYes, wAsgT, wgLs, wLenS, wIxS, wFnS, wIsi, wListOf, wRev, edP, edJ, enP, enJ, enS, NotOwn, Flat, List.map_cons, List.map_nil, List.length_cons, List.length_nil, List.replicate_succ, List.replicate_zero, List.cons_append, List.nil_append, List.append_nil, List.set_cons_zero, List.set_cons_succ, List.getElem?_cons_zero, List.getElem?_cons_succ, Nat.reduceAdd, Nat.reduceSub, Option.some.injEq, Sl.imm.injEq, Sl.own.injEq, Sl.scr.injEq, exists_eq_left, exists_eq_left', exists_eq_right, exists_eq, exists_eq', exists_and_left, and_assoc, and_true, true_and, ne_eq, not_false_eq_true, Nat.succ_ne_zero, or_true, true_or, true_implies, forall_eq', forall_eq, PyData.int.injEq, PyData.bool.injEq, PyData.list.injEq, PyData.tuple.injEq, List.cons.injEq, i_add, i_iadd, i_sub, i_mul, i_mod, i_fdiv, i_fdivG, i_pow, i_neg, i_le, i_ge, i_gt, i_lt, i_eq, i_ne, i_intI, i_intB, i_abs, i_max, i_min, i_lenL, i_lenT, i_ixL, i_ixT, i_tupL, i_tupT, i_truB, Bool.not_true, Bool.not_false, Bool.false_eq_true, if_true, if_false, reduceIte]
    exact q
  · simp only [ws_total, N_total, wVar, wC, wOp, wUn, wCl, wB, wTr, wAnd, wOr, wNot, wAndV, wOrV, wNotV, wIf, wCh, wNil, wCons, wTup, wLe, wSz, wFn, wFnJ, wNext, wSeq, wRet, wRetN, wDrop, wIfS, wSet, wSetOwn, wNever, wAug, wOpO, wOpR, wClO, wApp, wSetIt, wFrz, wFor, wRg1, wRg2, wSq, wEnum, wZip, wgN, wgT, wgNil, wgCons, wYes, wAsgT, wgLs, wLenS, wIxS, wFnS, wIsi, wListOf, wRev, edP, edJ, enP, enJ, enS, NotOwn, Flat, List.map_cons, List.map_nil, List.length_cons, List.length_nil, List.replicate_succ, List.replicate_zero, List.cons_append, List.nil_append, List.append_nil, List.set_cons_zero, List.set_cons_succ, List.getElem?_cons_zero, List.getElem?_cons_succ, Nat.reduceAdd, Nat.reduceSub, Option.some.injEq, Sl.imm.injEq, Sl.own.injEq, Sl.scr.injEq, exists_eq_left, exists_eq_left', exists_eq_right, exists_eq, exists_eq', exists_and_left, and_assoc, and_true, true_and, ne_eq, not_false_eq_true, Nat.succ_ne_zero, or_true, true_or, true_implies, forall_eq', forall_eq, PyData.int.injEq, PyData.bool.injEq, PyData.list.injEq, PyData.tuple.injEq, List.cons.injEq, i_add, i_iadd, i_sub, i_mul, i_mod, i_fdiv, i_fdivG, i_pow, i_neg, i_le, i_ge, i_gt, i_lt, i_eq, i_ne, i_intI, i_intB, i_abs, i_max, i_min, i_lenL, i_lenT, i_ixL, i_ixT, i_tupL, i_tupT, i_truB, Bool.not_true, Bool.not_false, Bool.false_eq_true, if_true, if_false, reduceIte]
    refine ⟨by decide, _, Or.inl rfl, ?_⟩
    rw [fr_0]
    refine tot_loop qs 0 _ hw fun s => ?_
    simp only [wVar, wC, wOp, wUn, wCl, wB, wTr, wAnd, wOr, wNot, wAndV, wOrV, wNotV, wIf, wCh, wNil, wCons, wTup, wLe, wSz, wFn, wFnJ, wNext, wSeq, wRet, wRetN, wDrop, wIfS, wSet, wSetOwn, wNever, wAug, wOpO, wOpR, wClO, wApp, wSetIt, wFrz, wFor, wRg1, wRg2, wSq, wEnum, wZip, wgN, wgT, wgNil, wgCons, wYes, wAsgT, wgLs, wLenS, wIxS, wFnS, wIsi, wListOf, wRev, edP, edJ, enP, enJ, enS, NotOwn, Flat, List.map_cons, List.map_nil, List.length_cons, List.length_nil, List.replicate_succ, List.replicate_zero, List.cons_append, List.nil_append, List.append_nil, List.set_cons_zero, List.set_cons_succ, List.getElem?_cons_zero, List.getElem?_cons_succ, Nat.reduceAdd, Nat.reduceSub, Option.some.injEq, Sl.imm.injEq, Sl.own.injEq, Sl.scr.injEq, exists_eq_left, exists_eq_left', exists_eq_right, exists_eq, exists_eq', exists_and_left, and_assoc, and_true, true_and, ne_eq, not_false_eq_true, Nat.succ_ne_zero, or_true, true_or, true_implies, forall_eq', forall_eq, PyData.int.injEq, PyData.bool.injEq, PyData.list.injEq, PyData.tuple.injEq, List.cons.injEq, i_add, i_iadd, i_sub, i_mul, i_mod, i_fdiv, i_fdivG, i_pow, i_neg, i_le, i_ge, i_gt, i_lt, i_eq, i_ne, i_intI, i_intB, i_abs, i_max, i_min, i_lenL, i_lenT, i_ixL, i_ixT, i_tupL, i_tupT, i_truB, Bool.not_true, Bool.not_false, Bool.false_eq_true, if_true, if_false, reduceIte]
    exact q
theorem sum_loop {d : D} {R : Ed} : ∀ (qs : List Rat) (a : Rat) (s : Sl), Way a qs → (∀ s, R.nx [.imm d, .imm (fr (rsum a qs)), s]) →
    forW (wgN 2) (wSet 1 (wFn 2 wf__law_fu_plus (wCons (wVar 1) (wCons (wVar 2) wNil)))) R (qs.map fr) [.imm d, .imm (fr a), s]
  | [], a, s, _, q => q s
  | x :: xs, a, s, hw, q => by
    rw [List.map_cons]
    unfold forW
    simp only [wVar, wC, wOp, wUn, wCl, wB, wTr, wAnd, wOr, wNot, wAndV, wOrV, wNotV, wIf, wCh, wNil, wCons, wTup, wLe, wSz, wFn, wFnJ, wNext, wSeq, wRet, wRetN, wDrop, wIfS, wSet, wSetOwn, wNever, wAug, wOpO, wOpR, wClO, wApp, wSetIt, wFrz, wFor, wRg1, wRg2, wSq, wEnum, wZip, wgN, wgT, wgNil, wgCons, wYes, wAsgT, wgLs, wLenS, wIxS, wFnS, wIsi, wListOf, wRev, edP, edJ, enP, enJ, enS, NotOwn, Flat, List.map_cons, List.map_nil, List.length_cons, List.length_nil, List.replicate_succ, List.replicate_zero, List.cons_append, List.nil_append, List.append_nil, List.set_cons_zero, List.set_cons_succ, List.getElem?_cons_zero, List.getElem?_cons_succ, Nat.reduceAdd, Nat.reduceSub, Option.some.injEq, Sl.imm.injEq, Sl.own.injEq, Sl.scr.injEq, exists_eq_left, exists_eq_left', exists_eq_right, exists_eq, exists_eq', exists_and_left, and_assoc, and_true, true_and, ne_eq, not_false_eq_true, Nat.succ_ne_zero, or_true, true_or, true_implies, forall_eq', forall_eq, PyData.int.injEq, PyData.bool.injEq, PyData.list.injEq, PyData.tuple.injEq, List.cons.injEq, i_add, i_iadd, i_sub, i_mul, i_mod, i_fdiv, i_fdivG, i_pow, i_neg, i_le, i_ge, i_gt, i_lt, i_eq, i_ne, i_intI, i_intB, i_abs, i_max, i_min, i_lenL, i_lenT, i_ixL, i_ixT, i_tupL, i_tupT, i_truB, Bool.not_true, Bool.not_false, Bool.false_eq_true, if_true, if_false, reduceIte]
    exact ⟨a, x, rfl, hw.1, hw.2.1, sum_loop xs (a + x) _ hw.2.2 q⟩
theorem pu__law_sum (ds Q) (hl : ds.length = 1) (h : wf__law_sum ds Q) : ws__law_sum (edP Q) (enP N__law_sum ds) := by
  obtain ⟨qs, hd, hw, q⟩ := h
  rcases hd with rfl | rfl
  · simp only [ws__law_sum, N__law_sum, wVar, wC, wOp, wUn, wCl, wB, wTr, wAnd, wOr, wNot, wAndV, wOrV, wNotV, wIf, wCh, wNil, wCons, wTup, wLe, wSz, wFn, wFnJ, wNext, wSeq, wRet, wRetN, wDrop, wIfS, wSet, wSetOwn, wNever, wAug, wOpO, wOpR, wClO, wApp, wSetIt, wFrz, wFor, wRg1, wRg2, wSq, wEnum, wZip, wgN, wgT, wgNil, wgCons, wYes, wAsgT, wgLs, wLenS, wIxS, wFnS, wIsi, wListOf, wRev, edP, edJ, enP, enJ, enS, NotOwn, Flat, List.map_cons, List.map_nil, List.length_cons, List.length_nil, List.replicate_succ, List.replicate_zero, List.cons_append, List.nil_append, List.append_nil, List.set_cons_zero, List.set_cons_succ, List.getElem?_cons_zero, List.getElem?_cons_succ, Nat.reduceAdd, Nat.reduceSub, Option.some.injEq, Sl.imm.injEq, Sl.own.injEq, Sl.scr.injEq, exists_eq_left, exists_eq_left', exists_eq_right, exists_eq, exists_eq', exists_and_left, and_assoc, and_true, true_and, ne_eq, not_false_eq_true, Nat.succ_ne_zero, or_true, true_or, true_implies, forall_eq', forall_eq, PyData.int.injEq, PyData.bool.injEq, PyData.list.injEq, PyData.tuple.injEq, List.cons.injEq, i_add, i_iadd, i_sub, i_mul, i_mod, i_fdiv, i_fdivG, i_pow, i_neg, i_le, i_ge, i_gt, i_lt, i_eq, i_ne, i_intI, i_intB, i_abs, i_max, i_min, i_lenL, i_lenT, i_ixL, i_ixT, i_tupL, i_tupT, i_truB, Bool.not_true, Bool.not_false, Bool.false_eq_true, if_true, if_false, reduceIte]
    refine ⟨by decide, _, Or.inr rfl, ?_⟩
    rw [fr_0]
    refine sum_loop qs 0 _ hw fun s => ?_
    simp only [wVar, wC, wOp, wUn, wCl, wB, wTr, wAnd, wOr, wNot, wAndV, wOrV, wNotV, wIf, wCh, wNil, wCons, wTup, wLe, wSz, wFn, wFnJ, wNext, wSeq, wRet, wRetN, wDrop, wIfS, wSet, wSetOwn, wNever, wAug, wOpO, wOpR, wClO, wApp, wSetIt, wFrz, wFor, wRg1, wRg2, wSq, wEnum, wZip, wgN, wgT, wgNil, wgCons, wYes, wAsgT, wgLs, wLenS, wIxS, wFnS, wIsi, wListOf, wRev, edP, edJ, enP, enJ, enS, NotOwn, Flat, List.map_cons, List.map_nil, List.length_cons, List.length_nil, List.replicate_succ, List.replicate_zero, List.cons_append, List.nil_append, List.append_nil, List.set_cons_zero, List.set_cons_succ, List.getElem?_cons_zero, List.getElem?_cons_succ, Nat.reduceAdd, Nat.reduceSub, Option.some.injEq, Sl.imm.injEq, Sl.own.injEq, Sl.scr.injEq, exists_eq_left, exists_eq_left', exists_eq_right, exists_eq, exists_eq', exists_and_left, and_assoc, and_true, true_and, ne_eq, not_false_eq_true, Nat.succ_ne_zero, or_true, true_or, true_implies, forall_eq', forall_eq, PyData.int.injEq, PyData.bool.injEq, PyData.list.injEq, PyData.tuple.injEq, List.cons.injEq, i_add, i_iadd, i_sub, i_mul, i_mod, i_fdiv, i_fdivG, i_pow, i_neg, i_le, i_ge, i_gt, i_lt, i_eq, i_ne, i_intI, i_intB, i_abs, i_max, i_min, i_lenL, i_lenT, i_ixL, i_ixT, i_tupL, i_tupT, i_truB, Bool.not_true, Bool.not_false, Bool.false_eq_true, if_true, if_false, reduceIte]
    exact q
  · simp only [ws__law_sum, N__law_sum, wVar, wC, wOp, wUn, wCl, wB, wTr, wAnd, wOr, wNot, wAndV, wOrV, wNotV, wIf, wCh, wNil, wCons, wTup, wLe, wSz, wFn, wFnJ, wNext, wSeq, wRet, wRetN, wDrop, wIfS, wSet, wSetOwn, wNever, wAug, wOpO, wOpR, wClO, wApp, wSetIt, wFrz, wFor, wRg1, wRg2, wSq, wEnum, wZip, wgN, wgT, wgNil, wgCons, wYes, wAsgT, wgLs, wLenS, wIxS, wFnS, wIsi, wListOf, wRev, edP, edJ, enP, enJ, enS, NotOwn, Flat, List.map_cons, List.map_nil, List.length_cons, List.length_nil, List.replicate_succ, List.replicate_zero, List.cons_append, List.nil_append, List.append_nil, List.set_cons_zero, List.set_cons_succ, List.getElem?_cons_zero, List.getElem?_cons_succ, Nat.reduceAdd, Nat.reduceSub, Option.some.injEq, Sl.imm.injEq, Sl.own.injEq, Sl.scr.injEq, exists_eq_left, exists_eq_left', exists_eq_right, exists_eq, exists_eq', exists_and_left, and_assoc, and_true, true_and, ne_eq, not_false_eq_true, Nat.succ_ne_zero, or_true, true_or, true_implies, forall_eq', forall_eq, PyData.int.injEq, PyData.bool.injEq, PyData.list.injEq, PyData.tuple.injEq, List.cons.injEq, i_add, i_iadd, i_sub, i_mul, i_mod, i_fdiv, i_fdivG, i_pow, i_neg, i_le, i_ge, i_gt, i_lt, i_eq, i_ne, i_intI, i_intB, i_abs, i_max, i_min, i_lenL, i_lenT, i_ixL, i_ixT, i_tupL, i_tupT, i_truB, Bool.not_true, Bool.not_false, Bool.false_eq_true, if_true, if_false, reduceIte]
    refine ⟨by decide, _, Or.inl rfl, ?_⟩
    rw [fr_0]
    refine sum_loop qs 0 _ hw fun s => ?_
    simp only [wVar, wC, wOp, wUn, wCl, wB, wTr, wAnd, wOr, wNot, wAndV, wOrV, wNotV, wIf, wCh, wNil, wCons, wTup, wLe, wSz, wFn, wFnJ, wNext, wSeq, wRet, wRetN, wDrop, wIfS, wSet, wSetOwn, wNever, wAug, wOpO, wOpR, wClO, wApp, wSetIt, wFrz, wFor, wRg1, wRg2, wSq, wEnum, wZip, wgN, wgT, wgNil, wgCons, wYes, wAsgT, wgLs, wLenS, wIxS, wFnS, wIsi, wListOf, wRev, edP, edJ, enP, enJ, enS, NotOwn, Flat, List.map_cons, List.map_nil, List.length_cons, List.length_nil, List.replicate_succ, List.replicate_zero, List.cons_append, List.nil_append, List.append_nil, List.set_cons_zero, List.set_cons_succ, List.getElem?_cons_zero, List.getElem?_cons_succ, Nat.reduceAdd, Nat.reduceSub, Option.some.injEq, Sl.imm.injEq, Sl.own.injEq, Sl.scr.injEq, exists_eq_left, exists_eq_left', exists_eq_right, exists_eq, exists_eq', exists_and_left, and_assoc, and_true, true_and, ne_eq, not_false_eq_true, Nat.succ_ne_zero, or_true, true_or, true_implies, forall_eq', forall_eq, PyData.int.injEq, PyData.bool.injEq, PyData.list.injEq, PyData.tuple.injEq, List.cons.injEq, i_add, i_iadd, i_sub, i_mul, i_mod, i_fdiv, i_fdivG, i_pow, i_neg, i_le, i_ge, i_gt, i_lt, i_eq, i_ne, i_intI, i_intB, i_abs, i_max, i_min, i_lenL, i_lenT, i_ixL, i_ixT, i_tupL, i_tupT, i_truB, Bool.not_true, Bool.not_false, Bool.false_eq_true, if_true, if_false, reduceIte]
    exact q
theorem pu_added (ds Q) (hl : ds.length = 1) (h : wf_added ds Q) : ws_added (edP Q) (enP N_added ds) := by
  obtain ⟨qs, rfl, h1, h2, hw, q⟩ := h
  simp only [ws_added, N_added, wVar, wC, wOp, wUn, wCl, wB, wTr, wAnd, wOr, wNot, wAndV, wOrV, wNotV, wIf, wCh, wNil, wCons, wTup, wLe, wSz, wFn, wFnJ, wNext, wSeq, wRet, wRetN, wDrop, wIfS, wSet, wSetOwn, wNever, wAug, wOpO, wOpR, wClO, wApp, wSetIt, wFrz, wFor, wRg1, wRg2, wSq, wEnum, wZip, wgN, wgT, wgNil, wgCons, wYes, wAsgT, wgLs, wLenS, wIxS, wFnS, wIsi, wListOf, wRev, edP, edJ, enP, enJ, enS, NotOwn, Flat, List.map_cons, List.map_nil, List.length_cons, List.length_nil, List.replicate_succ, List.replicate_zero, List.cons_append, List.nil_append, List.append_nil, List.set_cons_zero, List.set_cons_succ, List.getElem?_cons_zero, List.getElem?_cons_succ, Nat.reduceAdd, Nat.reduceSub, Option.some.injEq, Sl.imm.injEq, Sl.own.injEq, Sl.scr.injEq, exists_eq_left, exists_eq_left', exists_eq_right, exists_eq, exists_eq', exists_and_left, and_assoc, and_true, true_and, ne_eq, not_false_eq_true, Nat.succ_ne_zero, or_true, true_or, true_implies, forall_eq', forall_eq, PyData.int.injEq, PyData.bool.injEq, PyData.list.injEq, PyData.tuple.injEq, List.cons.injEq, i_add, i_iadd, i_sub, i_mul, i_mod, i_fdiv, i_fdivG, i_pow, i_neg, i_le, i_ge, i_gt, i_lt, i_eq, i_ne, i_intI, i_intB, i_abs, i_max, i_min, i_lenL, i_lenT, i_ixL, i_ixT, i_tupL, i_tupT, i_truB, Bool.not_true, Bool.not_false, Bool.false_eq_true, if_true, if_false, reduceIte]
  refine ⟨qs, 100, rfl, h1, by omega, h2, ?_⟩
  simp only [wVar, wC, wOp, wUn, wCl, wB, wTr, wAnd, wOr, wNot, wAndV, wOrV, wNotV, wIf, wCh, wNil, wCons, wTup, wLe, wSz, wFn, wFnJ, wNext, wSeq, wRet, wRetN, wDrop, wIfS, wSet, wSetOwn, wNever, wAug, wOpO, wOpR, wClO, wApp, wSetIt, wFrz, wFor, wRg1, wRg2, wSq, wEnum, wZip, wgN, wgT, wgNil, wgCons, wYes, wAsgT, wgLs, wLenS, wIxS, wFnS, wIsi, wListOf, wRev, edP, edJ, enP, enJ, enS, NotOwn, Flat, List.map_cons, List.map_nil, List.length_cons, List.length_nil, List.replicate_succ, List.replicate_zero, List.cons_append, List.nil_append, List.append_nil, List.set_cons_zero, List.set_cons_succ, List.getElem?_cons_zero, List.getElem?_cons_succ, Nat.reduceAdd, Nat.reduceSub, Option.some.injEq, Sl.imm.injEq, Sl.own.injEq, Sl.scr.injEq, exists_eq_left, exists_eq_left', exists_eq_right, exists_eq, exists_eq', exists_and_left, and_assoc, and_true, true_and, ne_eq, not_false_eq_true, Nat.succ_ne_zero, or_true, true_or, true_implies, forall_eq', forall_eq, PyData.int.injEq, PyData.bool.injEq, PyData.list.injEq, PyData.tuple.injEq, List.cons.injEq, i_add, i_iadd, i_sub, i_mul, i_mod, i_fdiv, i_fdivG, i_pow, i_neg, i_le, i_ge, i_gt, i_lt, i_eq, i_ne, i_intI, i_intB, i_abs, i_max, i_min, i_lenL, i_lenT, i_ixL, i_ixT, i_tupL, i_tupT, i_truB, Bool.not_true, Bool.not_false, Bool.false_eq_true, if_true, if_false, reduceIte]
  exact ⟨qs, Or.inl rfl, hw, q⟩
theorem pu_is_counted (ds Q) (hl : ds.length = 1) (h : wf_is_counted ds Q) : ws_is_counted (edP Q) (enP N_is_counted ds) := by
  obtain ⟨x, rfl, ⟨h1, h2, h3⟩, q⟩ := h
  have kt : kitB (tyName (.tuple [.int x.1, fr x.2])) "tuple" = some true := rfl
  simp only [ws_is_counted, N_is_counted, pr, kt, at0, at1, wf_is_between, wVar, wC, wOp, wUn, wCl, wB, wTr, wAnd, wOr, wNot, wAndV, wOrV, wNotV, wIf, wCh, wNil, wCons, wTup, wLe, wSz, wFn, wFnJ, wNext, wSeq, wRet, wRetN, wDrop, wIfS, wSet, wSetOwn, wNever, wAug, wOpO, wOpR, wClO, wApp, wSetIt, wFrz, wFor, wRg1, wRg2, wSq, wEnum, wZip, wgN, wgT, wgNil, wgCons, wYes, wAsgT, wgLs, wLenS, wIxS, wFnS, wIsi, wListOf, wRev, edP, edJ, enP, enJ, enS, NotOwn, Flat, List.map_cons, List.map_nil, List.length_cons, List.length_nil, List.replicate_succ, List.replicate_zero, List.cons_append, List.nil_append, List.append_nil, List.set_cons_zero, List.set_cons_succ, List.getElem?_cons_zero, List.getElem?_cons_succ, Nat.reduceAdd, Nat.reduceSub, Option.some.injEq, Sl.imm.injEq, Sl.own.injEq, Sl.scr.injEq, exists_eq_left, exists_eq_left', exists_eq_right, exists_eq, exists_eq', exists_and_left, and_assoc, and_true, true_and, ne_eq, not_false_eq_true, Nat.succ_ne_zero, or_true, true_or, true_implies, forall_eq', forall_eq, PyData.int.injEq, PyData.bool.injEq, PyData.list.injEq, PyData.tuple.injEq, List.cons.injEq, i_add, i_iadd, i_sub, i_mul, i_mod, i_fdiv, i_fdivG, i_pow, i_neg, i_le, i_ge, i_gt, i_lt, i_eq, i_ne, i_intI, i_intB, i_abs, i_max, i_min, i_lenL, i_lenT, i_ixL, i_ixT, i_tupL, i_tupT, i_truB, Bool.not_true, Bool.not_false, Bool.false_eq_true, if_true, if_false, reduceIte]
  rw [if_neg (by decide)]
  rw [decide_eq_true h1, decide_eq_true h2]
  simp only [Bool.and_self, wVar, wC, wOp, wUn, wCl, wB, wTr, wAnd, wOr, wNot, wAndV, wOrV, wNotV, wIf, wCh, wNil, wCons, wTup, wLe, wSz, wFn, wFnJ, wNext, wSeq, wRet, wRetN, wDrop, wIfS, wSet, wSetOwn, wNever, wAug, wOpO, wOpR, wClO, wApp, wSetIt, wFrz, wFor, wRg1, wRg2, wSq, wEnum, wZip, wgN, wgT, wgNil, wgCons, wYes, wAsgT, wgLs, wLenS, wIxS, wFnS, wIsi, wListOf, wRev, edP, edJ, enP, enJ, enS, NotOwn, Flat, List.map_cons, List.map_nil, List.length_cons, List.length_nil, List.replicate_succ, List.replicate_zero, List.cons_append, List.nil_append, List.append_nil, List.set_cons_zero, List.set_cons_succ, List.getElem?_cons_zero, List.getElem?_cons_succ, Nat.reduceAdd, Nat.reduceSub, Option.some.injEq, Sl.imm.injEq, Sl.own.injEq, Sl.scr.injEq, exists_eq_left, exists_eq_left', exists_eq_right, exists_eq, exists_eq', exists_and_left, and_assoc, and_true, true_and, ne_eq, not_false_eq_true, Nat.succ_ne_zero, or_true, true_or, true_implies, forall_eq', forall_eq, PyData.int.injEq, PyData.bool.injEq, PyData.list.injEq, PyData.tuple.injEq, List.cons.injEq, i_add, i_iadd, i_sub, i_mul, i_mod, i_fdiv, i_fdivG, i_pow, i_neg, i_le, i_ge, i_gt, i_lt, i_eq, i_ne, i_intI, i_intB, i_abs, i_max, i_min, i_lenL, i_lenT, i_ixL, i_ixT, i_tupL, i_tupT, i_truB, Bool.not_true, Bool.not_false, Bool.false_eq_true, if_true, if_false, reduceIte]
  exact ⟨x.2, rfl, h3, q⟩
theorem pu_are_counted (ds Q) (hl : ds.length = 1) (h : wf_are_counted ds Q) : ws_are_counted (edP Q) (enP N_are_counted ds) := by
  obtain ⟨xs, rfl, h1, h2, h3, q⟩ := h
  have kt : kitB (tyName (.tuple (xs.map pr))) "tuple" = some true := rfl
  have c1 : (1 : Int) ≤ (xs.length : Nat) := by omega
  have c2 : ((xs.length : Nat) : Int) ≤ 100 := by omega
  simp only [ws_are_counted, N_are_counted, kt, List.length_map, c1, c2, decide_true, wVar, wC, wOp, wUn, wCl, wB, wTr, wAnd, wOr, wNot, wAndV, wOrV, wNotV, wIf, wCh, wNil, wCons, wTup, wLe, wSz, wFn, wFnJ, wNext, wSeq, wRet, wRetN, wDrop, wIfS, wSet, wSetOwn, wNever, wAug, wOpO, wOpR, wClO, wApp, wSetIt, wFrz, wFor, wRg1, wRg2, wSq, wEnum, wZip, wgN, wgT, wgNil, wgCons, wYes, wAsgT, wgLs, wLenS, wIxS, wFnS, wIsi, wListOf, wRev, edP, edJ, enP, enJ, enS, NotOwn, Flat, List.map_cons, List.map_nil, List.length_cons, List.length_nil, List.replicate_succ, List.replicate_zero, List.cons_append, List.nil_append, List.append_nil, List.set_cons_zero, List.set_cons_succ, List.getElem?_cons_zero, List.getElem?_cons_succ, Nat.reduceAdd, Nat.reduceSub, Option.some.injEq, Sl.imm.injEq, Sl.own.injEq, Sl.scr.injEq, exists_eq_left, exists_eq_left', exists_eq_right, exists_eq, exists_eq', exists_and_left, and_assoc, and_true, true_and, ne_eq, not_false_eq_true, Nat.succ_ne_zero, or_true, true_or, true_implies, forall_eq', forall_eq, PyData.int.injEq, PyData.bool.injEq, PyData.list.injEq, PyData.tuple.injEq, List.cons.injEq, i_add, i_iadd, i_sub, i_mul, i_mod, i_fdiv, i_fdivG, i_pow, i_neg, i_le, i_ge, i_gt, i_lt, i_eq, i_ne, i_intI, i_intB, i_abs, i_max, i_min, i_lenL, i_lenT, i_ixL, i_ixT, i_tupL, i_tupT, i_truB, Bool.not_true, Bool.not_false, Bool.false_eq_true, if_true, if_false, reduceIte]
  refine lc1 (f := fun _ => .bool true) (xs := xs.map pr) (by decide) (fun Q q => ⟨_, rfl, _, Or.inr rfl, q⟩) trivial (by rw [List.length_map]; exact Nat.le_trans h2 (by decide)) (fun x hx Q q => ?_) ?_
  · obtain ⟨r, hr, rfl⟩ := List.mem_map.mp hx
    simp only [wVar, wC, wOp, wUn, wCl, wB, wTr, wAnd, wOr, wNot, wAndV, wOrV, wNotV, wIf, wCh, wNil, wCons, wTup, wLe, wSz, wFn, wFnJ, wNext, wSeq, wRet, wRetN, wDrop, wIfS, wSet, wSetOwn, wNever, wAug, wOpO, wOpR, wClO, wApp, wSetIt, wFrz, wFor, wRg1, wRg2, wSq, wEnum, wZip, wgN, wgT, wgNil, wgCons, wYes, wAsgT, wgLs, wLenS, wIxS, wFnS, wIsi, wListOf, wRev, edP, edJ, enP, enJ, enS, NotOwn, Flat, List.map_cons, List.map_nil, List.length_cons, List.length_nil, List.replicate_succ, List.replicate_zero, List.cons_append, List.nil_append, List.append_nil, List.set_cons_zero, List.set_cons_succ, List.getElem?_cons_zero, List.getElem?_cons_succ, Nat.reduceAdd, Nat.reduceSub, Option.some.injEq, Sl.imm.injEq, Sl.own.injEq, Sl.scr.injEq, exists_eq_left, exists_eq_left', exists_eq_right, exists_eq, exists_eq', exists_and_left, and_assoc, and_true, true_and, ne_eq, not_false_eq_true, Nat.succ_ne_zero, or_true, true_or, true_implies, forall_eq', forall_eq, PyData.int.injEq, PyData.bool.injEq, PyData.list.injEq, PyData.tuple.injEq, List.cons.injEq, i_add, i_iadd, i_sub, i_mul, i_mod, i_fdiv, i_fdivG, i_pow, i_neg, i_le, i_ge, i_gt, i_lt, i_eq, i_ne, i_intI, i_intB, i_abs, i_max, i_min, i_lenL, i_lenT, i_ixL, i_ixT, i_tupL, i_tupT, i_truB, Bool.not_true, Bool.not_false, Bool.false_eq_true, if_true, if_false, reduceIte]
    exact ⟨r, rfl, h3 r hr, q⟩
  · refine ⟨_, dAll_map (f := fun _ => true).mpr rfl, ?_⟩
    rw [List.all_eq_true.mpr (fun _ _ => rfl)]
    exact q
/-! ### rationals -/
theorem fr_int (c : Int) : PyData.tuple [.int c, .int 1] = fr (c : Rat) := by
  unfold fr; rw [Rat.num_intCast, Rat.den_intCast]; rfl
theorem inv_parts {c : Int} (h : 0 < c) : (Rat.divInt 1 c).num = 1 ∧ ((Rat.divInt 1 c).den : Int) = c := by
  have g : Int.gcd 1 c = 1 := Int.one_gcd
  rw [low_den (by omega), low_num (by omega), g, Int.sign_eq_one_of_pos h, Int.natAbs_of_nonneg (by omega)]
  refine ⟨by decide, ?_⟩
  show c / 1 = c
  rw [Int.ediv_one]
theorem fr_inv {c : Int} (h : 0 < c) : PyData.tuple [.int 1, .int c] = fr (Rat.divInt 1 c) := by
  unfold fr; rw [(inv_parts h).1, (inv_parts h).2]
theorem sm_inv {c : Int} (h : 0 < c) (h2 : c < 2 ^ 64) : Sm BB (Rat.divInt 1 c) := by
  obtain ⟨h3, h4⟩ := inv_parts h
  have h5 : 2 ^ 64 ≤ BB := by decide +kernel
  exact ⟨by rw [h3]; exact Nat.lt_of_lt_of_le (by decide : (1 : Int).natAbs < 2 ^ 64) h5, by omega⟩
theorem sm_int {c : Int} (h : 0 < c) (h2 : c < 2 ^ 64) : Sm BB (c : Rat) := by
  have h5 : 2 ^ 64 ≤ BB := by decide +kernel
  exact ⟨by rw [Rat.num_intCast]; omega, by rw [Rat.den_intCast]; omega⟩
theorem way_last : ∀ {qs : List Rat} {a : Rat}, Way a qs → Sm BB (rsum a qs)
  | [], _, h => h
  | q :: qs, a, h => by
    show Sm BB (rsum (a + q) qs)
    exact way_last h.2.2
theorem way_mem : ∀ {qs : List Rat} {a : Rat}, Way a qs → ∀ q ∈ qs, Sm BB q
  | _ :: _, _, h, q, hq => by
    rcases List.mem_cons.mp hq with rfl | hq
    · exact h.2.1
    · exact way_mem h.2.2 q hq
theorem cs_cons (x : Pr) (xs : List Pr) : cs (x :: xs) = x.1 + cs xs := by
  show (x.1 :: xs.map (·.1)).sum = _
  rw [List.sum_cons]; rfl
theorem cs_bound : ∀ {xs : List Pr}, (∀ x ∈ xs, Cnt x) → (xs.length : Int) ≤ cs xs ∧ cs xs ≤ 1000000000 * (xs.length : Int)
  | [], _ => by
    show (0 : Int) ≤ 0 ∧ (0 : Int) ≤ 1000000000 * 0
    omega
  | x :: xs, h => by
    obtain ⟨h1, h2⟩ := cs_bound fun y hy => h y (List.mem_cons_of_mem _ hy)
    obtain ⟨h3, h4, _⟩ := h x List.mem_cons_self
    rw [cs_cons, List.length_cons]
    omega
theorem cs_ints (xs : List Pr) : (xs.map fun x => PyData.int x.1) = (xs.map (·.1)).map .int := by rw [List.map_map]; rfl
theorem pu_mean (ds Q) (hl : ds.length = 1) (h : wf_mean ds Q) : ws_mean (edP Q) (enP N_mean ds) := by
  obtain ⟨xs, rfl, h1, h2, h3, hw, q⟩ := h
  obtain ⟨c1, c2⟩ := cs_bound h3
  have hlen : xs.length ≤ sizeLine := Nat.le_trans h2 (by decide)
  unfold ws_mean
  (try dsimp only); rw [wSeq_eq]; simp only [N_mean, wVar, wC, wOp, wUn, wCl, wB, wTr, wAnd, wOr, wNot, wAndV, wOrV, wNotV, wIf, wCh, wNil, wCons, wTup, wLe, wSz, wFn, wFnJ, wNext, wRet, wRetN, wDrop, wIfS, wSet, wSetOwn, wNever, wAug, wOpO, wOpR, wClO, wApp, wSetIt, wFrz, wFor, wRg1, wRg2, wSq, wEnum, wZip, wgN, wgT, wgNil, wgCons, wYes, wAsgT, wgLs, wLenS, wIxS, wFnS, wIsi, wListOf, wRev, edP, edJ, enP, enJ, enS, NotOwn, Flat, List.map_cons, List.map_nil, List.length_cons, List.length_nil, List.replicate_succ, List.replicate_zero, List.cons_append, List.nil_append, List.append_nil, List.set_cons_zero, List.set_cons_succ, List.getElem?_cons_zero, List.getElem?_cons_succ, Nat.reduceAdd, Nat.reduceSub, Option.some.injEq, Sl.imm.injEq, Sl.own.injEq, Sl.scr.injEq, exists_eq_left, exists_eq_left', exists_eq_right, exists_eq, exists_eq', exists_and_left, and_assoc, and_true, true_and, ne_eq, not_false_eq_true, Nat.succ_ne_zero, or_true, true_or, true_implies, forall_eq', forall_eq, PyData.int.injEq, PyData.bool.injEq, PyData.list.injEq, PyData.tuple.injEq, List.cons.injEq, i_add, i_iadd, i_sub, i_mul, i_mod, i_fdiv, i_fdivG, i_pow, i_neg, i_le, i_ge, i_gt, i_lt, i_eq, i_ne, i_intI, i_intB, i_abs, i_max, i_min, i_lenL, i_lenT, i_ixL, i_ixT, i_tupL, i_tupT, i_truB, Bool.not_true, Bool.not_false, Bool.false_eq_true, if_true, if_false, reduceIte]
  refine ⟨xs, rfl, h1, h2, h3, ?_⟩
  simp only [wVar, wC, wOp, wUn, wCl, wB, wTr, wAnd, wOr, wNot, wAndV, wOrV, wNotV, wIf, wCh, wNil, wCons, wTup, wLe, wSz, wFn, wFnJ, wNext, wRet, wRetN, wDrop, wIfS, wSet, wSetOwn, wNever, wAug, wOpO, wOpR, wClO, wApp, wSetIt, wFrz, wFor, wRg1, wRg2, wSq, wEnum, wZip, wgN, wgT, wgNil, wgCons, wYes, wAsgT, wgLs, wLenS, wIxS, wFnS, wIsi, wListOf, wRev, edP, edJ, enP, enJ, enS, NotOwn, Flat, List.map_cons, List.map_nil, List.length_cons, List.length_nil, List.replicate_succ, List.replicate_zero, List.cons_append, List.nil_append, List.append_nil, List.set_cons_zero, List.set_cons_succ, List.getElem?_cons_zero, List.getElem?_cons_succ, Nat.reduceAdd, Nat.reduceSub, Option.some.injEq, Sl.imm.injEq, Sl.own.injEq, Sl.scr.injEq, exists_eq_left, exists_eq_left', exists_eq_right, exists_eq, exists_eq', exists_and_left, and_assoc, and_true, true_and, ne_eq, not_false_eq_true, Nat.succ_ne_zero, or_true, true_or, true_implies, forall_eq', forall_eq, PyData.int.injEq, PyData.bool.injEq, PyData.list.injEq, PyData.tuple.injEq, List.cons.injEq, i_add, i_iadd, i_sub, i_mul, i_mod, i_fdiv, i_fdivG, i_pow, i_neg, i_le, i_ge, i_gt, i_lt, i_eq, i_ne, i_intI, i_intB, i_abs, i_max, i_min, i_lenL, i_lenT, i_ixL, i_ixT, i_tupL, i_tupT, i_truB, Bool.not_true, Bool.not_false, Bool.false_eq_true, if_true, if_false, reduceIte]
  (try dsimp only); rw [wSeq_eq]; simp only [wVar, wC, wOp, wUn, wCl, wB, wTr, wAnd, wOr, wNot, wAndV, wOrV, wNotV, wIf, wCh, wNil, wCons, wTup, wLe, wSz, wFn, wFnJ, wNext, wRet, wRetN, wDrop, wIfS, wSet, wSetOwn, wNever, wAug, wOpO, wOpR, wClO, wApp, wSetIt, wFrz, wFor, wRg1, wRg2, wSq, wEnum, wZip, wgN, wgT, wgNil, wgCons, wYes, wAsgT, wgLs, wLenS, wIxS, wFnS, wIsi, wListOf, wRev, edP, edJ, enP, enJ, enS, NotOwn, Flat, List.map_cons, List.map_nil, List.length_cons, List.length_nil, List.replicate_succ, List.replicate_zero, List.cons_append, List.nil_append, List.append_nil, List.set_cons_zero, List.set_cons_succ, List.getElem?_cons_zero, List.getElem?_cons_succ, Nat.reduceAdd, Nat.reduceSub, Option.some.injEq, Sl.imm.injEq, Sl.own.injEq, Sl.scr.injEq, exists_eq_left, exists_eq_left', exists_eq_right, exists_eq, exists_eq', exists_and_left, and_assoc, and_true, true_and, ne_eq, not_false_eq_true, Nat.succ_ne_zero, or_true, true_or, true_implies, forall_eq', forall_eq, PyData.int.injEq, PyData.bool.injEq, PyData.list.injEq, PyData.tuple.injEq, List.cons.injEq, i_add, i_iadd, i_sub, i_mul, i_mod, i_fdiv, i_fdivG, i_pow, i_neg, i_le, i_ge, i_gt, i_lt, i_eq, i_ne, i_intI, i_intB, i_abs, i_max, i_min, i_lenL, i_lenT, i_ixL, i_ixT, i_tupL, i_tupT, i_truB, Bool.not_true, Bool.not_false, Bool.false_eq_true, if_true, if_false, reduceIte]
  refine lcY (X := pr) (f := fun x => fr ((x.1 : Rat) * x.2)) (fun x => [.imm (.tuple (xs.map pr)), .un, .imm (.int x.1), .imm (fr x.2), .un]) (by decide) (fun Q q => ⟨_, rfl, _, Or.inr rfl, q⟩) (no2 trivial trivial) hlen (fun x => rfl) (fun x hx Q q => ?_) (fun x hx Q q => ?_) ?_
  · simp only [pr, wip, wVar, wC, wOp, wUn, wCl, wB, wTr, wAnd, wOr, wNot, wAndV, wOrV, wNotV, wIf, wCh, wNil, wCons, wTup, wLe, wSz, wFn, wFnJ, wNext, wRet, wRetN, wDrop, wIfS, wSet, wSetOwn, wNever, wAug, wOpO, wOpR, wClO, wApp, wSetIt, wFrz, wFor, wRg1, wRg2, wSq, wEnum, wZip, wgN, wgT, wgNil, wgCons, wYes, wAsgT, wgLs, wLenS, wIxS, wFnS, wIsi, wListOf, wRev, edP, edJ, enP, enJ, enS, NotOwn, Flat, List.map_cons, List.map_nil, List.length_cons, List.length_nil, List.replicate_succ, List.replicate_zero, List.cons_append, List.nil_append, List.append_nil, List.set_cons_zero, List.set_cons_succ, List.getElem?_cons_zero, List.getElem?_cons_succ, Nat.reduceAdd, Nat.reduceSub, Option.some.injEq, Sl.imm.injEq, Sl.own.injEq, Sl.scr.injEq, exists_eq_left, exists_eq_left', exists_eq_right, exists_eq, exists_eq', exists_and_left, and_assoc, and_true, true_and, ne_eq, not_false_eq_true, Nat.succ_ne_zero, or_true, true_or, true_implies, forall_eq', forall_eq, PyData.int.injEq, PyData.bool.injEq, PyData.list.injEq, PyData.tuple.injEq, List.cons.injEq, i_add, i_iadd, i_sub, i_mul, i_mod, i_fdiv, i_fdivG, i_pow, i_neg, i_le, i_ge, i_gt, i_lt, i_eq, i_ne, i_intI, i_intB, i_abs, i_max, i_min, i_lenL, i_lenT, i_ixL, i_ixT, i_tupL, i_tupT, i_truB, Bool.not_true, Bool.not_false, Bool.false_eq_true, if_true, if_false, reduceIte]
    exact q
  · simp only [wVar, wC, wOp, wUn, wCl, wB, wTr, wAnd, wOr, wNot, wAndV, wOrV, wNotV, wIf, wCh, wNil, wCons, wTup, wLe, wSz, wFn, wFnJ, wNext, wRet, wRetN, wDrop, wIfS, wSet, wSetOwn, wNever, wAug, wOpO, wOpR, wClO, wApp, wSetIt, wFrz, wFor, wRg1, wRg2, wSq, wEnum, wZip, wgN, wgT, wgNil, wgCons, wYes, wAsgT, wgLs, wLenS, wIxS, wFnS, wIsi, wListOf, wRev, edP, edJ, enP, enJ, enS, NotOwn, Flat, List.map_cons, List.map_nil, List.length_cons, List.length_nil, List.replicate_succ, List.replicate_zero, List.cons_append, List.nil_append, List.append_nil, List.set_cons_zero, List.set_cons_succ, List.getElem?_cons_zero, List.getElem?_cons_succ, Nat.reduceAdd, Nat.reduceSub, Option.some.injEq, Sl.imm.injEq, Sl.own.injEq, Sl.scr.injEq, exists_eq_left, exists_eq_left', exists_eq_right, exists_eq, exists_eq', exists_and_left, and_assoc, and_true, true_and, ne_eq, not_false_eq_true, Nat.succ_ne_zero, or_true, true_or, true_implies, forall_eq', forall_eq, PyData.int.injEq, PyData.bool.injEq, PyData.list.injEq, PyData.tuple.injEq, List.cons.injEq, i_add, i_iadd, i_sub, i_mul, i_mod, i_fdiv, i_fdivG, i_pow, i_neg, i_le, i_ge, i_gt, i_lt, i_eq, i_ne, i_intI, i_intB, i_abs, i_max, i_min, i_lenL, i_lenT, i_ixL, i_ixT, i_tupL, i_tupT, i_truB, Bool.not_true, Bool.not_false, Bool.false_eq_true, if_true, if_false, reduceIte]
    rw [fr_int]
    obtain ⟨k1, k2, k3⟩ := h3 x hx
    exact ⟨by decide, _, _, rfl, sm_int (by omega) (by omega), tn_bb k3, q⟩
  refine ⟨ws xs, Or.inr (by unfold ws; rw [List.map_map]; rfl), hw, _, rfl, ?_⟩
  dsimp only [List.set_cons_succ, List.set_cons_zero]
  refine lcY (X := pr) (f := fun x => .int x.1) (fun x => [.imm (.tuple (xs.map pr)), .imm (fr (rsum 0 (ws xs))), .imm (.int x.1), .un, .imm (fr x.2)]) (by decide) (fun Q q => ⟨_, rfl, _, Or.inr rfl, q⟩) (no2 trivial trivial) hlen (fun x => rfl) (fun x hx Q q => ?_) (fun x hx Q q => ?_) ?_
  · simp only [pr, wip, wVar, wC, wOp, wUn, wCl, wB, wTr, wAnd, wOr, wNot, wAndV, wOrV, wNotV, wIf, wCh, wNil, wCons, wTup, wLe, wSz, wFn, wFnJ, wNext, wRet, wRetN, wDrop, wIfS, wSet, wSetOwn, wNever, wAug, wOpO, wOpR, wClO, wApp, wSetIt, wFrz, wFor, wRg1, wRg2, wSq, wEnum, wZip, wgN, wgT, wgNil, wgCons, wYes, wAsgT, wgLs, wLenS, wIxS, wFnS, wIsi, wListOf, wRev, edP, edJ, enP, enJ, enS, NotOwn, Flat, List.map_cons, List.map_nil, List.length_cons, List.length_nil, List.replicate_succ, List.replicate_zero, List.cons_append, List.nil_append, List.append_nil, List.set_cons_zero, List.set_cons_succ, List.getElem?_cons_zero, List.getElem?_cons_succ, Nat.reduceAdd, Nat.reduceSub, Option.some.injEq, Sl.imm.injEq, Sl.own.injEq, Sl.scr.injEq, exists_eq_left, exists_eq_left', exists_eq_right, exists_eq, exists_eq', exists_and_left, and_assoc, and_true, true_and, ne_eq, not_false_eq_true, Nat.succ_ne_zero, or_true, true_or, true_implies, forall_eq', forall_eq, PyData.int.injEq, PyData.bool.injEq, PyData.list.injEq, PyData.tuple.injEq, List.cons.injEq, i_add, i_iadd, i_sub, i_mul, i_mod, i_fdiv, i_fdivG, i_pow, i_neg, i_le, i_ge, i_gt, i_lt, i_eq, i_ne, i_intI, i_intB, i_abs, i_max, i_min, i_lenL, i_lenT, i_ixL, i_ixT, i_tupL, i_tupT, i_truB, Bool.not_true, Bool.not_false, Bool.false_eq_true, if_true, if_false, reduceIte]
    exact q
  · simp only [wVar, wC, wOp, wUn, wCl, wB, wTr, wAnd, wOr, wNot, wAndV, wOrV, wNotV, wIf, wCh, wNil, wCons, wTup, wLe, wSz, wFn, wFnJ, wNext, wRet, wRetN, wDrop, wIfS, wSet, wSetOwn, wNever, wAug, wOpO, wOpR, wClO, wApp, wSetIt, wFrz, wFor, wRg1, wRg2, wSq, wEnum, wZip, wgN, wgT, wgNil, wgCons, wYes, wAsgT, wgLs, wLenS, wIxS, wFnS, wIsi, wListOf, wRev, edP, edJ, enP, enJ, enS, NotOwn, Flat, List.map_cons, List.map_nil, List.length_cons, List.length_nil, List.replicate_succ, List.replicate_zero, List.cons_append, List.nil_append, List.append_nil, List.set_cons_zero, List.set_cons_succ, List.getElem?_cons_zero, List.getElem?_cons_succ, Nat.reduceAdd, Nat.reduceSub, Option.some.injEq, Sl.imm.injEq, Sl.own.injEq, Sl.scr.injEq, exists_eq_left, exists_eq_left', exists_eq_right, exists_eq, exists_eq', exists_and_left, and_assoc, and_true, true_and, ne_eq, not_false_eq_true, Nat.succ_ne_zero, or_true, true_or, true_implies, forall_eq', forall_eq, PyData.int.injEq, PyData.bool.injEq, PyData.list.injEq, PyData.tuple.injEq, List.cons.injEq, i_add, i_iadd, i_sub, i_mul, i_mod, i_fdiv, i_fdivG, i_pow, i_neg, i_le, i_ge, i_gt, i_lt, i_eq, i_ne, i_intI, i_intB, i_abs, i_max, i_min, i_lenL, i_lenT, i_ixL, i_ixT, i_tupL, i_tupT, i_truB, Bool.not_true, Bool.not_false, Bool.false_eq_true, if_true, if_false, reduceIte]
    exact q
  refine ⟨_, ⟨_, by rw [cs_ints], rfl⟩, by decide, ?_⟩
  rw [show ((xs.map (·.1)).sum : Int) = cs xs from rfl, fr_inv (by omega)]
  exact ⟨_, _, rfl, way_last hw, sm_inv (by omega) (by omega), q⟩
theorem pu__law_mean (ds Q) (hl : ds.length = 1) (h : wf__law_mean ds Q) : ws__law_mean (edP Q) (enP N__law_mean ds) := by
  obtain ⟨xs, rfl, h2, h3, h4, h5, hw, hs, q⟩ := h
  obtain ⟨c1, c2⟩ := cs_bound h3
  have hlen : xs.length ≤ sizeLine := Nat.le_trans h2 (by decide)
  unfold ws__law_mean
  (try dsimp only); rw [wSeq_eq]; simp only [N__law_mean, wVar, wC, wOp, wUn, wCl, wB, wTr, wAnd, wOr, wNot, wAndV, wOrV, wNotV, wIf, wCh, wNil, wCons, wTup, wLe, wSz, wFn, wFnJ, wNext, wRet, wRetN, wDrop, wIfS, wSet, wSetOwn, wNever, wAug, wOpO, wOpR, wClO, wApp, wSetIt, wFrz, wFor, wRg1, wRg2, wSq, wEnum, wZip, wgN, wgT, wgNil, wgCons, wYes, wAsgT, wgLs, wLenS, wIxS, wFnS, wIsi, wListOf, wRev, edP, edJ, enP, enJ, enS, NotOwn, Flat, List.map_cons, List.map_nil, List.length_cons, List.length_nil, List.replicate_succ, List.replicate_zero, List.cons_append, List.nil_append, List.append_nil, List.set_cons_zero, List.set_cons_succ, List.getElem?_cons_zero, List.getElem?_cons_succ, Nat.reduceAdd, Nat.reduceSub, Option.some.injEq, Sl.imm.injEq, Sl.own.injEq, Sl.scr.injEq, exists_eq_left, exists_eq_left', exists_eq_right, exists_eq, exists_eq', exists_and_left, and_assoc, and_true, true_and, ne_eq, not_false_eq_true, Nat.succ_ne_zero, or_true, true_or, true_implies, forall_eq', forall_eq, PyData.int.injEq, PyData.bool.injEq, PyData.list.injEq, PyData.tuple.injEq, List.cons.injEq, i_add, i_iadd, i_sub, i_mul, i_mod, i_fdiv, i_fdivG, i_pow, i_neg, i_le, i_ge, i_gt, i_lt, i_eq, i_ne, i_intI, i_intB, i_abs, i_max, i_min, i_lenL, i_lenT, i_ixL, i_ixT, i_tupL, i_tupT, i_truB, Bool.not_true, Bool.not_false, Bool.false_eq_true, if_true, if_false, reduceIte]
  refine lcY (X := pr) (f := fun x => fr ((x.1 : Rat) * x.2)) (fun x => [.imm (.list (xs.map pr)), .un, .imm (.int x.1), .imm (fr x.2)]) (by decide) (fun Q q => ⟨_, rfl, _, Or.inl rfl, q⟩) (no2 trivial trivial) hlen (fun x => rfl) (fun x hx Q q => ?_) (fun x hx Q q => ?_) ?_
  · simp only [pr, wip, wVar, wC, wOp, wUn, wCl, wB, wTr, wAnd, wOr, wNot, wAndV, wOrV, wNotV, wIf, wCh, wNil, wCons, wTup, wLe, wSz, wFn, wFnJ, wNext, wRet, wRetN, wDrop, wIfS, wSet, wSetOwn, wNever, wAug, wOpO, wOpR, wClO, wApp, wSetIt, wFrz, wFor, wRg1, wRg2, wSq, wEnum, wZip, wgN, wgT, wgNil, wgCons, wYes, wAsgT, wgLs, wLenS, wIxS, wFnS, wIsi, wListOf, wRev, edP, edJ, enP, enJ, enS, NotOwn, Flat, List.map_cons, List.map_nil, List.length_cons, List.length_nil, List.replicate_succ, List.replicate_zero, List.cons_append, List.nil_append, List.append_nil, List.set_cons_zero, List.set_cons_succ, List.getElem?_cons_zero, List.getElem?_cons_succ, Nat.reduceAdd, Nat.reduceSub, Option.some.injEq, Sl.imm.injEq, Sl.own.injEq, Sl.scr.injEq, exists_eq_left, exists_eq_left', exists_eq_right, exists_eq, exists_eq', exists_and_left, and_assoc, and_true, true_and, ne_eq, not_false_eq_true, Nat.succ_ne_zero, or_true, true_or, true_implies, forall_eq', forall_eq, PyData.int.injEq, PyData.bool.injEq, PyData.list.injEq, PyData.tuple.injEq, List.cons.injEq, i_add, i_iadd, i_sub, i_mul, i_mod, i_fdiv, i_fdivG, i_pow, i_neg, i_le, i_ge, i_gt, i_lt, i_eq, i_ne, i_intI, i_intB, i_abs, i_max, i_min, i_lenL, i_lenT, i_ixL, i_ixT, i_tupL, i_tupT, i_truB, Bool.not_true, Bool.not_false, Bool.false_eq_true, if_true, if_false, reduceIte]
    exact q
  · simp only [wVar, wC, wOp, wUn, wCl, wB, wTr, wAnd, wOr, wNot, wAndV, wOrV, wNotV, wIf, wCh, wNil, wCons, wTup, wLe, wSz, wFn, wFnJ, wNext, wRet, wRetN, wDrop, wIfS, wSet, wSetOwn, wNever, wAug, wOpO, wOpR, wClO, wApp, wSetIt, wFrz, wFor, wRg1, wRg2, wSq, wEnum, wZip, wgN, wgT, wgNil, wgCons, wYes, wAsgT, wgLs, wLenS, wIxS, wFnS, wIsi, wListOf, wRev, edP, edJ, enP, enJ, enS, NotOwn, Flat, List.map_cons, List.map_nil, List.length_cons, List.length_nil, List.replicate_succ, List.replicate_zero, List.cons_append, List.nil_append, List.append_nil, List.set_cons_zero, List.set_cons_succ, List.getElem?_cons_zero, List.getElem?_cons_succ, Nat.reduceAdd, Nat.reduceSub, Option.some.injEq, Sl.imm.injEq, Sl.own.injEq, Sl.scr.injEq, exists_eq_left, exists_eq_left', exists_eq_right, exists_eq, exists_eq', exists_and_left, and_assoc, and_true, true_and, ne_eq, not_false_eq_true, Nat.succ_ne_zero, or_true, true_or, true_implies, forall_eq', forall_eq, PyData.int.injEq, PyData.bool.injEq, PyData.list.injEq, PyData.tuple.injEq, List.cons.injEq, i_add, i_iadd, i_sub, i_mul, i_mod, i_fdiv, i_fdivG, i_pow, i_neg, i_le, i_ge, i_gt, i_lt, i_eq, i_ne, i_intI, i_intB, i_abs, i_max, i_min, i_lenL, i_lenT, i_ixL, i_ixT, i_tupL, i_tupT, i_truB, Bool.not_true, Bool.not_false, Bool.false_eq_true, if_true, if_false, reduceIte]
    rw [fr_int]
    obtain ⟨k1, k2, k3⟩ := h3 x hx
    exact ⟨by decide, _, _, rfl, sm_int (by omega) (by omega), tn_bb k3, q⟩
  refine ⟨ws xs, Or.inr (by unfold ws; rw [List.map_map]; rfl), hw, _, rfl, .int (rsum 0 (ws xs)).num, at0, _, rfl, .int (rsum 0 (ws xs)).den, at1, ?_⟩
  dsimp only [List.set_cons_succ, List.set_cons_zero]
  refine lcY (X := pr) (f := fun x => .int x.1) (fun x => [.imm (.list (xs.map pr)), .imm (fr (rsum 0 (ws xs))), .imm (.int x.1), .imm (fr x.2)]) (by decide) (fun Q q => ⟨_, rfl, _, Or.inl rfl, q⟩) (no2 trivial trivial) hlen (fun x => rfl) (fun x hx Q q => ?_) (fun x hx Q q => ?_) ?_
  · simp only [pr, wip, wVar, wC, wOp, wUn, wCl, wB, wTr, wAnd, wOr, wNot, wAndV, wOrV, wNotV, wIf, wCh, wNil, wCons, wTup, wLe, wSz, wFn, wFnJ, wNext, wRet, wRetN, wDrop, wIfS, wSet, wSetOwn, wNever, wAug, wOpO, wOpR, wClO, wApp, wSetIt, wFrz, wFor, wRg1, wRg2, wSq, wEnum, wZip, wgN, wgT, wgNil, wgCons, wYes, wAsgT, wgLs, wLenS, wIxS, wFnS, wIsi, wListOf, wRev, edP, edJ, enP, enJ, enS, NotOwn, Flat, List.map_cons, List.map_nil, List.length_cons, List.length_nil, List.replicate_succ, List.replicate_zero, List.cons_append, List.nil_append, List.append_nil, List.set_cons_zero, List.set_cons_succ, List.getElem?_cons_zero, List.getElem?_cons_succ, Nat.reduceAdd, Nat.reduceSub, Option.some.injEq, Sl.imm.injEq, Sl.own.injEq, Sl.scr.injEq, exists_eq_left, exists_eq_left', exists_eq_right, exists_eq, exists_eq', exists_and_left, and_assoc, and_true, true_and, ne_eq, not_false_eq_true, Nat.succ_ne_zero, or_true, true_or, true_implies, forall_eq', forall_eq, PyData.int.injEq, PyData.bool.injEq, PyData.list.injEq, PyData.tuple.injEq, List.cons.injEq, i_add, i_iadd, i_sub, i_mul, i_mod, i_fdiv, i_fdivG, i_pow, i_neg, i_le, i_ge, i_gt, i_lt, i_eq, i_ne, i_intI, i_intB, i_abs, i_max, i_min, i_lenL, i_lenT, i_ixL, i_ixT, i_tupL, i_tupT, i_truB, Bool.not_true, Bool.not_false, Bool.false_eq_true, if_true, if_false, reduceIte]
    exact q
  · simp only [wVar, wC, wOp, wUn, wCl, wB, wTr, wAnd, wOr, wNot, wAndV, wOrV, wNotV, wIf, wCh, wNil, wCons, wTup, wLe, wSz, wFn, wFnJ, wNext, wRet, wRetN, wDrop, wIfS, wSet, wSetOwn, wNever, wAug, wOpO, wOpR, wClO, wApp, wSetIt, wFrz, wFor, wRg1, wRg2, wSq, wEnum, wZip, wgN, wgT, wgNil, wgCons, wYes, wAsgT, wgLs, wLenS, wIxS, wFnS, wIsi, wListOf, wRev, edP, edJ, enP, enJ, enS, NotOwn, Flat, List.map_cons, List.map_nil, List.length_cons, List.length_nil, List.replicate_succ, List.replicate_zero, List.cons_append, List.nil_append, List.append_nil, List.set_cons_zero, List.set_cons_succ, List.getElem?_cons_zero, List.getElem?_cons_succ, Nat.reduceAdd, Nat.reduceSub, Option.some.injEq, Sl.imm.injEq, Sl.own.injEq, Sl.scr.injEq, exists_eq_left, exists_eq_left', exists_eq_right, exists_eq, exists_eq', exists_and_left, and_assoc, and_true, true_and, ne_eq, not_false_eq_true, Nat.succ_ne_zero, or_true, true_or, true_implies, forall_eq', forall_eq, PyData.int.injEq, PyData.bool.injEq, PyData.list.injEq, PyData.tuple.injEq, List.cons.injEq, i_add, i_iadd, i_sub, i_mul, i_mod, i_fdiv, i_fdivG, i_pow, i_neg, i_le, i_ge, i_gt, i_lt, i_eq, i_ne, i_intI, i_intB, i_abs, i_max, i_min, i_lenL, i_lenT, i_ixL, i_ixT, i_tupL, i_tupT, i_truB, Bool.not_true, Bool.not_false, Bool.false_eq_true, if_true, if_false, reduceIte]
    exact q
  refine ⟨_, ⟨_, by rw [cs_ints], rfl⟩, ?_⟩
  rw [show ((xs.map (·.1)).sum : Int) = cs xs from rfl]
  obtain ⟨i1, i2⟩ := inv_parts h4
  have dp := (rsum 0 (ws xs)).den_pos
  simp only [wVar, wC, wOp, wUn, wCl, wB, wTr, wAnd, wOr, wNot, wAndV, wOrV, wNotV, wIf, wCh, wNil, wCons, wTup, wLe, wSz, wFn, wFnJ, wNext, wRet, wRetN, wDrop, wIfS, wSet, wSetOwn, wNever, wAug, wOpO, wOpR, wClO, wApp, wSetIt, wFrz, wFor, wRg1, wRg2, wSq, wEnum, wZip, wgN, wgT, wgNil, wgCons, wYes, wAsgT, wgLs, wLenS, wIxS, wFnS, wIsi, wListOf, wRev, edP, edJ, enP, enJ, enS, NotOwn, Flat, List.map_cons, List.map_nil, List.length_cons, List.length_nil, List.replicate_succ, List.replicate_zero, List.cons_append, List.nil_append, List.append_nil, List.set_cons_zero, List.set_cons_succ, List.getElem?_cons_zero, List.getElem?_cons_succ, Nat.reduceAdd, Nat.reduceSub, Option.some.injEq, Sl.imm.injEq, Sl.own.injEq, Sl.scr.injEq, exists_eq_left, exists_eq_left', exists_eq_right, exists_eq, exists_eq', exists_and_left, and_assoc, and_true, true_and, ne_eq, not_false_eq_true, Nat.succ_ne_zero, or_true, true_or, true_implies, forall_eq', forall_eq, PyData.int.injEq, PyData.bool.injEq, PyData.list.injEq, PyData.tuple.injEq, List.cons.injEq, i_add, i_iadd, i_sub, i_mul, i_mod, i_fdiv, i_fdivG, i_pow, i_neg, i_le, i_ge, i_gt, i_lt, i_eq, i_ne, i_intI, i_intB, i_abs, i_max, i_min, i_lenL, i_lenT, i_ixL, i_ixT, i_tupL, i_tupT, i_truB, Bool.not_true, Bool.not_false, Bool.false_eq_true, if_true, if_false, reduceIte]
  refine ⟨mul_bb hs.2 h5, _, _, rfl, Int.mul_ne_zero (by omega) (by omega), ?_, ?_⟩
  · rw [Int.natAbs_mul]
    exact Nat.mul_lt_mul_of_lt_of_lt hs.2 h5
  · have e : Rat.divInt (rsum 0 (ws xs)).num ((rsum 0 (ws xs)).den * cs xs) = mn xs := by
      unfold mn
      rw [← fr_mul (rsum 0 (ws xs)) (Rat.divInt 1 (cs xs)), i1, i2, Int.mul_one]
    rw [e]
    exact q
end K13

set_option Elab.async false
set_option linter.all false
set_option maxRecDepth 100000
set_option maxHeartbeats 4000000
namespace K13
open PySem PySem.Spec PyProof.Rows L2 Pd
theorem lay_all : ∀ {ys : List D}, (∀ y ∈ ys, ShD y) → PyData.canLayAll0 ys = true ∧ PyData.depthAll ys ≤ 5
  | [], _ => ⟨rfl, Nat.zero_le _⟩
  | y :: ys, h => by
    obtain ⟨h1, h2⟩ := h y List.mem_cons_self
    obtain ⟨h3, h4⟩ := lay_all fun z hz => h z (List.mem_cons_of_mem _ hz)
    refine ⟨?_, Nat.max_le.mpr ⟨h2, h4⟩⟩
    show (PyData.canLay0 y && PyData.canLayAll0 ys) = true
    rw [h1, h3]; rfl
theorem ne_nil {ys : List D} (h : ∀ y ∈ ys, ShD y) {z : D} : dNe (.list ys) (.list []) z ↔ z = .bool (!ys.isEmpty) := by
  obtain ⟨h1, h2⟩ := lay_all h
  have s : SeqAt.shaped (.list ys) = true := by
    show (PyData.canLayAll0 ys && decide (PyData.depthAll ys + 1 ≤ 64)) = true
    rw [h1, decide_eq_true (by omega)]; rfl
  have e : PyData.eqv (.list ys) (.list []) = ys.isEmpty := by cases ys <;> rfl
  unfold dNe
  rw [e]
  exact ⟨fun q => q.2.2, fun q => ⟨s, rfl, q⟩⟩

theorem erase_perm : ∀ (l : List D) (j : Nat) (h : j < l.length), l.Perm (l[j] :: l.eraseIdx j)
  | x :: xs, 0, _ => List.Perm.refl _
  | x :: xs, j + 1, h => ((erase_perm xs j (by rw [List.length_cons] at h; omega)).cons x).trans (List.Perm.swap _ _ _)
theorem pu__law_stirred (dj ds Q) (hl : ds.length + 1 = 2) (h : wf__law_stirred dj ds Q) : ws__law_stirred (edJ Q) (enJ N__law_stirred dj ds) := by
  obtain ⟨g, m, c, xs, rfl, rfl, h1, hsh, q⟩ := h
  simp only [ws__law_stirred, N__law_stirred, wParOO, dListOf, wWhile, wVar, wC, wOp, wUn, wCl, wB, wTr, wAnd, wOr, wNot, wAndV, wOrV, wNotV, wIf, wCh, wNil, wCons, wTup, wLe, wSz, wFn, wFnJ, wNext, wSeq, wRet, wRetN, wDrop, wIfS, wSet, wSetOwn, wNever, wAug, wOpO, wOpR, wClO, wApp, wSetIt, wFrz, wFor, wRg1, wRg2, wSq, wEnum, wZip, wgN, wgT, wgNil, wgCons, wYes, wAsgT, wgLs, wLenS, wIxS, wFnS, wIsi, wListOf, wRev, edP, edJ, enP, enJ, enS, NotOwn, Flat, List.map_cons, List.map_nil, List.length_cons, List.length_nil, List.replicate_succ, List.replicate_zero, List.cons_append, List.nil_append, List.append_nil, List.set_cons_zero, List.set_cons_succ, List.getElem?_cons_zero, List.getElem?_cons_succ, Nat.reduceAdd, Nat.reduceSub, Option.some.injEq, Sl.imm.injEq, Sl.own.injEq, Sl.scr.injEq, exists_eq_left, exists_eq_left', exists_eq_right, exists_eq, exists_eq', exists_and_left, and_assoc, and_true, true_and, ne_eq, not_false_eq_true, Nat.succ_ne_zero, or_true, true_or, true_implies, forall_eq', forall_eq, PyData.int.injEq, PyData.bool.injEq, PyData.list.injEq, PyData.tuple.injEq, List.cons.injEq, i_add, i_iadd, i_sub, i_mul, i_mod, i_fdiv, i_fdivG, i_pow, i_neg, i_le, i_ge, i_gt, i_lt, i_eq, i_ne, i_intI, i_intB, i_abs, i_max, i_min, i_lenL, i_lenT, i_ixL, i_ixT, i_tupL, i_tupT, i_truB, Bool.not_true, Bool.not_false, Bool.false_eq_true, if_true, if_false, reduceIte]
  refine ⟨by decide, fun n e => ∃ (g m c : Int) (left found : List D), left.length = n ∧ List.Perm xs (found ++ left) ∧ e = [.own [.int g, .int m, .int c], .imm (.list xs), .own left, .own found], ⟨_, g, m, c, xs, [], rfl, List.Perm.refl _, rfl⟩, ?_⟩
  rintro n e ⟨g, m, c, left, found, hn, hp, rfl⟩
  have hs : ∀ y ∈ left, ShD y := fun y hy => hsh y (hp.mem_iff.mpr (List.mem_append_right _ hy))
  have hlen : found.length + left.length ≤ 100 := by rw [← List.length_append, ← hp.length_eq]; exact h1
  simp only [ne_nil hs, wVar, wC, wOp, wUn, wCl, wB, wTr, wAnd, wOr, wNot, wAndV, wOrV, wNotV, wIf, wCh, wNil, wCons, wTup, wLe, wSz, wFn, wFnJ, wNext, wSeq, wRet, wRetN, wDrop, wIfS, wSet, wSetOwn, wNever, wAug, wOpO, wOpR, wClO, wApp, wSetIt, wFrz, wFor, wRg1, wRg2, wSq, wEnum, wZip, wgN, wgT, wgNil, wgCons, wYes, wAsgT, wgLs, wLenS, wIxS, wFnS, wIsi, wListOf, wRev, edP, edJ, enP, enJ, enS, NotOwn, Flat, List.map_cons, List.map_nil, List.length_cons, List.length_nil, List.replicate_succ, List.replicate_zero, List.cons_append, List.nil_append, List.append_nil, List.set_cons_zero, List.set_cons_succ, List.getElem?_cons_zero, List.getElem?_cons_succ, Nat.reduceAdd, Nat.reduceSub, Option.some.injEq, Sl.imm.injEq, Sl.own.injEq, Sl.scr.injEq, exists_eq_left, exists_eq_left', exists_eq_right, exists_eq, exists_eq', exists_and_left, and_assoc, and_true, true_and, ne_eq, not_false_eq_true, Nat.succ_ne_zero, or_true, true_or, true_implies, forall_eq', forall_eq, PyData.int.injEq, PyData.bool.injEq, PyData.list.injEq, PyData.tuple.injEq, List.cons.injEq, i_add, i_iadd, i_sub, i_mul, i_mod, i_fdiv, i_fdivG, i_pow, i_neg, i_le, i_ge, i_gt, i_lt, i_eq, i_ne, i_intI, i_intB, i_abs, i_max, i_min, i_lenL, i_lenT, i_ixL, i_ixT, i_tupL, i_tupT, i_truB, Bool.not_true, Bool.not_false, Bool.false_eq_true, if_true, if_false, reduceIte]
  refine ⟨by decide, ?_⟩
  cases left with
  | nil =>
    rw [if_neg (by decide)]
    refine q found g m c ?_
    rw [List.append_nil] at hp; exact hp
  | cons y ys =>
    rw [if_pos (by rfl)]
    unfold wPopO
    simp only [wf__law_pour, wVar, wC, wOp, wUn, wCl, wB, wTr, wAnd, wOr, wNot, wAndV, wOrV, wNotV, wIf, wCh, wNil, wCons, wTup, wLe, wSz, wFn, wFnJ, wNext, wSeq, wRet, wRetN, wDrop, wIfS, wSet, wSetOwn, wNever, wAug, wOpO, wOpR, wClO, wApp, wSetIt, wFrz, wFor, wRg1, wRg2, wSq, wEnum, wZip, wgN, wgT, wgNil, wgCons, wYes, wAsgT, wgLs, wLenS, wIxS, wFnS, wIsi, wListOf, wRev, edP, edJ, enP, enJ, enS, NotOwn, Flat, List.map_cons, List.map_nil, List.length_cons, List.length_nil, List.replicate_succ, List.replicate_zero, List.cons_append, List.nil_append, List.append_nil, List.set_cons_zero, List.set_cons_succ, List.getElem?_cons_zero, List.getElem?_cons_succ, Nat.reduceAdd, Nat.reduceSub, Option.some.injEq, Sl.imm.injEq, Sl.own.injEq, Sl.scr.injEq, exists_eq_left, exists_eq_left', exists_eq_right, exists_eq, exists_eq', exists_and_left, and_assoc, and_true, true_and, ne_eq, not_false_eq_true, Nat.succ_ne_zero, or_true, true_or, true_implies, forall_eq', forall_eq, PyData.int.injEq, PyData.bool.injEq, PyData.list.injEq, PyData.tuple.injEq, List.cons.injEq, i_add, i_iadd, i_sub, i_mul, i_mod, i_fdiv, i_fdivG, i_pow, i_neg, i_le, i_ge, i_gt, i_lt, i_eq, i_ne, i_intI, i_intB, i_abs, i_max, i_min, i_lenL, i_lenT, i_ixL, i_ixT, i_tupL, i_tupT, i_truB, Bool.not_true, Bool.not_false, Bool.false_eq_true, if_true, if_false, reduceIte]
    rw [List.length_cons] at hlen hn
    refine ⟨by omega, log_lt (by omega) (by omega), fun r g m c r1 r2 => ?_⟩
    obtain ⟨j, rfl⟩ := Int.eq_ofNat_of_zero_le r1
    have hj : j < (y :: ys).length := by rw [List.length_cons]; omega
    refine ⟨j, rfl, by omega, _, List.getElem?_eq_getElem hj, Nat.lt_of_le_of_lt (by omega : found.length ≤ 100) (by decide), ys.length, by omega, g, m, c, (y :: ys).eraseIdx j, ?_, found ++ [(y :: ys)[j]], ?_, rfl, rfl, rfl, rfl, rfl⟩
    · rw [List.length_eraseIdx_of_lt hj, List.length_cons]; omega
    · refine hp.trans ?_
      rw [List.append_assoc]
      exact (List.Perm.refl _).append (erase_perm _ j hj)
/-! ### sums -/
def rs : List Rat → Rat
  | [] => 0
  | x :: xs => x + rs xs
theorem rsum_rs : ∀ (l : List Rat) (a : Rat), rsum a l = a + rs l
  | [], a => by show a = a + 0; grind
  | x :: xs, a => by
    show rsum (a + x) xs = a + (x + rs xs)
    rw [rsum_rs xs]; grind
def W (xs : List Pr) : Rat := rs (ws xs)
theorem rsum_W (xs : List Pr) : rsum 0 (ws xs) = W xs := by rw [rsum_rs]; unfold W; grind
theorem W_cons (x : Pr) (xs : List Pr) : W (x :: xs) = (x.1 : Rat) * x.2 + W xs := rfl
def C (xs : List Pr) : Rat := (cs xs : Rat)
theorem C_cons (x : Pr) (xs : List Pr) : C (x :: xs) = (x.1 : Rat) + C xs := by
  unfold C; rw [cs_cons, Rat.intCast_add]
theorem inv_of (c : Int) : Rat.divInt 1 c = (c : Rat)⁻¹ := by
  rw [Rat.inv_def, Rat.den_intCast, Rat.num_intCast]; rfl
theorem mn_eq (xs : List Pr) : mn xs = W xs * (C xs)⁻¹ := by
  unfold mn; rw [rsum_W, inv_of]; rfl
theorem C_pos {xs : List Pr} (h : 0 < cs xs) : 0 < C xs := Rat.intCast_pos.mpr h
theorem W_app : ∀ (xs ys : List Pr), W (xs ++ ys) = W xs + W ys
  | [], ys => by show W ys = 0 + W ys; grind
  | x :: xs, ys => by rw [List.cons_append, W_cons, W_app xs ys, W_cons]; grind
theorem C_app : ∀ (xs ys : List Pr), C (xs ++ ys) = C xs + C ys
  | [], ys => by show C ys = 0 + C ys; grind
  | x :: xs, ys => by rw [List.cons_append, C_cons, C_app xs ys, C_cons]; grind
theorem mn_perm {xs ys : List Pr} (h : xs.Perm ys) : mn xs = mn ys := by
  have h2 : W xs = W ys ∧ C xs = C ys := by
    induction h with
    | nil => exact ⟨rfl, rfl⟩
    | cons x _ ih => rw [W_cons, W_cons, C_cons, C_cons, ih.1, ih.2]; exact ⟨rfl, rfl⟩
    | swap x y l => simp only [W_cons, C_cons]; exact ⟨by grind, by grind⟩
    | trans _ _ i1 i2 => exact ⟨i1.1.trans i2.1, i1.2.trans i2.2⟩
  rw [mn_eq, mn_eq, h2.1, h2.2]
theorem mn_scale {xs : List Pr} {k : Int} (hk : k ≠ 0) : mn (xs.map fun x => (k * x.1, x.2)) = mn xs := by
  have h1 : ∀ xs : List Pr, W (xs.map fun x => (k * x.1, x.2)) = (k : Rat) * W xs := fun xs => by
    induction xs with
    | nil => show (0 : Rat) = k * 0; grind
    | cons x xs ih => rw [List.map_cons, W_cons, W_cons, ih, Rat.intCast_mul]; grind
  have h2 : ∀ xs : List Pr, C (xs.map fun x => (k * x.1, x.2)) = (k : Rat) * C xs := fun xs => by
    induction xs with
    | nil => show ((0 : Int) : Rat) = k * ((0 : Int) : Rat); grind
    | cons x xs ih => rw [List.map_cons, C_cons, C_cons, ih, Rat.intCast_mul]; grind
  have hk' : (k : Rat) ≠ 0 := fun e => hk (Rat.intCast_inj.mp (e.trans rfl))
  rw [mn_eq, mn_eq, h1, h2]
  by_cases hc : C xs = 0
  · rw [hc]; grind
  · grind
theorem mn_add {xs ys zs : List Pr} (hc : cs xs = cs ys) (hc2 : cs xs = cs zs) (hw : W xs = W ys + W zs) : mn xs = mn ys + mn zs := by
  rw [mn_eq, mn_eq, mn_eq, hw]
  unfold C
  rw [← hc, ← hc2]
  grind
theorem mn_mul {xs ys : List Pr} {f : Rat} (hc : cs xs = cs ys) (hw : W xs = f * W ys) : mn xs = f * mn ys := by
  rw [mn_eq, mn_eq, hw]
  unfold C
  rw [← hc]
  grind
/-- the sum of what is apart from m -/
def dv (m : Rat) : List Pr → Rat
  | [] => 0
  | x :: xs => (x.1 : Rat) * (x.2 - m) + dv m xs
theorem dv_eq (m : Rat) : ∀ xs : List Pr, dv m xs = W xs - C xs * m
  | [] => by show (0 : Rat) = 0 - ((0 : Int) : Rat) * m; grind
  | x :: xs => by rw [W_cons, C_cons]; unfold dv; rw [dv_eq m xs]; grind
theorem dv_mn {xs : List Pr} (h : 0 < cs xs) : dv (mn xs) xs = 0 := by
  have := C_pos h
  rw [dv_eq, mn_eq]
  grind
theorem dv_up {m : Rat} : ∀ {xs : List Pr}, (∀ x ∈ xs, 0 < x.1 ∧ m ≤ x.2) → 0 ≤ dv m xs ∧ (dv m xs = 0 → ∀ x ∈ xs, x.2 = m)
  | [], _ => ⟨by show (0 : Rat) ≤ 0; grind, fun _ x hx => by cases hx⟩
  | x :: xs, h => by
    obtain ⟨h1, h2⟩ := h x List.mem_cons_self
    obtain ⟨h3, h4⟩ := dv_up fun y hy => h y (List.mem_cons_of_mem _ hy)
    have hp : (0 : Rat) < x.1 := Rat.intCast_pos.mpr h1
    have hn : (0 : Rat) ≤ (x.1 : Rat) * (x.2 - m) := Rat.mul_nonneg (by grind) (by grind)
    show 0 ≤ (x.1 : Rat) * (x.2 - m) + dv m xs ∧ _
    refine ⟨by grind, fun e => ?_⟩
    have e' : (x.1 : Rat) * (x.2 - m) + dv m xs = 0 := e
    have e1 : (x.1 : Rat) * (x.2 - m) = 0 := by grind
    have e2 : dv m xs = 0 := by grind
    intro y hy
    rcases List.mem_cons.mp hy with rfl | hy
    · rcases Rat.mul_eq_zero.mp e1 with e3 | e3 <;> grind
    · exact h4 e2 y hy
theorem dv_down {m : Rat} : ∀ {xs : List Pr}, (∀ x ∈ xs, 0 < x.1 ∧ x.2 ≤ m) → dv m xs ≤ 0 ∧ (dv m xs = 0 → ∀ x ∈ xs, x.2 = m)
  | [], _ => ⟨by show (0 : Rat) ≤ 0; grind, fun _ x hx => by cases hx⟩
  | x :: xs, h => by
    obtain ⟨h1, h2⟩ := h x List.mem_cons_self
    obtain ⟨h3, h4⟩ := dv_down fun y hy => h y (List.mem_cons_of_mem _ hy)
    have hp : (0 : Rat) < x.1 := Rat.intCast_pos.mpr h1
    have hn : (0 : Rat) ≤ (x.1 : Rat) * (m - x.2) := Rat.mul_nonneg (by grind) (by grind)
    show (x.1 : Rat) * (x.2 - m) + dv m xs ≤ 0 ∧ _
    refine ⟨by grind, fun e => ?_⟩
    have e' : (x.1 : Rat) * (x.2 - m) + dv m xs = 0 := e
    have e1 : (x.1 : Rat) * (x.2 - m) = 0 := by grind
    have e2 : dv m xs = 0 := by grind
    intro y hy
    rcases List.mem_cons.mp hy with rfl | hy
    · rcases Rat.mul_eq_zero.mp e1 with e3 | e3 <;> grind
    · exact h4 e2 y hy
theorem mn_same {xs : List Pr} {q : Rat} (h : 0 < cs xs) (hq : ∀ x ∈ xs, x.2 = q) : mn xs = q := by
  have h1 : ∀ xs : List Pr, (∀ x ∈ xs, x.2 = q) → W xs = C xs * q := fun xs => by
    induction xs with
    | nil => intro _; show (0 : Rat) = ((0 : Int) : Rat) * q; grind
    | cons x xs ih =>
      intro h
      rw [W_cons, C_cons, ih fun y hy => h y (List.mem_cons_of_mem _ hy), h x List.mem_cons_self]; grind
  have := C_pos h
  rw [mn_eq, h1 xs hq]
  grind
/-! ### between -/
theorem lay_frs (qs : List Rat) : ∀ y ∈ qs.map fr, ShD y := fun y hy => by
  obtain ⟨q, _, rfl⟩ := List.mem_map.mp hy
  exact ⟨rfl, by show 1 ≤ 5; decide⟩
theorem i_eqN {ys : List D} (h : ∀ y ∈ ys, ShD y) {z : D} : dEq (.list ys) (.list []) z ↔ z = .bool ys.isEmpty := by
  obtain ⟨h1, h2⟩ := lay_all h
  have s : SeqAt.shaped (.list ys) = true := by
    show (PyData.canLayAll0 ys && decide (PyData.depthAll ys + 1 ≤ 64)) = true
    rw [h1, decide_eq_true (by omega)]; rfl
  have e : PyData.eqv (.list ys) (.list []) = ys.isEmpty := by cases ys <;> rfl
  unfold dEq
  rw [e]
  exact ⟨fun q => q.2.2, fun q => ⟨s, rfl, q⟩⟩
theorem pu__law_between (ds Q) (hl : ds.length = 2) (h : wf__law_between ds Q) : ws__law_between (edP Q) (enP N__law_between ds) := by
  obtain ⟨xs, m, rfl, h1, h2, h3, hm, hs, q⟩ := h
  have hlen : xs.length ≤ sizeLine := Nat.le_trans h2 (by decide)
  obtain ⟨c1, c2⟩ := cs_bound h3
  unfold ws__law_between
  (try dsimp only); rw [wSeq_eq]; simp only [N__law_between, wVar, wC, wOp, wUn, wCl, wB, wTr, wAnd, wOr, wNot, wAndV, wOrV, wNotV, wIf, wCh, wNil, wCons, wTup, wLe, wSz, wFn, wFnJ, wNext, wRet, wRetN, wDrop, wIfS, wSet, wSetOwn, wNever, wAug, wOpO, wOpR, wClO, wApp, wSetIt, wFrz, wFor, wRg1, wRg2, wSq, wEnum, wZip, wgN, wgT, wgNil, wgCons, wYes, wAsgT, wgLs, wLenS, wIxS, wFnS, wIsi, wListOf, wRev, edP, edJ, enP, enJ, enS, NotOwn, Flat, List.map_cons, List.map_nil, List.length_cons, List.length_nil, List.replicate_succ, List.replicate_zero, List.cons_append, List.nil_append, List.append_nil, List.set_cons_zero, List.set_cons_succ, List.getElem?_cons_zero, List.getElem?_cons_succ, Nat.reduceAdd, Nat.reduceSub, Option.some.injEq, Sl.imm.injEq, Sl.own.injEq, Sl.scr.injEq, exists_eq_left, exists_eq_left', exists_eq_right, exists_eq, exists_eq', exists_and_left, and_assoc, and_true, true_and, ne_eq, not_false_eq_true, Nat.succ_ne_zero, or_true, true_or, true_implies, forall_eq', forall_eq, PyData.int.injEq, PyData.bool.injEq, PyData.list.injEq, PyData.tuple.injEq, List.cons.injEq, i_add, i_iadd, i_sub, i_mul, i_mod, i_fdiv, i_fdivG, i_pow, i_neg, i_le, i_ge, i_gt, i_lt, i_eq, i_ne, i_intI, i_intB, i_abs, i_max, i_min, i_lenL, i_lenT, i_ixL, i_ixT, i_tupL, i_tupT, i_truB, Bool.not_true, Bool.not_false, Bool.false_eq_true, if_true, if_false, reduceIte]
  refine lcY (X := pr) (f := fun x => fr x.2) (fun x => [.imm (.list (xs.map pr)), .imm (fr m), .un, .un, .imm (.int x.1), .imm (fr x.2)]) (by decide) (fun Q q => ⟨_, rfl, _, Or.inl rfl, q⟩) (no2 trivial trivial) hlen (fun x => rfl) (fun x hx Q q => ?_) (fun x hx Q q => ?_) ?_
  · simp only [pr, wip, wVar, wC, wOp, wUn, wCl, wB, wTr, wAnd, wOr, wNot, wAndV, wOrV, wNotV, wIf, wCh, wNil, wCons, wTup, wLe, wSz, wFn, wFnJ, wNext, wRet, wRetN, wDrop, wIfS, wSet, wSetOwn, wNever, wAug, wOpO, wOpR, wClO, wApp, wSetIt, wFrz, wFor, wRg1, wRg2, wSq, wEnum, wZip, wgN, wgT, wgNil, wgCons, wYes, wAsgT, wgLs, wLenS, wIxS, wFnS, wIsi, wListOf, wRev, edP, edJ, enP, enJ, enS, NotOwn, Flat, List.map_cons, List.map_nil, List.length_cons, List.length_nil, List.replicate_succ, List.replicate_zero, List.cons_append, List.nil_append, List.append_nil, List.set_cons_zero, List.set_cons_succ, List.getElem?_cons_zero, List.getElem?_cons_succ, Nat.reduceAdd, Nat.reduceSub, Option.some.injEq, Sl.imm.injEq, Sl.own.injEq, Sl.scr.injEq, exists_eq_left, exists_eq_left', exists_eq_right, exists_eq, exists_eq', exists_and_left, and_assoc, and_true, true_and, ne_eq, not_false_eq_true, Nat.succ_ne_zero, or_true, true_or, true_implies, forall_eq', forall_eq, PyData.int.injEq, PyData.bool.injEq, PyData.list.injEq, PyData.tuple.injEq, List.cons.injEq, i_add, i_iadd, i_sub, i_mul, i_mod, i_fdiv, i_fdivG, i_pow, i_neg, i_le, i_ge, i_gt, i_lt, i_eq, i_ne, i_intI, i_intB, i_abs, i_max, i_min, i_lenL, i_lenT, i_ixL, i_ixT, i_tupL, i_tupT, i_truB, Bool.not_true, Bool.not_false, Bool.false_eq_true, if_true, if_false, reduceIte]
    exact q
  · simp only [wVar, wC, wOp, wUn, wCl, wB, wTr, wAnd, wOr, wNot, wAndV, wOrV, wNotV, wIf, wCh, wNil, wCons, wTup, wLe, wSz, wFn, wFnJ, wNext, wRet, wRetN, wDrop, wIfS, wSet, wSetOwn, wNever, wAug, wOpO, wOpR, wClO, wApp, wSetIt, wFrz, wFor, wRg1, wRg2, wSq, wEnum, wZip, wgN, wgT, wgNil, wgCons, wYes, wAsgT, wgLs, wLenS, wIxS, wFnS, wIsi, wListOf, wRev, edP, edJ, enP, enJ, enS, NotOwn, Flat, List.map_cons, List.map_nil, List.length_cons, List.length_nil, List.replicate_succ, List.replicate_zero, List.cons_append, List.nil_append, List.append_nil, List.set_cons_zero, List.set_cons_succ, List.getElem?_cons_zero, List.getElem?_cons_succ, Nat.reduceAdd, Nat.reduceSub, Option.some.injEq, Sl.imm.injEq, Sl.own.injEq, Sl.scr.injEq, exists_eq_left, exists_eq_left', exists_eq_right, exists_eq, exists_eq', exists_and_left, and_assoc, and_true, true_and, ne_eq, not_false_eq_true, Nat.succ_ne_zero, or_true, true_or, true_implies, forall_eq', forall_eq, PyData.int.injEq, PyData.bool.injEq, PyData.list.injEq, PyData.tuple.injEq, List.cons.injEq, i_add, i_iadd, i_sub, i_mul, i_mod, i_fdiv, i_fdivG, i_pow, i_neg, i_le, i_ge, i_gt, i_lt, i_eq, i_ne, i_intI, i_intB, i_abs, i_max, i_min, i_lenL, i_lenT, i_ixL, i_ixT, i_tupL, i_tupT, i_truB, Bool.not_true, Bool.not_false, Bool.false_eq_true, if_true, if_false, reduceIte]
    exact q
  obtain ⟨qs, hqs⟩ : ∃ qs, qs = xs.map (·.2) := ⟨_, rfl⟩
  have e1 : (xs.map fun x => fr x.2) = qs.map fr := by rw [hqs, List.map_map]; rfl
  have qlen : qs.length = xs.length := by rw [hqs, List.length_map]
  have hlen2 : qs.length ≤ sizeLine := by rw [qlen]; exact hlen
  have qs0 : ∃ q0 qt, qs = q0 :: qt := by
    cases h : qs with
    | nil => rw [h] at qlen; simp at qlen; omega
    | cons a b => exact ⟨a, b, rfl⟩
  obtain ⟨q0, qt, hq0⟩ := qs0
  have qsm : ∀ r ∈ qs, Sm BB r := fun r hr => by
    rw [hqs] at hr
    obtain ⟨x, hx, rfl⟩ := List.mem_map.mp hr
    exact tn_bb (h3 x hx).2.2
  rw [e1]
  dsimp only [List.set_cons_succ, List.set_cons_zero]
  (try dsimp only); rw [wSeq_eq]; simp only [wVar, wC, wOp, wUn, wCl, wB, wTr, wAnd, wOr, wNot, wAndV, wOrV, wNotV, wIf, wCh, wNil, wCons, wTup, wLe, wSz, wFn, wFnJ, wNext, wRet, wRetN, wDrop, wIfS, wSet, wSetOwn, wNever, wAug, wOpO, wOpR, wClO, wApp, wSetIt, wFrz, wFor, wRg1, wRg2, wSq, wEnum, wZip, wgN, wgT, wgNil, wgCons, wYes, wAsgT, wgLs, wLenS, wIxS, wFnS, wIsi, wListOf, wRev, edP, edJ, enP, enJ, enS, NotOwn, Flat, List.map_cons, List.map_nil, List.length_cons, List.length_nil, List.replicate_succ, List.replicate_zero, List.cons_append, List.nil_append, List.append_nil, List.set_cons_zero, List.set_cons_succ, List.getElem?_cons_zero, List.getElem?_cons_succ, Nat.reduceAdd, Nat.reduceSub, Option.some.injEq, Sl.imm.injEq, Sl.own.injEq, Sl.scr.injEq, exists_eq_left, exists_eq_left', exists_eq_right, exists_eq, exists_eq', exists_and_left, and_assoc, and_true, true_and, ne_eq, not_false_eq_true, Nat.succ_ne_zero, or_true, true_or, true_implies, forall_eq', forall_eq, PyData.int.injEq, PyData.bool.injEq, PyData.list.injEq, PyData.tuple.injEq, List.cons.injEq, i_add, i_iadd, i_sub, i_mul, i_mod, i_fdiv, i_fdivG, i_pow, i_neg, i_le, i_ge, i_gt, i_lt, i_eq, i_ne, i_intI, i_intB, i_abs, i_max, i_min, i_lenL, i_lenT, i_ixL, i_ixT, i_tupL, i_tupT, i_truB, Bool.not_true, Bool.not_false, Bool.false_eq_true, if_true, if_false, reduceIte]
  refine lcG (X := fr) (f := fr) (xs := qs) (fun r => [.imm (.list (xs.map pr)), .imm (fr m), .imm (.list (qs.map fr)), .un, .un, .imm (fr r)]) (fun r => decide (r ≠ q0)) (by decide) (fun Q q => ⟨_, rfl, _, Or.inl rfl, q⟩) (no1 trivial) hlen2 (fun x => rfl) (fun r hr Q q => ?_) (fun r hr Q q => ?_) (fun r hr hc Q q => ?_) ?_
  · simp only [wip, wVar, wC, wOp, wUn, wCl, wB, wTr, wAnd, wOr, wNot, wAndV, wOrV, wNotV, wIf, wCh, wNil, wCons, wTup, wLe, wSz, wFn, wFnJ, wNext, wRet, wRetN, wDrop, wIfS, wSet, wSetOwn, wNever, wAug, wOpO, wOpR, wClO, wApp, wSetIt, wFrz, wFor, wRg1, wRg2, wSq, wEnum, wZip, wgN, wgT, wgNil, wgCons, wYes, wAsgT, wgLs, wLenS, wIxS, wFnS, wIsi, wListOf, wRev, edP, edJ, enP, enJ, enS, NotOwn, Flat, List.map_cons, List.map_nil, List.length_cons, List.length_nil, List.replicate_succ, List.replicate_zero, List.cons_append, List.nil_append, List.append_nil, List.set_cons_zero, List.set_cons_succ, List.getElem?_cons_zero, List.getElem?_cons_succ, Nat.reduceAdd, Nat.reduceSub, Option.some.injEq, Sl.imm.injEq, Sl.own.injEq, Sl.scr.injEq, exists_eq_left, exists_eq_left', exists_eq_right, exists_eq, exists_eq', exists_and_left, and_assoc, and_true, true_and, ne_eq, not_false_eq_true, Nat.succ_ne_zero, or_true, true_or, true_implies, forall_eq', forall_eq, PyData.int.injEq, PyData.bool.injEq, PyData.list.injEq, PyData.tuple.injEq, List.cons.injEq, i_add, i_iadd, i_sub, i_mul, i_mod, i_fdiv, i_fdivG, i_pow, i_neg, i_le, i_ge, i_gt, i_lt, i_eq, i_ne, i_intI, i_intB, i_abs, i_max, i_min, i_lenL, i_lenT, i_ixL, i_ixT, i_tupL, i_tupT, i_truB, Bool.not_true, Bool.not_false, Bool.false_eq_true, if_true, if_false, reduceIte]
    exact q
  · simp only [wVar, wC, wOp, wUn, wCl, wB, wTr, wAnd, wOr, wNot, wAndV, wOrV, wNotV, wIf, wCh, wNil, wCons, wTup, wLe, wSz, wFn, wFnJ, wNext, wRet, wRetN, wDrop, wIfS, wSet, wSetOwn, wNever, wAug, wOpO, wOpR, wClO, wApp, wSetIt, wFrz, wFor, wRg1, wRg2, wSq, wEnum, wZip, wgN, wgT, wgNil, wgCons, wYes, wAsgT, wgLs, wLenS, wIxS, wFnS, wIsi, wListOf, wRev, edP, edJ, enP, enJ, enS, NotOwn, Flat, List.map_cons, List.map_nil, List.length_cons, List.length_nil, List.replicate_succ, List.replicate_zero, List.cons_append, List.nil_append, List.append_nil, List.set_cons_zero, List.set_cons_succ, List.getElem?_cons_zero, List.getElem?_cons_succ, Nat.reduceAdd, Nat.reduceSub, Option.some.injEq, Sl.imm.injEq, Sl.own.injEq, Sl.scr.injEq, exists_eq_left, exists_eq_left', exists_eq_right, exists_eq, exists_eq', exists_and_left, and_assoc, and_true, true_and, ne_eq, not_false_eq_true, Nat.succ_ne_zero, or_true, true_or, true_implies, forall_eq', forall_eq, PyData.int.injEq, PyData.bool.injEq, PyData.list.injEq, PyData.tuple.injEq, List.cons.injEq, i_add, i_iadd, i_sub, i_mul, i_mod, i_fdiv, i_fdivG, i_pow, i_neg, i_le, i_ge, i_gt, i_lt, i_eq, i_ne, i_intI, i_intB, i_abs, i_max, i_min, i_lenL, i_lenT, i_ixL, i_ixT, i_tupL, i_tupT, i_truB, Bool.not_true, Bool.not_false, Bool.false_eq_true, if_true, if_false, reduceIte]
    refine ⟨fr q0, by rw [hq0, List.map_cons]; exact at0, _, i_neF.mpr rfl, _, rfl, q⟩
  · simp only [wVar, wC, wOp, wUn, wCl, wB, wTr, wAnd, wOr, wNot, wAndV, wOrV, wNotV, wIf, wCh, wNil, wCons, wTup, wLe, wSz, wFn, wFnJ, wNext, wRet, wRetN, wDrop, wIfS, wSet, wSetOwn, wNever, wAug, wOpO, wOpR, wClO, wApp, wSetIt, wFrz, wFor, wRg1, wRg2, wSq, wEnum, wZip, wgN, wgT, wgNil, wgCons, wYes, wAsgT, wgLs, wLenS, wIxS, wFnS, wIsi, wListOf, wRev, edP, edJ, enP, enJ, enS, NotOwn, Flat, List.map_cons, List.map_nil, List.length_cons, List.length_nil, List.replicate_succ, List.replicate_zero, List.cons_append, List.nil_append, List.append_nil, List.set_cons_zero, List.set_cons_succ, List.getElem?_cons_zero, List.getElem?_cons_succ, Nat.reduceAdd, Nat.reduceSub, Option.some.injEq, Sl.imm.injEq, Sl.own.injEq, Sl.scr.injEq, exists_eq_left, exists_eq_left', exists_eq_right, exists_eq, exists_eq', exists_and_left, and_assoc, and_true, true_and, ne_eq, not_false_eq_true, Nat.succ_ne_zero, or_true, true_or, true_implies, forall_eq', forall_eq, PyData.int.injEq, PyData.bool.injEq, PyData.list.injEq, PyData.tuple.injEq, List.cons.injEq, i_add, i_iadd, i_sub, i_mul, i_mod, i_fdiv, i_fdivG, i_pow, i_neg, i_le, i_ge, i_gt, i_lt, i_eq, i_ne, i_intI, i_intB, i_abs, i_max, i_min, i_lenL, i_lenT, i_ixL, i_ixT, i_tupL, i_tupT, i_truB, Bool.not_true, Bool.not_false, Bool.false_eq_true, if_true, if_false, reduceIte]
    exact q
  refine ⟨by decide, _, (i_eqN (lay_frs _)).mpr rfl, _, rfl, ?_⟩
  have xq : ∀ x ∈ xs, x.2 ∈ qs := fun x hx => by rw [hqs]; exact List.mem_map.mpr ⟨x, hx, rfl⟩
  have emp : ∀ {c : Rat → Bool}, ((qs.filter c).map fr).isEmpty = true ↔ ∀ r ∈ qs, c r = false := fun {c} => by
    rw [List.isEmpty_iff, List.map_eq_nil_iff, List.filter_eq_nil_iff]
    exact ⟨fun h r hr => by have := h r hr; cases hc : c r with
      | true => exact absurd hc this
      | false => rfl, fun h r hr => by rw [h r hr]; decide⟩
  by_cases hsame : ∀ r ∈ qs, decide (r ≠ q0) = false
  · rw [if_pos (emp.mpr hsame)]
    have e2 : m = q0 := by
      rw [hm]
      exact mn_same (by omega) fun x hx => by simpa using hsame x.2 (xq x hx)
    simp only [wVar, wC, wOp, wUn, wCl, wB, wTr, wAnd, wOr, wNot, wAndV, wOrV, wNotV, wIf, wCh, wNil, wCons, wTup, wLe, wSz, wFn, wFnJ, wNext, wRet, wRetN, wDrop, wIfS, wSet, wSetOwn, wNever, wAug, wOpO, wOpR, wClO, wApp, wSetIt, wFrz, wFor, wRg1, wRg2, wSq, wEnum, wZip, wgN, wgT, wgNil, wgCons, wYes, wAsgT, wgLs, wLenS, wIxS, wFnS, wIsi, wListOf, wRev, edP, edJ, enP, enJ, enS, NotOwn, Flat, List.map_cons, List.map_nil, List.length_cons, List.length_nil, List.replicate_succ, List.replicate_zero, List.cons_append, List.nil_append, List.append_nil, List.set_cons_zero, List.set_cons_succ, List.getElem?_cons_zero, List.getElem?_cons_succ, Nat.reduceAdd, Nat.reduceSub, Option.some.injEq, Sl.imm.injEq, Sl.own.injEq, Sl.scr.injEq, exists_eq_left, exists_eq_left', exists_eq_right, exists_eq, exists_eq', exists_and_left, and_assoc, and_true, true_and, ne_eq, not_false_eq_true, Nat.succ_ne_zero, or_true, true_or, true_implies, forall_eq', forall_eq, PyData.int.injEq, PyData.bool.injEq, PyData.list.injEq, PyData.tuple.injEq, List.cons.injEq, i_add, i_iadd, i_sub, i_mul, i_mod, i_fdiv, i_fdivG, i_pow, i_neg, i_le, i_ge, i_gt, i_lt, i_eq, i_ne, i_intI, i_intB, i_abs, i_max, i_min, i_lenL, i_lenT, i_ixL, i_ixT, i_tupL, i_tupT, i_truB, Bool.not_true, Bool.not_false, Bool.false_eq_true, if_true, if_false, reduceIte]
    refine ⟨fr q0, by rw [hq0, List.map_cons]; exact at0, _, i_eqF.mpr rfl, ?_⟩
    rw [decide_eq_true e2]
    exact q
  · rw [if_neg fun h => hsame (emp.mp h)]
    have dz : dv m xs = 0 := by rw [hm]; exact dv_mn (by omega)
    have nsame : ¬ ∀ x ∈ xs, x.2 = m := fun h => hsame fun r hr => by
      have e0 : q0 = m := by
        have : q0 ∈ qs := by rw [hq0]; exact List.mem_cons_self
        rw [hqs] at this
        obtain ⟨x, hx, rfl⟩ := List.mem_map.mp this
        exact h x hx
      rw [hqs] at hr
      obtain ⟨x, hx, rfl⟩ := List.mem_map.mp hr
      rw [h x hx, e0]
      exact decide_eq_false (by simp)
    have some_below : ¬ ∀ r ∈ qs, decide (r < m) = false := fun h => nsame ((dv_up fun x hx => ⟨by have := (h3 x hx).1; omega, Rat.not_lt.mp (by simpa using h x.2 (xq x hx))⟩).2 dz)
    have some_above : ¬ ∀ r ∈ qs, decide (m < r) = false := fun h => nsame ((dv_down fun x hx => ⟨by have := (h3 x hx).1; omega, Rat.not_lt.mp (by simpa using h x.2 (xq x hx))⟩).2 dz)
    have nb : ∀ {c : Rat → Bool}, (¬ ∀ r ∈ qs, c r = false) → ((qs.filter c).map fr).isEmpty = false := fun {c} h => by
      cases e : ((qs.filter c).map fr).isEmpty with
      | false => rfl
      | true => exact absurd (emp.mp e) h
    (try dsimp only); rw [wSeq_eq]; simp only [wVar, wC, wOp, wUn, wCl, wB, wTr, wAnd, wOr, wNot, wAndV, wOrV, wNotV, wIf, wCh, wNil, wCons, wTup, wLe, wSz, wFn, wFnJ, wNext, wRet, wRetN, wDrop, wIfS, wSet, wSetOwn, wNever, wAug, wOpO, wOpR, wClO, wApp, wSetIt, wFrz, wFor, wRg1, wRg2, wSq, wEnum, wZip, wgN, wgT, wgNil, wgCons, wYes, wAsgT, wgLs, wLenS, wIxS, wFnS, wIsi, wListOf, wRev, edP, edJ, enP, enJ, enS, NotOwn, Flat, List.map_cons, List.map_nil, List.length_cons, List.length_nil, List.replicate_succ, List.replicate_zero, List.cons_append, List.nil_append, List.append_nil, List.set_cons_zero, List.set_cons_succ, List.getElem?_cons_zero, List.getElem?_cons_succ, Nat.reduceAdd, Nat.reduceSub, Option.some.injEq, Sl.imm.injEq, Sl.own.injEq, Sl.scr.injEq, exists_eq_left, exists_eq_left', exists_eq_right, exists_eq, exists_eq', exists_and_left, and_assoc, and_true, true_and, ne_eq, not_false_eq_true, Nat.succ_ne_zero, or_true, true_or, true_implies, forall_eq', forall_eq, PyData.int.injEq, PyData.bool.injEq, PyData.list.injEq, PyData.tuple.injEq, List.cons.injEq, i_add, i_iadd, i_sub, i_mul, i_mod, i_fdiv, i_fdivG, i_pow, i_neg, i_le, i_ge, i_gt, i_lt, i_eq, i_ne, i_intI, i_intB, i_abs, i_max, i_min, i_lenL, i_lenT, i_ixL, i_ixT, i_tupL, i_tupT, i_truB, Bool.not_true, Bool.not_false, Bool.false_eq_true, if_true, if_false, reduceIte]
    refine lcG (X := fr) (f := fr) (xs := qs) (fun r => [.imm (.list (xs.map pr)), .imm (fr m), .imm (.list (qs.map fr)), .un, .un, .imm (fr r)]) (fun r => decide (r < m)) (by decide) (fun Q q => ⟨_, rfl, _, Or.inl rfl, q⟩) (no1 trivial) hlen2 (fun x => rfl) (fun r hr Q q => ?_) (fun r hr Q q => ?_) (fun r hr hc Q q => ?_) ?_
    · simp only [wip, wVar, wC, wOp, wUn, wCl, wB, wTr, wAnd, wOr, wNot, wAndV, wOrV, wNotV, wIf, wCh, wNil, wCons, wTup, wLe, wSz, wFn, wFnJ, wNext, wRet, wRetN, wDrop, wIfS, wSet, wSetOwn, wNever, wAug, wOpO, wOpR, wClO, wApp, wSetIt, wFrz, wFor, wRg1, wRg2, wSq, wEnum, wZip, wgN, wgT, wgNil, wgCons, wYes, wAsgT, wgLs, wLenS, wIxS, wFnS, wIsi, wListOf, wRev, edP, edJ, enP, enJ, enS, NotOwn, Flat, List.map_cons, List.map_nil, List.length_cons, List.length_nil, List.replicate_succ, List.replicate_zero, List.cons_append, List.nil_append, List.append_nil, List.set_cons_zero, List.set_cons_succ, List.getElem?_cons_zero, List.getElem?_cons_succ, Nat.reduceAdd, Nat.reduceSub, Option.some.injEq, Sl.imm.injEq, Sl.own.injEq, Sl.scr.injEq, exists_eq_left, exists_eq_left', exists_eq_right, exists_eq, exists_eq', exists_and_left, and_assoc, and_true, true_and, ne_eq, not_false_eq_true, Nat.succ_ne_zero, or_true, true_or, true_implies, forall_eq', forall_eq, PyData.int.injEq, PyData.bool.injEq, PyData.list.injEq, PyData.tuple.injEq, List.cons.injEq, i_add, i_iadd, i_sub, i_mul, i_mod, i_fdiv, i_fdivG, i_pow, i_neg, i_le, i_ge, i_gt, i_lt, i_eq, i_ne, i_intI, i_intB, i_abs, i_max, i_min, i_lenL, i_lenT, i_ixL, i_ixT, i_tupL, i_tupT, i_truB, Bool.not_true, Bool.not_false, Bool.false_eq_true, if_true, if_false, reduceIte]
      exact q
    · simp only [wVar, wC, wOp, wUn, wCl, wB, wTr, wAnd, wOr, wNot, wAndV, wOrV, wNotV, wIf, wCh, wNil, wCons, wTup, wLe, wSz, wFn, wFnJ, wNext, wRet, wRetN, wDrop, wIfS, wSet, wSetOwn, wNever, wAug, wOpO, wOpR, wClO, wApp, wSetIt, wFrz, wFor, wRg1, wRg2, wSq, wEnum, wZip, wgN, wgT, wgNil, wgCons, wYes, wAsgT, wgLs, wLenS, wIxS, wFnS, wIsi, wListOf, wRev, edP, edJ, enP, enJ, enS, NotOwn, Flat, List.map_cons, List.map_nil, List.length_cons, List.length_nil, List.replicate_succ, List.replicate_zero, List.cons_append, List.nil_append, List.append_nil, List.set_cons_zero, List.set_cons_succ, List.getElem?_cons_zero, List.getElem?_cons_succ, Nat.reduceAdd, Nat.reduceSub, Option.some.injEq, Sl.imm.injEq, Sl.own.injEq, Sl.scr.injEq, exists_eq_left, exists_eq_left', exists_eq_right, exists_eq, exists_eq', exists_and_left, and_assoc, and_true, true_and, ne_eq, not_false_eq_true, Nat.succ_ne_zero, or_true, true_or, true_implies, forall_eq', forall_eq, PyData.int.injEq, PyData.bool.injEq, PyData.list.injEq, PyData.tuple.injEq, List.cons.injEq, i_add, i_iadd, i_sub, i_mul, i_mod, i_fdiv, i_fdivG, i_pow, i_neg, i_le, i_ge, i_gt, i_lt, i_eq, i_ne, i_intI, i_intB, i_abs, i_max, i_min, i_lenL, i_lenT, i_ixL, i_ixT, i_tupL, i_tupT, i_truB, Bool.not_true, Bool.not_false, Bool.false_eq_true, if_true, if_false, reduceIte]
      exact ⟨r, m, rfl, qsm r hr, tn_bb hs, _, i_truB.mpr rfl, q⟩
    · simp only [wVar, wC, wOp, wUn, wCl, wB, wTr, wAnd, wOr, wNot, wAndV, wOrV, wNotV, wIf, wCh, wNil, wCons, wTup, wLe, wSz, wFn, wFnJ, wNext, wRet, wRetN, wDrop, wIfS, wSet, wSetOwn, wNever, wAug, wOpO, wOpR, wClO, wApp, wSetIt, wFrz, wFor, wRg1, wRg2, wSq, wEnum, wZip, wgN, wgT, wgNil, wgCons, wYes, wAsgT, wgLs, wLenS, wIxS, wFnS, wIsi, wListOf, wRev, edP, edJ, enP, enJ, enS, NotOwn, Flat, List.map_cons, List.map_nil, List.length_cons, List.length_nil, List.replicate_succ, List.replicate_zero, List.cons_append, List.nil_append, List.append_nil, List.set_cons_zero, List.set_cons_succ, List.getElem?_cons_zero, List.getElem?_cons_succ, Nat.reduceAdd, Nat.reduceSub, Option.some.injEq, Sl.imm.injEq, Sl.own.injEq, Sl.scr.injEq, exists_eq_left, exists_eq_left', exists_eq_right, exists_eq, exists_eq', exists_and_left, and_assoc, and_true, true_and, ne_eq, not_false_eq_true, Nat.succ_ne_zero, or_true, true_or, true_implies, forall_eq', forall_eq, PyData.int.injEq, PyData.bool.injEq, PyData.list.injEq, PyData.tuple.injEq, List.cons.injEq, i_add, i_iadd, i_sub, i_mul, i_mod, i_fdiv, i_fdivG, i_pow, i_neg, i_le, i_ge, i_gt, i_lt, i_eq, i_ne, i_intI, i_intB, i_abs, i_max, i_min, i_lenL, i_lenT, i_ixL, i_ixT, i_tupL, i_tupT, i_truB, Bool.not_true, Bool.not_false, Bool.false_eq_true, if_true, if_false, reduceIte]
      exact q
    simp only [wVar, wC, wOp, wUn, wCl, wB, wTr, wAnd, wOr, wNot, wAndV, wOrV, wNotV, wIf, wCh, wNil, wCons, wTup, wLe, wSz, wFn, wFnJ, wNext, wRet, wRetN, wDrop, wIfS, wSet, wSetOwn, wNever, wAug, wOpO, wOpR, wClO, wApp, wSetIt, wFrz, wFor, wRg1, wRg2, wSq, wEnum, wZip, wgN, wgT, wgNil, wgCons, wYes, wAsgT, wgLs, wLenS, wIxS, wFnS, wIsi, wListOf, wRev, edP, edJ, enP, enJ, enS, NotOwn, Flat, List.map_cons, List.map_nil, List.length_cons, List.length_nil, List.replicate_succ, List.replicate_zero, List.cons_append, List.nil_append, List.append_nil, List.set_cons_zero, List.set_cons_succ, List.getElem?_cons_zero, List.getElem?_cons_succ, Nat.reduceAdd, Nat.reduceSub, Option.some.injEq, Sl.imm.injEq, Sl.own.injEq, Sl.scr.injEq, exists_eq_left, exists_eq_left', exists_eq_right, exists_eq, exists_eq', exists_and_left, and_assoc, and_true, true_and, ne_eq, not_false_eq_true, Nat.succ_ne_zero, or_true, true_or, true_implies, forall_eq', forall_eq, PyData.int.injEq, PyData.bool.injEq, PyData.list.injEq, PyData.tuple.injEq, List.cons.injEq, i_add, i_iadd, i_sub, i_mul, i_mod, i_fdiv, i_fdivG, i_pow, i_neg, i_le, i_ge, i_gt, i_lt, i_eq, i_ne, i_intI, i_intB, i_abs, i_max, i_min, i_lenL, i_lenT, i_ixL, i_ixT, i_tupL, i_tupT, i_truB, Bool.not_true, Bool.not_false, Bool.false_eq_true, if_true, if_false, reduceIte]
    refine ⟨by decide, _, (ne_nil (lay_frs _)).mpr rfl, _, rfl, ?_⟩
    rw [nb some_below, if_pos (by rfl)]
    refine lcG (X := fr) (f := fr) (xs := qs) (fun r => [.imm (.list (xs.map pr)), .imm (fr m), .imm (.list (qs.map fr)), .imm (.list ((qs.filter fun r => decide (r < m)).map fr)), .un, .imm (fr r)]) (fun r => decide (m < r)) (by decide) (fun Q q => ⟨_, rfl, _, Or.inl rfl, q⟩) (no1 trivial) hlen2 (fun x => rfl) (fun r hr Q q => ?_) (fun r hr Q q => ?_) (fun r hr hc Q q => ?_) ?_
    · simp only [wip, wVar, wC, wOp, wUn, wCl, wB, wTr, wAnd, wOr, wNot, wAndV, wOrV, wNotV, wIf, wCh, wNil, wCons, wTup, wLe, wSz, wFn, wFnJ, wNext, wRet, wRetN, wDrop, wIfS, wSet, wSetOwn, wNever, wAug, wOpO, wOpR, wClO, wApp, wSetIt, wFrz, wFor, wRg1, wRg2, wSq, wEnum, wZip, wgN, wgT, wgNil, wgCons, wYes, wAsgT, wgLs, wLenS, wIxS, wFnS, wIsi, wListOf, wRev, edP, edJ, enP, enJ, enS, NotOwn, Flat, List.map_cons, List.map_nil, List.length_cons, List.length_nil, List.replicate_succ, List.replicate_zero, List.cons_append, List.nil_append, List.append_nil, List.set_cons_zero, List.set_cons_succ, List.getElem?_cons_zero, List.getElem?_cons_succ, Nat.reduceAdd, Nat.reduceSub, Option.some.injEq, Sl.imm.injEq, Sl.own.injEq, Sl.scr.injEq, exists_eq_left, exists_eq_left', exists_eq_right, exists_eq, exists_eq', exists_and_left, and_assoc, and_true, true_and, ne_eq, not_false_eq_true, Nat.succ_ne_zero, or_true, true_or, true_implies, forall_eq', forall_eq, PyData.int.injEq, PyData.bool.injEq, PyData.list.injEq, PyData.tuple.injEq, List.cons.injEq, i_add, i_iadd, i_sub, i_mul, i_mod, i_fdiv, i_fdivG, i_pow, i_neg, i_le, i_ge, i_gt, i_lt, i_eq, i_ne, i_intI, i_intB, i_abs, i_max, i_min, i_lenL, i_lenT, i_ixL, i_ixT, i_tupL, i_tupT, i_truB, Bool.not_true, Bool.not_false, Bool.false_eq_true, if_true, if_false, reduceIte]
      exact q
    · simp only [wVar, wC, wOp, wUn, wCl, wB, wTr, wAnd, wOr, wNot, wAndV, wOrV, wNotV, wIf, wCh, wNil, wCons, wTup, wLe, wSz, wFn, wFnJ, wNext, wRet, wRetN, wDrop, wIfS, wSet, wSetOwn, wNever, wAug, wOpO, wOpR, wClO, wApp, wSetIt, wFrz, wFor, wRg1, wRg2, wSq, wEnum, wZip, wgN, wgT, wgNil, wgCons, wYes, wAsgT, wgLs, wLenS, wIxS, wFnS, wIsi, wListOf, wRev, edP, edJ, enP, enJ, enS, NotOwn, Flat, List.map_cons, List.map_nil, List.length_cons, List.length_nil, List.replicate_succ, List.replicate_zero, List.cons_append, List.nil_append, List.append_nil, List.set_cons_zero, List.set_cons_succ, List.getElem?_cons_zero, List.getElem?_cons_succ, Nat.reduceAdd, Nat.reduceSub, Option.some.injEq, Sl.imm.injEq, Sl.own.injEq, Sl.scr.injEq, exists_eq_left, exists_eq_left', exists_eq_right, exists_eq, exists_eq', exists_and_left, and_assoc, and_true, true_and, ne_eq, not_false_eq_true, Nat.succ_ne_zero, or_true, true_or, true_implies, forall_eq', forall_eq, PyData.int.injEq, PyData.bool.injEq, PyData.list.injEq, PyData.tuple.injEq, List.cons.injEq, i_add, i_iadd, i_sub, i_mul, i_mod, i_fdiv, i_fdivG, i_pow, i_neg, i_le, i_ge, i_gt, i_lt, i_eq, i_ne, i_intI, i_intB, i_abs, i_max, i_min, i_lenL, i_lenT, i_ixL, i_ixT, i_tupL, i_tupT, i_truB, Bool.not_true, Bool.not_false, Bool.false_eq_true, if_true, if_false, reduceIte]
      exact ⟨m, r, rfl, tn_bb hs, qsm r hr, _, i_truB.mpr rfl, q⟩
    · simp only [wVar, wC, wOp, wUn, wCl, wB, wTr, wAnd, wOr, wNot, wAndV, wOrV, wNotV, wIf, wCh, wNil, wCons, wTup, wLe, wSz, wFn, wFnJ, wNext, wRet, wRetN, wDrop, wIfS, wSet, wSetOwn, wNever, wAug, wOpO, wOpR, wClO, wApp, wSetIt, wFrz, wFor, wRg1, wRg2, wSq, wEnum, wZip, wgN, wgT, wgNil, wgCons, wYes, wAsgT, wgLs, wLenS, wIxS, wFnS, wIsi, wListOf, wRev, edP, edJ, enP, enJ, enS, NotOwn, Flat, List.map_cons, List.map_nil, List.length_cons, List.length_nil, List.replicate_succ, List.replicate_zero, List.cons_append, List.nil_append, List.append_nil, List.set_cons_zero, List.set_cons_succ, List.getElem?_cons_zero, List.getElem?_cons_succ, Nat.reduceAdd, Nat.reduceSub, Option.some.injEq, Sl.imm.injEq, Sl.own.injEq, Sl.scr.injEq, exists_eq_left, exists_eq_left', exists_eq_right, exists_eq, exists_eq', exists_and_left, and_assoc, and_true, true_and, ne_eq, not_false_eq_true, Nat.succ_ne_zero, or_true, true_or, true_implies, forall_eq', forall_eq, PyData.int.injEq, PyData.bool.injEq, PyData.list.injEq, PyData.tuple.injEq, List.cons.injEq, i_add, i_iadd, i_sub, i_mul, i_mod, i_fdiv, i_fdivG, i_pow, i_neg, i_le, i_ge, i_gt, i_lt, i_eq, i_ne, i_intI, i_intB, i_abs, i_max, i_min, i_lenL, i_lenT, i_ixL, i_ixT, i_tupL, i_tupT, i_truB, Bool.not_true, Bool.not_false, Bool.false_eq_true, if_true, if_false, reduceIte]
      exact q
    refine ⟨by decide, _, (ne_nil (lay_frs _)).mpr rfl, ?_⟩
    rw [nb some_above]
    exact q
end K13

set_option Elab.async false
set_option linter.all false
set_option maxRecDepth 100000
set_option maxHeartbeats 4000000
namespace K13
open PySem PySem.Spec PyProof.Rows L2 Pd
/-! ### bounds -/
def Bn (N M : Nat) (q : Rat) : Prop := q.num.natAbs ≤ N ∧ q.den ≤ M
theorem bn_add {N M N' M' : Nat} {p q : Rat} (hp : Bn N M p) (hq : Bn N' M' q) : Bn (N * M' + N' * M) (M * M') (p + q) :=
  ⟨Nat.le_trans (add_num_le p q) (Nat.add_le_add (Nat.mul_le_mul hp.1 hq.2) (Nat.mul_le_mul hq.1 hp.2)), Nat.le_trans (add_den_le p q) (Nat.mul_le_mul hp.2 hq.2)⟩
theorem bn_mul {N M N' M' : Nat} {p q : Rat} (hp : Bn N M p) (hq : Bn N' M' q) : Bn (N * N') (M * M') (p * q) :=
  ⟨Nat.le_trans (mul_num_le p q) (Nat.mul_le_mul hp.1 hq.1), Nat.le_trans (mul_den_le p q) (Nat.mul_le_mul hp.2 hq.2)⟩
theorem Bn.up {N M N' M' : Nat} {q : Rat} (h : Bn N M q) (h1 : N ≤ N') (h2 : M ≤ M') : Bn N' M' q := ⟨Nat.le_trans h.1 h1, Nat.le_trans h.2 h2⟩
theorem Bn.sm {N M b : Nat} {q : Rat} (h : Bn N M q) (h1 : N < b) (h2 : M < b) : Sm b q := ⟨Nat.lt_of_le_of_lt h.1 h1, Nat.lt_of_le_of_lt h.2 h2⟩
theorem bn_int {c : Int} {n : Nat} (h : c.natAbs ≤ n) : Bn n 1 (c : Rat) := ⟨by rw [Rat.num_intCast]; exact h, by rw [Rat.den_intCast]; exact Nat.le_refl _⟩
/-- k such numbers added -/
theorem bn_step {N M k : Nat} {a q : Rat} (hM : 1 ≤ M) (ha : Bn (k * N * M ^ k) (M ^ k) a) (hq : Bn N M q) : Bn ((k + 1) * N * M ^ (k + 1)) (M ^ (k + 1)) (a + q) := by
  refine (bn_add ha hq).up ?_ ?_
  · rw [Nat.pow_succ]
    have h1 : N * M ^ k ≤ N * M ^ k * M := Nat.le_mul_of_pos_right _ hM
    have h2 : (k + 1) * N * (M ^ k * M) = k * N * M ^ k * M + N * M ^ k * M := by
      rw [Nat.add_mul, Nat.one_mul, Nat.add_mul, Nat.mul_assoc (k * N), Nat.mul_assoc N]
    rw [h2]
    exact Nat.add_le_add_left h1 _
  · rw [Nat.pow_succ]; exact Nat.le_refl _
theorem mono {N M k n b : Nat} (hM : 1 ≤ M) (hk : k ≤ n) (h : n * N * M ^ n < b) (h2 : M ^ n < b) : k * N * M ^ k < b ∧ M ^ k < b := by
  have h3 : M ^ k ≤ M ^ n := Nat.pow_le_pow_right hM hk
  exact ⟨Nat.lt_of_le_of_lt (Nat.mul_le_mul (Nat.mul_le_mul_right _ hk) h3) h, Nat.lt_of_le_of_lt h3 h2⟩
theorem way_of {N M n : Nat} (hM : 1 ≤ M) (hB : n * N * M ^ n < BB) (hB2 : M ^ n < BB) (hN : N < BB) (hM2 : M < BB) : ∀ {l : List Rat} {a : Rat} {k : Nat}, Bn (k * N * M ^ k) (M ^ k) a → (∀ q ∈ l, Bn N M q) → k + l.length ≤ n →
    Way a l ∧ Bn ((k + l.length) * N * M ^ (k + l.length)) (M ^ (k + l.length)) (rsum a l)
  | [], a, k, ha, _, hk => by
    obtain ⟨m1, m2⟩ := mono hM (by simpa using hk : k ≤ n) hB hB2
    exact ⟨ha.sm m1 m2, ha⟩
  | q :: l, a, k, ha, hl, hk => by
    rw [List.length_cons] at hk ⊢
    obtain ⟨m1, m2⟩ := mono hM (by omega : k ≤ n) hB hB2
    have hq := hl q List.mem_cons_self
    obtain ⟨h1, h2⟩ := way_of hM hB hB2 hN hM2 (bn_step hM ha hq) (fun r hr => hl r (List.mem_cons_of_mem _ hr)) (by omega)
    refine ⟨⟨ha.sm m1 m2, hq.sm hN hM2, h1⟩, ?_⟩
    rw [show k + (l.length + 1) = k + 1 + l.length by omega]
    exact h2
theorem bn_0 {N M : Nat} : Bn (0 * N * M ^ 0) (M ^ 0) 0 := by
  rw [Nat.zero_mul, Nat.zero_mul, Nat.pow_zero]
  exact ⟨by decide, by decide⟩
theorem way0 {N M n : Nat} {l : List Rat} (hl : ∀ q ∈ l, Bn N M q) (hn : l.length ≤ n) (hM : 1 ≤ M) (hB : n * N * M ^ n < BB) (hB2 : M ^ n < BB) (hN : N < BB) (hM2 : M < BB) : Way 0 l ∧ Bn (n * N * M ^ n) (M ^ n) (rsum 0 l) := by
  obtain ⟨h1, h2⟩ := way_of hM hB hB2 hN hM2 bn_0 hl (k := 0) (by omega)
  refine ⟨h1, h2.up ?_ ?_⟩
  · rw [Nat.zero_add]; exact Nat.mul_le_mul (Nat.mul_le_mul_right _ hn) (Nat.pow_le_pow_right hM hn)
  · rw [Nat.zero_add]; exact Nat.pow_le_pow_right hM hn
/-! ### the lists of the law -/
def Ok1 (x : Pr) : Prop := 1 ≤ x.1 ∧ x.1 ≤ 1000000000 ∧ Bn (10 ^ 7) (10 ^ 7) x.2
theorem ok_cnt {x : Pr} (h : Ok1 x) : Cnt x := ⟨h.1, h.2.1, h.2.2.sm (by decide +kernel) (by decide +kernel)⟩
theorem ok_ws {x : Pr} (h : Ok1 x) : Bn (10 ^ 16) (10 ^ 7) ((x.1 : Rat) * x.2) := by
  obtain ⟨h1, h2, h3⟩ := h
  exact (bn_mul (bn_int (show x.1.natAbs ≤ 10 ^ 9 by omega)) h3).up (by decide +kernel) (by decide +kernel)
theorem ok_way {xs : List Pr} (h : ∀ x ∈ xs, Ok1 x) (hn : xs.length ≤ 13) : Way 0 (ws xs) := (way0 (N := 10 ^ 16) (M := 10 ^ 7) (n := 13) (fun q hq => by
  obtain ⟨x, hx, rfl⟩ := List.mem_map.mp hq
  exact ok_ws (h x hx)) (by unfold ws; rw [List.length_map]; exact hn) (by decide) (by decide +kernel) (by decide +kernel) (by decide +kernel) (by decide +kernel)).1
theorem mean_q {xs : List Pr} {Q : D → Prop} (h : ∀ x ∈ xs, Ok1 x) (h1 : 1 ≤ xs.length) (hn : xs.length ≤ 13) (q : Q (fr (mn xs))) : wf_mean [.tuple (xs.map pr)] Q :=
  ⟨xs, rfl, h1, by omega, fun x hx => ok_cnt (h x hx), ok_way h hn, q⟩
/-- what is drawn -/
def Ok0 (x : Pr) : Prop := 1 ≤ x.1 ∧ x.1 ≤ 1000000000 ∧ Bn 1000 1000 x.2
theorem Ok0.ok1 {x : Pr} (h : Ok0 x) : Ok1 x := ⟨h.1, h.2.1, h.2.2.up (by decide) (by decide)⟩
theorem ok0_way {xs : List Pr} (h : ∀ x ∈ xs, Ok0 x) (hn : xs.length ≤ 12) : Sm TN (mn xs) := by
  have hw := (way0 (N := 10 ^ 12) (M := 1000) (n := 12) (l := ws xs) (fun q hq => by
    obtain ⟨x, hx, rfl⟩ := List.mem_map.mp hq
    obtain ⟨h1, h2, h3⟩ := h x hx
    exact (bn_mul (bn_int (show x.1.natAbs ≤ 10 ^ 9 by omega)) h3).up (by decide +kernel) (by decide +kernel)) (by unfold ws; rw [List.length_map]; exact hn) (by decide) (by decide +kernel) (by decide +kernel) (by decide +kernel) (by decide +kernel)).2
  obtain ⟨c1, c2⟩ := cs_bound fun x hx => ok_cnt (h x hx).ok1
  have hi : Bn 1 (12 * 10 ^ 9) (Rat.divInt 1 (cs xs)) := by
    by_cases h0 : 0 < cs xs
    · obtain ⟨i1, i2⟩ := inv_parts h0
      exact ⟨by rw [i1]; decide, by omega⟩
    · have : cs xs = 0 := by omega
      rw [this]
      exact ⟨by decide +kernel, by decide +kernel⟩
  exact (bn_mul hw hi).sm (by decide +kernel) (by decide +kernel)
theorem cs_pos {xs : List Pr} (h : ∀ x ∈ xs, Ok1 x) (h1 : 1 ≤ xs.length) : 0 < cs xs ∧ cs xs ≤ 1000000000 * (xs.length : Int) := by
  obtain ⟨c1, c2⟩ := cs_bound fun x hx => ok_cnt (h x hx)
  omega
def unpr : D → Pr
  | .tuple [.int c, .tuple [.int a, .int b]] => (c, Rat.divInt a b)
  | _ => (0, 0)
theorem unpr_pr (x : Pr) : unpr (pr x) = x := by
  show (x.1, Rat.divInt x.2.num x.2.den) = x
  rw [Rat.num_divInt_den]
theorem perm_pr {xs : List Pr} {ys : List D} (h : (xs.map pr).Perm ys) : ∃ zs, xs.Perm zs ∧ ys = zs.map pr := by
  refine ⟨ys.map unpr, ?_, ?_⟩
  · have h2 := h.map unpr
    rw [List.map_map, show (unpr ∘ pr) = id from funext unpr_pr, List.map_id] at h2
    exact h2
  · rw [List.map_map]
    have : ∀ y ∈ ys, (pr ∘ unpr) y = y := fun y hy => by
      obtain ⟨x, _, rfl⟩ := List.mem_map.mp (h.mem_iff.mpr hy)
      show pr (unpr (pr x)) = pr x
      rw [unpr_pr]
    rw [List.map_congr_left this, List.map_id']
theorem sh_pr (xs : List Pr) : ∀ y ∈ xs.map pr, ShD y := fun y hy => by
  obtain ⟨x, _, rfl⟩ := List.mem_map.mp hy
  exact ⟨rfl, by show 2 ≤ 5; decide⟩
theorem cut_1 {α : Type} (x : α) (xs : List α) : cutA (x :: xs) none (some 1) = [x] := by
  unfold cutA HT.sIx
  simp
theorem cut_r {α : Type} (x : α) (xs : List α) : cutA (x :: xs) (some 1) none = xs := by
  unfold cutA HT.sIx
  simp
theorem i_pr0 {x : Pr} {z : D} : dIx (pr x) (.int 0) z ↔ z = .int x.1 := ⟨fun h => by
  have h' : atI [PyData.int x.1, fr x.2] 0 = some z := h
  rw [at0] at h'; cases h'; rfl, fun h => by rw [h]; exact at0⟩
theorem i_pr1 {x : Pr} {z : D} : dIx (pr x) (.int 1) z ↔ z = fr x.2 := ⟨fun h => by
  have h' : atI [PyData.int x.1, fr x.2] 1 = some z := h
  rw [at1] at h'; cases h'; rfl, fun h => by rw [h]; exact at1⟩
theorem zip_pr : ∀ (xs : List Pr) (qs : List Rat), zipD (xs.map pr) (qs.map fr) = (xs.zip qs).map fun z => .tuple [pr z.1, fr z.2]
  | [], _ => rfl
  | _ :: _, [] => rfl
  | x :: xs, q :: qs => by
    show _ :: zipD (xs.map pr) (qs.map fr) = _ :: _
    rw [zip_pr xs qs]; rfl
end K13

set_option Elab.async false
set_option linter.all false
set_option maxRecDepth 100000
set_option maxHeartbeats 4000000
namespace K13
open PySem PySem.Spec PyProof.Rows L2 Pd
theorem pairs_loop {n : Int} {d2 : D} {R : Ed} {t : List Sl} (n1 : 0 < n) (n2 : n ≤ 1000) : ∀ (xs : List D) (acc : List Pr) (g m c : Int) (s4 : Sl), NotOwn (some s4) → acc.length + xs.length ≤ 12 →
    (∀ (l : List Pr) (g m c : Int) (s4 : Sl), NotOwn (some s4) → l.length = xs.length → (∀ x ∈ l, Ok0 x) → R.nx (.own [.int g, .int m, .int c] :: .imm (.int n) :: .imm d2 :: .own ((acc ++ l).map pr) :: s4 :: t)) →
    forW (wgN 4) (wApp 3 (wTup (wCons (wFnJ 0 2 wf__law_sip (wCons (wLe (wSz (wCons (wC (.int 1)) (wCons (wC (.int 1)) (wCons (wC (.int 2)) (wCons (wC (.int 5)) (wCons (wOp dPow (wC (.int 10)) (wC (.int 9))) (wCons (wOp dAdd (wC (.int 1)) (wFnJ 0 2 wf__law_pour (wCons (wC (.int 1000)) wNil))) wNil)))))))) wNil)) (wCons (wFnJ 0 2 wf__law_ta_fraction (wCons (wVar 1) wNil)) wNil))))
      R xs (.own [.int g, .int m, .int c] :: .imm (.int n) :: .imm d2 :: .own (acc.map pr) :: s4 :: t)
  | [], acc, g, m, c, s4, h4, _, q => by
    have := q [] g m c s4 h4 rfl (fun x hx => by cases hx)
    rw [List.append_nil] at this; exact this
  | x :: xs, acc, g, m, c, s4, h4, hl, q => by
    rw [List.length_cons] at hl
    unfold forW
    simp only [wf__law_sip, wf__law_pour, wVar, wC, wOp, wUn, wCl, wB, wTr, wAnd, wOr, wNot, wAndV, wOrV, wNotV, wIf, wCh, wNil, wCons, wTup, wLe, wSz, wFn, wFnJ, wNext, wSeq, wRet, wRetN, wDrop, wIfS, wSet, wSetOwn, wNever, wAug, wOpO, wOpR, wClO, wApp, wSetIt, wFrz, wFor, wRg1, wRg2, wSq, wEnum, wZip, wgN, wgT, wgNil, wgCons, wYes, wAsgT, wgLs, wLenS, wIxS, wFnS, wIsi, wListOf, wRev, edP, edJ, enP, enJ, enS, NotOwn, Flat, List.map_cons, List.map_nil, List.length_cons, List.length_nil, List.replicate_succ, List.replicate_zero, List.cons_append, List.nil_append, List.append_nil, List.set_cons_zero, List.set_cons_succ, List.getElem?_cons_zero, List.getElem?_cons_succ, Nat.reduceAdd, Nat.reduceSub, Option.some.injEq, Sl.imm.injEq, Sl.own.injEq, Sl.scr.injEq, exists_eq_left, exists_eq_left', exists_eq_right, exists_eq, exists_eq', exists_and_left, and_assoc, and_true, true_and, ne_eq, not_false_eq_true, Nat.succ_ne_zero, or_true, true_or, true_implies, forall_eq', forall_eq, PyData.int.injEq, PyData.bool.injEq, PyData.list.injEq, PyData.tuple.injEq, List.cons.injEq, i_add, i_iadd, i_sub, i_mul, i_mod, i_fdiv, i_fdivG, i_pow, i_neg, i_le, i_ge, i_gt, i_lt, i_eq, i_ne, i_intI, i_intB, i_abs, i_max, i_min, i_lenL, i_lenT, i_ixL, i_ixT, i_tupL, i_tupT, i_truB, Bool.not_true, Bool.not_false, Bool.false_eq_true, if_true, if_false, reduceIte]
    refine ⟨pow_ok (by decide +kernel), by decide, log_lt (by decide) (by decide), fun r g m c r1 r2 => ⟨by decide, by simp, by decide, fun y hy g m c => ?_⟩⟩
    have hc : ∃ k : Int, y = .int k ∧ 1 ≤ k ∧ k ≤ 1000000000 := by
      simp only [List.mem_cons, List.not_mem_nil, or_false] at hy
      rcases hy with rfl | rfl | rfl | rfl | rfl | rfl
      · exact ⟨1, rfl, by decide, by decide⟩
      · exact ⟨1, rfl, by decide, by decide⟩
      · exact ⟨2, rfl, by decide, by decide⟩
      · exact ⟨5, rfl, by decide, by decide⟩
      · exact ⟨_, rfl, by decide +kernel, by decide +kernel⟩
      · exact ⟨_, rfl, by omega, by omega⟩
    obtain ⟨k, rfl, k1, k2⟩ := hc
    refine ⟨_, _, _, n, rfl, rfl, n1, Int.le_trans n2 (by decide +kernel), fun f g m c f1 f2 => ?_⟩
    simp only [wVar, wC, wOp, wUn, wCl, wB, wTr, wAnd, wOr, wNot, wAndV, wOrV, wNotV, wIf, wCh, wNil, wCons, wTup, wLe, wSz, wFn, wFnJ, wNext, wSeq, wRet, wRetN, wDrop, wIfS, wSet, wSetOwn, wNever, wAug, wOpO, wOpR, wClO, wApp, wSetIt, wFrz, wFor, wRg1, wRg2, wSq, wEnum, wZip, wgN, wgT, wgNil, wgCons, wYes, wAsgT, wgLs, wLenS, wIxS, wFnS, wIsi, wListOf, wRev, edP, edJ, enP, enJ, enS, NotOwn, Flat, List.map_cons, List.map_nil, List.length_cons, List.length_nil, List.replicate_succ, List.replicate_zero, List.cons_append, List.nil_append, List.append_nil, List.set_cons_zero, List.set_cons_succ, List.getElem?_cons_zero, List.getElem?_cons_succ, Nat.reduceAdd, Nat.reduceSub, Option.some.injEq, Sl.imm.injEq, Sl.own.injEq, Sl.scr.injEq, exists_eq_left, exists_eq_left', exists_eq_right, exists_eq, exists_eq', exists_and_left, and_assoc, and_true, true_and, ne_eq, not_false_eq_true, Nat.succ_ne_zero, or_true, true_or, true_implies, forall_eq', forall_eq, PyData.int.injEq, PyData.bool.injEq, PyData.list.injEq, PyData.tuple.injEq, List.cons.injEq, i_add, i_iadd, i_sub, i_mul, i_mod, i_fdiv, i_fdivG, i_pow, i_neg, i_le, i_ge, i_gt, i_lt, i_eq, i_ne, i_intI, i_intB, i_abs, i_max, i_min, i_lenL, i_lenT, i_ixL, i_ixT, i_tupL, i_tupT, i_truB, Bool.not_true, Bool.not_false, Bool.false_eq_true, if_true, if_false, reduceIte]
    refine ⟨by decide, by rw [List.length_map]; exact Nat.lt_of_lt_of_le (by omega : acc.length < 100) (by decide), ?_⟩
    have e : acc.map pr ++ [PyData.tuple [.int k, fr f]] = (acc ++ [(k, f)]).map pr := by rw [List.map_append]; rfl
    rw [e]
    refine pairs_loop n1 n2 xs (acc ++ [(k, f)]) g m c _ trivial (by rw [List.length_append, List.length_singleton]; omega) fun l g m c s4 h4 h1 h2 => ?_
    rw [List.append_assoc]
    refine q ((k, f) :: l) g m c s4 h4 (by rw [List.length_cons, List.length_cons, h1]) fun x hx => ?_
    rcases List.mem_cons.mp hx with rfl | hx
    · exact ⟨k1, k2, by show f.num.natAbs ≤ 1000; omega, by show f.den ≤ 1000; omega⟩
    · exact h2 x hx
theorem bak_set {j : Nat} {en e : En} : bak [j] en e = e.set j (en.getD j .un) := by
  refine List.ext_getElem? fun i => ?_
  unfold bak
  rw [List.getElem?_map]
  by_cases hi : i < e.length
  · rw [List.getElem?_eq_getElem (by rw [List.length_range]; exact hi), List.getElem_range]
    show some (if i ∈ [j] then en.getD i .un else e.getD i .un) = _
    by_cases hm : i = j
    · subst hm
      rw [if_pos (List.mem_singleton.mpr rfl), List.getElem?_set_self hi]
    · rw [if_neg (fun h => hm (List.mem_singleton.mp h)), List.getElem?_set_ne (fun h => hm h.symm), List.getD_eq_getElem?_getD, List.getElem?_eq_getElem hi]; rfl
  · rw [List.getElem?_eq_none (by rw [List.length_range]; omega), List.getElem?_eq_none (by rw [List.length_set]; omega)]; rfl
theorem more_loop {n : Int} {t2 t3 : Sl} {t : List Sl} {Q : List D → En → Prop} (n1 : 0 < n) (n2 : n ≤ 1000) : ∀ (xs : List D) (acc : List Rat) (g m c : Int),
    (∀ (l : List Rat) (g m c : Int), l.length = xs.length → (∀ q ∈ l, Bn 1000 1000 q) → Q ((acc ++ l).map fr) (.own [.int g, .int m, .int c] :: .imm (.int n) :: t2 :: t3 :: .un :: t)) →
    lcW (wgN 4) wYes (wFnJ 0 2 wf__law_ta_fraction (wCons (wVar 1) wNil)) [4] xs (acc.map fr) (.own [.int g, .int m, .int c] :: .imm (.int n) :: t2 :: t3 :: .un :: t) Q
  | [], acc, g, m, c, q => by
    have := q [] g m c rfl (fun x hx => by cases hx)
    rw [List.append_nil] at this; exact this
  | x :: xs, acc, g, m, c, q => by
    unfold lcW
    simp only [wip, wf__law_ta_fraction, wVar, wC, wOp, wUn, wCl, wB, wTr, wAnd, wOr, wNot, wAndV, wOrV, wNotV, wIf, wCh, wNil, wCons, wTup, wLe, wSz, wFn, wFnJ, wNext, wRet, wRetN, wDrop, wIfS, wSet, wSetOwn, wNever, wAug, wOpO, wOpR, wClO, wApp, wSetIt, wFrz, wFor, wRg1, wRg2, wSq, wEnum, wZip, wgN, wgT, wgNil, wgCons, wYes, wAsgT, wgLs, wLenS, wIxS, wFnS, wIsi, wListOf, wRev, edP, edJ, enP, enJ, enS, NotOwn, Flat, List.map_cons, List.map_nil, List.length_cons, List.length_nil, List.replicate_succ, List.replicate_zero, List.cons_append, List.nil_append, List.append_nil, List.set_cons_zero, List.set_cons_succ, List.getElem?_cons_zero, List.getElem?_cons_succ, Nat.reduceAdd, Nat.reduceSub, Option.some.injEq, Sl.imm.injEq, Sl.own.injEq, Sl.scr.injEq, exists_eq_left, exists_eq_left', exists_eq_right, exists_eq, exists_eq', exists_and_left, and_assoc, and_true, true_and, ne_eq, not_false_eq_true, Nat.succ_ne_zero, or_true, true_or, true_implies, forall_eq', forall_eq, PyData.int.injEq, PyData.bool.injEq, PyData.list.injEq, PyData.tuple.injEq, List.cons.injEq, i_add, i_iadd, i_sub, i_mul, i_mod, i_fdiv, i_fdivG, i_pow, i_neg, i_le, i_ge, i_gt, i_lt, i_eq, i_ne, i_intI, i_intB, i_abs, i_max, i_min, i_lenL, i_lenT, i_ixL, i_ixT, i_tupL, i_tupT, i_truB, Bool.not_true, Bool.not_false, Bool.false_eq_true, if_true, if_false, reduceIte]
    refine ⟨free_of (by decide), n1, Int.le_trans n2 (by decide +kernel), fun f g m c f1 f2 => ⟨free_of (by decide), ?_⟩⟩
    have e : acc.map fr ++ [fr f] = (acc ++ [f]).map fr := by rw [List.map_append]; rfl
    rw [e]
    refine more_loop n1 n2 xs (acc ++ [f]) g m c fun l g m c h1 h2 => ?_
    rw [List.append_assoc]
    refine q (f :: l) g m c (by rw [List.length_cons, List.length_cons, h1]) fun x hx => ?_
    rcases List.mem_cons.mp hx with rfl | hx
    · exact ⟨by omega, by omega⟩
    · exact h2 x hx
theorem zip_sums : ∀ (xs : List Pr) (ms : List Rat), xs.length = ms.length →
    cs xs = cs ((xs.zip ms).map fun z => (z.1.1, z.1.2 + z.2)) ∧ cs xs = cs ((xs.zip ms).map fun z => (z.1.1, z.2)) ∧ W ((xs.zip ms).map fun z => (z.1.1, z.1.2 + z.2)) = W xs + W ((xs.zip ms).map fun z => (z.1.1, z.2))
  | [], [], _ => ⟨rfl, rfl, by show (0 : Rat) = 0 + 0; grind⟩
  | [], _ :: _, h => by cases h
  | _ :: _, [], h => by cases h
  | x :: xs, q :: ms, h => by
    obtain ⟨h1, h2, h3⟩ := zip_sums xs ms (by simpa using h)
    simp only [List.zip_cons_cons, List.map_cons, cs_cons, W_cons]
    refine ⟨by rw [← h1], by rw [← h2], ?_⟩
    rw [h3]; grind
theorem fac_sums (f : Rat) : ∀ xs : List Pr, cs (xs.map fun x => (x.1, f * x.2)) = cs xs ∧ W (xs.map fun x => (x.1, f * x.2)) = f * W xs
  | [] => ⟨rfl, by show (0 : Rat) = f * 0; grind⟩
  | x :: xs => by
    obtain ⟨h1, h2⟩ := fac_sums f xs
    simp only [List.map_cons, cs_cons, W_cons]
    refine ⟨by rw [h1], ?_⟩
    rw [h2]; grind
theorem right_end {n : Int} {k : Nat} {xs : List Pr} {s4 s5 s7 s8 s9 : Sl} {g m c : Int} {Q : D → List D → Prop} (n1 : 0 < n) (n2 : n ≤ 1000) (hx1 : xs.length = k) (k1 : 1 ≤ k) (k2 : k ≤ 12) (h4 : NotOwn (some s4)) (h9 : NotOwn (some s9)) (hx : ∀ x ∈ xs, Ok0 x) (tm : Sm TN (mn xs))
    (fin : ∀ g m c : Int, Q (.bool true) [.int g, .int m, .int c]) :
    (wSeq (wSet 10 (wLe (wLc (wRg1 (wCons (wVar 2) wNil)) (wgN 4) wYes (wFnJ 0 2 wf__law_ta_fraction (wCons (wVar 1) wNil)) [4]))) (wSeq (wSet 11 (wFn 1 wf_mean (wCons (wCl dTupOf (wCons (wLe (wLc (wZip (wCons (wVar 3) (wCons (wVar 10) wNil))) (wgT 2 (wgCons (wgT 2 (wgCons (wgN 13) (wgCons (wgN 14) wgNil))) (wgCons (wgN 15) wgNil))) wYes (wTup (wCons (wVar 13) (wCons (wFn 2 wf_plus (wCons (wVar 14) (wCons (wVar 15) wNil))) wNil))) [15, 13, 14])) wNil)) wNil))) (wSeq (wIfS (wB (wOp dNe (wVar 11) (wFn 2 wf_plus (wCons (wVar 6) (wCons (wFn 1 wf_mean (wCons (wCl dTupOf (wCons (wLe (wLc (wZip (wCons (wVar 3) (wCons (wVar 10) wNil))) (wgT 2 (wgCons (wgN 16) (wgCons (wgN 15) wgNil))) wYes (wTup (wCons (wOp dIx (wVar 16) (wC (.int 0))) (wCons (wVar 15) wNil))) [16, 15])) wNil)) wNil)) wNil))))) (wRet (wC (.bool false))) wNext) (wSeq (wSet 12 (wFnJ 0 2 wf__law_ta_fraction (wCons (wC (.int 30)) wNil))) (wRet (wOp dEq (wFn 1 wf_mean (wCons (wCl dTupOf (wCons (wLe (wLc (wSq (wVar 3)) (wgT 2 (wgCons (wgN 13) (wgCons (wgN 14) wgNil))) wYes (wTup (wCons (wVar 13) (wCons (wFn 2 wf_times (wCons (wVar 12) (wCons (wVar 14) wNil))) wNil))) [13, 14])) wNil)) wNil)) (wFn 2 wf_times (wCons (wVar 12) (wCons (wVar 6) wNil)))))))))
      (edJ Q) [.own [.int g, .int m, .int c], .imm (.int n), .imm (.int k), .imm (.list (xs.map pr)), s4, s5, .imm (fr (mn xs)), s7, s8, s9, .un, .un, .un, .un, .un, .un, .un] := by
  (try dsimp only); rw [wSeq_eq]; simp only [wVar, wC, wOp, wUn, wCl, wB, wTr, wAnd, wOr, wNot, wAndV, wOrV, wNotV, wIf, wCh, wNil, wCons, wTup, wLe, wSz, wFn, wFnJ, wNext, wRet, wRetN, wDrop, wIfS, wSet, wSetOwn, wNever, wAug, wOpO, wOpR, wClO, wApp, wSetIt, wFrz, wFor, wRg1, wRg2, wSq, wEnum, wZip, wgN, wgT, wgNil, wgCons, wYes, wAsgT, wgLs, wLenS, wIxS, wFnS, wIsi, wListOf, wRev, edP, edJ, enP, enJ, enS, NotOwn, Flat, List.map_cons, List.map_nil, List.length_cons, List.length_nil, List.replicate_succ, List.replicate_zero, List.cons_append, List.nil_append, List.append_nil, List.set_cons_zero, List.set_cons_succ, List.getElem?_cons_zero, List.getElem?_cons_succ, Nat.reduceAdd, Nat.reduceSub, Option.some.injEq, Sl.imm.injEq, Sl.own.injEq, Sl.scr.injEq, exists_eq_left, exists_eq_left', exists_eq_right, exists_eq, exists_eq', exists_and_left, and_assoc, and_true, true_and, ne_eq, not_false_eq_true, Nat.succ_ne_zero, or_true, true_or, true_implies, forall_eq', forall_eq, PyData.int.injEq, PyData.bool.injEq, PyData.list.injEq, PyData.tuple.injEq, List.cons.injEq, i_add, i_iadd, i_sub, i_mul, i_mod, i_fdiv, i_fdivG, i_pow, i_neg, i_le, i_ge, i_gt, i_lt, i_eq, i_ne, i_intI, i_intB, i_abs, i_max, i_min, i_lenL, i_lenT, i_ixL, i_ixT, i_tupL, i_tupT, i_truB, Bool.not_true, Bool.not_false, Bool.false_eq_true, if_true, if_false, reduceIte]
  have hlen : xs.length ≤ sizeLine := Nat.le_trans (by omega : xs.length ≤ 12) (by decide)
  have l1 : 1 ≤ xs.length := by omega
  rw [wLc_eq]
  simp only [wVar, wC, wOp, wUn, wCl, wB, wTr, wAnd, wOr, wNot, wAndV, wOrV, wNotV, wIf, wCh, wNil, wCons, wTup, wLe, wSz, wFn, wFnJ, wNext, wRet, wRetN, wDrop, wIfS, wSet, wSetOwn, wNever, wAug, wOpO, wOpR, wClO, wApp, wSetIt, wFrz, wFor, wRg1, wRg2, wSq, wEnum, wZip, wgN, wgT, wgNil, wgCons, wYes, wAsgT, wgLs, wLenS, wIxS, wFnS, wIsi, wListOf, wRev, edP, edJ, enP, enJ, enS, NotOwn, Flat, List.map_cons, List.map_nil, List.length_cons, List.length_nil, List.replicate_succ, List.replicate_zero, List.cons_append, List.nil_append, List.append_nil, List.set_cons_zero, List.set_cons_succ, List.getElem?_cons_zero, List.getElem?_cons_succ, Nat.reduceAdd, Nat.reduceSub, Option.some.injEq, Sl.imm.injEq, Sl.own.injEq, Sl.scr.injEq, exists_eq_left, exists_eq_left', exists_eq_right, exists_eq, exists_eq', exists_and_left, and_assoc, and_true, true_and, ne_eq, not_false_eq_true, Nat.succ_ne_zero, or_true, true_or, true_implies, forall_eq', forall_eq, PyData.int.injEq, PyData.bool.injEq, PyData.list.injEq, PyData.tuple.injEq, List.cons.injEq, i_add, i_iadd, i_sub, i_mul, i_mod, i_fdiv, i_fdivG, i_pow, i_neg, i_le, i_ge, i_gt, i_lt, i_eq, i_ne, i_intI, i_intB, i_abs, i_max, i_min, i_lenL, i_lenT, i_ixL, i_ixT, i_tupL, i_tupT, i_truB, Bool.not_true, Bool.not_false, Bool.false_eq_true, if_true, if_false, reduceIte]
  refine ⟨by omega, by omega, free_of (by decide), no1 h4, by rw [rngD_len]; exact Nat.le_trans (by omega : ((k : Nat) : Int).toNat ≤ 12) (by decide), ?_⟩
  refine more_loop n1 n2 _ [] g m c fun ms g m c m1 m2 => ?_
  rw [rngD_len, show ((k : Nat) : Int).toNat = k by omega] at m1
  rw [bak_set, List.nil_append]
  simp only [List.getD_cons_succ, List.getD_cons_zero, wVar, wC, wOp, wUn, wCl, wB, wTr, wAnd, wOr, wNot, wAndV, wOrV, wNotV, wIf, wCh, wNil, wCons, wTup, wLe, wSz, wFn, wFnJ, wNext, wRet, wRetN, wDrop, wIfS, wSet, wSetOwn, wNever, wAug, wOpO, wOpR, wClO, wApp, wSetIt, wFrz, wFor, wRg1, wRg2, wSq, wEnum, wZip, wgN, wgT, wgNil, wgCons, wYes, wAsgT, wgLs, wLenS, wIxS, wFnS, wIsi, wListOf, wRev, edP, edJ, enP, enJ, enS, NotOwn, Flat, List.map_cons, List.map_nil, List.length_cons, List.length_nil, List.replicate_succ, List.replicate_zero, List.cons_append, List.nil_append, List.append_nil, List.set_cons_zero, List.set_cons_succ, List.getElem?_cons_zero, List.getElem?_cons_succ, Nat.reduceAdd, Nat.reduceSub, Option.some.injEq, Sl.imm.injEq, Sl.own.injEq, Sl.scr.injEq, exists_eq_left, exists_eq_left', exists_eq_right, exists_eq, exists_eq', exists_and_left, and_assoc, and_true, true_and, ne_eq, not_false_eq_true, Nat.succ_ne_zero, or_true, true_or, true_implies, forall_eq', forall_eq, PyData.int.injEq, PyData.bool.injEq, PyData.list.injEq, PyData.tuple.injEq, List.cons.injEq, i_add, i_iadd, i_sub, i_mul, i_mod, i_fdiv, i_fdivG, i_pow, i_neg, i_le, i_ge, i_gt, i_lt, i_eq, i_ne, i_intI, i_intB, i_abs, i_max, i_min, i_lenL, i_lenT, i_ixL, i_ixT, i_tupL, i_tupT, i_truB, Bool.not_true, Bool.not_false, Bool.false_eq_true, if_true, if_false, reduceIte]
  have zlen : (xs.zip ms).length = k := by rw [List.length_zip]; omega
  have zin : ∀ z ∈ xs.zip ms, Ok0 z.1 ∧ Bn 1000 1000 z.2 := fun z hz => by
    obtain ⟨h1, h2⟩ := List.of_mem_zip (a := z.1) (b := z.2) hz
    exact ⟨hx _ h1, m2 _ h2⟩
  have b3 : ∀ {q : Rat}, Bn 1000 1000 q → Sm TN q := fun h => h.sm (by decide +kernel) (by decide +kernel)
  obtain ⟨y1, y2, y3⟩ := zip_sums xs ms (by omega)
  (try dsimp only); rw [wSeq_eq]; simp only [wVar, wC, wOp, wUn, wCl, wB, wTr, wAnd, wOr, wNot, wAndV, wOrV, wNotV, wIf, wCh, wNil, wCons, wTup, wLe, wSz, wFn, wFnJ, wNext, wRet, wRetN, wDrop, wIfS, wSet, wSetOwn, wNever, wAug, wOpO, wOpR, wClO, wApp, wSetIt, wFrz, wFor, wRg1, wRg2, wSq, wEnum, wZip, wgN, wgT, wgNil, wgCons, wYes, wAsgT, wgLs, wLenS, wIxS, wFnS, wIsi, wListOf, wRev, edP, edJ, enP, enJ, enS, NotOwn, Flat, List.map_cons, List.map_nil, List.length_cons, List.length_nil, List.replicate_succ, List.replicate_zero, List.cons_append, List.nil_append, List.append_nil, List.set_cons_zero, List.set_cons_succ, List.getElem?_cons_zero, List.getElem?_cons_succ, Nat.reduceAdd, Nat.reduceSub, Option.some.injEq, Sl.imm.injEq, Sl.own.injEq, Sl.scr.injEq, exists_eq_left, exists_eq_left', exists_eq_right, exists_eq, exists_eq', exists_and_left, and_assoc, and_true, true_and, ne_eq, not_false_eq_true, Nat.succ_ne_zero, or_true, true_or, true_implies, forall_eq', forall_eq, PyData.int.injEq, PyData.bool.injEq, PyData.list.injEq, PyData.tuple.injEq, List.cons.injEq, i_add, i_iadd, i_sub, i_mul, i_mod, i_fdiv, i_fdivG, i_pow, i_neg, i_le, i_ge, i_gt, i_lt, i_eq, i_ne, i_intI, i_intB, i_abs, i_max, i_min, i_lenL, i_lenT, i_ixL, i_ixT, i_tupL, i_tupT, i_truB, Bool.not_true, Bool.not_false, Bool.false_eq_true, if_true, if_false, reduceIte]
  have hz : ∀ {α : Type} (l : List α), l.length = k → l.length ≤ sizeLine := fun l h => Nat.le_trans (by omega : l.length ≤ 12) (by decide)
  refine lcY (X := fun z : Pr × Rat => .tuple [pr z.1, fr z.2]) (f := fun z => pr (z.1.1, z.1.2 + z.2)) (xs := xs.zip ms) (fun z => [.own [.int g, .int m, .int c], .imm (.int n), .imm (.int k), .imm (.list (xs.map pr)), s4, s5, .imm (fr (mn xs)), s7, s8, s9, .imm (.list (ms.map fr)), .un, .un, .imm (.int z.1.1), .imm (fr z.1.2), .imm (fr z.2), .un]) (by decide) (fun Q q => ⟨_, rfl, _, rfl, _, _, Or.inl rfl, by rw [zip_pr]; exact q⟩) (by exact no3 trivial trivial trivial) (hz _ zlen) (fun x => rfl) (fun z hz Q q => ?_) (fun z hz Q q => ?_) ?_
  · simp only [pr, wip, wVar, wC, wOp, wUn, wCl, wB, wTr, wAnd, wOr, wNot, wAndV, wOrV, wNotV, wIf, wCh, wNil, wCons, wTup, wLe, wSz, wFn, wFnJ, wNext, wRet, wRetN, wDrop, wIfS, wSet, wSetOwn, wNever, wAug, wOpO, wOpR, wClO, wApp, wSetIt, wFrz, wFor, wRg1, wRg2, wSq, wEnum, wZip, wgN, wgT, wgNil, wgCons, wYes, wAsgT, wgLs, wLenS, wIxS, wFnS, wIsi, wListOf, wRev, edP, edJ, enP, enJ, enS, NotOwn, Flat, List.map_cons, List.map_nil, List.length_cons, List.length_nil, List.replicate_succ, List.replicate_zero, List.cons_append, List.nil_append, List.append_nil, List.set_cons_zero, List.set_cons_succ, List.getElem?_cons_zero, List.getElem?_cons_succ, Nat.reduceAdd, Nat.reduceSub, Option.some.injEq, Sl.imm.injEq, Sl.own.injEq, Sl.scr.injEq, exists_eq_left, exists_eq_left', exists_eq_right, exists_eq, exists_eq', exists_and_left, and_assoc, and_true, true_and, ne_eq, not_false_eq_true, Nat.succ_ne_zero, or_true, true_or, true_implies, forall_eq', forall_eq, PyData.int.injEq, PyData.bool.injEq, PyData.list.injEq, PyData.tuple.injEq, List.cons.injEq, i_add, i_iadd, i_sub, i_mul, i_mod, i_fdiv, i_fdivG, i_pow, i_neg, i_le, i_ge, i_gt, i_lt, i_eq, i_ne, i_intI, i_intB, i_abs, i_max, i_min, i_lenL, i_lenT, i_ixL, i_ixT, i_tupL, i_tupT, i_truB, Bool.not_true, Bool.not_false, Bool.false_eq_true, if_true, if_false, reduceIte]
    exact q
  · simp only [wVar, wC, wOp, wUn, wCl, wB, wTr, wAnd, wOr, wNot, wAndV, wOrV, wNotV, wIf, wCh, wNil, wCons, wTup, wLe, wSz, wFn, wFnJ, wNext, wRet, wRetN, wDrop, wIfS, wSet, wSetOwn, wNever, wAug, wOpO, wOpR, wClO, wApp, wSetIt, wFrz, wFor, wRg1, wRg2, wSq, wEnum, wZip, wgN, wgT, wgNil, wgCons, wYes, wAsgT, wgLs, wLenS, wIxS, wFnS, wIsi, wListOf, wRev, edP, edJ, enP, enJ, enS, NotOwn, Flat, List.map_cons, List.map_nil, List.length_cons, List.length_nil, List.replicate_succ, List.replicate_zero, List.cons_append, List.nil_append, List.append_nil, List.set_cons_zero, List.set_cons_succ, List.getElem?_cons_zero, List.getElem?_cons_succ, Nat.reduceAdd, Nat.reduceSub, Option.some.injEq, Sl.imm.injEq, Sl.own.injEq, Sl.scr.injEq, exists_eq_left, exists_eq_left', exists_eq_right, exists_eq, exists_eq', exists_and_left, and_assoc, and_true, true_and, ne_eq, not_false_eq_true, Nat.succ_ne_zero, or_true, true_or, true_implies, forall_eq', forall_eq, PyData.int.injEq, PyData.bool.injEq, PyData.list.injEq, PyData.tuple.injEq, List.cons.injEq, i_add, i_iadd, i_sub, i_mul, i_mod, i_fdiv, i_fdivG, i_pow, i_neg, i_le, i_ge, i_gt, i_lt, i_eq, i_ne, i_intI, i_intB, i_abs, i_max, i_min, i_lenL, i_lenT, i_ixL, i_ixT, i_tupL, i_tupT, i_truB, Bool.not_true, Bool.not_false, Bool.false_eq_true, if_true, if_false, reduceIte]
    obtain ⟨h1, h2⟩ := zin z hz
    exact ⟨_, _, rfl, b3 h1.2.2, b3 h2, by decide, q⟩
  obtain ⟨ys, hys⟩ : ∃ ys : List Pr, ys = (xs.zip ms).map fun z => (z.1.1, z.1.2 + z.2) := ⟨_, rfl⟩
  obtain ⟨zs, hzs⟩ : ∃ zs : List Pr, zs = (xs.zip ms).map fun z => (z.1.1, z.2) := ⟨_, rfl⟩
  have ey : ((xs.zip ms).map fun z => pr (z.1.1, z.1.2 + z.2)) = ys.map pr := by rw [hys, List.map_map]; rfl
  have ez : ((xs.zip ms).map fun z => pr (z.1.1, z.2)) = zs.map pr := by rw [hzs, List.map_map]; rfl
  rw [← hys] at y1 y3
  rw [← hzs] at y2 y3
  have oy : ∀ x ∈ ys, Ok1 x := fun x hx' => by
    rw [hys] at hx'
    obtain ⟨z, hz, rfl⟩ := List.mem_map.mp hx'
    obtain ⟨h1, h2⟩ := zin z hz
    exact ⟨h1.1, h1.2.1, (bn_add h1.2.2 h2).up (by decide +kernel) (by decide +kernel)⟩
  have oz : ∀ x ∈ zs, Ok0 x := fun x hx' => by
    rw [hzs] at hx'
    obtain ⟨z, hz, rfl⟩ := List.mem_map.mp hx'
    obtain ⟨h1, h2⟩ := zin z hz
    exact ⟨h1.1, h1.2.1, h2⟩
  have ly : ys.length = k := by rw [hys, List.length_map, zlen]
  have lz : zs.length = k := by rw [hzs, List.length_map, zlen]
  rw [ey]
  refine mean_q oy (by omega) (by omega) ?_
  simp only [wVar, wC, wOp, wUn, wCl, wB, wTr, wAnd, wOr, wNot, wAndV, wOrV, wNotV, wIf, wCh, wNil, wCons, wTup, wLe, wSz, wFn, wFnJ, wNext, wRet, wRetN, wDrop, wIfS, wSet, wSetOwn, wNever, wAug, wOpO, wOpR, wClO, wApp, wSetIt, wFrz, wFor, wRg1, wRg2, wSq, wEnum, wZip, wgN, wgT, wgNil, wgCons, wYes, wAsgT, wgLs, wLenS, wIxS, wFnS, wIsi, wListOf, wRev, edP, edJ, enP, enJ, enS, NotOwn, Flat, List.map_cons, List.map_nil, List.length_cons, List.length_nil, List.replicate_succ, List.replicate_zero, List.cons_append, List.nil_append, List.append_nil, List.set_cons_zero, List.set_cons_succ, List.getElem?_cons_zero, List.getElem?_cons_succ, Nat.reduceAdd, Nat.reduceSub, Option.some.injEq, Sl.imm.injEq, Sl.own.injEq, Sl.scr.injEq, exists_eq_left, exists_eq_left', exists_eq_right, exists_eq, exists_eq', exists_and_left, and_assoc, and_true, true_and, ne_eq, not_false_eq_true, Nat.succ_ne_zero, or_true, true_or, true_implies, forall_eq', forall_eq, PyData.int.injEq, PyData.bool.injEq, PyData.list.injEq, PyData.tuple.injEq, List.cons.injEq, i_add, i_iadd, i_sub, i_mul, i_mod, i_fdiv, i_fdivG, i_pow, i_neg, i_le, i_ge, i_gt, i_lt, i_eq, i_ne, i_intI, i_intB, i_abs, i_max, i_min, i_lenL, i_lenT, i_ixL, i_ixT, i_tupL, i_tupT, i_truB, Bool.not_true, Bool.not_false, Bool.false_eq_true, if_true, if_false, reduceIte]
  (try dsimp only); rw [wSeq_eq]; simp only [wVar, wC, wOp, wUn, wCl, wB, wTr, wAnd, wOr, wNot, wAndV, wOrV, wNotV, wIf, wCh, wNil, wCons, wTup, wLe, wSz, wFn, wFnJ, wNext, wRet, wRetN, wDrop, wIfS, wSet, wSetOwn, wNever, wAug, wOpO, wOpR, wClO, wApp, wSetIt, wFrz, wFor, wRg1, wRg2, wSq, wEnum, wZip, wgN, wgT, wgNil, wgCons, wYes, wAsgT, wgLs, wLenS, wIxS, wFnS, wIsi, wListOf, wRev, edP, edJ, enP, enJ, enS, NotOwn, Flat, List.map_cons, List.map_nil, List.length_cons, List.length_nil, List.replicate_succ, List.replicate_zero, List.cons_append, List.nil_append, List.append_nil, List.set_cons_zero, List.set_cons_succ, List.getElem?_cons_zero, List.getElem?_cons_succ, Nat.reduceAdd, Nat.reduceSub, Option.some.injEq, Sl.imm.injEq, Sl.own.injEq, Sl.scr.injEq, exists_eq_left, exists_eq_left', exists_eq_right, exists_eq, exists_eq', exists_and_left, and_assoc, and_true, true_and, ne_eq, not_false_eq_true, Nat.succ_ne_zero, or_true, true_or, true_implies, forall_eq', forall_eq, PyData.int.injEq, PyData.bool.injEq, PyData.list.injEq, PyData.tuple.injEq, List.cons.injEq, i_add, i_iadd, i_sub, i_mul, i_mod, i_fdiv, i_fdivG, i_pow, i_neg, i_le, i_ge, i_gt, i_lt, i_eq, i_ne, i_intI, i_intB, i_abs, i_max, i_min, i_lenL, i_lenT, i_ixL, i_ixT, i_tupL, i_tupT, i_truB, Bool.not_true, Bool.not_false, Bool.false_eq_true, if_true, if_false, reduceIte]
  refine lcY (X := fun z : Pr × Rat => .tuple [pr z.1, fr z.2]) (f := fun z => pr (z.1.1, z.2)) (xs := xs.zip ms) (fun z => [.own [.int g, .int m, .int c], .imm (.int n), .imm (.int k), .imm (.list (xs.map pr)), s4, s5, .imm (fr (mn xs)), s7, s8, s9, .imm (.list (ms.map fr)), .imm (fr (mn ys)), .un, .un, .un, .imm (fr z.2), .imm (pr z.1)]) (by decide) (fun Q q => ⟨_, rfl, _, rfl, _, _, Or.inl rfl, by rw [zip_pr]; exact q⟩) (by exact no2 trivial trivial) (hz _ zlen) (fun x => rfl) (fun z hz Q q => ?_) (fun z hz Q q => ?_) ?_
  · simp only [wip, wVar, wC, wOp, wUn, wCl, wB, wTr, wAnd, wOr, wNot, wAndV, wOrV, wNotV, wIf, wCh, wNil, wCons, wTup, wLe, wSz, wFn, wFnJ, wNext, wRet, wRetN, wDrop, wIfS, wSet, wSetOwn, wNever, wAug, wOpO, wOpR, wClO, wApp, wSetIt, wFrz, wFor, wRg1, wRg2, wSq, wEnum, wZip, wgN, wgT, wgNil, wgCons, wYes, wAsgT, wgLs, wLenS, wIxS, wFnS, wIsi, wListOf, wRev, edP, edJ, enP, enJ, enS, NotOwn, Flat, List.map_cons, List.map_nil, List.length_cons, List.length_nil, List.replicate_succ, List.replicate_zero, List.cons_append, List.nil_append, List.append_nil, List.set_cons_zero, List.set_cons_succ, List.getElem?_cons_zero, List.getElem?_cons_succ, Nat.reduceAdd, Nat.reduceSub, Option.some.injEq, Sl.imm.injEq, Sl.own.injEq, Sl.scr.injEq, exists_eq_left, exists_eq_left', exists_eq_right, exists_eq, exists_eq', exists_and_left, and_assoc, and_true, true_and, ne_eq, not_false_eq_true, Nat.succ_ne_zero, or_true, true_or, true_implies, forall_eq', forall_eq, PyData.int.injEq, PyData.bool.injEq, PyData.list.injEq, PyData.tuple.injEq, List.cons.injEq, i_add, i_iadd, i_sub, i_mul, i_mod, i_fdiv, i_fdivG, i_pow, i_neg, i_le, i_ge, i_gt, i_lt, i_eq, i_ne, i_intI, i_intB, i_abs, i_max, i_min, i_lenL, i_lenT, i_ixL, i_ixT, i_tupL, i_tupT, i_truB, Bool.not_true, Bool.not_false, Bool.false_eq_true, if_true, if_false, reduceIte]
    exact q
  · simp only [i_pr0, wVar, wC, wOp, wUn, wCl, wB, wTr, wAnd, wOr, wNot, wAndV, wOrV, wNotV, wIf, wCh, wNil, wCons, wTup, wLe, wSz, wFn, wFnJ, wNext, wRet, wRetN, wDrop, wIfS, wSet, wSetOwn, wNever, wAug, wOpO, wOpR, wClO, wApp, wSetIt, wFrz, wFor, wRg1, wRg2, wSq, wEnum, wZip, wgN, wgT, wgNil, wgCons, wYes, wAsgT, wgLs, wLenS, wIxS, wFnS, wIsi, wListOf, wRev, edP, edJ, enP, enJ, enS, NotOwn, Flat, List.map_cons, List.map_nil, List.length_cons, List.length_nil, List.replicate_succ, List.replicate_zero, List.cons_append, List.nil_append, List.append_nil, List.set_cons_zero, List.set_cons_succ, List.getElem?_cons_zero, List.getElem?_cons_succ, Nat.reduceAdd, Nat.reduceSub, Option.some.injEq, Sl.imm.injEq, Sl.own.injEq, Sl.scr.injEq, exists_eq_left, exists_eq_left', exists_eq_right, exists_eq, exists_eq', exists_and_left, and_assoc, and_true, true_and, ne_eq, not_false_eq_true, Nat.succ_ne_zero, or_true, true_or, true_implies, forall_eq', forall_eq, PyData.int.injEq, PyData.bool.injEq, PyData.list.injEq, PyData.tuple.injEq, List.cons.injEq, i_add, i_iadd, i_sub, i_mul, i_mod, i_fdiv, i_fdivG, i_pow, i_neg, i_le, i_ge, i_gt, i_lt, i_eq, i_ne, i_intI, i_intB, i_abs, i_max, i_min, i_lenL, i_lenT, i_ixL, i_ixT, i_tupL, i_tupT, i_truB, Bool.not_true, Bool.not_false, Bool.false_eq_true, if_true, if_false, reduceIte]
    exact ⟨by decide, q⟩
  rw [ez]
  refine mean_q (fun x h => (oz x h).ok1) (by omega) (by omega) ?_
  have tz : Sm TN (mn zs) := ok0_way oz (by omega)
  refine ⟨_, _, rfl, tm, tz, ?_⟩
  rw [← mn_add (y1.symm) (y1.symm.trans y2) y3]
  simp only [i_neF, not_true_eq_false, decide_false, wVar, wC, wOp, wUn, wCl, wB, wTr, wAnd, wOr, wNot, wAndV, wOrV, wNotV, wIf, wCh, wNil, wCons, wTup, wLe, wSz, wFn, wFnJ, wNext, wRet, wRetN, wDrop, wIfS, wSet, wSetOwn, wNever, wAug, wOpO, wOpR, wClO, wApp, wSetIt, wFrz, wFor, wRg1, wRg2, wSq, wEnum, wZip, wgN, wgT, wgNil, wgCons, wYes, wAsgT, wgLs, wLenS, wIxS, wFnS, wIsi, wListOf, wRev, edP, edJ, enP, enJ, enS, NotOwn, Flat, List.map_cons, List.map_nil, List.length_cons, List.length_nil, List.replicate_succ, List.replicate_zero, List.cons_append, List.nil_append, List.append_nil, List.set_cons_zero, List.set_cons_succ, List.getElem?_cons_zero, List.getElem?_cons_succ, Nat.reduceAdd, Nat.reduceSub, Option.some.injEq, Sl.imm.injEq, Sl.own.injEq, Sl.scr.injEq, exists_eq_left, exists_eq_left', exists_eq_right, exists_eq, exists_eq', exists_and_left, and_assoc, and_true, true_and, ne_eq, not_false_eq_true, Nat.succ_ne_zero, or_true, true_or, true_implies, forall_eq', forall_eq, PyData.int.injEq, PyData.bool.injEq, PyData.list.injEq, PyData.tuple.injEq, List.cons.injEq, i_add, i_iadd, i_sub, i_mul, i_mod, i_fdiv, i_fdivG, i_pow, i_neg, i_le, i_ge, i_gt, i_lt, i_eq, i_ne, i_intI, i_intB, i_abs, i_max, i_min, i_lenL, i_lenT, i_ixL, i_ixT, i_tupL, i_tupT, i_truB, Bool.not_true, Bool.not_false, Bool.false_eq_true, if_true, if_false, reduceIte]
  (try dsimp only); rw [wSeq_eq]; simp only [wf__law_ta_fraction, wVar, wC, wOp, wUn, wCl, wB, wTr, wAnd, wOr, wNot, wAndV, wOrV, wNotV, wIf, wCh, wNil, wCons, wTup, wLe, wSz, wFn, wFnJ, wNext, wRet, wRetN, wDrop, wIfS, wSet, wSetOwn, wNever, wAug, wOpO, wOpR, wClO, wApp, wSetIt, wFrz, wFor, wRg1, wRg2, wSq, wEnum, wZip, wgN, wgT, wgNil, wgCons, wYes, wAsgT, wgLs, wLenS, wIxS, wFnS, wIsi, wListOf, wRev, edP, edJ, enP, enJ, enS, NotOwn, Flat, List.map_cons, List.map_nil, List.length_cons, List.length_nil, List.replicate_succ, List.replicate_zero, List.cons_append, List.nil_append, List.append_nil, List.set_cons_zero, List.set_cons_succ, List.getElem?_cons_zero, List.getElem?_cons_succ, Nat.reduceAdd, Nat.reduceSub, Option.some.injEq, Sl.imm.injEq, Sl.own.injEq, Sl.scr.injEq, exists_eq_left, exists_eq_left', exists_eq_right, exists_eq, exists_eq', exists_and_left, and_assoc, and_true, true_and, ne_eq, not_false_eq_true, Nat.succ_ne_zero, or_true, true_or, true_implies, forall_eq', forall_eq, PyData.int.injEq, PyData.bool.injEq, PyData.list.injEq, PyData.tuple.injEq, List.cons.injEq, i_add, i_iadd, i_sub, i_mul, i_mod, i_fdiv, i_fdivG, i_pow, i_neg, i_le, i_ge, i_gt, i_lt, i_eq, i_ne, i_intI, i_intB, i_abs, i_max, i_min, i_lenL, i_lenT, i_ixL, i_ixT, i_tupL, i_tupT, i_truB, Bool.not_true, Bool.not_false, Bool.false_eq_true, if_true, if_false, reduceIte]
  refine ⟨by decide, by decide +kernel, fun f g m c f1 f2 => ?_⟩
  have bf : Bn 30 30 f := ⟨by omega, by omega⟩
  have sf : Sm TN f := bf.sm (by decide +kernel) (by decide +kernel)
  obtain ⟨us, hus⟩ : ∃ us : List Pr, us = xs.map fun x => (x.1, f * x.2) := ⟨_, rfl⟩
  obtain ⟨u1, u2⟩ := fac_sums f xs
  rw [← hus] at u1 u2
  have eu : (xs.map fun x => pr (x.1, f * x.2)) = us.map pr := by rw [hus, List.map_map]; rfl
  have ou : ∀ x ∈ us, Ok1 x := fun x hx' => by
    rw [hus] at hx'
    obtain ⟨z, hz, rfl⟩ := List.mem_map.mp hx'
    have h1 := hx z hz
    exact ⟨h1.1, h1.2.1, (bn_mul bf h1.2.2).up (by decide +kernel) (by decide +kernel)⟩
  have lu : us.length = k := by rw [hus, List.length_map, hx1]
  refine lcY (X := pr) (f := fun x => pr (x.1, f * x.2)) (xs := xs) (fun x => [.own [.int g, .int m, .int c], .imm (.int n), .imm (.int k), .imm (.list (xs.map pr)), s4, s5, .imm (fr (mn xs)), s7, s8, s9, .imm (.list (ms.map fr)), .imm (fr (mn ys)), .imm (fr f), .imm (.int x.1), .imm (fr x.2), .un, .un]) (by decide) (fun Q q => ⟨_, rfl, _, Or.inl rfl, q⟩) (no2 trivial trivial) hlen (fun x => rfl) (fun x hx Q q => ?_) (fun x hx' Q q => ?_) ?_
  · simp only [pr, wip, wVar, wC, wOp, wUn, wCl, wB, wTr, wAnd, wOr, wNot, wAndV, wOrV, wNotV, wIf, wCh, wNil, wCons, wTup, wLe, wSz, wFn, wFnJ, wNext, wRet, wRetN, wDrop, wIfS, wSet, wSetOwn, wNever, wAug, wOpO, wOpR, wClO, wApp, wSetIt, wFrz, wFor, wRg1, wRg2, wSq, wEnum, wZip, wgN, wgT, wgNil, wgCons, wYes, wAsgT, wgLs, wLenS, wIxS, wFnS, wIsi, wListOf, wRev, edP, edJ, enP, enJ, enS, NotOwn, Flat, List.map_cons, List.map_nil, List.length_cons, List.length_nil, List.replicate_succ, List.replicate_zero, List.cons_append, List.nil_append, List.append_nil, List.set_cons_zero, List.set_cons_succ, List.getElem?_cons_zero, List.getElem?_cons_succ, Nat.reduceAdd, Nat.reduceSub, Option.some.injEq, Sl.imm.injEq, Sl.own.injEq, Sl.scr.injEq, exists_eq_left, exists_eq_left', exists_eq_right, exists_eq, exists_eq', exists_and_left, and_assoc, and_true, true_and, ne_eq, not_false_eq_true, Nat.succ_ne_zero, or_true, true_or, true_implies, forall_eq', forall_eq, PyData.int.injEq, PyData.bool.injEq, PyData.list.injEq, PyData.tuple.injEq, List.cons.injEq, i_add, i_iadd, i_sub, i_mul, i_mod, i_fdiv, i_fdivG, i_pow, i_neg, i_le, i_ge, i_gt, i_lt, i_eq, i_ne, i_intI, i_intB, i_abs, i_max, i_min, i_lenL, i_lenT, i_ixL, i_ixT, i_tupL, i_tupT, i_truB, Bool.not_true, Bool.not_false, Bool.false_eq_true, if_true, if_false, reduceIte]
    exact q
  · simp only [wVar, wC, wOp, wUn, wCl, wB, wTr, wAnd, wOr, wNot, wAndV, wOrV, wNotV, wIf, wCh, wNil, wCons, wTup, wLe, wSz, wFn, wFnJ, wNext, wRet, wRetN, wDrop, wIfS, wSet, wSetOwn, wNever, wAug, wOpO, wOpR, wClO, wApp, wSetIt, wFrz, wFor, wRg1, wRg2, wSq, wEnum, wZip, wgN, wgT, wgNil, wgCons, wYes, wAsgT, wgLs, wLenS, wIxS, wFnS, wIsi, wListOf, wRev, edP, edJ, enP, enJ, enS, NotOwn, Flat, List.map_cons, List.map_nil, List.length_cons, List.length_nil, List.replicate_succ, List.replicate_zero, List.cons_append, List.nil_append, List.append_nil, List.set_cons_zero, List.set_cons_succ, List.getElem?_cons_zero, List.getElem?_cons_succ, Nat.reduceAdd, Nat.reduceSub, Option.some.injEq, Sl.imm.injEq, Sl.own.injEq, Sl.scr.injEq, exists_eq_left, exists_eq_left', exists_eq_right, exists_eq, exists_eq', exists_and_left, and_assoc, and_true, true_and, ne_eq, not_false_eq_true, Nat.succ_ne_zero, or_true, true_or, true_implies, forall_eq', forall_eq, PyData.int.injEq, PyData.bool.injEq, PyData.list.injEq, PyData.tuple.injEq, List.cons.injEq, i_add, i_iadd, i_sub, i_mul, i_mod, i_fdiv, i_fdivG, i_pow, i_neg, i_le, i_ge, i_gt, i_lt, i_eq, i_ne, i_intI, i_intB, i_abs, i_max, i_min, i_lenL, i_lenT, i_ixL, i_ixT, i_tupL, i_tupT, i_truB, Bool.not_true, Bool.not_false, Bool.false_eq_true, if_true, if_false, reduceIte]
    exact ⟨_, _, rfl, sf, b3 (hx x hx').2.2, by decide, q⟩
  rw [eu]
  refine mean_q ou (by omega) (by omega) ?_
  refine ⟨_, rfl, _, rfl, _, _, rfl, sf, tm, ?_⟩
  rw [← mn_mul u1 u2]
  refine ⟨_, i_eqF.mpr rfl, fun dj hd => ?_⟩
  cases hd
  rw [decide_eq_true rfl]
  exact fin g m c
theorem pu__law_right (dj ds Q) (hl : ds.length + 1 = 1) (h : wf__law_right dj ds Q) : ws__law_right (edJ Q) (enJ N__law_right dj ds) := by
  obtain ⟨g, m, c, rfl, rfl, fin⟩ := h
  unfold ws__law_right
  (try dsimp only); rw [wSeq_eq]; simp only [N__law_right, wf__law_sip, wf__law_pour, wVar, wC, wOp, wUn, wCl, wB, wTr, wAnd, wOr, wNot, wAndV, wOrV, wNotV, wIf, wCh, wNil, wCons, wTup, wLe, wSz, wFn, wFnJ, wNext, wRet, wRetN, wDrop, wIfS, wSet, wSetOwn, wNever, wAug, wOpO, wOpR, wClO, wApp, wSetIt, wFrz, wFor, wRg1, wRg2, wSq, wEnum, wZip, wgN, wgT, wgNil, wgCons, wYes, wAsgT, wgLs, wLenS, wIxS, wFnS, wIsi, wListOf, wRev, edP, edJ, enP, enJ, enS, NotOwn, Flat, List.map_cons, List.map_nil, List.length_cons, List.length_nil, List.replicate_succ, List.replicate_zero, List.cons_append, List.nil_append, List.append_nil, List.set_cons_zero, List.set_cons_succ, List.getElem?_cons_zero, List.getElem?_cons_succ, Nat.reduceAdd, Nat.reduceSub, Option.some.injEq, Sl.imm.injEq, Sl.own.injEq, Sl.scr.injEq, exists_eq_left, exists_eq_left', exists_eq_right, exists_eq, exists_eq', exists_and_left, and_assoc, and_true, true_and, ne_eq, not_false_eq_true, Nat.succ_ne_zero, or_true, true_or, true_implies, forall_eq', forall_eq, PyData.int.injEq, PyData.bool.injEq, PyData.list.injEq, PyData.tuple.injEq, List.cons.injEq, i_add, i_iadd, i_sub, i_mul, i_mod, i_fdiv, i_fdivG, i_pow, i_neg, i_le, i_ge, i_gt, i_lt, i_eq, i_ne, i_intI, i_intB, i_abs, i_max, i_min, i_lenL, i_lenT, i_ixL, i_ixT, i_tupL, i_tupT, i_truB, Bool.not_true, Bool.not_false, Bool.false_eq_true, if_true, if_false, reduceIte]
  refine ⟨by decide, by simp, by decide, fun x hx g m c => ?_⟩
  have hn : ∃ n : Int, x = .int n ∧ 0 < n ∧ n ≤ 1000 := by
    simp only [List.mem_cons, List.not_mem_nil, or_false] at hx
    rcases hx with rfl | rfl | rfl | rfl <;> exact ⟨_, rfl, by decide, by decide⟩
  clear hx
  obtain ⟨n, rfl, n1, n2⟩ := hn
  refine ⟨by decide, log_lt (by decide) (by decide), fun r g m c r1 r2 => ?_⟩
  obtain ⟨k, hk, k1, k2⟩ : ∃ k : Nat, 1 + r = (k : Int) ∧ 1 ≤ k ∧ k ≤ 12 := ⟨(1 + r).toNat, by omega, by omega, by omega⟩
  rw [hk]
  clear hk r1 r2
  refine ⟨by decide, ?_⟩
  (try dsimp only); rw [wSeq_eq]; simp only [wVar, wC, wOp, wUn, wCl, wB, wTr, wAnd, wOr, wNot, wAndV, wOrV, wNotV, wIf, wCh, wNil, wCons, wTup, wLe, wSz, wFn, wFnJ, wNext, wRet, wRetN, wDrop, wIfS, wSet, wSetOwn, wNever, wAug, wOpO, wOpR, wClO, wApp, wSetIt, wFrz, wFor, wRg1, wRg2, wSq, wEnum, wZip, wgN, wgT, wgNil, wgCons, wYes, wAsgT, wgLs, wLenS, wIxS, wFnS, wIsi, wListOf, wRev, edP, edJ, enP, enJ, enS, NotOwn, Flat, List.map_cons, List.map_nil, List.length_cons, List.length_nil, List.replicate_succ, List.replicate_zero, List.cons_append, List.nil_append, List.append_nil, List.set_cons_zero, List.set_cons_succ, List.getElem?_cons_zero, List.getElem?_cons_succ, Nat.reduceAdd, Nat.reduceSub, Option.some.injEq, Sl.imm.injEq, Sl.own.injEq, Sl.scr.injEq, exists_eq_left, exists_eq_left', exists_eq_right, exists_eq, exists_eq', exists_and_left, and_assoc, and_true, true_and, ne_eq, not_false_eq_true, Nat.succ_ne_zero, or_true, true_or, true_implies, forall_eq', forall_eq, PyData.int.injEq, PyData.bool.injEq, PyData.list.injEq, PyData.tuple.injEq, List.cons.injEq, i_add, i_iadd, i_sub, i_mul, i_mod, i_fdiv, i_fdivG, i_pow, i_neg, i_le, i_ge, i_gt, i_lt, i_eq, i_ne, i_intI, i_intB, i_abs, i_max, i_min, i_lenL, i_lenT, i_ixL, i_ixT, i_tupL, i_tupT, i_truB, Bool.not_true, Bool.not_false, Bool.false_eq_true, if_true, if_false, reduceIte]
  refine ⟨by decide, ?_⟩
  (try dsimp only); rw [wSeq_eq]; simp only [wVar, wC, wOp, wUn, wCl, wB, wTr, wAnd, wOr, wNot, wAndV, wOrV, wNotV, wIf, wCh, wNil, wCons, wTup, wLe, wSz, wFn, wFnJ, wNext, wRet, wRetN, wDrop, wIfS, wSet, wSetOwn, wNever, wAug, wOpO, wOpR, wClO, wApp, wSetIt, wFrz, wFor, wRg1, wRg2, wSq, wEnum, wZip, wgN, wgT, wgNil, wgCons, wYes, wAsgT, wgLs, wLenS, wIxS, wFnS, wIsi, wListOf, wRev, edP, edJ, enP, enJ, enS, NotOwn, Flat, List.map_cons, List.map_nil, List.length_cons, List.length_nil, List.replicate_succ, List.replicate_zero, List.cons_append, List.nil_append, List.append_nil, List.set_cons_zero, List.set_cons_succ, List.getElem?_cons_zero, List.getElem?_cons_succ, Nat.reduceAdd, Nat.reduceSub, Option.some.injEq, Sl.imm.injEq, Sl.own.injEq, Sl.scr.injEq, exists_eq_left, exists_eq_left', exists_eq_right, exists_eq, exists_eq', exists_and_left, and_assoc, and_true, true_and, ne_eq, not_false_eq_true, Nat.succ_ne_zero, or_true, true_or, true_implies, forall_eq', forall_eq, PyData.int.injEq, PyData.bool.injEq, PyData.list.injEq, PyData.tuple.injEq, List.cons.injEq, i_add, i_iadd, i_sub, i_mul, i_mod, i_fdiv, i_fdivG, i_pow, i_neg, i_le, i_ge, i_gt, i_lt, i_eq, i_ne, i_intI, i_intB, i_abs, i_max, i_min, i_lenL, i_lenT, i_ixL, i_ixT, i_tupL, i_tupT, i_truB, Bool.not_true, Bool.not_false, Bool.false_eq_true, if_true, if_false, reduceIte]
  refine ⟨by omega, by omega, ?_⟩
  refine pairs_loop n1 n2 _ [] g m c _ trivial (by rw [rngD_len]; simp; omega) fun xs g m c s4 h4 hx1 hx => ?_
  rw [rngD_len, show ((k : Nat) : Int).toNat = k by omega] at hx1
  rw [List.nil_append]
  simp only [wVar, wC, wOp, wUn, wCl, wB, wTr, wAnd, wOr, wNot, wAndV, wOrV, wNotV, wIf, wCh, wNil, wCons, wTup, wLe, wSz, wFn, wFnJ, wNext, wRet, wRetN, wDrop, wIfS, wSet, wSetOwn, wNever, wAug, wOpO, wOpR, wClO, wApp, wSetIt, wFrz, wFor, wRg1, wRg2, wSq, wEnum, wZip, wgN, wgT, wgNil, wgCons, wYes, wAsgT, wgLs, wLenS, wIxS, wFnS, wIsi, wListOf, wRev, edP, edJ, enP, enJ, enS, NotOwn, Flat, List.map_cons, List.map_nil, List.length_cons, List.length_nil, List.replicate_succ, List.replicate_zero, List.cons_append, List.nil_append, List.append_nil, List.set_cons_zero, List.set_cons_succ, List.getElem?_cons_zero, List.getElem?_cons_succ, Nat.reduceAdd, Nat.reduceSub, Option.some.injEq, Sl.imm.injEq, Sl.own.injEq, Sl.scr.injEq, exists_eq_left, exists_eq_left', exists_eq_right, exists_eq, exists_eq', exists_and_left, and_assoc, and_true, true_and, ne_eq, not_false_eq_true, Nat.succ_ne_zero, or_true, true_or, true_implies, forall_eq', forall_eq, PyData.int.injEq, PyData.bool.injEq, PyData.list.injEq, PyData.tuple.injEq, List.cons.injEq, i_add, i_iadd, i_sub, i_mul, i_mod, i_fdiv, i_fdivG, i_pow, i_neg, i_le, i_ge, i_gt, i_lt, i_eq, i_ne, i_intI, i_intB, i_abs, i_max, i_min, i_lenL, i_lenT, i_ixL, i_ixT, i_tupL, i_tupT, i_truB, Bool.not_true, Bool.not_false, Bool.false_eq_true, if_true, if_false, reduceIte]
  have hlen : xs.length ≤ sizeLine := Nat.le_trans (by omega : xs.length ≤ 12) (by decide)
  have ho1 : ∀ x ∈ xs, Ok1 x := fun x h => (hx x h).ok1
  have l1 : 1 ≤ xs.length := by omega
  (try dsimp only); rw [wSeq_eq]; simp only [wPar, wVar, wC, wOp, wUn, wCl, wB, wTr, wAnd, wOr, wNot, wAndV, wOrV, wNotV, wIf, wCh, wNil, wCons, wTup, wLe, wSz, wFn, wFnJ, wNext, wRet, wRetN, wDrop, wIfS, wSet, wSetOwn, wNever, wAug, wOpO, wOpR, wClO, wApp, wSetIt, wFrz, wFor, wRg1, wRg2, wSq, wEnum, wZip, wgN, wgT, wgNil, wgCons, wYes, wAsgT, wgLs, wLenS, wIxS, wFnS, wIsi, wListOf, wRev, edP, edJ, enP, enJ, enS, NotOwn, Flat, List.map_cons, List.map_nil, List.length_cons, List.length_nil, List.replicate_succ, List.replicate_zero, List.cons_append, List.nil_append, List.append_nil, List.set_cons_zero, List.set_cons_succ, List.getElem?_cons_zero, List.getElem?_cons_succ, Nat.reduceAdd, Nat.reduceSub, Option.some.injEq, Sl.imm.injEq, Sl.own.injEq, Sl.scr.injEq, exists_eq_left, exists_eq_left', exists_eq_right, exists_eq, exists_eq', exists_and_left, and_assoc, and_true, true_and, ne_eq, not_false_eq_true, Nat.succ_ne_zero, or_true, true_or, true_implies, forall_eq', forall_eq, PyData.int.injEq, PyData.bool.injEq, PyData.list.injEq, PyData.tuple.injEq, List.cons.injEq, i_add, i_iadd, i_sub, i_mul, i_mod, i_fdiv, i_fdivG, i_pow, i_neg, i_le, i_ge, i_gt, i_lt, i_eq, i_ne, i_intI, i_intB, i_abs, i_max, i_min, i_lenL, i_lenT, i_ixL, i_ixT, i_tupL, i_tupT, i_truB, Bool.not_true, Bool.not_false, Bool.false_eq_true, if_true, if_false, reduceIte]
  refine lcY (X := pr) (f := fun x => fr x.2) (fun x => [.own [.int g, .int m, .int c], .imm (.int n), .imm (.int k), .imm (.list (xs.map pr)), s4, .un, .un, .un, .un, .un, .un, .un, .un, .imm (.int x.1), .imm (fr x.2), .un, .un]) (by decide) (fun Q q => ⟨_, rfl, _, Or.inl rfl, q⟩) (no2 trivial trivial) hlen (fun x => rfl) (fun x hx Q q => ?_) (fun x hx Q q => ?_) ?_
  · simp only [pr, wip, wVar, wC, wOp, wUn, wCl, wB, wTr, wAnd, wOr, wNot, wAndV, wOrV, wNotV, wIf, wCh, wNil, wCons, wTup, wLe, wSz, wFn, wFnJ, wNext, wRet, wRetN, wDrop, wIfS, wSet, wSetOwn, wNever, wAug, wOpO, wOpR, wClO, wApp, wSetIt, wFrz, wFor, wRg1, wRg2, wSq, wEnum, wZip, wgN, wgT, wgNil, wgCons, wYes, wAsgT, wgLs, wLenS, wIxS, wFnS, wIsi, wListOf, wRev, edP, edJ, enP, enJ, enS, NotOwn, Flat, List.map_cons, List.map_nil, List.length_cons, List.length_nil, List.replicate_succ, List.replicate_zero, List.cons_append, List.nil_append, List.append_nil, List.set_cons_zero, List.set_cons_succ, List.getElem?_cons_zero, List.getElem?_cons_succ, Nat.reduceAdd, Nat.reduceSub, Option.some.injEq, Sl.imm.injEq, Sl.own.injEq, Sl.scr.injEq, exists_eq_left, exists_eq_left', exists_eq_right, exists_eq, exists_eq', exists_and_left, and_assoc, and_true, true_and, ne_eq, not_false_eq_true, Nat.succ_ne_zero, or_true, true_or, true_implies, forall_eq', forall_eq, PyData.int.injEq, PyData.bool.injEq, PyData.list.injEq, PyData.tuple.injEq, List.cons.injEq, i_add, i_iadd, i_sub, i_mul, i_mod, i_fdiv, i_fdivG, i_pow, i_neg, i_le, i_ge, i_gt, i_lt, i_eq, i_ne, i_intI, i_intB, i_abs, i_max, i_min, i_lenL, i_lenT, i_ixL, i_ixT, i_tupL, i_tupT, i_truB, Bool.not_true, Bool.not_false, Bool.false_eq_true, if_true, if_false, reduceIte]
    exact q
  · simp only [wVar, wC, wOp, wUn, wCl, wB, wTr, wAnd, wOr, wNot, wAndV, wOrV, wNotV, wIf, wCh, wNil, wCons, wTup, wLe, wSz, wFn, wFnJ, wNext, wRet, wRetN, wDrop, wIfS, wSet, wSetOwn, wNever, wAug, wOpO, wOpR, wClO, wApp, wSetIt, wFrz, wFor, wRg1, wRg2, wSq, wEnum, wZip, wgN, wgT, wgNil, wgCons, wYes, wAsgT, wgLs, wLenS, wIxS, wFnS, wIsi, wListOf, wRev, edP, edJ, enP, enJ, enS, NotOwn, Flat, List.map_cons, List.map_nil, List.length_cons, List.length_nil, List.replicate_succ, List.replicate_zero, List.cons_append, List.nil_append, List.append_nil, List.set_cons_zero, List.set_cons_succ, List.getElem?_cons_zero, List.getElem?_cons_succ, Nat.reduceAdd, Nat.reduceSub, Option.some.injEq, Sl.imm.injEq, Sl.own.injEq, Sl.scr.injEq, exists_eq_left, exists_eq_left', exists_eq_right, exists_eq, exists_eq', exists_and_left, and_assoc, and_true, true_and, ne_eq, not_false_eq_true, Nat.succ_ne_zero, or_true, true_or, true_implies, forall_eq', forall_eq, PyData.int.injEq, PyData.bool.injEq, PyData.list.injEq, PyData.tuple.injEq, List.cons.injEq, i_add, i_iadd, i_sub, i_mul, i_mod, i_fdiv, i_fdivG, i_pow, i_neg, i_le, i_ge, i_gt, i_lt, i_eq, i_ne, i_intI, i_intB, i_abs, i_max, i_min, i_lenL, i_lenT, i_ixL, i_ixT, i_tupL, i_tupT, i_truB, Bool.not_true, Bool.not_false, Bool.false_eq_true, if_true, if_false, reduceIte]
    exact q
  obtain ⟨qs, hqs⟩ : ∃ qs, qs = xs.map (·.2) := ⟨_, rfl⟩
  have e1 : (xs.map fun x => fr x.2) = qs.map fr := by rw [hqs, List.map_map]; rfl
  have qlen : qs.length = xs.length := by rw [hqs, List.length_map]
  have qb : ∀ q ∈ qs, Bn 1000 1000 q := fun q hq => by
    rw [hqs] at hq
    obtain ⟨x, hx', rfl⟩ := List.mem_map.mp hq
    exact (hx x hx').2.2
  have qway := (way0 (N := 1000) (M := 1000) (n := 12) qb (by omega) (by decide) (by decide +kernel) (by decide +kernel) (by decide +kernel) (by decide +kernel)).1
  have qsm : ∀ q ∈ qs, Sm TN q := fun q hq => (qb q hq).sm (by decide +kernel) (by decide +kernel)
  have tm : Sm TN (mn xs) := ok0_way hx (by omega)
  obtain ⟨cp, cb⟩ := cs_pos ho1 l1
  have wx := ok_way ho1 (by omega)
  have cx : ∀ x ∈ xs, Cnt x := fun x h => ok_cnt (ho1 x h)
  rw [e1]
  refine ⟨_, rfl, _, rfl, mean_q ho1 l1 (by omega) ?_⟩
  simp only [wVar, wC, wOp, wUn, wCl, wB, wTr, wAnd, wOr, wNot, wAndV, wOrV, wNotV, wIf, wCh, wNil, wCons, wTup, wLe, wSz, wFn, wFnJ, wNext, wRet, wRetN, wDrop, wIfS, wSet, wSetOwn, wNever, wAug, wOpO, wOpR, wClO, wApp, wSetIt, wFrz, wFor, wRg1, wRg2, wSq, wEnum, wZip, wgN, wgT, wgNil, wgCons, wYes, wAsgT, wgLs, wLenS, wIxS, wFnS, wIsi, wListOf, wRev, edP, edJ, enP, enJ, enS, NotOwn, Flat, List.map_cons, List.map_nil, List.length_cons, List.length_nil, List.replicate_succ, List.replicate_zero, List.cons_append, List.nil_append, List.append_nil, List.set_cons_zero, List.set_cons_succ, List.getElem?_cons_zero, List.getElem?_cons_succ, Nat.reduceAdd, Nat.reduceSub, Option.some.injEq, Sl.imm.injEq, Sl.own.injEq, Sl.scr.injEq, exists_eq_left, exists_eq_left', exists_eq_right, exists_eq, exists_eq', exists_and_left, and_assoc, and_true, true_and, ne_eq, not_false_eq_true, Nat.succ_ne_zero, or_true, true_or, true_implies, forall_eq', forall_eq, PyData.int.injEq, PyData.bool.injEq, PyData.list.injEq, PyData.tuple.injEq, List.cons.injEq, i_add, i_iadd, i_sub, i_mul, i_mod, i_fdiv, i_fdivG, i_pow, i_neg, i_le, i_ge, i_gt, i_lt, i_eq, i_ne, i_intI, i_intB, i_abs, i_max, i_min, i_lenL, i_lenT, i_ixL, i_ixT, i_tupL, i_tupT, i_truB, Bool.not_true, Bool.not_false, Bool.false_eq_true, if_true, if_false, reduceIte]
  (try dsimp only); rw [wSeq_eq]; simp only [wVar, wC, wOp, wUn, wCl, wB, wTr, wAnd, wOr, wNot, wAndV, wOrV, wNotV, wIf, wCh, wNil, wCons, wTup, wLe, wSz, wFn, wFnJ, wNext, wRet, wRetN, wDrop, wIfS, wSet, wSetOwn, wNever, wAug, wOpO, wOpR, wClO, wApp, wSetIt, wFrz, wFor, wRg1, wRg2, wSq, wEnum, wZip, wgN, wgT, wgNil, wgCons, wYes, wAsgT, wgLs, wLenS, wIxS, wFnS, wIsi, wListOf, wRev, edP, edJ, enP, enJ, enS, NotOwn, Flat, List.map_cons, List.map_nil, List.length_cons, List.length_nil, List.replicate_succ, List.replicate_zero, List.cons_append, List.nil_append, List.append_nil, List.set_cons_zero, List.set_cons_succ, List.getElem?_cons_zero, List.getElem?_cons_succ, Nat.reduceAdd, Nat.reduceSub, Option.some.injEq, Sl.imm.injEq, Sl.own.injEq, Sl.scr.injEq, exists_eq_left, exists_eq_left', exists_eq_right, exists_eq, exists_eq', exists_and_left, and_assoc, and_true, true_and, ne_eq, not_false_eq_true, Nat.succ_ne_zero, or_true, true_or, true_implies, forall_eq', forall_eq, PyData.int.injEq, PyData.bool.injEq, PyData.list.injEq, PyData.tuple.injEq, List.cons.injEq, i_add, i_iadd, i_sub, i_mul, i_mod, i_fdiv, i_fdivG, i_pow, i_neg, i_le, i_ge, i_gt, i_lt, i_eq, i_ne, i_intI, i_intB, i_abs, i_max, i_min, i_lenL, i_lenT, i_ixL, i_ixT, i_tupL, i_tupT, i_truB, Bool.not_true, Bool.not_false, Bool.false_eq_true, if_true, if_false, reduceIte]
  refine ⟨qs, rfl, by omega, qsm, qway, qs, Or.inl rfl, qway, ?_⟩
  simp only [i_neF, not_true_eq_false, decide_false, wVar, wC, wOp, wUn, wCl, wB, wTr, wAnd, wOr, wNot, wAndV, wOrV, wNotV, wIf, wCh, wNil, wCons, wTup, wLe, wSz, wFn, wFnJ, wNext, wRet, wRetN, wDrop, wIfS, wSet, wSetOwn, wNever, wAug, wOpO, wOpR, wClO, wApp, wSetIt, wFrz, wFor, wRg1, wRg2, wSq, wEnum, wZip, wgN, wgT, wgNil, wgCons, wYes, wAsgT, wgLs, wLenS, wIxS, wFnS, wIsi, wListOf, wRev, edP, edJ, enP, enJ, enS, NotOwn, Flat, List.map_cons, List.map_nil, List.length_cons, List.length_nil, List.replicate_succ, List.replicate_zero, List.cons_append, List.nil_append, List.append_nil, List.set_cons_zero, List.set_cons_succ, List.getElem?_cons_zero, List.getElem?_cons_succ, Nat.reduceAdd, Nat.reduceSub, Option.some.injEq, Sl.imm.injEq, Sl.own.injEq, Sl.scr.injEq, exists_eq_left, exists_eq_left', exists_eq_right, exists_eq, exists_eq', exists_and_left, and_assoc, and_true, true_and, ne_eq, not_false_eq_true, Nat.succ_ne_zero, or_true, true_or, true_implies, forall_eq', forall_eq, PyData.int.injEq, PyData.bool.injEq, PyData.list.injEq, PyData.tuple.injEq, List.cons.injEq, i_add, i_iadd, i_sub, i_mul, i_mod, i_fdiv, i_fdivG, i_pow, i_neg, i_le, i_ge, i_gt, i_lt, i_eq, i_ne, i_intI, i_intB, i_abs, i_max, i_min, i_lenL, i_lenT, i_ixL, i_ixT, i_tupL, i_tupT, i_truB, Bool.not_true, Bool.not_false, Bool.false_eq_true, if_true, if_false, reduceIte]
  refine ⟨xs, rfl, by omega, cx, cp, Nat.lt_of_lt_of_le (show (cs xs).natAbs < 2 ^ 64 by omega) (by decide +kernel), wx, way_last wx, ?_⟩
  simp only [i_neF, not_true_eq_false, decide_false, wVar, wC, wOp, wUn, wCl, wB, wTr, wAnd, wOr, wNot, wAndV, wOrV, wNotV, wIf, wCh, wNil, wCons, wTup, wLe, wSz, wFn, wFnJ, wNext, wRet, wRetN, wDrop, wIfS, wSet, wSetOwn, wNever, wAug, wOpO, wOpR, wClO, wApp, wSetIt, wFrz, wFor, wRg1, wRg2, wSq, wEnum, wZip, wgN, wgT, wgNil, wgCons, wYes, wAsgT, wgLs, wLenS, wIxS, wFnS, wIsi, wListOf, wRev, edP, edJ, enP, enJ, enS, NotOwn, Flat, List.map_cons, List.map_nil, List.length_cons, List.length_nil, List.replicate_succ, List.replicate_zero, List.cons_append, List.nil_append, List.append_nil, List.set_cons_zero, List.set_cons_succ, List.getElem?_cons_zero, List.getElem?_cons_succ, Nat.reduceAdd, Nat.reduceSub, Option.some.injEq, Sl.imm.injEq, Sl.own.injEq, Sl.scr.injEq, exists_eq_left, exists_eq_left', exists_eq_right, exists_eq, exists_eq', exists_and_left, and_assoc, and_true, true_and, ne_eq, not_false_eq_true, Nat.succ_ne_zero, or_true, true_or, true_implies, forall_eq', forall_eq, PyData.int.injEq, PyData.bool.injEq, PyData.list.injEq, PyData.tuple.injEq, List.cons.injEq, i_add, i_iadd, i_sub, i_mul, i_mod, i_fdiv, i_fdivG, i_pow, i_neg, i_le, i_ge, i_gt, i_lt, i_eq, i_ne, i_intI, i_intB, i_abs, i_max, i_min, i_lenL, i_lenT, i_ixL, i_ixT, i_tupL, i_tupT, i_truB, Bool.not_true, Bool.not_false, Bool.false_eq_true, if_true, if_false, reduceIte]
  refine ⟨xs, _, rfl, l1, by omega, cx, rfl, tm, ?_⟩
  simp only [wVar, wC, wOp, wUn, wCl, wB, wTr, wAnd, wOr, wNot, wAndV, wOrV, wNotV, wIf, wCh, wNil, wCons, wTup, wLe, wSz, wFn, wFnJ, wNext, wRet, wRetN, wDrop, wIfS, wSet, wSetOwn, wNever, wAug, wOpO, wOpR, wClO, wApp, wSetIt, wFrz, wFor, wRg1, wRg2, wSq, wEnum, wZip, wgN, wgT, wgNil, wgCons, wYes, wAsgT, wgLs, wLenS, wIxS, wFnS, wIsi, wListOf, wRev, edP, edJ, enP, enJ, enS, NotOwn, Flat, List.map_cons, List.map_nil, List.length_cons, List.length_nil, List.replicate_succ, List.replicate_zero, List.cons_append, List.nil_append, List.append_nil, List.set_cons_zero, List.set_cons_succ, List.getElem?_cons_zero, List.getElem?_cons_succ, Nat.reduceAdd, Nat.reduceSub, Option.some.injEq, Sl.imm.injEq, Sl.own.injEq, Sl.scr.injEq, exists_eq_left, exists_eq_left', exists_eq_right, exists_eq, exists_eq', exists_and_left, and_assoc, and_true, true_and, ne_eq, not_false_eq_true, Nat.succ_ne_zero, or_true, true_or, true_implies, forall_eq', forall_eq, PyData.int.injEq, PyData.bool.injEq, PyData.list.injEq, PyData.tuple.injEq, List.cons.injEq, i_add, i_iadd, i_sub, i_mul, i_mod, i_fdiv, i_fdivG, i_pow, i_neg, i_le, i_ge, i_gt, i_lt, i_eq, i_ne, i_intI, i_intB, i_abs, i_max, i_min, i_lenL, i_lenT, i_ixL, i_ixT, i_tupL, i_tupT, i_truB, Bool.not_true, Bool.not_false, Bool.false_eq_true, if_true, if_false, reduceIte]
  obtain ⟨x0, xt, hx0⟩ : ∃ x0 xt, xs = x0 :: xt := by
    cases h : xs with
    | nil => rw [h] at l1; exact absurd l1 (by decide)
    | cons a b => exact ⟨a, b, rfl⟩
  have at00 : ∀ z, dIx (.list (xs.map pr)) (.int 0) z ↔ z = pr x0 := fun z => ⟨fun h => by
    have h' : atI (xs.map pr) 0 = some z := h
    rw [hx0, List.map_cons, at0] at h'; cases h'; rfl, fun h => by
    show atI (xs.map pr) 0 = some z
    rw [h, hx0, List.map_cons]; exact at0⟩
  (try dsimp only); rw [wSeq_eq]; simp only [at00, i_pr1, wVar, wC, wOp, wUn, wCl, wB, wTr, wAnd, wOr, wNot, wAndV, wOrV, wNotV, wIf, wCh, wNil, wCons, wTup, wLe, wSz, wFn, wFnJ, wNext, wRet, wRetN, wDrop, wIfS, wSet, wSetOwn, wNever, wAug, wOpO, wOpR, wClO, wApp, wSetIt, wFrz, wFor, wRg1, wRg2, wSq, wEnum, wZip, wgN, wgT, wgNil, wgCons, wYes, wAsgT, wgLs, wLenS, wIxS, wFnS, wIsi, wListOf, wRev, edP, edJ, enP, enJ, enS, NotOwn, Flat, List.map_cons, List.map_nil, List.length_cons, List.length_nil, List.replicate_succ, List.replicate_zero, List.cons_append, List.nil_append, List.append_nil, List.set_cons_zero, List.set_cons_succ, List.getElem?_cons_zero, List.getElem?_cons_succ, Nat.reduceAdd, Nat.reduceSub, Option.some.injEq, Sl.imm.injEq, Sl.own.injEq, Sl.scr.injEq, exists_eq_left, exists_eq_left', exists_eq_right, exists_eq, exists_eq', exists_and_left, and_assoc, and_true, true_and, ne_eq, not_false_eq_true, Nat.succ_ne_zero, or_true, true_or, true_implies, forall_eq', forall_eq, PyData.int.injEq, PyData.bool.injEq, PyData.list.injEq, PyData.tuple.injEq, List.cons.injEq, i_add, i_iadd, i_sub, i_mul, i_mod, i_fdiv, i_fdivG, i_pow, i_neg, i_le, i_ge, i_gt, i_lt, i_eq, i_ne, i_intI, i_intB, i_abs, i_max, i_min, i_lenL, i_lenT, i_ixL, i_ixT, i_tupL, i_tupT, i_truB, Bool.not_true, Bool.not_false, Bool.false_eq_true, if_true, if_false, reduceIte]
  (try dsimp only); rw [wSeq_eq]; simp only [wVar, wC, wOp, wUn, wCl, wB, wTr, wAnd, wOr, wNot, wAndV, wOrV, wNotV, wIf, wCh, wNil, wCons, wTup, wLe, wSz, wFn, wFnJ, wNext, wRet, wRetN, wDrop, wIfS, wSet, wSetOwn, wNever, wAug, wOpO, wOpR, wClO, wApp, wSetIt, wFrz, wFor, wRg1, wRg2, wSq, wEnum, wZip, wgN, wgT, wgNil, wgCons, wYes, wAsgT, wgLs, wLenS, wIxS, wFnS, wIsi, wListOf, wRev, edP, edJ, enP, enJ, enS, NotOwn, Flat, List.map_cons, List.map_nil, List.length_cons, List.length_nil, List.replicate_succ, List.replicate_zero, List.cons_append, List.nil_append, List.append_nil, List.set_cons_zero, List.set_cons_succ, List.getElem?_cons_zero, List.getElem?_cons_succ, Nat.reduceAdd, Nat.reduceSub, Option.some.injEq, Sl.imm.injEq, Sl.own.injEq, Sl.scr.injEq, exists_eq_left, exists_eq_left', exists_eq_right, exists_eq, exists_eq', exists_and_left, and_assoc, and_true, true_and, ne_eq, not_false_eq_true, Nat.succ_ne_zero, or_true, true_or, true_implies, forall_eq', forall_eq, PyData.int.injEq, PyData.bool.injEq, PyData.list.injEq, PyData.tuple.injEq, List.cons.injEq, i_add, i_iadd, i_sub, i_mul, i_mod, i_fdiv, i_fdivG, i_pow, i_neg, i_le, i_ge, i_gt, i_lt, i_eq, i_ne, i_intI, i_intB, i_abs, i_max, i_min, i_lenL, i_lenT, i_ixL, i_ixT, i_tupL, i_tupT, i_truB, Bool.not_true, Bool.not_false, Bool.false_eq_true, if_true, if_false, reduceIte]
  refine ⟨_, _, _, _, rfl, rfl, by rw [List.length_map]; omega, sh_pr xs, fun ys g m c hy => ?_⟩
  obtain ⟨zs, hz, rfl⟩ := perm_pr hy
  have oz : ∀ x ∈ zs, Ok1 x := fun x h => ho1 x (hz.mem_iff.mpr h)
  have lz : zs.length = xs.length := hz.length_eq.symm
  refine ⟨_, rfl, mean_q oz (by omega) (by omega) ?_⟩
  rw [← mn_perm hz]
  simp only [i_neF, not_true_eq_false, decide_false, wVar, wC, wOp, wUn, wCl, wB, wTr, wAnd, wOr, wNot, wAndV, wOrV, wNotV, wIf, wCh, wNil, wCons, wTup, wLe, wSz, wFn, wFnJ, wNext, wRet, wRetN, wDrop, wIfS, wSet, wSetOwn, wNever, wAug, wOpO, wOpR, wClO, wApp, wSetIt, wFrz, wFor, wRg1, wRg2, wSq, wEnum, wZip, wgN, wgT, wgNil, wgCons, wYes, wAsgT, wgLs, wLenS, wIxS, wFnS, wIsi, wListOf, wRev, edP, edJ, enP, enJ, enS, NotOwn, Flat, List.map_cons, List.map_nil, List.length_cons, List.length_nil, List.replicate_succ, List.replicate_zero, List.cons_append, List.nil_append, List.append_nil, List.set_cons_zero, List.set_cons_succ, List.getElem?_cons_zero, List.getElem?_cons_succ, Nat.reduceAdd, Nat.reduceSub, Option.some.injEq, Sl.imm.injEq, Sl.own.injEq, Sl.scr.injEq, exists_eq_left, exists_eq_left', exists_eq_right, exists_eq, exists_eq', exists_and_left, and_assoc, and_true, true_and, ne_eq, not_false_eq_true, Nat.succ_ne_zero, or_true, true_or, true_implies, forall_eq', forall_eq, PyData.int.injEq, PyData.bool.injEq, PyData.list.injEq, PyData.tuple.injEq, List.cons.injEq, i_add, i_iadd, i_sub, i_mul, i_mod, i_fdiv, i_fdivG, i_pow, i_neg, i_le, i_ge, i_gt, i_lt, i_eq, i_ne, i_intI, i_intB, i_abs, i_max, i_min, i_lenL, i_lenT, i_ixL, i_ixT, i_tupL, i_tupT, i_truB, Bool.not_true, Bool.not_false, Bool.false_eq_true, if_true, if_false, reduceIte]
  have o0 : Ok1 x0 := ho1 x0 (by rw [hx0]; exact List.mem_cons_self)
  have e75 : PyData.tuple [PyData.tuple [.int 7, fr x0.2], PyData.tuple [.int 5, fr x0.2]] = .tuple ([((7 : Int), x0.2), ((5 : Int), x0.2)].map pr) := rfl
  have o75 : ∀ x ∈ [((7 : Int), x0.2), ((5 : Int), x0.2)], Ok1 x := fun x h => by
    simp only [List.mem_cons, List.not_mem_nil, or_false] at h
    rcases h with rfl | rfl
    · exact ⟨by show (1 : Int) ≤ 7; decide, by show (7 : Int) ≤ 1000000000; decide, o0.2.2⟩
    · exact ⟨by show (1 : Int) ≤ 5; decide, by show (5 : Int) ≤ 1000000000; decide, o0.2.2⟩
  have m75 : mn [((7 : Int), x0.2), ((5 : Int), x0.2)] = x0.2 := mn_same (by show (0 : Int) < 7 + (5 + 0); decide) fun x h => by
    simp only [List.mem_cons, List.not_mem_nil, or_false] at h
    rcases h with rfl | rfl <;> rfl
  rw [e75]
  refine ⟨by decide, by decide, by decide, mean_q o75 (by simp) (by simp) ?_⟩
  rw [m75]
  simp only [i_neF, not_true_eq_false, decide_false, wVar, wC, wOp, wUn, wCl, wB, wTr, wAnd, wOr, wNot, wAndV, wOrV, wNotV, wIf, wCh, wNil, wCons, wTup, wLe, wSz, wFn, wFnJ, wNext, wRet, wRetN, wDrop, wIfS, wSet, wSetOwn, wNever, wAug, wOpO, wOpR, wClO, wApp, wSetIt, wFrz, wFor, wRg1, wRg2, wSq, wEnum, wZip, wgN, wgT, wgNil, wgCons, wYes, wAsgT, wgLs, wLenS, wIxS, wFnS, wIsi, wListOf, wRev, edP, edJ, enP, enJ, enS, NotOwn, Flat, List.map_cons, List.map_nil, List.length_cons, List.length_nil, List.replicate_succ, List.replicate_zero, List.cons_append, List.nil_append, List.append_nil, List.set_cons_zero, List.set_cons_succ, List.getElem?_cons_zero, List.getElem?_cons_succ, Nat.reduceAdd, Nat.reduceSub, Option.some.injEq, Sl.imm.injEq, Sl.own.injEq, Sl.scr.injEq, exists_eq_left, exists_eq_left', exists_eq_right, exists_eq, exists_eq', exists_and_left, and_assoc, and_true, true_and, ne_eq, not_false_eq_true, Nat.succ_ne_zero, or_true, true_or, true_implies, forall_eq', forall_eq, PyData.int.injEq, PyData.bool.injEq, PyData.list.injEq, PyData.tuple.injEq, List.cons.injEq, i_add, i_iadd, i_sub, i_mul, i_mod, i_fdiv, i_fdivG, i_pow, i_neg, i_le, i_ge, i_gt, i_lt, i_eq, i_ne, i_intI, i_intB, i_abs, i_max, i_min, i_lenL, i_lenT, i_ixL, i_ixT, i_tupL, i_tupT, i_truB, Bool.not_true, Bool.not_false, Bool.false_eq_true, if_true, if_false, reduceIte]
  (try dsimp only); rw [wSeq_eq]; simp only [wVar, wC, wOp, wUn, wCl, wB, wTr, wAnd, wOr, wNot, wAndV, wOrV, wNotV, wIf, wCh, wNil, wCons, wTup, wLe, wSz, wFn, wFnJ, wNext, wRet, wRetN, wDrop, wIfS, wSet, wSetOwn, wNever, wAug, wOpO, wOpR, wClO, wApp, wSetIt, wFrz, wFor, wRg1, wRg2, wSq, wEnum, wZip, wgN, wgT, wgNil, wgCons, wYes, wAsgT, wgLs, wLenS, wIxS, wFnS, wIsi, wListOf, wRev, edP, edJ, enP, enJ, enS, NotOwn, Flat, List.map_cons, List.map_nil, List.length_cons, List.length_nil, List.replicate_succ, List.replicate_zero, List.cons_append, List.nil_append, List.append_nil, List.set_cons_zero, List.set_cons_succ, List.getElem?_cons_zero, List.getElem?_cons_succ, Nat.reduceAdd, Nat.reduceSub, Option.some.injEq, Sl.imm.injEq, Sl.own.injEq, Sl.scr.injEq, exists_eq_left, exists_eq_left', exists_eq_right, exists_eq, exists_eq', exists_and_left, and_assoc, and_true, true_and, ne_eq, not_false_eq_true, Nat.succ_ne_zero, or_true, true_or, true_implies, forall_eq', forall_eq, PyData.int.injEq, PyData.bool.injEq, PyData.list.injEq, PyData.tuple.injEq, List.cons.injEq, i_add, i_iadd, i_sub, i_mul, i_mod, i_fdiv, i_fdivG, i_pow, i_neg, i_le, i_ge, i_gt, i_lt, i_eq, i_ne, i_intI, i_intB, i_abs, i_max, i_min, i_lenL, i_lenT, i_ixL, i_ixT, i_tupL, i_tupT, i_truB, Bool.not_true, Bool.not_false, Bool.false_eq_true, if_true, if_false, reduceIte]
  refine lcG (X := pr) (f := pr) (xs := xs) (fun x => [.own [.int g, .int m, .int c], .imm (.int n), .imm (.int k), .imm (.list (xs.map pr)), s4, .imm (.tuple (qs.map fr)), .imm (fr (mn xs)), .imm (fr x0.2), .un, .un, .un, .un, .un, .imm (.int x.1), .imm (fr x.2), .un, .un]) (fun x => decide (x.1 < 10 ^ Int.toNat 6)) (by decide) (fun Q q => ⟨_, rfl, _, Or.inl rfl, q⟩) (no2 trivial trivial) hlen (fun x => rfl) (fun x hx Q q => ?_) (fun x hx Q q => ?_) (fun x hx hc Q q => ?_) ?_
  · simp only [pr, wip, wVar, wC, wOp, wUn, wCl, wB, wTr, wAnd, wOr, wNot, wAndV, wOrV, wNotV, wIf, wCh, wNil, wCons, wTup, wLe, wSz, wFn, wFnJ, wNext, wRet, wRetN, wDrop, wIfS, wSet, wSetOwn, wNever, wAug, wOpO, wOpR, wClO, wApp, wSetIt, wFrz, wFor, wRg1, wRg2, wSq, wEnum, wZip, wgN, wgT, wgNil, wgCons, wYes, wAsgT, wgLs, wLenS, wIxS, wFnS, wIsi, wListOf, wRev, edP, edJ, enP, enJ, enS, NotOwn, Flat, List.map_cons, List.map_nil, List.length_cons, List.length_nil, List.replicate_succ, List.replicate_zero, List.cons_append, List.nil_append, List.append_nil, List.set_cons_zero, List.set_cons_succ, List.getElem?_cons_zero, List.getElem?_cons_succ, Nat.reduceAdd, Nat.reduceSub, Option.some.injEq, Sl.imm.injEq, Sl.own.injEq, Sl.scr.injEq, exists_eq_left, exists_eq_left', exists_eq_right, exists_eq, exists_eq', exists_and_left, and_assoc, and_true, true_and, ne_eq, not_false_eq_true, Nat.succ_ne_zero, or_true, true_or, true_implies, forall_eq', forall_eq, PyData.int.injEq, PyData.bool.injEq, PyData.list.injEq, PyData.tuple.injEq, List.cons.injEq, i_add, i_iadd, i_sub, i_mul, i_mod, i_fdiv, i_fdivG, i_pow, i_neg, i_le, i_ge, i_gt, i_lt, i_eq, i_ne, i_intI, i_intB, i_abs, i_max, i_min, i_lenL, i_lenT, i_ixL, i_ixT, i_tupL, i_tupT, i_truB, Bool.not_true, Bool.not_false, Bool.false_eq_true, if_true, if_false, reduceIte]
    exact q
  · simp only [wVar, wC, wOp, wUn, wCl, wB, wTr, wAnd, wOr, wNot, wAndV, wOrV, wNotV, wIf, wCh, wNil, wCons, wTup, wLe, wSz, wFn, wFnJ, wNext, wRet, wRetN, wDrop, wIfS, wSet, wSetOwn, wNever, wAug, wOpO, wOpR, wClO, wApp, wSetIt, wFrz, wFor, wRg1, wRg2, wSq, wEnum, wZip, wgN, wgT, wgNil, wgCons, wYes, wAsgT, wgLs, wLenS, wIxS, wFnS, wIsi, wListOf, wRev, edP, edJ, enP, enJ, enS, NotOwn, Flat, List.map_cons, List.map_nil, List.length_cons, List.length_nil, List.replicate_succ, List.replicate_zero, List.cons_append, List.nil_append, List.append_nil, List.set_cons_zero, List.set_cons_succ, List.getElem?_cons_zero, List.getElem?_cons_succ, Nat.reduceAdd, Nat.reduceSub, Option.some.injEq, Sl.imm.injEq, Sl.own.injEq, Sl.scr.injEq, exists_eq_left, exists_eq_left', exists_eq_right, exists_eq, exists_eq', exists_and_left, and_assoc, and_true, true_and, ne_eq, not_false_eq_true, Nat.succ_ne_zero, or_true, true_or, true_implies, forall_eq', forall_eq, PyData.int.injEq, PyData.bool.injEq, PyData.list.injEq, PyData.tuple.injEq, List.cons.injEq, i_add, i_iadd, i_sub, i_mul, i_mod, i_fdiv, i_fdivG, i_pow, i_neg, i_le, i_ge, i_gt, i_lt, i_eq, i_ne, i_intI, i_intB, i_abs, i_max, i_min, i_lenL, i_lenT, i_ixL, i_ixT, i_tupL, i_tupT, i_truB, Bool.not_true, Bool.not_false, Bool.false_eq_true, if_true, if_false, reduceIte]
    exact ⟨pow_ok (by decide +kernel), q⟩
  · simp only [wVar, wC, wOp, wUn, wCl, wB, wTr, wAnd, wOr, wNot, wAndV, wOrV, wNotV, wIf, wCh, wNil, wCons, wTup, wLe, wSz, wFn, wFnJ, wNext, wRet, wRetN, wDrop, wIfS, wSet, wSetOwn, wNever, wAug, wOpO, wOpR, wClO, wApp, wSetIt, wFrz, wFor, wRg1, wRg2, wSq, wEnum, wZip, wgN, wgT, wgNil, wgCons, wYes, wAsgT, wgLs, wLenS, wIxS, wFnS, wIsi, wListOf, wRev, edP, edJ, enP, enJ, enS, NotOwn, Flat, List.map_cons, List.map_nil, List.length_cons, List.length_nil, List.replicate_succ, List.replicate_zero, List.cons_append, List.nil_append, List.append_nil, List.set_cons_zero, List.set_cons_succ, List.getElem?_cons_zero, List.getElem?_cons_succ, Nat.reduceAdd, Nat.reduceSub, Option.some.injEq, Sl.imm.injEq, Sl.own.injEq, Sl.scr.injEq, exists_eq_left, exists_eq_left', exists_eq_right, exists_eq, exists_eq', exists_and_left, and_assoc, and_true, true_and, ne_eq, not_false_eq_true, Nat.succ_ne_zero, or_true, true_or, true_implies, forall_eq', forall_eq, PyData.int.injEq, PyData.bool.injEq, PyData.list.injEq, PyData.tuple.injEq, List.cons.injEq, i_add, i_iadd, i_sub, i_mul, i_mod, i_fdiv, i_fdivG, i_pow, i_neg, i_le, i_ge, i_gt, i_lt, i_eq, i_ne, i_intI, i_intB, i_abs, i_max, i_min, i_lenL, i_lenT, i_ixL, i_ixT, i_tupL, i_tupT, i_truB, Bool.not_true, Bool.not_false, Bool.false_eq_true, if_true, if_false, reduceIte]
    exact ⟨by decide, q⟩
  obtain ⟨ls, hls⟩ : ∃ ls, ls = xs.filter fun x => decide (x.1 < 10 ^ Int.toNat 6) := ⟨_, rfl⟩
  rw [← hls]
  have lin : ∀ x ∈ ls, x ∈ xs ∧ x.1 < 1000000 := fun x h => by
    rw [hls] at h
    obtain ⟨h1, h2⟩ := List.mem_filter.mp h
    refine ⟨h1, ?_⟩
    have e : (10 : Int) ^ Int.toNat 6 = 1000000 := by decide +kernel
    rw [e] at h2
    simpa using h2
  have llen : ls.length ≤ 12 := by
    have := List.length_filter_le (fun x : Pr => decide (x.1 < 10 ^ Int.toNat 6)) xs
    rw [← hls] at this
    omega
  have lo : ∀ x ∈ ls, Ok1 x := fun x h => ho1 x (lin x h).1
  simp only [wVar, wC, wOp, wUn, wCl, wB, wTr, wAnd, wOr, wNot, wAndV, wOrV, wNotV, wIf, wCh, wNil, wCons, wTup, wLe, wSz, wFn, wFnJ, wNext, wRet, wRetN, wDrop, wIfS, wSet, wSetOwn, wNever, wAug, wOpO, wOpR, wClO, wApp, wSetIt, wFrz, wFor, wRg1, wRg2, wSq, wEnum, wZip, wgN, wgT, wgNil, wgCons, wYes, wAsgT, wgLs, wLenS, wIxS, wFnS, wIsi, wListOf, wRev, edP, edJ, enP, enJ, enS, NotOwn, Flat, List.map_cons, List.map_nil, List.length_cons, List.length_nil, List.replicate_succ, List.replicate_zero, List.cons_append, List.nil_append, List.append_nil, List.set_cons_zero, List.set_cons_succ, List.getElem?_cons_zero, List.getElem?_cons_succ, Nat.reduceAdd, Nat.reduceSub, Option.some.injEq, Sl.imm.injEq, Sl.own.injEq, Sl.scr.injEq, exists_eq_left, exists_eq_left', exists_eq_right, exists_eq, exists_eq', exists_and_left, and_assoc, and_true, true_and, ne_eq, not_false_eq_true, Nat.succ_ne_zero, or_true, true_or, true_implies, forall_eq', forall_eq, PyData.int.injEq, PyData.bool.injEq, PyData.list.injEq, PyData.tuple.injEq, List.cons.injEq, i_add, i_iadd, i_sub, i_mul, i_mod, i_fdiv, i_fdivG, i_pow, i_neg, i_le, i_ge, i_gt, i_lt, i_eq, i_ne, i_intI, i_intB, i_abs, i_max, i_min, i_lenL, i_lenT, i_ixL, i_ixT, i_tupL, i_tupT, i_truB, Bool.not_true, Bool.not_false, Bool.false_eq_true, if_true, if_false, reduceIte]
  (try dsimp only); rw [wSeq_eq]; simp only [ne_nil (sh_pr ls), wVar, wC, wOp, wUn, wCl, wB, wTr, wAnd, wOr, wNot, wAndV, wOrV, wNotV, wIf, wCh, wNil, wCons, wTup, wLe, wSz, wFn, wFnJ, wNext, wRet, wRetN, wDrop, wIfS, wSet, wSetOwn, wNever, wAug, wOpO, wOpR, wClO, wApp, wSetIt, wFrz, wFor, wRg1, wRg2, wSq, wEnum, wZip, wgN, wgT, wgNil, wgCons, wYes, wAsgT, wgLs, wLenS, wIxS, wFnS, wIsi, wListOf, wRev, edP, edJ, enP, enJ, enS, NotOwn, Flat, List.map_cons, List.map_nil, List.length_cons, List.length_nil, List.replicate_succ, List.replicate_zero, List.cons_append, List.nil_append, List.append_nil, List.set_cons_zero, List.set_cons_succ, List.getElem?_cons_zero, List.getElem?_cons_succ, Nat.reduceAdd, Nat.reduceSub, Option.some.injEq, Sl.imm.injEq, Sl.own.injEq, Sl.scr.injEq, exists_eq_left, exists_eq_left', exists_eq_right, exists_eq, exists_eq', exists_and_left, and_assoc, and_true, true_and, ne_eq, not_false_eq_true, Nat.succ_ne_zero, or_true, true_or, true_implies, forall_eq', forall_eq, PyData.int.injEq, PyData.bool.injEq, PyData.list.injEq, PyData.tuple.injEq, List.cons.injEq, i_add, i_iadd, i_sub, i_mul, i_mod, i_fdiv, i_fdivG, i_pow, i_neg, i_le, i_ge, i_gt, i_lt, i_eq, i_ne, i_intI, i_intB, i_abs, i_max, i_min, i_lenL, i_lenT, i_ixL, i_ixT, i_tupL, i_tupT, i_truB, Bool.not_true, Bool.not_false, Bool.false_eq_true, if_true, if_false, reduceIte]
  refine ⟨by decide, join (fun hc _ => ?_) ?_⟩
  · obtain ⟨y0, yt, hy0⟩ : ∃ y0 yt, ls = y0 :: yt := by
      cases h : ls with
      | nil => rw [h] at hc; cases hc
      | cons a b => exact ⟨a, b, rfl⟩
    have l1' : 1 ≤ ls.length := by rw [hy0, List.length_cons]; omega
    (try dsimp only); rw [wSeq_eq]; simp only [wf__law_pour, wVar, wC, wOp, wUn, wCl, wB, wTr, wAnd, wOr, wNot, wAndV, wOrV, wNotV, wIf, wCh, wNil, wCons, wTup, wLe, wSz, wFn, wFnJ, wNext, wRet, wRetN, wDrop, wIfS, wSet, wSetOwn, wNever, wAug, wOpO, wOpR, wClO, wApp, wSetIt, wFrz, wFor, wRg1, wRg2, wSq, wEnum, wZip, wgN, wgT, wgNil, wgCons, wYes, wAsgT, wgLs, wLenS, wIxS, wFnS, wIsi, wListOf, wRev, edP, edJ, enP, enJ, enS, NotOwn, Flat, List.map_cons, List.map_nil, List.length_cons, List.length_nil, List.replicate_succ, List.replicate_zero, List.cons_append, List.nil_append, List.append_nil, List.set_cons_zero, List.set_cons_succ, List.getElem?_cons_zero, List.getElem?_cons_succ, Nat.reduceAdd, Nat.reduceSub, Option.some.injEq, Sl.imm.injEq, Sl.own.injEq, Sl.scr.injEq, exists_eq_left, exists_eq_left', exists_eq_right, exists_eq, exists_eq', exists_and_left, and_assoc, and_true, true_and, ne_eq, not_false_eq_true, Nat.succ_ne_zero, or_true, true_or, true_implies, forall_eq', forall_eq, PyData.int.injEq, PyData.bool.injEq, PyData.list.injEq, PyData.tuple.injEq, List.cons.injEq, i_add, i_iadd, i_sub, i_mul, i_mod, i_fdiv, i_fdivG, i_pow, i_neg, i_le, i_ge, i_gt, i_lt, i_eq, i_ne, i_intI, i_intB, i_abs, i_max, i_min, i_lenL, i_lenT, i_ixL, i_ixT, i_tupL, i_tupT, i_truB, Bool.not_true, Bool.not_false, Bool.false_eq_true, if_true, if_false, reduceIte]
    refine ⟨by decide, log_lt (by decide) (by decide), fun r g m c r1 r2 => ?_⟩
    obtain ⟨v, hv, v1, v2⟩ : ∃ v : Int, v = 2 + r ∧ 2 ≤ v ∧ v ≤ 901 := ⟨_, rfl, by omega, by omega⟩
    rw [← hv]
    (try dsimp only); rw [wSeq_eq]; simp only [wVar, wC, wOp, wUn, wCl, wB, wTr, wAnd, wOr, wNot, wAndV, wOrV, wNotV, wIf, wCh, wNil, wCons, wTup, wLe, wSz, wFn, wFnJ, wNext, wRet, wRetN, wDrop, wIfS, wSet, wSetOwn, wNever, wAug, wOpO, wOpR, wClO, wApp, wSetIt, wFrz, wFor, wRg1, wRg2, wSq, wEnum, wZip, wgN, wgT, wgNil, wgCons, wYes, wAsgT, wgLs, wLenS, wIxS, wFnS, wIsi, wListOf, wRev, edP, edJ, enP, enJ, enS, NotOwn, Flat, List.map_cons, List.map_nil, List.length_cons, List.length_nil, List.replicate_succ, List.replicate_zero, List.cons_append, List.nil_append, List.append_nil, List.set_cons_zero, List.set_cons_succ, List.getElem?_cons_zero, List.getElem?_cons_succ, Nat.reduceAdd, Nat.reduceSub, Option.some.injEq, Sl.imm.injEq, Sl.own.injEq, Sl.scr.injEq, exists_eq_left, exists_eq_left', exists_eq_right, exists_eq, exists_eq', exists_and_left, and_assoc, and_true, true_and, ne_eq, not_false_eq_true, Nat.succ_ne_zero, or_true, true_or, true_implies, forall_eq', forall_eq, PyData.int.injEq, PyData.bool.injEq, PyData.list.injEq, PyData.tuple.injEq, List.cons.injEq, i_add, i_iadd, i_sub, i_mul, i_mod, i_fdiv, i_fdivG, i_pow, i_neg, i_le, i_ge, i_gt, i_lt, i_eq, i_ne, i_intI, i_intB, i_abs, i_max, i_min, i_lenL, i_lenT, i_ixL, i_ixT, i_tupL, i_tupT, i_truB, Bool.not_true, Bool.not_false, Bool.false_eq_true, if_true, if_false, reduceIte]
    have hls2 : ls.length ≤ sizeLine := Nat.le_trans llen (by decide)
    refine lcY (X := pr) (f := fun x => pr (v * x.1, x.2)) (xs := ls) (fun x => [.own [.int g, .int m, .int c], .imm (.int n), .imm (.int k), .imm (.list (xs.map pr)), s4, .imm (.tuple (qs.map fr)), .imm (fr (mn xs)), .imm (fr x0.2), .imm (.list (ls.map pr)), .imm (.int v), .un, .un, .un, .imm (.int x.1), .imm (fr x.2), .un, .un]) (by decide) (fun Q q => ⟨_, rfl, _, Or.inl rfl, q⟩) (by exact no2 trivial trivial) hls2 (fun x => rfl) (fun x hx Q q => ?_) (fun x hx Q q => ?_) ?_
    · simp only [pr, wip, wVar, wC, wOp, wUn, wCl, wB, wTr, wAnd, wOr, wNot, wAndV, wOrV, wNotV, wIf, wCh, wNil, wCons, wTup, wLe, wSz, wFn, wFnJ, wNext, wRet, wRetN, wDrop, wIfS, wSet, wSetOwn, wNever, wAug, wOpO, wOpR, wClO, wApp, wSetIt, wFrz, wFor, wRg1, wRg2, wSq, wEnum, wZip, wgN, wgT, wgNil, wgCons, wYes, wAsgT, wgLs, wLenS, wIxS, wFnS, wIsi, wListOf, wRev, edP, edJ, enP, enJ, enS, NotOwn, Flat, List.map_cons, List.map_nil, List.length_cons, List.length_nil, List.replicate_succ, List.replicate_zero, List.cons_append, List.nil_append, List.append_nil, List.set_cons_zero, List.set_cons_succ, List.getElem?_cons_zero, List.getElem?_cons_succ, Nat.reduceAdd, Nat.reduceSub, Option.some.injEq, Sl.imm.injEq, Sl.own.injEq, Sl.scr.injEq, exists_eq_left, exists_eq_left', exists_eq_right, exists_eq, exists_eq', exists_and_left, and_assoc, and_true, true_and, ne_eq, not_false_eq_true, Nat.succ_ne_zero, or_true, true_or, true_implies, forall_eq', forall_eq, PyData.int.injEq, PyData.bool.injEq, PyData.list.injEq, PyData.tuple.injEq, List.cons.injEq, i_add, i_iadd, i_sub, i_mul, i_mod, i_fdiv, i_fdivG, i_pow, i_neg, i_le, i_ge, i_gt, i_lt, i_eq, i_ne, i_intI, i_intB, i_abs, i_max, i_min, i_lenL, i_lenT, i_ixL, i_ixT, i_tupL, i_tupT, i_truB, Bool.not_true, Bool.not_false, Bool.false_eq_true, if_true, if_false, reduceIte]
      exact q
    · simp only [wVar, wC, wOp, wUn, wCl, wB, wTr, wAnd, wOr, wNot, wAndV, wOrV, wNotV, wIf, wCh, wNil, wCons, wTup, wLe, wSz, wFn, wFnJ, wNext, wRet, wRetN, wDrop, wIfS, wSet, wSetOwn, wNever, wAug, wOpO, wOpR, wClO, wApp, wSetIt, wFrz, wFor, wRg1, wRg2, wSq, wEnum, wZip, wgN, wgT, wgNil, wgCons, wYes, wAsgT, wgLs, wLenS, wIxS, wFnS, wIsi, wListOf, wRev, edP, edJ, enP, enJ, enS, NotOwn, Flat, List.map_cons, List.map_nil, List.length_cons, List.length_nil, List.replicate_succ, List.replicate_zero, List.cons_append, List.nil_append, List.append_nil, List.set_cons_zero, List.set_cons_succ, List.getElem?_cons_zero, List.getElem?_cons_succ, Nat.reduceAdd, Nat.reduceSub, Option.some.injEq, Sl.imm.injEq, Sl.own.injEq, Sl.scr.injEq, exists_eq_left, exists_eq_left', exists_eq_right, exists_eq, exists_eq', exists_and_left, and_assoc, and_true, true_and, ne_eq, not_false_eq_true, Nat.succ_ne_zero, or_true, true_or, true_implies, forall_eq', forall_eq, PyData.int.injEq, PyData.bool.injEq, PyData.list.injEq, PyData.tuple.injEq, List.cons.injEq, i_add, i_iadd, i_sub, i_mul, i_mod, i_fdiv, i_fdivG, i_pow, i_neg, i_le, i_ge, i_gt, i_lt, i_eq, i_ne, i_intI, i_intB, i_abs, i_max, i_min, i_lenL, i_lenT, i_ixL, i_ixT, i_tupL, i_tupT, i_truB, Bool.not_true, Bool.not_false, Bool.false_eq_true, if_true, if_false, reduceIte]
      exact ⟨small_l (by omega) (by omega), by decide, q⟩
    obtain ⟨vs, hvs⟩ : ∃ vs : List Pr, vs = ls.map fun x => (v * x.1, x.2) := ⟨_, rfl⟩
    have ev : (ls.map fun x => pr (v * x.1, x.2)) = vs.map pr := by rw [hvs, List.map_map]; rfl
    have ov : ∀ x ∈ vs, Ok1 x := fun x hx' => by
      rw [hvs] at hx'
      obtain ⟨z, hz, rfl⟩ := List.mem_map.mp hx'
      have h1 := lo z hz
      have h2 := (lin z hz).2
      have h3 : z.1 ≤ 999999 := by omega
      refine ⟨?_, ?_, h1.2.2⟩
      · show 1 ≤ v * z.1
        have := Int.mul_le_mul (show (1 : Int) ≤ v by omega) h1.1 (by decide) (by omega)
        omega
      · show v * z.1 ≤ 1000000000
        have := Int.mul_le_mul v2 h3 (by have := h1.1; omega) (by decide)
        omega
    have lv : vs.length = ls.length := by rw [hvs, List.length_map]
    have mv : mn vs = mn ls := by rw [hvs]; exact mn_scale (by omega)
    rw [ev]
    refine mean_q ov (by omega) (by omega) ?_
    refine ⟨_, rfl, _, rfl, mean_q lo l1' (by omega) ?_⟩
    rw [mv]
    simp only [i_neF, not_true_eq_false, decide_false, wVar, wC, wOp, wUn, wCl, wB, wTr, wAnd, wOr, wNot, wAndV, wOrV, wNotV, wIf, wCh, wNil, wCons, wTup, wLe, wSz, wFn, wFnJ, wNext, wRet, wRetN, wDrop, wIfS, wSet, wSetOwn, wNever, wAug, wOpO, wOpR, wClO, wApp, wSetIt, wFrz, wFor, wRg1, wRg2, wSq, wEnum, wZip, wgN, wgT, wgNil, wgCons, wYes, wAsgT, wgLs, wLenS, wIxS, wFnS, wIsi, wListOf, wRev, edP, edJ, enP, enJ, enS, NotOwn, Flat, List.map_cons, List.map_nil, List.length_cons, List.length_nil, List.replicate_succ, List.replicate_zero, List.cons_append, List.nil_append, List.append_nil, List.set_cons_zero, List.set_cons_succ, List.getElem?_cons_zero, List.getElem?_cons_succ, Nat.reduceAdd, Nat.reduceSub, Option.some.injEq, Sl.imm.injEq, Sl.own.injEq, Sl.scr.injEq, exists_eq_left, exists_eq_left', exists_eq_right, exists_eq, exists_eq', exists_and_left, and_assoc, and_true, true_and, ne_eq, not_false_eq_true, Nat.succ_ne_zero, or_true, true_or, true_implies, forall_eq', forall_eq, PyData.int.injEq, PyData.bool.injEq, PyData.list.injEq, PyData.tuple.injEq, List.cons.injEq, i_add, i_iadd, i_sub, i_mul, i_mod, i_fdiv, i_fdivG, i_pow, i_neg, i_le, i_ge, i_gt, i_lt, i_eq, i_ne, i_intI, i_intB, i_abs, i_max, i_min, i_lenL, i_lenT, i_ixL, i_ixT, i_tupL, i_tupT, i_truB, Bool.not_true, Bool.not_false, Bool.false_eq_true, if_true, if_false, reduceIte]
    have cut1 : cutA (ls.map pr) none (some 1) = [pr y0] := by rw [hy0, List.map_cons]; exact cut_1 _ _
    have cutr : cutA (ls.map pr) (some 1) none = yt.map pr := by rw [hy0, List.map_cons]; exact cut_r _ _
    have aty : ∀ z, dIx (.list (ls.map pr)) (.int 0) z ↔ z = pr y0 := fun z => ⟨fun h => by
      have h' : atI (ls.map pr) 0 = some z := h
      rw [hy0, List.map_cons, at0] at h'; cases h'; rfl, fun h => by
      show atI (ls.map pr) 0 = some z
      rw [h, hy0, List.map_cons]; exact at0⟩
    have oy : Ok1 y0 := lo y0 (by rw [hy0]; exact List.mem_cons_self)
    have ly : y0.1 < 1000000 := (lin y0 (by rw [hy0]; exact List.mem_cons_self)).2
    have ea : ls.map pr ++ [pr y0] = (ls ++ [y0]).map pr := by rw [List.map_append]; rfl
    have eb : PyData.tuple [.int (2 * y0.1), fr y0.2] :: yt.map pr = ((2 * y0.1, y0.2) :: yt).map pr := rfl
    have oa : ∀ x ∈ ls ++ [y0], Ok1 x := fun x hx' => by
      rcases List.mem_append.mp hx' with h | h
      · exact lo x h
      · rw [List.mem_singleton] at h; rw [h]; exact oy
    have ob : ∀ x ∈ (2 * y0.1, y0.2) :: yt, Ok1 x := fun x hx' => by
      rcases List.mem_cons.mp hx' with rfl | h
      · have := oy.1
        exact ⟨by show 1 ≤ 2 * y0.1; omega, by show 2 * y0.1 ≤ 1000000000; omega, oy.2.2⟩
      · exact lo x (by rw [hy0]; exact List.mem_cons_of_mem _ h)
    have lyt : ls.length = yt.length + 1 := by rw [hy0, List.length_cons]
    have mab : mn (ls ++ [y0]) = mn ((2 * y0.1, y0.2) :: yt) := by
      have h1 : W (ls ++ [y0]) = W ((2 * y0.1, y0.2) :: yt) := by
        rw [W_app, hy0, W_cons, W_cons, W_cons, Rat.intCast_mul]
        show _ + (_ + 0) = _
        grind
      have h2 : C (ls ++ [y0]) = C ((2 * y0.1, y0.2) :: yt) := by
        rw [C_app, hy0, C_cons, C_cons, C_cons, Rat.intCast_mul]
        show _ + (_ + ((0 : Int) : Rat)) = _
        grind
      rw [mn_eq, mn_eq, h1, h2]
    simp only [wSl, wNoP, wPart, reduceCtorEq, false_and, exists_false, or_false, i_addL, cut1, cutr, aty, i_pr0, i_pr1, wVar, wC, wOp, wUn, wCl, wB, wTr, wAnd, wOr, wNot, wAndV, wOrV, wNotV, wIf, wCh, wNil, wCons, wTup, wLe, wSz, wFn, wFnJ, wNext, wRet, wRetN, wDrop, wIfS, wSet, wSetOwn, wNever, wAug, wOpO, wOpR, wClO, wApp, wSetIt, wFrz, wFor, wRg1, wRg2, wSq, wEnum, wZip, wgN, wgT, wgNil, wgCons, wYes, wAsgT, wgLs, wLenS, wIxS, wFnS, wIsi, wListOf, wRev, edP, edJ, enP, enJ, enS, NotOwn, Flat, List.map_cons, List.map_nil, List.length_cons, List.length_nil, List.replicate_succ, List.replicate_zero, List.cons_append, List.nil_append, List.append_nil, List.set_cons_zero, List.set_cons_succ, List.getElem?_cons_zero, List.getElem?_cons_succ, Nat.reduceAdd, Nat.reduceSub, Option.some.injEq, Sl.imm.injEq, Sl.own.injEq, Sl.scr.injEq, exists_eq_left, exists_eq_left', exists_eq_right, exists_eq, exists_eq', exists_and_left, and_assoc, and_true, true_and, ne_eq, not_false_eq_true, Nat.succ_ne_zero, or_true, true_or, true_implies, forall_eq', forall_eq, PyData.int.injEq, PyData.bool.injEq, PyData.list.injEq, PyData.tuple.injEq, List.cons.injEq, i_add, i_iadd, i_sub, i_mul, i_mod, i_fdiv, i_fdivG, i_pow, i_neg, i_le, i_ge, i_gt, i_lt, i_eq, i_ne, i_intI, i_intB, i_abs, i_max, i_min, i_lenL, i_lenT, i_ixL, i_ixT, i_tupL, i_tupT, i_truB, Bool.not_true, Bool.not_false, Bool.false_eq_true, if_true, if_false, reduceIte]
    rw [ea, eb]
    refine ⟨by rw [List.length_map]; exact Nat.le_trans (by omega : ls.length + 1 ≤ 13) (by decide), mean_q oa (by simp) (by rw [List.length_append, List.length_singleton]; omega) ?_⟩
    refine ⟨small_l (by decide) (by decide), by decide, by decide, by rw [List.length_map]; exact Nat.le_trans (by omega : 1 + yt.length ≤ 13) (by decide), mean_q ob (by simp) (by rw [List.length_cons]; omega) ?_⟩
    rw [mab]
    simp only [i_neF, not_true_eq_false, decide_false, wVar, wC, wOp, wUn, wCl, wB, wTr, wAnd, wOr, wNot, wAndV, wOrV, wNotV, wIf, wCh, wNil, wCons, wTup, wLe, wSz, wFn, wFnJ, wNext, wRet, wRetN, wDrop, wIfS, wSet, wSetOwn, wNever, wAug, wOpO, wOpR, wClO, wApp, wSetIt, wFrz, wFor, wRg1, wRg2, wSq, wEnum, wZip, wgN, wgT, wgNil, wgCons, wYes, wAsgT, wgLs, wLenS, wIxS, wFnS, wIsi, wListOf, wRev, edP, edJ, enP, enJ, enS, NotOwn, Flat, List.map_cons, List.map_nil, List.length_cons, List.length_nil, List.replicate_succ, List.replicate_zero, List.cons_append, List.nil_append, List.append_nil, List.set_cons_zero, List.set_cons_succ, List.getElem?_cons_zero, List.getElem?_cons_succ, Nat.reduceAdd, Nat.reduceSub, Option.some.injEq, Sl.imm.injEq, Sl.own.injEq, Sl.scr.injEq, exists_eq_left, exists_eq_left', exists_eq_right, exists_eq, exists_eq', exists_and_left, and_assoc, and_true, true_and, ne_eq, not_false_eq_true, Nat.succ_ne_zero, or_true, true_or, true_implies, forall_eq', forall_eq, PyData.int.injEq, PyData.bool.injEq, PyData.list.injEq, PyData.tuple.injEq, List.cons.injEq, i_add, i_iadd, i_sub, i_mul, i_mod, i_fdiv, i_fdivG, i_pow, i_neg, i_le, i_ge, i_gt, i_lt, i_eq, i_ne, i_intI, i_intB, i_abs, i_max, i_min, i_lenL, i_lenT, i_ixL, i_ixT, i_tupL, i_tupT, i_truB, Bool.not_true, Bool.not_false, Bool.false_eq_true, if_true, if_false, reduceIte]
    exact right_end n1 n2 hx1 k1 k2 h4 trivial hx tm fin
  · exact right_end n1 n2 hx1 k1 k2 h4 trivial hx tm fin
theorem in_loop {ns : List Int} {d : D} {s4 : Sl} {R : Ed} : ∀ (xs : List D) (s3 : Sl) (g m c : Int), (∀ (s3 : Sl) (g m c : Int), R.nx [.scr ns, .imm d, .own [.int g, .int m, .int c], s3, s4]) →
    forW (wgN 3) (wIfS (wNot (wTr (wFnJ 2 1 wf__law_right wNil))) (wRet (wC (.bool false))) wNext) R xs [.scr ns, .imm d, .own [.int g, .int m, .int c], s3, s4]
  | [], s3, g, m, c, q => q s3 g m c
  | x :: xs, s3, g, m, c, q => by
    unfold forW
    simp only [wf__law_right, wVar, wC, wOp, wUn, wCl, wB, wTr, wAnd, wOr, wNot, wAndV, wOrV, wNotV, wIf, wCh, wNil, wCons, wTup, wLe, wSz, wFn, wFnJ, wNext, wSeq, wRet, wRetN, wDrop, wIfS, wSet, wSetOwn, wNever, wAug, wOpO, wOpR, wClO, wApp, wSetIt, wFrz, wFor, wRg1, wRg2, wSq, wEnum, wZip, wgN, wgT, wgNil, wgCons, wYes, wAsgT, wgLs, wLenS, wIxS, wFnS, wIsi, wListOf, wRev, edP, edJ, enP, enJ, enS, NotOwn, Flat, List.map_cons, List.map_nil, List.length_cons, List.length_nil, List.replicate_succ, List.replicate_zero, List.cons_append, List.nil_append, List.append_nil, List.set_cons_zero, List.set_cons_succ, List.getElem?_cons_zero, List.getElem?_cons_succ, Nat.reduceAdd, Nat.reduceSub, Option.some.injEq, Sl.imm.injEq, Sl.own.injEq, Sl.scr.injEq, exists_eq_left, exists_eq_left', exists_eq_right, exists_eq, exists_eq', exists_and_left, and_assoc, and_true, true_and, ne_eq, not_false_eq_true, Nat.succ_ne_zero, or_true, true_or, true_implies, forall_eq', forall_eq, PyData.int.injEq, PyData.bool.injEq, PyData.list.injEq, PyData.tuple.injEq, List.cons.injEq, i_add, i_iadd, i_sub, i_mul, i_mod, i_fdiv, i_fdivG, i_pow, i_neg, i_le, i_ge, i_gt, i_lt, i_eq, i_ne, i_intI, i_intB, i_abs, i_max, i_min, i_lenL, i_lenT, i_ixL, i_ixT, i_tupL, i_tupT, i_truB, Bool.not_true, Bool.not_false, Bool.false_eq_true, if_true, if_false, reduceIte]
    exact fun g m c => in_loop xs _ g m c q
theorem out_loop {ns : List Int} {s4 : Sl} {R : Ed} : ∀ (xs : List D), (∀ x ∈ xs, ∃ i : Nat, x = .int i) → ∀ (s1 s2 s3 : Sl), (∀ (s1 s2 s3 : Sl), R.nx [.scr ns, s1, s2, s3, s4]) →
    forW (wgN 1) (wSeq (wSetOwn 2 (wFnS 0 2 wf__law_jug (wCons (wVar 1) wNil))) (wFor (wRg1 (wCons (wC (.int 4)) wNil)) (wgN 3) (wIfS (wNot (wTr (wFnJ 2 1 wf__law_right wNil))) (wRet (wC (.bool false))) wNext))) R xs [.scr ns, s1, s2, s3, s4]
  | [], _, s1, s2, s3, q => q s1 s2 s3
  | x :: xs, hx, s1, s2, s3, q => by
    obtain ⟨i, rfl⟩ := hx x List.mem_cons_self
    unfold forW
    simp only [wf__law_jug, wVar, wC, wOp, wUn, wCl, wB, wTr, wAnd, wOr, wNot, wAndV, wOrV, wNotV, wIf, wCh, wNil, wCons, wTup, wLe, wSz, wFn, wFnJ, wNext, wSeq, wRet, wRetN, wDrop, wIfS, wSet, wSetOwn, wNever, wAug, wOpO, wOpR, wClO, wApp, wSetIt, wFrz, wFor, wRg1, wRg2, wSq, wEnum, wZip, wgN, wgT, wgNil, wgCons, wYes, wAsgT, wgLs, wLenS, wIxS, wFnS, wIsi, wListOf, wRev, edP, edJ, enP, enJ, enS, NotOwn, Flat, List.map_cons, List.map_nil, List.length_cons, List.length_nil, List.replicate_succ, List.replicate_zero, List.cons_append, List.nil_append, List.append_nil, List.set_cons_zero, List.set_cons_succ, List.getElem?_cons_zero, List.getElem?_cons_succ, Nat.reduceAdd, Nat.reduceSub, Option.some.injEq, Sl.imm.injEq, Sl.own.injEq, Sl.scr.injEq, exists_eq_left, exists_eq_left', exists_eq_right, exists_eq, exists_eq', exists_and_left, and_assoc, and_true, true_and, ne_eq, not_false_eq_true, Nat.succ_ne_zero, or_true, true_or, true_implies, forall_eq', forall_eq, PyData.int.injEq, PyData.bool.injEq, PyData.list.injEq, PyData.tuple.injEq, List.cons.injEq, i_add, i_iadd, i_sub, i_mul, i_mod, i_fdiv, i_fdivG, i_pow, i_neg, i_le, i_ge, i_gt, i_lt, i_eq, i_ne, i_intI, i_intB, i_abs, i_max, i_min, i_lenL, i_lenT, i_ixL, i_ixT, i_tupL, i_tupT, i_truB, Bool.not_true, Bool.not_false, Bool.false_eq_true, if_true, if_false, reduceIte]
    refine ⟨ns, [(i : Int)], rfl, rfl, rfl, i, rfl, fun g m c => ⟨[g, m, c], rfl, by decide, by decide, ?_⟩⟩
    exact in_loop _ _ g m c fun s3 g m c => out_loop xs (fun x hx' => hx x (List.mem_cons_of_mem _ hx')) _ _ _ q
theorem rng_nat {n : Nat} : ∀ x ∈ rngD 0 n, ∃ i : Nat, x = .int i ∧ i < n := fun x hx => by
  obtain ⟨i, hi⟩ := List.getElem?_of_mem hx
  obtain ⟨e, h⟩ := rngD_get hi
  exact ⟨i, by rw [e, Int.zero_add], h⟩
theorem fr_of {q : Rat} {t b : Int} (h1 : q.num = t) (h2 : (q.den : Int) = b) : PyData.tuple [.int t, .int b] = fr q := by unfold fr; rw [h1, h2]
theorem pu_law (ns ds Q) (hl : ds.length + 1 = 1) (h : wf_law ns ds Q) : ws_law (edP Q) (enS N_law ns ds) := by
  obtain ⟨rfl, hn, q⟩ := h
  unfold ws_law
  (try dsimp only); rw [wSeq_eq]; simp only [N_law, wVar, wC, wOp, wUn, wCl, wB, wTr, wAnd, wOr, wNot, wAndV, wOrV, wNotV, wIf, wCh, wNil, wCons, wTup, wLe, wSz, wFn, wFnJ, wNext, wRet, wRetN, wDrop, wIfS, wSet, wSetOwn, wNever, wAug, wOpO, wOpR, wClO, wApp, wSetIt, wFrz, wFor, wRg1, wRg2, wSq, wEnum, wZip, wgN, wgT, wgNil, wgCons, wYes, wAsgT, wgLs, wLenS, wIxS, wFnS, wIsi, wListOf, wRev, edP, edJ, enP, enJ, enS, NotOwn, Flat, List.map_cons, List.map_nil, List.length_cons, List.length_nil, List.replicate_succ, List.replicate_zero, List.cons_append, List.nil_append, List.append_nil, List.set_cons_zero, List.set_cons_succ, List.getElem?_cons_zero, List.getElem?_cons_succ, Nat.reduceAdd, Nat.reduceSub, Option.some.injEq, Sl.imm.injEq, Sl.own.injEq, Sl.scr.injEq, exists_eq_left, exists_eq_left', exists_eq_right, exists_eq, exists_eq', exists_and_left, and_assoc, and_true, true_and, ne_eq, not_false_eq_true, Nat.succ_ne_zero, or_true, true_or, true_implies, forall_eq', forall_eq, PyData.int.injEq, PyData.bool.injEq, PyData.list.injEq, PyData.tuple.injEq, List.cons.injEq, i_add, i_iadd, i_sub, i_mul, i_mod, i_fdiv, i_fdivG, i_pow, i_neg, i_le, i_ge, i_gt, i_lt, i_eq, i_ne, i_intI, i_intB, i_abs, i_max, i_min, i_lenL, i_lenT, i_ixL, i_ixT, i_tupL, i_tupT, i_truB, Bool.not_true, Bool.not_false, Bool.false_eq_true, if_true, if_false, reduceIte]
  refine ⟨by split <;> (try split) <;> omega, by split <;> (try split) <;> omega, ?_⟩
  refine out_loop _ (fun x hx => (rng_nat x hx).imp fun _ h => h.1) _ _ _ fun s1 s2 s3 => ?_
  have f11 : PyData.tuple [.int 1, .int 1] = fr 1 := fr_of (by decide +kernel) (by decide +kernel)
  have f12 : PyData.tuple [.int 1, .int 2] = fr (Rat.divInt 1 2) := fr_of (by decide +kernel) (by decide +kernel)
  have f13 : PyData.tuple [.int 1, .int 3] = fr (Rat.divInt 1 3) := fr_of (by decide +kernel) (by decide +kernel)
  have f16 : PyData.tuple [.int 1, .int 6] = fr (Rat.divInt 1 6) := fr_of (by decide +kernel) (by decide +kernel)
  have f15 : PyData.tuple [.int 1, .int 5] = fr (Rat.divInt 1 5) := fr_of (by decide +kernel) (by decide +kernel)
  have f100 : PyData.tuple [.int 1, .int 100] = fr (Rat.divInt 1 100) := fr_of (by decide +kernel) (by decide +kernel)
  have f21 : PyData.tuple [.int 2, .int 1] = fr 2 := fr_of (by decide +kernel) (by decide +kernel)
  have f41 : PyData.tuple [.int 4, .int 1] = fr 4 := fr_of (by decide +kernel) (by decide +kernel)
  (try dsimp only); rw [wSeq_eq]; simp only [sz0, sz1, sz2, sz3, sz4, sz5, sz6, sz7, sz8, sz9, sz10, sz11, sz12, sz13, sz14, sz15, sz16, sz17, sz18, sz19, sz20, sz21, sz22, sz23, sz24, sz25, sz26, sz27, sz28, sz29, sz30, sz31, sz32, sz33, sz34, sz35, sz36, sz37, sz38, sz39, sz40, f11, f12, f13, f16, f100, fr_0, wVar, wC, wOp, wUn, wCl, wB, wTr, wAnd, wOr, wNot, wAndV, wOrV, wNotV, wIf, wCh, wNil, wCons, wTup, wLe, wSz, wFn, wFnJ, wNext, wRet, wRetN, wDrop, wIfS, wSet, wSetOwn, wNever, wAug, wOpO, wOpR, wClO, wApp, wSetIt, wFrz, wFor, wRg1, wRg2, wSq, wEnum, wZip, wgN, wgT, wgNil, wgCons, wYes, wAsgT, wgLs, wLenS, wIxS, wFnS, wIsi, wListOf, wRev, edP, edJ, enP, enJ, enS, NotOwn, Flat, List.map_cons, List.map_nil, List.length_cons, List.length_nil, List.replicate_succ, List.replicate_zero, List.cons_append, List.nil_append, List.append_nil, List.set_cons_zero, List.set_cons_succ, List.getElem?_cons_zero, List.getElem?_cons_succ, Nat.reduceAdd, Nat.reduceSub, Option.some.injEq, Sl.imm.injEq, Sl.own.injEq, Sl.scr.injEq, exists_eq_left, exists_eq_left', exists_eq_right, exists_eq, exists_eq', exists_and_left, and_assoc, and_true, true_and, ne_eq, not_false_eq_true, Nat.succ_ne_zero, or_true, true_or, true_implies, forall_eq', forall_eq, PyData.int.injEq, PyData.bool.injEq, PyData.list.injEq, PyData.tuple.injEq, List.cons.injEq, i_add, i_iadd, i_sub, i_mul, i_mod, i_fdiv, i_fdivG, i_pow, i_neg, i_le, i_ge, i_gt, i_lt, i_eq, i_ne, i_intI, i_intB, i_abs, i_max, i_min, i_lenL, i_lenT, i_ixL, i_ixT, i_tupL, i_tupT, i_truB, Bool.not_true, Bool.not_false, Bool.false_eq_true, if_true, if_false, reduceIte]
  have bsm : ∀ {N M : Nat} {q : Rat}, Bn N M q → N < TN → M < TN → Sm TN q := fun h a b => h.sm a b
  have c3 : ∀ r ∈ [Rat.divInt 1 2, Rat.divInt 1 3, Rat.divInt 1 6], Bn 6 6 r := fun r hr => by
    simp only [List.mem_cons, List.not_mem_nil, or_false] at hr
    rcases hr with rfl | rfl | rfl <;> exact ⟨by decide +kernel, by decide +kernel⟩
  refine ⟨[Rat.divInt 1 2, Rat.divInt 1 3, Rat.divInt 1 6], rfl, by decide, fun r hr => bsm (c3 r hr) (by decide +kernel) (by decide +kernel), (way0 (n := 3) c3 (by decide) (by decide) (by decide +kernel) (by decide +kernel) (by decide +kernel) (by decide +kernel)).1, ?_⟩
  rw [show rsum 0 [Rat.divInt 1 2, Rat.divInt 1 3, Rat.divInt 1 6] = 1 by decide +kernel]
  simp only [i_neF, not_true_eq_false, decide_false, wVar, wC, wOp, wUn, wCl, wB, wTr, wAnd, wOr, wNot, wAndV, wOrV, wNotV, wIf, wCh, wNil, wCons, wTup, wLe, wSz, wFn, wFnJ, wNext, wRet, wRetN, wDrop, wIfS, wSet, wSetOwn, wNever, wAug, wOpO, wOpR, wClO, wApp, wSetIt, wFrz, wFor, wRg1, wRg2, wSq, wEnum, wZip, wgN, wgT, wgNil, wgCons, wYes, wAsgT, wgLs, wLenS, wIxS, wFnS, wIsi, wListOf, wRev, edP, edJ, enP, enJ, enS, NotOwn, Flat, List.map_cons, List.map_nil, List.length_cons, List.length_nil, List.replicate_succ, List.replicate_zero, List.cons_append, List.nil_append, List.append_nil, List.set_cons_zero, List.set_cons_succ, List.getElem?_cons_zero, List.getElem?_cons_succ, Nat.reduceAdd, Nat.reduceSub, Option.some.injEq, Sl.imm.injEq, Sl.own.injEq, Sl.scr.injEq, exists_eq_left, exists_eq_left', exists_eq_right, exists_eq, exists_eq', exists_and_left, and_assoc, and_true, true_and, ne_eq, not_false_eq_true, Nat.succ_ne_zero, or_true, true_or, true_implies, forall_eq', forall_eq, PyData.int.injEq, PyData.bool.injEq, PyData.list.injEq, PyData.tuple.injEq, List.cons.injEq, i_add, i_iadd, i_sub, i_mul, i_mod, i_fdiv, i_fdivG, i_pow, i_neg, i_le, i_ge, i_gt, i_lt, i_eq, i_ne, i_intI, i_intB, i_abs, i_max, i_min, i_lenL, i_lenT, i_ixL, i_ixT, i_tupL, i_tupT, i_truB, Bool.not_true, Bool.not_false, Bool.false_eq_true, if_true, if_false, reduceIte]
  refine ⟨[], rfl, by decide, (fun r hr => by cases hr), ⟨by decide +kernel, by decide +kernel⟩, ?_⟩
  rw [show rsum 0 [] = 0 from rfl]
  simp only [i_neF, not_true_eq_false, decide_false, wVar, wC, wOp, wUn, wCl, wB, wTr, wAnd, wOr, wNot, wAndV, wOrV, wNotV, wIf, wCh, wNil, wCons, wTup, wLe, wSz, wFn, wFnJ, wNext, wRet, wRetN, wDrop, wIfS, wSet, wSetOwn, wNever, wAug, wOpO, wOpR, wClO, wApp, wSetIt, wFrz, wFor, wRg1, wRg2, wSq, wEnum, wZip, wgN, wgT, wgNil, wgCons, wYes, wAsgT, wgLs, wLenS, wIxS, wFnS, wIsi, wListOf, wRev, edP, edJ, enP, enJ, enS, NotOwn, Flat, List.map_cons, List.map_nil, List.length_cons, List.length_nil, List.replicate_succ, List.replicate_zero, List.cons_append, List.nil_append, List.append_nil, List.set_cons_zero, List.set_cons_succ, List.getElem?_cons_zero, List.getElem?_cons_succ, Nat.reduceAdd, Nat.reduceSub, Option.some.injEq, Sl.imm.injEq, Sl.own.injEq, Sl.scr.injEq, exists_eq_left, exists_eq_left', exists_eq_right, exists_eq, exists_eq', exists_and_left, and_assoc, and_true, true_and, ne_eq, not_false_eq_true, Nat.succ_ne_zero, or_true, true_or, true_implies, forall_eq', forall_eq, PyData.int.injEq, PyData.bool.injEq, PyData.list.injEq, PyData.tuple.injEq, List.cons.injEq, i_add, i_iadd, i_sub, i_mul, i_mod, i_fdiv, i_fdivG, i_pow, i_neg, i_le, i_ge, i_gt, i_lt, i_eq, i_ne, i_intI, i_intB, i_abs, i_max, i_min, i_lenL, i_lenT, i_ixL, i_ixT, i_tupL, i_tupT, i_truB, Bool.not_true, Bool.not_false, Bool.false_eq_true, if_true, if_false, reduceIte]
  have c100 : ∀ r ∈ List.replicate 100 (Rat.divInt 1 100), Bn 1 100 r := fun r hr => by
    rw [List.eq_of_mem_replicate hr]
    exact ⟨by decide +kernel, by decide +kernel⟩
  refine ⟨_, Or.inr (Or.inl ⟨_, 100, rfl, rfl, by simp, by decide, by decide, by simp, rfl⟩), List.replicate 100 (Rat.divInt 1 100), rfl, by decide, fun r hr => bsm (c100 r hr) (by decide +kernel) (by decide +kernel), (way0 (n := 100) c100 (by decide) (by decide) (by decide +kernel) (by decide +kernel) (by decide +kernel) (by decide +kernel)).1, ?_⟩
  rw [show rsum 0 (List.replicate 100 (Rat.divInt 1 100)) = 1 by decide +kernel]
  simp only [i_neF, not_true_eq_false, decide_false, wVar, wC, wOp, wUn, wCl, wB, wTr, wAnd, wOr, wNot, wAndV, wOrV, wNotV, wIf, wCh, wNil, wCons, wTup, wLe, wSz, wFn, wFnJ, wNext, wRet, wRetN, wDrop, wIfS, wSet, wSetOwn, wNever, wAug, wOpO, wOpR, wClO, wApp, wSetIt, wFrz, wFor, wRg1, wRg2, wSq, wEnum, wZip, wgN, wgT, wgNil, wgCons, wYes, wAsgT, wgLs, wLenS, wIxS, wFnS, wIsi, wListOf, wRev, edP, edJ, enP, enJ, enS, NotOwn, Flat, List.map_cons, List.map_nil, List.length_cons, List.length_nil, List.replicate_succ, List.replicate_zero, List.cons_append, List.nil_append, List.append_nil, List.set_cons_zero, List.set_cons_succ, List.getElem?_cons_zero, List.getElem?_cons_succ, Nat.reduceAdd, Nat.reduceSub, Option.some.injEq, Sl.imm.injEq, Sl.own.injEq, Sl.scr.injEq, exists_eq_left, exists_eq_left', exists_eq_right, exists_eq, exists_eq', exists_and_left, and_assoc, and_true, true_and, ne_eq, not_false_eq_true, Nat.succ_ne_zero, or_true, true_or, true_implies, forall_eq', forall_eq, PyData.int.injEq, PyData.bool.injEq, PyData.list.injEq, PyData.tuple.injEq, List.cons.injEq, i_add, i_iadd, i_sub, i_mul, i_mod, i_fdiv, i_fdivG, i_pow, i_neg, i_le, i_ge, i_gt, i_lt, i_eq, i_ne, i_intI, i_intB, i_abs, i_max, i_min, i_lenL, i_lenT, i_ixL, i_ixT, i_tupL, i_tupT, i_truB, Bool.not_true, Bool.not_false, Bool.false_eq_true, if_true, if_false, reduceIte]
  (try dsimp only); rw [wSeq_eq]; simp only [sz0, sz1, sz2, sz3, sz4, sz5, sz6, sz7, sz8, sz9, sz10, sz11, sz12, sz13, sz14, sz15, sz16, sz17, sz18, sz19, sz20, sz21, sz22, sz23, sz24, sz25, sz26, sz27, sz28, sz29, sz30, sz31, sz32, sz33, sz34, sz35, sz36, sz37, sz38, sz39, sz40, f21, f41, f12, f15, f13, wVar, wC, wOp, wUn, wCl, wB, wTr, wAnd, wOr, wNot, wAndV, wOrV, wNotV, wIf, wCh, wNil, wCons, wTup, wLe, wSz, wFn, wFnJ, wNext, wRet, wRetN, wDrop, wIfS, wSet, wSetOwn, wNever, wAug, wOpO, wOpR, wClO, wApp, wSetIt, wFrz, wFor, wRg1, wRg2, wSq, wEnum, wZip, wgN, wgT, wgNil, wgCons, wYes, wAsgT, wgLs, wLenS, wIxS, wFnS, wIsi, wListOf, wRev, edP, edJ, enP, enJ, enS, NotOwn, Flat, List.map_cons, List.map_nil, List.length_cons, List.length_nil, List.replicate_succ, List.replicate_zero, List.cons_append, List.nil_append, List.append_nil, List.set_cons_zero, List.set_cons_succ, List.getElem?_cons_zero, List.getElem?_cons_succ, Nat.reduceAdd, Nat.reduceSub, Option.some.injEq, Sl.imm.injEq, Sl.own.injEq, Sl.scr.injEq, exists_eq_left, exists_eq_left', exists_eq_right, exists_eq, exists_eq', exists_and_left, and_assoc, and_true, true_and, ne_eq, not_false_eq_true, Nat.succ_ne_zero, or_true, true_or, true_implies, forall_eq', forall_eq, PyData.int.injEq, PyData.bool.injEq, PyData.list.injEq, PyData.tuple.injEq, List.cons.injEq, i_add, i_iadd, i_sub, i_mul, i_mod, i_fdiv, i_fdivG, i_pow, i_neg, i_le, i_ge, i_gt, i_lt, i_eq, i_ne, i_intI, i_intB, i_abs, i_max, i_min, i_lenL, i_lenT, i_ixL, i_ixT, i_tupL, i_tupT, i_truB, Bool.not_true, Bool.not_false, Bool.false_eq_true, if_true, if_false, reduceIte]
  have o1 : ∀ x ∈ [((1 : Int), (2 : Rat)), ((3 : Int), (4 : Rat))], Ok1 x := fun x h => by
    simp only [List.mem_cons, List.not_mem_nil, or_false] at h
    rcases h with rfl | rfl <;> exact ⟨by decide, by decide, by decide +kernel, by decide +kernel⟩
  have o2 : ∀ x ∈ [((2 : Int), Rat.divInt 1 2), ((1 : Int), Rat.divInt 1 5)], Ok1 x := fun x h => by
    simp only [List.mem_cons, List.not_mem_nil, or_false] at h
    rcases h with rfl | rfl <;> exact ⟨by decide, by decide, by decide +kernel, by decide +kernel⟩
  rw [show PyData.tuple [PyData.tuple [.int 1, fr 2], PyData.tuple [.int 3, fr 4]] = .tuple ([((1 : Int), (2 : Rat)), ((3 : Int), (4 : Rat))].map pr) from rfl,
    show PyData.tuple [PyData.tuple [.int 2, fr (Rat.divInt 1 2)], PyData.tuple [.int 1, fr (Rat.divInt 1 5)]] = .tuple ([((2 : Int), Rat.divInt 1 2), ((1 : Int), Rat.divInt 1 5)].map pr) from rfl]
  refine mean_q o1 (by simp) (by simp) (mean_q o2 (by simp) (by simp) ?_)
  have e9 : (10 : Int) ^ Int.toNat 9 = 1000000000 := by decide +kernel
  have p9 : PowOk 10 9 := pow_ok (by decide +kernel)
  simp only [e9, p9, wVar, wC, wOp, wUn, wCl, wB, wTr, wAnd, wOr, wNot, wAndV, wOrV, wNotV, wIf, wCh, wNil, wCons, wTup, wLe, wSz, wFn, wFnJ, wNext, wRet, wRetN, wDrop, wIfS, wSet, wSetOwn, wNever, wAug, wOpO, wOpR, wClO, wApp, wSetIt, wFrz, wFor, wRg1, wRg2, wSq, wEnum, wZip, wgN, wgT, wgNil, wgCons, wYes, wAsgT, wgLs, wLenS, wIxS, wFnS, wIsi, wListOf, wRev, edP, edJ, enP, enJ, enS, NotOwn, Flat, List.map_cons, List.map_nil, List.length_cons, List.length_nil, List.replicate_succ, List.replicate_zero, List.cons_append, List.nil_append, List.append_nil, List.set_cons_zero, List.set_cons_succ, List.getElem?_cons_zero, List.getElem?_cons_succ, Nat.reduceAdd, Nat.reduceSub, Option.some.injEq, Sl.imm.injEq, Sl.own.injEq, Sl.scr.injEq, exists_eq_left, exists_eq_left', exists_eq_right, exists_eq, exists_eq', exists_and_left, and_assoc, and_true, true_and, ne_eq, not_false_eq_true, Nat.succ_ne_zero, or_true, true_or, true_implies, forall_eq', forall_eq, PyData.int.injEq, PyData.bool.injEq, PyData.list.injEq, PyData.tuple.injEq, List.cons.injEq, i_add, i_iadd, i_sub, i_mul, i_mod, i_fdiv, i_fdivG, i_pow, i_neg, i_le, i_ge, i_gt, i_lt, i_eq, i_ne, i_intI, i_intB, i_abs, i_max, i_min, i_lenL, i_lenT, i_ixL, i_ixT, i_tupL, i_tupT, i_truB, Bool.not_true, Bool.not_false, Bool.false_eq_true, if_true, if_false, reduceIte]
  have o3 : ∀ x ∈ List.replicate 100 ((1000000000 : Int), Rat.divInt 1 3), Ok1 x := fun x h => by
    rw [List.eq_of_mem_replicate h]
    exact ⟨by decide, by decide, by decide +kernel, by decide +kernel⟩
  have w3 : ∀ r ∈ ws (List.replicate 100 ((1000000000 : Int), Rat.divInt 1 3)), Bn (10 ^ 9) 3 r := fun r hr => by
    obtain ⟨x, hx, rfl⟩ := List.mem_map.mp hr
    rw [List.eq_of_mem_replicate hx]
    exact ⟨by decide +kernel, by decide +kernel⟩
  refine ⟨_, Or.inr (Or.inl ⟨_, 100, rfl, rfl, by simp, by decide, by decide, by simp, rfl⟩), List.replicate 100 ((1000000000 : Int), Rat.divInt 1 3), rfl, by decide, by decide, fun x h => ok_cnt (o3 x h), (way0 (n := 100) w3 (by unfold ws; rw [List.length_map]; decide) (by decide) (by decide +kernel) (by decide +kernel) (by decide +kernel) (by decide +kernel)).1, ?_⟩
  have r1 : PyData.tuple [.int 7, .int 2] = fr (mn [((1 : Int), (2 : Rat)), ((3 : Int), (4 : Rat))]) := fr_of (by decide +kernel) (by decide +kernel)
  have r2 : PyData.tuple [.int 2, .int 5] = fr (mn [((2 : Int), Rat.divInt 1 2), ((1 : Int), Rat.divInt 1 5)]) := fr_of (by decide +kernel) (by decide +kernel)
  have m3 : mn (List.replicate 100 ((1000000000 : Int), Rat.divInt 1 3)) = Rat.divInt 1 3 := mn_same (by decide +kernel) fun x h => by rw [List.eq_of_mem_replicate h]
  rw [m3]
  simp only [sz0, sz1, sz2, sz3, sz4, sz5, sz6, sz7, sz8, sz9, sz10, sz11, sz12, sz13, sz14, sz15, sz16, sz17, sz18, sz19, sz20, sz21, sz22, sz23, sz24, sz25, sz26, sz27, sz28, sz29, sz30, sz31, sz32, sz33, sz34, sz35, sz36, sz37, sz38, sz39, sz40, f13, r1, r2, wVar, wC, wOp, wUn, wCl, wB, wTr, wAnd, wOr, wNot, wAndV, wOrV, wNotV, wIf, wCh, wNil, wCons, wTup, wLe, wSz, wFn, wFnJ, wNext, wRet, wRetN, wDrop, wIfS, wSet, wSetOwn, wNever, wAug, wOpO, wOpR, wClO, wApp, wSetIt, wFrz, wFor, wRg1, wRg2, wSq, wEnum, wZip, wgN, wgT, wgNil, wgCons, wYes, wAsgT, wgLs, wLenS, wIxS, wFnS, wIsi, wListOf, wRev, edP, edJ, enP, enJ, enS, NotOwn, Flat, List.map_cons, List.map_nil, List.length_cons, List.length_nil, List.replicate_succ, List.replicate_zero, List.cons_append, List.nil_append, List.append_nil, List.set_cons_zero, List.set_cons_succ, List.getElem?_cons_zero, List.getElem?_cons_succ, Nat.reduceAdd, Nat.reduceSub, Option.some.injEq, Sl.imm.injEq, Sl.own.injEq, Sl.scr.injEq, exists_eq_left, exists_eq_left', exists_eq_right, exists_eq, exists_eq', exists_and_left, and_assoc, and_true, true_and, ne_eq, not_false_eq_true, Nat.succ_ne_zero, or_true, true_or, true_implies, forall_eq', forall_eq, PyData.int.injEq, PyData.bool.injEq, PyData.list.injEq, PyData.tuple.injEq, List.cons.injEq, i_add, i_iadd, i_sub, i_mul, i_mod, i_fdiv, i_fdivG, i_pow, i_neg, i_le, i_ge, i_gt, i_lt, i_eq, i_ne, i_intI, i_intB, i_abs, i_max, i_min, i_lenL, i_lenT, i_ixL, i_ixT, i_tupL, i_tupT, i_truB, Bool.not_true, Bool.not_false, Bool.false_eq_true, if_true, if_false, reduceIte]
  exact ⟨.bool true, (eq_self' (by rfl) (by rfl)).mpr rfl, q⟩
end K13

set_option Elab.async false
set_option linter.all false
set_option maxRecDepth 100000
set_option maxHeartbeats 0
namespace K13
open PySem PySem.Spec PyProof.Rows L2 Pd
def dd (x : Str) (i : Nat) : He.DefD := ⟨(x, none), x, x, defArgs (top i), defBody (top i), defScope (top i), [], []⟩
def fn : List He.DefD := [dd "is_whole" 7, dd "is_integer" 8, dd "is_between" 9, dd "is_fraction" 13, dd "are_fractions" 14, dd "check_fraction" 15, dd "check_two" 16, dd "lowest" 17, dd "sum_of_two" 18, dd "product_of_two" 19, dd "total" 20, dd "plus" 21, dd "times" 22, dd "added" 23, dd "is_counted" 24, dd "are_counted" 25, dd "mean" 26, dd "_law_jug" 28, dd "_law_pour" 29, dd "_law_sip" 30, dd "_law_stirred" 31, dd "_law_fu_shared" 32, dd "_law_fu_part" 33, dd "_law_fu_plus" 34, dd "_law_fu_times" 35, dd "_law_fu_below" 36, dd "_law_ta_fraction" 37, dd "_law_sum" 38, dd "_law_mean" 39, dd "_law_between" 40, dd "_law_right" 41, dd "law" 42]
def fa : List He.Fa := [.glo "is_whole", .glo "is_integer", .glo "is_between", .glo "is_fraction", .glo "are_fractions", .glo "check_fraction", .glo "check_two", .glo "lowest", .glo "sum_of_two", .glo "product_of_two", .glo "total", .glo "plus", .glo "times", .glo "added", .glo "is_counted", .glo "are_counted", .glo "mean", .glo "_law_jug", .glo "_law_pour", .glo "_law_sip", .glo "_law_stirred", .glo "_law_fu_shared", .glo "_law_fu_part", .glo "_law_fu_plus", .glo "_law_fu_times", .glo "_law_fu_below", .glo "_law_ta_fraction", .glo "_law_sum", .glo "_law_mean", .glo "_law_between", .glo "_law_right", .glo "law", .int "MOST_ADDED" 100, .int "MOST_TIMES" 1000000000, .int "TOO_LONG" 1000000000000000000000000000000000000000000000000000000000000, .free "abs", .free "all", .free "bool", .free "int", .free "isinstance", .free "len", .free "list", .free "max", .free "min", .free "range", .free "sum", .free "tuple", .free "zip"]
def bs : List (Str × String) := [("gcd", "math.gcd")]
abbrev R : PySem.W.OpenRow := PySem.W.OpenLaw.row RR
abbrev hk : PySem.W.Hook := hkB 4 fa fn bs
def ob (s : PySem.W.SharedT) : AlB := obBG 4 fa fn bs (HandSHeadRun.getT s)
theorem ob_eq (s : PySem.W.SharedT) : ob s = hk.obs s.abs := obB_eq (HandSHeadRun.getT_eq s)
abbrev loose : List Str := (["FetchError", "InvalidFraction", "InvalidOperation", "TOO_LONG", "is_whole", "is_integer", "is_between", "MOST_TIMES", "MOST_ADDED", "is_fraction", "are_fractions", "check_fraction", "check_two", "lowest", "sum_of_two"] : List Str) ++ (["product_of_two", "total", "plus", "times", "added", "is_counted", "are_counted", "mean", "_law_jug", "_law_pour", "_law_sip", "_law_stirred", "_law_fu_shared", "_law_fu_part", "_law_fu_plus"] : List Str) ++ (["_law_fu_times", "_law_fu_below", "_law_ta_fraction", "_law_sum", "_law_mean", "_law_between", "_law_right"] : List Str)
theorem run (w : World) : HandSHeadRun.RunEqI R (PySem.W.view R.prog [0, 42]) hk ob 9000 loose w := by
  unfold HandSHeadRun.RunEqI
  kernel_rfl
theorem facts {P : Program} {w : World} {K : PySem.W.Frag} {h : Heap} {mg : Str → Option Value} {f : Addr} (X : K.In h) (G : h.Ns mainGlobals mg) (hfa : mg ("law" : Str) = some (.ref f)) (cb : SaysB fa fn bs K) :
    ∃ fd : FuncData, (∀ (s : Shared) (v : Value), BindsTo s fd ⟨[v], []⟩ [("script", v)]) ∧ ∀ base : Heap, K.In base → base.Ns mainGlobals mg → FnOk P w K mg base CX0 8 f fd ["script"] (spS K 1 wf_law) := by
  have c := cb.d
  have T : Tb mg := ⟨He.free_ok X G (c.fact 35 (f := .free "abs") rfl), He.free_ok X G (c.fact 36 (f := .free "all") rfl), He.free_ok X G (c.fact 37 (f := .free "bool") rfl), He.free_ok X G (c.fact 38 (f := .free "int") rfl), He.free_ok X G (c.fact 39 (f := .free "isinstance") rfl), He.free_ok X G (c.fact 40 (f := .free "len") rfl), He.free_ok X G (c.fact 41 (f := .free "list") rfl), He.free_ok X G (c.fact 42 (f := .free "max") rfl), He.free_ok X G (c.fact 43 (f := .free "min") rfl), He.free_ok X G (c.fact 44 (f := .free "range") rfl), He.free_ok X G (c.fact 45 (f := .free "sum") rfl), He.free_ok X G (c.fact 46 (f := .free "tuple") rfl), He.free_ok X G (c.fact 47 (f := .free "zip") rfl), He.int_ok X G (c.fact 32 (f := .int "MOST_ADDED" 100) rfl), He.int_ok X G (c.fact 33 (f := .int "MOST_TIMES" 1000000000) rfl), He.int_ok X G (c.fact 34 (f := .int "TOO_LONG" 1000000000000000000000000000000000000000000000000000000000000) rfl), cb.bf X G 0 (b := ("gcd", "math.gcd")) rfl⟩
  obtain ⟨_, F_is_whole⟩ := c.def_ 0 (d := dd "is_whole" 7) rfl
  obtain ⟨_, F_is_integer⟩ := c.def_ 1 (d := dd "is_integer" 8) rfl
  obtain ⟨_, F_is_between⟩ := c.def_ 2 (d := dd "is_between" 9) rfl
  obtain ⟨_, F_is_fraction⟩ := c.def_ 3 (d := dd "is_fraction" 13) rfl
  obtain ⟨_, F_are_fractions⟩ := c.def_ 4 (d := dd "are_fractions" 14) rfl
  obtain ⟨_, F_check_fraction⟩ := c.def_ 5 (d := dd "check_fraction" 15) rfl
  obtain ⟨_, F_check_two⟩ := c.def_ 6 (d := dd "check_two" 16) rfl
  obtain ⟨_, F_lowest⟩ := c.def_ 7 (d := dd "lowest" 17) rfl
  obtain ⟨_, F_sum_of_two⟩ := c.def_ 8 (d := dd "sum_of_two" 18) rfl
  obtain ⟨_, F_product_of_two⟩ := c.def_ 9 (d := dd "product_of_two" 19) rfl
  obtain ⟨_, F_total⟩ := c.def_ 10 (d := dd "total" 20) rfl
  obtain ⟨_, F_plus⟩ := c.def_ 11 (d := dd "plus" 21) rfl
  obtain ⟨_, F_times⟩ := c.def_ 12 (d := dd "times" 22) rfl
  obtain ⟨_, F_added⟩ := c.def_ 13 (d := dd "added" 23) rfl
  obtain ⟨_, F_is_counted⟩ := c.def_ 14 (d := dd "is_counted" 24) rfl
  obtain ⟨_, F_are_counted⟩ := c.def_ 15 (d := dd "are_counted" 25) rfl
  obtain ⟨_, F_mean⟩ := c.def_ 16 (d := dd "mean" 26) rfl
  obtain ⟨_, F__law_jug⟩ := c.def_ 17 (d := dd "_law_jug" 28) rfl
  obtain ⟨_, F__law_pour⟩ := c.def_ 18 (d := dd "_law_pour" 29) rfl
  obtain ⟨_, F__law_sip⟩ := c.def_ 19 (d := dd "_law_sip" 30) rfl
  obtain ⟨_, F__law_stirred⟩ := c.def_ 20 (d := dd "_law_stirred" 31) rfl
  obtain ⟨_, F__law_fu_shared⟩ := c.def_ 21 (d := dd "_law_fu_shared" 32) rfl
  obtain ⟨_, F__law_fu_part⟩ := c.def_ 22 (d := dd "_law_fu_part" 33) rfl
  obtain ⟨_, F__law_fu_plus⟩ := c.def_ 23 (d := dd "_law_fu_plus" 34) rfl
  obtain ⟨_, F__law_fu_times⟩ := c.def_ 24 (d := dd "_law_fu_times" 35) rfl
  obtain ⟨_, F__law_fu_below⟩ := c.def_ 25 (d := dd "_law_fu_below" 36) rfl
  obtain ⟨_, F__law_ta_fraction⟩ := c.def_ 26 (d := dd "_law_ta_fraction" 37) rfl
  obtain ⟨_, F__law_sum⟩ := c.def_ 27 (d := dd "_law_sum" 38) rfl
  obtain ⟨_, F__law_mean⟩ := c.def_ 28 (d := dd "_law_mean" 39) rfl
  obtain ⟨_, F__law_between⟩ := c.def_ 29 (d := dd "_law_between" 40) rfl
  obtain ⟨_, F__law_right⟩ := c.def_ 30 (d := dd "_law_right" 41) rfl
  obtain ⟨fd, F⟩ := c.def_ 31 (d := dd "law" 42) rfl
  have e := hfa.symm.trans (He.glo_ok X G (c.fact 31 (f := .glo "law") rfl))
  cases e
  have b := FunD.bindsA (ps := ["script"]) F fun _ _ _ _ _ _ us hl => match us, hl with | [_], _ => rfl
  refine ⟨fd, fun s v => b s [v] rfl, fun base _ _ => ?_⟩
  have C_is_whole : Cal P w K mg base 1 "is_whole" ["value"] (spP K 1 wf_is_whole) := ok_is_whole T  F_is_whole (He.glo_ok X G (c.fact 0 (f := .glo "is_whole") rfl)) pu_is_whole
  have C_is_integer : Cal P w K mg base 2 "is_integer" ["value"] (spP K 1 wf_is_integer) := ok_is_integer T C_is_whole F_is_integer (He.glo_ok X G (c.fact 1 (f := .glo "is_integer") rfl)) pu_is_integer
  have C_is_between : Cal P w K mg base 2 "is_between" ["value", "least", "most"] (spP K 3 wf_is_between) := ok_is_between T C_is_whole F_is_between (He.glo_ok X G (c.fact 2 (f := .glo "is_between") rfl)) pu_is_between
  have C_is_fraction : Cal P w K mg base 3 "is_fraction" ["value"] (spP K 1 wf_is_fraction) := ok_is_fraction T C_is_integer F_is_fraction (He.glo_ok X G (c.fact 3 (f := .glo "is_fraction") rfl)) pu_is_fraction
  have C_are_fractions : Cal P w K mg base 4 "are_fractions" ["value", "most"] (spP K 2 wf_are_fractions) := ok_are_fractions T C_is_fraction F_are_fractions (He.glo_ok X G (c.fact 4 (f := .glo "are_fractions") rfl)) pu_are_fractions
  have C_check_fraction : Cal P w K mg base 4 "check_fraction" ["value"] (spP K 1 wf_check_fraction) := ok_check_fraction T C_is_fraction F_check_fraction (He.glo_ok X G (c.fact 5 (f := .glo "check_fraction") rfl)) pu_check_fraction
  have C_check_two : Cal P w K mg base 5 "check_two" ["one", "other"] (spP K 2 wf_check_two) := ok_check_two T C_check_fraction F_check_two (He.glo_ok X G (c.fact 6 (f := .glo "check_two") rfl)) pu_check_two
  have C_lowest : Cal P w K mg base 1 "lowest" ["top", "bottom"] (spP K 2 wf_lowest) := ok_lowest T  F_lowest (He.glo_ok X G (c.fact 7 (f := .glo "lowest") rfl)) pu_lowest
  have C_sum_of_two : Cal P w K mg base 2 "sum_of_two" ["one", "other"] (spP K 2 wf_sum_of_two) := ok_sum_of_two T C_lowest F_sum_of_two (He.glo_ok X G (c.fact 8 (f := .glo "sum_of_two") rfl)) pu_sum_of_two
  have C_product_of_two : Cal P w K mg base 2 "product_of_two" ["one", "other"] (spP K 2 wf_product_of_two) := ok_product_of_two T C_lowest F_product_of_two (He.glo_ok X G (c.fact 9 (f := .glo "product_of_two") rfl)) pu_product_of_two
  have C_total : Cal P w K mg base 3 "total" ["fractions"] (spP K 1 wf_total) := ok_total T C_sum_of_two F_total (He.glo_ok X G (c.fact 10 (f := .glo "total") rfl)) pu_total
  have C_plus : Cal P w K mg base 6 "plus" ["one", "other"] (spP K 2 wf_plus) := ok_plus T C_check_two C_sum_of_two F_plus (He.glo_ok X G (c.fact 11 (f := .glo "plus") rfl)) pu_plus
  have C_times : Cal P w K mg base 6 "times" ["one", "other"] (spP K 2 wf_times) := ok_times T C_check_two C_product_of_two F_times (He.glo_ok X G (c.fact 12 (f := .glo "times") rfl)) pu_times
  have C_added : Cal P w K mg base 5 "added" ["fractions"] (spP K 1 wf_added) := ok_added T C_are_fractions C_total F_added (He.glo_ok X G (c.fact 13 (f := .glo "added") rfl)) pu_added
  have C_is_counted : Cal P w K mg base 4 "is_counted" ["value"] (spP K 1 wf_is_counted) := ok_is_counted T C_is_fraction C_is_between F_is_counted (He.glo_ok X G (c.fact 14 (f := .glo "is_counted") rfl)) pu_is_counted
  have C_are_counted : Cal P w K mg base 5 "are_counted" ["value"] (spP K 1 wf_are_counted) := ok_are_counted T C_is_counted F_are_counted (He.glo_ok X G (c.fact 15 (f := .glo "are_counted") rfl)) pu_are_counted
  have C_mean : Cal P w K mg base 6 "mean" ["pairs"] (spP K 1 wf_mean) := ok_mean T C_are_counted C_total C_product_of_two F_mean (He.glo_ok X G (c.fact 16 (f := .glo "mean") rfl)) pu_mean
  have C__law_jug : Cal P w K mg base 1 "_law_jug" ["script", "spot"] (spS K 2 wf__law_jug) := ok__law_jug T  F__law_jug (He.glo_ok X G (c.fact 17 (f := .glo "_law_jug") rfl)) pu__law_jug
  have C__law_pour : Cal P w K mg base 1 "_law_pour" ["jug", "total_v"] (spJ K 2 wf__law_pour) := ok__law_pour T  F__law_pour (He.glo_ok X G (c.fact 18 (f := .glo "_law_pour") rfl)) pu__law_pour
  have C__law_sip : Cal P w K mg base 2 "_law_sip" ["jug", "items"] (spJ K 2 wf__law_sip) := ok__law_sip T C__law_pour F__law_sip (He.glo_ok X G (c.fact 19 (f := .glo "_law_sip") rfl)) pu__law_sip
  have C__law_stirred : Cal P w K mg base 2 "_law_stirred" ["jug", "items"] (spJ K 2 wf__law_stirred) := ok__law_stirred T C__law_pour F__law_stirred (He.glo_ok X G (c.fact 20 (f := .glo "_law_stirred") rfl)) pu__law_stirred
  have C__law_fu_shared : Cal P w K mg base 1 "_law_fu_shared" ["one", "other"] (spP K 2 wf__law_fu_shared) := ok__law_fu_shared T  F__law_fu_shared (He.glo_ok X G (c.fact 21 (f := .glo "_law_fu_shared") rfl)) pu__law_fu_shared
  have C__law_fu_part : Cal P w K mg base 2 "_law_fu_part" ["top", "bottom"] (spP K 2 wf__law_fu_part) := ok__law_fu_part T C__law_fu_shared F__law_fu_part (He.glo_ok X G (c.fact 22 (f := .glo "_law_fu_part") rfl)) pu__law_fu_part
  have C__law_fu_plus : Cal P w K mg base 3 "_law_fu_plus" ["one", "other"] (spP K 2 wf__law_fu_plus) := ok__law_fu_plus T C__law_fu_part F__law_fu_plus (He.glo_ok X G (c.fact 23 (f := .glo "_law_fu_plus") rfl)) pu__law_fu_plus
  have C__law_fu_times : Cal P w K mg base 3 "_law_fu_times" ["one", "other"] (spP K 2 wf__law_fu_times) := ok__law_fu_times T C__law_fu_part F__law_fu_times (He.glo_ok X G (c.fact 24 (f := .glo "_law_fu_times") rfl)) pu__law_fu_times
  have C__law_fu_below : Cal P w K mg base 1 "_law_fu_below" ["one", "other"] (spP K 2 wf__law_fu_below) := ok__law_fu_below T  F__law_fu_below (He.glo_ok X G (c.fact 25 (f := .glo "_law_fu_below") rfl)) pu__law_fu_below
  have C__law_ta_fraction : Cal P w K mg base 3 "_law_ta_fraction" ["jug", "size"] (spJ K 2 wf__law_ta_fraction) := ok__law_ta_fraction T C__law_fu_part C__law_pour F__law_ta_fraction (He.glo_ok X G (c.fact 26 (f := .glo "_law_ta_fraction") rfl)) pu__law_ta_fraction
  have C__law_sum : Cal P w K mg base 4 "_law_sum" ["fractions"] (spP K 1 wf__law_sum) := ok__law_sum T C__law_fu_plus F__law_sum (He.glo_ok X G (c.fact 27 (f := .glo "_law_sum") rfl)) pu__law_sum
  have C__law_mean : Cal P w K mg base 5 "_law_mean" ["pairs"] (spP K 1 wf__law_mean) := ok__law_mean T C__law_sum C__law_fu_times C__law_fu_part F__law_mean (He.glo_ok X G (c.fact 28 (f := .glo "_law_mean") rfl)) pu__law_mean
  have C__law_between : Cal P w K mg base 2 "_law_between" ["pairs", "middle"] (spP K 2 wf__law_between) := ok__law_between T C__law_fu_below F__law_between (He.glo_ok X G (c.fact 29 (f := .glo "_law_between") rfl)) pu__law_between
  have C__law_right : Cal P w K mg base 7 "_law_right" ["jug"] (spJ K 1 wf__law_right) := ok__law_right T C__law_pour C__law_sip C__law_ta_fraction C_mean C__law_between C__law_mean C_added C__law_sum C__law_stirred C_plus C_times F__law_right (He.glo_ok X G (c.fact 30 (f := .glo "_law_right") rfl)) pu__law_right
  exact fnS F sc_law rfl (fun cdv A outer s H E hr => der_law T C__law_jug C__law_right C_added C_mean _ cdv A outer s H E hr) pu_law
end K13
open PySem PySem.W PySem.Calls PyProof.Rows
theorem PySem.Challenge.cw_fetchunseen_k13_whole_means_and_what_is_holds : PySem.Challenge.rw_fetchunseen_k13_whole_means_and_what_is.Holds := by
  w_on; o_law
  refine HandSHeadRun.head_imp (r := OpenLaw.row K13.RR) (q := view (OpenLaw.row K13.RR).prog [0, 42]) (H := K13.hk) (ob := K13.ob) (M := 9000) (loose := K13.loose) (d := HandSHeadRun.topDef (OpenLaw.row K13.RR).prog 42) (kwd := []) K13.ob_eq
    K13.run (by kernel_rfl) (by kernel_rfl) (by kernel_rfl) (by rfl) (by first | assumption | decide +kernel) (by decide +kernel) ⟨rfl, rfl, rfl, rfl, rfl, by decide +kernel⟩ ?hw ?hc
  case hw => w_witness2
  case hc =>
    refine L2.walk_ofE (l := PySem.Challenge.rw_fetchunseen_k13_whole_means_and_what_is) (n := 63) (k := 8) (x := "script") (CX := L2.CX0) rfl (by decide) (by kernel_rfl) ⟨rfl, by decide, by decide⟩ ?F (fun _ _ _ _ z => z)
    intro w mg fa h Y G hmg0
    obtain ⟨K, KX, c⟩ := Y
    have hmg : mg ("law" : PySem.Str) = some (.ref fa) := by
      have e : (HandSHeadRun.topDef (OpenLaw.row K13.RR).prog 42).name = ("law" : PySem.Str) := by kernel_rfl
      rw [← e]
      exact hmg0
    obtain ⟨fd, hb, hF⟩ := K13.facts (P := (PySem.Challenge.rw_fetchunseen_k13_whole_means_and_what_is).prog) (w := w) KX G hmg c
    exact ⟨K, fd, Pd.spS K 1 K13.wf_law, KX, hb, fun H a ns hl hO hS => Pd.law_sp hl hO hS, hF⟩

