import PyProof.Rows.All
import Wide.All
import OpenK.AllK
import Wide.FinOn
import HandS.Comp
import HandS.DeepEq
import HandS.ForExc
import HandS.Dict
import HandS.Iter
import HandS.Text
import HandS.Wide
import HandS.FStr
import HandS.IsInst
import HandS.ExcInit
import HandS.ExcField
import HandS.ExcIs
import HandS.OwnEq
import KE.KCallOwn
import KE.KExcIs
import PyProof.NeKinds
import HandS.RaiseMore
import HandS.Star
import HandS.ClsMeth
import HandS.StrMore
import PyProof.InstEq
import HandS.TupAny
import OpenK.KMeth
import HandS.Base
import HandS.Call
import HandS.List
import PyProof.Rows.NestShow
import HandS.Ends
import HandS.Zip
import HandS.Walk
import HandS.Defaults
import KE.GoesEnum
import HandS.Style
import HandS.Conv
import HandS.Strs
import HandS.TryOnly
import KE.KOpsOwn
import PySem.Challenge.RW_contrabooks_k28_whole_houses_that_let_mo
set_option Elab.async false
set_option linter.all false
set_option maxRecDepth 100000
/-! a list comprehension of three clauses: each clause a loop of its own, what stands within it a reading -/
namespace V3
open PySem PySem.Spec PyProof.Rows L2
/-- the tests of a clause -/
abbrev allTrue (ifs : List Expr) (env : Env) : Sem Bool := forIn ifs true fun d q => if q = true then do let y ← isTrue d env (eval d env); pure (ForInStep.yield y) else pure (ForInStep.yield q)
/-- one turn: next, store, tests, what stands within, again -/
def turnW (cd : Code) (p : Pos) (tg : Expr) (ifs : List Expr) (Wn : Sem Fin → Sem Fin) (it : Value) (env : Env) : Sem Fin :=
  standAt p >>= fun _ => pyNext it >>= fun q => match q with
    | none => pure (.done .next)
    | some u => letOwnedTupleGo tg it u >>= fun _ => assign tg env u >>= fun _ => allTrue ifs env >>= fun b => if b = true then Wn (again cd) else again cd
/-- within: a further clause -/
def nextW (lc : Expr) (j : Nat) (src : Expr) (acc : Value) (env : Env) : Sem Fin → Sem Fin := fun k =>
  eval src env >>= fun x => standAt src.pos >>= fun _ => foldedSetIterable src env x >>= fun y => holding [y] (pyIter y) >>= fun it => runOwn (.compStart lc j it acc env) env >>= fun _ => k
/-- within: the item is put into the list -/
def lastW (elt : Expr) (acc : Value) (env : Env) : Sem Fin → Sem Fin := fun k =>
  (eval elt env >>= fun y => call (.builtin "list.append") [acc, y] >>= fun _ => pure ()) >>= fun _ => k
abbrev lc3 (elt t0 i0 t1 i1 t2 i2 : Expr) (f0 f1 f2 : List Expr) (sc : Scope) (p : Pos) : Expr := .ListComp elt [⟨t0, i0, f0, 0⟩, ⟨t1, i1, f1, 0⟩, ⟨t2, i2, f2, 0⟩] sc p
section
variable {elt t0 i0 t1 i1 t2 i2 : Expr} {f0 f1 f2 : List Expr} {sc : Scope} {p : Pos} {it acc : Value} {env : Env}
theorem turn3_0 : compTurn (lc3 elt t0 i0 t1 i1 t2 i2 f0 f1 f2 sc p) 0 it acc env = turnW (.compLoop (lc3 elt t0 i0 t1 i1 t2 i2 f0 f1 f2 sc p) 0 it acc env) i0.pos t0 f0 (nextW (lc3 elt t0 i0 t1 i1 t2 i2 f0 f1 f2 sc p) 1 i1 acc env) it env := by rfl
theorem turn3_1 : compTurn (lc3 elt t0 i0 t1 i1 t2 i2 f0 f1 f2 sc p) 1 it acc env = turnW (.compLoop (lc3 elt t0 i0 t1 i1 t2 i2 f0 f1 f2 sc p) 1 it acc env) i1.pos t1 f1 (nextW (lc3 elt t0 i0 t1 i1 t2 i2 f0 f1 f2 sc p) 2 i2 acc env) it env := by rfl
theorem turn3_2 : compTurn (lc3 elt t0 i0 t1 i1 t2 i2 f0 f1 f2 sc p) 2 it acc env = turnW (.compLoop (lc3 elt t0 i0 t1 i1 t2 i2 f0 f1 f2 sc p) 2 it acc env) i2.pos t2 f2 (lastW elt acc env) it env := by rfl
end
section
variable {prog : Program} {w : World} {A : Around} {R : Result → Shared → Prop} {s : Shared} {elt tg : Expr} {gens : List Comprehension} {ifs : List Expr} {sc : Scope} {p p1 : Pos} {j : Nat} {it acc : Value} {env : Env} {Wn : Sem Fin → Sem Fin}
theorem loopW (ht : compTurn (.ListComp elt gens sc p) j it acc env = turnW (.compLoop (.ListComp elt gens sc p) j it acc env) p1 tg ifs Wn it env) (I : Nat → Shared → Prop)
    (turn : ∀ n s, I n s → wpAny (model prog w) A (pyNext it) (fun q s1 => match q with
      | none => R (.ok .next) s1
      | some u => wpAny (model prog w) A (letOwnedTupleGo tg it u) (fun _ s2 => wpAny (model prog w) A (assign tg env u) (fun _ s3 => wpAny (model prog w) A (allTrue ifs env) (fun b s4 =>
          if b = true then wpAny (model prog w) A (Wn (again (.compLoop (.ListComp elt gens sc p) j it acc env))) (fun fin s5 => fin = .again (.compLoop (.ListComp elt gens sc p) j it acc env) ∧ ∃ m, m < n ∧ I m s5) (fun _ _ => False) s4
          else ∃ m, m < n ∧ I m s4) (fun _ _ => False) s3) (fun _ _ => False) s2) (fun _ _ => False) s1) (fun _ _ => False) s)
    (n : Nat) (h : I n s) : codeAny (model prog w) A (.compLoop (.ListComp elt gens sc p) j it acc env) R s := by
  refine codeAny_loop rfl I (fun n s hI => ?_) n h
  show wpAny (model prog w) A ((compTurn (.ListComp elt gens sc p) j it acc env).onRaise fun x => do noteFrame x env; theTreesLotGoes x) _ _ s
  refine wpAny_noted ?_
  rw [ht]
  refine wpAny_bind (wpAny_standAt (wpAny_bind (thnF (turn n s hI) fun q s1 h1 => ?_)))
  cases q with
  | none => exact wpAny_pure h1
  | some u => exact wpAny_bind (thnF h1 fun _ s2 h2 => wpAny_bind (thnF h2 fun _ s3 h3 => wpAny_bind (thnF h3 fun b s4 h4 => by
      cases b with
      | false => exact wpAny_pure ⟨rfl, h4⟩
      | true =>
        refine thnF h4 fun fin s5 h5 => ?_
        obtain ⟨rfl, h5⟩ := h5
        exact ⟨rfl, h5⟩)))
end
/-- the slots known ahead but those of vs are known behind -/
def Keeps (vs : List Nat) (σ σ' : L2.St) : Prop := σ'.length = σ.length ∧ ∀ (j : Nat) v, (wipe σ vs)[j]? = some (some v) → σ'[j]? = some (some v)
theorem Keeps.refl (σ : L2.St) : Keeps [] σ σ := ⟨rfl, fun _ _ e => e⟩
/-- what stands within a clause runs so and goes on with the loop -/
def InB (X : Cx) (vs : List Nat) (Wn : Sem Fin → Sem Fin) (tb : L2.St → Hp → (Hp → Prop) → Prop) : Prop := ∀ (cd : Code) (pins : List (Addr × Obj)) (s : Shared) (σ : L2.St) (H : Hp) (Nx : Hp → Prop), Inv X pins σ H s → tb σ H Nx →
  wpAny (model X.prog X.w) X.A (Wn (again cd)) (fun fin s' => fin = .again cd ∧ ∃ σ' H', Inv X pins σ' H' s' ∧ Keeps vs σ σ' ∧ Nx H') (fun _ _ => False) s
/-- a clause's loop as a reading -/
def LoopT (J : It) (g : TG) (tt : TT) (vs : List Nat) (tb : L2.St → Hp → (Hp → Prop) → Prop) (σ : L2.St) (H : Hp) (Nx : Hp → Prop) : Prop := ∃ Wt : Nat → Nat → Hp → Prop, (∃ m, Wt 0 m H) ∧ ∀ i m H, Wt i m H →
  (J.stop i H ∧ Nx H) ∨ (J.go i H ∧ ∃ N : Hp → Prop, (∀ H', N H' → ∃ m', m' < m ∧ Wt (i + 1) m' H') ∧ ∀ x H', J.yld i H x H' → g x (wipe σ vs) H' fun σ2 H2 => wipe σ2 vs = wipe σ vs ∧ tt σ2 H2 fun b H3 => if b = true then tb σ2 H3 N else N H3)
section
variable {X : Cx} {pins : List (Addr × Obj)} {s : Shared} {σ : L2.St} {H : Hp} {elt tg iter : Expr} {gens : List Comprehension} {ifs : List Expr} {sc : Scope} {p p1 : Pos} {j : Nat} {it : Addr} {acc : Value} {Wn : Sem Fin → Sem Fin} {J : It} {fp : List Addr} {tn : Nat → Heap → Prop} {g : TG} {tt : TT} {vs vs' : List Nat} {tb : L2.St → Hp → (Hp → Prop) → Prop} {Nx : Hp → Prop} {R : Result → Shared → Prop} {wi : TI}
theorem loop_run (hc : X.calm = true) (hx : X.xe = fun _ _ => False) (T : Turn X.prog X.w X.K tg J fp it tn) (pg : PG X tg g) (pt : PTs X ifs tt) (hb : InB X vs' Wn tb) (sub : ∀ i ∈ vs', i ∈ vs)
    (ht : compTurn (.ListComp elt gens sc p) j (.ref it) acc X.env = turnW (.compLoop (.ListComp elt gens sc p) j (.ref it) acc X.env) p1 tg ifs Wn (.ref it) X.env)
    (I : Inv X pins (wipe σ vs) H s) (st : tn 0 s.heap) (f : ∀ b ∈ fp, FpOk X pins H b) (h : LoopT J g tt vs tb σ H Nx) (hR : ∀ H' s', Inv X pins (wipe σ vs) H' s' → Nx H' → R (.ok .next) s') :
    codeAny (model X.prog X.w) X.A (.compLoop (.ListComp elt gens sc p) j (.ref it) acc X.env) R s := by
  obtain ⟨Wt, ⟨m0, w0⟩, turn⟩ := h
  have fo : ∀ {H'}, (∀ b ∈ fp, H' b = none) → ∀ b ∈ fp, FpOk X pins H' b := fun n b hb => ⟨n b hb, (f b hb).2⟩
  refine loopW ht (fun n s' => ∃ i H', Inv X pins (wipe σ vs) H' s' ∧ tn i s'.heap ∧ (∀ b ∈ fp, H' b = none) ∧ Wt i n H') ?_ m0 ⟨0, H, I, st, fun b hb => (f b hb).1, w0⟩
  rintro n s1 ⟨i, H1, I1, st1, n1, w1⟩
  rcases turn i n H1 w1 with ⟨stop, q⟩ | ⟨go, N, hN, step⟩
  · refine thnF (T.done X rfl rfl rfl hc i pins s1 _ H1 (fun _ _ => False) I1 (fo n1) st1 stop) fun q2 s2 ⟨e, I2⟩ => ?_
    subst e
    exact hR H1 s2 I2 q
  · refine thnF (T.item X rfl rfl rfl hc i pins s1 _ H1 (fun _ _ => False) I1 (fo n1) st1 go) fun q2 s2 ⟨u, e, h2⟩ => ?_
    subst e
    refine thnF h2 fun _ s3 ⟨x, H3, I3, r3, y3, st3, n3⟩ => ?_
    have I3' := I3.pinned (fo n3) (T.obj _ _ st3)
    have z4 := pg.run _ s3 _ H3 x u _ I3' r3 (step x H3 y3)
    rw [hx] at z4
    refine thnF z4 fun _ s4 ⟨σ4, H4, I4, ew, q4⟩ => ?_
    have z5 := pt.run _ s4 σ4 H4 _ I4 q4
    rw [hx] at z5
    refine thnF z5 fun b s5 ⟨H5, I5, q5⟩ => ?_
    have fin : ∀ {σ' H' s'}, Inv X (pins ++ pinsAt fp s3.heap) σ' H' s' → Keeps vs' σ4 σ' → N H' → ∃ m, m < n ∧ ∃ i H', Inv X pins (wipe σ vs) H' s' ∧ tn i s'.heap ∧ (∀ b ∈ fp, H' b = none) ∧ Wt i m H' := fun {σ' H' s'} I' kp nx => by
      obtain ⟨m', hm, w'⟩ := hN H' nx
      have pn : ∀ b ∈ fp, ∀ o, s3.heap.get? b = some o → s'.heap.get? b = some o ∧ H' b = none := fun b hb o e =>
        let z := I'.pin (b, o) (List.mem_append_right _ (List.mem_append_right _ (mem_pinsAt hb e)))
        ⟨z.1, z.2.1⟩
      have el : (wipe σ vs).length = σ'.length := by rw [← ew, wipe_length, kp.1]
      refine ⟨m', hm, i + 1, H', (I'.unpinned (pins := pins)).weak el fun k v e => ?_, T.keep _ _ _ st3 fun b hb o e => (pn b hb o e).1, fun b hb => ?_, w'⟩
      · rw [← ew] at e
        obtain ⟨e1, e2⟩ := wipe_some e
        refine kp.2 k v ?_
        rw [wipe_out fun z => e2 (sub k z)]
        exact e1
      · obtain ⟨o, e, _⟩ := T.obj _ _ st3 b hb
        exact (pn b hb o e).2
    cases b with
    | false =>
      have q5 : N H5 := q5
      exact fin I5 ⟨rfl, fun k v e => (wipe_some e).1⟩ q5
    | true =>
      have q5 : tb σ4 H5 N := q5
      refine thnF (hb _ _ s5 σ4 H5 N I5 q5) fun fn s6 ⟨e, σ6, H6, I6, kp, nx⟩ => ?_
      exact ⟨e, fin I6 kp nx⟩
end
/-- a further clause as what stands within one; the item put into the list at D -/
def tCl (wi : TI) (g : TG) (tt : TT) (vs : List Nat) (tb : L2.St → Hp → (Hp → Prop) → Prop) : L2.St → Hp → (Hp → Prop) → Prop := fun σ H N => wi σ H fun J H1 => LoopT J g tt vs tb σ H1 N
def tPut (te : TE) (D : Addr) : L2.St → Hp → (Hp → Prop) → Prop := fun σ H N => te σ H fun y H1 => ∃ ys, H1 D = some (.lst ys) ∧ ys.length < sizeLine ∧ N (upd H1 D (.lst (ys ++ [y])))
/-- [elt for t0 in i0 if .. for t1 in i1 if .. for t2 in i2 if ..] -/
def tLc3 (wi : TI) (g : TG) (tt : TT) (wi1 : TI) (g1 : TG) (tt1 : TT) (wi2 : TI) (g2 : TG) (tt2 : TT) (te : TE) (vs vs1 vs2 : List Nat) : TE := fun σ H Q =>
  wi σ H fun J H1 => ∀ D, H1 D = none → LoopT J g tt vs (tCl wi1 g1 tt1 vs1 (tCl wi2 g2 tt2 vs2 (tPut te D))) σ (upd H1 D (.lst [])) (Q (.ref D))
section
variable {prog : Program} {w : World} {A : Around} {R : Result → Shared → Prop} {s : Shared} {elt t0 i0 t1 i1 t2 i2 : Expr} {f0 f1 f2 : List Expr} {sc : Scope} {p : Pos} {it acc : Value} {env : Env} {j : Nat}
theorem start3 (hj : j = 1 ∨ j = 2) (h0 : codeAny (model prog w) A (.compLoop (lc3 elt t0 i0 t1 i1 t2 i2 f0 f1 f2 sc p) j it acc env) R s)
    (h : wpAny (model prog w) A (pyIter it) (fun it2 s2 => codeAny (model prog w) A (.compLoop (lc3 elt t0 i0 t1 i1 t2 i2 f0 f1 f2 sc p) j it2 acc env) R s2) (fun _ _ => False) s) :
    codeAny (model prog w) A (.compStart (lc3 elt t0 i0 t1 i1 t2 i2 f0 f1 f2 sc p) j it acc env) R s := by
  have hn : wpAny (model prog w) A (pyIter it) (fun it2 s2 => codeAny (model prog w) A (.compLoop (lc3 elt t0 i0 t1 i1 t2 i2 f0 f1 f2 sc p) j it2 acc env) R s2) (notedBy (model prog w) A env fun x s' => R (.error x) s') s := thnF h fun _ _ z => z
  refine codeAny_of_tree ?_
  show wpAny _ _ ((compStart (lc3 elt t0 i0 t1 i1 t2 i2 f0 f1 f2 sc p) j it acc env).onRaise fun x => do noteFrame x env; standAt theWindowsPlace) _ _ s
  refine wpAny_notedAt ?_
  rcases hj with rfl | rfl <;> unfold compStart <;> (show wpAny _ _ (ask >>= _) _ _ s) <;> refine wpAny_bind (wpAny_askSetting (wpAny_ite ?_)) <;> split <;>
    first
    | exact wpAny_pure ⟨rfl, h0⟩
    | exact wpAny_bind (wpAny_pure (wpAny_pure ⟨rfl, h0⟩))
    | exact wpAny_bind (wpAny_rule (wpAny_bind (wpAny_standAt (wpAny_bind (wpAny_mono hn (fun it2 s2 z => wpAny_pure ⟨rfl, z⟩) fun _ _ z => z)))))
    | (refine wpAny_bind (wpAny_rule ?_)
       show wpAny _ _ (standAt _ >>= _) _ _ s
       exact wpAny_bind (wpAny_standAt (wpAny_bind (wpAny_mono hn (fun it2 s2 z => wpAny_pure ⟨rfl, z⟩) fun _ _ z => z))))
end
section
variable {X : Cx} {elt t0 i0 t1 i1 t2 i2 : Expr} {f0 f1 f2 : List Expr} {sc : Scope} {p p1 : Pos} {acc : Value} {j : Nat} {tg src : Expr} {ifs : List Expr} {Wn : Sem Fin → Sem Fin} {g : TG} {tt : TT} {vs vs' : List Nat} {tb : L2.St → Hp → (Hp → Prop) → Prop} {wi : TI} {te : TE} {D : Addr}
theorem in_last (hx : X.xe = fun _ _ => False) (he : PE X elt te) : InB X [] (lastW elt (.ref D) X.env) (tPut te D) := fun cd pins s σ H Nx I h => by
  have z := he.run pins s σ H _ I h
  rw [hx] at z
  refine wpAny_bind (wpAny_bind (thnF z fun yv s1 ⟨y, H1, I1, r1, ys, hD, hz, q⟩ => ?_))
  exact wpAny_bind (app_ok I1 hD hz r1 fun s2 I2 => wpAny_pure (wpAny_pure ⟨rfl, σ, _, I2, Keeps.refl σ, q⟩))
theorem in_clause (hj : j = 1 ∨ j = 2) (hc : X.calm = true) (hx : X.xe = fun _ _ => False) (hi : PI X tg src wi) (pg : PG X tg g) (pt : PTs X ifs tt) (hs : ∀ x, foldedSetIterable src X.env x = pure x) (hb : InB X vs' Wn tb) (sub : ∀ i ∈ vs', i ∈ vs)
    (ht : ∀ it, compTurn (lc3 elt t0 i0 t1 i1 t2 i2 f0 f1 f2 sc p) j (.ref it) acc X.env = turnW (.compLoop (lc3 elt t0 i0 t1 i1 t2 i2 f0 f1 f2 sc p) j (.ref it) acc X.env) p1 tg ifs Wn (.ref it) X.env) :
    InB X vs (nextW (lc3 elt t0 i0 t1 i1 t2 i2 f0 f1 f2 sc p) j src acc X.env) (tCl wi g tt vs tb) := fun cd pins s σ H Nx I h => by
  have z := hi.run pins s σ H _ I h
  rw [hx] at z
  refine wpAny_bind (thnF z fun xv s1 h1 => wpAny_bind (wpAny_standAt (wpAny_bind (wpAny_of_eq (hs xv) (wpAny_bind (wpAny_holding (thnF h1 fun itv s2 h2 => ?_)))))))
  obtain ⟨it, fp, tn, J, H2, rfl, I2, T, st, f, q⟩ := h2
  refine wpAny_bind (wpAny_runOwn ?_)
  rw [Around.mark_none]
  have lp : codeAny (model X.prog X.w) X.A (.compLoop (lc3 elt t0 i0 t1 i1 t2 i2 f0 f1 f2 sc p) j (.ref it) acc X.env) (fun r s' => match r with
      | .ok _ => ∃ σ' H', Inv X pins σ' H' s' ∧ Keeps vs σ σ' ∧ Nx H'
      | .error _ => False) s2 := loop_run hc hx T pg pt hb sub (ht it) (I2.weak (wipe_length _ _) fun k v e => (wipe_some e).1) st f q fun H' s' I' nx => ⟨_, H', I', ⟨wipe_length _ _, fun _ _ e => e⟩, nx⟩
  refine codeAny_mono (start3 hj lp (T.self X.A 0 _ _ _ st lp)) fun r s3 h3 => ?_
  cases r with
  | ok fl => exact wpAny_pure ⟨rfl, h3⟩
  | error e => exact h3.elim
end
section
variable {X : Cx} {elt t0 i0 t1 i1 t2 i2 : Expr} {f0 f1 f2 : List Expr} {sc : Scope} {own : List (Str × Nat)} {vs1 vs2 : List Nat} {ps : Pos} {wi wi1 wi2 : TI} {g g1 g2 : TG} {tt tt1 tt2 : TT} {te : TE}
theorem pe_lc3 (hc : X.calm = true) (hN : X.N.Nodup) (hi : PI X t0 i0 wi) (ok : BlkOk X.N X.env.scope sc own) (v1 : ∀ i ∈ vs1, i ∈ own.map (·.2)) (v2 : ∀ i ∈ vs2, i ∈ vs1)
    (hg : ∀ (u : Shared) (G : Hp) (C : Addr) (cl : List (Str × Addr)) (fp : List Addr), PG (X.blk u G sc (compEnvC sc cl C X.env) fp) t0 g) (ht : ∀ (u : Shared) (G : Hp) (C : Addr) (cl : List (Str × Addr)) (fp : List Addr), PTs (X.blk u G sc (compEnvC sc cl C X.env) fp) f0 tt) (hi1 : ∀ (u : Shared) (G : Hp) (C : Addr) (cl : List (Str × Addr)) (fp : List Addr), PI (X.blk u G sc (compEnvC sc cl C X.env) fp) t1 i1 wi1) (hg1 : ∀ (u : Shared) (G : Hp) (C : Addr) (cl : List (Str × Addr)) (fp : List Addr), PG (X.blk u G sc (compEnvC sc cl C X.env) fp) t1 g1) (ht1 : ∀ (u : Shared) (G : Hp) (C : Addr) (cl : List (Str × Addr)) (fp : List Addr), PTs (X.blk u G sc (compEnvC sc cl C X.env) fp) f1 tt1)
    (hi2 : ∀ (u : Shared) (G : Hp) (C : Addr) (cl : List (Str × Addr)) (fp : List Addr), PI (X.blk u G sc (compEnvC sc cl C X.env) fp) t2 i2 wi2) (hg2 : ∀ (u : Shared) (G : Hp) (C : Addr) (cl : List (Str × Addr)) (fp : List Addr), PG (X.blk u G sc (compEnvC sc cl C X.env) fp) t2 g2) (ht2 : ∀ (u : Shared) (G : Hp) (C : Addr) (cl : List (Str × Addr)) (fp : List Addr), PTs (X.blk u G sc (compEnvC sc cl C X.env) fp) f2 tt2) (he : ∀ (u : Shared) (G : Hp) (C : Addr) (cl : List (Str × Addr)) (fp : List Addr), PE (X.blk u G sc (compEnvC sc cl C X.env) fp) elt te)
    (hs : ∀ x, foldedSetIterable i0 X.env x = pure x := by intro _; rfl) (hs1 : ∀ e x, foldedSetIterable i1 e x = pure x := by intro _ _; rfl) (hs2 : ∀ e x, foldedSetIterable i2 e x = pure x := by intro _ _; rfl) :
    PE X (lc3 elt t0 i0 t1 i1 t2 i2 f0 f1 f2 sc ps) (tLc3 wi g tt wi1 g1 tt1 wi2 g2 tt2 te (own.map (·.2)) vs1 vs2) := by
  refine ⟨fun pins s σ H Q I h => ?_⟩
  rw [eval_ListComp]
  have clos : ∀ y ∈ sc.names, y.2 = .free → ∃ c, X.env.cells.lookup y.1 = some c := fun y hy e => (ok.free y hy e).elim (fun k => I.ok.has _ (.inl k)) fun k => I.ok.has _ (.inr k)
  refine wpAny_comprehension_free (use := none) rfl hs (closure_ok clos) ok.kind (fun y hy e => by rw [ok.uniq y hy, e]) (thn (hi.run pins s σ H _ I h) fun xv a1 hx => thn hx fun itv a2 z2 => ?_)
  obtain ⟨it, fp, tn, J, H2, rfl, I2, T, st2, fr2, q⟩ := z2
  refine wpAny_newObj_type (newEnv_comp ?_) (by show 0 ≤ sizeLine; decide)
  obtain ⟨D, eD⟩ : ∃ D, D = a2.heap.objs.size := ⟨_, rfl⟩
  have nD : H2 D = none := I2.hok.fresh (Nat.le_of_eq eD.symm)
  have q := q D nD
  rw [← eD]
  have I3 : Inv X pins σ (upd H2 D (.lst [])) { a2 with heap := a2.heap.push { cls := .type "list", data := .seq ([] : List Value).toArray } } := by
    refine I2.laid (t' := a2.toks) (fun b o e => Heap.get?_push_of_some _ e) (Nat.le_of_eq eD.symm) ⟨Nat.zero_le _, [], 0, .nil, ?_⟩
    rw [eD]
    exact Heap.get?_push_size _ rfl
  have st3 : tn 0 (a2.heap.push { cls := .type "list", data := .seq ([] : List Value).toArray }) := T.keep _ _ _ st2 fun b _ o e => Heap.get?_push_of_some _ e
  have fr3 : ∀ b ∈ fp, FpOk X pins (upd H2 D (.lst [])) b ∧ b < (a2.heap.push { cls := .type "list", data := .seq ([] : List Value).toArray }).objs.size := fun b hb => by
    obtain ⟨o, e, _⟩ := T.obj _ _ st2 b hb
    have lt := Heap.lt_size e
    refine ⟨⟨?_, (fr2 b hb).2⟩, by rw [Heap.size_push]; exact Nat.lt_succ_of_lt lt⟩
    rw [upd_ne (by rw [eD]; exact Nat.ne_of_lt lt)]
    exact (fr2 b hb).1
  generalize ha3 : ({ a2 with heap := a2.heap.push { cls := .type "list", data := .seq ([] : List Value).toArray } } : Shared) = a3 at I3 ⊢
  have eh : a3.heap = a2.heap.push { cls := .type "list", data := .seq ([] : List Value).toArray } := by rw [← ha3]
  rw [← eh] at st3 fr3
  generalize upd H2 D (.lst []) = H3 at I3 fr3 q
  have I4 := block_start I3 ok hN fr3
  have st4 : tn 0 (pushCells (a3.heap.push { cls := .type "dict", data := .dict #[] }) sc.names) := T.keep _ _ _ st3 fun b _ o e => pushCells_keeps _ _ _ _ (Heap.get?_push_of_some _ e)
  generalize hcl : cellsFrom (a3.heap.objs.size + 1) sc.names (cloFrom X.env.cells sc.names []) = cl at I4 ⊢
  show codeAny _ _ (.compStart (lc3 elt t0 i0 t1 i1 t2 i2 f0 f1 f2 sc ps) 0 (.ref it) (.ref D) (compEnvC sc cl a3.heap.objs.size X.env)) (compPost (model X.prog X.w) X.A X.xe none _ (.ref D) a3.heap.objs.size) { a3 with heap := pushCells (a3.heap.push { cls := .type "dict", data := .dict #[] }) sc.names }
  generalize ha4 : ({ a3 with heap := pushCells (a3.heap.push { cls := .type "dict", data := .dict #[] }) sc.names } : Shared) = a4 at I4 ⊢
  have st4 : tn 0 a4.heap := by rw [← ha4]; exact st4
  have b2 := in_clause (X := X.blk a3 H3 sc (compEnvC sc cl a3.heap.objs.size X.env) fp) (acc := .ref D) (elt := elt) (t0 := t0) (i0 := i0) (t1 := t1) (i1 := i1) (t2 := t2) (i2 := i2) (f0 := f0) (f1 := f1) (f2 := f2) (sc := sc) (p := ps) (p1 := i2.pos) (vs := vs2) (.inr rfl) hc rfl (hi2 a3 H3 a3.heap.objs.size cl fp) (hg2 a3 H3 a3.heap.objs.size cl fp) (ht2 a3 H3 a3.heap.objs.size cl fp) (hs2 _) (in_last (X := X.blk a3 H3 sc (compEnvC sc cl a3.heap.objs.size X.env) fp) (D := D) rfl (he a3 H3 a3.heap.objs.size cl fp)) (fun i hi => by cases hi) fun it => turn3_2
  have b1 := in_clause (X := X.blk a3 H3 sc (compEnvC sc cl a3.heap.objs.size X.env) fp) (acc := .ref D) (vs := vs1) (.inl rfl) hc rfl (hi1 a3 H3 a3.heap.objs.size cl fp) (hg1 a3 H3 a3.heap.objs.size cl fp) (ht1 a3 H3 a3.heap.objs.size cl fp) (hs1 _) b2 v2 fun it => turn3_1
  have lp : codeAny (model X.prog X.w) X.A (.compLoop (lc3 elt t0 i0 t1 i1 t2 i2 f0 f1 f2 sc ps) 0 (.ref it) (.ref D) (compEnvC sc cl a3.heap.objs.size X.env)) (compPost (model X.prog X.w) X.A X.xe none (EP X pins σ Q) (.ref D) a3.heap.objs.size) a4 := by
    refine loop_run (X := X.blk a3 H3 sc (compEnvC sc cl a3.heap.objs.size X.env) fp) (pins := []) hc rfl T (hg a3 H3 a3.heap.objs.size cl fp) (ht a3 H3 a3.heap.objs.size cl fp) b1 v1 turn3_0 I4 st4 (fun b hb => ?_) q fun H5 a5 I5 qq => ?_
    · exact ⟨(fr3 b hb).1.1, (I4.ok.exf b hb).1, I4.ok.exfs b hb, .inl hb, fun x c e => (I4.ok.exf b hb).2 x c e, fun pn hp => absurd (show pn ∈ ([] : List (Addr × Obj)) ++ [] from hp) (by simp)⟩
    · have I7 : Inv X pins σ H5 a5 := I3.call' (ch := fp) I5.os I5.base I5.hok I5.bare fun b hb => ⟨(fr3 b hb).1.2.2.2.1, (fr3 b hb).1.2.1, (fr3 b hb).1.2.2.2.2.1, (fr3 b hb).1.2.2.2.2.2⟩
      have nC : H5 a3.heap.objs.size = none := I5.free
      obtain ⟨m, hm, _⟩ := I5.loc
      obtain ⟨c0, c1, c2, c3, c4, c5⟩ := I3.fpOk (Nat.le_refl _) nC
      exact ⟨m, hm, fun h2 sb => ⟨.ref D, H5, I7.turned (t' := a5.toks) (fun b o hb e => (sb.2 b hb).trans e) c0 c1 c3 c4 c5, rfl, qq⟩⟩
  exact codeAny_compStart_list lp (T.self X.A 0 _ _ _ st4 lp)
end
end V3

set_option Elab.async false
set_option linter.all false
set_option maxRecDepth 100000
namespace V3
open PySem L2
def top (i : Nat) : Stmt := PySem.Challenge.pw_contrabooks_k28_whole_houses_that_let_mo.main.body.getD i (.Pass ⟨0, 0, 0, 0⟩)
abbrev sSeed : Stmt := top 56
abbrev sChoose : Stmt := top 57
abbrev sOneOf : Stmt := top 58
/-- the box of draws: two numbers -/
def BoxOk (u v : Int) : Prop := 0 ≤ u ∧ 1 ≤ v ∧ v ≤ 2147483629
def box (u v : Int) : HO := .lst [.int u, .int v]
def BoxAt (H : Hp) (b : Addr) : Prop := ∃ u v, BoxOk u v ∧ H b = some (box u v)
def spSeed (K : PySem.W.Frag) : Sp := fun vs H Q _ => ∃ (a : Addr) (ns : List Int) (k : Int), vs = [.ref a, .int k] ∧ SqL K H a (ns.map V.int) ∧ ns.length ≤ 63 ∧ 0 ≤ k ∧ k ≤ 100 ∧
  ∀ (p : Addr) (u v : Int), H p = none → BoxOk u v → Q (.ref p) (upd H p (box u v))
def spChoose : Sp := fun vs H Q _ => ∃ (b : Addr) (u v m : Int), vs = [.ref b, .int m] ∧ H b = some (box u v) ∧ BoxOk u v ∧ 1 ≤ m ∧ m ≤ 10000000000000000000000000000000000000000 ∧
  ∀ d u' v' : Int, 0 ≤ d → d < m → BoxOk u' v' → Q (.int d) (upd H b (box u' v'))
def spOneOf (K : PySem.W.Frag) : Sp := fun vs H Q _ => ∃ (b l : Addr) (u v : Int) (xs : List V), vs = [.ref b, .ref l] ∧ H b = some (box u v) ∧ BoxOk u v ∧ l ≠ b ∧ SqL K H l xs ∧ 1 ≤ xs.length ∧ xs.length ≤ 1000 ∧
  ∀ (x : V) (u' v' : Int), x ∈ xs → BoxOk u' v' → Q x (upd H b (box u' v'))
structure Blt (mg : Str → Option Value) : Prop where
  len : mg "len" = none
  abs : mg "abs" = none
  int : mg "int" = none
/-- a def that stands at a name of the module -/
def Cal (P : Program) (w : World) (K : PySem.W.Frag) (mg : Str → Option Value) (base : Heap) (CX : CXT) (name : Str) (k : Nat) (ps : List Str) (sp : Sp) : Prop :=
  ∃ (f : Addr) (fd : FuncData), FnOk P w K mg base CX k f fd ps sp ∧ mg name = some (.ref f) ∧ PySem.W.keepIn K (.ref f) = true ∧ Binds K fd ps []
theorem seqL_ne {K : PySem.W.Frag} {H : Hp} {l b : Addr} {o : HO} {xs : List V} (ne : l ≠ b) (h : SqL K H l xs) : SqL K (upd H b o) l xs := by
  rcases h with (h | ⟨o, h⟩) | h
  · exact .inl (.inl (by rw [upd_ne ne]; exact h))
  · exact .inl (.inr ⟨o, by rw [upd_ne ne]; exact h⟩)
  · exact .inr h
theorem atI_ints {ns : List Int} {i : Int} (h0 : 0 ≤ i) (hj : i.toNat < ns.length) : atI (ns.map V.int) i = some (.int ns[i.toNat]) := by
  have e : ixN (ns.map V.int).length i = some i.toNat := by
    unfold ixN
    rw [if_pos h0, if_pos (by rw [List.length_map]; omega)]
  show (ixN (ns.map V.int).length i).bind (fun j => (ns.map V.int)[j]?) = some (.int ns[i.toNat])
  rw [e]
  show (ns.map V.int)[i.toNat]? = some (.int ns[i.toNat])
  rw [List.getElem?_map, List.getElem?_eq_getElem hj]
  rfl
section
variable {P : Program} {w : World} {K : PySem.W.Frag} {mg : Str → Option Value} {base : Heap}
theorem scSeed : FnScope ["_law_script", "_law_k", "_law_cell"] ["_law_script", "_law_k"] (defScope sSeed) := ⟨rfl, rfl, rfl, by decide +kernel, rfl, by decide +kernel, by decide +kernel⟩
theorem scChoose : FnScope ["_law_box", "_law_many", "_law_digit", "_law_first"] ["_law_box", "_law_many"] (defScope sChoose) := ⟨rfl, rfl, rfl, by decide +kernel, rfl, by decide +kernel, by decide +kernel⟩
theorem scOneOf : FnScope ["_law_box", "_law_some"] ["_law_box", "_law_some"] (defScope sOneOf) := ⟨rfl, rfl, rfl, by decide +kernel, rfl, by decide +kernel, by decide +kernel⟩
theorem ok_choose {f : Addr} {fd : FuncData} (F : Fun K "_law_choose" "_law_choose" sChoose f fd) (T : Blt mg) : FnOk P w K mg base CX0 1 f fd ["_law_box", "_law_many"] spChoose := by
  refine F.ok scChoose (fun vs H Q E h => ?_) (fun cdv A outer s H vs Q E hr h => ?_)
  · obtain ⟨b, u, v, m, rfl, _⟩ := h
    rfl
  · obtain ⟨b, u, v, m, rfl, hb, ok, m1, m2, k⟩ := h
    refine ⟨_, pss_cons (ps_if (pt_cmpR op_gt (pe_ix ix_list (pv 0) pe_int (fun _ _ => rfl)) pe_int (nomark _))
        (pss_cons (ps_set (i := 2) scChoose.nd rfl (Or.inl rfl) (pe_op op_mod (pe_callTy call_int1 (by rfl) T.int (by decide +kernel) (pa_cons (pe_ix ix_list (pv 0) pe_int (fun _ _ => rfl)) pa_nil)) (pv 1)))
        (pss_cons (ps_asg (pe_op op_fdivW (pe_ix ix_list (pv 0) pe_int (fun _ _ => rfl)) (pv 1)) (pg_sub (pv 0) pe_int set_list))
        (pss_one (ps_ret (pv 2))))) pss_nil)
      (pss_cons (ps_set (i := 3) scChoose.nd rfl (Or.inl rfl) (pe_op op_mod (pe_callTy call_int1 (by rfl) T.int (by decide +kernel) (pa_cons (pe_op op_add (pe_op op_mul (pe_ix ix_list (pv 0) pe_int (fun _ _ => rfl)) pe_int) pe_int) pa_nil)) pe_int))
      (pss_cons (ps_asg (pe_op op_add (pe_op op_mod (pe_callTy call_int1 (by rfl) T.int (by decide +kernel) (pa_cons (pe_op op_add (pe_op op_mul (pv 3) pe_int) pe_int) pa_nil)) pe_int) pe_int) (pg_sub (pv 0) pe_int set_list))
      (pss_one (ps_ret (pe_op op_mod (pe_callTy call_int1 (by rfl) T.int (by decide +kernel) (pa_cons (pe_op op_fdivW (pe_op op_add (pe_op op_mul (pv 3) pe_int) (pe_ix ix_list (pv 0) pe_int (fun _ _ => rfl))) pe_int) pa_nil)) (pv 1)))))), ?_⟩
    obtain ⟨u0, v1, v2⟩ := ok
    have hm : (0 : Int) < m := by omega
    have hw : m.natAbs < 2 ^ 140 := by
      have : (2 : Nat) ^ 140 = 1393796574908163946345982392040522594123776 := by decide
      omega
    refine ⟨_, rfl, b, _, 0, _, rfl, rfl, SqL.of hb, rfl, _, _, rfl, rfl, _, rfl, ?_⟩
    refine ite2 (fun c => ?_) (fun c => ?_)
    · refine ⟨_, rfl, b, _, 0, _, rfl, rfl, SqL.of hb, rfl, .inl ⟨_, rfl, _, rfl, _, _, rfl, rfl, hm, ?_⟩⟩
      refine ⟨_, rfl, b, _, 0, _, rfl, rfl, SqL.of hb, rfl, _, rfl, _, _, rfl, rfl, wide_div hm hw (by decide) (by decide), ?_⟩
      refine ⟨_, rfl, b, _, 0, 0, rfl, rfl, hb, rfl, _, rfl, ?_⟩
      exact k _ _ _ (Int.emod_nonneg _ (by omega)) (Int.emod_lt_of_pos _ hm) ⟨Int.ediv_nonneg u0 (by omega), v1, v2⟩
    · refine ⟨_, rfl, b, _, 1, _, rfl, rfl, SqL.of hb, rfl, _, _, rfl, rfl, .inl (by constructor <;> omega), _, _, rfl, rfl, .inl ⟨_, rfl, _, _, rfl, rfl, (by show (0 : Int) < 2147483563; decide), ?_⟩⟩
      have a1 := Int.emod_nonneg (v * 40014 + 11) (by decide : (2147483563 : Int) ≠ 0)
      have a2 := Int.emod_lt_of_pos (v * 40014 + 11) (by decide : (0 : Int) < 2147483563)
      refine ⟨_, rfl, _, _, rfl, rfl, .inl (by constructor <;> omega), _, _, rfl, rfl, .inl ⟨_, rfl, _, _, rfl, rfl, (by show (0 : Int) < 2147483629; decide), _, _, rfl, rfl, ?_⟩⟩
      refine ⟨_, rfl, b, _, 1, 1, rfl, rfl, hb, rfl, ?_⟩
      have b1 := Int.emod_nonneg ((v * 40014 + 11) % 2147483563 * 40692 + 2903) (by decide : (2147483629 : Int) ≠ 0)
      have b2 := Int.emod_lt_of_pos ((v * 40014 + 11) % 2147483563 * 40692 + 2903) (by decide : (0 : Int) < 2147483629)
      refine ⟨_, rfl, _, _, rfl, rfl, .inl (by constructor <;> omega), _, rfl, b, _, 1, _, rfl, rfl, SqL.of upd_same, rfl, _, _, rfl, rfl, _, _, rfl, rfl, wide_div (b := 14) (by decide) (by decide) (by decide) (by decide), .inl ⟨_, rfl, _, rfl, _, _, rfl, rfl, hm, ?_⟩⟩
      exact k _ _ _ (Int.emod_nonneg _ (by omega)) (Int.emod_lt_of_pos _ hm) ⟨u0, by omega, by omega⟩
theorem ok_oneOf {f : Addr} {fd : FuncData} (F : Fun K "_law_one_of" "_law_one_of" sOneOf f fd) (T : Blt mg) (c : Cal P w K mg base CX0 "_law_choose" 1 ["_law_box", "_law_many"] spChoose) : FnOk P w K mg base CX0 2 f fd ["_law_box", "_law_some"] (spOneOf K) := by
  obtain ⟨fC, fdC, GC, mC, kC, bC⟩ := c
  refine F.ok scOneOf (fun vs H Q E h => ?_) (fun cdv A outer s H vs Q E hr h => ?_)
  · obtain ⟨b, l, u, v, xs, rfl, _⟩ := h
    rfl
  · obtain ⟨b, l, u, v, xs, rfl, hb, ok, ne, hS, x1, x2, k⟩ := h
    refine ⟨_, pss_one (ps_ret (pe_ix ix_list (pv 1) (pe_call GC hr rfl mC kC bC .nil pass0 (pa_cons (pv 0) (pa_cons (pe_callB call_len_seq (by rfl) T.len PySem.boot_len (pa_cons (pv 1) pa_nil)) pa_nil))) (fun _ _ => rfl))), ?_⟩
    refine ⟨_, rfl, _, rfl, _, rfl, l, _, rfl, .inl hS, b, u, v, _, rfl, hb, ok, (by omega), (by omega), fun d u' v' d0 d1 ok' => ?_⟩
    have hj : d.toNat < xs.length := by omega
    refine ⟨l, xs, d, xs[d.toNat], rfl, rfl, ?_, ?_, k _ _ _ (List.getElem_mem hj) ok'⟩
    · exact seqL_ne ne hS
    · have e : ixN xs.length d = some d.toNat := by
        unfold ixN
        rw [if_pos d0, if_pos (by omega)]
      show (ixN xs.length d).bind (fun j => xs[j]?) = some xs[d.toNat]
      rw [e]
      exact List.getElem?_eq_getElem hj
theorem ok_seed {f : Addr} {fd : FuncData} (F : Fun K "_law_seed" "_law_seed" sSeed f fd) (T : Blt mg) : FnOk P w K mg base CX0 1 f fd ["_law_script", "_law_k"] (spSeed K) := by
  refine F.ok scSeed (fun vs H Q E h => ?_) (fun cdv A outer s H vs Q E hr h => ?_)
  · obtain ⟨a, ns, k, rfl, _⟩ := h
    rfl
  · obtain ⟨a, ns, k, rfl, hS, hl, k0, k1, go⟩ := h
    refine ⟨_, pss_cons (ps_set (i := 2) scSeed.nd rfl (Or.inl rfl) (pe_op op_add (pe_op op_mul pe_int (pv 1)) pe_int))
      (pss_cons (ps_if (pt_cmpR op_lt (pv 1) (pe_callB call_len_seq (by rfl) T.len PySem.boot_len (pa_cons (pv 0) pa_nil)) (nomark _))
        (pss_one (ps_set (i := 2) scSeed.nd rfl (Or.inl rfl) (pe_callB call_abs (by rfl) T.abs (by decide +kernel) (pa_cons (pe_ix ix_list (pv 0) (pv 1) (fun _ _ => rfl)) pa_nil))))
        (pss_one (ps_if (pt_cmpR op_gt (pe_callB call_len_seq (by rfl) T.len PySem.boot_len (pa_cons (pv 0) pa_nil)) pe_int (nomark _))
          (pss_one (ps_set (i := 2) scSeed.nd rfl (Or.inl rfl) (pe_op op_add (pv 2) (pe_op op_mul (pe_op op_mod (pe_callTy call_int1 (by rfl) T.int (by decide +kernel) (pa_cons (pe_callB call_abs (by rfl) T.abs (by decide +kernel) (pa_cons (pe_ix ix_list (pv 0) (pe_op op_mod (pe_callTy call_int1 (by rfl) T.int (by decide +kernel) (pa_cons (pv 1) pa_nil)) (pe_callB call_len_seq (by rfl) T.len PySem.boot_len (pa_cons (pv 0) pa_nil))) (fun _ _ => rfl)) pa_nil)) pa_nil)) pe_int) pe_int))))
          pss_nil)))
      (pss_one (ps_ret (pe_lst (pa_cons (pe_ifExp (pt_cmpR op_ge (pv 2) (pe_op op_pow pe_int pe_int) (nomark _)) (pv 2) pe_int)
        (pa_cons (pe_op op_add (pe_op op_mod (pe_callTy call_int1 (by rfl) T.int (by decide +kernel) (pa_cons (pe_op op_add (pe_op op_mul (pe_op op_mod (pe_callTy call_int1 (by rfl) T.int (by decide +kernel) (pa_cons (pv 2) pa_nil)) pe_int) pe_int) (pe_op op_mul pe_int (pv 1))) pa_nil)) pe_int) pe_int) pa_nil)))))), ?_⟩
    have hk1 : -(2 ^ 64) < (7411 : Int) ∧ (7411 : Int) < 2 ^ 64 := by constructor <;> decide
    refine ⟨_, rfl, _, _, rfl, rfl, .inl hk1, _, _, rfl, rfl, ?_⟩
    refine ⟨_, rfl, _, rfl, a, _, rfl, .inl hS, _, _, rfl, rfl, _, rfl, ?_⟩
    rw [List.length_map]
    refine ite2 (fun c => ?wayA) (fun c => ?wayB)
    case' wayA =>
      have c' : k < (ns.length : Int) := of_decide_eq_true c
      have hj : k.toNat < ns.length := by omega
      refine ⟨_, rfl, _, rfl, a, _, k, .int ns[k.toNat], rfl, rfl, hS, atI_ints k0 hj, _, rfl, ?_⟩
      have hc : 0 ≤ (if ns[k.toNat] < 0 then -ns[k.toNat] else ns[k.toNat]) := by split <;> omega
      generalize (if ns[k.toNat] < 0 then -ns[k.toNat] else ns[k.toNat]) = cell at hc
    case' wayB =>
      refine ⟨_, rfl, a, _, rfl, .inl hS, _, _, rfl, rfl, _, rfl, ?_⟩
      rw [List.length_map]
      refine ite2 (fun c2 => ?wayC) (fun c2 => ?wayD)
    case' wayC =>
      have c' : (0 : Int) < (ns.length : Int) := of_decide_eq_true c2
      have r0 := Int.emod_nonneg k (show (ns.length : Int) ≠ 0 by omega)
      have r1 := Int.emod_lt_of_pos k c'
      have hj : (k % (ns.length : Int)).toNat < ns.length := by omega
      refine ⟨_, rfl, _, rfl, _, rfl, .inl ⟨_, rfl, _, rfl, a, _, rfl, .inl hS, _, _, rfl, rfl, (by rw [List.length_map]; exact c'), ?_⟩⟩
      rw [List.length_map]
      refine ⟨a, _, k % (ns.length : Int), .int ns[(k % (ns.length : Int)).toNat], rfl, rfl, hS, atI_ints r0 hj, _, rfl, .inl ⟨_, rfl, _, _, rfl, rfl, (by show (0 : Int) < 2147483629; decide), _, _, rfl, rfl, .inr (by constructor <;> decide), _, _, rfl, rfl, ?_⟩⟩
      generalize (if ns[(k % (ns.length : Int)).toNat] < 0 then -ns[(k % (ns.length : Int)).toNat] else ns[(k % (ns.length : Int)).toNat]) = z
      have z0 := Int.emod_nonneg z (by decide : (2147483629 : Int) ≠ 0)
      have hc : 0 ≤ 7411 * k + 29 + z % 2147483629 * 40093 := by omega
      generalize 7411 * k + 29 + z % 2147483629 * 40093 = cell at hc
    case' wayD =>
      have hc : 0 ≤ 7411 * k + 29 := by omega
      generalize 7411 * k + 29 = cell at hc
    all_goals (
      refine ⟨_, rfl, _, _, rfl, rfl, ⟨by decide, by decide, by decide⟩, _, _, rfl, rfl, _, rfl, ?_⟩
      have e1 := Int.emod_nonneg cell (by decide : (2147483629 : Int) ≠ 0)
      have e2 := Int.emod_lt_of_pos cell (by decide : (0 : Int) < 2147483629)
      have f1 := Int.emod_nonneg (cell % 2147483629 * 48271 + 20021 * k) (by decide : (2147483629 : Int) ≠ 0)
      have f2 := Int.emod_lt_of_pos (cell % 2147483629 * 48271 + 20021 * k) (by decide : (0 : Int) < 2147483629)
      refine ite2 (fun _ => ⟨_, rfl, ?_⟩) (fun _ => ?_)
      all_goals (
        refine ⟨_, rfl, .inl ⟨_, rfl, _, _, rfl, rfl, (by show (0 : Int) < 2147483629; decide), _, _, rfl, rfl, .inl (by constructor <;> omega), _, rfl, _, _, rfl, rfl, .inl (by constructor <;> decide), _, _, rfl, rfl, .inl ⟨_, rfl, _, _, rfl, rfl, (by show (0 : Int) < 2147483629; decide), _, _, rfl, rfl, (by show 2 ≤ sizeLine; decide), fun p hp => ?_⟩⟩⟩
        exact go p _ _ hp ⟨by omega, by omega, by omega⟩))
end
end V3

set_option Elab.async false
set_option linter.all false
set_option maxRecDepth 100000
/-! Rules of our own over the hand layer: an object made whose making may raise, within a try; str(o) by its own def; isinstance of a caught error with fields. -/
namespace V3
open PySem L2 PyProof.Rows
section
variable {X : Cx} {CX : CXT} {k : Nat} {f C : Addr} {fd : FuncData} {ps : List Str} {sp : Sp} {E : L2.St → XK} {x : Str} {p pos : Pos} {e : Expr} {es : List Expr} {t : TA} {dvs : List V} {ds : List Value}
theorem make_at {pins : List (Addr × Obj)} {σ : L2.St} {H : Hp} {s : Shared} {Q : VK}
    {us : List Value} {vs : List V} (M : Mk X.K C f)
    (F : FnOk X.prog X.w X.K X.mg X.base CX k f fd ps sp)
    (room : Room (k + 1) X.A) (bi : Binds X.K fd ps ds) (va : Vals dvs ds)
    (out : PassesAt CX X σ (E σ)) (I : Inv X pins σ H s) (r : Vals vs us)
    (h : ∀ y dy, H y = none → H dy = none → dy ≠ y →
      sp (.ref y :: (vs ++ dvs)) (upd (upd H dy (.own y)) y (.ins C dy []))
        (fun v H2 => v = .non ∧ Q (.ref y) H2) (E σ)) :
    wpAny (model X.prog X.w) X.A (call (.ref C) us) (EP X pins σ Q) X.xe s := by
  have want := h (s.heap.objs.size + 1) s.heap.objs.size
    (I.hok.fresh (Nat.le_succ _)) (I.hok.fresh (Nat.le_refl _))
    (Nat.ne_of_lt (Nat.lt_succ_self _))
  have J := Inv.made (C := C) I
  have rr : Vals (V.ref (s.heap.objs.size + 1) :: (vs ++ dvs))
      (Value.ref (s.heap.objs.size + 1) :: (us ++ ds)) := .cons rfl (r.append va)
  have len : (Value.ref (s.heap.objs.size + 1) :: us ++ ds).length = ps.length := by
    have q := rr.length
    rw [F.len _ _ _ _ want] at q
    exact q.symm
  have bound := bi _ (Value.ref (s.heap.objs.size + 1) :: us) J.kIn len
  have ran := F.run _ X.stack _ _ ⟨Value.ref (s.heap.objs.size + 1) :: us, []⟩
    (Value.ref (s.heap.objs.size + 1) :: (us ++ ds)) _ _ (E σ)
    (room.make C us []) (J.env0.make C us []) bound rr want
  refine wpAny_call (make_map (f := f) I.kIn M.makes M.init
    (beq_iff_eq.mp M.fn) (codeAny_mono ran fun res s' hq => ?_))
  match res, hq with
  | .error err, hq => exact out pins _ _ err s' J hq
  | .ok (.ret u), hq =>
    obtain ⟨v, H', I3, rv, ev, q3⟩ := J.after hq
    subst ev
    exact ⟨rv, ⟨V.ref (s.heap.objs.size + 1), H', I3, rfl, q3⟩⟩
  | .ok .next, hq => exact hq.elim
  | .ok .brk, hq => exact hq.elim
  | .ok .cont, hq => exact hq.elim
/-- C(e, ..) where what its making raises is wished for at the slots -/
def tMakeS (C : Addr) (sp : Sp) (dvs : List V) (E : L2.St → XK) (t : TA) : TE :=
  fun σ H Q => t σ H fun vs H1 => ∀ y dy, H1 y = none → H1 dy = none → dy ≠ y →
    sp (.ref y :: (vs ++ dvs)) (upd (upd H1 dy (.own y)) y (.ins C dy []))
      (fun v H2 => v = .non ∧ Q (.ref y) H2) (E σ)
theorem pe_makeS (M : Mk X.K C f) (F : FnOk X.prog X.w X.K X.mg X.base CX k f fd ps sp)
    (room : Room (k + 1) X.A) (hg : Gl X x) (hm : X.mg x = some (.ref C))
    (bi : Binds X.K fd ps ds) (va : Vals dvs ds) (out : ∀ σ, PassesAt CX X σ (E σ))
    (ha : PA X (e :: es) t) (hdb : (x == ("__debug__" : Str)) = false := by decide)
    (he : starEach (e :: es) X.env = (false, eval e X.env) :: starEach es X.env := by rfl)
    (hpl : (backTo pos (starEach es X.env)).any (·.1) = false := by rfl) :
    PE X (.Call (.Name x p) (e :: es) [] pos) (tMakeS C sp dvs E t) := by
  refine ⟨fun pins s σ H Q I h => wpAny_Call_Name_kw (ld_glob I hg hm ?_ hdb)⟩
  refine PySem.W.callWith_K (h₀ := X.base) I.ok.mod.kin M.kp ?_ he hpl
  exact thn (ha.run pos pins s σ H _ I h) fun us s1 ⟨vs, H1, I1, r, q⟩ =>
    ⟨I1.kIn, make_at M F room bi va (out σ) I1 r q⟩
end
/-! str(o), o of an own class with its own __str__ -/
section
variable {X : Cx} {CX : CXT} {n : Nat} {f C : Addr} {fd : FuncData} {ps : List Str} {sp : Sp} {E : XK}
theorem room2 {A : Around} (r : Room (n + 2) A) : Room n A.in1.in1 := Room.in1 (k := n) (Room.in1 (k := n + 1) r)
def rStrO (C : Addr) (sp : Sp) (E : XK) : List V → Hp → VK → Prop := fun xs H Q =>
  ∃ a dx fs, xs = [.ref a] ∧ H a = some (.ins C dx fs) ∧
    sp [.ref a] H (fun v H' => ∃ y : Str, v = .str y ∧ Q (.str y) H') E
theorem call_strO (F : FnOk X.prog X.w X.K X.mg X.base CX n f fd ps sp)
    (at_ : PySem.W.findIn X.K (.ref C) "__str__" = some (some (.ref f)))
    (isf : PySem.W.isFn X.K (.ref f) = true) (bi : Binds X.K fd ps [])
    (out : Passes CX X E) (room : Room (n + 2) X.A) : CallR X (.type "str") (rStrO C sp E) := by
  intro pins s σ H xs us Q I r h
  obtain ⟨a, dx, fs, rfl, ha, want⟩ := h
  cases r with
  | cons r1 rn =>
    cases rn
    cases r1
    obtain ⟨mA, O, _⟩ := ins_get I.hok ha
    obtain ⟨od, J, _⟩ := O.look
    have rr := room2 room
    refine PySem.W.kso_call rr.units0 I.kIn J at_ isf ?_
    have e0 : Env0 X.prog X.w X.K X.mg X.base X.A.in1.in1 X.stack s H := I.env0.in1.in1
    have len := F.len _ _ _ _ want
    have bound : BindsTo s fd ⟨[.ref a], []⟩ (ps.zip [Value.ref a]) := by
      have b := bi s [.ref a] I.kIn (by simpa using len)
      simpa using b
    have ran := F.run X.A.in1.in1 X.stack s H ⟨[.ref a], []⟩ [.ref a] [.ref a] _ E rr e0 bound (.cons rfl .nil) want
    refine wpAny_call (codeAny_mono ran fun res s' hq => ?_)
    match res, hq with
    | .error err, hq => exact out pins σ H s err s' I hq
    | .ok (.ret u), hq =>
      obtain ⟨v, H', I', rv, y, ev, q⟩ := I.after hq
      subst ev
      obtain ⟨t, rfl⟩ := rv
      exact ⟨.str y, H', I', ⟨t, rfl⟩, q⟩
    | .ok .next, hq => exact hq.elim
    | .ok .brk, hq => exact hq.elim
    | .ok .cont, hq => exact hq.elim
end
/-! isinstance(e, c), isinstance(e, (c, ..)), e the error that the suite holds -/
structure XClass (K : PySem.W.Frag) (D : Addr) : Prop where
  is : (PySem.W.clsIn K D).isSome = true
  ga : PySem.W.findIn K (.ref D) "__getattribute__" = some (some (.builtin "BaseException.__getattribute__"))
  gt : PySem.W.findIn K (.ref D) "__getattr__" = some none
  sb : PySem.W.subIn K (.ref D) (.type "BaseException") = some true
  ca : PySem.W.findIn K (.ref D) "__class__" = some (some (.builtin "object.__class__"))
  gn : PySem.W.specialIn K (.builtin "object.__class__") "__get__" = some (some (.builtin "getset_descriptor.__get__"))
  tk : PySem.W.takesIn K (.builtin "object.__class__") = some true
  mo : PySem.W.mroIn K D (.type "object") = some true
section
variable {X : Cx} {a D : Addr} {oe : Obj} {pn : List (Addr × Obj)} {d : Option Addr}
theorem held_at {pins : List (Addr × Obj)} {σ : L2.St} {H : Hp} {s : Shared} {dd : Addr} {fs : List (Str × V)}
    (hz : Zc (.ref D) (some dd) oe) (hf : ∃ vs, oe.data = .fields vs)
    (I : Inv (X.suite a ((a, oe) :: pn)) pins σ H s) (hd : H dd = some (.xd fs)) :
    ∃ od : Obj, PySem.W.InstAt s.heap a oe D (some od) := by
  obtain ⟨ha, _⟩ := I.pin (a, oe) (List.mem_append_left _ List.mem_cons_self)
  obtain ⟨vs, hv⟩ := hf
  have hx : ObjOk X.prog X.w H s.heap dd (.xd fs) := I.hok dd _ hd
  obtain ⟨mA, hns, _⟩ := hx
  obtain ⟨od, ho, _⟩ := lookIn_ns hns
  exact ⟨od, ha, hz.1, by unfold PySem.W.notCls; rw [hv] <;> rfl, by rw [hz.2]; exact ho⟩
def rIsX (K : PySem.W.Frag) (D a : Addr) (cls : Value) (d : Option Addr) : List V → Hp → VK → Prop := fun xs H Q =>
  ∃ (dd : Addr) (fs : List (Str × V)) (c : V) (u : Value) (b : Bool), cls = .ref D ∧ d = some dd ∧ H dd = some (.xd fs) ∧
    xs = [.ref a, c] ∧ ClsV c u ∧ PySem.W.kitOne K (.ref D) u = some b ∧ Q (.bl b) H
theorem call_isX {cls : Value} (T : XClass X.K D) (hz : Zc cls d oe) (hf : ∃ vs, oe.data = .fields vs) :
    CallR (X.suite a ((a, oe) :: pn)) (.builtin "isinstance") (rIsX X.K D a cls d) := by
  intro pins s σ H xs us Q I r h
  obtain ⟨dd, fs, c, u, b, rfl, rfl, hd, rfl, k, e, q⟩ := h
  obtain ⟨u1, u2, rfl, r1, r2⟩ := vals2 r
  cases (show u1 = Value.ref a from r1)
  have e2 := k.eq r2
  subst e2
  obtain ⟨od, J⟩ := held_at hz hf I hd
  exact PySem.W.kia_one (PySem.W.kitx_exc T.is T.ga T.gt T.sb T.ca T.gn T.tk T.mo) I.kIn J e (fun z => nomatch z)
    fun tk => ⟨.bl b, H, I.tok tk, rfl, q⟩
def rIsXT (K : PySem.W.Frag) (D a : Addr) (cls : Value) (d : Option Addr) : List V → Hp → VK → Prop := fun xs H Q =>
  ∃ (dd : Addr) (fs : List (Str × V)) (tp : Addr) (cs : List V) (us : List Value) (b : Bool), cls = .ref D ∧ d = some dd ∧ H dd = some (.xd fs) ∧
    xs = [.ref a, .ref tp] ∧ H tp = some (.tup cs) ∧ Paired ClsV cs us ∧ PySem.W.kitAny K (.ref D) us = some b ∧ Q (.bl b) H
theorem call_isXT {cls : Value} (T : XClass X.K D) (hz : Zc cls d oe) (hf : ∃ vs, oe.data = .fields vs) :
    CallR (X.suite a ((a, oe) :: pn)) (.builtin "isinstance") (rIsXT X.K D a cls d) := by
  intro pins s σ H xs us Q I r h
  obtain ⟨dd, fs, tp, cs, ws, b, rfl, rfl, hd, rfl, hT, k, e, q⟩ := h
  obtain ⟨u1, u2, rfl, r1, r2⟩ := vals2 r
  cases (show u1 = Value.ref a from r1)
  cases (show u2 = Value.ref tp from r2)
  obtain ⟨od, J⟩ := held_at hz hf I hd
  have okT : ObjOk X.prog X.w H s.heap tp (.tup cs) := I.hok tp _ hT
  obtain ⟨_, items, vals, ob, got, isT, m, dat⟩ := okT
  have same := ClsV.all k vals
  subst same
  obtain ⟨c0, d0, dt0, s0⟩ := ob
  simp only at isT dat
  subst isT dat
  exact PySem.W.kia_tup (PySem.W.kitx_exc T.is T.ga T.gt T.sb T.ca T.gn T.tk T.mo) I.kIn J got e (fun z => nomatch z)
    fun tk => ⟨.bl b, H, I.tok tk, rfl, q⟩
end
end V3

set_option Elab.async false
set_option linter.all false
set_option maxRecDepth 100000
/-! Further rules of our own: C() without an own __init__, len(o) by an own __len__, repr of small values, a list against the empty one. -/
namespace V3
open PySem L2 PyProof.Rows
section
variable {X : Cx} {C : Addr} {x : Str} {p pos : Pos}
/-- what a class without an own __init__ must have to be made -/
structure Mk0 (K : PySem.W.Frag) (C : Addr) : Prop where
  makes : PySem.W.makesIn K C = true
  ini : PySem.W.findIn K (.ref C) "__init__" = some (some (.builtin "object.__init__"))
  kp : PySem.W.keepIn K (.ref C) = true
def tNew (C : Addr) : TE := fun σ H Q => ∀ y dy, H y = none → H dy = none → dy ≠ y → Q (.ref y) (upd (upd H dy (.own y)) y (.ins C dy []))
theorem pe_new0 (M : Mk0 X.K C) (hg : Gl X x) (hm : X.mg x = some (.ref C)) (hdb : (x == ("__debug__" : Str)) = false := by decide) :
    PE X (.Call (.Name x p) [] [] pos) (tNew C) := by
  refine ⟨fun pins s σ H Q I h => wpAny_Call_Name_kw (ld_glob I hg hm ?_ hdb)⟩
  refine PySem.W.callWith_K0 I.kIn M.kp ?_
  have J := Inv.made (C := C) I
  have want := h (s.heap.objs.size + 1) s.heap.objs.size (I.hok.fresh (Nat.le_succ _)) (I.hok.fresh (Nat.le_refl _)) (Nat.ne_of_lt (Nat.lt_succ_self _))
  show wpAny _ _ (call (.ref C) []) _ _ _
  have KX := I.kIn
  refine wpAny_call (make_map0 KX M.makes M.ini (fun self => PySem.W.Looks.of_pure (PySem.W.oi_bind self)) ?_)
  have Y := PySem.W.makes_of (M := model X.prog X.w) KX M.makes
  obtain ⟨hh, g, d, t, os⟩ := s
  have own : ((hh.push PySem.W.emptyDict).push (PySem.W.instObj C hh.objs.size)).get? (hh.objs.size + 1) = some (PySem.W.instObj C hh.objs.size) := by heap_get
  have ty : PySem.W.Looks (model X.prog X.w) ((hh.push PySem.W.emptyDict).push (PySem.W.instObj C hh.objs.size)) (typeOf (.ref (hh.objs.size + 1))) (.ref C) :=
    (PySem.W.Looks.ld own).andThen .now
  have sub : PySem.W.Looks (model X.prog X.w) ((hh.push PySem.W.emptyDict).push (PySem.W.instObj C hh.objs.size)) (isInstance (.ref (hh.objs.size + 1)) (.type "object")) true := ty.andThen (Y.top.keeps fun b o e => Heap.get?_push_of_some _ (Heap.get?_push_of_some _ e))
  refine codeAny_call_builtin PySem.W.oi_plain PySem.W.entry_oi
    (@PySem.W.check_slot (model X.prog X.w) _ _ _ "object.__init__" "object" "__init__" (.ref (hh.objs.size + 1)) [] [] _
      PySem.W.oi_kind PySem.W.oi_split sub (PySem.W.oi_args (.ref (hh.objs.size + 1))) ?_)
  rw [PySem.W.oi_run]
  exact wpAny_pure (And.intro rfl ⟨V.ref (hh.objs.size + 1), _, J, rfl, want⟩)
end
section
variable {X : Cx} {CX : CXT} {n : Nat} {f C : Addr} {fd : FuncData} {ps : List Str} {sp : Sp} {E : XK}
/-- len(o), o of a class with its own __len__ -/
def rLenO (C : Addr) (sp : Sp) (E : XK) : List V → Hp → VK → Prop := fun xs H Q =>
  ∃ a dx fs, xs = [.ref a] ∧ H a = some (.ins C dx fs) ∧ sp [.ref a] H (fun v H' => ∃ i : Int, v = .int i ∧ (0 ≤ i ∧ i < 2 ^ 63) ∧ Q (.int i) H') E
theorem call_lenO (F : FnOk X.prog X.w X.K X.mg X.base CX n f fd ps sp) (at_ : PySem.W.findIn X.K (.ref C) "__len__" = some (some (.ref f)))
    (isf : PySem.W.isFn X.K (.ref f) = true) (bi : Binds X.K fd ps []) (out : Passes CX X E) (room : Room (n + 1) X.A) : CallR X (.builtin "len") (rLenO C sp E) := by
  intro pins s σ H xs us Q I r h
  obtain ⟨a, dx, fs, rfl, ha, want⟩ := h
  cases r with
  | cons r1 rn =>
    cases rn
    cases r1
    obtain ⟨mA, O, _⟩ := ins_get I.hok ha
    obtain ⟨od, J, _⟩ := O.look
    obtain ⟨m, hF⟩ := I.fr
    have rr : Room n X.A.in1 := Room.in1 (k := n) room
    refine PySem.W.len_K hF I.ok.mod.kin J at_ isf ?_
    have e0 : Env0 X.prog X.w X.K X.mg X.base X.A.in1 X.stack s H := I.env0.in1
    have len := F.len _ _ _ _ want
    have bound : BindsTo s fd ⟨[.ref a], []⟩ (ps.zip [Value.ref a]) := by
      have b := bi s [.ref a] I.kIn (by simpa using len)
      simpa using b
    have ran := F.run X.A.in1 X.stack s H ⟨[.ref a], []⟩ [.ref a] [.ref a] _ E rr e0 bound (.cons rfl .nil) want
    refine wpAny_call (codeAny_mono ran fun res s' hq => ?_)
    match res, hq with
    | .error err, hq => exact out pins σ H s err s' I hq
    | .ok (.ret u), hq =>
      obtain ⟨v, H', I', rv, i, ev, hi, q⟩ := I.after hq
      subst ev
      obtain ⟨t, rfl⟩ := rv
      exact ⟨hi, .int i, H', I'.tok _, ⟨_, rfl⟩, q⟩
    | .ok .next, hq => exact hq.elim
    | .ok .brk, hq => exact hq.elim
    | .ok .cont, hq => exact hq.elim
end
section
variable {X : Cx}
theorem call_repr_str : CallR X (.builtin "repr") (fun xs H Q => ∃ z : Str, xs = [.str z] ∧ (reprText z).length ≤ sizeLine ∧ Q (.str (reprText z)) H) := by
  intro pins s σ H xs us Q I r h
  obtain ⟨z, rfl, hz, q⟩ := h
  obtain ⟨u, rfl, t, rfl⟩ := vals1 r
  exact PySem.P.repr_of_str ⟨.str _, H, I.tok _, ⟨_, rfl⟩, q⟩ hz
/-- an int or a text -/
def rRepr : List V → Hp → VK → Prop := fun xs H Q => (∃ i : Int, xs = [.int i] ∧ i.natAbs.log2 < 1920 ∧ Q (.str (toString i)) H) ∨
  (∃ z : Str, xs = [.str z] ∧ (reprText z).length ≤ sizeLine ∧ Q (.str (reprText z)) H)
theorem call_reprIS : CallR X (.builtin "repr") rRepr := by
  intro pins s σ H xs us Q I r h
  rcases h with h | h
  · exact SkE.call_repr_int pins s σ H xs us Q I r h
  · exact call_repr_str pins s σ H xs us Q I r h
/-- xs != [] -/
def rNeE : R2 := fun x y H Q => ∃ l b xs, x = .ref l ∧ y = .ref b ∧ H l = some (.lst xs) ∧ H b = some (.lst []) ∧ Q (.bl (!xs.isEmpty)) H
theorem op_neE (hu : X.A.units < cLine) : OpR X (compareOp .NotEq) rNeE := by
  intro pins s σ H x y v u Q I rx ry h
  obtain ⟨l, b, xs, rfl, rfl, hl, hb, q⟩ := h
  cases rx
  cases ry
  obtain ⟨z, its, k, r, e⟩ := I.hok l _ hl
  obtain ⟨z2, its2, k2, r2, e2⟩ := I.hok b _ hb
  cases r2
  have L1 : s.heap.IsList l its.toArray := ⟨_, e, rfl, k, rfl⟩
  have L2' : s.heap.IsList b ([] : List Value).toArray := ⟨_, e2, rfl, k2, rfl⟩
  refine PySem.W.cmp_ofNotEq ?_
  cases r with
  | nil =>
    have c := PySem.SeqAt.RcNeAt.lists (e := fun _ => true) L1 L2' rfl hu (fun j h1 _ => absurd h1 (Nat.not_lt_zero _))
    exact c X.prog X.w X.xe _ ⟨.bl false, H, I, rfl, q⟩
  | @cons x0 u0 xs0 us0 r0 rr =>
    have c := PySem.SeqAt.RcNeAt.lists_lengths L1 L2' (by simp) hu
    exact c X.prog X.w X.xe _ ⟨.bl true, H, I, rfl, q⟩
end
end V3

set_option Elab.async false
set_option linter.all false
set_option maxRecDepth 100000
/-! Further rules of our own: xs[a:b:k]; a class that stands in a local name, called. -/
namespace V3
open PySem PySem.Spec PyProof.Rows L2
/-- the items of xs[lo:hi:st] -/
def stepV (xs : List V) (lo hi st : Option Int) : List V :=
  (sliceRange (sliceBounds lo hi st xs.length).1 (sliceBounds lo hi st xs.length).2.1 (sliceBounds lo hi st xs.length).2.2).filterMap (fun i => xs[i]?)
theorem vals_pick {xs : List V} {us : List Value} (r : Vals xs us) : ∀ idx : List Nat, Vals (idx.filterMap (fun i => xs[i]?)) (idx.filterMap (fun i => us.toArray[i]?))
  | [] => .nil
  | i :: idx => by
    have ih := vals_pick r idx
    rw [List.filterMap_cons, List.filterMap_cons]
    cases e : xs[i]? with
    | none =>
      have e2 : us.toArray[i]? = none := by
        rw [List.getElem?_toArray]
        exact r.none_of e
      rw [e2]
      exact ih
    | some x =>
      obtain ⟨u, hu, ru⟩ := r.get e
      have e2 : us.toArray[i]? = some u := by
        rw [List.getElem?_toArray]
        exact hu
      rw [e2]
      exact .cons ru ih
section
variable {X : Cx} {e : Expr} {te : TE} {lo hi st : Option Expr} {tl th ts : TO} {p2 pos : Pos}
def tStep (K : PySem.W.Frag) (te : TE) (tl th ts : TO) : TE := fun σ H Q => te σ H fun x H1 => tl σ H1 fun l H2 => th σ H2 fun u H3 => ts σ H3 fun k H4 =>
  ∃ a xs, x = .ref a ∧ SqL K H4 a xs ∧ k ≠ some 0 ∧ (stepV xs l u k).length ≤ sizeLine ∧ ∀ p, H4 p = none → Q (.ref p) (upd H4 p (.lst (stepV xs l u k)))
theorem pe_step (he : PE X e te) (hl : PO X lo tl) (hu : PO X hi th) (hk : PO X st ts)
    (hop : ∀ (o : Value) (n : Addr), subscripted (.Slice lo hi st p2) false o (.ref n) = operate [o, .ref n] (getItem o (.ref n)) := by intro _ _; with_unfolding_all rfl) :
    PE X (.Subscript e (.Slice lo hi st p2) pos) (tStep X.K te tl th ts) := by
  refine ⟨fun pins s σ H Q I h => ?_⟩
  refine Subscript_ (thn (he.run pins s σ H _ I h) fun v s1 ⟨x, H1, I1, r1, q1⟩ => ?_)
  refine wpAny_Slice (thn (hl.run pins s1 σ H1 _ I1 q1) fun vl s2 ⟨l, H2, I2, pl, q2⟩ =>
    thn (hu.run pins s2 σ H2 _ I2 q2) fun vu s3 ⟨u, H3, I3, pu, q3⟩ =>
    thn (hk.run pins s3 σ H3 _ I3 q3) fun vk s4 ⟨k, H4, I4, pk, q4⟩ => ?_)
  obtain ⟨a, xs, rfl, hx, hk0, hsz, q⟩ := q4
  have J : Inv X pins σ H4 { s4 with heap := s4.heap.push { cls := .type "slice", data := .fields #[vl, vu, vk] } } := I4.kept (t' := s4.toks) fun b ob q => Heap.get?_push_of_some _ q
  cases r1
  obtain ⟨its, r, ht, hz⟩ := J.list hx
  have hlen := r.length
  have got : wpAny (model X.prog X.w) X.A (getItem (.ref a) (.ref s4.heap.objs.size)) (EP X pins σ Q) X.xe { s4 with heap := s4.heap.push { cls := .type "slice", data := .fields #[vl, vu, vk] } } := by
    refine wpAny_getItem_list_slice ht.isList (Heap.IsSliceOf.new ..) pl pu pk hk0 ?_ (by rw [List.size_toArray] <;> omega)
    have e : slicePick its.toArray l u k = ((sliceRange (sliceBounds l u k xs.length).1 (sliceBounds l u k xs.length).2.1 (sliceBounds l u k xs.length).2.2).filterMap (fun i => its.toArray[i]?)).toArray := by
      unfold slicePick
      rw [List.size_toArray, ← hlen]
    rw [e]
    refine ⟨.ref (s4.heap.push _).objs.size, _, J.laid (t' := s4.toks) (o := .lst (stepV xs l u k)) (fun b ob q => Heap.get?_push_of_some _ q) (Nat.le_refl _) ?_, rfl, q _ (J.hok.fresh (Nat.le_refl _))⟩
    exact ⟨hsz, _, 0, vals_pick r _, Heap.get?_push_size _ rfl⟩
  show wpAny (model X.prog X.w) X.A (subscriptTail e (.Slice lo hi st p2) (.ref a) (.ref s4.heap.objs.size)) (EP X pins σ Q) X.xe { s4 with heap := s4.heap.push { cls := .type "slice", data := .fields #[vl, vu, vk] } }
  exact tail_any (ops := [.ref a, .ref s4.heap.objs.size]) ht.isList.typeIs slot_list_getitem.lookup got (hop _ _)
end
section
variable {X : Cx} {CX : CXT} {k i : Nat} {f C : Addr} {fd : FuncData} {ps : List Str} {sp : Sp} {E : XK} {x : Str} {p pos : Pos} {e : Expr} {es : List Expr} {t : TA} {dvs : List V} {ds : List Value}
/-- c(e, ..), c a local name that holds the class at C -/
def tMakeL (i : Nat) (C : Addr) (sp : Sp) (dvs : List V) (E : XK) (t : TA) : TE := fun σ H Q => σ[i]? = some (some (.ref C)) ∧ tMake C sp dvs E t σ H Q
theorem pe_makeL (M : Mk X.K C f) (F : FnOk X.prog X.w X.K X.mg X.base CX k f fd ps sp) (room : Room (k + 1) X.A) (hN : X.N[i]? = some x) (hv : Vis X.env.scope x)
    (bi : Binds X.K fd ps ds) (va : Vals dvs ds) (out : Passes CX X E) (ha : PA X (e :: es) t)
    (hdb : (x == ("__debug__" : Str)) = false := by decide) (hcd : (x == ("__classdict__" : Str)) = false := by decide)
    (he : starEach (e :: es) X.env = (false, eval e X.env) :: starEach es X.env := by rfl) (hpl : (backTo pos (starEach es X.env)).any (·.1) = false := by rfl) :
    PE X (.Call (.Name x p) (e :: es) [] pos) (tMakeL i C sp dvs E t) := by
  refine ⟨fun pins s σ H Q I h => ?_⟩
  obtain ⟨at_, want⟩ := h
  refine wpAny_Call_Name_kw (thn ((pe_var (pos := p) hN hv hdb hcd).run pins s σ H (fun v H1 => v = .ref C ∧ H1 = H) I ⟨.ref C, at_, rfl, rfl⟩) fun u s1 ⟨v, H1, I1, r1, q1⟩ => ?_)
  obtain ⟨rfl, rfl⟩ := q1
  cases r1
  refine PySem.W.callWith_K (h₀ := X.base) I.ok.mod.kin M.kp ?_ he hpl
  exact thn (ha.run pos pins s1 σ _ _ I1 want) fun us s2 ⟨vs, H2, I2, r, q⟩ => ⟨I2.kIn, run_make M F room bi va out I2 r q⟩
end
end V3

set_option Elab.async false
set_option linter.all false
set_option maxRecDepth 100000
/-! == and != of objects of our own classes, by their own __eq__, whatever it answers. -/
namespace V3
open PySem PySem.Spec PyProof.Rows L2
section
variable {prog : Program} {w : World} {A : Around} {E : Value → Shared → Prop} {s : Shared} {K : PySem.W.Frag} {x C L f : Addr} {h₀ : Heap} {m : Str → Option Value} {ox : Obj} {od : Option Obj} {name : Str} {b tb : Value}
theorem ifBound_B {M : Model} {args : List Value} {id : String} {Q : Option Value → Shared → Prop} (X : K.In s.heap) (I : PySem.W.InstAt s.heap x ox C od) (hs : PySem.W.findIn K (.ref C) name = some (some (.builtin id)))
    (hb : ∀ self, bindSpecial (.builtin id) self = pure (.builtin id, [self]))
    (h : wpAny M A (call (.builtin id) (.ref x :: args)) (fun v => Q (some v)) E s) : wpAny M A (callSpecialIfBound? (.ref x) name args) Q E s := by
  simp only [callSpecialIfBound?, bindSpecialIfBound?]
  refine wpAny_holding (wpAny_bind (wpAny_bind (wpAny_bind (I.type.here ((PySem.W.looks_findIn X hs).here ?_)))))
  simp only [hb]
  refine wpAny_bind (wpAny_askSetting (wpAny_ite ?_))
  have fin : wpAny M A (call (.builtin id) ([.ref x] ++ args) >>= fun v => pure (some v)) Q E s := wpAny_bind (wpAny_mono h (fun v s' h' => wpAny_pure h') fun _ _ h' => h')
  split
  · exact wpAny_bind (wpAny_pure (wpAny_pure fin))
  · exact wpAny_tryCatch (wpAny_bind (wpAny_pure (wpAny_pure fin)))
theorem ne_entry {Q : Fin → Shared → Prop} (hu : A.units < cLine) (X : K.In s.heap) (I : PySem.W.InstAt s.heap x ox C od) (hs : PySem.W.findIn K (.ref C) "__eq__" = some (some (.ref f))) (hf : PySem.W.isFn K (.ref f) = true)
    (h : wpAny (model prog w) A (call (.ref f) [.ref x, b]) (fun v s' => ∃ r, v = .bool r ∧ Q (.done (.ret (.bool (!r)))) s') E s) :
    wpAny (model prog w) A (Builtin.«object.__ne__» ⟨[.ref x, b], []⟩) Q E s := by
  unfold Builtin.«object.__ne__»
  repeat (first | with_reducible refine wpAny_cRoomFor hu ?_ | with_reducible refine wpAny_bind (PySem.W.ifBound_K X I hs hf (wpAny_mono h (fun v s' hv => ?_) fun _ _ e => e)) | wp_step)
  obtain ⟨r, rfl, q⟩ := hv
  repeat wp_step
  exact q
theorem ne_K {Q : Value → Shared → Prop} (hu : A.units + 1 < cLine) (F : PyProof.Rows.Fr h₀ L s.heap m) (X₀ : K.In h₀) (I : PySem.W.InstAt s.heap x ox C od) (hb : PySem.W.Looks (model prog w) s.heap (typeOf b) tb) (hn : PySem.W.notFirst K C tb = true)
    (hs : PySem.W.findIn K (.ref C) "__eq__" = some (some (.ref f))) (hf : PySem.W.isFn K (.ref f) = true)
    (hne : PySem.W.findIn K (.ref C) "__ne__" = some (some (.builtin "object.__ne__"))) (hob : PySem.W.subIn K (.ref C) (.type "object") = some true)
    (h : wpAny (model prog w) A.in1 (call (.ref f) [.ref x, b]) (fun v s' => ∃ r, v = .bool r ∧ Q (.bool (!r)) s') E s) : wpAny (model prog w) A (richCompare .NotEq (.ref x) b) Q E s := by
  have X := X₀.keeps F.keep
  have hu0 : A.units < cLine := Nat.lt_of_succ_lt hu
  have one : wpAny (model prog w) A (tryCompare (.ref x) "__ne__" b) (fun r s' => ∃ v, r = some v ∧ Q v s') E s := by
    unfold tryCompare
    refine wpAny_bind (ifBound_B X I hne (fun self => PySem.F.cmp_object.ne.bind self) ?_)
    refine wpAny_call (codeAny_call_builtin PySem.F.cmp_object.ne.plain PySem.F.cmpEntry_ne (PySem.W.check_slot PySem.F.cmpKind_ne PySem.F.cmpSplit_ne (I.type.andThen (PySem.W.looks_subIn X hob)) (PySem.F.cmpArgs_ne _ _) (ne_entry (A := A.in1) hu X I hs hf ?_)))
    refine wpAny_mono h (fun v s' hv => ?_) fun _ _ e => e
    obtain ⟨r, rfl, q⟩ := hv
    exact ⟨r, rfl, wpAny_pure ⟨_, rfl, q⟩⟩
  unfold richCompare
  simp only [oneThing_ref]
  refine wpAny_holding (wpAny_bind (wpAny_cRoomFor hu0 ?_))
  refine wpAny_bind (I.type.here (wpAny_bind (hb.here ?_)))
  split
  · rename_i q
    have e : PySem.W.subIn K tb (.ref C) = some false := by
      rcases Bool.or_eq_true_iff.mp hn with e | e
      · rw [beq_iff_eq.mp e] at q; simp at q
      · exact beq_iff_eq.mp e
    refine wpAny_bind ((PySem.W.looks_subIn X e).here ?_)
    simp only [Bool.false_eq_true, if_false]
    refine wpAny_bind (wpAny_mono one (fun r s' z => ?_) fun _ _ e => e)
    obtain ⟨v, rfl, hq⟩ := z
    exact wpAny_pure hq
  · refine wpAny_bind (wpAny_pure ?_)
    simp only [Bool.false_eq_true, if_false]
    refine wpAny_bind (wpAny_mono one (fun r s' z => ?_) fun _ _ e => e)
    obtain ⟨v, rfl, hq⟩ := z
    exact wpAny_pure hq
end
/-- a class with an own __eq__ at f and the __ne__ of object -/
structure EqCls (K : PySem.W.Frag) (C f : Addr) : Prop where
  eq : PySem.W.findIn K (.ref C) "__eq__" = some (some (.ref f))
  fn : PySem.W.isFn K (.ref f) = true
  ne : PySem.W.findIn K (.ref C) "__ne__" = some (some (.builtin "object.__ne__"))
  ob : PySem.W.subIn K (.ref C) (.type "object") = some true
section
variable {X : Cx} {CX : CXT} {n : Nat} {f C D : Addr} {fd : FuncData} {ps : List Str} {sp : Sp} {E : XK}
/-- f called at a pair, somewhere below the running body -/
theorem run_own {A : Around} {pins : List (Addr × Obj)} {s : Shared} {σ : L2.St} {H : Hp} {x y : V} {u v : Value} {Q : VK} (sb : Sub X n A) (F : FnOk X.prog X.w X.K X.mg X.base CX n f fd ps sp) (hb : Binds X.K fd ps []) (hx : Passes CX X E)
    (I : Inv X pins σ H s) (rx : RelV x u) (ry : RelV y v) (h : sp [x, y] H Q E) : wpAny (model X.prog X.w) A (call (.ref f) [u, v]) (EP X pins σ Q) X.xe s := by
  have e0 : Env0 X.prog X.w X.K X.mg X.base A X.stack s H := by
    have e := I.env0
    exact ⟨by rw [sb.fr]; exact e.frames, e.mod, e.bs, e.bsz, e.funs, e.frf, e.hok, e.bare⟩
  have hl := F.len _ _ _ _ h
  have r2 : Vals [x, y] [u, v] := .cons rx (.cons ry .nil)
  refine wpAny_call (codeAny_mono (F.run A X.stack s H ⟨[u, v], []⟩ [u, v] [x, y] _ E sb.room e0 (by
    have := hb s [u, v] I.kIn (by simpa using hl)
    simpa using this) r2 h) fun r s' hq => ?_)
  cases r with
  | error e => exact hx pins σ H s e s' I hq
  | ok fl =>
    cases fl with
    | ret w =>
      obtain ⟨z, H', I', rz, q⟩ := I.after hq
      exact ⟨z, H', I', rz, q⟩
    | next => exact False.elim hq
    | brk => exact False.elim hq
    | cont => exact False.elim hq
/-- x == y, x an object whose class has the own __eq__ -/
def rEqO (K : PySem.W.Frag) (n : Nat) (FF : Addr → Sp → XK → Prop) (neg : Bool) : R2 := fun x y H Q => ∃ (a C dx : Addr) (fs : List (Str × V)) (b D dy : Addr) (gs : List (Str × V)) (sp : Sp) (E : XK), x = .ref a ∧ y = .ref b ∧ H a = some (.ins C dx fs) ∧ H b = some (.ins D dy gs) ∧
  FF C sp E ∧ PySem.W.notFirst K C (.ref D) = true ∧ sp [x, y] H (fun v H' => ∃ r : Bool, v = .bl r ∧ Q (.bl (r != neg)) H') E
theorem op_eqO {FF : Addr → Sp → XK → Prop} (hF : ∀ C sp E, FF C sp E → ∃ (CX : CXT) (f : Addr) (fd : FuncData) (ps : List Str), FnOk X.prog X.w X.K X.mg X.base CX n f fd ps sp ∧ EqCls X.K C f ∧ Binds X.K fd ps [] ∧ Passes CX X E) (hr : Room n X.A) :
    OpR X (compareOp .Eq) (rEqO X.K n FF false) := by
  intro pins s σ H x y v u Q I rx ry hq
  obtain ⟨a, C, dx, fs, b, D, dy, gs, sp, E, rfl, rfl, ha, hb, ff, hn, hsp⟩ := hq
  obtain ⟨CX, f, fd, ps, F, ec, bi, hx⟩ := hF C sp E ff
  cases rx
  cases ry
  obtain ⟨mA, J, _⟩ := ins_get I.hok ha
  obtain ⟨mB, J', _⟩ := ins_get I.hok hb
  obtain ⟨od, J, _⟩ := J.look
  obtain ⟨od', J', _⟩ := J'.look
  obtain ⟨m, hF⟩ := I.fr
  show wpAny (model X.prog X.w) X.A (richCompare .Eq (.ref a) (.ref b)) (EP X pins σ Q) X.xe s
  refine PySem.W.cmp_K (op := .Eq) (tb := .ref D) hr.units0 hF I.ok.mod.kin J J'.type hn ec.eq ec.fn ?_
  refine wpAny_mono (run_own (x := .ref a) (y := .ref b) ⟨hr, rfl⟩ F bi hx I rfl rfl hsp) (fun w s' q => ?_) fun _ _ e => e
  obtain ⟨z, H', I', rz, r, ez, q⟩ := q
  subst ez
  cases rz
  refine ⟨.bl r, H', I', rfl, ?_⟩
  have e : (r != false) = r := by cases r <;> rfl
  rw [e] at q
  exact q
theorem op_neO {FF : Addr → Sp → XK → Prop} (hF : ∀ C sp E, FF C sp E → ∃ (CX : CXT) (f : Addr) (fd : FuncData) (ps : List Str), FnOk X.prog X.w X.K X.mg X.base CX n f fd ps sp ∧ EqCls X.K C f ∧ Binds X.K fd ps [] ∧ Passes CX X E) (hr : Room (n + 1) X.A) :
    OpR X (compareOp .NotEq) (rEqO X.K n FF true) := by
  intro pins s σ H x y v u Q I rx ry hq
  obtain ⟨a, C, dx, fs, b, D, dy, gs, sp, E, rfl, rfl, ha, hb, ff, hn, hsp⟩ := hq
  obtain ⟨CX, f, fd, ps, F, ec, bi, hx⟩ := hF C sp E ff
  cases rx
  cases ry
  obtain ⟨mA, J, _⟩ := ins_get I.hok ha
  obtain ⟨mB, J', _⟩ := ins_get I.hok hb
  obtain ⟨od, J, _⟩ := J.look
  obtain ⟨od', J', _⟩ := J'.look
  obtain ⟨m, hF⟩ := I.fr
  show wpAny (model X.prog X.w) X.A (richCompare .NotEq (.ref a) (.ref b)) (EP X pins σ Q) X.xe s
  refine ne_K (tb := .ref D) (by have := hr.units; omega) hF I.ok.mod.kin J J'.type hn ec.eq ec.fn ec.ne ec.ob ?_
  refine wpAny_mono (run_own (x := .ref a) (y := .ref b) (A := X.A.in1) ⟨hr.in1, rfl⟩ F bi hx I rfl rfl hsp) (fun w s' q => ?_) fun _ _ e => e
  obtain ⟨z, H', I', rz, r, ez, q⟩ := q
  subst ez
  cases rz
  refine ⟨r, rfl, .bl (!r), H', I', rfl, ?_⟩
  have e : (r != true) = !r := by cases r <;> rfl
  rw [e] at q
  exact q
end
end V3

set_option Elab.async false
set_option linter.all false
set_option maxRecDepth 100000
/-! x + y by an own __add__; x[i], x[a:b:c] by an own __getitem__. -/
namespace V3
open PySem PySem.Spec PyProof.Rows L2
section
variable {X : Cx} {n : Nat}
theorem vals_back {z : V} {u : Value} {Q : Value → Shared → Prop} {s' : Shared} (r : RelV z u) (q : Q u s') : PySem.W.CmpBack Q u s' := by
  cases z with
  | non => cases r; exact q
  | bl b => cases r; exact q
  | int i => obtain ⟨t, rfl⟩ := r; exact q
  | str i => obtain ⟨t, rfl⟩ := r; exact q
  | byt i => obtain ⟨t, rfl⟩ := r; exact q
  | flt i => obtain ⟨t, rfl⟩ := r; exact q
  | ref a => cases r; exact q
  | ty a => cases r; exact q
/-- a class with an own method at f for a binary operator -/
structure BinCls (K : PySem.W.Frag) (C f : Addr) (op : Operator) : Prop where
  sf : PySem.W.selfFirst K C = true
  at_ : PySem.W.findIn K (.ref C) (PySem.dunder op.info.2) = some (some (.ref f))
  fn : PySem.W.isFn K (.ref f) = true
/-- x op y, both of one class -/
def rBinS (FF : Addr → Sp → XK → Prop) : R2 := fun x y H Q => ∃ (a C dx : Addr) (fs : List (Str × V)) (b dy : Addr) (gs : List (Str × V)) (sp : Sp) (E : XK), x = .ref a ∧ y = .ref b ∧ H a = some (.ins C dx fs) ∧ H b = some (.ins C dy gs) ∧
  FF C sp E ∧ sp [x, y] H Q E
theorem op_binS {op : Operator} {FF : Addr → Sp → XK → Prop} (hF : ∀ C sp E, FF C sp E → ∃ (CX : CXT) (f : Addr) (fd : FuncData) (ps : List Str), FnOk X.prog X.w X.K X.mg X.base CX n f fd ps sp ∧ BinCls X.K C f op ∧ Binds X.K fd ps [] ∧ Passes CX X E) (hr : Room n X.A) :
    OpR X (binaryOp op) (rBinS FF) := by
  intro pins s σ H x y v u Q I rx ry hq
  obtain ⟨a, C, dx, fs, b, dy, gs, sp, E, rfl, rfl, ha, hb, ff, hsp⟩ := hq
  obtain ⟨CX, f, fd, ps, F, ec, bi, hx⟩ := hF C sp E ff
  cases rx
  cases ry
  obtain ⟨mA, J, _⟩ := ins_get I.hok ha
  obtain ⟨mB, J', _⟩ := ins_get I.hok hb
  obtain ⟨od, J, _⟩ := J.look
  obtain ⟨od', J', _⟩ := J'.look
  obtain ⟨m, hF⟩ := I.fr
  refine PySem.W.binop_K hF I.ok.mod.kin J J'.type ec.sf ec.at_ ec.fn ?_
  refine wpAny_mono (run_own (x := .ref a) (y := .ref b) ⟨hr, rfl⟩ F bi hx I rfl rfl hsp) (fun w s' q => ?_) fun _ _ e => e
  obtain ⟨z, H', I', rz, q⟩ := q
  exact vals_back rz ⟨z, H', I', rz, q⟩
/-- a class with an own __getitem__ at f -/
structure GetCls (K : PySem.W.Frag) (C f : Addr) : Prop where
  at_ : PySem.W.findIn K (.ref C) "__getitem__" = some (some (.ref f))
  fn : PySem.W.isFn K (.ref f) = true
  fi : PySem.W.fnIn K f = true
def rIxO (FF : Addr → Sp → XK → Prop) : R2 := fun x y H Q => ∃ (a C dx : Addr) (fs : List (Str × V)) (sp : Sp) (E : XK), x = .ref a ∧ H a = some (.ins C dx fs) ∧ FF C sp E ∧ sp [x, y] H Q E
/-- the call that x[i] makes -/
theorem sub_own {FF : Addr → Sp → XK → Prop} (hF : ∀ C sp E, FF C sp E → ∃ (CX : CXT) (f : Addr) (fd : FuncData) (ps : List Str), FnOk X.prog X.w X.K X.mg X.base CX n f fd ps sp ∧ GetCls X.K C f ∧ Binds X.K fd ps [] ∧ Passes CX X E) (hr : Room (n + 1) X.A)
    {value slice : Expr} {pins : List (Addr × Obj)} {s : Shared} {σ : L2.St} {H : Hp} {x y : V} {v u : Value} {Q : VK} (I : Inv X pins σ H s) (rx : RelV x v) (ry : RelV y u) (hq : rIxO FF x y H Q)
    (hsl : ∀ a : Addr, subscripted slice true (.ref a) u = runValue (.builtin "lifetime.subscript" ⟨[.ref a, u], []⟩)) : wpAny (model X.prog X.w) X.A (subscriptTail value slice v u) (EP X pins σ Q) X.xe s := by
  obtain ⟨a, C, dx, fs, sp, E, rfl, ha, ff, hsp⟩ := hq
  obtain ⟨CX, f, fd, ps, F, ec, bi, hx⟩ := hF C sp E ff
  cases rx
  obtain ⟨mA, J, _⟩ := ins_get I.hok ha
  obtain ⟨od, J, _⟩ := J.look
  obtain ⟨m, hF⟩ := I.fr
  refine PySem.W.sub_K hF I.ok.mod.kin J ec.at_ ec.fi ec.fn ?_ (hsl a)
  exact run_own (x := .ref a) (y := y) (A := X.A.in1) ⟨hr.in1, rfl⟩ F bi hx I rfl ry hsp
/-- x[i] -/
theorem pe_ixO {FF : Addr → Sp → XK → Prop} (hF : ∀ C sp E, FF C sp E → ∃ (CX : CXT) (f : Addr) (fd : FuncData) (ps : List Str), FnOk X.prog X.w X.K X.mg X.base CX n f fd ps sp ∧ GetCls X.K C f ∧ Binds X.K fd ps [] ∧ Passes CX X E) (hr : Room (n + 1) X.A)
    {a b : Expr} {ta tb : TE} {pos : Pos} (ha : PE X a ta) (hb : PE X b tb)
    (hsl : ∀ (o : Addr) (u : Value), subscripted b true (.ref o) u = runValue (.builtin "lifetime.subscript" ⟨[.ref o, u], []⟩) := by intro _ _; with_unfolding_all rfl) : PE X (.Subscript a b pos) (tOp (rIxO FF) ta tb) := by
  refine ⟨fun pins s σ H Q I h => ?_⟩
  exact Subscript_ (binT ha hb I h fun v u s2 x y H2 I2 rx ry q => sub_own hF hr I2 rx ry q fun o => hsl o u)
/-- a slice object -/
def SlH (p : Addr) (lo hi st : Option Int) : HO := .ext fun h => ∃ vl vu vk, h.IsSliceOf p vl vu vk ∧ IsPart vl lo ∧ IsPart vu hi ∧ IsPart vk st
def tSlO (FF : Addr → Sp → XK → Prop) (te : TE) (tl th ts : TO) : TE := fun σ H Q => te σ H fun x H1 => tl σ H1 fun l H2 => th σ H2 fun u H3 => ts σ H3 fun k H4 =>
  ∀ p, H4 p = none → rIxO FF x (.ref p) (upd H4 p (SlH p l u k)) Q
theorem po_no : PO X none tNoPart := ⟨fun pins s σ H Q I h => by
  rw [evalPart_none]
  exact wpAny_pure ⟨none, H, I, .none, h⟩⟩
/-- x[a:b:c] -/
theorem pe_slO {FF : Addr → Sp → XK → Prop} (hF : ∀ C sp E, FF C sp E → ∃ (CX : CXT) (f : Addr) (fd : FuncData) (ps : List Str), FnOk X.prog X.w X.K X.mg X.base CX n f fd ps sp ∧ GetCls X.K C f ∧ Binds X.K fd ps [] ∧ Passes CX X E) (hr : Room (n + 1) X.A)
    {e : Expr} {te : TE} {lo hi st : Option Expr} {tl th ts : TO} {p2 pos : Pos} (he : PE X e te) (hl : PO X lo tl) (hu : PO X hi th) (hk : PO X st ts)
    (hsl : ∀ (o : Addr) (u : Value), subscripted (.Slice lo hi st p2) true (.ref o) u = runValue (.builtin "lifetime.subscript" ⟨[.ref o, u], []⟩) := by intro _ _; with_unfolding_all rfl) :
    PE X (.Subscript e (.Slice lo hi st p2) pos) (tSlO FF te tl th ts) := by
  refine ⟨fun pins s σ H Q I h => ?_⟩
  refine Subscript_ (thn (he.run pins s σ H _ I h) fun v s1 ⟨x, H1, I1, r1, q1⟩ => ?_)
  refine wpAny_Slice (thn (hl.run pins s1 σ H1 _ I1 q1) fun vl s2 ⟨l, H2, I2, pl, q2⟩ =>
    thn (hu.run pins s2 σ H2 _ I2 q2) fun vu s3 ⟨u, H3, I3, pu, q3⟩ =>
    thn (hk.run pins s3 σ H3 _ I3 q3) fun vk s4 ⟨k, H4, I4, pk, q4⟩ => ?_)
  have J : Inv X pins σ (upd H4 s4.heap.objs.size (SlH s4.heap.objs.size l u k)) { s4 with heap := s4.heap.push { cls := .type "slice", data := .fields #[vl, vu, vk] } } :=
    I4.laid (t' := s4.toks) (o := SlH s4.heap.objs.size l u k) (fun b ob q => Heap.get?_push_of_some _ q) (Nat.le_refl _)
      ⟨⟨vl, vu, vk, Heap.IsSliceOf.new .., pl, pu, pk⟩, ⟨_, Heap.get?_push_size _ rfl⟩, fun h1 h2 ⟨a, b, c, ⟨o, ho, hc, hd⟩, p1, p2, p3⟩ kp => ⟨a, b, c, ⟨o, kp o ho, hc, hd⟩, p1, p2, p3⟩⟩
  exact sub_own (y := .ref s4.heap.objs.size) hF hr J r1 rfl (q4 _ (I4.hok.fresh (Nat.le_refl _))) fun o => hsl o _
end
end V3

set_option Elab.async false
set_option linter.all false
set_option maxRecDepth 100000
/-! slices of tuples, with any step. -/
namespace HT
open PySem PySem.Spec PyProof.Rows
section
variable {prog : Program} {w : World} {A : Around} {E : Value → Shared → Prop} {s : Shared}
theorem sliceApplied_any {sl : Addr} {vl vu vk : Value} {lo hi st : Option Int} {n : Nat} {Q : Int × Int × Nat → Shared → Prop} (hs : s.heap.IsSliceOf sl vl vu vk) (pl : IsPart vl lo) (pu : IsPart vu hi) (pk : IsPart vk st) (h0 : st ≠ some 0)
    (h : Q ((Builtin.Slice.sliceAdjust lo hi (st.getD 1) (n : Int)).1, st.getD 1, Builtin.Slice.slicePlaces (Builtin.Slice.sliceAdjust lo hi (st.getD 1) (n : Int)).1 (Builtin.Slice.sliceAdjust lo hi (st.getD 1) (n : Int)).2 (st.getD 1)) s) : wpAny (model prog w) A (Builtin.Slice.sliceApplied (.ref sl) (pure (n : Int))) Q E s := by
  obtain ⟨os, hos, hcs, hds⟩ := id hs
  unfold Builtin.Slice.sliceApplied Builtin.Slice.sliceFields
  refine wpAny_bind (wpAny_bind (wpAny_field hos hds (x := vl) rfl (wpAny_bind (wpAny_field hos hds (x := vu) rfl (wpAny_bind (wpAny_field hos hds (x := vk) rfl (wpAny_pure ?_)))))))
  refine wpAny_bind (slicePart_ pk ?_)
  have hc : ¬ ((st.getD 1 == 0) = true) := by
    cases st with
    | none => decide
    | some c =>
      intro q
      exact h0 (by rw [show c = 0 from eq_of_beq q])
  show wpAny _ _ (if (st.getD 1 == 0) = true then _ else _) _ _ s
  rw [if_neg hc]
  refine wpAny_bind (slicePart_ pl (wpAny_bind (slicePart_ pu (wpAny_bind (wpAny_pure ?_)))))
  exact wpAny_pure h
/-- the places of a slice -/
def idxT (lo hi st : Option Int) (n : Nat) : List Nat :=
  (List.range (Builtin.Slice.slicePlaces (Builtin.Slice.sliceAdjust lo hi (st.getD 1) (n : Int)).1 (Builtin.Slice.sliceAdjust lo hi (st.getD 1) (n : Int)).2 (st.getD 1))).map fun (k : Nat) => ((Builtin.Slice.sliceAdjust lo hi (st.getD 1) (n : Int)).1 + (k : Int) * st.getD 1).toNat
theorem getItem_tuple_any {t sl : Addr} {items : Array Value} {vl vu vk : Value} {lo hi st : Option Int} {Q : Value → Shared → Prop} (ht : IsTup s.heap t items) (hs : s.heap.IsSliceOf sl vl vu vk) (pl : IsPart vl lo) (pu : IsPart vu hi) (pk : IsPart vk st) (h0 : st ≠ some 0)
    (hsz : ((idxT lo hi st items.size).filterMap fun i => items[i]?).length ≤ sizeLine)
    (hw : (idxT lo hi st items.size) = List.range items.size → Q (.ref t) s)
    (h : Q (.ref s.heap.objs.size) { s with heap := s.heap.push { cls := .type "tuple", data := .seq ((idxT lo hi st items.size).filterMap fun i => items[i]?).toArray } })
    : wpAny (model prog w) A (getItem (.ref t) (.ref sl)) Q E s := by
  obtain ⟨os, hos, hcs, hds⟩ := id hs
  have hTs : s.TypeIs (.ref sl) "slice" := ⟨os, hos, hcs⟩
  unfold getItem
  try with_reducible refine wpAny_holding ?_
  first | refine wpAny_bind (wpAny_pure ?_) | skip
  refine wpAny_bind (wpAny_sequenceKey ht.typeIs (by decide) ?_)
  refine wpAny_bind (wpAny_callSpecial?_slot (name := Str.ofString "__getitem__") ht.typeIs PyProof.Rows.slot_tuple_getitem
    (wpAny_call_entry PyProof.Rows.slot_tuple_getitem ht.typeIs entry_tuple_getitem ?_ (args_tuple_getitem _ _)))
  show wpAny _ _ (Builtin.Tuple.tupleItemsOf (.ref t) >>= _) _ _ s
  refine wpAny_bind (tupleItemsOf_ ht ?_)
  refine wpAny_bind (wpAny_typeOf hTs ?_)
  rw [if_pos (by decide)]
  refine wpAny_bind (sliceApplied_any hs pl pu pk h0 ?_)
  unfold idxT at hsz hw h
  rw [List.filterMap_map] at hsz h
  generalize (Builtin.Slice.sliceAdjust lo hi (st.getD 1) ((items.size : Nat) : Int)).1 = a at hsz hw h ⊢
  generalize (Builtin.Slice.sliceAdjust lo hi (st.getD 1) ((items.size : Nat) : Int)).2 = b at hsz hw h ⊢
  generalize st.getD 1 = c at hsz hw h ⊢
  generalize Builtin.Slice.slicePlaces a b c = n at hsz hw h ⊢
  show wpAny _ _ (if (a == 0 && c == 1 && n == items.size) = true then _ else _) _ _ s
  by_cases q : (a == 0 && c == 1 && n == items.size) = true
  · rw [if_pos q]
    rw [Bool.and_eq_true, Bool.and_eq_true] at q
    have q1 : a = 0 := eq_of_beq q.1.1
    have q2 : c = 1 := eq_of_beq q.1.2
    have q3 : n = items.size := eq_of_beq q.2
    subst q1 q2 q3
    have hQ := hw (by
      have e : (fun (k : Nat) => ((0 : Int) + (k : Int) * 1).toNat) = id := by
        funext k
        show ((0 : Int) + (k : Int) * 1).toNat = k
        omega
      rw [e, List.map_id])
    refine wpAny_bind ?_
    show wpAny _ _ (typeOf (.ref t) >>= fun T => pure (T == .type "tuple")) _ _ s
    refine wpAny_bind (wpAny_typeOf ht.typeIs (wpAny_pure ?_))
    first
      | rw [if_pos (by decide)]
      | simp only [beq_self_eq_true, if_true]
    first
      | exact wpAny_bind (wpAny_rule (wpAny_pure ⟨_, rfl, wpAny_pure hQ⟩))
      | exact wpAny_bind (wpAny_rule (wpAny_bind (wpAny_pure (wpAny_pure ⟨_, rfl, wpAny_pure hQ⟩))))
  · rw [if_neg q]
    have htake : sizeOk (.seq (((List.range n).filterMap ((fun i => items[i]?) ∘ fun (k : Nat) => (a + (k : Int) * c).toNat))).toArray) := by
      show ((List.range n).filterMap ((fun i => items[i]?) ∘ fun (k : Nat) => (a + (k : Int) * c).toNat)).toArray.size ≤ sizeLine
      rw [List.size_toArray]
      exact hsz
    first
      | exact wpAny_bind (m := Builtin.Tuple.tupleExact _) (wpAny_newObj_type (wpAny_pure ⟨_, rfl, wpAny_pure h⟩) htake)
      | exact wpAny_bind (m := Builtin.Tuple.tupleExact _) (wpAny_newObj_type (wpAny_bind (wpAny_pure (wpAny_pure ⟨_, rfl, wpAny_pure h⟩))) htake)
      | exact wpAny_bind (wpAny_bind (m := Builtin.Tuple.tupleExact _) (wpAny_newObj_type (wpAny_pure (wpAny_pure ⟨_, rfl, wpAny_pure h⟩)) htake))
      | exact wpAny_bind (wpAny_bind (m := Builtin.Tuple.tupleExact _) (wpAny_newObj_type (wpAny_pure ⟨_, rfl, wpAny_pure h⟩) htake))
end
end HT

set_option Elab.async false
set_option linter.all false
set_option maxRecDepth 100000
/-! slices of tuples, at the level of values -/
namespace V3
open PySem PySem.Spec PyProof.Rows L2
/-- what a slice picks -/
def stepL {α : Type} (xs : List α) (lo hi st : Option Int) : List α := (HT.idxT lo hi st xs.length).filterMap fun i => xs[i]?
theorem pick_self {α : Type} (xs : List α) : (List.range xs.length).filterMap (fun i => xs[i]?) = xs := by
  have z := pick_run xs.toArray 0 xs.length
  rw [List.filterMap_map] at z
  have e : ((fun x => xs.toArray[x]?) ∘ fun x => 0 + x) = fun i => xs[i]? := by
    funext i
    simp
  rw [e] at z
  simpa using z
theorem fm_congr {α β : Type} {f g : α → Option β} : ∀ {xs : List α}, (∀ x ∈ xs, f x = g x) → xs.filterMap f = xs.filterMap g
  | [], _ => rfl
  | x :: r, h => by
    have e := h x (List.mem_cons_self ..)
    have ih := fm_congr (xs := r) fun y hy => h y (List.mem_cons_of_mem _ hy)
    rw [List.filterMap_cons, List.filterMap_cons, e, ih]
theorem step_len {α : Type} (xs : List α) {lo hi st : Option Int} : (stepL xs lo hi st).length ≤ (HT.idxT lo hi st xs.length).length := List.length_filterMap_le ..
theorem step_one {α : Type} (xs : List α) (lo hi : Option Int) : stepL xs lo hi none = (xs.drop (HT.sIx xs.length 0 lo)).take (HT.sIx xs.length xs.length hi - HT.sIx xs.length 0 lo) := by
  unfold stepL HT.idxT
  show List.filterMap (fun i => xs[i]?) (List.map (fun (k : Nat) => ((Builtin.Slice.sliceAdjust lo hi 1 (xs.length : Int)).1 + (k : Int) * 1).toNat) (List.range (Builtin.Slice.slicePlaces (Builtin.Slice.sliceAdjust lo hi 1 (xs.length : Int)).1 (Builtin.Slice.sliceAdjust lo hi 1 (xs.length : Int)).2 1))) = _
  rw [HT.adjust_gen lo hi xs.length]
  show List.filterMap (fun i => xs[i]?) (List.map (fun (k : Nat) => (((HT.sIx xs.length 0 lo : Nat) : Int) + (k : Int) * 1).toNat) (List.range (Builtin.Slice.slicePlaces ((HT.sIx xs.length 0 lo : Nat) : Int) ((HT.sIx xs.length xs.length hi : Nat) : Int) 1))) = _
  rw [HT.places_gen]
  generalize HT.sIx xs.length 0 lo = i
  generalize HT.sIx xs.length xs.length hi - i = k
  have z := pick_run xs.toArray i k
  have e : (fun (k : Nat) => ((i : Int) + (k : Int) * 1).toNat) = fun x => i + x := by
    funext m
    omega
  rw [e]
  simpa using z
theorem step_to {α : Type} (xs : List α) {k : Nat} (h : k ≤ xs.length) : stepL xs none (some (k : Int)) none = xs.take k := by
  rw [step_one, HT.sIx_nat, HT.sIx_none, Nat.min_eq_left h]
  simp
theorem step_from {α : Type} (xs : List α) {k : Nat} (h : k ≤ xs.length) : stepL xs (some (k : Int)) none none = xs.drop k := by
  rw [step_one, HT.sIx_nat, HT.sIx_none, Nat.min_eq_left h]
  exact List.take_of_length_le (by rw [List.length_drop]; exact Nat.le_refl _)
theorem step_back {α : Type} (xs : List α) : stepL xs none none (some (-1)) = xs.reverse := by
  unfold stepL HT.idxT
  have a1 : Builtin.Slice.sliceAdjust none none ((some (-1 : Int)).getD 1) (xs.length : Int) = ((xs.length : Int) - 1, -1) := by
    simp [Builtin.Slice.sliceAdjust]
  have a2 : Builtin.Slice.slicePlaces ((xs.length : Int) - 1) (-1) ((some (-1 : Int)).getD 1) = xs.length := by
    unfold Builtin.Slice.slicePlaces
    simp
    omega
  rw [a1]
  show List.filterMap (fun i => xs[i]?) (List.map (fun (k : Nat) => ((xs.length : Int) - 1 + (k : Int) * (some (-1 : Int)).getD 1).toNat) (List.range (Builtin.Slice.slicePlaces ((xs.length : Int) - 1) (-1) ((some (-1 : Int)).getD 1)))) = _
  rw [a2, List.filterMap_map]
  have z := pick_self xs.reverse
  rw [List.length_reverse] at z
  refine Eq.trans (fm_congr fun k hk => ?_) z
  have lt : k < xs.length := List.mem_range.mp hk
  rw [List.getElem?_reverse lt]
  have e : ((xs.length : Int) - 1 + (k : Int) * (some (-1 : Int)).getD 1).toNat = xs.length - 1 - k := by
    show ((xs.length : Int) - 1 + (k : Int) * (-1)).toNat = _
    omega
  show xs[((xs.length : Int) - 1 + (k : Int) * (some (-1 : Int)).getD 1).toNat]? = _
  rw [e]
theorem vals_idx {xs : List V} {us : List Value} (r : Vals xs us) : ∀ idx : List Nat, Vals (idx.filterMap fun i => xs[i]?) (idx.filterMap fun i => us.toArray[i]?) := vals_pick r
section
variable {X : Cx}
/-- what t[slice] wants -/
def wSl (K : PySem.W.Frag) (p : Addr) (xs : List V) (lo hi st : Option Int) (H : Hp) (Q : VK) : Prop := SqT K H p xs ∧ st ≠ some 0 ∧ (stepL xs lo hi st).length ≤ sizeLine ∧
  (HT.idxT lo hi st xs.length = List.range xs.length → Q (.ref p) H) ∧ ∀ r, H r = none → Q (.ref r) (upd H r (.tup (stepL xs lo hi st)))
theorem run_sl {pins : List (Addr × Obj)} {s : Shared} {σ : L2.St} {H : Hp} {p sl : Addr} {xs : List V} {vl vu vk : Value} {lo hi st : Option Int} {Q : VK} (I : Inv X pins σ H s) (hs : s.heap.IsSliceOf sl vl vu vk) (pl : IsPart vl lo) (pu : IsPart vu hi) (pk : IsPart vk st)
    (h : wSl X.K p xs lo hi st H Q) : ∃ items : Array Value, IsTup s.heap p items ∧ wpAny (model X.prog X.w) X.A (getItem (.ref p) (.ref sl)) (EP X pins σ Q) X.xe s := by
  obtain ⟨hx, h0, hz, hw, hq⟩ := h
  obtain ⟨its, r, ht, hsz⟩ := I.tuple hx
  have ln : xs.length = its.toArray.size := by rw [List.size_toArray]; exact r.length
  refine ⟨its.toArray, ht, HT.getItem_tuple_any ht hs pl pu pk h0 ?_ (fun e => ?_) ?_⟩
  · unfold stepL at hz
    rw [ln] at hz
    rw [← (vals_idx r _).length]
    exact hz
  · exact ⟨.ref p, H, I, rfl, hw (by rw [ln]; exact e)⟩
  · have v := vals_idx r (HT.idxT lo hi st its.toArray.size)
    rw [← ln] at v ⊢
    refine ⟨.ref s.heap.objs.size, _, I.laid (t' := s.toks) (o := .tup (stepL xs lo hi st)) (fun b ob q => Heap.get?_push_of_some _ q) (Nat.le_refl _) ?_, rfl, hq _ (I.hok.fresh (Nat.le_refl _))⟩
    exact ⟨hz, _, v, ⟨_, Heap.get?_push_size _ rfl, rfl, _, rfl⟩⟩
/-- t[a:b:c] -/
def tStepT (K : PySem.W.Frag) (te : TE) (tl th ts : TO) : TE := fun σ H Q => te σ H fun x H1 => tl σ H1 fun l H2 => th σ H2 fun u H3 => ts σ H3 fun k H4 => ∃ p xs, x = .ref p ∧ wSl K p xs l u k H4 Q
theorem pe_stepT {e : Expr} {te : TE} {lo hi st : Option Expr} {tl th ts : TO} {p2 pos : Pos} (he : PE X e te) (hl : PO X lo tl) (hu : PO X hi th) (hk : PO X st ts)
    (hop : ∀ (o : Value) (n : Addr), subscripted (.Slice lo hi st p2) false o (.ref n) = operate [o, .ref n] (getItem o (.ref n)) := by intro _ _; with_unfolding_all rfl) :
    PE X (.Subscript e (.Slice lo hi st p2) pos) (tStepT X.K te tl th ts) := by
  refine ⟨fun pins s σ H Q I h => ?_⟩
  refine Subscript_ (thn (he.run pins s σ H _ I h) fun v s1 ⟨x, H1, I1, r1, q1⟩ => ?_)
  refine wpAny_Slice (thn (hl.run pins s1 σ H1 _ I1 q1) fun vl s2 ⟨l, H2, I2, pl, q2⟩ =>
    thn (hu.run pins s2 σ H2 _ I2 q2) fun vu s3 ⟨u, H3, I3, pu, q3⟩ =>
    thn (hk.run pins s3 σ H3 _ I3 q3) fun vk s4 ⟨k, H4, I4, pk, q4⟩ => ?_)
  obtain ⟨p, xs, rfl, w⟩ := q4
  have J : Inv X pins σ H4 { s4 with heap := s4.heap.push { cls := .type "slice", data := .fields #[vl, vu, vk] } } := I4.kept (t' := s4.toks) fun b ob q => Heap.get?_push_of_some _ q
  cases r1
  obtain ⟨items, ht, got⟩ := run_sl J (Heap.IsSliceOf.new ..) pl pu pk w
  exact tail_any (ops := [.ref p, .ref s4.heap.objs.size]) ht.typeIs slot_tuple_getitem.lookup got (hop _ _)
/-- t[s], s a slice -/
def rIxSl (K : PySem.W.Frag) : R2 := fun x y H Q => ∃ p q xs lo hi st, x = .ref p ∧ y = .ref q ∧ H q = some (SlH q lo hi st) ∧ wSl K p xs lo hi st H Q
theorem ix_slice : IxR X (rIxSl X.K) := by
  intro value slice pins s σ H x y v u Q I rx ry h hs
  obtain ⟨p, q, xs, lo, hi, st, rfl, rfl, hq, w⟩ := h
  cases rx
  cases ry
  obtain ⟨⟨vl, vu, vk, so, pl, pu, pk⟩, _, _⟩ := I.hok _ _ hq
  obtain ⟨items, ht, got⟩ := run_sl I so pl pu pk w
  exact tail_any (ops := [.ref p, .ref q]) ht.typeIs slot_tuple_getitem.lookup got hs
end
end V3

set_option Elab.async false
set_option linter.all false
set_option maxRecDepth 100000
/-! readings that leave all as it was: what they answer -/
namespace V3
open PySem L2
def EvV (W : Hp → Prop) (σ : L2.St) (te : TE) (R : V → Hp → Prop) : Prop := ∀ H Q, W H → (∀ v H', Same H H' → W H' → R v H' → Q v H') → te σ H Q
def EvB (W : Hp → Prop) (σ : L2.St) (tt : TT) (b : Bool) : Prop := ∀ H Q, W H → (∀ H', Same H H' → W H' → Q b H') → tt σ H Q
def EvO (W : Hp → Prop) (σ : L2.St) (tO : TO) (o : Option Int) : Prop := ∀ H Q, W H → (∀ H', Same H H' → W H' → Q o H') → tO σ H Q
def StV (R : V → Hp → Prop) : Prop := ∀ v H H', Same H H' → R v H → R v H'
def isIv (i : Int) : V → Hp → Prop := fun v _ => v = .int i
def isSv (s : Str) : V → Hp → Prop := fun v _ => v = .str s
def isBv (b : Bool) : V → Hp → Prop := fun v _ => v = .bl b
def isVv (u : V) : V → Hp → Prop := fun v _ => v = u
theorem st_i {i : Int} : StV (isIv i) := fun _ _ _ _ h => h
theorem st_s {i : Str} : StV (isSv i) := fun _ _ _ _ h => h
theorem st_b {i : Bool} : StV (isBv i) := fun _ _ _ _ h => h
theorem st_v {u : V} : StV (isVv u) := fun _ _ _ _ h => h
section
variable {W : Hp → Prop} {σ : L2.St} {ta tb te : TE} {R Ra Rb : V → Hp → Prop}
theorem ev_var {i : Nat} {v : V} (e : σ[i]? = some (some v)) (h : ∀ H, W H → R v H) : EvV W σ (tVar i) R := fun H Q w k => ⟨v, e, k v H (Same.refl H) w (h H w)⟩
theorem ev_c {v : V} : EvV W σ (tC v) (isVv v) := fun H Q w k => k v H (Same.refl H) w rfl
theorem ev_int {i : Int} : EvV W σ (tC (.int i)) (isIv i) := fun H Q w k => k _ H (Same.refl H) w rfl
theorem ev_str {s : Str} : EvV W σ (tC (.str s)) (isSv s) := fun H Q w k => k _ H (Same.refl H) w rfl
/-- a two-place operation -/
theorem ev_op {r : R2} (sa : StV Ra) (ha : EvV W σ ta Ra) (hb : EvV W σ tb Rb) (h : ∀ x y H Q, W H → Ra x H → Rb y H → (∀ v H', Same H H' → W H' → R v H' → Q v H') → r x y H Q) : EvV W σ (tOp r ta tb) R := fun H Q w k =>
  ha H _ w fun x H1 s1 w1 rx => hb H1 _ w1 fun y H2 s2 w2 ry => h x y H2 Q w2 (sa _ _ _ s2 rx) ry fun v H' s w' rv => k v H' ((s1.trans s2).trans s) w' rv
/-- a call with one argument -/
theorem ev_cb1 {r : List V → Hp → VK → Prop} (ha : EvV W σ ta Ra) (h : ∀ x H Q, W H → Ra x H → (∀ v H', Same H H' → W H' → R v H' → Q v H') → r [x] H Q) : EvV W σ (tCB r (tCons ta tNil)) R := fun H Q w k =>
  ha H _ w fun x H1 s1 w1 rx => h x H1 Q w1 rx fun v H' s w' rv => k v H' (s1.trans s) w' rv
theorem ev_test {b : Bool} (h : EvV W σ te (isBv b)) : EvB W σ (tTest te) b := fun H Q w k => h H _ w fun v H' s w' e => ⟨b, e, k H' s w'⟩
theorem ev_or {t u : TT} {b : Bool} (h : EvB W σ t false) (h2 : EvB W σ u b) : EvB W σ (tOr t u) b := fun H Q w k =>
  h H _ w fun H1 s1 w1 => iteF (h2 H1 _ w1 fun H2 s2 w2 => k H2 (s1.trans s2) w2)
theorem evo_none : EvO W σ tNoPart none := fun H Q w k => k H (Same.refl H) w
theorem evo_some {i : Int} (h : EvV W σ te (isIv i)) : EvO W σ (tPart te) (some i) := fun H Q w k => h H _ w fun v H' s w' e => ⟨i, e, k H' s w'⟩
theorem ev_add {i j : Int} (ha : EvV W σ ta (isIv i)) (hb : EvV W σ tb (isIv j)) : EvV W σ (tOp (rI0 fun i j => .int (i + j)) ta tb) (isIv (i + j)) :=
  ev_op st_i ha hb fun x y H Q w ex ey k => ⟨i, j, ex, ey, k _ H (Same.refl H) w rfl⟩
/-- != and == of flat values -/
theorem ev_neI {i j : Int} (ha : EvV W σ ta (isIv i)) (hb : EvV W σ tb (isIv j)) : EvV W σ (tOp rNe ta tb) (isBv (!decide (i = j))) :=
  ev_op st_i ha hb fun x y H Q w ex ey k => by
    cases ex
    cases ey
    refine ⟨rfl, k _ H (Same.refl H) w ?_⟩
    have e : (V.int i = V.int j) ↔ (i = j) := ⟨fun z => by injection z, fun z => by rw [z]⟩
    show V.bl (!decide (V.int i = V.int j)) = V.bl (!decide (i = j))
    by_cases h : i = j
    · rw [decide_eq_true h, decide_eq_true (e.mpr h)]
    · rw [decide_eq_false h, decide_eq_false (fun z => h (e.mp z))]
theorem dec_str {i j : Str} : decide (V.str i = V.str j) = decide (i = j) := by
  have e : (V.str i = V.str j) ↔ (i = j) := ⟨fun z => by injection z, fun z => by rw [z]⟩
  by_cases h : i = j
  · rw [decide_eq_true h, decide_eq_true (e.mpr h)]
  · rw [decide_eq_false h, decide_eq_false (fun z => h (e.mp z))]
theorem dec_bl {i j : Bool} : decide (V.bl i = V.bl j) = decide (i = j) := by
  have e : (V.bl i = V.bl j) ↔ (i = j) := ⟨fun z => by injection z, fun z => by rw [z]⟩
  by_cases h : i = j
  · rw [decide_eq_true h, decide_eq_true (e.mpr h)]
  · rw [decide_eq_false h, decide_eq_false (fun z => h (e.mp z))]
theorem ev_neS {i j : Str} (ha : EvV W σ ta (isSv i)) (hb : EvV W σ tb (isSv j)) : EvV W σ (tOp rNe ta tb) (isBv (!decide (i = j))) :=
  ev_op st_s ha hb fun x y H Q w ex ey k => by
    cases ex
    cases ey
    exact ⟨rfl, k _ H (Same.refl H) w (congrArg (fun b => V.bl (!b)) dec_str)⟩
theorem ev_eqS {i j : Str} (ha : EvV W σ ta (isSv i)) (hb : EvV W σ tb (isSv j)) : EvV W σ (tOp rEq ta tb) (isBv (decide (i = j))) :=
  ev_op st_s ha hb fun x y H Q w ex ey k => by
    cases ex
    cases ey
    exact ⟨rfl, k _ H (Same.refl H) w (congrArg V.bl dec_str)⟩
theorem ev_neB {i j : Bool} (ha : EvV W σ ta (isBv i)) (hb : EvV W σ tb (isBv j)) : EvV W σ (tOp rNe ta tb) (isBv (!decide (i = j))) :=
  ev_op st_b ha hb fun x y H Q w ex ey k => by
    cases ex
    cases ey
    exact ⟨rfl, k _ H (Same.refl H) w (congrArg (fun b => V.bl (!b)) dec_bl)⟩
theorem ev_eqB {i j : Bool} (ha : EvV W σ ta (isBv i)) (hb : EvV W σ tb (isBv j)) : EvV W σ (tOp rEq ta tb) (isBv (decide (i = j))) :=
  ev_op st_b ha hb fun x y H Q w ex ey k => by
    cases ex
    cases ey
    exact ⟨rfl, k _ H (Same.refl H) w (congrArg V.bl dec_bl)⟩
theorem ev_to {R' : V → Hp → Prop} (h : EvV W σ te R) (e : ∀ v H, R v H → R' v H) : EvV W σ te R' := fun H Q w k => h H Q w fun v H' s w' r => k v H' s w' (e v H' r)
theorem ev_bool {b b' : Bool} (h : EvB W σ t b) (e : b = b') : EvB W σ t b' := e ▸ h
/-- an if whose test fails -/
theorem if_no {c : TT} {t u : TS} {D : Ends} {H : Hp} (h : EvB W σ c false) (w : W H) (k : ∀ H', Same H H' → W H' → u D σ H') : tIfS c t u D σ H := h H _ w fun H' s w' => iteF (k H' s w')
end
end V3

set_option Elab.async false
set_option linter.all false
set_option maxRecDepth 100000
/-! functions that are called where no repr is under way: repr of nested lists and tuples -/
namespace V3
open PySem PySem.Spec PyProof.Rows L2
def NoG (A : Around) : Prop := A.guards = some []
theorem NoG.deeper {A : Around} (h : NoG A) (e : Env) : NoG (A.deeper e) := h
/-- what a def promises to such callers -/
structure FnG (P : Program) (w : World) (K : PySem.W.Frag)
    (mg : Str → Option Value) (base : Heap) (CX : CXT) (k : Nat)
    (f : Addr) (fd : FuncData) (ps : List Str) (sp : Sp) : Prop where
  len : ∀ vs H Q E, sp vs H Q E → vs.length = ps.length
  run : ∀ (A : Around) (up : List Env) (s : Shared) (H : Hp) (args : Args)
    (us : List Value) (vs : List V) (Q : VK) (E : XK),
    NoG A → Room k A → Env0 P w K mg base A up s H →
    BindsTo s fd args (ps.zip us) → Vals vs us → sp vs H Q E →
    codeAny (model P w) A (.call (.ref f) args) (CR CX up P w H s Q E) s
theorem FnG.of {P : Program} {w : World} {K : PySem.W.Frag} {mg : Str → Option Value} {base : Heap}
    {CX : CXT} {k : Nat} {f : Addr} {fd : FuncData} {ps : List Str} {sp : Sp}
    (F : FnOk P w K mg base CX k f fd ps sp) : FnG P w K mg base CX k f fd ps sp :=
  ⟨F.len, fun A up s H args us vs Q E _ => F.run A up s H args us vs Q E⟩
theorem FnG.up {P : Program} {w : World} {K : PySem.W.Frag} {mg : Str → Option Value} {base : Heap}
    {CX : CXT} {j k : Nat} {f : Addr} {fd : FuncData} {ps : List Str} {sp : Sp}
    (F : FnG P w K mg base CX j f fd ps sp) (h : j ≤ k) : FnG P w K mg base CX k f fd ps sp :=
  ⟨F.len, fun A up s H args us vs Q E g r => F.run A up s H args us vs Q E g (r.mono h)⟩
section
variable {P : Program} {w : World} {K : PySem.W.Frag} {mg : Str → Option Value} {base : Heap}
/-- the rule for a def of the text -/
theorem fnG {CX : CXT} {k : Nat} {f : Addr} {x qual : Str} {st : Stmt} {fd : FuncData}
    {N ps : List Str} {sp : Sp} (F : Fun K x qual st f fd) (S : FnScope N ps (defScope st))
    (len : ∀ vs H Q E, sp vs H Q E → vs.length = ps.length)
    (hbody : ∀ (cdv : Value) (A : Around) (up : List Env) (s : Shared) (H : Hp)
      (vs : List V) (Q : VK) (E : XK),
      NoG A → Room k (A.deeper (envOfC qual (defScope st) s.heap.objs.size f cdv)) →
      sp vs H Q E →
      ∃ t, PSs (cxOf CX P w K mg base N qual (defScope st) f cdv A up s H E) (defBody st) t ∧
        t { nx := fun _ H' => Q .non H', rt := Q } (start N vs) H) :
    FnG P w K mg base CX (k + 1) f fd ps sp := by
  obtain ⟨oc, od, kV, doc, pm, an, cdv, ct, osl, rfl, lk, hcd⟩ := F.ex
  refine ⟨len, fun A up s H args us vs Q E g room e0 bnd rel want => ?_⟩
  have nlen := len _ _ _ _ want
  have old := fun b o e => (e0.bs b o e).1
  have KX : K.In s.heap := e0.mod.kin.keeps old
  have lim := e0.mod.nolimit.keeps old
  have known : ∀ y ∈ ps.zip us, (defScope st).names.lookup y.1 = some .local ∨
      ((defScope st).names.lookup y.1 = some .cell ∧
        ((cellsFrom (s.heap.objs.size + 1) (defScope st).names []).lookup y.1).isSome = true) := by
    rintro ⟨n, v⟩ hy
    exact (S.par n (List.of_mem_zip hy).1).imp id fun q => ⟨q, PySem.W.cellsFrom_some _ _ _ (.inl q)⟩
  refine codeAny_call_function room.depth (KX _ _ lk) rfl S.co S.gen rfl
    (PySem.W.codeRec_of KX hcd) (bnd _ _ _ _ ?_)
  refine wpAny_newFunctionEnv_cells S.kind known fun env same s1 x => ?_
  subst same
  refine ⟨lim.keeps x.toInCall.keep, codeAny_func ?_⟩
  obtain ⟨t, ht, hq⟩ := hbody cdv A up s H vs Q E g (room.deeper _) want
  have I := inv_start (CX := CX) (E := E) S room.hd e0 nlen rel x
  refine wpAny_mono (ht.run [] s1 (start N vs) H _ I hq) (fun fl s' hs => ?_) fun e s' hs => hs
  match fl, hs with
  | .ret u, hs =>
    obtain ⟨v, σ', H', J, rv, q⟩ := hs
    exact ⟨v, H', J.os, J.bare, J.base, J.hok, rv, q⟩
  | .next, hs =>
    obtain ⟨σ', H', J, q⟩ := hs
    exact ⟨.non, H', J.os, J.bare, J.base, J.hok, rfl, q⟩
  | .brk, hs =>
    obtain ⟨_, _, _, q⟩ := hs
    exact q.elim
  | .cont, hs =>
    obtain ⟨_, _, _, q⟩ := hs
    exact q.elim
end
section
variable {X : Cx} {CX : CXT} {k : Nat} {f : Addr} {fd : FuncData} {ps : List Str} {sp : Sp}
  {dvs : List V} {ds : List Value} {E : XK} {x : Str} {p pos : Pos} {e : Expr} {es : List Expr} {t : TA}
theorem runG {pins : List (Addr × Obj)} {σ : L2.St} {H : Hp} {s : Shared} {Q : VK}
    {us : List Value} {vs : List V} (F : FnG X.prog X.w X.K X.mg X.base CX k f fd ps sp)
    (g : NoG X.A) (room : Room k X.A) (bi : Binds X.K fd ps ds) (va : Vals dvs ds)
    (out : Passes CX X E) (I : Inv X pins σ H s) (r : Vals vs us) (want : sp (vs ++ dvs) H Q E) :
    wpAny (model X.prog X.w) X.A (call (.ref f) us) (EP X pins σ Q) X.xe s := by
  have r2 := r.append va
  have nlen := r2.length.symm.trans (F.len _ _ _ _ want)
  have ran := F.run X.A X.stack s H ⟨us, []⟩ _ _ Q E g room I.env0 (bi s us I.kIn nlen) r2 want
  refine wpAny_call (codeAny_mono ran fun res s' hq => ?_)
  match res, hq with
  | .error err, hq => exact out pins σ H s err s' I hq
  | .ok (.ret u), hq => exact I.after hq
  | .ok .next, hq => exact hq.elim
  | .ok .brk, hq => exact hq.elim
  | .ok .cont, hq => exact hq.elim
/-- f(e, ..) -/
theorem pe_callG (F : FnG X.prog X.w X.K X.mg X.base CX k f fd ps sp) (g : NoG X.A)
    (room : Room k X.A) (hg : Gl X x) (hm : X.mg x = some (.ref f))
    (kp : PySem.W.keepIn X.K (.ref f) = true) (bi : Binds X.K fd ps ds) (va : Vals dvs ds)
    (out : Passes CX X E) (ha : PA X (e :: es) t)
    (hdb : (x == ("__debug__" : Str)) = false := by decide)
    (he : starEach (e :: es) X.env = (false, eval e X.env) :: starEach es X.env := by rfl)
    (hpl : (backTo pos (starEach es X.env)).any (·.1) = false := by rfl) :
    PE X (.Call (.Name x p) (e :: es) [] pos) (tCall sp dvs E t) := by
  refine ⟨fun pins s σ H Q I h => wpAny_Call_Name_kw (ld_glob I hg hm ?_ hdb)⟩
  refine PySem.W.callWith_K (h₀ := X.base) I.ok.mod.kin kp ?_ he hpl
  exact thn (ha.run pos pins s σ H _ I h) fun us s1 ⟨vs, H1, I1, r, q⟩ =>
    ⟨I1.kIn, runG F g room bi va out I1 r q⟩
/-- repr(v), v nested data -/
def rReprD (K : PySem.W.Frag) (A : Around) : List V → Hp → VK → Prop := fun xs H Q =>
  ∃ (a : Addr) (d : PyData), xs = [.ref a] ∧ Dp K H (.ref a) d ∧ d.showable = true ∧
    d.hasDict = false ∧ A.units + (d.depth + 1) < cLine ∧ d.shown.length ≤ sizeLine ∧ Q (.str d.shown) H
theorem call_reprD (g : NoG X.A) : CallR X (.builtin "repr") (rReprD X.K X.A) := by
  intro pins s σ H xs us Q I r h
  obtain ⟨a, d, rfl, hd, sh, nd, hu, hz, q⟩ := h
  obtain ⟨u, rfl, ru⟩ := vals1 r
  obtain ⟨as, rd⟩ := hd.reads I d _ _ ru
  cases ru
  exact repr_of_reads' rd sh (PyData.noDict_hsm nd) g hu (fun _ _ e => e)
    (fun h' u tk hk => ⟨.str d.shown, H, I.kept (t' := tk) hk, ⟨u, rfl⟩, q⟩) hz
end
end V3

set_option Elab.async false
set_option linter.all false
set_option maxRecDepth 100000
/-! the law's own call, where no repr is under way -/
namespace V3
open PySem PySem.Spec PyProof.Rows L2
section
variable {P : Program} {w : World} {K : PySem.W.Frag} {mg mb : Str → Option Value} {k : Nat}
  {fa a : Addr} {fd : FuncData} {x : Str} {sp : Sp} {s1 : Shared} {vs : List Value} {ns : List Int}
/-- nothing but the script is followed -/
structure Lone (H : Hp) (a : Addr) : Prop where
  only : Only H
  here : ∀ b, H b ≠ none → b = a
theorem law_from {H : Hp} (KX : K.In s1.heap) (hns : s1.heap.Ns mainGlobals mg)
    (hb : s1.heap.Ns builtinsNs mb) (hbb : ∀ y : Str, y ≠ "__name__" → mb y = bootBuiltins y)
    (lim : s1.heap.NoLimit) (gens : s1.gens = #[])
    (ha : s1.heap.get? a = some { cls := .type "list", data := .seq vs.toArray })
    (room : Room k callerA)
    (F : ∀ base : Heap, K.In base → base.Ns mainGlobals mg → FnG P w K mg base CX0 k fa fd [x] sp)
    (bi : ∀ (s : Shared) (u : Value), BindsTo s fd ⟨[u], []⟩ [(x, u)])
    (want : sp [.ref a] H (fun v _ => v = .bl true) fun _ _ _ => False)
    (lone : Lone H a) (hok : HOk P w H s1.heap) (free : H a ≠ none → K.lookup a = none) :
    codeAny (model P w) callerA (.call (.ref fa) ⟨[.ref a], []⟩)
      (fun r s' => r = .ok (.ret (.bool true)) ∧ OldK s1.heap s'.heap ∧ s'.os = s1.os ∧ AllBare s'.gens) s1 := by
  have at_a : ∀ {b : Addr}, H b ≠ none → b = a := fun {b} h => lone.here b h
  have kept : ∀ {b : Addr} {o : Obj}, s1.heap.get? b = some o → (b = a → H b = none) →
      (hidT s1.heap H).get? b = some o := by
    intro b o e n
    by_cases q : H b = none
    · exact hidT_get e q
    · exact hidT_get e (n (at_a q))
  have nsK : ∀ {b : Addr} {m : Str → Option Value}, s1.heap.Ns b m → (hidT s1.heap H).Ns b m := by
    rintro b m ⟨o, es, ep, e, d, r⟩
    refine ⟨o, es, ep, kept e fun z => ?_, d, r⟩
    subst z
    rw [ha] at e
    cases e
    exact nomatch d
  have hKb : K.In (hidT s1.heap H) := by
    intro b o e
    refine kept (KX b o e) fun z => ?_
    subst z
    by_cases q : H b = none
    · exact q
    · rw [free q] at e
      cases e
  obtain ⟨mc, c1, c2⟩ := lim
  have hM : Mod K mg (hidT s1.heap H) := ⟨hKb, nsK hns, ⟨mb, nsK hb, hbb⟩, mc, nsK c1, c2⟩
  have e0 : Env0 P w K mg (hidT s1.heap H) callerA [] s1 H :=
    ⟨rfl, hM, fun b o e => of_hidT e, Nat.le_of_eq (hidT_size _ _), trivial,
      fun b hb => (nomatch hb), hok, AllBare.of_eq gens⟩
  have ran := (F _ hKb (nsK hns)).run callerA [] s1 H ⟨[.ref a], []⟩ [.ref a] [.ref a] _ _ rfl room e0
    (bi s1 (.ref a)) (.cons rfl .nil) want
  refine codeAny_mono ran fun r s' h => ?_
  match r, h with
  | .error e, h => exact h.elim
  | .ok .next, h => exact h.elim
  | .ok .brk, h => exact h.elim
  | .ok .cont, h => exact h.elim
  | .ok (.ret u), h =>
    obtain ⟨v, H', os, bare, un, hok', r', q⟩ := h
    have q' : v = .bl true := q
    subst q'
    have r2 : u = Value.bool true := r'
    subst r2
    refine ⟨rfl, OldK.of_keep fun b o e => ?_, os, bare⟩
    cases hb : H b with
    | none => exact un.keep b o e hb (fun z => by cases z) (by simp)
    | some u =>
      rcases lone.only b with z | ⟨ob, xs, z⟩
      · rw [hb] at z
        cases z
      · obtain ⟨g1, _⟩ := hok b _ z
        obtain ⟨g2, _⟩ := hok' b _ (un.frzs b ob _ z)
        rw [e] at g1
        cases g1
        exact g2
theorem law_callG (KX : K.In s1.heap) (hns : s1.heap.Ns mainGlobals mg)
    (hb : s1.heap.Ns builtinsNs mb) (hbb : ∀ y : Str, y ≠ "__name__" → mb y = bootBuiltins y)
    (lim : s1.heap.NoLimit) (gens : s1.gens = #[])
    (ha : s1.heap.get? a = some { cls := .type "list", data := .seq vs.toArray })
    (whole : IntsAre vs ns) (few : ns.length ≤ sizeLine) (room : Room k callerA)
    (F : ∀ base : Heap, K.In base → base.Ns mainGlobals mg → FnG P w K mg base CX0 k fa fd [x] sp)
    (bi : ∀ (s : Shared) (u : Value), BindsTo s fd ⟨[u], []⟩ [(x, u)])
    (want : ∀ H : Hp, Only H → SqL K H a (ns.map V.int) → sp [.ref a] H (fun v _ => v = .bl true) fun _ _ _ => False) :
    codeAny (model P w) callerA (.call (.ref fa) ⟨[.ref a], []⟩)
      (fun r s' => r = .ok (.ret (.bool true)) ∧ OldK s1.heap s'.heap ∧ s'.os = s1.os ∧ AllBare s'.gens) s1 := by
  have rv := vals_ints whole
  have nv := whole.length
  cases hk : K.lookup a with
  | some o =>
    have e := KX a o hk
    rw [ha] at e
    cases e
    have o0 : Only (fun _ => none) := fun _ => .inl rfl
    refine law_from KX hns hb hbb lim gens ha room F bi (want _ o0 (.inr ⟨_, vs.toArray, _, hk, rfl, rfl, rfl, ?_, ?_⟩)) ⟨o0, ?_⟩ ?_ ?_
    · rw [List.size_toArray, nv]
      exact few
    · simpa using rv
    · intro b z
      exact absurd rfl z
    · intro b u z
      have z2 : (none : Option HO) = some u := z
      cases z2
    · intro z
      exact absurd rfl z
  | none =>
    let Ha : Hp := fun b => if b = a then some (.frz { cls := .type "list", data := .seq vs.toArray } (.lst (ns.map V.int))) else none
    have yes : Ha a = some (.frz { cls := .type "list", data := .seq vs.toArray } (.lst (ns.map V.int))) := if_pos rfl
    have no : ∀ b, b ≠ a → Ha b = none := fun b n => if_neg n
    have o0 : Only Ha := by
      intro b
      by_cases z : b = a
      · subst z
        exact .inr ⟨_, _, yes⟩
      · exact .inl (no b z)
    refine law_from (H := Ha) KX hns hb hbb lim gens ha room F bi (want _ o0 (.inl (.inr ⟨_, yes⟩))) ⟨o0, ?_⟩ ?_ fun _ => hk
    · intro b z
      by_cases q : b = a
      · exact q
      · exact absurd (no b q) z
    · intro b u z
      by_cases q : b = a
      · subst q
        rw [yes] at z
        cases z
        exact ⟨ha, by rw [List.length_map]; exact few, vs, _, rv, ha⟩
      · rw [no b q] at z
        cases z
end
/-- the walk from such a promise -/
theorem walk_ofG {l : PySem.W.OpenLaw} {n k : Nat} {q : Program} {loose : List Str}
    {XP : (Str → Option Value) → Heap → Prop} {YP : World → Heap → Prop} {d : DefRec}
    {K : Params → PySem.W.Frag} {sp : World → Sp} {x : Str}
    (hn : l.most = some n) (small : n ≤ sizeLine) (hdf : d.params.defaults = []) (room : Room k callerA)
    (hY : ∀ (w : World) (h : Heap), YP w h → (K w.params).In h)
    (F : ∀ (w : World) (mg : Str → Option Value) (fa : Addr) (h : Heap), (K w.params).In h →
      h.Ns mainGlobals mg → mg d.name = some (.ref fa) →
      ∃ fd : FuncData, (∀ (s : Shared) (u : Value), BindsTo s fd ⟨[u], []⟩ [(x, u)]) ∧
        ∀ base : Heap, (K w.params).In base → base.Ns mainGlobals mg →
          FnG l.prog w (K w.params) mg base CX0 k fa fd [x] (sp w))
    (hsp : ∀ (w : World) (H : Hp) (a : Addr) (ns : List Int), ns.length ≤ n → Only H →
      SqL (K w.params) H a (ns.map V.int) → sp w [.ref a] H (fun v _ => v = .bl true) fun _ _ _ => False) :
    PySem.W.WalkO q loose XP YP l.row.toRowW d [] (fun f vs => PySem.call f vs) := by
  refine Att.attach_call hn hdf fun w s0 s1 mg mb fa o pm cd doc a vs ns G Y ho hd hcd hmg hobj whole len gens => ?_
  have KX := hY w _ Y
  obtain ⟨fd, bi, hF⟩ := F w mg fa _ KX G.T.g hmg
  exact law_callG KX G.T.g G.T.b G.T.builtins G.T.nolimit gens hobj whole (Nat.le_trans len small) room hF bi
    fun H hO hS => hsp w H a ns len hO hS
end V3

set_option Elab.async false
set_option linter.all false
set_option maxRecDepth 100000
/-! x in (a, b, ..), where none of the items is x: each item's own == is run -/
namespace V3
open PySem PySem.SeqAt
open AutoSeq1 (wpAny_loadPart')
open MeetsSeq MeetsSeq2 MeetsSeq3 SeqRoads2
section
variable {prog : Program} {w : World} {A : Around} {R : Result → Shared → Prop}
theorem tuple_none (l : Addr) (items : Array Value) (n : Nat) (dd : Option Addr) (sl : Array (Option Value)) (x : Value) (I : Nat → Shared → Prop)
    (turn : ∀ i (h : i < items.size) s, I i s →
      wpAny (model prog w) A.in1 (eqBool items[i] x) (fun r s' => r = false ∧ I (i + 1) s') (fun e s' => R (.error e) s') s)
    (fin : ∀ s, I items.size s → R (.ok (.ret (.bool false))) s) {s : Shared}
    (hl : s.heap.get? l = some { cls := .type "tuple", dict := dd, data := .seq items n, slots := sl }) (h : I 0 s) :
    wpAny (model prog w) A.in1 (Builtin.«tuple.__contains__» ⟨[.ref l, x], []⟩) (GQ.FinOf prog w A R) (fun e s' => R (.error e) s') s := by
  have h0 := h
  obtain ⟨hp, g, d, tk, os⟩ := s
  wp_walk using wpAny_loadPart' hl, wpAny_forIn_array _ (fun rest b s' => b.1 = none ∧ ∃ i, rest = items.toList.drop i ∧ i ≤ items.size ∧ I i s') _
  case turn =>
    rintro y rest b s' ⟨hb, i, hz, hi, hI⟩
    have lt : i < items.toList.length := by
      rcases Nat.lt_or_ge i items.toList.length with q | q
      · exact q
      · rw [List.drop_of_length_le q] at hz
        cases hz
    have lt2 : i < items.size := by simpa using lt
    rw [List.drop_eq_getElem_cons lt] at hz
    injection hz with hy hr
    have hy2 : y = items[i] := by simpa using hy
    subst hy2
    refine wpAny_bind (wpAny_mono (turn i lt2 s' hI) (fun r s2 q => ?_) fun _ _ z => z)
    obtain ⟨rfl, q⟩ := q
    wp_walk
    exact ⟨rfl, i + 1, hr, lt2, q⟩
  case fin =>
    rintro ⟨b1, b2⟩ s' ⟨hb, i, hz, hi, hI⟩
    simp only at hb
    subst hb
    have ge : items.size ≤ i := by
      rcases Nat.lt_or_ge i items.toList.length with q | q
      · rw [List.drop_eq_getElem_cons q] at hz
        cases hz
      · simpa using q
    have e : i = items.size := by omega
    have hR := fin s' (e ▸ hI)
    wp_walk
    first | exact hR | exact ⟨_, rfl, hR⟩ | simpa using hR
  case h =>
    exact ⟨rfl, 0, rfl, Nat.zero_le _, h0⟩
end
end V3

set_option Elab.async false
set_option linter.all false
set_option maxRecDepth 100000
namespace V3
open PySem PySem.SeqAt
open AutoSeq1 (wpAny_loadPart')
section
variable {prog : Program} {w : World} {A : Around} {E : Value → Shared → Prop} {s : Shared} {x : Addr} {o : Obj}
theorem str_declines {z : Str} {t : Tok} {Q : Shared → Prop} (ho : s.heap.get? x = some o) (hd : o.data = .plain) (hq : Q s) :
    wpAny (model prog w) A (call (.builtin "str.__eq__") [.str z t, .ref x]) (fun v s' => v = .notImplemented ∧ Q s') E s := by
  refine GQ.call_here F.slot_str_eq (typeIs_str s z t) F.entry_str_eq (F.args_str_eq_2 _ _) ?_
  obtain ⟨c, dd, da, sl⟩ := o
  simp only at hd
  subst hd
  obtain ⟨hp, g, d, tk, os⟩ := s
  unfold Builtin.«str.__eq__» Builtin.Str.strCompare
  wp_walk using wpAny_load ho
  exact ⟨rfl, hq⟩
theorem none_declines {Q : Shared → Prop} (hq : Q s) :
    wpAny (model prog w) A (call (.builtin "NoneType.__eq__") [.none, .ref x]) (fun v s' => v = .notImplemented ∧ Q s') E s := by
  refine GQ.call_here F.slot_NoneType_eq (typeIs_none s) F.entry_NoneType_eq (F.args_NoneType_eq_2 _ _) ?_
  obtain ⟨hp, g, d, tk, os⟩ := s
  unfold Builtin.«NoneType.__eq__»
  wp_walk
  exact ⟨rfl, hq⟩
theorem tup_declines {K : PySem.W.Frag} {C p : Addr} {od : Option Obj} {items : Array Value} {Q : Shared → Prop} (X : K.In s.heap) (I : PySem.W.InstAt s.heap x o C od) (hs : PySem.W.subIn K (.ref C) (.type "tuple") = some false) (hp : s.heap.IsTuple p items) (hq : Q s) :
    wpAny (model prog w) A (call (.builtin "tuple.__eq__") [.ref p, .ref x]) (fun v s' => v = .notImplemented ∧ Q s') E s := by
  obtain ⟨⟨c1, d1, da, sl⟩, ho, hc, n, hd⟩ := id hp
  simp only at hc hd
  subst hc hd
  refine GQ.call_here F.slot_tuple_eq ⟨_, ho, rfl⟩ F.entry_tuple_eq (F.args_tuple_eq_2 _ _) ?_
  obtain ⟨hh, g, d, tk, os⟩ := s
  wp_walk
  refine wpAny_loadPart I.at_ (wpAny_pure ?_)
  rw [I.cls]
  refine (PySem.W.looks_subIn X hs).here ?_
  wp_walk
  exact ⟨rfl, hq⟩
end
/-! a == b by the own __eq__ of b, where that of a declines -/
section
variable {prog : Program} {w : World} {A : Around} {E : Value → Shared → Prop} {s : Shared} {K : PySem.W.Frag} {x C L f : Addr} {h₀ : Heap} {m : Str → Option Value} {ox : Obj} {od : Option Obj} {a : Value} {T id : String}
theorem turned_K {Q : Value → Shared → Prop} (hu : A.units < cLine) (F : PyProof.Rows.Fr h₀ L s.heap m) (X₀ : K.In h₀) (I : PySem.W.InstAt s.heap x ox C od) (hT : s.TypeIs a T) (sl : Slot T "__eq__" id)
    (one : oneThing? .Eq a (.ref x) = none) (hs : PySem.W.subIn K (.ref C) (.type T) = some false)
    (no : ∀ {Q : Shared → Prop}, Q s → wpAny (model prog w) A (call (.builtin id) [a, .ref x]) (fun v s' => v = .notImplemented ∧ Q s') E s)
    (he : PySem.W.findIn K (.ref C) "__eq__" = some (some (.ref f))) (hf : PySem.W.isFn K (.ref f) = true)
    (h : wpAny (model prog w) A (call (.ref f) [.ref x, a]) (fun v s' => ∃ r, v = .bool r ∧ Q (.bool r) s') E s) : wpAny (model prog w) A (richCompare .Eq a (.ref x)) Q E s := by
  have X := X₀.keeps F.keep
  unfold richCompare
  simp only [one]
  refine wpAny_holding (wpAny_bind (wpAny_cRoomFor hu ?_))
  refine wpAny_bind (wpAny_typeOf hT (wpAny_bind (I.type.here ?_)))
  split
  · refine wpAny_bind ((PySem.W.looks_subIn X hs).here ?_)
    simp only [Bool.false_eq_true, if_false]
    refine wpAny_bind (wpAny_tryCompare_declines hT sl (no ?_))
    simp only [Bool.not_false, if_true]
    have two : wpAny (model prog w) A (tryCompare (.ref x) "__eq__" a) (fun r s' => ∃ v, r = some v ∧ Q v s') E s := by
      unfold tryCompare
      refine wpAny_bind (PySem.W.ifBound_K X I he hf (wpAny_mono h (fun v s' hv => ?_) fun _ _ e => e))
      obtain ⟨r, rfl, q⟩ := hv
      exact wpAny_pure ⟨_, rfl, q⟩
    refine wpAny_bind (wpAny_mono two (fun r s' z => ?_) fun _ _ e => e)
    obtain ⟨v, rfl, hq⟩ := z
    exact wpAny_pure hq
  · rename_i q
    exact absurd (by simp) q
end
end V3

set_option Elab.async false
set_option linter.all false
set_option maxRecDepth 100000
namespace V3
open PySem PySem.Spec PyProof.Rows L2
/-- what of a class is wanted where its objects stand behind texts, None and tuples -/
structure Behind (K : PySem.W.Frag) (C : Addr) : Prop where
  s : PySem.W.subIn K (.ref C) (.type "str") = some false
  n : PySem.W.subIn K (.ref C) (.type "NoneType") = some false
  t : PySem.W.subIn K (.ref C) (.type "tuple") = some false
inductive Plain (H : Hp) : V → Prop where
  | str (z : Str) : Plain H (.str z)
  | non : Plain H .non
  | tup {b : Addr} {ys : List V} (h : H b = some (.tup ys)) : Plain H (.ref b)
section
variable {prog : Program} {w : World} {A : Around} {E : Value → Shared → Prop} {s : Shared}
theorem eqB_str {z : Str} {t : Tok} {a : Addr} {Q : Bool → Shared → Prop} (h : wpAny (model prog w) A (richCompare .Eq (.str z t) (.ref a)) (fun v s' => ∃ r, v = .bool r ∧ Q r s') E s) :
    wpAny (model prog w) A (eqBool (.str z t) (.ref a)) Q E s := by
  unfold eqBool
  refine wpAny_holding (wpAny_ite_split (fun q => absurd (eq_of_beq q) (fun e => nomatch e)) fun _ => ?_)
  refine wpAny_bind (wpAny_mono h (fun v s' hv => ?_) fun _ _ x => x)
  obtain ⟨r, rfl, q⟩ := hv
  exact wpAny_truthy_bool q
theorem eqB_non {a : Addr} {Q : Bool → Shared → Prop} (h : wpAny (model prog w) A (richCompare .Eq .none (.ref a)) (fun v s' => ∃ r, v = .bool r ∧ Q r s') E s) :
    wpAny (model prog w) A (eqBool .none (.ref a)) Q E s := by
  unfold eqBool
  refine wpAny_holding (wpAny_ite_split (fun q => absurd (eq_of_beq q) (fun e => nomatch e)) fun _ => ?_)
  refine wpAny_bind (wpAny_mono h (fun v s' hv => ?_) fun _ _ x => x)
  obtain ⟨r, rfl, q⟩ := hv
  exact wpAny_truthy_bool q
end
section
variable {X : Cx} {n : Nat}
/-- x in (..), x of an own class, no item equal to it -/
def rInO (K : PySem.W.Frag) (FF : Addr → Sp → XK → Prop) : R2 := fun x y H Q => ∃ (a p C dx : Addr) (fs : List (Str × V)) (xs : List V) (sp : Sp) (E : XK), x = .ref a ∧ y = .ref p ∧ H a = some (.ins C dx fs) ∧ H p = some (.tup xs) ∧
  (∀ z ∈ xs, Plain H z) ∧ Behind K C ∧ FF C sp E ∧ (∀ z ∈ xs, sp [.ref a, z] H (fun v H' => v = .bl false ∧ H' = H) E) ∧ Q (.bl false) H
theorem op_inO {FF : Addr → Sp → XK → Prop} (hF : ∀ C sp E, FF C sp E → ∃ (CX : CXT) (f : Addr) (fd : FuncData) (ps : List Str), FnOk X.prog X.w X.K X.mg X.base CX n f fd ps sp ∧ EqCls X.K C f ∧ Binds X.K fd ps [] ∧ Passes CX X E) (hr : Room (n + 1) X.A) :
    OpR X (compareOp .In) (rInO X.K FF) := by
  intro pins s σ H x y v u Q I rx ry hq
  obtain ⟨a, p, C, dx, fs, xs, sp, E, rfl, rfl, ha, hp, pl, bh, ff, hsp, q⟩ := hq
  obtain ⟨CX, f, fd, ps, F, ec, bi, hx⟩ := hF C sp E ff
  cases rx
  cases ry
  obtain ⟨its, rv, ht, hz⟩ := I.tuple (SqT.of hp)
  obtain ⟨⟨c0, dd, da, sl⟩, ho, hc, m, hd⟩ := id ht
  simp only at hc hd
  subst hc hd
  show wpAny (model X.prog X.w) X.A (do return .bool (← contains (.ref p) (.ref a))) (EP X pins σ Q) X.xe s
  refine wpAny_bind (wpAny_contains_slot ⟨_, ho, rfl⟩ PySem.F.slot_tuple_contains (wpAny_mono (GQ.call_here (Q := fun v s' => v = .bool false ∧ Inv X pins σ H s') PySem.F.slot_tuple_contains ⟨_, ho, rfl⟩ PySem.F.entry_tuple_contains (PySem.F.args_tuple_contains_2 _ _)
    (tuple_none p its.toArray m dd sl (.ref a) (fun _ s' => Inv X pins σ H s') ?_ (fun s' J => ⟨rfl, J⟩) ho I)) (fun v s' hv => ?_) fun _ _ e => e))
  · intro i hi s' J
    have hi2 : i < its.length := by simpa using hi
    have hi3 : i < xs.length := by rw [rv.length]; exact hi2
    obtain ⟨u, hu, ru⟩ := rv.get (List.getElem?_eq_getElem hi3)
    have eu : its.toArray[i] = u := by
      rw [List.getElem?_eq_getElem hi2] at hu
      simpa using Option.some.inj hu
    rw [eu]
    have mem : xs[i] ∈ xs := List.getElem_mem hi3
    have pz := pl _ mem
    have own := hsp _ mem
    generalize xs[i] = z at ru pz own
    obtain ⟨mA, O, _⟩ := ins_get J.hok ha
    obtain ⟨od, IA, _⟩ := O.look
    obtain ⟨mm, hFr⟩ := J.fr
    have run : wpAny (model X.prog X.w) X.A.in1 (call (.ref f) [.ref a, u]) (fun v s2 => ∃ r, v = .bool r ∧ r = false ∧ Inv X pins σ H s2) X.xe s' :=
      wpAny_mono (run_own (x := .ref a) (y := z) ⟨hr.in1, rfl⟩ F bi hx J rfl ru own) (fun w s2 k => by
        obtain ⟨z2, H', J2, rz, ez, eH⟩ := k
        subst ez
        subst eH
        cases rz
        exact ⟨false, rfl, rfl, J2⟩) fun _ _ e => e
    have hu1 : X.A.in1.units < cLine := hr.in1.units0
    cases pz with
    | str zz =>
      obtain ⟨t, rfl⟩ := ru
      refine eqB_str (turned_K (T := "str") hu1 hFr J.ok.mod.kin IA (typeIs_str _ _ _) PySem.F.slot_str_eq rfl bh.s (fun k => str_declines IA.at_ rfl k) ec.eq ec.fn (wpAny_mono run (fun v s2 k => ?_) fun _ _ e => e))
      obtain ⟨r, rfl, e, J2⟩ := k
      exact ⟨r, rfl, r, rfl, e, J2⟩
    | non =>
      cases ru
      refine eqB_non (turned_K (T := "NoneType") hu1 hFr J.ok.mod.kin IA (typeIs_none _) PySem.F.slot_NoneType_eq rfl bh.n (fun k => none_declines k) ec.eq ec.fn (wpAny_mono run (fun v s2 k => ?_) fun _ _ e => e))
      obtain ⟨r, rfl, e, J2⟩ := k
      exact ⟨r, rfl, r, rfl, e, J2⟩
    | @tup b ys hb =>
      cases ru
      obtain ⟨its2, r2, ht2, hz2⟩ := J.tuple (SqT.of hb)
      have ne : b ≠ a := by
        intro e
        subst e
        rw [ha] at hb
        cases hb
      obtain ⟨o2, ho2, hc2, _⟩ := id ht2
      refine GQ.eqBool_refG ne (turned_K (T := "tuple") hu1 hFr J.ok.mod.kin IA ⟨o2, ho2, hc2⟩ PySem.F.slot_tuple_eq (by first | rfl | simp [oneThing_ref]) bh.t (fun k => tup_declines J.kIn IA bh.t ht2 k) ec.eq ec.fn (wpAny_mono run (fun v s2 k => ?_) fun _ _ e => e))
      obtain ⟨r, rfl, e, J2⟩ := k
      exact ⟨r, rfl, r, rfl, e, J2⟩
  · obtain ⟨rfl, J⟩ := hv
    exact wpAny_truthy_bool (wpAny_pure ⟨.bl false, H, J, rfl, q⟩)
end
end V3

set_option Elab.async false
set_option linter.all false
set_option maxRecDepth 100000
namespace V3
open PySem L2 TL
def num (i : Int) : Str := Str.ofString (toString i)
def Am (i : Int) : Prop := i.natAbs ≤ 10000000000000000000000000000000000000000
theorem am_log {i : Int} (h : Am i) : i.natAbs.log2 < 1920 := Nat.lt_of_lt_of_le (PySem.Flt.log2_lt_of (k := 140) (by decide) (by
  have : (2 : Nat) ^ 140 = 1393796574908163946345982392040522594123776 := by decide
  unfold Am at h
  omega)) (by decide)
theorem num_len {i : Int} (h : Am i) : (num i).length ≤ 1921 := PyProof.Rows.int_text_len_1921 (am_log h)
theorem app_len (x y : Str) : (x ++ y).length = x.length + y.length := PySem.Str.length_append x y
theorem small {n : Nat} (h : n ≤ 10000) : n ≤ sizeLine := Nat.le_trans h (by decide)
def sp1 : Str := " "
theorem tl_num' {t : Int} (h : 0 ≤ t) : tl (num t) = numL t.toNat := by
  have e : ((t.toNat : Nat) : Int) = t := by omega
  have z := tl_num t.toNat
  rw [e] at z
  exact z
theorem num_free {t : Int} {s : Nat} (h : 0 ≤ t) (hs : s < 48 ∨ 57 < s) : s ∉ tl (num t) := by
  rw [tl_num' h]
  exact numL_free hs
theorem sp_tl : tl sp1 = [32] := by decide +kernel
theorem Same.new {p : Addr} {H : Hp} {o : HO} (hp : H p = none) : Same H (upd H p o) := fun c u h => by rw [upd_ne (ne_of_none h hp)]; exact h
theorem made_same {H : Hp} {y dy : Addr} {o1 o2 : HO} (ny : H y = none) (ndy : H dy = none) : Same H (upd (upd H dy o1) y o2) := fun b o e => by
  rw [upd_ne (ne_of_none e ny), upd_ne (ne_of_none e ndy)]
  exact e
theorem made_same2 {H : Hp} {y dy : Addr} {o1 o2 o3 : HO} (ny : H y = none) (ndy : H dy = none) : Same H (upd (upd (upd H dy o1) y o2) y o3) := fun b o e => by
  rw [upd_ne (ne_of_none e ny), upd_ne (ne_of_none e ny), upd_ne (ne_of_none e ndy)]
  exact e
def SameX (b : Addr) (H H' : Hp) : Prop := ∀ c o, c ≠ b → H c = some o → H' c = some o
theorem SameX.refl {b : Addr} {H : Hp} : SameX b H H := fun _ _ _ h => h
theorem SameX.trans {b : Addr} {H H1 H2 : Hp} (s : SameX b H H1) (t : SameX b H1 H2) : SameX b H H2 := fun c o n h => t c o n (s c o n h)
theorem SameX.of {b : Addr} {H H' : Hp} (s : Same H H') : SameX b H H' := fun c o _ h => s c o h
theorem SameX.box {b : Addr} {H : Hp} {o : HO} : SameX b H (upd H b o) := fun c _ n h => by rw [upd_ne n]; exact h
def Pre (b : Addr) (H H' : Hp) : Prop := SameX b H H' ∧ ∃ u v, BoxOk u v ∧ H' b = some (box u v)
theorem Pre.trans {b : Addr} {H H1 H2 : Hp} (s : Pre b H H1) (t : Pre b H1 H2) : Pre b H H2 := ⟨s.1.trans t.1, t.2⟩
theorem Pre.then {b : Addr} {H H1 H2 : Hp} (s : Pre b H H1) (t : Same H1 H2) : Pre b H H2 := by
  obtain ⟨h, u, v, ok, e⟩ := s
  exact ⟨h.trans (SameX.of t), u, v, ok, t _ _ e⟩
theorem Pre.box {b : Addr} {H : Hp} {u v : Int} (ok : BoxOk u v) : Pre b H (upd H b (box u v)) := ⟨SameX.box, u, v, ok, upd_same⟩
theorem Pre.start {b : Addr} {H : Hp} {u v : Int} (ok : BoxOk u v) (h : H b = some (V3.box u v)) : Pre b H H := ⟨SameX.refl, u, v, ok, h⟩
def Keep (H H' : Hp) : Prop := ∀ c o, (∀ xs, o ≠ .lst xs) → H c = some o → H' c = some o
theorem Keep.of {H H' : Hp} (s : Same H H') : Keep H H' := fun c o _ h => s c o h
theorem Keep.lst {H : Hp} {D : Addr} {xs : List V} {o : HO} (hD : H D = some (.lst xs)) : Keep H (upd H D o) := fun c u n h => by
  have nc : c ≠ D := fun e => by
    subst e
    rw [hD] at h
    injection h with h
    exact n _ h.symm
  rw [upd_ne nc]
  exact h
theorem Keep.pre {H H' : Hp} {b : Addr} {xs : List V} (hb : H b = some (.lst xs)) (s : SameX b H H') : Keep H H' := fun c u n h => by
  have nc : c ≠ b := fun e => by
    subst e
    rw [hb] at h
    injection h with h
    exact n _ h.symm
  exact s c u nc h
theorem at_end {α : Type} {xs : List α} {x y : α} {i : Nat} (h : (xs ++ [x])[i]? = some y) : (i < xs.length ∧ xs[i]? = some y) ∨ (i = xs.length ∧ y = x) := by
  by_cases c : i < xs.length
  · exact .inl ⟨c, by rw [List.getElem?_append_left c] at h; exact h⟩
  · rw [List.getElem?_append_right (by omega)] at h
    obtain ⟨l, e⟩ := List.getElem?_eq_some_iff.mp h
    have z : i - xs.length = 0 := by simpa using l
    exact .inr ⟨by omega, by simp [z] at e; exact e.symm⟩
theorem at_old {α : Type} {xs : List α} {x y : α} {i : Nat} (h : xs[i]? = some y) : (xs ++ [x])[i]? = some y := by
  have l := (List.getElem?_eq_some_iff.mp h).1
  rw [List.getElem?_append_left l]
  exact h
theorem at_new {α : Type} {xs : List α} {x : α} {n : Nat} (h : xs.length = n) : (xs ++ [x])[n]? = some x := by
  subst h
  simp
theorem take_next {α : Type} {ms : List α} {m : α} {i : Nat} (h : ms[i]? = some m) : ms.take (i + 1) = ms.take i ++ [m] := by
  rw [List.take_add_one, h]
  rfl
theorem Same.upn {H H1 : Hp} {b : Addr} {o : HO} (s : Same H H1) (nb : H b = none) : Same H (upd H1 b o) := fun c u e => by
  rw [upd_ne (ne_of_none e nb)]
  exact s c u e
theorem Pre.all {b : Addr} {H H' : Hp} (p : Pre b H H') (n : H b = none) : Same H H' := fun c o h => p.1 c o (ne_of_none h n) h
end V3

set_option Elab.async false
set_option linter.all false
set_option maxRecDepth 100000
namespace V3
open PySem L2 TL
/-! rows of houses and of reports: their words and texts -/
def kindL : List Str := ["first", "new", "minus", "plus"]
def stateL : List Str := ["open", "shut"]
def deedL : List Str := ["whole", "part", "right"]
def placeL : List Str := ["now", "there"]
def whoseL : List Str := ["own", "target", "top", "deed"]
inductive Rw where
  | lt (k s d p : Str)
  | ct (k : Str) (w : Int) (o : Str)
  deriving DecidableEq
def Wt (w : Int) : Prop := w = -1 ∨ w = 0 ∨ w = 1
def Rw.ok : Rw → Prop
  | .lt k s d p => k ∈ kindL ∧ s ∈ stateL ∧ d ∈ deedL ∧ p ∈ placeL ∧ (d = "right" → k = "first" ∨ k = "new")
  | .ct k w o => k ∈ kindL ∧ Wt w ∧ o ∈ whoseL
def Rw.words : Rw → List Str
  | .lt k s d p => [k, s, d, p]
  | .ct k w o => [k, num w, o]
def Rw.text (m : Rw) : Str := Str.join sp1 m.words
def Rw.kind : Rw → Nat
  | .lt _ _ _ _ => 0
  | .ct _ _ _ => 1
theorem all_free : ∀ p ∈ kindL ++ stateL ++ deedL ++ placeL ++ whoseL ++ [num (-1), num 0, num 1], (32 ∉ tl p ∧ 10 ∉ tl p) ∧ p.length ≤ 6 := by decide +kernel
theorem wt_word {w : Int} (h : Wt w) : num w ∈ [num (-1), num 0, num 1] := by
  rcases h with rfl | rfl | rfl <;> simp
theorem word_ok {m : Rw} (h : m.ok) : ∀ p ∈ m.words, (32 ∉ tl p ∧ 10 ∉ tl p) ∧ p.length ≤ 6 := by
  intro p hp
  refine all_free p ?_
  cases m with
  | lt k s d q =>
    obtain ⟨a, b, c, e, _⟩ := h
    simp only [Rw.words, List.mem_cons, List.not_mem_nil, or_false] at hp
    simp only [List.mem_append]
    rcases hp with rfl | rfl | rfl | rfl
    · exact .inl (.inl (.inl (.inl (.inl a))))
    · exact .inl (.inl (.inl (.inl (.inr b))))
    · exact .inl (.inl (.inl (.inr c)))
    · exact .inl (.inl (.inr e))
  | ct k w o =>
    obtain ⟨a, b, c⟩ := h
    simp only [Rw.words, List.mem_cons, List.not_mem_nil, or_false] at hp
    simp only [List.mem_append]
    rcases hp with rfl | rfl | rfl
    · exact .inl (.inl (.inl (.inl (.inl a))))
    · exact .inr (wt_word b)
    · exact .inl (.inr c)
theorem rw_ne (m : Rw) : m.words ≠ [] := by cases m <;> exact (fun z => nomatch z)
theorem rw_split {m : Rw} (h : m.ok) : Txt.split m.text sp1 = m.words := by
  unfold Rw.text
  have z := split_join sp_tl (by decide +kernel) (rw_ne m) fun p hp => (word_ok h p hp).1.1
  rw [join_eq] at z
  exact z
theorem wt_inj {v w : Int} (hv : Wt v) (hw : Wt w) (e : num v = num w) : v = w := by
  have d1 : num (-1) ≠ num 0 := by decide +kernel
  have d2 : num (-1) ≠ num 1 := by decide +kernel
  have d3 : num 0 ≠ num 1 := by decide +kernel
  rcases hv with rfl | rfl | rfl <;> rcases hw with rfl | rfl | rfl <;> first | rfl | exact absurd e d1 | exact absurd e d2 | exact absurd e d3 | exact absurd e.symm d1 | exact absurd e.symm d2 | exact absurd e.symm d3
theorem rw_inj {m n : Rw} (hm : m.ok) (hn : n.ok) (h : m.text = n.text) : m = n := by
  have e : m.words = n.words := by rw [← rw_split hm, ← rw_split hn, h]
  cases m with
  | lt k s d p =>
    cases n with
    | lt k' s' d' p' =>
      simp only [Rw.words, List.cons.injEq, and_true] at e
      obtain ⟨rfl, rfl, rfl, rfl⟩ := e
      rfl
    | ct k' w' o' => simp [Rw.words] at e
  | ct k w o =>
    cases n with
    | lt k' s' d' p' => simp [Rw.words] at e
    | ct k' w' o' =>
      simp only [Rw.words, List.cons.injEq, and_true] at e
      obtain ⟨rfl, ew, rfl⟩ := e
      rw [wt_inj hm.2.1 hn.2.1 ew]
theorem rw_dec {m n : Rw} (hm : m.ok) (hn : n.ok) : decide (m.text = n.text) = decide (m = n) := by
  by_cases h : m = n
  · rw [h, decide_eq_true rfl, decide_eq_true rfl]
  · rw [decide_eq_false h, decide_eq_false (fun e => h (rw_inj hm hn e))]
/-- what the two classes write -/
theorem let_text (k s d p : Str) : Str.empty ++ k ++ " " ++ s ++ " " ++ d ++ " " ++ p = (Rw.lt k s d p).text := ext_tl (by
  unfold Rw.text
  rw [tl_join]
  have e : tl (" " : Str) = [32] := by decide +kernel
  simp only [tl_append, Rw.words, List.map, joinL, sp_tl, e]
  simp [Str.empty, tl])
theorem cnt_text (k : Str) (w : Int) (o : Str) : Str.empty ++ k ++ " " ++ num w ++ " " ++ o = (Rw.ct k w o).text := ext_tl (by
  unfold Rw.text
  rw [tl_join]
  have e : tl (" " : Str) = [32] := by decide +kernel
  simp only [tl_append, Rw.words, List.map, joinL, sp_tl, e]
  simp [Str.empty, tl])
theorem inV_str {k : Str} {L : List Str} : inV (.str k) (L.map V.str) = decide (k ∈ L) := by
  induction L with
  | nil => rfl
  | cons a r ih =>
    have e : inV (.str k) ((a :: r).map V.str) = (a == k || inV (.str k) (r.map V.str)) := rfl
    rw [e, ih]
    by_cases q : k = a
    · subst q
      simp
    · have z : (a == k) = false := Bool.eq_false_iff.mpr fun w => q (eq_of_beq w).symm
      rw [z]
      simp [q]
theorem flat_strs (L : List Str) : (L.map V.str).all flatV = true := by
  induction L with
  | nil => rfl
  | cons a r ih => simpa [flatV] using ih
/-- fields -/
theorem putF_ne {f g : Str} {v x : V} {r : List (Str × V)} (h : g ≠ f) : putF f v ((g, x) :: r) = (g, x) :: putF f v r := by
  show (if g = f then _ else _) = _
  rw [if_neg h]
theorem lk_ne {f g : Str} {v : V} {r : List (Str × V)} (h : (g == f) = false) : List.lookup g ((f, v) :: r) = List.lookup g r := by
  simp [List.lookup, h]
structure Rc where
  L : Addr
  C : Addr
def Rc.at (c : Rc) : Nat → Addr
  | 0 => c.L
  | _ => c.C
def letF (k s d p : V) : List (Str × V) := [("kind", k), ("state", s), ("deed", d), ("place", p)]
def cntF (k w o : V) : List (Str × V) := [("kind", k), ("weight", w), ("whose", o)]
def Rw.fs : Rw → List (Str × V)
  | .lt k s d p => letF (.str k) (.str s) (.str d) (.str p)
  | .ct k w o => cntF (.str k) (.int w) (.str o)
def Rw.obj (c : Rc) (dx : Addr) (m : Rw) : HO := .ins (c.at m.kind) dx m.fs
def RwAt (c : Rc) (H : Hp) (v : V) (m : Rw) : Prop := ∃ x dx, v = .ref x ∧ H x = some (m.obj c dx)
theorem RwAt.keep {c : Rc} {H H' : Hp} {v : V} {m : Rw} (h : RwAt c H v m) (s : Keep H H') : RwAt c H' v m := by
  obtain ⟨x, dx, e, hx⟩ := h
  exact ⟨x, dx, e, s _ _ (fun _ z => by cases z) hx⟩
theorem RwAt.same {c : Rc} {H H' : Hp} {v : V} {m : Rw} (h : RwAt c H v m) (s : Same H H') : RwAt c H' v m := h.keep (Keep.of s)
theorem rkind_lt (m : Rw) : m.kind < 2 := by cases m <;> (simp only [Rw.kind]; omega)
theorem let_put (k s d p : V) : putF "place" p (putF "deed" d (putF "state" s (putF "kind" k []))) = letF k s d p := by
  have a1 : ("kind" : Str) ≠ "state" := by decide +kernel
  have a2 : ("kind" : Str) ≠ "deed" := by decide +kernel
  have a3 : ("kind" : Str) ≠ "place" := by decide +kernel
  have a4 : ("state" : Str) ≠ "deed" := by decide +kernel
  have a5 : ("state" : Str) ≠ "place" := by decide +kernel
  have a6 : ("deed" : Str) ≠ "place" := by decide +kernel
  show putF "place" p (putF "deed" d (putF "state" s [("kind", k)])) = _
  rw [putF_ne a1]
  show putF "place" p (putF "deed" d [("kind", k), ("state", s)]) = _
  rw [putF_ne a2, putF_ne a4]
  show putF "place" p [("kind", k), ("state", s), ("deed", d)] = _
  rw [putF_ne a3, putF_ne a5, putF_ne a6]
  rfl
theorem cnt_put (k w o : V) : putF "whose" o (putF "weight" w (putF "kind" k [])) = cntF k w o := by
  have a1 : ("kind" : Str) ≠ "weight" := by decide +kernel
  have a2 : ("kind" : Str) ≠ "whose" := by decide +kernel
  have a3 : ("weight" : Str) ≠ "whose" := by decide +kernel
  show putF "whose" o (putF "weight" w [("kind", k)]) = _
  rw [putF_ne a1]
  show putF "whose" o [("kind", k), ("weight", w)] = _
  rw [putF_ne a2, putF_ne a3]
  rfl
theorem let_kind (k s d p : V) : (letF k s d p).lookup ("kind" : Str) = some k := rfl
theorem let_state (k s d p : V) : (letF k s d p).lookup ("state" : Str) = some s := by
  unfold letF
  rw [lk_ne (by decide +kernel)]
  rfl
theorem let_deed (k s d p : V) : (letF k s d p).lookup ("deed" : Str) = some d := by
  unfold letF
  rw [lk_ne (by decide +kernel), lk_ne (by decide +kernel)]
  rfl
theorem let_place (k s d p : V) : (letF k s d p).lookup ("place" : Str) = some p := by
  unfold letF
  rw [lk_ne (by decide +kernel), lk_ne (by decide +kernel), lk_ne (by decide +kernel)]
  rfl
theorem cnt_kind (k w o : V) : (cntF k w o).lookup ("kind" : Str) = some k := rfl
theorem cnt_weight (k w o : V) : (cntF k w o).lookup ("weight" : Str) = some w := by
  unfold cntF
  rw [lk_ne (by decide +kernel)]
  rfl
theorem cnt_whose (k w o : V) : (cntF k w o).lookup ("whose" : Str) = some o := by
  unfold cntF
  rw [lk_ne (by decide +kernel), lk_ne (by decide +kernel)]
  rfl
end V3

set_option Elab.async false
set_option linter.all false
set_option maxRecDepth 100000
namespace V3
open PySem L2 TL
abbrev sWrongWord : Stmt := top 48
abbrev sLInit : Stmt := inClass (top 46) 0
abbrev sLStr : Stmt := inClass (top 46) 2
/-! the rows of houses alone -/
structure RowH (K : PySem.W.Frag) (mg : Str → Option Value) (KA SA DA PA : Addr) : Prop where
  kinds : mg "KINDS" = some (.ref KA)
  states : mg "STATES" = some (.ref SA)
  deeds : mg "DEEDS" = some (.ref DA)
  places : mg "PLACES" = some (.ref PA)
  tK : ∀ H, SqT K H KA (kindL.map V.str)
  tS : ∀ H, SqT K H SA (stateL.map V.str)
  tD : ∀ H, SqT K H DA (deedL.map V.str)
  tP : ∀ H, SqT K H PA (placeL.map V.str)
structure BltR (mg : Str → Option Value) : Prop where
  isi : mg "isinstance" = none
  int : mg "int" = none
  bool : mg "bool" = none
  str : mg "str" = none
def spIntI : Sp := fun vs H Q _ => ∃ i : Int, vs = [.int i] ∧ Q (.bl true) H
def spWord : Sp := fun vs H Q _ => ∃ k s d p, vs = [.str k, .str s, .str d, .str p] ∧ (Rw.lt k s d p).ok ∧ ∀ H', Same H H' → Q .non H'
def spLInit (c : Rc) : Sp := fun vs H Q _ => ∃ x dx k s d p, vs = [.ref x, .str k, .str s, .str d, .str p] ∧ H x = some (.ins c.L dx []) ∧ (Rw.lt k s d p).ok ∧ ∀ H', SameX x H H' → H' x = some ((Rw.lt k s d p).obj c dx) → Q .non H'
def spRS (c : Rc) (k : Nat) : Sp := fun vs H Q _ => ∃ (x dx : Addr) (m : Rw), vs = [.ref x] ∧ H x = some (m.obj c dx) ∧ m.kind = k ∧ m.ok ∧ Q (.str m.text) H
theorem lt_put {f : Str} {v : V} {n : Nat} : ∀ {fs : List (Str × V)}, fs.length < n → (putF f v fs).length < n + 1
  | [], h => by
    show 1 < n + 1
    have : 0 < n := h
    omega
  | (g, x) :: r, h => by
    show (if g = f then (g, v) :: r else (g, x) :: putF f v r).length < n + 1
    have l : r.length + 1 < n := h
    split
    · show r.length + 1 < n + 1
      omega
    · have z := lt_put (f := f) (v := v) (n := n - 1) (fs := r) (by omega)
      show (putF f v r).length + 1 < n + 1
      omega
theorem SameX.upd {x : Addr} {H H' : Hp} {o : HO} (s : SameX x H H') : SameX x H (upd H' x o) := fun c u n h => by
  rw [upd_ne n]
  exact s c u n h
/-- what an object's class must have of its fields -/
structure LetC (K : PySem.W.Frag) (c : Rc) : Prop where
  cl : Cls K c.L
  k : NoAttr K c.L "kind"
  s : NoAttr K c.L "state"
  d : NoAttr K c.L "deed"
  p : NoAttr K c.L "place"
section
variable {P : Program} {w : World} {K : PySem.W.Frag} {mg : Str → Option Value} {base : Heap} {KA SA DA PA : Addr}
theorem scWord : FnScope ["kind", "state", "deed", "place"] ["kind", "state", "deed", "place"] (defScope sWrongWord) := ⟨rfl, rfl, rfl, by decide +kernel, rfl, by decide +kernel, by decide +kernel⟩
theorem scLInit : FnScope ["self", "kind", "state", "deed", "place", "wrong"] ["self", "kind", "state", "deed", "place"] (defScope sLInit) := ⟨rfl, rfl, rfl, by decide +kernel, rfl, by decide +kernel, by decide +kernel⟩
theorem scLStr : FnScope ["self"] ["self"] (defScope sLStr) := ⟨rfl, rfl, rfl, by decide +kernel, rfl, by decide +kernel, by decide +kernel⟩
theorem ok_word {f : Addr} {fd : FuncData} (F : Fun K "wrong_word" "wrong_word" sWrongWord f fd) (T : RowH K mg KA SA DA PA) : FnOk P w K mg base CX0 1 f fd ["kind", "state", "deed", "place"] spWord := by
  refine F.ok scWord (fun vs H Q E h => ?_) (fun cdv A outer s H vs Q E hr h => ?_)
  · obtain ⟨k, s, d, p, rfl, _⟩ := h
    rfl
  · obtain ⟨k, s, d, p, rfl, ⟨k1, s1, d1, p1, r1⟩, q⟩ := h
    refine ⟨_, pss_cons (ps_if (pt_cmpR op_notIn_seq (pv 0) (pe_glob (v := .ref KA) rfl T.kinds rfl) rfl) (pss_one (ps_ret pe_str)) pss_nil)
      (pss_cons (ps_if (pt_cmpR op_notIn_seq (pv 1) (pe_glob (v := .ref SA) rfl T.states rfl) rfl) (pss_one (ps_ret pe_str)) pss_nil)
      (pss_cons (ps_if (PW.pt (pw_or (pt_cmpR op_notIn_seq (pv 2) (pe_glob (v := .ref DA) rfl T.deeds rfl) rfl) (pw_or1 (PW.pt (pw_and (pt_cmpR op_eq (pv 2) pe_str (nomark _)) (pw_and1 (pt_cmpR op_in_seq (pv 0) (pe_tup (pa_cons pe_str (pa_cons pe_str pa_nil))) rfl))))))) (pss_one (ps_ret pe_str)) pss_nil)
      (pss_cons (ps_if (pt_cmpR op_notIn_seq (pv 3) (pe_glob (v := .ref PA) rfl T.places rfl) rfl) (pss_one (ps_ret pe_str)) pss_nil)
      (pss_one (ps_ret pe_non))))), ?_⟩
    refine ⟨_, rfl, KA, _, rfl, .inr (T.tK _), rfl, flat_strs _, _, rfl, ?_⟩
    rw [inV_str, decide_eq_true k1]
    refine iteF ⟨_, rfl, SA, _, rfl, .inr (T.tS _), rfl, flat_strs _, _, rfl, ?_⟩
    rw [inV_str, decide_eq_true s1]
    refine iteF ⟨_, rfl, DA, _, rfl, .inr (T.tD _), rfl, flat_strs _, _, rfl, ?_⟩
    rw [inV_str, decide_eq_true d1]
    refine iteF ⟨_, rfl, rfl, _, rfl, ?_⟩
    have last : ∀ H', Same H H' → Q .non H' := q
    by_cases e : d = "right"
    · subst e
      rw [decide_eq_true rfl]
      refine iteT ⟨_, rfl, (by show 2 ≤ sizeLine; decide), fun t nt => ⟨t, _, rfl, .inr (SqT.of upd_same), rfl, rfl, _, rfl, ?_⟩⟩
      have z : inV (.str k) [.str "minus", .str "plus"] = false := by
        rcases r1 rfl with rfl | rfl <;> decide +kernel
      have z2 : (if false = true then !inV (V.str k) [.str "minus", .str "plus"] else inV (V.str k) [.str "minus", .str "plus"]) = false := by rw [if_neg Bool.false_ne_true, z]
      rw [z2]
      refine iteF ⟨_, rfl, PA, _, rfl, .inr (T.tP _), rfl, flat_strs _, _, rfl, ?_⟩
      rw [inV_str, decide_eq_true p1]
      exact iteF (last _ (Same.new nt))
    · have e2 : decide (V.str d = V.str "right") = false := decide_eq_false (fun z => e (by injection z))
      rw [e2]
      refine iteF ⟨_, rfl, PA, _, rfl, .inr (T.tP _), rfl, flat_strs _, _, rfl, ?_⟩
      rw [inV_str, decide_eq_true p1]
      exact iteF (last _ (Same.refl H))
theorem ok_lInit {f : Addr} {c : Rc} {fd : FuncData} (F : Fun K "__init__" "Let.__init__" sLInit f fd) (L : LetC K c) (cW : Cal P w K mg base CX0 "wrong_word" 1 ["kind", "state", "deed", "place"] spWord) : FnOk P w K mg base CX0 2 f fd ["self", "kind", "state", "deed", "place"] (spLInit c) := by
  obtain ⟨fW, fdW, GW, mW, kW, bW⟩ := cW
  refine F.ok scLInit (fun vs H Q E h => ?_) (fun cdv A outer s H vs Q E hr h => ?_)
  · obtain ⟨x, dx, k, s, d, p, rfl, _⟩ := h
    rfl
  · obtain ⟨x, dx, k, s, d, p, rfl, hx, ok, q⟩ := h
    refine ⟨_, pss_cons (ps_set (i := 5) scLInit.nd rfl (Or.inl rfl) (pe_call GW hr rfl mW kW bW .nil pass0 (pa_cons (pv 1) (pa_cons (pv 2) (pa_cons (pv 3) (pa_cons (pv 4) pa_nil))))))
      (pss_cons (ps_if (pt_cmpR op_notN (pv 5) pe_non (nomark _)) (pss_one ps_never) pss_nil)
      (pss_cons (ps_fld (pv 0) (pv 1) rfl)
      (pss_cons (ps_fld (pv 0) (pv 2) rfl)
      (pss_cons (ps_fld (pv 0) (pv 3) rfl)
      (pss_one (ps_fld (pv 0) (pv 4) rfl)))))), ?_⟩
    refine ⟨_, rfl, _, rfl, _, rfl, _, rfl, k, s, d, p, rfl, ok, fun H1 s1 => ?_⟩
    refine ⟨_, rfl, rfl, _, rfl, iteF ?_⟩
    have hx1 := s1 _ _ hx
    refine ⟨_, rfl, _, rfl, x, c.L, dx, _, rfl, hx1, L.cl, L.k, (by show 0 < 1000; decide), ?_⟩
    refine ⟨_, rfl, _, rfl, x, c.L, dx, _, rfl, upd_same, L.cl, L.s, (by show 1 < 1000; decide), ?_⟩
    rw [upd_upd]
    refine ⟨_, rfl, _, rfl, x, c.L, dx, _, rfl, upd_same, L.cl, L.d, (lt_put (n := 999) (lt_put (n := 998) (by show 0 < 998; decide))), ?_⟩
    rw [upd_upd]
    refine ⟨_, rfl, _, rfl, x, c.L, dx, _, rfl, upd_same, L.cl, L.p, (lt_put (n := 999) (lt_put (n := 998) (lt_put (n := 997) (by show 0 < 997; decide)))), ?_⟩
    rw [upd_upd, let_put]
    exact q _ (SameX.of s1).upd upd_same
theorem ok_lStr {f : Addr} {c : Rc} {fd : FuncData} (F : Fun K "__str__" "Let.__str__" sLStr f fd) (L : LetC K c) : FnOk P w K mg base CX0 1 f fd ["self"] (spRS c 0) := by
  refine F.ok scLStr (fun vs H Q E h => ?_) (fun cdv A outer s H vs Q E hr h => ?_)
  · obtain ⟨x, dx, m, rfl, _⟩ := h
    rfl
  · obtain ⟨x, dx, m, rfl, hx, hk, ok, q⟩ := h
    cases m with
    | ct k w o => cases hk
    | lt k s d p =>
      have l : ∀ z ∈ (Rw.lt k s d p).words, z.length ≤ 6 := fun z hz => (word_ok ok z hz).2
      simp only [Rw.words, List.mem_cons, List.not_mem_nil, or_false, forall_eq_or_imp, forall_eq] at l
      obtain ⟨l1, l2, l3, l4⟩ := l
      have l0 : (Str.empty).length = 0 := rfl
      have lb : (" " : Str).length = 1 := by decide +kernel
      refine ⟨_, (pss_one (ps_ret (pe_joined (.cons (pe_fmt (pe_fld (pv 0) rfl)) (.cons pe_str (.cons (pe_fmt (pe_fld (pv 0) rfl)) (.cons pe_str (.cons (pe_fmt (pe_fld (pv 0) rfl)) (.cons pe_str (.cons (pe_fmt (pe_fld (pv 0) rfl)) .nil)))))))))), ?_⟩
      refine ⟨_, rfl, x, c.L, dx, _, _, rfl, hx, L.cl, L.k, let_kind .., .inl ⟨k, rfl, small (by omega), _, rfl, small (by rw [app_len]; omega), ?_⟩⟩
      refine ⟨_, rfl, small (by simp only [app_len]; omega), ?_⟩
      refine ⟨_, rfl, x, c.L, dx, _, _, rfl, hx, L.cl, L.s, let_state .., .inl ⟨s, rfl, small (by omega), _, rfl, small (by simp only [app_len]; omega), ?_⟩⟩
      refine ⟨_, rfl, small (by simp only [app_len]; omega), ?_⟩
      refine ⟨_, rfl, x, c.L, dx, _, _, rfl, hx, L.cl, L.d, let_deed .., .inl ⟨d, rfl, small (by omega), _, rfl, small (by simp only [app_len]; omega), ?_⟩⟩
      refine ⟨_, rfl, small (by simp only [app_len]; omega), ?_⟩
      refine ⟨_, rfl, x, c.L, dx, _, _, rfl, hx, L.cl, L.p, let_place .., .inl ⟨p, rfl, small (by omega), _, rfl, small (by simp only [app_len]; omega), ?_⟩⟩
      rw [← let_text] at q
      exact q
end
end V3

set_option Elab.async false
set_option linter.all false
set_option maxRecDepth 100000
namespace V3
open PySem L2 TL
abbrev sRows : Stmt := top 59
section
variable {X : Cx} {e : Expr} {o : Expr} {to te : TE}
def rJoinK (K : PySem.W.Frag) : V → List V → Hp → VK → Prop := fun x xs H Q => ∃ a p, ∃ ys : List Str, x = .str a ∧ xs = [.ref p] ∧ (SqL K H p (ys.map V.str) ∨ SqT K H p (ys.map V.str)) ∧
  (ys.map (·.length)).sum + ys.length * a.length ≤ 16777216 ∧ Q (.str (Txt.join a ys)) H
/-- the same rules, K said -/
theorem pe_joinK {K : PySem.W.Frag} {apos pos : Pos} (ho : PE X o to) (he : PE X e te) (hK : X.K = K := by rfl) (hs : starEach [e] X.env = [(false, eval e X.env)] := by rfl) (hbase : attributeBase o "join" X.env (eval o X.env) = eval o X.env := by rfl) (hline : (apos.endLine == pos.line) = true := by rfl) :
    PE X (.Call (.Attribute o "join" apos) [e] [] pos) (tM1 (rJoinK K) to te) := by
  subst hK
  exact pe_join ho he hs hbase hline
theorem pe_ixT {K : PySem.W.Frag} {a b : Expr} {ta tb : TE} {pos : Pos} (ha : PE X a ta) (hb : PE X b tb) (hs : PlainIx b) (hK : X.K = K := by rfl) : PE X (.Subscript a b pos) (tOp (rIxT K) ta tb) := by
  subst hK
  exact pe_ix ix_tup ha hb hs
theorem pe_ixL {K : PySem.W.Frag} {a b : Expr} {ta tb : TE} {pos : Pos} (ha : PE X a ta) (hb : PE X b tb) (hs : PlainIx b) (hK : X.K = K := by rfl) : PE X (.Subscript a b pos) (tOp (rIxL K) ta tb) := by
  subst hK
  exact pe_ix ix_list ha hb hs
end
/-- a list of values that stand for those of another list -/
def Ls {α : Type} (R : V → α → Prop) (vs : List V) (ms : List α) : Prop := vs.length = ms.length ∧ ∀ (i : Nat) (m : α), ms[i]? = some m → ∃ v, vs[i]? = some v ∧ R v m
theorem Ls.nil {α : Type} {R : V → α → Prop} : Ls R [] [] := ⟨rfl, fun i m h => by simp at h⟩
theorem Ls.imp {α : Type} {R R' : V → α → Prop} {vs : List V} {ms : List α} (d : Ls R vs ms) (h : ∀ v m, R v m → R' v m) : Ls R' vs ms := ⟨d.1, fun i m e => by
  obtain ⟨v, e', r⟩ := d.2 i m e
  exact ⟨v, e', h _ _ r⟩⟩
theorem Ls.push {α : Type} {R : V → α → Prop} {vs : List V} {ms : List α} {v : V} {m : α} (d : Ls R vs ms) (t : R v m) : Ls R (vs ++ [v]) (ms ++ [m]) := by
  refine ⟨by simp [d.1], fun i n hn => ?_⟩
  rcases at_end hn with ⟨_, q⟩ | ⟨rfl, rfl⟩
  · obtain ⟨w, e, t'⟩ := d.2 i n q
    exact ⟨w, at_old e, t'⟩
  · exact ⟨v, at_new d.1, t⟩
theorem Ls.get {α : Type} {R : V → α → Prop} {vs : List V} {ms : List α} {v : V} {i : Nat} (d : Ls R vs ms) (h : vs[i]? = some v) : ∃ m, ms[i]? = some m ∧ R v m := by
  have l := (List.getElem?_eq_some_iff.mp h).1
  have e := List.getElem?_eq_getElem (l := ms) (i := i) (by rw [← d.1]; exact l)
  obtain ⟨w, q, t⟩ := d.2 i _ e
  rw [h] at q
  injection q with q
  subst q
  exact ⟨_, e, t⟩
theorem Ls.get2 {α : Type} {R : V → α → Prop} {vs : List V} {ms : List α} {v : V} {i : Nat} {m : α} (d : Ls R vs ms) (h : vs[i]? = some v) (hm : ms[i]? = some m) : R v m := by
  obtain ⟨w, q, t⟩ := d.2 i _ hm
  rw [h] at q
  injection q with q
  subst q
  exact t
/-- the tuple of a row -/
def Rw.tupV : Rw → List V
  | .lt k s d p => [.str k, .str s, .str d, .str p]
  | .ct k w o => [.str k, .int w, .str o]
def TpAt (H : Hp) (v : V) (m : Rw) : Prop := ∃ p, v = .ref p ∧ H p = some (.tup m.tupV)
theorem TpAt.keep {H H' : Hp} {v : V} {m : Rw} (h : TpAt H v m) (s : Keep H H') : TpAt H' v m := by
  obtain ⟨p, e, hp⟩ := h
  exact ⟨p, e, s _ _ (fun _ z => by cases z) hp⟩
theorem TpAt.same {H H' : Hp} {v : V} {m : Rw} (h : TpAt H v m) (s : Same H H') : TpAt H' v m := h.keep (Keep.of s)
/-- tuples of rows, each of them a row of a kind -/
def RowLs (kd : Nat) (H : Hp) (vs : List V) (ms : List Rw) : Prop := Ls (fun v m => TpAt H v m ∧ m.ok ∧ m.kind = kd) vs ms
theorem RowLs.keep {kd : Nat} {H H' : Hp} {vs : List V} {ms : List Rw} (d : RowLs kd H vs ms) (s : Keep H H') : RowLs kd H' vs ms := d.imp fun _ _ h => ⟨h.1.keep s, h.2⟩
def spRows : Sp := fun vs H Q _ => ∃ (b : Addr) (u v : Int) (n : Int), vs = [.ref b, .int n] ∧ H b = some (box u v) ∧ BoxOk u v ∧ 0 ≤ n ∧ n ≤ 100 ∧
  ∀ (D : Addr) (xs : List V) (ms : List Rw) (H' : Hp), Pre b H H' → H' D = some (.lst xs) → D ≠ b → (∀ c o, c ≠ b → H c = some o → c ≠ D) → RowLs 0 H' xs ms → (ms.length : Int) = n → Q (.ref D) H'
def spLetOf (c : Rc) : Sp := fun vs H Q _ => ∃ (v : V) (m : Rw), vs = [v] ∧ TpAt H v m ∧ m.ok ∧ m.kind = 0 ∧ ∀ (x : V) (H' : Hp), Same H H' → RwAt c H' x m → Q x H'
structure MkR (P : Program) (w : World) (K : PySem.W.Frag) (mg : Str → Option Value) (base : Heap) (name : Str) (ps : List Str) (C : Addr) (k : Nat) (spI : Sp) : Prop where
  g : mg name = some (.ref C)
  ini : ∃ (f : Addr) (fd : FuncData), FnOk P w K mg base CX0 k f fd ps spI ∧ Mk K C f ∧ Binds K fd ps []
structure BltG (mg : Str → Option Value) : Prop where
  range : mg "range" = none
  str : mg "str" = none
theorem mk_let {c : Rc} {x dx : Addr} {H : Hp} {k s d p : Str} {R : VK} {E : XK} (ok : (Rw.lt k s d p).ok) (nx : H x = none) (ndx : H dx = none) (q : ∀ H', Same H H' → RwAt c H' (.ref x) (.lt k s d p) → R .non H') :
    spLInit c [.ref x, .str k, .str s, .str d, .str p] (upd (upd H dx (.own x)) x (.ins c.L dx [])) R E :=
  ⟨x, dx, k, s, d, p, rfl, upd_same, ok, fun H' s' hx => q H' (fun a o e => s' a o (ne_of_none e nx) (made_same nx ndx a o e)) ⟨x, dx, rfl, hx⟩⟩
theorem oneOf_at {K : PySem.W.Frag} {b l : Addr} {u v : Int} {H : Hp} {xs : List V} {Q : VK} (hb : H b = some (box u v)) (ok : BoxOk u v) (ne : l ≠ b) (hl : H l = some (.lst xs)) (h1 : 1 ≤ xs.length) (h2 : xs.length ≤ 1000)
    (k : ∀ x H', x ∈ xs → Pre b H H' → Q x H') : spOneOf K [.ref b, .ref l] H Q E :=
  ⟨b, l, u, v, xs, rfl, hb, ok, ne, SqL.of hl, h1, h2, fun x _ _ hx ok' => k x _ hx (Pre.box ok')⟩
theorem oneOf_new {K : PySem.W.Frag} {b l : Addr} {u v : Int} {H : Hp} {xs : List V} {Q : VK} (hb : H b = some (box u v)) (ok : BoxOk u v) (nl : H l = none) (h1 : 1 ≤ xs.length) (h2 : xs.length ≤ 1000)
    (k : ∀ x H', x ∈ xs → Pre b H H' → Q x H') : spOneOf K [.ref b, .ref l] (upd H l (.lst xs)) Q E0 := by
  have nbl : b ≠ l := ne_of_none hb nl
  refine oneOf_at (by rw [upd_ne nbl]; exact hb) ok (Ne.symm nbl) upd_same h1 h2 fun x H' hx p => k x H' hx ⟨fun c o n e => p.1 c o n (by rw [upd_ne (ne_of_none e nl)]; exact e), p.2⟩
section
variable {P : Program} {w : World} {K : PySem.W.Frag} {mg : Str → Option Value} {base : Heap}
abbrev CalOne (P : Program) (w : World) (K : PySem.W.Frag) (mg : Str → Option Value) (base : Heap) : Prop := Cal P w K mg base CX0 "_law_one_of" 2 ["_law_box", "_law_some"] (spOneOf K)
theorem scRows : FnScope ["_law_box", "_law_many", "_law_found", "_law_turn", "_law_kind_here", "_law_deeds", "_law_state"] ["_law_box", "_law_many"] (defScope sRows) := ⟨rfl, rfl, rfl, by decide +kernel, rfl, by decide +kernel, by decide +kernel⟩
theorem ok_rows {f : Addr} {fd : FuncData} (F : Fun K "_law_rows" "_law_rows" sRows f fd) (T : BltG mg) (cO : CalOne P w K mg base) : FnOk P w K mg base CX0 3 f fd ["_law_box", "_law_many"] spRows := by
  obtain ⟨fO, fdO, GO, mO, kO, bO⟩ := cO
  refine F.ok scRows (fun vs H Q E h => ?_) (fun cdv A outer s H vs Q E hr h => ?_)
  · obtain ⟨b, u, v, n, rfl, _⟩ := h
    rfl
  · obtain ⟨b, u, v, n, rfl, hb, bk, n0, n1, k⟩ := h
    refine ⟨_, pss_cons (ps_set (i := 2) scRows.nd rfl (Or.inl rfl) (pe_lst pa_nil))
      (pss_cons (ps_for PassesOwn.never rfl (pi_range1 (by rfl) T.range (pa_cons (pv 1) pa_nil)) (pg_name (i := 3) scRows.nd rfl (Or.inl rfl))
      (pss_cons (ps_set (i := 4) scRows.nd rfl (Or.inl rfl) (pe_call GO hr rfl mO kO bO .nil pass0 (pa_cons (pv 0) (pa_cons (pe_lst (pa_cons pe_str (pa_cons pe_str (pa_cons pe_str (pa_cons pe_str (pa_cons pe_str (pa_cons pe_str pa_nil))))))) pa_nil))))
      (pss_cons (ps_set (i := 5) scRows.nd rfl (Or.inl rfl) (pe_ifExp (pt_cmpR op_in_seq (pv 4) (pe_tup (pa_cons pe_str (pa_cons pe_str pa_nil))) rfl) (pe_lst (pa_cons pe_str (pa_cons pe_str pa_nil))) (pe_lst (pa_cons pe_str (pa_cons pe_str (pa_cons pe_str pa_nil))))))
      (pss_cons (ps_set (i := 6) scRows.nd rfl (Or.inl rfl) (pe_call GO hr rfl mO kO bO .nil pass0 (pa_cons (pv 0) (pa_cons (pe_lst (pa_cons pe_str (pa_cons pe_str (pa_cons pe_str pa_nil)))) pa_nil))))
      (pss_one (ps_expr (pe_bm PySem.F.plainAttrs_list PySem.F.slot_list_append PySem.F.type_list_append mt_append (pv 2) (pa_cons (pe_tup (pa_cons (pv 4) (pa_cons (pv 6) (pa_cons (pe_call GO hr rfl mO kO bO .nil pass0 (pa_cons (pv 0) (pa_cons (pv 5) pa_nil))) (pa_cons (pe_call GO hr rfl mO kO bO .nil pass0 (pa_cons (pv 0) (pa_cons (pe_lst (pa_cons pe_str (pa_cons pe_str (pa_cons pe_str (pa_cons pe_str pa_nil))))) pa_nil))) pa_nil))))) pa_nil))))))))
      (pss_one (ps_ret (pv 2)))), ?_⟩
    refine ⟨(by show 0 ≤ sizeLine; decide), fun D nD => ?_⟩
    have nbD : b ≠ D := ne_of_none hb nD
    have nD0 : ∀ c o, c ≠ b → H c = some o → c ≠ D := fun c o _ e => ne_of_none e nD
    refine ⟨_, rfl, n, rfl, by omega, by omega, for_range (lo := 0) (n := n.toNat) (fun i σ H' => (∃ o3 o4 o5 o6 : Option V, σ = [some (.ref b), some (.int n), some (.ref D), o3, o4, o5, o6]) ∧ ∃ xs ms, Pre b H H' ∧ H' D = some (.lst xs) ∧ RowLs 0 H' xs ms ∧ ms.length = i) ?_ ?_ ?_⟩
    · exact ⟨⟨_, _, _, _, rfl⟩, [], [], ⟨SameX.of (Same.new nD), u, v, bk, by rw [upd_ne nbD]; exact hb⟩, upd_same, Ls.nil, rfl⟩
    · rintro i σ H0 hi ⟨⟨o3, o4, o5, o6, rfl⟩, xs, ms, p0, hD, rl, lm⟩
      obtain ⟨_, u0, v0, bk0, hb0⟩ := id p0
      refine ⟨_, rfl, (by show 6 ≤ sizeLine; decide), fun l1 n1 => oneOf_new hb0 bk0 n1 (by decide) (by decide) fun x1 H1 i1 p1 => ?_⟩
      have hx1 : ∃ k, x1 = .str k ∧ k ∈ kindL := by
        simp only [List.mem_cons, List.not_mem_nil, or_false] at i1
        rcases i1 with rfl | rfl | rfl | rfl | rfl | rfl <;> exact ⟨_, rfl, by decide +kernel⟩
      obtain ⟨kd, rfl, hk⟩ := hx1
      obtain ⟨_, u1, v1, bk1, hb1⟩ := id p1
      refine ⟨_, rfl, (by show 2 ≤ sizeLine; decide), fun t1 nt1 => ⟨t1, _, rfl, .inr (SqT.of upd_same), rfl, rfl, _, rfl, ?_⟩⟩
      have p2 : Pre b H1 (upd H1 t1 (.tup [.str "minus", .str "plus"])) := ⟨SameX.of (Same.new nt1), u1, v1, bk1, by rw [upd_ne (ne_of_none hb1 nt1)]; exact hb1⟩
      generalize upd H1 t1 (.tup [.str "minus", .str "plus"]) = H2 at p2
      obtain ⟨_, u2, v2, bk2, hb2⟩ := id p2
      have e0 : (if false = true then !inV (V.str kd) [.str "minus", .str "plus"] else inV (V.str kd) [.str "minus", .str "plus"]) = inV (V.str kd) [.str "minus", .str "plus"] := if_neg Bool.false_ne_true
      rw [e0]
      refine ite2 (fun c => ⟨(by show 2 ≤ sizeLine; decide), fun l2 n2 => ?wayA⟩) (fun c => ⟨(by show 3 ≤ sizeLine; decide), fun l2 n2 => ?wayB⟩)
      case' wayA =>
        have dl : ∀ z ∈ [V.str "whole", .str "part"], ∃ d, z = .str d ∧ d ∈ deedL ∧ (d = "right" → kd = "first" ∨ kd = "new") := by
          intro z hz
          simp only [List.mem_cons, List.not_mem_nil, or_false] at hz
          rcases hz with rfl | rfl
          · exact ⟨_, rfl, by decide +kernel, fun e => absurd e (by decide +kernel)⟩
          · exact ⟨_, rfl, by decide +kernel, fun e => absurd e (by decide +kernel)⟩
        have ll : 1 ≤ [V.str "whole", .str "part"].length ∧ [V.str "whole", .str "part"].length ≤ 1000 := by decide
        generalize [V.str "whole", .str "part"] = deeds at dl ll
      case' wayB =>
        have kf : kd = "first" ∨ kd = "new" := by
          have q : ∀ z ∈ kindL, inV (.str z) [.str "minus", .str "plus"] = false → z = "first" ∨ z = "new" := by decide +kernel
          exact q kd hk (Bool.eq_false_iff.mpr c)
        have dl : ∀ z ∈ [V.str "whole", .str "part", .str "right"], ∃ d, z = .str d ∧ d ∈ deedL ∧ (d = "right" → kd = "first" ∨ kd = "new") := by
          intro z hz
          simp only [List.mem_cons, List.not_mem_nil, or_false] at hz
          rcases hz with rfl | rfl | rfl <;> exact ⟨_, rfl, by decide +kernel, fun _ => kf⟩
        have ll : 1 ≤ [V.str "whole", .str "part", .str "right"].length ∧ [V.str "whole", .str "part", .str "right"].length ≤ 1000 := by decide
        generalize [V.str "whole", .str "part", .str "right"] = deeds at dl ll
      all_goals
        have p3 : Pre b H2 (upd H2 l2 (.lst deeds)) := ⟨SameX.of (Same.new n2), u2, v2, bk2, by rw [upd_ne (ne_of_none hb2 n2)]; exact hb2⟩
        have hl2 : upd H2 l2 (.lst deeds) l2 = some (.lst deeds) := upd_same
        have nlb : l2 ≠ b := Ne.symm (ne_of_none hb2 n2)
        have nlD : D ≠ l2 := ne_of_none ((p1.trans p2).1 D _ (Ne.symm nbD) hD) n2
        generalize upd H2 l2 (.lst deeds) = H3 at p3 hl2
        obtain ⟨_, u3, v3, bk3, hb3⟩ := id p3
        refine ⟨_, rfl, (by show 3 ≤ sizeLine; decide), fun l4 n4 => oneOf_new hb3 bk3 n4 (by decide) (by decide) fun x4 H4 i4 p4 => ?_⟩
        have hx4 : ∃ s, x4 = .str s ∧ s ∈ stateL := by
          simp only [List.mem_cons, List.not_mem_nil, or_false] at i4
          rcases i4 with rfl | rfl | rfl <;> exact ⟨_, rfl, by decide +kernel⟩
        obtain ⟨st, rfl, hs⟩ := hx4
        obtain ⟨_, u4, v4, bk4, hb4⟩ := id p4
        have pD4 : Pre b H0 H4 := ((p1.trans p2).trans p3).trans p4
        have hD4 := pD4.1 D _ (Ne.symm nbD) hD
        refine ⟨_, rfl, .inl ⟨rfl, _, SqL.of hD4⟩, _, rfl, _, rfl, _, rfl, _, rfl, ?_⟩
        dsimp only [tNil]
        refine oneOf_at hb4 bk4 nlb (p4.1 _ _ nlb hl2) ll.1 ll.2 fun x5 H5 i5 p5 => ?_
        obtain ⟨dd, rfl, hd, hdr⟩ := dl _ i5
        obtain ⟨_, u5, v5, bk5, hb5⟩ := id p5
        refine ⟨_, rfl, (by show 4 ≤ sizeLine; decide), fun l6 n6 => ?_⟩
        dsimp only [tNil]
        refine oneOf_new hb5 bk5 n6 (by decide) (by decide) fun x6 H6 i6 p6 => ?_
        have hx6 : ∃ s, x6 = .str s ∧ s ∈ placeL := by
          simp only [List.mem_cons, List.not_mem_nil, or_false] at i6
          rcases i6 with rfl | rfl | rfl | rfl <;> exact ⟨_, rfl, by decide +kernel⟩
        obtain ⟨pl, rfl, hp⟩ := hx6
        refine ⟨(by show 4 ≤ sizeLine; decide), fun t7 n7 => ?_⟩
        have p7 : Pre b H0 (upd H6 t7 (.tup [.str kd, .str st, .str dd, .str pl])) := ((pD4.trans p5).trans p6).then (Same.new n7)
        have t7a : TpAt (upd H6 t7 (.tup [.str kd, .str st, .str dd, .str pl])) (.ref t7) (.lt kd st dd pl) := ⟨t7, rfl, upd_same⟩
        generalize upd H6 t7 (.tup [.str kd, .str st, .str dd, .str pl]) = H7 at p7 t7a
        have hD7 := p7.1 D _ (Ne.symm nbD) hD
        have pA := p0.trans p7
        obtain ⟨sa, ua, va, bka, hba⟩ := id pA
        refine ⟨D, xs, _, rfl, rfl, hD7, small1000 (by rw [rl.1]; omega), ⟨_, _, _, _, rfl⟩, xs ++ [.ref t7], ms ++ [.lt kd st dd pl], ⟨fun c o n e => by rw [upd_ne (nD0 c o n e)]; exact sa c o n e, ua, va, bka, by rw [upd_ne nbD]; exact hba⟩, upd_same, ?_, by simp [lm]⟩
        exact RowLs.keep (kd := 0) (Ls.push (rl.keep (Keep.pre hb0 p7.1)) ⟨t7a, ⟨hk, hs, hd, hp, hdr⟩, rfl⟩) (Keep.lst hD7)
    · rintro σ H' ⟨⟨o3, o4, o5, o6, rfl⟩, xs, ms, p0, hD, rl, lm⟩
      exact ⟨_, rfl, k D xs ms H' p0 hD (Ne.symm nbD) nD0 rl (by rw [lm]; omega)⟩
end
end V3

set_option Elab.async false
set_option linter.all false
set_option maxRecDepth 100000
namespace V3
open PySem PySem.Spec PyProof.Rows L2
/-! enumerate over a tuple -/
set_option maxHeartbeats 1000000 in
theorem new_enumT (a : Addr) (its : Array Value) :
    Meets (Builtin.«enumerate.__new__» ⟨[.type "enumerate", .ref a], []⟩) (fun _ R s => s.heap.IsTuple a its ∧
      R (.ok (.ret (.ref (s.heap.push { cls := .type "tuple_iterator", data := .fields #[.ref a, .int 0 0] }).objs.size)))
        { s with heap := (s.heap.push { cls := .type "tuple_iterator", data := .fields #[.ref a, .int 0 0] }).push { cls := .type "enumerate", data := .fields #[.none, .bool false, .ref s.heap.objs.size, rawInt 0, .none, .none] } }) :=
  .of_wp fun prog w A R s h => by
    obtain ⟨hp, g, d, tk, os⟩ := s
    obtain ⟨h1, h⟩ := h
    have sb := sub_enumerate
    have q1 : ∀ {A' : Around} {E : Value → Shared → Prop} {Q : Value → Shared → Prop}, Q (.ref hp.objs.size) ⟨hp.push { cls := .type "tuple_iterator", data := .fields #[.ref a, .int 0 0] }, g, d, tk, os⟩ → wpAny (model prog w) A' (pyIter (.ref a)) Q E ⟨hp, g, d, tk, os⟩ :=
      fun q => (begins_tuple a its).iter prog w _ _ ⟨hp, g, d, tk, os⟩ _ h1 q
    wp_walk using q1
    refine wpAny_stack_any fun st => wpAny_pure ?_
    split
    · rename_i c _ _ _ _ _
      cases (c == Value.type "enumerate") <;> (wp_walk using q1; exact ⟨_, rfl, h⟩)
    · wp_walk using q1
      exact ⟨_, rfl, h⟩
theorem call_enumT {prog : Program} {w : World} {A : Around} {E : Value → Shared → Prop} {s : Shared} {a : Addr} {its : Array Value} {Q : Value → Shared → Prop} (ha : s.heap.IsTuple a its)
    (k : ∀ h', IsEnum h' (s.heap.objs.size + 1) s.heap.objs.size 0 .none → h'.IsTupleIter s.heap.objs.size a 0 → (∀ b o, s.heap.get? b = some o → h'.get? b = some o) → Q (.ref (s.heap.objs.size + 1)) { s with heap := h' }) :
    wpAny (model prog w) A (call (.type "enumerate") [.ref a]) Q E s := by
  refine callType_new F.called_enumerate (by decide) (F.typeCall_enumerate_1 _) (F.newCall_enumerate_1 _) (fun obj => F.args_object_init_2 obj _) F.entry_enumerate_new (new_enumT a its) ⟨ha, ?_⟩
  have sz : (s.heap.push { cls := .type "tuple_iterator", data := .fields #[.ref a, .int 0 0] }).objs.size = s.heap.objs.size + 1 := Heap.size_push ..
  show _ ∧ _
  rw [sz]
  have e1 : IsEnum ((s.heap.push { cls := .type "tuple_iterator", data := .fields #[.ref a, .int 0 0] }).push { cls := .type "enumerate", data := .fields #[.none, .bool false, .ref s.heap.objs.size, rawInt 0, .none, .none] }) (s.heap.objs.size + 1) s.heap.objs.size 0 .none := by
    have z := Heap.get?_push_size (s.heap.push { cls := .type "tuple_iterator", data := .fields #[.ref a, .int 0 0] }) (o := { cls := .type "enumerate", data := .fields #[.none, .bool false, .ref s.heap.objs.size, rawInt 0, .none, .none] }) rfl
    rw [sz] at z
    exact z
  exact ⟨⟨_, e1, rfl⟩, k _ e1 ⟨_, Heap.get?_push_of_some _ (Heap.get?_push_size _ rfl), rfl, rfl⟩ fun b o x => Heap.get?_push_of_some _ (Heap.get?_push_of_some _ x)⟩
/-- the tuple at a, each item in a new pair with its number -/
def Iet (K : PySem.W.Frag) (a : Addr) : It :=
  ⟨fun i H => ∃ xs x, SqT K H a xs ∧ xs[i]? = some x, fun i H v H' => ∃ T x, v = .ref T ∧ H T = none ∧ H' = upd H T (.tup [.int (i : Nat), x]) ∧ ∀ xs, SqT K H a xs → xs[i]? = some x, fun i H => ∃ xs, SqT K H a xs ∧ xs.length = i⟩
theorem turn_enumT {P : Program} {w : World} {K : PySem.W.Frag} {elts : List Expr} {kk : Nat} {tpos : Pos} (a e it : Addr) :
    Turn P w K (.Tuple elts kk tpos) (Iet K a) [e, it] e (fun i h => (∃ old, IsEnum h e it ((i : Nat) : Int) old) ∧ h.IsTupleIter it a i ∧ e ≠ it ∧ a ≠ it ∧ e ≠ a) where
  mem := by simp
  obj := fun i h st b hb => by
    obtain ⟨⟨old, g1⟩, ⟨o, ho, hc, hd⟩, _⟩ := st
    have z0 : b = e ∨ b = it := by simpa using hb
    rcases z0 with z | z
    · rw [z]
      exact ⟨_, g1, fun v q => nomatch q⟩
    · rw [z]
      exact ⟨o, ho, fun v q => by rw [hd] at q; cases q⟩
  keep := fun i h h' st k => let ⟨⟨old, g1⟩, g2, g3⟩ := st; ⟨⟨old, k e (by simp) _ g1⟩, g2.at fun o q => k it (by simp) o q, g3⟩
  item := by
    intro X hP hw hK hc i pins s σ H E I hf st hg
    subst hP hw hK
    obtain ⟨⟨old, g1⟩, g2, n1, n2, n3⟩ := st
    obtain ⟨xs, x, hq, hx⟩ := hg
    obtain ⟨its, rv, p, hz⟩ := I.tuple hq
    obtain ⟨u, hu, ru⟩ := rv.get hx
    have el : e < s.heap.objs.size := Heap.lt_size g1
    have il : it < s.heap.objs.size := by
      obtain ⟨_, q, _⟩ := g2
      exact Heap.lt_size q
    have lt : i < its.toArray.size := by
      have z := (List.getElem?_eq_some_iff.mp hu).1
      simpa using z
    refine wpAny_pyNext_enum_itemD (Draws.tuple (A := X.A.in1) (show X.A.in1.handled = none from I.ok.hd hc) it a n2 its.toArray) g1 ⟨g2, p⟩ lt n1 (by simp only [List.mem_cons, List.not_mem_nil, or_false, not_or]; exact ⟨n1, n3⟩) fun y h' tk hP ho st' hT hsz hk => ?_
    obtain rfl : y = u := by
      have z : its.toArray[i]? = some y := hP
      have z2 : its.toArray[i]? = some u := by simpa using hu
      rw [z2] at z
      exact (Option.some.inj z).symm
    refine ⟨_, rfl, wpAny_letOwnedTupleGo_enum (s := { s with heap := h', toks := tk + 1 }) ho fun h'' g1' sb => ?_⟩
    have T2 : h''.get? s.heap.objs.size = some { cls := .type "tuple", data := .seq #[.int i tk, y] } := (sb.2 _ (Nat.ne_of_gt el)).trans hT
    have new : ObjOk X.prog X.w (upd H s.heap.objs.size (.tup [.int (i : Nat), x])) h'' s.heap.objs.size (.tup [.int (i : Nat), x]) :=
      ⟨by show 2 ≤ sizeLine; decide, [.int i tk, y], .cons ⟨_, rfl⟩ (.cons ru .nil), ⟨_, T2, rfl, _, rfl⟩⟩
    have J : Inv X pins σ (upd H s.heap.objs.size (.tup [.int (i : Nat), x])) { s with heap := h'', toks := tk + 1 } :=
      I.turnedNew (ch := [e, it]) (fun b ob hb q => (sb.2 b (fun z => hb (by simp [z]))).trans (hk b ob (fun z => hb (by simp [z])) (fun z => hb (by simp [z])) q)) hf (Nat.le_refl _) new
    refine ⟨.ref s.heap.objs.size, _, J, rfl, ⟨_, x, rfl, I.hok.fresh (Nat.le_refl _), rfl, fun ys hy => by rw [I.tuple_inj hy hq]; exact hx⟩, ⟨⟨y, ?_⟩, st'.1.at fun o q => (sb.2 it (Ne.symm n1)).trans q, n1, n2, n3⟩, fun b hb => ?_⟩
    · have e1 : ((i + 1 : Nat) : Int) = (i : Int) + 1 := by omega
      rw [e1]
      exact g1'
    · have lb : b < s.heap.objs.size := by
        have z0 : b = e ∨ b = it := by simpa using hb
        rcases z0 with z | z
        · rw [z]
          exact el
        · rw [z]
          exact il
      rw [upd_ne (Nat.ne_of_lt lb)]
      exact (hf b hb).1
  done := by
    intro X hP hw hK hc i pins s σ H E I hf st hg
    subst hP hw hK
    obtain ⟨⟨old, g1⟩, g2, n1, n2, n3⟩ := st
    obtain ⟨xs, hq, hx⟩ := hg
    obtain ⟨its, rv, p, hz⟩ := I.tuple hq
    obtain ⟨f0, f1, f2, f3, f4, f5⟩ := hf it (by simp)
    have ei : i = its.toArray.size := by
      have z := rv.length
      simp only [List.size_toArray]
      omega
    exact wpAny_pyNext_enum_endD (Draws.tuple (A := X.A.in1) (show X.A.in1.handled = none from I.ok.hd hc) it a n2 its.toArray) g1 (by rw [← ei]; exact ⟨g2, p⟩) fun h' eb => ⟨rfl, I.turned (t' := s.toks) (fun b o hb q => eb b o hb q) f0 f1 f3 f4 f5⟩
  self := fun A i s Q E st h => let ⟨⟨_, g1⟩, _⟩ := st; wpAny_pyIter_enum g1 h
def iEnumT (K : PySem.W.Frag) (ta : TA) : TI := fun σ H R => ta σ H fun vs H1 => ∃ a xs, vs = [.ref a] ∧ SqT K H1 a xs ∧ R (Iet K a) H1
theorem pi_enumT {X : Cx} {e : Expr} {ta : TA} {p pos tpos : Pos} {elts : List Expr} {kk : Nat} (hg : Gl X "enumerate") (hm : X.mg "enumerate" = none) (ha : PA X [e] ta) (hs : starEach [e] X.env = [(false, eval e X.env)] := by rfl) :
    PI X (.Tuple elts kk tpos) (.Call (.Name "enumerate" p) [e] [] pos) (iEnumT X.K ta) := by
  refine ⟨fun pins s σ H R I h => ?_⟩
  refine Call_ (ld_blt I hg hm boot_enumerate (PyProof.Rows.callWith_type1 (thn (ha.run pos pins s σ H _ I h) fun us s1 ⟨vs, H1, I1, r1, a, xs, ex, hq, q⟩ => ?_) hs rfl))
  subst ex
  cases r1 with
  | cons r rr =>
    cases rr
    cases r
    obtain ⟨its, rv, p', hz⟩ := I1.tuple hq
    have al : a < s1.heap.objs.size := IsTup.lt p'
    refine call_enumT (its := its.toArray) p' fun h' he hit hk => wpAny_pyIter_enum he ?_
    have I2 : Inv X pins σ H1 { s1 with heap := h' } := I1.kept (t' := s1.toks) hk
    refine ⟨s1.heap.objs.size + 1, [s1.heap.objs.size + 1, s1.heap.objs.size], _, _, H1, rfl, I2, turn_enumT a (s1.heap.objs.size + 1) s1.heap.objs.size, ⟨⟨.none, he⟩, hit, Nat.succ_ne_self _, Nat.ne_of_lt al, Nat.ne_of_gt (Nat.lt_succ_of_lt al)⟩, fun b hb => ?_, q⟩
    have z0 : b = s1.heap.objs.size + 1 ∨ b = s1.heap.objs.size := by simpa using hb
    have le : s1.heap.objs.size ≤ b := by
      rcases z0 with z | z
      · rw [z]
        exact Nat.le_add_right _ _
      · rw [z]
        exact Nat.le_refl _
    exact I1.fpOk le (I1.hok.fresh le)
theorem walk_enumT {K : PySem.W.Frag} {a : Addr} {xs : List V} : Walk (Iet K a) xs.length (fun H => SqT K H a xs) (YPair (fun i => some (.int (i : Nat))) (fun i => xs[i]?)) := by
  refine ⟨fun i _ hi q => ⟨xs, xs[i], q, by simp [hi]⟩, fun _ q => ⟨xs, q, rfl⟩, fun i H v H' _ q y => ?_⟩
  obtain ⟨T, x, h1, h2, h3, h4⟩ := y
  exact ⟨T, .int (i : Nat), x, h1, h2, h3, rfl, h4 xs q⟩
end V3

set_option Elab.async false
set_option linter.all false
set_option maxRecDepth 100000
/-! readings that leave all as it was, from a heap on: what they answer, by classes of stable things -/
namespace V3
open PySem L2 TL
class St (R : V → Hp → Prop) : Prop where
  st : ∀ v H H', Same H H' → R v H → R v H'
/-- all but the lists may go on -/
class StL (R : V → Hp → Prop) : Prop where
  st : ∀ v H H', Keep H H' → R v H → R v H'
instance {R : V → Hp → Prop} [i : StL R] : St R := ⟨fun v H H' s h => i.st v H H' (Keep.of s) h⟩
theorem upL {R : V → Hp → Prop} [i : StL R] {v : V} {H H' : Hp} (s : Keep H H') (h : R v H) : R v H' := i.st _ _ _ s h
class StA (R : List V → Hp → Prop) : Prop where
  st : ∀ v H H', Same H H' → R v H → R v H'
theorem up {R : V → Hp → Prop} [i : St R] {v : V} {H H' : Hp} (s : Same H H') (h : R v H) : R v H' := i.st _ _ _ s h
theorem stv {R : V → Hp → Prop} [i : St R] : StV R := i.st
instance {i : Int} : StL (isIv i) := ⟨fun _ _ _ _ h => h⟩
instance {i : Str} : StL (isSv i) := ⟨fun _ _ _ _ h => h⟩
instance {i : Bool} : StL (isBv i) := ⟨fun _ _ _ _ h => h⟩
instance {u : V} : StL (isVv u) := ⟨fun _ _ _ _ h => h⟩
/-- a tracked list, a tracked tuple of such things -/
def isL {α : Type} (S : α → V → Hp → Prop) (as : List α) : V → Hp → Prop := fun v H => ∃ D us, v = .ref D ∧ H D = some (.lst us) ∧ Ls (fun u a => S a u H) us as
def isU {α : Type} (S : α → V → Hp → Prop) (as : List α) : V → Hp → Prop := fun v H => ∃ D us, v = .ref D ∧ H D = some (.tup us) ∧ Ls (fun u a => S a u H) us as
instance {α : Type} {S : α → V → Hp → Prop} {as : List α} [∀ a, St (S a)] : St (isL S as) := ⟨fun _ _ _ s ⟨D, us, e, h, l⟩ => ⟨D, us, e, s _ _ h, l.imp fun _ _ r => up s r⟩⟩
instance {α : Type} {S : α → V → Hp → Prop} {as : List α} [∀ a, St (S a)] : St (isU S as) := ⟨fun _ _ _ s ⟨D, us, e, h, l⟩ => ⟨D, us, e, s _ _ h, l.imp fun _ _ r => up s r⟩⟩
instance {α : Type} {S : α → V → Hp → Prop} {as : List α} [∀ a, StL (S a)] : StL (isU S as) := ⟨fun _ _ _ s ⟨D, us, e, h, l⟩ => ⟨D, us, e, s _ _ (fun _ z => by cases z) h, l.imp fun _ _ r => upL s r⟩⟩
theorem Ls.upL {α : Type} {S : α → V → Hp → Prop} [∀ a, StL (S a)] {us : List V} {as : List α} {H H' : Hp} (l : Ls (fun u a => S a u H) us as) (s : Keep H H') : Ls (fun u a => S a u H') us as := l.imp fun _ _ r => V3.upL s r
theorem Ls.up {α : Type} {S : α → V → Hp → Prop} [∀ a, St (S a)] {us : List V} {as : List α} {H H' : Hp} (l : Ls (fun u a => S a u H) us as) (s : Same H H') : Ls (fun u a => S a u H') us as := l.imp fun _ _ r => V3.up s r
abbrev isIs : List Int → V → Hp → Prop := isL isIv
abbrev isSs : List Str → V → Hp → Prop := isL isSv
abbrev isBs : List Bool → V → Hp → Prop := isL isBv
/-- arguments -/
def A0 : List V → Hp → Prop := fun vs _ => vs = []
def AC (R : V → Hp → Prop) (Rs : List V → Hp → Prop) : List V → Hp → Prop := fun vs H => ∃ v r, vs = v :: r ∧ R v H ∧ Rs r H
instance : StA A0 := ⟨fun _ _ _ _ h => h⟩
instance {R : V → Hp → Prop} {Rs : List V → Hp → Prop} [St R] [i : StA Rs] : StA (AC R Rs) := ⟨fun _ _ _ s ⟨v, r, e, h, t⟩ => ⟨v, r, e, up s h, i.st _ _ _ s t⟩⟩
def EvA (W : Hp → Prop) (σ : L2.St) (ta : TA) (Rs : List V → Hp → Prop) : Prop := ∀ H Q, W H → (∀ vs H', Same H H' → W H' → Rs vs H' → Q vs H') → ta σ H Q
section
variable {σ : L2.St} {ta tb te : TE} {ts : TA} {t u : TT} {H0 : Hp} {R Ra Rb : V → Hp → Prop} {Rs : List V → Hp → Prop}
theorem ev_v [St R] {i : Nat} {v : V} (e : σ[i]? = some (some v)) (h : R v H0) : EvV (Same H0) σ (tVar i) R := ev_var e fun _ s => up s h
theorem eva_nil : EvA (Same H0) σ tNil A0 := fun H Q w k => k [] H (Same.refl H) w rfl
theorem eva_cons [St Ra] (ha : EvV (Same H0) σ ta Ra) (hs : EvA (Same H0) σ ts Rs) : EvA (Same H0) σ (tCons ta ts) (AC Ra Rs) := fun H Q w k =>
  ha H _ w fun x H1 s1 w1 r => hs H1 _ w1 fun xs H2 s2 w2 rs => k (x :: xs) H2 (s1.trans s2) w2 ⟨x, xs, rfl, up s2 r, rs⟩
theorem ev_call {sp : Sp} {dvs : List V} {E : XK} (ha : EvA (Same H0) σ ts Rs) (h : ∀ vs H Q, Same H0 H → Rs vs H → (∀ v H', Same H H' → R v H' → Q v H') → sp (vs ++ dvs) H Q E) : EvV (Same H0) σ (tCall sp dvs E ts) R := fun H Q w k =>
  ha H _ w fun vs H1 s1 w1 r => h vs H1 Q w1 r fun v H' s r' => k v H' (s1.trans s) (w1.trans s) r'
theorem ev_cb {r : List V → Hp → VK → Prop} (ha : EvA (Same H0) σ ts Rs) (h : ∀ vs H Q, Same H0 H → Rs vs H → (∀ v H', Same H H' → R v H' → Q v H') → r vs H Q) : EvV (Same H0) σ (tCB r ts) R := fun H Q w k =>
  ha H _ w fun vs H1 s1 w1 r => h vs H1 Q w1 r fun v H' s r' => k v H' (s1.trans s) (w1.trans s) r'
theorem ev_o {r : R2} [St Ra] (ha : EvV (Same H0) σ ta Ra) (hb : EvV (Same H0) σ tb Rb) (h : ∀ x y H Q, Same H0 H → Ra x H → Rb y H → (∀ v H', Same H H' → R v H' → Q v H') → r x y H Q) : EvV (Same H0) σ (tOp r ta tb) R :=
  ev_op stv ha hb fun x y H Q w a b k => h x y H Q w a b fun v H' s r => k v H' s (w.trans s) r
theorem ev_make {C : Addr} {sp : Sp} {dvs : List V} {E : XK} (ha : EvA (Same H0) σ ts Rs) (h : ∀ vs H x dx (Q : VK), Same H0 H → Rs vs H → H x = none → H dx = none → dx ≠ x → (∀ H', Same H H' → R (.ref x) H' → Q .non H') →
    sp (.ref x :: (vs ++ dvs)) (upd (upd H dx (.own x)) x (.ins C dx [])) Q E) : EvV (Same H0) σ (tMake C sp dvs E ts) R := fun H Q w k =>
  ha H _ w fun vs H1 s1 w1 r x dx nx ndx ne => h vs H1 x dx _ w1 r nx ndx ne fun H' s r' => ⟨rfl, k _ H' (s1.trans s) (w1.trans s) r'⟩
theorem ev_meth {C : Addr} {m : Str} {sp : Sp} {dvs : List V} {E : XK} [St Ra] (hx : EvV (Same H0) σ ta Ra) (ho : ∀ x H, Ra x H → ∃ a dx fs, x = .ref a ∧ H a = some (.ins C dx fs) ∧ fs.lookup m = none) (ha : EvA (Same H0) σ ts Rs)
    (h : ∀ x vs H Q, Same H0 H → Ra x H → Rs vs H → (∀ v H', Same H H' → R v H' → Q v H') → sp (x :: (vs ++ dvs)) H Q E) : EvV (Same H0) σ (tMeth C m sp dvs E ta ts) R := fun H Q w k =>
  hx H _ w fun x H1 s1 w1 rx => by
    obtain ⟨a, dx, fs, e, hh, l⟩ := ho x H1 rx
    exact ⟨a, dx, fs, e, hh, l, ha H1 _ w1 fun vs H2 s2 w2 r => h x vs H2 Q w2 (up s2 rx) r fun v H' s r' => k v H' ((s1.trans s2).trans s) (w2.trans s) r'⟩
theorem ev_fld {K : PySem.W.Frag} {f : Str} (ha : EvV (Same H0) σ ta Ra) (h : ∀ x H, Same H0 H → Ra x H → ∃ a C dx fs v, x = .ref a ∧ H a = some (.ins C dx fs) ∧ Cls K C ∧ NoAttr K C f ∧ fs.lookup f = some v ∧ R v H) : EvV (Same H0) σ (tFld K ta f) R := fun H Q w k =>
  ha H _ w fun x H1 s1 w1 rx => by
    obtain ⟨a, C, dx, fs, v, e, hh, c, n, l, r⟩ := h x H1 w1 rx
    exact ⟨a, C, dx, fs, v, e, hh, c, n, l, k v H1 s1 w1 r⟩
theorem ev_tup [i : StA Rs] (ha : EvA (Same H0) σ ts Rs) (n : ∀ vs H, Rs vs H → vs.length ≤ 1000) : EvV (Same H0) σ (tTup ts) (fun v H => ∃ p xs, v = .ref p ∧ H p = some (.tup xs) ∧ Rs xs H) := fun H Q w k =>
  ha H _ w fun vs H1 s1 w1 r => ⟨Nat.le_trans (n _ _ r) (by decide), fun p np => by
    have s2 : Same H1 (upd H1 p (.tup vs)) := Same.new np
    exact k _ _ (s1.trans s2) (w1.trans s2) ⟨p, vs, rfl, upd_same, i.st _ _ _ s2 r⟩⟩
/-- the arguments of a display, all of a sort -/
def EvL {α : Type} (H0 : Hp) (σ : L2.St) (ts : TA) (S : α → V → Hp → Prop) (as : List α) : Prop := EvA (Same H0) σ ts (fun vs H => Ls (fun u a => S a u H) vs as)
theorem Ls.cons {α : Type} {R : V → α → Prop} {vs : List V} {ms : List α} {v : V} {m : α} (t : R v m) (d : Ls R vs ms) : Ls R (v :: vs) (m :: ms) := by
  refine ⟨by simp [d.1], fun i n hn => ?_⟩
  cases i with
  | zero =>
    have e : m = n := by simpa using hn
    subst e
    exact ⟨v, rfl, t⟩
  | succ i =>
    obtain ⟨w, e, r⟩ := d.2 i n (by simpa using hn)
    exact ⟨w, by simpa using e, r⟩
theorem evl_nil {α : Type} {S : α → V → Hp → Prop} : EvL H0 σ tNil S [] := fun H Q w k => k [] H (Same.refl H) w Ls.nil
theorem evl_cons {α : Type} {S : α → V → Hp → Prop} [∀ a, St (S a)] {a : α} {as : List α} (ha : EvV (Same H0) σ ta (S a)) (hs : EvL H0 σ ts S as) : EvL H0 σ (tCons ta ts) S (a :: as) := fun H Q w k =>
  ha H _ w fun x H1 s1 w1 r => hs H1 _ w1 fun xs H2 s2 w2 rs => k (x :: xs) H2 (s1.trans s2) w2 (Ls.cons (up s2 r) rs)
theorem ev_lst {α : Type} {S : α → V → Hp → Prop} [∀ a, St (S a)] {as : List α} (h : EvL H0 σ ts S as) (n : as.length ≤ 1000) : EvV (Same H0) σ (tLst ts) (isL S as) := fun H Q w k =>
  h H _ w fun vs H1 s1 w1 r => ⟨Nat.le_trans (by rw [r.1]; exact n) (by decide), fun p np => by
    have s2 : Same H1 (upd H1 p (.lst vs)) := Same.new np
    exact k _ _ (s1.trans s2) (w1.trans s2) ⟨p, vs, rfl, upd_same, Ls.up r s2⟩⟩
theorem ev_tupU {α : Type} {S : α → V → Hp → Prop} [∀ a, St (S a)] {as : List α} (h : EvL H0 σ ts S as) (n : as.length ≤ 1000) : EvV (Same H0) σ (tTup ts) (isU S as) := fun H Q w k =>
  h H _ w fun vs H1 s1 w1 r => ⟨Nat.le_trans (by rw [r.1]; exact n) (by decide), fun p np => by
    have s2 : Same H1 (upd H1 p (.tup vs)) := Same.new np
    exact k _ _ (s1.trans s2) (w1.trans s2) ⟨p, vs, rfl, upd_same, Ls.up r s2⟩⟩
/-- tests -/
theorem ev_orB {p q : Bool} (h : EvB (Same H0) σ t p) (h2 : p = false → EvB (Same H0) σ u q) : EvB (Same H0) σ (tOr t u) (p || q) := fun H Q w k =>
  h H _ w fun H1 s1 w1 => by
    cases p with
    | true => exact iteT (k H1 s1 w1)
    | false => exact iteF (h2 rfl H1 _ w1 fun H2 s2 w2 => k H2 (s1.trans s2) w2)
theorem ev_andB {p q : Bool} (h : EvB (Same H0) σ t p) (h2 : p = true → EvB (Same H0) σ u q) : EvB (Same H0) σ (tAnd t u) (p && q) := fun H Q w k =>
  h H _ w fun H1 s1 w1 => by
    cases p with
    | false => exact iteF (k H1 s1 w1)
    | true => exact iteT (h2 rfl H1 _ w1 fun H2 s2 w2 => k H2 (s1.trans s2) w2)
theorem ev_notB {p : Bool} (h : EvB (Same H0) σ t p) : EvB (Same H0) σ (tNot t) (!p) := fun H Q w k => h H _ w k
theorem ev_valB {p : Bool} (h : EvV (Same H0) σ te (isBv p)) : EvB (Same H0) σ (tB te) p := fun H Q w k => h H _ w fun v H' s w' e => ⟨p, e, k H' s w'⟩
theorem ev_if {b : Bool} (c : EvB (Same H0) σ t b) (h1 : b = true → EvV (Same H0) σ ta R) (h2 : b = false → EvV (Same H0) σ tb R) : EvV (Same H0) σ (tIf t ta tb) R := fun H Q w k =>
  c H _ w fun H1 s1 w1 => by
    cases b with
    | true => exact iteT (h1 rfl H1 _ w1 fun v H2 s2 w2 r => k v H2 (s1.trans s2) w2 r)
    | false => exact iteF (h2 rfl H1 _ w1 fun v H2 s2 w2 r => k v H2 (s1.trans s2) w2 r)
/-- an if whose test is known -/
theorem if_f {c : TT} {t u : TS} {D : Ends} {H : Hp} (w : Same H0 H) (h : EvB (Same H0) σ c false) (k : ∀ H', Same H H' → u D σ H') : tIfS c t u D σ H := h H _ w fun H' s _ => iteF (k H' s)
theorem if_t {c : TT} {t u : TS} {D : Ends} {H : Hp} (w : Same H0 H) (h : EvB (Same H0) σ c true) (k : ∀ H', Same H H' → t D σ H') : tIfS c t u D σ H := h H _ w fun H' s _ => iteT (k H' s)
/-- what is walked: item by item something that stands for those of a list -/
def EvI {α : Type} (H0 : Hp) (σ : L2.St) (wi : TI) (as : List α) (S : α → V → Hp → Prop) : Prop := ∀ H (Rk : It → Hp → Prop), Same H0 H → (∀ J H1, Same H H1 → (∃ (G : Hp → Prop) (Y : Nat → Hp → V → Hp → Prop), Walk J as.length G Y ∧ (∀ H2, Same H1 H2 → G H2) ∧
  ∀ i H2 x H3, i < as.length → Same H1 H2 → Y i H2 x H3 → Same H2 H3 ∧ ∃ a, as[i]? = some a ∧ S a x H3) → Rk J H1) → wi σ H Rk
theorem evi_list {K : PySem.W.Frag} {α : Type} {S : α → V → Hp → Prop} [∀ a, St (S a)] {as : List α} (h : EvV (Same H0) σ te (isL S as)) : EvI H0 σ (iList K te) as S := fun H Rk w k =>
  h H _ w fun v H1 s1 w1 ⟨D, us, e, hD, l⟩ => ⟨D, e, ⟨us, SqL.of hD⟩, k (Itl K D) H1 s1 ⟨_, _, l.1 ▸ walk_list (K := K) (a := D) (xs := us), fun H2 s => SqL.of (s _ _ hD), fun i H2 x H3 hi s y => by
    obtain ⟨rfl, hx⟩ := y
    obtain ⟨a, ea, r⟩ := Ls.get l hx
    exact ⟨Same.refl _, a, ea, up s r⟩⟩⟩
theorem evi_tup {K : PySem.W.Frag} {α : Type} {S : α → V → Hp → Prop} [∀ a, St (S a)] {as : List α} (h : EvV (Same H0) σ te (fun v H => ∃ D us, v = .ref D ∧ (∀ H', Same H H' → SqT K H' D us) ∧ Ls (fun u a => S a u H) us as)) : EvI H0 σ (iTup K te) as S := fun H Rk w k =>
  h H _ w fun v H1 s1 w1 ⟨D, us, e, hD, l⟩ => ⟨D, e, ⟨us, hD _ (Same.refl _)⟩, k (Itt K D) H1 s1 ⟨_, _, l.1 ▸ walk_tup (K := K) (a := D) (xs := us), fun H2 s => hD _ s, fun i H2 x H3 hi s y => by
    obtain ⟨rfl, hx⟩ := y
    obtain ⟨a, ea, r⟩ := Ls.get l hx
    exact ⟨Same.refl _, a, ea, up s r⟩⟩⟩
/-- the whole numbers from lo on, so many -/
def rgI (lo : Int) (n : Nat) : List Int := (List.range n).map fun i => lo + (i : Nat)
theorem rgI_len {lo : Int} {n : Nat} : (rgI lo n).length = n := by simp [rgI]
theorem rgI_at {lo : Int} {n i : Nat} (h : i < n) : (rgI lo n)[i]? = some (lo + (i : Nat)) := by simp [rgI, h]
theorem evi_rng1 {n : Int} (n0 : 0 ≤ n) (h : EvV (Same H0) σ te (isIv n)) (n1 : n < 2 ^ 62) : EvI H0 σ (iRng1 (tCons te tNil)) (rgI 0 n.toNat) isIv := fun H Rk w k =>
  h H _ w fun v H1 s1 w1 e => by
    cases e
    refine ⟨n, rfl, by omega, n1, k _ H1 s1 ⟨_, _, by rw [rgI_len]; exact walk_range (lo := 0) (n := n.toNat), fun _ _ => trivial, fun i H2 x H3 hi s y => ?_⟩⟩
    obtain ⟨rfl, rfl⟩ := y
    rw [rgI_len] at hi
    exact ⟨Same.refl _, _, rgI_at hi, rfl⟩
/-- a new list of such things -/
def EvNL {α : Type} (H0 : Hp) (σ : L2.St) (te : TE) (S : α → V → Hp → Prop) (as : List α) : Prop := ∀ H Q, Same H0 H → (∀ D us H', H D = none → Same H H' → H' D = some (.lst us) → Ls (fun u a => S a u H') us as → Q (.ref D) H') → te σ H Q
theorem EvNL.ev {α : Type} {S : α → V → Hp → Prop} {as : List α} (h : EvNL H0 σ te S as) : EvV (Same H0) σ te (isL S as) := fun H Q w k => h H Q w fun D us H' _ s hD l => k _ H' s (w.trans s) ⟨D, us, rfl, hD, l⟩
theorem evn_lst {α : Type} {S : α → V → Hp → Prop} [∀ a, St (S a)] {as : List α} (h : EvL H0 σ ts S as) (n : as.length ≤ 1000) : EvNL H0 σ (tLst ts) S as := fun H Q w k =>
  h H _ w fun vs H1 s1 w1 r => ⟨Nat.le_trans (by rw [r.1]; exact n) (by decide), fun p np => by
    have s2 : Same H1 (upd H1 p (.lst vs)) := Same.new np
    exact k p vs _ (s1.free np) (s1.trans s2) upd_same (Ls.up r s2)⟩
/-- a list comprehension -/
theorem evn_lc {α β : Type} {wi : TI} {g : TG} {tt : TT} {vs : List Nat} {as : List α} {S : α → V → Hp → Prop} {S' : β → V → Hp → Prop} [∀ b, StL (S' b)] (p : α → Bool) (f : α → β) (hi : EvI H0 σ wi as S) (hn : as.length ≤ 1000)
    (hb : ∀ a ∈ as, ∀ x H, Same H0 H → S a x H → ∀ K2 : L2.St → Hp → Prop, (∀ σ2 H2, Same H H2 → wipe σ2 vs = wipe σ vs → EvB (Same H2) σ2 tt (p a) → (p a = true → EvV (Same H2) σ2 te (S' (f a))) → K2 σ2 H2) → g x (wipe σ vs) H K2) :
    EvNL H0 σ (tLc wi g tt te vs) S' ((as.filter p).map f) := fun H Q w k => by
  refine hi H _ w fun J H1 s1 ⟨G, Y, wk, hG, hY⟩ D nD => ?_
  refine lc_it wk (fun i Hh => Same H1 Hh ∧ ∃ acc, Hh D = some (.lst acc) ∧ Ls (fun u b => S' b u Hh) acc (((as.take i).filter p).map f)) ⟨Same.new nD, [], upd_same, Ls.nil⟩ (fun i Hh _ z => hG _ z.1) ?_ ?_
  · rintro i x Hh H' hi ⟨s2, acc, hD, ra⟩ y
    obtain ⟨s3, a, ea, rx⟩ := hY i Hh x H' hi s2 y
    have tk : as.take (i + 1) = as.take i ++ [a] := by
      rw [List.take_succ, ea]
      rfl
    have la : acc.length ≤ 1000 := by
      rw [ra.1, List.length_map]
      have z := List.length_filter_le p (as.take i)
      rw [List.length_take] at z
      omega
    refine hb a (List.mem_of_getElem? ea) x H' (w.trans (s1.trans (s2.trans s3))) rx _ fun σ2 H2 s4 ew et ee => ⟨ew, et H2 _ (Same.refl _) fun H3 s5 _ => ?_⟩
    have S5 := (s3.trans s4).trans s5
    cases e : p a with
    | false =>
      refine iteF ⟨s2.trans S5, acc, S5 _ _ hD, ?_⟩
      rw [tk, List.filter_append, List.map_append, List.filter_cons_of_neg (by rw [e]; exact Bool.false_ne_true), List.filter_nil, List.map_nil, List.append_nil]
      exact ra.up S5
    | true =>
      refine iteT (ee e H3 _ s5 fun v H4 s6 _ r => ?_)
      have S6 := S5.trans s6
      have hD4 := S6 _ _ hD
      have nD1 : H1 D = none := nD
      refine ⟨acc, hD4, Nat.lt_of_le_of_lt la (by decide), fun c o h => ?_, acc ++ [v], upd_same, ?_⟩
      · rw [upd_ne (ne_of_none h nD1)]
        exact (s2.trans S6) _ _ h
      · rw [tk, List.filter_append, List.map_append, List.filter_cons_of_pos e, List.filter_nil, List.map_cons, List.map_nil]
        exact Ls.push ((ra.up S6).upL (Keep.lst hD4)) (upL (Keep.lst hD4) r)
  · rintro Hh ⟨s2, acc, hD, ra⟩
    rw [List.take_length] at ra
    exact k D acc Hh (s1.free nD) (s1.trans s2) hD ra
theorem ev_lc {α β : Type} {wi : TI} {g : TG} {tt : TT} {vs : List Nat} {as : List α} {S : α → V → Hp → Prop} {S' : β → V → Hp → Prop} [∀ b, StL (S' b)] (p : α → Bool) (f : α → β) (hi : EvI H0 σ wi as S) (hn : as.length ≤ 1000)
    (hb : ∀ a ∈ as, ∀ x H, Same H0 H → S a x H → ∀ K2 : L2.St → Hp → Prop, (∀ σ2 H2, Same H H2 → wipe σ2 vs = wipe σ vs → EvB (Same H2) σ2 tt (p a) → (p a = true → EvV (Same H2) σ2 te (S' (f a))) → K2 σ2 H2) → g x (wipe σ vs) H K2) :
    EvV (Same H0) σ (tLc wi g tt te vs) (isL S' ((as.filter p).map f)) := (evn_lc p f hi hn hb).ev
end
end V3

set_option Elab.async false
set_option linter.all false
set_option maxRecDepth 100000
/-! == and != of plain data, by classes -/
namespace V3
open PySem L2 TL
/-- what a thing is as plain data -/
class Dt (K : PySem.W.Frag) {α : Type} (S : α → V → Hp → Prop) where
  d : α → PyData
  ok : α → Prop
  n : Nat
  dp : ∀ a v H, S a v H → Dp K H v (d a)
  lay : ∀ a, ok a → (d a).canLay0 = true
  dep : ∀ a, (d a).depth ≤ n
  inj : ∀ a b, ok a → ok b → (PyData.eqv (d a) (d b) = true ↔ a = b)
variable {K : PySem.W.Frag}
instance : Dt K isIv where
  d := .int
  ok := fun _ => True
  n := 0
  dp := fun a v H h => by cases h; exact .int a
  lay := fun a _ => by simp [PyData.canLay0]
  dep := fun a => by simp [PyData.depth]
  inj := fun a b _ _ => by simp [PyData.eqv]
instance : Dt K isBv where
  d := .bool
  ok := fun _ => True
  n := 0
  dp := fun a v H h => by cases h; exact .bl a
  lay := fun a _ => by simp [PyData.canLay0]
  dep := fun a => by simp [PyData.depth]
  inj := fun a b _ _ => by simp [PyData.eqv]
instance : Dt K isSv where
  d := .str
  ok := fun s => PyData.strOk s = true
  n := 0
  dp := fun a v H h => by cases h; exact .str a
  lay := fun a h => by simp [PyData.canLay0, h]
  dep := fun a => by simp [PyData.depth]
  inj := fun a b _ _ => by simp [PyData.eqv]
theorem eqvAll_map {α : Type} {d : α → PyData} : ∀ {as bs : List α}, (∀ a ∈ as, ∀ b ∈ bs, (PyData.eqv (d a) (d b) = true ↔ a = b)) → (PyData.eqvAll (as.map d) (bs.map d) = true ↔ as = bs)
  | [], [], _ => by simp [PyData.eqvAll]
  | [], _ :: _, _ => by simp [PyData.eqvAll]
  | _ :: _, [], _ => by simp [PyData.eqvAll]
  | a :: as, b :: bs, h => by
    have h1 := h a (by simp) b (by simp)
    have h2 := eqvAll_map (as := as) (bs := bs) fun x hx y hy => h x (by simp [hx]) y (by simp [hy])
    simp only [List.map_cons, PyData.eqvAll, Bool.and_eq_true, h1, h2, List.cons.injEq]
theorem lay_map {α : Type} {d : α → PyData} : ∀ {as : List α}, (∀ a ∈ as, (d a).canLay0 = true) → PyData.canLayAll0 (as.map d) = true
  | [], _ => by simp [PyData.canLayAll0]
  | a :: as, h => by
    have z := lay_map (as := as) fun x hx => h x (by simp [hx])
    simp [PyData.canLayAll0, h a (by simp), z]
theorem dep_map {α : Type} {d : α → PyData} {n : Nat} (h : ∀ a, (d a).depth ≤ n) : ∀ as : List α, PyData.depthAll (as.map d) ≤ n
  | [] => by simp [PyData.depthAll]
  | a :: as => by
    have z := dep_map h as
    have y := h a
    simp only [List.map_cons, PyData.depthAll]
    omega
theorem Ls.nil' {α : Type} {R : V → α → Prop} {us : List V} (h : Ls R us []) : us = [] := List.length_eq_zero_iff.mp h.1
theorem Ls.uncons {α : Type} {R : V → α → Prop} {us : List V} {a : α} {as : List α} (h : Ls R us (a :: as)) : ∃ u r, us = u :: r ∧ R u a ∧ Ls R r as := by
  cases us with
  | nil => cases h.1
  | cons u r =>
    obtain ⟨w, e, t⟩ := h.2 0 a rfl
    have e : u = w := by simpa using e
    subst e
    exact ⟨u, r, rfl, t, by simpa using h.1, fun i m hm => by simpa using h.2 (i + 1) m (by simpa using hm)⟩
theorem dpAll_map {α : Type} {S : α → V → Hp → Prop} {d : α → PyData} {H : Hp} (h : ∀ a v, S a v H → Dp K H v (d a)) : ∀ {as : List α} {us : List V}, Ls (fun u a => S a u H) us as → DpAll K H us (as.map d)
  | [], us, l => by
    rw [l.nil']
    exact .nil
  | a :: as, us, l => by
    obtain ⟨u, r, rfl, t, l2⟩ := l.uncons
    exact .cons (h a u t) (dpAll_map h l2)
instance {α : Type} {S : α → V → Hp → Prop} [i : Dt K S] : Dt K (isL S) where
  d := fun as => .list (as.map i.d)
  ok := fun as => ∀ a ∈ as, i.ok a
  n := i.n + 1
  dp := fun as v H ⟨D, us, e, hD, l⟩ => by
    subst e
    exact .lst (SqL.of hD) (dpAll_map (fun a v h => i.dp a v H h) l)
  lay := fun as h => by
    simp only [PyData.canLay0]
    exact lay_map fun a ha => i.lay a (h a ha)
  dep := fun as => by
    have z := dep_map i.dep as
    simp only [PyData.depth]
    omega
  inj := fun as bs ha hb => by
    simp only [PyData.eqv]
    rw [eqvAll_map fun a h1 b h2 => i.inj a b (ha a h1) (hb b h2)]
instance {α : Type} {S : α → V → Hp → Prop} [i : Dt K S] : Dt K (isU S) where
  d := fun as => .tuple (as.map i.d)
  ok := fun as => ∀ a ∈ as, i.ok a
  n := i.n + 1
  dp := fun as v H ⟨D, us, e, hD, l⟩ => by
    subst e
    exact .tup (SqT.of hD) (dpAll_map (fun a v h => i.dp a v H h) l)
  lay := fun as h => by
    simp only [PyData.canLay0]
    exact lay_map fun a ha => i.lay a (h a ha)
  dep := fun as => by
    have z := dep_map i.dep as
    simp only [PyData.depth]
    omega
  inj := fun as bs ha hb => by
    simp only [PyData.eqv]
    rw [eqvAll_map fun a h1 b h2 => i.inj a b (ha a h1) (hb b h2)]
/-- tuples of two, of three, of four -/
def isP2 {α β : Type} (S : α → V → Hp → Prop) (T : β → V → Hp → Prop) (p : α × β) : V → Hp → Prop := fun v H => ∃ D u w, v = .ref D ∧ H D = some (.tup [u, w]) ∧ S p.1 u H ∧ T p.2 w H
instance {α β : Type} {S : α → V → Hp → Prop} {T : β → V → Hp → Prop} [∀ a, St (S a)] [∀ a, St (T a)] {p : α × β} : St (isP2 S T p) := ⟨fun _ _ _ s ⟨D, u, w, e, h, a, b⟩ => ⟨D, u, w, e, s _ _ h, up s a, up s b⟩⟩
instance {α β : Type} {S : α → V → Hp → Prop} {T : β → V → Hp → Prop} [∀ a, StL (S a)] [∀ a, StL (T a)] {p : α × β} : StL (isP2 S T p) := ⟨fun _ _ _ s ⟨D, u, w, e, h, a, b⟩ => ⟨D, u, w, e, s _ _ (fun _ z => by cases z) h, upL s a, upL s b⟩⟩
instance {α β : Type} {S : α → V → Hp → Prop} {T : β → V → Hp → Prop} [i : Dt K S] [j : Dt K T] : Dt K (isP2 S T) where
  d := fun p => .tuple [i.d p.1, j.d p.2]
  ok := fun p => i.ok p.1 ∧ j.ok p.2
  n := max i.n j.n + 1
  dp := fun p v H ⟨D, u, w, e, h, a, b⟩ => by
    subst e
    exact .tup (SqT.of h) (.cons (i.dp _ _ _ a) (.cons (j.dp _ _ _ b) .nil))
  lay := fun p h => by simp [PyData.canLay0, PyData.canLayAll0, i.lay _ h.1, j.lay _ h.2]
  dep := fun p => by
    have a := i.dep p.1
    have b := j.dep p.2
    simp only [PyData.depth, PyData.depthAll]
    omega
  inj := fun p q hp hq => by
    obtain ⟨a, b⟩ := p
    obtain ⟨c, e⟩ := q
    simp only [PyData.eqv, PyData.eqvAll, Bool.and_eq_true, i.inj _ _ hp.1 hq.1, j.inj _ _ hp.2 hq.2, Prod.mk.injEq, and_true]
def isP3 {α β γ : Type} (S : α → V → Hp → Prop) (T : β → V → Hp → Prop) (U : γ → V → Hp → Prop) (p : α × β × γ) : V → Hp → Prop := fun v H => ∃ D u w x, v = .ref D ∧ H D = some (.tup [u, w, x]) ∧ S p.1 u H ∧ T p.2.1 w H ∧ U p.2.2 x H
instance {α β γ : Type} {S : α → V → Hp → Prop} {T : β → V → Hp → Prop} {U : γ → V → Hp → Prop} [∀ a, St (S a)] [∀ a, St (T a)] [∀ a, St (U a)] {p : α × β × γ} : St (isP3 S T U p) := ⟨fun _ _ _ s ⟨D, u, w, x, e, h, a, b, c⟩ => ⟨D, u, w, x, e, s _ _ h, up s a, up s b, up s c⟩⟩
instance {α β γ : Type} {S : α → V → Hp → Prop} {T : β → V → Hp → Prop} {U : γ → V → Hp → Prop} [∀ a, StL (S a)] [∀ a, StL (T a)] [∀ a, StL (U a)] {p : α × β × γ} : StL (isP3 S T U p) := ⟨fun _ _ _ s ⟨D, u, w, x, e, h, a, b, c⟩ => ⟨D, u, w, x, e, s _ _ (fun _ z => by cases z) h, upL s a, upL s b, upL s c⟩⟩
instance {α β γ : Type} {S : α → V → Hp → Prop} {T : β → V → Hp → Prop} {U : γ → V → Hp → Prop} [i : Dt K S] [j : Dt K T] [l : Dt K U] : Dt K (isP3 S T U) where
  d := fun p => .tuple [i.d p.1, j.d p.2.1, l.d p.2.2]
  ok := fun p => i.ok p.1 ∧ j.ok p.2.1 ∧ l.ok p.2.2
  n := max (max i.n j.n) l.n + 1
  dp := fun p v H ⟨D, u, w, x, e, h, a, b, c⟩ => by
    subst e
    exact .tup (SqT.of h) (.cons (i.dp _ _ _ a) (.cons (j.dp _ _ _ b) (.cons (l.dp _ _ _ c) .nil)))
  lay := fun p h => by simp [PyData.canLay0, PyData.canLayAll0, i.lay _ h.1, j.lay _ h.2.1, l.lay _ h.2.2]
  dep := fun p => by
    have a := i.dep p.1
    have b := j.dep p.2.1
    have c := l.dep p.2.2
    simp only [PyData.depth, PyData.depthAll]
    omega
  inj := fun p q hp hq => by
    obtain ⟨a, b, f⟩ := p
    obtain ⟨c, e, g⟩ := q
    simp only [PyData.eqv, PyData.eqvAll, Bool.and_eq_true, i.inj _ _ hp.1 hq.1, j.inj _ _ hp.2.1 hq.2.1, l.inj _ _ hp.2.2 hq.2.2, Prod.mk.injEq, and_true]
section
variable {σ : L2.St} {ta tb te : TE} {ts : TA} {H0 : Hp} {α β γ : Type} {S : α → V → Hp → Prop} {T : β → V → Hp → Prop} {U : γ → V → Hp → Prop} [∀ a, St (S a)] [∀ a, St (T a)] [∀ a, St (U a)] {a b : α} {c : β} {e : γ}
theorem shaped_dt [i : Dt K S] (n : i.n ≤ 64) (h : i.ok a) : SeqAt.shaped (i.d a) = true := by
  have z := i.dep a
  unfold SeqAt.shaped
  rw [i.lay a h, decide_eq_true (by omega)]
  rfl
theorem ev_neD [i : Dt K S] [Decidable (a = b)] (ha : EvV (Same H0) σ ta (S a)) (hb : EvV (Same H0) σ tb (S b)) (oa : i.ok a) (ob : i.ok b) (n : i.n ≤ 64 := by exact Nat.le_of_ble_eq_true rfl) : EvV (Same H0) σ (tOp (rNeD K) ta tb) (isBv (!decide (a = b))) :=
  ev_o ha hb fun x y H Q w hx hy k => ⟨_, _, i.dp _ _ _ hx, i.dp _ _ _ hy, shaped_dt n oa, shaped_dt n ob, k _ H (Same.refl H) (by
    have z := i.inj a b oa ob
    by_cases h : a = b
    · rw [z.mpr h, decide_eq_true h]
      rfl
    · rw [Bool.eq_false_iff.mpr fun q => h (z.mp q), decide_eq_false h]
      rfl)⟩
theorem ev_eqD [i : Dt K S] [Decidable (a = b)] (ha : EvV (Same H0) σ ta (S a)) (hb : EvV (Same H0) σ tb (S b)) (oa : i.ok a) (ob : i.ok b) (n : i.n ≤ 64 := by exact Nat.le_of_ble_eq_true rfl) : EvV (Same H0) σ (tOp (rEqD K) ta tb) (isBv (decide (a = b))) :=
  ev_o ha hb fun x y H Q w hx hy k => ⟨_, _, i.dp _ _ _ hx, i.dp _ _ _ hy, shaped_dt n oa, shaped_dt n ob, k _ H (Same.refl H) (by
    have z := i.inj a b oa ob
    by_cases h : a = b
    · rw [z.mpr h, decide_eq_true h]
      rfl
    · rw [Bool.eq_false_iff.mpr fun q => h (z.mp q), decide_eq_false h]
      rfl)⟩
theorem ev_p2 (ha : EvV (Same H0) σ ta (S a)) (hb : EvV (Same H0) σ tb (T c)) : EvV (Same H0) σ (tTup (tCons ta (tCons tb tNil))) (isP2 S T (a, c)) := fun H Q w k =>
  ha H _ w fun x H1 s1 w1 hx => hb H1 _ w1 fun y H2 s2 w2 hy => ⟨(by show 2 ≤ sizeLine; decide), fun p np => by
    have s3 : Same H2 (upd H2 p (.tup [x, y])) := Same.new np
    exact k _ _ ((s1.trans s2).trans s3) (w2.trans s3) ⟨p, x, y, rfl, upd_same, up (s2.trans s3) hx, up s3 hy⟩⟩
theorem ev_p3 (ha : EvV (Same H0) σ ta (S a)) (hb : EvV (Same H0) σ tb (T c)) (hc : EvV (Same H0) σ te (U e)) : EvV (Same H0) σ (tTup (tCons ta (tCons tb (tCons te tNil)))) (isP3 S T U (a, c, e)) := fun H Q w k =>
  ha H _ w fun x H1 s1 w1 hx => hb H1 _ w1 fun y H2 s2 w2 hy => hc H2 _ w2 fun z H3 s3 w3 hz => ⟨(by show 3 ≤ sizeLine; decide), fun p np => by
    have s4 : Same H3 (upd H3 p (.tup [x, y, z])) := Same.new np
    exact k _ _ (((s1.trans s2).trans s3).trans s4) (w3.trans s4) ⟨p, x, y, z, rfl, upd_same, up ((s2.trans s3).trans s4) hx, up (s3.trans s4) hy, up s4 hz⟩⟩
end
end V3

set_option Elab.async false
set_option linter.all false
set_option maxRecDepth 100000
/-! operators, answered -/
namespace V3
open PySem L2 TL
section
variable {K : PySem.W.Frag} {σ : L2.St} {ta tb te : TE} {t u : TT} {H0 : Hp} {R : V → Hp → Prop} {i j : Int} {b : Bool}
theorem ev_i0 {g : Int → Int → V} (ha : EvV (Same H0) σ ta (isIv i)) (hb : EvV (Same H0) σ tb (isIv j)) : EvV (Same H0) σ (tOp (rI0 g) ta tb) (isVv (g i j)) :=
  ev_o ha hb fun x y H Q w ex ey k => ⟨i, j, ex, ey, k _ H (Same.refl H) rfl⟩
theorem ev_i1 {C : Int → Int → Prop} {g : Int → Int → V} (c : C i j) (ha : EvV (Same H0) σ ta (isIv i)) (hb : EvV (Same H0) σ tb (isIv j)) : EvV (Same H0) σ (tOp (rI C g) ta tb) (isVv (g i j)) :=
  ev_o ha hb fun x y H Q w ex ey k => ⟨i, j, ex, ey, c, k _ H (Same.refl H) rfl⟩
theorem ev_ad (ha : EvV (Same H0) σ ta (isIv i)) (hb : EvV (Same H0) σ tb (isIv j)) : EvV (Same H0) σ (tOp (rI0 fun i j => .int (i + j)) ta tb) (isIv (i + j)) := ev_i0 (g := fun i j => .int (i + j)) ha hb
theorem ev_sb (ha : EvV (Same H0) σ ta (isIv i)) (hb : EvV (Same H0) σ tb (isIv j)) : EvV (Same H0) σ (tOp (rI0 fun i j => .int (i - j)) ta tb) (isIv (i - j)) := ev_i0 (g := fun i j => .int (i - j)) ha hb
theorem ev_lt (ha : EvV (Same H0) σ ta (isIv i)) (hb : EvV (Same H0) σ tb (isIv j)) : EvV (Same H0) σ (tOp (rI0 fun i j => .bl (decide (i < j))) ta tb) (isBv (decide (i < j))) := ev_i0 (g := fun i j => .bl (decide (i < j))) ha hb
theorem ev_le (ha : EvV (Same H0) σ ta (isIv i)) (hb : EvV (Same H0) σ tb (isIv j)) : EvV (Same H0) σ (tOp (rI0 fun i j => .bl (decide (i ≤ j))) ta tb) (isBv (decide (i ≤ j))) := ev_i0 (g := fun i j => .bl (decide (i ≤ j))) ha hb
theorem ev_gt (ha : EvV (Same H0) σ ta (isIv i)) (hb : EvV (Same H0) σ tb (isIv j)) : EvV (Same H0) σ (tOp (rI0 fun i j => .bl (decide (j < i))) ta tb) (isBv (decide (j < i))) := ev_i0 (g := fun i j => .bl (decide (j < i))) ha hb
theorem ev_ge (ha : EvV (Same H0) σ ta (isIv i)) (hb : EvV (Same H0) σ tb (isIv j)) : EvV (Same H0) σ (tOp (rI0 fun i j => .bl (decide (j ≤ i))) ta tb) (isBv (decide (j ≤ i))) := ev_i0 (g := fun i j => .bl (decide (j ≤ i))) ha hb
theorem ev_mod (c : 0 < j) (ha : EvV (Same H0) σ ta (isIv i)) (hb : EvV (Same H0) σ tb (isIv j)) : EvV (Same H0) σ (tOp (rI (fun _ j => 0 < j) fun i j => .int (i % j)) ta tb) (isIv (i % j)) := ev_i1 (g := fun i j => .int (i % j)) c ha hb
theorem ev_mul (c : CMul i j) (ha : EvV (Same H0) σ ta (isIv i)) (hb : EvV (Same H0) σ tb (isIv j)) : EvV (Same H0) σ (tOp (rI CMul fun i j => .int (i * j)) ta tb) (isIv (i * j)) := ev_i1 (g := fun i j => .int (i * j)) c ha hb
theorem ev_pow (c : CPow i j) (ha : EvV (Same H0) σ ta (isIv i)) (hb : EvV (Same H0) σ tb (isIv j)) : EvV (Same H0) σ (tOp (rI CPow fun i j => .int (i ^ j.toNat)) ta tb) (isIv (i ^ j.toNat)) := ev_i1 (g := fun i j => .int (i ^ j.toNat)) c ha hb
theorem ev_ng (ha : EvV (Same H0) σ ta (isIv i)) : EvV (Same H0) σ (tUn (rU fun i => .int (-i)) ta) (isIv (-i)) := fun H Q w k => ha H _ w fun v H' s w' e => ⟨i, e, k _ H' s w' rfl⟩
theorem ev_int1 (ha : EvV (Same H0) σ ta (isIv i)) : EvV (Same H0) σ (tCB (fun xs H Q => (∃ i, xs = [.int i] ∧ Q (.int i) H) ∨ ∃ k, xs = [.bl k] ∧ Q (.int (if k then 1 else 0)) H) (tCons ta tNil)) (isIv i) := fun H Q w k =>
  ha H _ w fun v H' s w' e => by
    cases e
    exact .inl ⟨i, rfl, k _ H' s w' rfl⟩
theorem ev_cat {x y : Str} (n : x.length + y.length ≤ 100000) (ha : EvV (Same H0) σ ta (isSv x)) (hb : EvV (Same H0) σ tb (isSv y)) : EvV (Same H0) σ (tOp (fun x y H Q => ∃ i j, x = .str i ∧ y = .str j ∧ i.length + j.length ≤ sizeLine ∧ Q (.str (i ++ j)) H) ta tb) (isSv (x ++ y)) :=
  ev_o ha hb fun _ _ H Q w ex ey k => ⟨x, y, ex, ey, Nat.le_trans n (by decide), k _ H (Same.refl H) rfl⟩
theorem ev_eqi (ha : EvV (Same H0) σ ta (isIv i)) (hb : EvV (Same H0) σ tb (isIv j)) : EvV (Same H0) σ (tOp rEq ta tb) (isBv (decide (i = j))) :=
  ev_o ha hb fun x y H Q w ex ey k => by
    cases ex
    cases ey
    refine ⟨rfl, k _ H (Same.refl H) ?_⟩
    have e : (V.int i = V.int j) ↔ (i = j) := ⟨fun z => by injection z, fun z => by rw [z]⟩
    show V.bl (decide (V.int i = V.int j)) = V.bl (decide (i = j))
    by_cases h : i = j
    · rw [decide_eq_true h, decide_eq_true (e.mpr h)]
    · rw [decide_eq_false h, decide_eq_false (fun z => h (e.mp z))]
theorem ev_is {b' : Bool} (h : EvV (Same H0) σ ta (isBv b)) (e : b = b') : EvV (Same H0) σ ta (isBv b') := e ▸ h
theorem ev_at (ha : EvV (Same H0) σ ta (isBv true)) (hb : EvV (Same H0) σ tb R) : EvV (Same H0) σ (tAndV ta tb) R := fun H Q w k => ha H _ w fun v H1 s1 w1 e => ⟨true, e, iteT (hb H1 _ w1 fun v H2 s2 w2 r => k v H2 (s1.trans s2) w2 r)⟩
theorem ev_af (ha : EvV (Same H0) σ ta (isBv false)) : EvV (Same H0) σ (tAndV ta tb) (isBv false) := fun H Q w k => ha H _ w fun v H1 s1 w1 e => ⟨false, e, iteF (k _ H1 s1 w1 rfl)⟩
theorem ev_av {p q : Bool} (ha : EvV (Same H0) σ ta (isBv p)) (hb : p = true → EvV (Same H0) σ tb (isBv q)) : EvV (Same H0) σ (tAndV ta tb) (isBv (p && q)) := by
  cases p with
  | true => exact ev_at ha (hb rfl)
  | false => exact ev_af ha
theorem ev_ov {p q : Bool} (ha : EvV (Same H0) σ ta (isBv p)) (hb : p = false → EvV (Same H0) σ tb (isBv q)) : EvV (Same H0) σ (tOrV ta tb) (isBv (p || q)) := fun H Q w k => ha H _ w fun v H1 s1 w1 e => by
  cases p with
  | true => exact ⟨true, e, iteT (k _ H1 s1 w1 rfl)⟩
  | false => exact ⟨false, e, iteF (hb rfl H1 _ w1 fun v H2 s2 w2 r => k v H2 (s1.trans s2) w2 r)⟩
theorem ev_nv {p : Bool} (ha : EvV (Same H0) σ ta (isBv p)) : EvV (Same H0) σ (tNotV ta) (isBv (!p)) := fun H Q w k => ha H _ w fun v H1 s1 w1 e => ⟨p, e, k _ H1 s1 w1 rfl⟩
/-- len of a list, of a tuple -/
theorem ev_lenL {α : Type} {S : α → V → Hp → Prop} {as : List α} (ha : EvV (Same H0) σ ta (isL S as)) : EvV (Same H0) σ (tCB (fun xs H Q => ∃ p ys, xs = [.ref p] ∧ (SqL K H p ys ∨ SqT K H p ys) ∧ Q (.int (ys.length : Int)) H) (tCons ta tNil)) (isIv (as.length : Int)) := fun H Q w k =>
  ha H _ w fun x H1 s1 w1 hx => by
    obtain ⟨D, us, rfl, hD, l⟩ := hx
    exact ⟨D, us, rfl, .inl (SqL.of hD), k _ H1 s1 w1 (by rw [l.1]; rfl)⟩
theorem ev_lenU {α : Type} {S : α → V → Hp → Prop} {as : List α} (ha : EvV (Same H0) σ ta (isU S as)) : EvV (Same H0) σ (tCB (fun xs H Q => ∃ p ys, xs = [.ref p] ∧ (SqL K H p ys ∨ SqT K H p ys) ∧ Q (.int (ys.length : Int)) H) (tCons ta tNil)) (isIv (as.length : Int)) := fun H Q w k =>
  ha H _ w fun x H1 s1 w1 hx => by
    obtain ⟨D, us, rfl, hD, l⟩ := hx
    exact ⟨D, us, rfl, .inr (SqT.of hD), k _ H1 s1 w1 (by rw [l.1]; rfl)⟩
theorem Ls.eqs {us ws : List V} {H : Hp} (h : Ls (fun u a => isVv a u H) us ws) : us = ws := by
  refine List.ext_getElem? fun i => ?_
  cases e : ws[i]? with
  | none =>
    have z : ws.length ≤ i := List.getElem?_eq_none_iff.mp e
    rw [List.getElem?_eq_none_iff, h.1]
    exact z
  | some m =>
    obtain ⟨v, ev, q⟩ := h.2 i m e
    have q : v = m := q
    rw [ev, q]
end
end V3

set_option Elab.async false
set_option linter.all false
set_option maxRecDepth 100000
/-! lists cut, joined, turned round; texts split and joined, answered -/
namespace V3
open PySem L2 TL
def cutA {α : Type} (xs : List α) (lo hi : Option Int) : List α := (xs.drop (HT.sIx xs.length 0 lo)).take (HT.sIx xs.length xs.length hi - HT.sIx xs.length 0 lo)
theorem cutA_all {α : Type} (xs : List α) : cutA xs none none = xs := by
  unfold cutA
  rw [HT.sIx_none, HT.sIx_none]
  simp
theorem cutA_from {α : Type} (xs : List α) (n : Nat) : cutA xs (some (n : Int)) none = xs.drop n := by
  unfold cutA
  rw [HT.sIx_nat, HT.sIx_none]
  by_cases h : n ≤ xs.length
  · rw [Nat.min_eq_left h]
    exact List.take_of_length_le (Nat.le_of_eq (List.length_drop ..))
  · rw [Nat.min_eq_right (by omega), List.drop_length, List.drop_eq_nil_of_le (by omega)]
    simp
theorem cutA_to {α : Type} (xs : List α) (n : Nat) : cutA xs none (some (n : Int)) = xs.take n := by
  unfold cutA
  rw [HT.sIx_nat, HT.sIx_none, List.drop_zero, Nat.sub_zero]
  by_cases h : n ≤ xs.length
  · rw [Nat.min_eq_left h]
  · rw [Nat.min_eq_right (by omega), List.take_length, List.take_of_length_le (by omega)]
theorem cutA_mid {α : Type} (xs : List α) (n m : Nat) : cutA xs (some (n : Int)) (some (m : Int)) = (xs.take m).drop n := by
  unfold cutA
  rw [HT.sIx_nat, HT.sIx_nat]
  by_cases h : n ≤ xs.length
  · rw [Nat.min_eq_left h, List.drop_take]
    by_cases k : m ≤ xs.length
    · rw [Nat.min_eq_left k]
    · rw [Nat.min_eq_right (by omega), List.take_of_length_le (Nat.le_of_eq (List.length_drop ..)), List.take_of_length_le (by rw [List.length_drop]; omega)]
  · rw [Nat.min_eq_right (a := n) (by omega), List.drop_length, List.drop_eq_nil_of_le (by rw [List.length_take]; omega)]
    simp
theorem Ls.drop {α : Type} {R : V → α → Prop} {us : List V} {as : List α} (l : Ls R us as) (n : Nat) : Ls R (us.drop n) (as.drop n) := ⟨by rw [List.length_drop, List.length_drop, l.1], fun i m h => by
  rw [List.getElem?_drop] at h ⊢
  exact l.2 _ _ h⟩
theorem Ls.take {α : Type} {R : V → α → Prop} {us : List V} {as : List α} (l : Ls R us as) (n : Nat) : Ls R (us.take n) (as.take n) := ⟨by rw [List.length_take, List.length_take, l.1], fun i m h => by
  rw [List.getElem?_take] at h ⊢
  by_cases c : i < n
  · rw [if_pos c] at h ⊢
    exact l.2 _ _ h
  · rw [if_neg c] at h
    cases h⟩
theorem Ls.app {α : Type} {R : V → α → Prop} {us vs : List V} {as bs : List α} (l : Ls R us as) (k : Ls R vs bs) : Ls R (us ++ vs) (as ++ bs) := ⟨by rw [List.length_append, List.length_append, l.1, k.1], fun i m h => by
  by_cases c : i < as.length
  · rw [List.getElem?_append_left c] at h
    rw [List.getElem?_append_left (by rw [l.1]; exact c)]
    exact l.2 _ _ h
  · rw [List.getElem?_append_right (by omega)] at h
    rw [List.getElem?_append_right (by rw [l.1]; omega), l.1]
    exact k.2 _ _ h⟩
theorem Ls.rev {α : Type} {R : V → α → Prop} {us : List V} {as : List α} (l : Ls R us as) : Ls R us.reverse as.reverse := ⟨by rw [List.length_reverse, List.length_reverse, l.1], fun i m h => by
  have lt : i < as.length := by
    have z := (List.getElem?_eq_some_iff.mp h).1
    rw [List.length_reverse] at z
    exact z
  rw [List.getElem?_reverse lt] at h
  rw [List.getElem?_reverse (by rw [l.1]; exact lt), l.1]
  exact l.2 _ _ h⟩
theorem Ls.put {α : Type} {R : V → α → Prop} {us : List V} {as : List α} {v : V} {a : α} (l : Ls R us as) (r : R v a) (j : Nat) : Ls R (us.set j v) (as.set j a) := ⟨by rw [List.length_set, List.length_set, l.1], fun i m h => by
  rw [List.getElem?_set] at h ⊢
  by_cases c : j = i
  · rw [if_pos c] at h ⊢
    by_cases q : j < as.length
    · rw [if_pos q] at h
      rw [if_pos (by rw [l.1]; exact q)]
      cases h
      exact ⟨v, rfl, r⟩
    · rw [if_neg q] at h
      cases h
  · rw [if_neg c] at h ⊢
    exact l.2 _ _ h⟩
theorem Ls.cut {α : Type} {R : V → α → Prop} {us : List V} {as : List α} (l : Ls R us as) (lo hi : Option Int) : Ls R (cutV us lo hi) (cutA as lo hi) := by
  unfold cutV cutA
  rw [l.1]
  exact (l.drop _).take _
theorem Ls.strs : ∀ {H : Hp} (as : List Str), Ls (fun u a => isSv a u H) (as.map V.str) as := fun as => ⟨by rw [List.length_map], fun i m h => ⟨.str m, by rw [List.getElem?_map, h]; rfl, rfl⟩⟩
theorem Ls.toStrs {H : Hp} {us : List V} {as : List Str} (l : Ls (fun u a => isSv a u H) us as) : us = as.map V.str := by
  refine List.ext_getElem? fun i => ?_
  cases e : as[i]? with
  | none =>
    have z : as.length ≤ i := List.getElem?_eq_none_iff.mp e
    rw [List.getElem?_map, e, List.getElem?_eq_none (by rw [l.1]; exact z)]
    rfl
  | some m =>
    obtain ⟨v, ev, q⟩ := l.2 i m e
    have q : v = .str m := q
    rw [ev, q, List.getElem?_map, e]
    rfl
section
variable {K : PySem.W.Frag} {σ : L2.St} {ta tb te : TE} {tl th : TO} {H0 : Hp} {α : Type} {S : α → V → Hp → Prop} {as bs : List α} {x y : Str}
theorem evn_cut [∀ a, St (S a)] {lo hi : Option Int} (ha : EvV (Same H0) σ ta (isL S as)) (hl : EvO (Same H0) σ tl lo) (hh : EvO (Same H0) σ th hi) : EvNL H0 σ (tSl (rSlL K) ta tl th) S (cutA as lo hi) := fun H Q w k =>
  ha H _ w fun v H1 s1 w1 hv => hl H1 _ w1 fun H2 s2 w2 => hh H2 _ w2 fun H3 s3 w3 => by
    obtain ⟨D, us, rfl, hD, l⟩ := up (s2.trans s3) hv
    refine ⟨D, us, rfl, SqL.of hD, fun p np => ?_⟩
    have s4 : Same H3 (upd H3 p (.lst (cutV us lo hi))) := Same.new np
    have S3 := (s1.trans s2).trans s3
    exact k p _ _ (S3.free np) (S3.trans s4) upd_same ((l.cut lo hi).up s4)
theorem evn_cat [∀ a, St (S a)] (ha : EvV (Same H0) σ ta (isL S as)) (hb : EvV (Same H0) σ tb (isL S bs)) (n : as.length + bs.length ≤ 1000) : EvNL H0 σ (tOp rCat ta tb) S (as ++ bs) := fun H Q w k =>
  ha H _ w fun v H1 s1 w1 hv => hb H1 _ w1 fun u H2 s2 w2 hu => by
    obtain ⟨D, us, rfl, hD, l⟩ := up s2 hv
    obtain ⟨B, vs, rfl, hB, m⟩ := hu
    refine ⟨D, B, us, vs, rfl, rfl, hD, hB, Nat.le_trans (by rw [l.1, m.1]; exact n) (by decide), fun p np => ?_⟩
    have s4 : Same H2 (upd H2 p (.lst (us ++ vs))) := Same.new np
    exact k p _ _ ((s1.trans s2).free np) ((s1.trans s2).trans s4) upd_same ((l.app m).up s4)
theorem evn_rev [∀ a, St (S a)] (ha : EvV (Same H0) σ ta (isL S as)) : EvNL H0 σ (tRevL K ta) S as.reverse := fun H Q w k =>
  ha H _ w fun v H1 s1 w1 hv => by
    obtain ⟨D, us, rfl, hD, l⟩ := hv
    refine ⟨D, us, rfl, SqL.of hD, fun p np => ?_⟩
    have s4 : Same H1 (upd H1 p (.lst us.reverse)) := Same.new np
    exact k p _ _ (s1.free np) (s1.trans s4) upd_same (l.rev.up s4)
/-- an item of a list, of a tuple, by its number -/
theorem ev_ixL [∀ a, St (S a)] {n : Nat} {a : α} (e : as[n]? = some a) (ha : EvV (Same H0) σ ta (isL S as)) (hb : EvV (Same H0) σ tb (isIv (n : Int))) : EvV (Same H0) σ (tOp (rIxL K) ta tb) (S a) :=
  ev_o ha hb fun v u H Q w hv hu k => by
    obtain ⟨D, us, rfl, hD, l⟩ := hv
    cases hu
    obtain ⟨z, ez, r⟩ := l.2 n a e
    have lt : n < us.length := (List.getElem?_eq_some_iff.mp ez).1
    refine ⟨D, us, (n : Int), z, rfl, rfl, SqL.of hD, ?_, k z H (Same.refl H) r⟩
    show (ixN us.length (n : Int)).bind (fun j => us[j]?) = _
    have ei : ixN us.length (n : Int) = some n := by
      unfold ixN
      rw [if_pos (by omega), if_pos (by omega)]
      rfl
    rw [ei]
    exact ez
theorem ev_ixU [∀ a, St (S a)] {n : Nat} {a : α} (e : as[n]? = some a) (ha : EvV (Same H0) σ ta (isU S as)) (hb : EvV (Same H0) σ tb (isIv (n : Int))) : EvV (Same H0) σ (tOp (rIxT K) ta tb) (S a) :=
  ev_o ha hb fun v u H Q w hv hu k => by
    obtain ⟨D, us, rfl, hD, l⟩ := hv
    cases hu
    obtain ⟨z, ez, r⟩ := l.2 n a e
    have lt : n < us.length := (List.getElem?_eq_some_iff.mp ez).1
    refine ⟨D, us, (n : Int), z, rfl, rfl, SqT.of hD, ?_, k z H (Same.refl H) r⟩
    show (ixN us.length (n : Int)).bind (fun j => us[j]?) = _
    have ei : ixN us.length (n : Int) = some n := by
      unfold ixN
      rw [if_pos (by omega), if_pos (by omega)]
      rfl
    rw [ei]
    exact ez
/-- text.split(sep) -/
theorem evn_split (n : x.length ≤ 100000) (hy : (y.length == 0) = false) (ha : EvV (Same H0) σ ta (isSv x)) (hb : EvV (Same H0) σ tb (isSv y)) :
    EvNL H0 σ (tM1 (fun x xs H Q => ∃ a b, x = .str a ∧ xs = [.str b] ∧ (b.length == 0) = false ∧ a.length + 2 ≤ sizeLine ∧ rNewStrs (Txt.split a b) H Q) ta tb) isSv (Txt.split x y) := fun H Q w k =>
  ha H _ w fun v H1 s1 w1 e => ⟨⟨x, e⟩, hb H1 _ w1 fun u H2 s2 w2 e2 => by
    cases e
    cases e2
    refine ⟨x, y, rfl, rfl, hy, Nat.le_trans (Nat.add_le_add_right n 2) (by decide), fun p np => ?_⟩
    have s4 : Same H2 (upd H2 p (.lst ((Txt.split x y).map V.str))) := Same.new np
    exact k p _ _ ((s1.trans s2).free np) ((s1.trans s2).trans s4) upd_same (Ls.strs _)⟩
/-- sep.join(texts) -/
theorem ev_joinLs {L : List Str} (hy : y.length ≤ 4) (n : (L.map (·.length)).sum + L.length ≤ 100000) (ha : EvV (Same H0) σ ta (isSv y)) (hb : EvV (Same H0) σ tb (isSs L)) : EvV (Same H0) σ (tM1 (rJoinK K) ta tb) (isSv (Str.join y L)) := fun H Q w k =>
  ha H _ w fun v H1 s1 w1 e => ⟨⟨y, e⟩, hb H1 _ w1 fun u H2 s2 w2 hu => by
    cases e
    obtain ⟨D, us, rfl, hD, l⟩ := hu
    have el := l.toStrs
    subst el
    refine ⟨y, D, L, rfl, rfl, .inl (SqL.of hD), ?_, k _ H2 (s1.trans s2) w2 (by rw [join_eq]; rfl)⟩
    have z : L.length * y.length ≤ L.length * 4 := Nat.mul_le_mul_left _ hy
    refine Nat.le_trans (m := 500000) ?_ (by decide)
    first | omega | (rw [Nat.mul_comm]; omega) | (simp only [List.length_map]; omega)⟩
theorem EvNL.isL {S : α → V → Hp → Prop} (h : EvNL H0 σ te S as) : EvV (Same H0) σ te (isL S as) := h.ev
end
end V3

set_option Elab.async false
set_option linter.all false
set_option maxRecDepth 100000
/-! in, str of a number, enumerate, != of scalars, answered; a class method within a try -/
namespace V3
open PySem L2 TL
theorem inV_strE {k : Str} {L : List Str} : inV (.str k) (L.map V.str) = decide (k ∈ L) := by
  induction L with
  | nil => rfl
  | cons a r ih =>
    have e : inV (.str k) ((a :: r).map V.str) = (a == k || inV (.str k) (r.map V.str)) := rfl
    rw [e, ih]
    by_cases q : k = a
    · subst q
      simp
    · have z : (a == k) = false := Bool.eq_false_iff.mpr fun w => q (eq_of_beq w).symm
      rw [z]
      simp [q]
theorem flat_strE (L : List Str) : (L.map V.str).all flatV = true := by
  induction L with
  | nil => rfl
  | cons a r ih => simpa [flatV] using ih
def negB (neg b : Bool) : Bool := if neg then !b else b
section
variable {K : PySem.W.Frag} {σ : L2.St} {ta tb te : TE} {ts : TA} {H0 : Hp} {R : V → Hp → Prop} {x : Str} {L : List Str} {i : Int} {neg : Bool} {u v : V}
theorem ev_inL (ha : EvV (Same H0) σ ta (isSv x)) (hb : EvV (Same H0) σ tb (isSs L)) : EvV (Same H0) σ (tOp (rIn K neg) ta tb) (isBv (negB neg (decide (x ∈ L)))) :=
  ev_o ha hb fun a b H Q w ea hb k => by
    cases ea
    obtain ⟨D, us, rfl, hD, l⟩ := hb
    have e := l.toStrs
    subst e
    exact ⟨D, _, rfl, .inl (SqL.of hD), rfl, flat_strE _, k _ H (Same.refl H) (by rw [inV_strE]; rfl)⟩
theorem ev_inT (ha : EvV (Same H0) σ ta (isSv x)) (hb : EvV (Same H0) σ tb (isU isSv L)) : EvV (Same H0) σ (tOp (rIn K neg) ta tb) (isBv (negB neg (decide (x ∈ L)))) :=
  ev_o ha hb fun a b H Q w ea hb k => by
    cases ea
    obtain ⟨D, us, rfl, hD, l⟩ := hb
    have e := l.toStrs
    subst e
    exact ⟨D, _, rfl, .inr (SqT.of hD), rfl, flat_strE _, k _ H (Same.refl H) (by rw [inV_strE]; rfl)⟩
theorem ev_num (am : i.natAbs.log2 < 1920) (ha : EvV (Same H0) σ ta (isIv i)) : EvV (Same H0) σ (tCB (fun xs H Q => ∃ i, xs = [.int i] ∧ i.natAbs.log2 < 1920 ∧ Q (.str (toString i)) H) (tCons ta tNil)) (isSv (toString i)) := fun H Q w k =>
  ha H _ w fun y H1 s1 w1 e => by
    cases e
    exact ⟨i, rfl, am, k _ H1 s1 w1 rfl⟩
theorem ev_neV (sc : scal u v = true) (ha : EvV (Same H0) σ ta (isVv u)) (hb : EvV (Same H0) σ tb (isVv v)) : EvV (Same H0) σ (tOp rNe ta tb) (isBv (!decide (u = v))) :=
  ev_o ha hb fun a b H Q w ea eb k => by
    cases ea
    cases eb
    exact ⟨sc, k _ H (Same.refl H) rfl⟩
theorem ev_eqV (sc : scal u v = true) (ha : EvV (Same H0) σ ta (isVv u)) (hb : EvV (Same H0) σ tb (isVv v)) : EvV (Same H0) σ (tOp rEq ta tb) (isBv (decide (u = v))) :=
  ev_o ha hb fun a b H Q w ea eb k => by
    cases ea
    cases eb
    exact ⟨sc, k _ H (Same.refl H) rfl⟩
theorem ev_isN (ha : EvV (Same H0) σ ta (isVv u)) : EvV (Same H0) σ (tOp (fun x y H Q => y = V.non ∧ Q (.bl (decide (x = .non))) H) ta (tC .non)) (isBv (decide (u = .non))) :=
  ev_o (Ra := isVv u) (Rb := isVv .non) ha ev_c fun a b H Q w ea eb k => by
    cases ea
    cases eb
    exact ⟨rfl, k _ H (Same.refl H) rfl⟩
/-- an if, either way -/
theorem if_b {c : TT} {t u : TS} {D : Ends} {H : Hp} {b : Bool} (w : Same H0 H) (h : EvB (Same H0) σ c b) (kt : b = true → ∀ H', Same H H' → t D σ H') (kf : b = false → ∀ H', Same H H' → u D σ H') : tIfS c t u D σ H := h H _ w fun H' s _ => by
  cases b with
  | true => exact iteT (kt rfl H' s)
  | false => exact iteF (kf rfl H' s)
theorem evi_tupU {α : Type} {S : α → V → Hp → Prop} [∀ a, St (S a)] {as : List α} (ha : EvV (Same H0) σ te (isU S as)) : EvI H0 σ (iTup K te) as S :=
  evi_tup (ev_to ha fun v H ⟨D, us, e, hD, l⟩ => ⟨D, us, e, fun H' s => SqT.of (s _ _ hD), l⟩)
theorem evn_lcY {α β : Type} {wi : TI} {i : Nat} {as : List α} {S : α → V → Hp → Prop} {S' : β → V → Hp → Prop} [∀ b, StL (S' b)] (f : α → β) (hi : EvI H0 σ wi as S) (hn : as.length ≤ 1000)
    (hb : ∀ a ∈ as, ∀ x H, Same H0 H → S a x H → EvV (Same H) ((wipe σ [i]).set i (some x)) te (S' (f a))) (hw : ∀ x : V, wipe ((wipe σ [i]).set i (some x)) [i] = wipe σ [i]) :
    EvNL H0 σ (tLc wi (gName i) tYes te [i]) S' (as.map f) := by
  have z := evn_lc (tt := tYes) (te := te) (vs := [i]) (g := gName i) (S' := S') (fun _ => true) f hi hn fun a ha x H w r K2 k => k _ _ (Same.refl H) (hw x) (fun H Q w k => k H (Same.refl H) w) fun _ => hb a ha x H w r
  rw [List.filter_eq_self.mpr fun _ _ => rfl] at z
  exact z
theorem ev_lcY {α β : Type} {wi : TI} {i : Nat} {as : List α} {S : α → V → Hp → Prop} {S' : β → V → Hp → Prop} [∀ b, StL (S' b)] (f : α → β) (hi : EvI H0 σ wi as S) (hn : as.length ≤ 1000)
    (hb : ∀ a ∈ as, ∀ x H, Same H0 H → S a x H → EvV (Same H) ((wipe σ [i]).set i (some x)) te (S' (f a))) (hw : ∀ x : V, wipe ((wipe σ [i]).set i (some x)) [i] = wipe σ [i]) :
    EvV (Same H0) σ (tLc wi (gName i) tYes te [i]) (isL S' (as.map f)) := (evn_lcY f hi hn hb hw).ev
/-- none of them passes the test -/
theorem ev_lcN {α β : Type} {wi : TI} {i : Nat} {as : List α} {S : α → V → Hp → Prop} {tt : TT} (S' : β → V → Hp → Prop) [∀ b, StL (S' b)] (f : α → β) (hi : EvI H0 σ wi as S) (hn : as.length ≤ 1000)
    (hb : ∀ a ∈ as, ∀ x H, Same H0 H → S a x H → EvB (Same H) ((wipe σ [i]).set i (some x)) tt false) (hw : ∀ x : V, wipe ((wipe σ [i]).set i (some x)) [i] = wipe σ [i]) :
    EvV (Same H0) σ (tLc wi (gName i) tt te [i]) (isL S' []) := by
  have z := ev_lc (tt := tt) (te := te) (vs := [i]) (g := gName i) (S' := S') (fun _ => false) f hi hn fun a ha x H w r K2 k => k _ _ (Same.refl H) (hw x) (hb a ha x H w r) fun e => by cases e
  rw [List.filter_eq_nil_iff.mpr fun _ _ => Bool.false_ne_true] at z
  exact z
/-- pairs of places and items -/
def enumF {α : Type} : Nat → List α → List (Nat × α)
  | _, [] => []
  | j, x :: r => (j, x) :: enumF (j + 1) r
theorem enumF_len {α : Type} : ∀ {L : List α} {j : Nat}, (enumF j L).length = L.length
  | [], _ => rfl
  | _ :: r, j => by
    show (enumF (j + 1) r).length + 1 = r.length + 1
    rw [enumF_len]
theorem enumF_get {α : Type} : ∀ {L : List α} {j i : Nat}, (enumF j L)[i]? = L[i]?.map fun x => (j + i, x)
  | [], _, _ => by simp [enumF]
  | x :: r, j, 0 => rfl
  | x :: r, j, i + 1 => by
    show (enumF (j + 1) r)[i]? = r[i]?.map fun x => (j + (i + 1), x)
    rw [enumF_get]
    congr 1
    funext x
    rw [show j + 1 + i = j + (i + 1) by omega]
def isEn {α : Type} (S : α → V → Hp → Prop) (p : Nat × α) : V → Hp → Prop := isP2 (fun n => isIv ((n : Nat) : Int)) S p
instance {α : Type} {S : α → V → Hp → Prop} [∀ a, StL (S a)] {p : Nat × α} : StL (isEn S p) := by unfold isEn; infer_instance
theorem evi_enum {α : Type} {S : α → V → Hp → Prop} [∀ a, St (S a)] {as : List α} (h : EvV (Same H0) σ te (isL S as)) : EvI H0 σ (iEnum K (tCons te tNil)) (enumF 0 as) (isEn S) := fun H Rk w k =>
  h H _ w fun v H1 s1 w1 hv => by
    obtain ⟨D, us, rfl, hD, l⟩ := hv
    refine ⟨D, us, rfl, SqL.of hD, k (Ite K D) H1 s1 ⟨_, _, by rw [enumF_len, ← l.1]; exact walk_enum (K := K) (a := D) (xs := us), fun H2 s => SqL.of (s _ _ hD), fun i H2 x H3 hi s y => ?_⟩⟩
    obtain ⟨T, a, b, rfl, nT, rfl, ea, eb⟩ := y
    obtain rfl := Option.some.inj ea
    obtain ⟨m, em, r⟩ := Ls.get l eb
    refine ⟨Same.new nT, (0 + i, m), by rw [enumF_get, em]; rfl, T, _, b, rfl, upd_same, ?_, up (s.trans (Same.new nT)) r⟩
    show V.int (i : Nat) = V.int ((0 + i : Nat) : Int)
    rw [Nat.zero_add]
end
section
variable {X : Cx} {CX : CXT} {k : Nat} {C p g : Addr} {fd : FuncData} {ps : List Str} {mc : Value} {sp : Sp} {E : L2.St → XK} {o e : Expr} {es : List Expr} {m : Str} {pos apos : Pos} {ta : TE} {t : TA} {pl : Sem Bool}
/-- C.m(..) of a classmethod, what it raises wished for at the slots -/
def tCMethA (C : Addr) (sp : Sp) (E : L2.St → XK) (ta : TE) (t : TA) : TE := fun σ H Q => ta σ H fun x H1 => x = .ref C ∧ t σ H1 fun vs H2 => sp (.ref C :: vs) H2 Q (E σ)
theorem pe_cmethA (he : PE X o ta) (r : ClX.CRead X.K C mc) (c : ClX.CMet X.K C mc m p g) (F : FnOk X.prog X.w X.K X.mg X.base CX k g fd ps sp) (bi : Binds X.K fd ps []) (hr : Room k X.A) (out : ∀ σ, PassesAt CX X σ (E σ)) (ha : PA X (e :: es) t)
    (hst : starEach (e :: es) X.env = (false, eval e X.env) :: starEach es X.env := by rfl) (hpl : (backTo pos (starEach es X.env)).any (·.1) = false := by rfl)
    (ht : eval (.Call (.Attribute o m apos) (e :: es) [] pos) X.env = (do
      let ov ← eval o X.env
      standAt apos.atName
      let (f, first) ← holding [ov] (getMethod ov m pl)
      callWith pos f first (backTo pos (starEach (e :: es) X.env)) (backToKw pos (keywordEach [] X.env))) := by rfl) :
    PE X (.Call (.Attribute o m apos) (e :: es) [] pos) (tCMethA C sp E ta t) := by
  refine ⟨fun pins s σ H Q I h => ?_⟩
  refine PySem.W.methodCall_KW (pl := pl) (thn (he.run pins s σ H _ I h) fun u s1 ⟨x, H1, I1, rx, ex, q⟩ => ?_) ht
  subst ex
  obtain rfl : u = Value.ref C := rx
  refine ClX.getmethcm_ok I1 r c fun s2 I2 => ?_
  refine ClX.callwith_cm I2 (ClX.base_none I1 (Nat.le_refl _)) c.fi (thn (ha.run pos _ s2 σ H1 _ I2 q) fun us s3 ⟨vs, H2, I3, rv, q2⟩ => ⟨⟨ClX.pin_at I3, I3.kIn⟩, ?_⟩) hst hpl
  have rr : Vals (V.ref C :: vs) (Value.ref C :: us) := .cons rfl rv
  have hl : (Value.ref C :: us).length = ps.length := by rw [← rr.length]; exact F.len _ _ _ _ q2
  have b := bi s3 (Value.ref C :: us) I3.kIn (by rw [List.append_nil]; exact hl)
  rw [List.append_nil] at b
  have ran := F.run X.A X.stack s3 H2 ⟨Value.ref C :: us, []⟩ (Value.ref C :: us) (V.ref C :: vs) Q (E σ) hr I3.env0 b rr q2
  refine thn (Q := EP X ((s1.heap.objs.size, PySem.W.methodObj (.ref g) (.ref C)) :: pins) σ Q) (wpAny_call (PySem.W.method_call (ClX.pin_at I3) (codeAny_mono ran fun r s' hq => ?_))) fun _ _ y => ClX.unpinE y
  cases r with
  | error err => exact out σ _ H2 s3 err s' I3 hq
  | ok fl =>
    cases fl with
    | ret w => exact I3.after hq
    | next => exact False.elim hq
    | brk => exact False.elim hq
    | cont => exact False.elim hq
end
end V3

set_option Elab.async false
set_option linter.all false
set_option maxRecDepth 100000
/-! what a comprehension of three clauses over three constant tuples makes -/
namespace V3
open PySem L2 TL
theorem pts_two {X : Cx} {c d : Expr} {t u : TT} (h : PT X c t) (k : PT X d u) : PTs X [c, d] (tAnd t u) := ⟨fun pins s σ H Q I hw => by
  simp only [List.forIn_cons, List.forIn_nil, if_true]
  refine wpAny_bind (wpAny_bind (wpAny_mono (h.run pins s σ H _ I hw) (fun b s1 z => wpAny_pure ?_) fun _ _ e => e))
  obtain ⟨H1, I1, q⟩ := z
  cases b with
  | false =>
    simp only [Bool.false_eq_true, if_false] at q ⊢
    exact wpAny_bind (wpAny_pure (wpAny_pure ⟨H1, I1, q⟩))
  | true =>
    simp only [if_true] at q ⊢
    exact wpAny_bind (wpAny_bind (wpAny_mono (k.run pins s1 σ H1 Q I1 q) (fun b s2 z => wpAny_pure (wpAny_pure z)) fun _ _ e => e))⟩
theorem loop_it {J : It} {n : Nat} {G : Hp → Prop} {Y : Nat → Hp → V → Hp → Prop} (wk : Walk J n G Y) {g : TG} {tt : TT} {vs : List Nat} {tb : L2.St → Hp → (Hp → Prop) → Prop} {σ : L2.St} {H : Hp} {Nx : Hp → Prop} (Pv : Nat → Hp → Prop) (h0 : Pv 0 H) (hG : ∀ i Hh, i ≤ n → Pv i Hh → G Hh)
    (hs : ∀ i x Hh H', i < n → Pv i Hh → Y i Hh x H' → g x (wipe σ vs) H' fun σ2 H2 => wipe σ2 vs = wipe σ vs ∧ tt σ2 H2 fun b H3 => if b = true then tb σ2 H3 (Pv (i + 1)) else Pv (i + 1) H3) (hd : ∀ Hh, Pv n Hh → Nx Hh) : LoopT J g tt vs tb σ H Nx := by
  refine ⟨fun i m Hh => m = n - i ∧ i ≤ n ∧ Pv i Hh, ⟨n, by simp, Nat.zero_le _, h0⟩, ?_⟩
  rintro i m Hh ⟨rfl, hi, p⟩
  have q := hG i Hh hi p
  by_cases lt : i < n
  · exact .inr ⟨wk.goes i Hh lt q, Pv (i + 1), fun H' p' => ⟨n - (i + 1), by omega, rfl, lt, p'⟩, fun x H' y => hs i x Hh H' lt p (wk.yields i Hh x H' lt q y)⟩
  · have e : i = n := by omega
    subst e
    exact .inl ⟨wk.stops Hh q, hd Hh p⟩
/-- the list at D so far -/
def AccP {β : Type} (S' : β → V → Hp → Prop) (H1 : Hp) (D : Addr) (l : List β) (Hh : Hp) : Prop := Same H1 Hh ∧ ∃ ys, Hh D = some (.lst ys) ∧ Ls (fun u b => S' b u Hh) ys l
section
variable {K : PySem.W.Frag} {β : Type} {S' : β → V → Hp → Prop} {H1 : Hp} {D A : Addr} {xs : List V} {i : Nat} {tt : TT} {vs : List Nat} {tb : L2.St → Hp → (Hp → Prop) → Prop} {σ : L2.St} {H : Hp} {Nx : Hp → Prop}
theorem loop_acc (hA : ∀ G, SqT K G A xs) (seg : V → List β) {l0 : List β} (h0 : AccP S' H1 D l0 H) (hw : ∀ x : V, wipe ((wipe σ vs).set i (some x)) vs = wipe σ vs)
    (step : ∀ x ∈ xs, ∀ l Hh N, l.length ≤ l0.length + (xs.flatMap seg).length → AccP S' H1 D l Hh → (∀ H', AccP S' H1 D (l ++ seg x) H' → N H') → tt ((wipe σ vs).set i (some x)) Hh fun b H3 => if b = true then tb ((wipe σ vs).set i (some x)) H3 N else N H3)
    (hd : ∀ H', AccP S' H1 D (l0 ++ xs.flatMap seg) H' → Nx H') : LoopT (Itt K A) (gName i) tt vs tb σ H Nx := by
  refine loop_it (walk_tup (K := K) (a := A) (xs := xs)) (fun k Hh => AccP S' H1 D (l0 ++ (xs.take k).flatMap seg) Hh) ?_ (fun k Hh _ _ => hA Hh) ?_ ?_
  · rw [List.take_zero]
    show AccP S' H1 D (l0 ++ []) H
    rw [List.append_nil]
    exact h0
  · rintro k x Hh H' lt p ⟨rfl, e⟩
    refine ⟨hw x, step x (List.mem_of_getElem? e) _ _ _ ?_ p fun H' z => ?_⟩
    · rw [List.length_append]
      have z : (xs.flatMap seg).length = ((xs.take k).flatMap seg).length + ((xs.drop k).flatMap seg).length := by
        rw [← List.length_append, ← List.flatMap_append, List.take_append_drop]
      omega
    · have tk : xs.take (k + 1) = xs.take k ++ [x] := by
        rw [List.take_succ, e]
        rfl
      rw [tk, List.flatMap_append, ← List.append_assoc]
      have e1 : [x].flatMap seg = seg x := by simp
      rw [e1]
      exact z
  · intro Hh p
    rw [List.take_length] at p
    exact hd Hh p
end
section
variable {K : PySem.W.Frag} {β : Type} {S' : β → V → Hp → Prop} [∀ b, StL (S' b)] {H0 : Hp} {A1 A2 A3 : Addr} {xs ys zs : List V} {i1 i2 i3 : Nat} {tt : TT} {vs vs1 vs2 : List Nat} {te : TE} {σ : L2.St}
abbrev slot3 (σ : L2.St) (vs vs1 vs2 : List Nat) (i1 i2 i3 : Nat) (x y z : V) : L2.St := (wipe ((wipe ((wipe σ vs).set i1 (some x)) vs1).set i2 (some y)) vs2).set i3 (some z)
theorem yes_go {tb : L2.St → Hp → (Hp → Prop) → Prop} {σ : L2.St} {H : Hp} {N : Hp → Prop} (h : tb σ H N) : tYes σ H fun b H3 => if b = true then tb σ H3 N else N H3 := by
  show if true = true then tb σ H N else N H
  exact iteT h
/-- all triples that pass -/
def tri {β : Type} (xs ys zs : List V) (pp : V → V → V → Bool) (f : V → V → V → β) : List β := xs.flatMap fun x => ys.flatMap fun y => zs.flatMap fun z => if pp x y z = true then [f x y z] else []
theorem evn_lc3 (pp : V → V → V → Bool) (f : V → V → V → β) (h1 : ∀ G, SqT K G A1 xs) (h2 : ∀ G, SqT K G A2 ys) (h3 : ∀ G, SqT K G A3 zs) (n : (tri xs ys zs pp f).length ≤ 300)
    (w1 : ∀ x : V, wipe ((wipe σ vs).set i1 (some x)) vs = wipe σ vs) (w2 : ∀ x y : V, wipe ((wipe ((wipe σ vs).set i1 (some x)) vs1).set i2 (some y)) vs1 = wipe ((wipe σ vs).set i1 (some x)) vs1)
    (w3 : ∀ x y z : V, wipe (slot3 σ vs vs1 vs2 i1 i2 i3 x y z) vs2 = wipe ((wipe ((wipe σ vs).set i1 (some x)) vs1).set i2 (some y)) vs2)
    (hb : ∀ x ∈ xs, ∀ y ∈ ys, ∀ z ∈ zs, ∀ H, Same H0 H → EvB (Same H) (slot3 σ vs vs1 vs2 i1 i2 i3 x y z) tt (pp x y z) ∧ (pp x y z = true → EvV (Same H) (slot3 σ vs vs1 vs2 i1 i2 i3 x y z) te (S' (f x y z)))) :
    EvNL H0 σ (tLc3 (iTup K (tC (.ref A1))) (gName i1) tYes (iTup K (tC (.ref A2))) (gName i2) tYes (iTup K (tC (.ref A3))) (gName i3) tt te vs vs1 vs2) S' (tri xs ys zs pp f) := fun H Q w k => by
  refine ⟨A1, rfl, ⟨xs, h1 H⟩, fun D nD => ?_⟩
  have a0 : AccP S' H D ([] : List β) (upd H D (.lst [])) := ⟨Same.new nD, [], upd_same, Ls.nil⟩
  refine loop_acc h1 (fun x => ys.flatMap fun y => zs.flatMap fun z => if pp x y z = true then [f x y z] else []) a0 w1 (fun x hx l1 Ha N1 n1 p1 k1 => ?_) fun H' ⟨s, us, hD, r⟩ => k D us H' nD s hD r
  refine yes_go ⟨A2, rfl, ⟨ys, h2 Ha⟩, loop_acc h2 (fun y => zs.flatMap fun z => if pp x y z = true then [f x y z] else []) p1 (w2 x) (fun y hy l2 Hb N2 n2 p2 k2 => ?_) k1⟩
  refine yes_go ⟨A3, rfl, ⟨zs, h3 Hb⟩, loop_acc h3 (fun z => if pp x y z = true then [f x y z] else []) p2 (w3 x y) (fun z hz l3 Hc N3 n3 p3 k3 => ?_) k2⟩
  obtain ⟨s3, us, hD, r⟩ := p3
  obtain ⟨et, ee⟩ := hb x hx y hy z hz Hc (w.trans s3)
  refine et Hc _ (Same.refl Hc) fun Hd s4 _ => ?_
  cases e : pp x y z with
  | false =>
    rw [e] at k3
    refine iteF (k3 Hd ⟨s3.trans s4, us, s4 _ _ hD, ?_⟩)
    show Ls _ us (l3 ++ [])
    rw [List.append_nil]
    exact r.up s4
  | true =>
    rw [e] at k3
    refine iteT (ee e Hd _ s4 fun v He s5 _ rv => ?_)
    have s6 := s4.trans s5
    have hD6 := s6 _ _ hD
    have m1 : l3.length ≤ 1000 := by
      have le : ∀ {γ : Type} {as : List γ} {F : γ → List β} {a : γ}, a ∈ as → (F a).length ≤ (as.flatMap F).length := fun {γ as F a} ha => by
        obtain ⟨u, v, rfl⟩ := List.append_of_mem ha
        rw [List.flatMap_append, List.flatMap_cons, List.length_append, List.length_append]
        omega
      have e1 := le (F := fun x => ys.flatMap fun y => zs.flatMap fun z => if pp x y z = true then [f x y z] else []) hx
      have e2 := le (F := fun y => zs.flatMap fun z => if pp x y z = true then [f x y z] else []) hy
      have e0 : ([] : List β).length = 0 := rfl
      have t0 : (xs.flatMap fun x => ys.flatMap fun y => zs.flatMap fun z => if pp x y z = true then [f x y z] else []).length ≤ 300 := n
      omega
    refine ⟨us, hD6, Nat.lt_of_le_of_lt (by rw [r.1]; exact m1) (by decide), k3 _ ⟨fun c o q => ?_, us ++ [v], upd_same, ?_⟩⟩
    · rw [upd_ne (ne_of_none q nD)]
      exact (s3.trans s6) _ _ q
    · exact Ls.push ((r.up s6).upL (Keep.lst hD6)) (upL (Keep.lst hD6) rv)
end
end V3

set_option Elab.async false
set_option linter.all false
set_option maxRecDepth 100000
namespace V3
open PySem L2
abbrev sIsInt : Stmt := top 11
abbrev sIsNum : Stmt := top 12
theorem scIsInt : FnScope ["value"] ["value"] (defScope sIsInt) := ⟨rfl, rfl, rfl, by decide +kernel, rfl, by decide +kernel, by decide +kernel⟩
theorem scIsNum : FnScope ["value"] ["value"] (defScope sIsNum) := ⟨rfl, rfl, rfl, by decide +kernel, rfl, by decide +kernel, by decide +kernel⟩
end V3

set_option Elab.async false
set_option linter.all false
set_option maxRecDepth 100000
namespace V3
open PySem L2
abbrev sIsAmt : Stmt := top 13
abbrev sImInit : Stmt := inClass (top 3) 0
abbrev sBInit : Stmt := inClass (top 17) 0
abbrev sBStr : Stmt := inClass (top 17) 2
abbrev sTInit : Stmt := inClass (top 18) 0
abbrev sTStr : Stmt := inClass (top 18) 2
abbrev sRInit : Stmt := inClass (top 19) 0
abbrev sRStr : Stmt := inClass (top 19) 2
/-- any value: none of it too great -/
inductive AV (H : Hp) : V → Prop where
  | non : AV H .non
  | bl (b : Bool) : AV H (.bl b)
  | int (i : Int) (h : i.natAbs ≤ 10000000000000000000000000000000000000000) : AV H (.int i)
  | str (z : Str) : AV H (.str z)
  | lst {a : Addr} {xs : List V} (h : H a = some (.lst xs)) : AV H (.ref a)
  | tup {a : Addr} {xs : List V} (h : H a = some (.tup xs)) : AV H (.ref a)
theorem AV.same {H H' : Hp} {v : V} (h : AV H v) (s : Same H H') : AV H' v := by
  cases h with
  | non => exact .non
  | bl b => exact .bl b
  | int i h => exact .int i h
  | str z => exact .str z
  | lst h => exact .lst (s _ _ h)
  | tup h => exact .tup (s _ _ h)
def isNum : V → Int → Bool
  | .int i, n => decide (n ≤ i)
  | _, _ => false
def isI : V → Bool
  | .int _ => true
  | .bl _ => true
  | _ => false
def isB : V → Bool
  | .bl _ => true
  | _ => false
theorem av_ty {K : PySem.W.Frag} {H : Hp} {v : V} (h : AV H v) : ∃ t, TyX K H v t ∧ PySem.W.kitOne K t (.type "int") = some (isI v) ∧ PySem.W.kitOne K t (.type "bool") = some (isB v) := by
  cases h with
  | non => exact ⟨_, .base .non, (show PySem.W.kitOne K (.type "NoneType") (.type "int") = some false from kit_ty (by decide +kernel)), (show PySem.W.kitOne K (.type "NoneType") (.type "bool") = some false from kit_ty (by decide +kernel))⟩
  | bl b => exact ⟨_, .base (.bl b), (show PySem.W.kitOne K (.type "bool") (.type "int") = some true from kit_ty (by decide +kernel)), (show PySem.W.kitOne K (.type "bool") (.type "bool") = some true from kit_ty (by decide +kernel))⟩
  | int i h => exact ⟨_, .base (.int i), (show PySem.W.kitOne K (.type "int") (.type "int") = some true from kit_ty (by decide +kernel)), (show PySem.W.kitOne K (.type "int") (.type "bool") = some false from kit_ty (by decide +kernel))⟩
  | str z => exact ⟨_, .base (.str z), (show PySem.W.kitOne K (.type "str") (.type "int") = some false from kit_ty (by decide +kernel)), (show PySem.W.kitOne K (.type "str") (.type "bool") = some false from kit_ty (by decide +kernel))⟩
  | lst h => exact ⟨_, .base (.lst h), (show PySem.W.kitOne K (.type "list") (.type "int") = some false from kit_ty (by decide +kernel)), (show PySem.W.kitOne K (.type "list") (.type "bool") = some false from kit_ty (by decide +kernel))⟩
  | tup h => exact ⟨_, .base (.tup h), (show PySem.W.kitOne K (.type "tuple") (.type "int") = some false from kit_ty (by decide +kernel)), (show PySem.W.kitOne K (.type "tuple") (.type "bool") = some false from kit_ty (by decide +kernel))⟩
theorem num_of {v : V} {n : Int} (h : isNum v n = true) : ∃ i : Int, v = .int i ∧ n ≤ i := by
  cases v with
  | int i => exact ⟨i, rfl, of_decide_eq_true h⟩
  | _ => cases h
structure BltB (mg : Str → Option Value) : Prop where
  isi : mg "isinstance" = none
  int : mg "int" = none
  bool : mg "bool" = none
def isIntV : V → Bool
  | .int _ => true
  | _ => false
def spInt : Sp := fun vs H Q _ => ∃ v, vs = [v] ∧ AV H v ∧ Q (.bl (isIntV v)) H
def spNum : Sp := fun vs H Q _ => ∃ v, vs = [v] ∧ AV H v ∧ Q (.bl (isNum v 0)) H
def spAmt : Sp := fun vs H Q _ => ∃ v, vs = [v] ∧ AV H v ∧ Q (.bl (isNum v 1)) H
section
variable {P : Program} {w : World} {K : PySem.W.Frag} {mg : Str → Option Value} {base : Heap}
theorem scIsAmt : FnScope ["value"] ["value"] (defScope sIsAmt) := ⟨rfl, rfl, rfl, by decide +kernel, rfl, by decide +kernel, by decide +kernel⟩
theorem ok_isInt {f : Addr} {fd : FuncData} (F : Fun K "is_integer" "is_integer" sIsInt f fd) (T : BltB mg) : FnOk P w K mg base CX0 1 f fd ["value"] spInt := by
  refine F.ok scIsInt (fun vs H Q E h => ?_) (fun cdv A outer s H vs Q E hr h => ?_)
  · obtain ⟨v, rfl, _⟩ := h
    rfl
  · obtain ⟨v, rfl, av, q⟩ := h
    obtain ⟨t, ty, k1, k2⟩ := av_ty (K := K) av
    refine ⟨_, pss_one (ps_ret (pe_and (pe_callB call_isi (by rfl) T.isi (by decide +kernel) (pa_cons (pv 0) (pa_cons (pe_bltn (v := .ty "int") (by rfl) T.int (by decide +kernel) rfl) pa_nil)))
      (pe_one (pe_not (pe_callB call_isi (by rfl) T.isi (by decide +kernel) (pa_cons (pv 0) (pa_cons (pe_bltn (v := .ty "bool") (by rfl) T.bool (by decide +kernel) rfl) pa_nil))))))), ?_⟩
    refine ⟨_, rfl, _, _, t, _, _, rfl, .ty "int", ty, k1, _, rfl, ?_⟩
    cases v with
    | int i =>
      refine iteT ?_
      exact ⟨_, rfl, _, _, t, _, _, rfl, .ty "bool", ty, k2, _, rfl, q⟩
    | bl b =>
      refine iteT ?_
      exact ⟨_, rfl, _, _, t, _, _, rfl, .ty "bool", ty, k2, _, rfl, q⟩
    | non => exact iteF q
    | str z => exact iteF q
    | ref a => exact iteF q
    | byt z => exact iteF q
    | flt z => exact iteF q
    | ty z => exact iteF q
theorem ok_isNum {f : Addr} {fd : FuncData} (F : Fun K "is_number" "is_number" sIsNum f fd) (c : Cal P w K mg base CX0 "is_integer" 1 ["value"] spInt) : FnOk P w K mg base CX0 2 f fd ["value"] spNum := by
  obtain ⟨fI, fdI, GI, mI, kI, bI⟩ := c
  refine F.ok scIsNum (fun vs H Q E h => ?_) (fun cdv A outer s H vs Q E hr h => ?_)
  · obtain ⟨v, rfl, _⟩ := h
    rfl
  · obtain ⟨v, rfl, av, q⟩ := h
    refine ⟨_, pss_one (ps_ret (pe_and (pe_call GI hr rfl mI kI bI .nil pass0 (pa_cons (pv 0) pa_nil)) (pe_one (pe_cmpR op_ge (pv 0) pe_int (nomark _))))), ?_⟩
    refine ⟨_, rfl, v, rfl, av, _, rfl, ?_⟩
    cases v with
    | int i => exact iteT ⟨_, rfl, _, _, rfl, rfl, q⟩
    | bl b => exact iteF q
    | non => exact iteF q
    | str z => exact iteF q
    | ref a => exact iteF q
    | byt z => exact iteF q
    | flt z => exact iteF q
    | ty z => exact iteF q
theorem ok_isAmt {f : Addr} {fd : FuncData} (F : Fun K "is_amount" "is_amount" sIsAmt f fd) (c : Cal P w K mg base CX0 "is_number" 2 ["value"] spNum) : FnOk P w K mg base CX0 3 f fd ["value"] spAmt := by
  obtain ⟨fN, fdN, GN, mN, kN, bN⟩ := c
  refine F.ok scIsAmt (fun vs H Q E h => ?_) (fun cdv A outer s H vs Q E hr h => ?_)
  · obtain ⟨v, rfl, _⟩ := h
    rfl
  · obtain ⟨v, rfl, av, q⟩ := h
    refine ⟨_, pss_one (ps_ret (pe_and (pe_call GN hr rfl mN kN bN .nil pass0 (pa_cons (pv 0) pa_nil)) (pe_one (pe_cmpR op_gt (pv 0) pe_int (nomark _))))), ?_⟩
    refine ⟨_, rfl, v, rfl, av, _, rfl, ?_⟩
    cases e : isNum v 0 with
    | false =>
      refine iteF ?_
      have z : isNum v 1 = false := by
        cases v with
        | int i =>
          have h1 : ¬ (0 : Int) ≤ i := of_decide_eq_false e
          exact decide_eq_false (by omega)
        | _ => rfl
      rw [z] at q
      exact q
    | true =>
      obtain ⟨i, rfl, hi⟩ := num_of e
      refine iteT ⟨_, rfl, _, _, rfl, rfl, ?_⟩
      have z : isNum (.int i) 1 = decide (0 < i) := by
        show decide (1 ≤ i) = decide (0 < i)
        by_cases c : 0 < i
        · rw [decide_eq_true c, decide_eq_true (show 1 ≤ i by omega)]
        · rw [decide_eq_false c, decide_eq_false (show ¬ 1 ≤ i by omega)]
      rw [z] at q
      exact q
end
end V3

set_option Elab.async false
set_option linter.all false
set_option maxRecDepth 100000
namespace V3
open PySem L2
/-! the error -/
def spIM (C : Addr) : Sp := fun vs H Q _ => ∃ (a : Addr) (y : V), vs = [.ref a, y] ∧ H a = some (exo a C none) ∧
  ∀ d, H d = none → d ≠ a → Q .non (upd (upd H d (exd d [("word", y)])) a (exo a C (some d)))
/-- what the module says of InvalidMove -/
structure ImTxt (P : Program) (w : World) (K : PySem.W.Frag) (mg : Str → Option Value) (base : Heap) (C : Addr) : Prop where
  g : mg "InvalidMove" = some (.ref C)
  o : OexC K C
  no : PySem.W.findIn K (.ref C) "word" = some none
  ini : ∃ (f : Addr) (fd : FuncData), FnOk P w K mg base CX0 1 f fd ["self", "word"] (spIM C) ∧ PySem.W.findIn K (.ref C) "__init__" = some (some (.ref f)) ∧ PySem.W.typeIn K (.ref f) = some (.type "function") ∧ Binds K fd ["self", "word"] []
/-- behind a raise: an error with the word, all else as it was -/
def Er (C : Addr) (H : Hp) (E : XK) (word : Str) : Prop := ∀ (d : Addr) (H' : Hp), Same H H' → H' d = some (.xd [("word", .str word)]) → E (.ref C) (some d) H'
section
variable {P : Program} {w : World} {K : PySem.W.Frag} {mg : Str → Option Value} {base : Heap}
theorem scImInit : FnScope ["self", "word"] ["self", "word"] (defScope sImInit) := ⟨rfl, rfl, rfl, by decide +kernel, rfl, by decide +kernel, by decide +kernel⟩
theorem ok_imInit {f C : Addr} {fd : FuncData} (F : Fun K "__init__" "InvalidMove.__init__" sImInit f fd) (o : OexC K C) (no : PySem.W.findIn K (.ref C) "word" = some none) : FnOk P w K mg base CX0 1 f fd ["self", "word"] (spIM C) := by
  refine F.ok scImInit (fun vs H Q E h => ?_) (fun cdv A outer s H vs Q E hr h => ?_)
  · obtain ⟨a, y, rfl, _⟩ := h
    rfl
  · obtain ⟨a, y, rfl, ha, q⟩ := h
    refine ⟨_, pss_one (ps_ost (pv 0) (pv 1)), ?_⟩
    exact ⟨_, rfl, _, rfl, a, C, rfl, o, no, .inl ⟨ha, fun dx h1 h2 => q dx h1 h2⟩⟩
theorem raise_same {H : Hp} {a d : Addr} {o1 o2 o3 o4 : HO} (na : H a = none) (nd : upd H a o1 d = none) (ne : d ≠ a) : Same H (upd (del (upd (upd (upd H a o1) d o2) a o3) a) d o4) := by
  intro b o e
  have ba : b ≠ a := fun z => by
    rw [z, na] at e
    cases e
  have hd : H d = none := by
    rw [upd_ne ne] at nd
    exact nd
  have bd : b ≠ d := fun z => by
    rw [z, hd] at e
    cases e
  rw [upd_ne bd, del_ne ba, upd_ne ba, upd_ne bd, upd_ne ba]
  exact e
/-- raise InvalidMove("..") in a def's own frame -/
theorem er_read {C : Addr} {H : Hp} {E : XK} {word : Str} (h : Er C H E word) : ∀ a, H a = none → spIM C (.ref a :: ([V.str word] ++ [])) (upd H a (exo a C none))
    (fun v H2 => v = .non ∧ ∃ (d : Addr) (fs : List (Str × V)), H2 a = some (exo a C (some d)) ∧ H2 d = some (exd d fs) ∧ H d = none ∧ E (.ref C) (some d) (upd (del H2 a) d (.xd fs))) (fun _ _ _ => False) := by
  intro a na
  refine ⟨a, _, rfl, upd_same, fun d nd ne => ⟨rfl, d, [("word", .str word)], upd_same, ?_, ?_, ?_⟩⟩
  · rw [upd_ne ne]
    exact upd_same
  · rw [upd_ne ne] at nd
    exact nd
  · exact h d _ (raise_same na nd ne) upd_same
/-! Begin -/
def spBegin (C CM : Addr) : Sp := fun vs H Q E => ∃ (x dx : Addr) (v : V), vs = [.ref x, v] ∧ H x = some (.ins C dx []) ∧ AV H v ∧
  (isNum v 1 = true → Q .non (upd H x (.ins C dx [("amount", v)]))) ∧ (isNum v 1 = false → Er CM H E "amount")
theorem scBInit : FnScope ["self", "amount"] ["self", "amount"] (defScope sBInit) := ⟨rfl, rfl, rfl, by decide +kernel, rfl, by decide +kernel, by decide +kernel⟩
abbrev CalNum (P : Program) (w : World) (K : PySem.W.Frag) (mg : Str → Option Value) (base : Heap) : Prop := Cal P w K mg base CX0 "is_number" 2 ["value"] spNum
abbrev CalAmt (P : Program) (w : World) (K : PySem.W.Frag) (mg : Str → Option Value) (base : Heap) : Prop := Cal P w K mg base CX0 "is_amount" 3 ["value"] spAmt
theorem ok_bInit {f C CM : Addr} {fd : FuncData} (F : Fun K "__init__" "Begin.__init__" sBInit f fd) (cl : Cls K C) (nA : NoAttr K C "amount") (cA : CalAmt P w K mg base) (M : ImTxt P w K mg base CM) : FnOk P w K mg base (L2.CX P w) 4 f fd ["self", "amount"] (spBegin C CM) := by
  obtain ⟨fA, fdA, GA, mA, kA, bA⟩ := cA
  obtain ⟨fI, fdI, GI, iI, tI, bI⟩ := M.ini
  refine F.okX scBInit (fun vs H Q E h => ?_) (fun cdv A outer s H vs Q E hr h => ?_)
  · obtain ⟨x, dx, v, rfl, _⟩ := h
    rfl
  · obtain ⟨x, dx, v, rfl, hx, av, q1, q2⟩ := h
    refine ⟨_, pss_cons (ps_if (pt_not (pt_val (pe_call GA hr rfl mA kA bA .nil pass0 (pa_cons (pv 1) pa_nil)))) (pss_one (ps_raise rfl (takes_of rfl rfl rfl rfl) (pmk_oex M.o iI tI GI (hr.mono (by decide)) bI .nil pass0 rfl M.g (by exact (pa_cons pe_str pa_nil))))) pss_nil)
      (pss_one (ps_fld (pv 0) (pv 1) rfl)), ?_⟩
    refine ⟨_, rfl, v, rfl, av, _, rfl, ?_⟩
    cases e : isNum v 1 with
    | true => exact iteF ⟨_, rfl, _, rfl, x, C, dx, _, rfl, hx, cl, nA, (by show 0 < 1000; decide), q1 e⟩
    | false => exact iteT ⟨(by show 1 ≤ 1000; decide), er_read (q2 e)⟩
/-! Take, Right -/
def two (a v : V) : List (Str × V) := [("at", a), ("amount", v)]
theorem ne_at : ¬ (("at" : Str) = "amount") := by decide +kernel
theorem put_two (a v : V) : putF "amount" v (putF "at" a []) = two a v := by
  show (if ("at" : Str) = "amount" then [(("at" : Str), v)] else (("at" : Str), a) :: putF "amount" v []) = two a v
  rw [if_neg ne_at]
  rfl
theorem two_at (a v : V) : (two a v).lookup ("at" : Str) = some a := by
  rw [← put_two, lookup_putF, if_neg ne_at, lookup_putF, if_pos rfl]
theorem two_am (a v : V) : (two a v).lookup ("amount" : Str) = some v := by
  rw [← put_two, lookup_putF, if_pos rfl]
def spTake (C CM : Addr) : Sp := fun vs H Q E => ∃ (x dx : Addr) (a v : V), vs = [.ref x, a, v] ∧ H x = some (.ins C dx []) ∧ AV H a ∧ AV H v ∧
  (isNum a 0 = true → (v = .non ∨ isNum v 1 = true) → Q .non (upd H x (.ins C dx (two a v)))) ∧ (isNum a 0 = false → Er CM H E "at") ∧
  (isNum a 0 = true → ¬ v = .non → isNum v 1 = false → Er CM H E "amount")
def spRight (C CM : Addr) : Sp := fun vs H Q E => ∃ (x dx : Addr) (a v : V), vs = [.ref x, a, v] ∧ H x = some (.ins C dx []) ∧ AV H a ∧ AV H v ∧
  (isNum a 0 = true → isNum v 1 = true → Q .non (upd H x (.ins C dx (two a v)))) ∧ (isNum a 0 = false → Er CM H E "at") ∧
  (isNum a 0 = true → isNum v 1 = false → Er CM H E "amount")
theorem scTInit : FnScope ["self", "at", "amount"] ["self", "at", "amount"] (defScope sTInit) := ⟨rfl, rfl, rfl, by decide +kernel, rfl, by decide +kernel, by decide +kernel⟩
theorem scRInit : FnScope ["self", "at", "amount"] ["self", "at", "amount"] (defScope sRInit) := ⟨rfl, rfl, rfl, by decide +kernel, rfl, by decide +kernel, by decide +kernel⟩
theorem ok_tInit {f C CM : Addr} {fd : FuncData} {dvs : List V} (F : FunD K "__init__" "Take.__init__" (defArgs sTInit) (defBody sTInit) (defScope sTInit) dvs [] f fd) (cl : Cls K C) (nT : NoAttr K C "at") (nA : NoAttr K C "amount") (cN : CalNum P w K mg base) (cA : CalAmt P w K mg base) (M : ImTxt P w K mg base CM) : FnOk P w K mg base (L2.CX P w) 4 f fd ["self", "at", "amount"] (spTake C CM) := by
  obtain ⟨fN, fdN, GN, mN, kN, bN⟩ := cN
  obtain ⟨fA, fdA, GA, mA, kA, bA⟩ := cA
  obtain ⟨fI, fdI, GI, iI, tI, bI⟩ := M.ini
  refine F.ok scTInit (fun vs H Q E h => ?_) (fun cdv A outer s H vs Q E hr h => ?_)
  · obtain ⟨x, dx, a, v, rfl, _⟩ := h
    rfl
  · obtain ⟨x, dx, a, v, rfl, hx, aa, av, q1, q2, q3⟩ := h
    refine ⟨_, pss_cons (ps_if (pt_not (pt_val (pe_call GN (hr.mono (by decide)) rfl mN kN bN .nil pass0 (pa_cons (pv 1) pa_nil)))) (pss_one (ps_raise rfl (takes_of rfl rfl rfl rfl) (pmk_oex M.o iI tI GI (hr.mono (by decide)) bI .nil pass0 rfl M.g (by exact (pa_cons pe_str pa_nil))))) pss_nil)
      (pss_cons (ps_if (PW.pt (pw_and (pt_cmpR op_notN (pv 2) pe_non (nomark _)) (pw_and1 (pt_not (pt_val (pe_call GA hr rfl mA kA bA .nil pass0 (pa_cons (pv 2) pa_nil))))))) (pss_one (ps_raise rfl (takes_of rfl rfl rfl rfl) (pmk_oex M.o iI tI GI (hr.mono (by decide)) bI .nil pass0 rfl M.g (by exact (pa_cons pe_str pa_nil))))) pss_nil)
      (pss_cons (ps_fld (pv 0) (pv 1) rfl) (pss_one (ps_fld (pv 0) (pv 2) rfl)))), ?_⟩
    refine ⟨_, rfl, a, rfl, aa, _, rfl, ?_⟩
    cases e : isNum a 0 with
    | false => exact iteT ⟨(by show 1 ≤ 1000; decide), er_read (q2 e)⟩
    | true =>
      have stores : (v = .non ∨ isNum v 1 = true) → Q .non (upd (upd H x (.ins C dx (putF "at" a []))) x (.ins C dx (putF "amount" v (putF "at" a [])))) := fun z => by
        rw [upd_upd, put_two]
        exact q1 e z
      refine iteF ⟨_, rfl, rfl, _, rfl, ?_⟩
      by_cases c : v = .non
      · rw [decide_eq_true c]
        exact iteF (iteF ⟨_, rfl, _, rfl, x, C, dx, _, rfl, hx, cl, nT, (by show 0 < 1000; decide), _, rfl, _, rfl, x, C, dx, _, rfl, upd_same, cl, nA, (by show 1 < 1000; decide), stores (.inl c)⟩)
      · rw [decide_eq_false c]
        refine iteT ⟨_, rfl, v, rfl, av, _, rfl, ?_⟩
        cases e2 : isNum v 1 with
        | false => exact iteT ⟨(by show 1 ≤ 1000; decide), er_read (q3 e c e2)⟩
        | true => exact iteF ⟨_, rfl, _, rfl, x, C, dx, _, rfl, hx, cl, nT, (by show 0 < 1000; decide), _, rfl, _, rfl, x, C, dx, _, rfl, upd_same, cl, nA, (by show 1 < 1000; decide), stores (.inr e2)⟩
theorem ok_rInit {f C CM : Addr} {fd : FuncData} (F : Fun K "__init__" "Right.__init__" sRInit f fd) (cl : Cls K C) (nT : NoAttr K C "at") (nA : NoAttr K C "amount") (cN : CalNum P w K mg base) (cA : CalAmt P w K mg base) (M : ImTxt P w K mg base CM) : FnOk P w K mg base (L2.CX P w) 4 f fd ["self", "at", "amount"] (spRight C CM) := by
  obtain ⟨fN, fdN, GN, mN, kN, bN⟩ := cN
  obtain ⟨fA, fdA, GA, mA, kA, bA⟩ := cA
  obtain ⟨fI, fdI, GI, iI, tI, bI⟩ := M.ini
  refine F.okX scRInit (fun vs H Q E h => ?_) (fun cdv A outer s H vs Q E hr h => ?_)
  · obtain ⟨x, dx, a, v, rfl, _⟩ := h
    rfl
  · obtain ⟨x, dx, a, v, rfl, hx, aa, av, q1, q2, q3⟩ := h
    refine ⟨_, pss_cons (ps_if (pt_not (pt_val (pe_call GN (hr.mono (by decide)) rfl mN kN bN .nil pass0 (pa_cons (pv 1) pa_nil)))) (pss_one (ps_raise rfl (takes_of rfl rfl rfl rfl) (pmk_oex M.o iI tI GI (hr.mono (by decide)) bI .nil pass0 rfl M.g (by exact (pa_cons pe_str pa_nil))))) pss_nil)
      (pss_cons (ps_if (pt_not (pt_val (pe_call GA hr rfl mA kA bA .nil pass0 (pa_cons (pv 2) pa_nil)))) (pss_one (ps_raise rfl (takes_of rfl rfl rfl rfl) (pmk_oex M.o iI tI GI (hr.mono (by decide)) bI .nil pass0 rfl M.g (by exact (pa_cons pe_str pa_nil))))) pss_nil)
      (pss_cons (ps_fld (pv 0) (pv 1) rfl) (pss_one (ps_fld (pv 0) (pv 2) rfl)))), ?_⟩
    refine ⟨_, rfl, a, rfl, aa, _, rfl, ?_⟩
    cases e : isNum a 0 with
    | false => exact iteT ⟨(by show 1 ≤ 1000; decide), er_read (q2 e)⟩
    | true =>
      refine iteF ⟨_, rfl, v, rfl, av, _, rfl, ?_⟩
      cases e2 : isNum v 1 with
      | false => exact iteT ⟨(by show 1 ≤ 1000; decide), er_read (q3 e e2)⟩
      | true =>
        have stores : Q .non (upd (upd H x (.ins C dx (putF "at" a []))) x (.ins C dx (putF "amount" v (putF "at" a [])))) := by
          rw [upd_upd, put_two]
          exact q1 e e2
        exact iteF ⟨_, rfl, _, rfl, x, C, dx, _, rfl, hx, cl, nT, (by show 0 < 1000; decide), _, rfl, _, rfl, x, C, dx, _, rfl, upd_same, cl, nA, (by show 1 < 1000; decide), stores⟩
/-! the texts -/
def bText (i : Int) : Str := Str.empty ++ "begin " ++ num i
def tText (i : Int) : Str := Str.empty ++ "take " ++ num i
def tbText (i j : Int) : Str := Str.empty ++ "take " ++ num i ++ " by " ++ num j
def rText (i j : Int) : Str := Str.empty ++ "right " ++ num i ++ " to " ++ num j
def spBStr (C : Addr) : Sp := fun vs H Q _ => ∃ (x dx : Addr) (i : Int), vs = [.ref x] ∧ H x = some (.ins C dx [("amount", .int i)]) ∧ Am i ∧ Q (.str (bText i)) H
def spTStr (C : Addr) : Sp := fun vs H Q _ => ∃ (x dx : Addr) (i : Int) (v : V), vs = [.ref x] ∧ H x = some (.ins C dx (two (.int i) v)) ∧ Am i ∧
  ((v = .non ∧ Q (.str (tText i)) H) ∨ ∃ j, v = .int j ∧ Am j ∧ Q (.str (tbText i j)) H)
def spRStr (C : Addr) : Sp := fun vs H Q _ => ∃ (x dx : Addr) (i j : Int), vs = [.ref x] ∧ H x = some (.ins C dx (two (.int i) (.int j))) ∧ Am i ∧ Am j ∧ Q (.str (rText i j)) H
theorem scBStr : FnScope ["self"] ["self"] (defScope sBStr) := ⟨rfl, rfl, rfl, by decide +kernel, rfl, by decide +kernel, by decide +kernel⟩
theorem scTStr : FnScope ["self"] ["self"] (defScope sTStr) := ⟨rfl, rfl, rfl, by decide +kernel, rfl, by decide +kernel, by decide +kernel⟩
theorem scRStr : FnScope ["self"] ["self"] (defScope sRStr) := ⟨rfl, rfl, rfl, by decide +kernel, rfl, by decide +kernel, by decide +kernel⟩
theorem ok_bStr {f C : Addr} {fd : FuncData} (F : Fun K "__str__" "Begin.__str__" sBStr f fd) (cl : Cls K C) (nA : NoAttr K C "amount") : FnOk P w K mg base CX0 1 f fd ["self"] (spBStr C) := by
  refine F.ok scBStr (fun vs H Q E h => ?_) (fun cdv A outer s H vs Q E hr h => ?_)
  · obtain ⟨x, dx, i, rfl, _⟩ := h
    rfl
  · obtain ⟨x, dx, i, rfl, hx, am, q⟩ := h
    have l := num_len am
    refine ⟨_, pss_one (ps_ret (pe_joined (.cons pe_str (.cons (pe_fmt (pe_fld (pv 0) rfl)) .nil)))), ?_⟩
    have e1 : ("begin " : Str).length = 6 := by decide +kernel
    have e0 : (Str.empty).length = 0 := rfl
    refine ⟨_, rfl, small (by rw [app_len, e1, e0]; decide), _, rfl, x, C, dx, _, _, rfl, hx, cl, nA, rfl, .inr ⟨i, rfl, am_log am, _, rfl, small ?_, q⟩⟩
    show (Str.empty ++ "begin " ++ num i).length ≤ 10000
    rw [app_len, app_len, e1, e0]
    omega
end
end V3

set_option Elab.async false
set_option linter.all false
set_option maxRecDepth 100000
namespace V3
open PySem L2 TL
/-! a move, its words, its text -/
inductive Mv where
  | beg (a : Int) | take (t : Int) | takeBy (t a : Int) | right (t a : Int) | shut
  deriving DecidableEq
def Idx (t : Int) : Prop := 0 ≤ t ∧ t ≤ 10000000000000000000000000000000000000000
def Amt (a : Int) : Prop := 1 ≤ a ∧ a ≤ 10000000000000000000000000000000000000000
def Mv.ok : Mv → Prop
  | .beg a => Amt a
  | .take t => Idx t
  | .takeBy t a => Idx t ∧ Amt a
  | .right t a => Idx t ∧ Amt a
  | .shut => True
def Mv.evens : Mv → List Str
  | .beg _ => ["begin"]
  | .take _ => ["take"]
  | .takeBy _ _ => ["take", "by"]
  | .right _ _ => ["right", "to"]
  | .shut => ["shut"]
def Mv.nums : Mv → List Int
  | .beg a => [a]
  | .take t => [t]
  | .takeBy t a => [t, a]
  | .right t a => [t, a]
  | .shut => []
def Mv.words : Mv → List Str
  | .beg a => ["begin", num a]
  | .take t => ["take", num t]
  | .takeBy t a => ["take", num t, "by", num a]
  | .right t a => ["right", num t, "to", num a]
  | .shut => ["shut"]
def Mv.text (m : Mv) : Str := Str.join sp1 m.words
theorem nums_ok {m : Mv} (h : m.ok) : ∀ n ∈ m.nums, Idx n := by
  intro n hn
  cases m with
  | shut => cases hn
  | _ =>
    simp only [Mv.nums, List.mem_cons, List.not_mem_nil, or_false] at hn
    simp only [Mv.ok, Amt, Idx] at h
    unfold Idx
    first
      | (subst hn; omega)
      | (rcases hn with rfl | rfl <;> omega)
theorem at_am {t : Int} (h : Idx t) : Am t := by
  unfold Idx at h
  unfold Am
  omega
/-- no blank in a word, no semicolon either -/
theorem words_free {m : Mv} (h : m.ok) : ∀ p ∈ m.words, 32 ∉ tl p ∧ 59 ∉ tl p := by
  have k : ∀ z : Int, 0 ≤ z → 32 ∉ tl (num z) ∧ 59 ∉ tl (num z) := fun z hz => ⟨num_free hz (by decide), num_free hz (by decide)⟩
  have e1 : 32 ∉ tl "begin" ∧ 59 ∉ tl "begin" := by decide +kernel
  have e2 : 32 ∉ tl "take" ∧ 59 ∉ tl "take" := by decide +kernel
  have e3 : 32 ∉ tl "by" ∧ 59 ∉ tl "by" := by decide +kernel
  have e4 : 32 ∉ tl "right" ∧ 59 ∉ tl "right" := by decide +kernel
  have e5 : 32 ∉ tl "to" ∧ 59 ∉ tl "to" := by decide +kernel
  have e6 : 32 ∉ tl "shut" ∧ 59 ∉ tl "shut" := by decide +kernel
  intro p hp
  cases m with
  | beg a =>
    have h' : Amt a := h
    unfold Amt at h'
    simp only [Mv.words, List.mem_cons, List.not_mem_nil, or_false] at hp
    rcases hp with rfl | rfl
    · exact e1
    · exact k a (by omega)
  | take t =>
    have h' : Idx t := h
    unfold Idx at h'
    simp only [Mv.words, List.mem_cons, List.not_mem_nil, or_false] at hp
    rcases hp with rfl | rfl
    · exact e2
    · exact k t (by omega)
  | takeBy t a =>
    have h' : Idx t ∧ Amt a := h
    unfold Idx Amt at h'
    simp only [Mv.words, List.mem_cons, List.not_mem_nil, or_false] at hp
    rcases hp with rfl | rfl | rfl | rfl
    · exact e2
    · exact k t (by omega)
    · exact e3
    · exact k a (by omega)
  | right t a =>
    have h' : Idx t ∧ Amt a := h
    unfold Idx Amt at h'
    simp only [Mv.words, List.mem_cons, List.not_mem_nil, or_false] at hp
    rcases hp with rfl | rfl | rfl | rfl
    · exact e4
    · exact k t (by omega)
    · exact e5
    · exact k a (by omega)
  | shut =>
    simp only [Mv.words, List.mem_cons, List.not_mem_nil, or_false] at hp
    subst hp
    exact e6
theorem words_ne (m : Mv) : m.words ≠ [] := by cases m <;> exact (fun z => nomatch z)
theorem split_text {m : Mv} (h : m.ok) : Txt.split m.text sp1 = m.words := by
  unfold Mv.text
  have z := split_join sp_tl (by decide +kernel) (words_ne m) fun p hp => (words_free h p hp).1
  rw [join_eq] at z
  exact z
/-- the texts that the program writes are these -/
theorem b_text (a : Int) : bText a = (Mv.beg a).text := ext_tl (by
  unfold bText Mv.text
  rw [tl_join]
  simp only [tl_append, Mv.words, List.map, joinL, sp_tl]
  have e : tl ("begin " : Str) = tl ("begin" : Str) ++ [32] := by decide +kernel
  rw [e]
  simp [Str.empty, tl])
end V3

set_option Elab.async false
set_option linter.all false
set_option maxRecDepth 100000
namespace V3
open PySem L2 TL
abbrev sReadNumber : Stmt := top 14
theorem digit_yes : ∀ c : Nat, c < 58 → 48 ≤ c → Unicode.isDigit c = true := by decide +kernel
theorem all_list (x : Str) (p : Nat → Bool) : x.cps.all p = (tl x).all p := by
  unfold tl
  rw [Array.all_toList]
theorem num_digit {t : Int} (h : 0 ≤ t) : Txt.isdigit (num t) = true := by
  unfold Txt.isdigit
  rw [all_list, tl_num' h]
  have l : (num t).length > 0 := by
    rw [len_tl, tl_num' h]
    exact List.length_pos_iff.mpr (numL_ne _)
  rw [decide_eq_true l, Bool.true_and]
  exact List.all_eq_true.mpr fun c hc => by
    obtain ⟨a, b⟩ := numL_digits _ c hc
    exact digit_yes c (by omega) a
theorem num_ascii {t : Int} (h : 0 ≤ t) : Txt.isascii (num t) = true := by
  unfold Txt.isascii
  rw [all_list, tl_num' h]
  exact List.all_eq_true.mpr fun c hc => by
    obtain ⟨a, b⟩ := numL_digits _ c hc
    exact decide_eq_true (by omega)
/-- the first digit of a number that is not 0 is not 0 -/
theorem head_digit : ∀ n : Nat, 0 < n → (numL n).take 1 ≠ [48] := by
  intro n
  induction n using Nat.strongRecOn with
  | _ n ih =>
    intro hn
    by_cases h : n < 10
    · rw [numL_lt h]
      intro z
      simp at z
      omega
    · rw [numL_step (by omega)]
      have k := ih (n / 10) (by omega) (by omega)
      have e : (numL (n / 10) ++ [48 + n % 10]).take 1 = (numL (n / 10)).take 1 := by
        cases q : numL (n / 10) with
        | nil => exact absurd q (numL_ne _)
        | cons a l => rfl
      rw [e]
      exact k
theorem num_starts {t : Int} (h : 0 ≤ t) (e : Txt.startswith (num t) "0" = true) : num t = "0" := by
  have z : tl ("0" : Str) = [48] := by decide +kernel
  have hA : PySem.StrLaws.At (num t) "0" (num t).length 0 := by
    unfold Txt.startswith at e
    obtain ⟨e1, e2⟩ := Bool.and_eq_true_iff.mp e
    exact ⟨of_decide_eq_true e1, e2⟩
  have p := (at_iff (by rw [z]; exact (fun q => nomatch q)) 0).mp hA
  rw [z, tl_num' h] at p
  have q : (numL t.toNat).take 1 = [48] := by
    have q2 : ((numL t.toNat).drop 0).take 1 == [48] := p
    simpa using q2
  by_cases n : 0 < t.toNat
  · exact absurd q (head_digit _ n)
  · refine ext_tl ?_
    rw [tl_num' h, z]
    have e0 : t.toNat = 0 := by omega
    rw [e0]
    exact numL_lt (by decide)
def spRN : Sp := fun vs H Q _ => ∃ t : Int, vs = [.str (num t)] ∧ V3.Idx t ∧ Q (.int t) H
section
variable {P : Program} {w : World} {K : PySem.W.Frag} {mg : Str → Option Value} {base : Heap}
theorem scReadNumber : FnScope ["text"] ["text"] (defScope sReadNumber) := ⟨rfl, rfl, rfl, by decide +kernel, rfl, by decide +kernel, by decide +kernel⟩
theorem ok_readNumber {f : Addr} {fd : FuncData} (F : Fun K "read_number" "read_number" sReadNumber f fd) (zi : mg "int" = none) : FnOk P w K mg base CX0 1 f fd ["text"] spRN := by
  refine F.ok scReadNumber (fun vs H Q E h => ?_) (fun cdv A outer s H vs Q E hr h => ?_)
  · obtain ⟨t, rfl, _⟩ := h
    rfl
  · obtain ⟨t, rfl, ok, q⟩ := h
    refine ⟨_, pss_cons (ps_if (pt_not (PW.pt (pw_and (pt_val (pe_m0 PySem.F.slot_str_isascii PySem.F.type_str_isascii mt_isascii (pv 0))) (pw_and1 (pt_val (pe_m0 PySem.F.slot_str_isdigit PySem.F.type_str_isdigit mt_isdigit (pv 0))))))) (pss_one (ps_ret pe_non)) pss_nil)
      (pss_cons (ps_if (PW.pt (pw_and (pt_val (pe_m1 PySem.F.slot_str_startswith PySem.F.type_str_startswith mt_startswith (pv 0) pe_str)) (pw_and1 (pt_cmpR op_ne (pv 0) pe_str (nomark _))))) (pss_one (ps_ret pe_non)) pss_nil)
      (pss_one (ps_ret (pe_callTy call_int_str (by rfl) zi (by decide +kernel) (pa_cons (pv 0) pa_nil))))), ?_⟩
    have t0 : 0 ≤ t := ok.1
    refine ⟨_, rfl, ⟨_, rfl⟩, _, rfl, rfl, trivial, _, rfl, ?_⟩
    rw [num_ascii t0]
    refine iteT ⟨_, rfl, ⟨_, rfl⟩, _, rfl, rfl, trivial, _, rfl, ?_⟩
    rw [num_digit t0]
    refine iteF ⟨_, rfl, ⟨_, rfl⟩, _, _, rfl, rfl, _, rfl, ?_⟩
    have e : ((t.toNat : Nat) : Int) = t := by omega
    have nl : (numL t.toNat).length ≤ 41 := numL_len (k := 41) (by decide) (by
      have := ok.2
      have p : (10 : Nat) ^ 41 = 100000000000000000000000000000000000000000 := by decide
      omega)
    have fin : tRet (tCB (fun xs H Q => ∃ a n, xs = [.str a] ∧ PySem.intText? a = some n ∧ a.length ≤ 640 ∧ Q (.int n) H) (tCons (tVar 0) tNil)) { nx := fun _ H' => Q .non H', rt := Q } (start ["text"] [V.str (num t)]) H := by
      refine ⟨_, rfl, _, t, rfl, ?_, ?_, q⟩
      · have z := int_num (n := t.toNat) (by omega)
        rw [e] at z
        exact z
      · rw [len_tl, tl_num' t0]
        omega
    cases es : Txt.startswith (num t) "0" with
    | false => exact iteF (iteF fin)
    | true =>
      refine iteT ⟨_, rfl, rfl, _, rfl, ?_⟩
      rw [num_starts t0 es] at fin ⊢
      rw [decide_eq_true rfl]
      exact iteF fin
end
end V3

set_option Elab.async false
set_option linter.all false
set_option maxRecDepth 100000
namespace V3
open PySem L2 TL
abbrev sMoveOf : Stmt := top 25
abbrev sReadMove : Stmt := top 24
abbrev sReadMoves : Stmt := top 23
abbrev sHRead : Stmt := inClass (top 21) 1
/-- where the classes stand -/
structure Cl where
  B : Addr
  T : Addr
  R : Addr
  S : Addr
  Hi : Addr
def Mv.obj (c : Cl) (dx : Addr) : Mv → HO
  | .beg a => .ins c.B dx [("amount", .int a)]
  | .take t => .ins c.T dx (two (.int t) .non)
  | .takeBy t a => .ins c.T dx (two (.int t) (.int a))
  | .right t a => .ins c.R dx (two (.int t) (.int a))
  | .shut => .ins c.S dx []
def MvAt (c : Cl) (H : Hp) (v : V) (m : Mv) : Prop := ∃ x dx, v = .ref x ∧ H x = some (m.obj c dx)
theorem MvAt.same {c : Cl} {H H' : Hp} {v : V} {m : Mv} (h : MvAt c H v m) (s : Same H H') : MvAt c H' v m := by
  obtain ⟨x, dx, e, hx⟩ := h
  exact ⟨x, dx, e, s _ _ hx⟩
theorem num_yes {i n : Int} (h : n ≤ i) : isNum (.int i) n = true := decide_eq_true h
structure MkTxt (P : Program) (w : World) (K : PySem.W.Frag) (mg : Str → Option Value) (base : Heap) (name : Str) (ps : List Str) (C : Addr) (spI : Sp) (dv : List V) : Prop where
  g : mg name = some (.ref C)
  ini : ∃ (f : Addr) (fd : FuncData), FnOk P w K mg base (L2.CX P w) 4 f fd ps spI ∧ Mk K C f ∧ Binds K fd ps [] ∧ ∃ ds, Vals dv ds ∧ Binds K fd ps ds
/-- the program's moves, how they are made -/
structure MvTxt (P : Program) (w : World) (K : PySem.W.Frag) (mg : Str → Option Value) (base : Heap) (c : Cl) (CM : Addr) : Prop where
  B : MkTxt P w K mg base "Begin" ["self", "amount"] c.B (spBegin c.B CM) []
  T : MkTxt P w K mg base "Take" ["self", "at", "amount"] c.T (spTake c.T CM) [.non]
  R : MkTxt P w K mg base "Right" ["self", "at", "amount"] c.R (spRight c.R CM) []
  S : Mk0 K c.S
  gS : mg "Shut" = some (.ref c.S)
def spMO (c : Cl) : Sp := fun vs H Q _ => ∃ (w n : Addr) (m : Mv), vs = [.ref w, .ref n] ∧ H w = some (.lst (m.evens.map V.str)) ∧ H n = some (.lst (m.nums.map V.int)) ∧ m.ok ∧
  ∀ (x dx : Addr) (H' : Hp), Same H H' → H' x = some (m.obj c dx) → Q (.ref x) H'
section
variable {P : Program} {w : World} {K : PySem.W.Frag} {mg : Str → Option Value} {base : Heap}
theorem scMoveOf : FnScope ["words", "numbers", "form"] ["words", "numbers"] (defScope sMoveOf) := ⟨rfl, rfl, rfl, by decide +kernel, rfl, by decide +kernel, by decide +kernel⟩
/-- form == (..): a new tuple, the answer by the data -/
theorem form_eq {D : Ends} {σ : L2.St} {H : Hp} {q : Addr} {fs ls : List V} {ds es : List PyData} {t : TA} {b : Bool} {A B : TS}
    (hσ : σ[2]? = some (some (.ref q))) (hq : H q = some (.tup fs)) (hf : ∀ H', DpAll K H' fs ds) (ht : ∀ Q', Q' ls H → t σ H Q') (hl : ∀ H', DpAll K H' ls es) (hz : ls.length ≤ sizeLine)
    (s1 : SeqAt.shaped (.tuple ds) = true) (s2 : SeqAt.shaped (.tuple es) = true) (e : PyData.eqv (.tuple ds) (.tuple es) = b) (k : ∀ H', Same H H' → if b = true then A D σ H' else B D σ H') :
    tIfS (tTest (tOp (rEqD K) (tVar 2) (tTup t))) A B D σ H := by
  refine ⟨_, hσ, ht _ ⟨hz, fun p np => ?_⟩⟩
  have s3 : Same H (upd H p (.tup ls)) := Same.new np
  refine ⟨.tuple ds, .tuple es, .tup (SqT.of (s3 _ _ hq)) (hf _), .tup (SqT.of upd_same) (hl _), s1, s2, _, rfl, ?_⟩
  rw [e]
  exact k _ s3
theorem ok_moveOf {f CM : Addr} {c : Cl} {fd : FuncData} (F : Fun K "move_of" "move_of" sMoveOf f fd) (zl : mg "len" = none) (T : MvTxt P w K mg base c CM) : FnOk P w K mg base CX0 6 f fd ["words", "numbers"] (spMO c) := by
  obtain ⟨f1, fd1, G1, M1, b1, _⟩ := T.B.ini
  obtain ⟨f3, fd3, G3, M3, b3, ds3, vd3, c3⟩ := T.T.ini
  obtain ⟨f5, fd5, G5, M5, b5, _⟩ := T.R.ini
  refine F.ok scMoveOf (fun vs H Q E h => ?_) (fun cdv A outer s H vs Q E hr h => ?_)
  · obtain ⟨w, n, m, rfl, _⟩ := h
    rfl
  · obtain ⟨wa, na, m, rfl, hw, hn, ok, k⟩ := h
    refine ⟨_, pss_cons (ps_set (i := 2) scMoveOf.nd rfl (Or.inl rfl) (pe_tup (StX.pa_star (pv 0) (pa_cons (pe_callB call_len_seq (by rfl) zl PySem.boot_len (pa_cons (pv 1) pa_nil)) pa_nil))))
      (pss_cons (ps_if (pt_cmpR (op_eqD hr.units) (pv 2) (pe_tup (pa_cons pe_str (pa_cons pe_int pa_nil))) (nomark _)) (pss_one (ps_ret (pe_make M1 G1 hr rfl T.B.g b1 .nil passL (pa_cons (pe_ix ix_list (pv 1) pe_int (fun _ _ => rfl)) pa_nil)))) pss_nil)
      (pss_cons (ps_if (pt_cmpR (op_eqD hr.units) (pv 2) (pe_tup (pa_cons pe_str (pa_cons pe_int pa_nil))) (nomark _)) (pss_one (ps_ret (pe_make M3 G3 hr rfl T.T.g c3 vd3 passL (pa_cons (pe_ix ix_list (pv 1) pe_int (fun _ _ => rfl)) pa_nil)))) pss_nil)
      (pss_cons (ps_if (pt_cmpR (op_eqD hr.units) (pv 2) (pe_tup (pa_cons pe_str (pa_cons pe_str (pa_cons pe_int pa_nil)))) (nomark _)) (pss_one (ps_ret (pe_make M3 G3 hr rfl T.T.g b3 .nil passL (pa_cons (pe_ix ix_list (pv 1) pe_int (fun _ _ => rfl)) (pa_cons (pe_ix ix_list (pv 1) pe_int (fun _ _ => rfl)) pa_nil))))) pss_nil)
      (pss_cons (ps_if (pt_cmpR (op_eqD hr.units) (pv 2) (pe_tup (pa_cons pe_str (pa_cons pe_str (pa_cons pe_int pa_nil)))) (nomark _)) (pss_one (ps_ret (pe_make M5 G5 hr rfl T.R.g b5 .nil passL (pa_cons (pe_ix ix_list (pv 1) pe_int (fun _ _ => rfl)) (pa_cons (pe_ix ix_list (pv 1) pe_int (fun _ _ => rfl)) pa_nil))))) pss_nil)
      (pss_cons (ps_if (pt_cmpR (op_eqD hr.units) (pv 2) (pe_tup (pa_cons pe_str (pa_cons pe_int pa_nil))) (nomark _)) (pss_one (ps_ret (pe_new0 T.S rfl T.gS))) pss_nil)
      (pss_one (ps_ret pe_non))))))), ?_⟩
    refine ⟨_, rfl, wa, _, rfl, .inr (SqL.of hw), _, rfl, na, _, rfl, .inl (SqL.of hn), ?_⟩
    rcases m with a | t | ⟨t, a⟩ | ⟨t, a⟩ | _
    · obtain ⟨a1, a2⟩ := (show Amt a from ok)
      refine ⟨(by show 2 ≤ sizeLine; decide), fun q nq => ?_⟩
      have hq : upd H q (.tup [.str "begin", .int 1]) q = some (.tup [.str "begin", .int 1]) := upd_same
      have S0 : Same H (upd H q (.tup [.str "begin", .int 1])) := Same.new nq
      change _ at hq
      show tSeq _ _ _ _ (upd H q (.tup [.str "begin", .int 1]))
      generalize upd H q (.tup [.str "begin", .int 1]) = H1 at hq S0 ⊢
      refine form_eq (fs := [.str "begin", .int 1]) (ls := [.str "begin", .int 1]) (b := true) rfl hq (fun _ => .cons (.str _) (.cons (.int _) .nil)) (fun _ h => h) (fun _ => .cons (.str _) (.cons (.int _) .nil)) (by show 2 ≤ sizeLine; decide) (by first | rfl | decide +kernel) (by first | rfl | decide +kernel) (by first | rfl | decide +kernel) (fun H2 s2 => iteT ?_)
      have SS := (S0).trans s2
      exact ⟨_, rfl, na, _, 0, _, rfl, rfl, SqL.of (SS _ _ hn), rfl, fun y dy ny ndy ne => ⟨y, dy, .int a, rfl, upd_same, .int _ (by omega), fun _ => ⟨rfl, k y dy _ (SS.trans (made_same2 ny ndy)) upd_same⟩, fun e => absurd (num_yes a1) (by rw [e]; decide)⟩⟩
    · obtain ⟨t1, t2⟩ := (show Idx t from ok)
      refine ⟨(by show 2 ≤ sizeLine; decide), fun q nq => ?_⟩
      have hq : upd H q (.tup [.str "take", .int 1]) q = some (.tup [.str "take", .int 1]) := upd_same
      have S0 : Same H (upd H q (.tup [.str "take", .int 1])) := Same.new nq
      change _ at hq
      show tSeq _ _ _ _ (upd H q (.tup [.str "take", .int 1]))
      generalize upd H q (.tup [.str "take", .int 1]) = H1 at hq S0 ⊢
      refine form_eq (fs := [.str "take", .int 1]) (ls := [.str "begin", .int 1]) (b := false) rfl hq (fun _ => .cons (.str _) (.cons (.int _) .nil)) (fun _ h => h) (fun _ => .cons (.str _) (.cons (.int _) .nil)) (by show 2 ≤ sizeLine; decide) (by first | rfl | decide +kernel) (by first | rfl | decide +kernel) (by first | rfl | decide +kernel) (fun H2 s2 => iteF ?_)
      have hq2 := s2 _ _ hq
      refine form_eq (fs := [.str "take", .int 1]) (ls := [.str "take", .int 1]) (b := true) rfl hq2 (fun _ => .cons (.str _) (.cons (.int _) .nil)) (fun _ h => h) (fun _ => .cons (.str _) (.cons (.int _) .nil)) (by show 2 ≤ sizeLine; decide) (by first | rfl | decide +kernel) (by first | rfl | decide +kernel) (by first | rfl | decide +kernel) (fun H3 s3 => iteT ?_)
      have SS := ((S0).trans s2).trans s3
      exact ⟨_, rfl, na, _, 0, _, rfl, rfl, SqL.of (SS _ _ hn), rfl, fun y dy ny ndy ne => ⟨y, dy, .int t, .non, rfl, upd_same, .int _ (by omega), .non, fun _ _ => ⟨rfl, k y dy _ (SS.trans (made_same2 ny ndy)) upd_same⟩, fun e => absurd (num_yes t1) (by rw [e]; decide), fun _ c => absurd rfl c⟩⟩
    · obtain ⟨⟨t1, t2⟩, a1, a2⟩ := (show Idx t ∧ Amt a from ok)
      refine ⟨(by show 3 ≤ sizeLine; decide), fun q nq => ?_⟩
      have hq : upd H q (.tup [.str "take", .str "by", .int 2]) q = some (.tup [.str "take", .str "by", .int 2]) := upd_same
      have S0 : Same H (upd H q (.tup [.str "take", .str "by", .int 2])) := Same.new nq
      change _ at hq
      show tSeq _ _ _ _ (upd H q (.tup [.str "take", .str "by", .int 2]))
      generalize upd H q (.tup [.str "take", .str "by", .int 2]) = H1 at hq S0 ⊢
      refine form_eq (fs := [.str "take", .str "by", .int 2]) (ls := [.str "begin", .int 1]) (b := false) rfl hq (fun _ => .cons (.str _) (.cons (.str _) (.cons (.int _) .nil))) (fun _ h => h) (fun _ => .cons (.str _) (.cons (.int _) .nil)) (by show 2 ≤ sizeLine; decide) (by first | rfl | decide +kernel) (by first | rfl | decide +kernel) (by first | rfl | decide +kernel) (fun H2 s2 => iteF ?_)
      have hq2 := s2 _ _ hq
      refine form_eq (fs := [.str "take", .str "by", .int 2]) (ls := [.str "take", .int 1]) (b := false) rfl hq2 (fun _ => .cons (.str _) (.cons (.str _) (.cons (.int _) .nil))) (fun _ h => h) (fun _ => .cons (.str _) (.cons (.int _) .nil)) (by show 2 ≤ sizeLine; decide) (by first | rfl | decide +kernel) (by first | rfl | decide +kernel) (by first | rfl | decide +kernel) (fun H3 s3 => iteF ?_)
      have hq3 := s3 _ _ hq2
      refine form_eq (fs := [.str "take", .str "by", .int 2]) (ls := [.str "take", .str "by", .int 2]) (b := true) rfl hq3 (fun _ => .cons (.str _) (.cons (.str _) (.cons (.int _) .nil))) (fun _ h => h) (fun _ => .cons (.str _) (.cons (.str _) (.cons (.int _) .nil))) (by show 3 ≤ sizeLine; decide) (by first | rfl | decide +kernel) (by first | rfl | decide +kernel) (by first | rfl | decide +kernel) (fun H4 s4 => iteT ?_)
      have SS := (((S0).trans s2).trans s3).trans s4
      exact ⟨_, rfl, na, _, 0, _, rfl, rfl, SqL.of (SS _ _ hn), rfl, _, rfl, na, _, 1, _, rfl, rfl, SqL.of (SS _ _ hn), rfl, fun y dy ny ndy ne => ⟨y, dy, .int t, .int a, rfl, upd_same, .int _ (by omega), .int _ (by omega), fun _ _ => ⟨rfl, k y dy _ (SS.trans (made_same2 ny ndy)) upd_same⟩, fun e => absurd (num_yes t1) (by rw [e]; decide), fun _ _ e => absurd (num_yes a1) (by rw [e]; decide)⟩⟩
    · obtain ⟨⟨t1, t2⟩, a1, a2⟩ := (show Idx t ∧ Amt a from ok)
      refine ⟨(by show 3 ≤ sizeLine; decide), fun q nq => ?_⟩
      have hq : upd H q (.tup [.str "right", .str "to", .int 2]) q = some (.tup [.str "right", .str "to", .int 2]) := upd_same
      have S0 : Same H (upd H q (.tup [.str "right", .str "to", .int 2])) := Same.new nq
      change _ at hq
      show tSeq _ _ _ _ (upd H q (.tup [.str "right", .str "to", .int 2]))
      generalize upd H q (.tup [.str "right", .str "to", .int 2]) = H1 at hq S0 ⊢
      refine form_eq (fs := [.str "right", .str "to", .int 2]) (ls := [.str "begin", .int 1]) (b := false) rfl hq (fun _ => .cons (.str _) (.cons (.str _) (.cons (.int _) .nil))) (fun _ h => h) (fun _ => .cons (.str _) (.cons (.int _) .nil)) (by show 2 ≤ sizeLine; decide) (by first | rfl | decide +kernel) (by first | rfl | decide +kernel) (by first | rfl | decide +kernel) (fun H2 s2 => iteF ?_)
      have hq2 := s2 _ _ hq
      refine form_eq (fs := [.str "right", .str "to", .int 2]) (ls := [.str "take", .int 1]) (b := false) rfl hq2 (fun _ => .cons (.str _) (.cons (.str _) (.cons (.int _) .nil))) (fun _ h => h) (fun _ => .cons (.str _) (.cons (.int _) .nil)) (by show 2 ≤ sizeLine; decide) (by first | rfl | decide +kernel) (by first | rfl | decide +kernel) (by first | rfl | decide +kernel) (fun H3 s3 => iteF ?_)
      have hq3 := s3 _ _ hq2
      refine form_eq (fs := [.str "right", .str "to", .int 2]) (ls := [.str "take", .str "by", .int 2]) (b := false) rfl hq3 (fun _ => .cons (.str _) (.cons (.str _) (.cons (.int _) .nil))) (fun _ h => h) (fun _ => .cons (.str _) (.cons (.str _) (.cons (.int _) .nil))) (by show 3 ≤ sizeLine; decide) (by first | rfl | decide +kernel) (by first | rfl | decide +kernel) (by first | rfl | decide +kernel) (fun H4 s4 => iteF ?_)
      have hq4 := s4 _ _ hq3
      refine form_eq (fs := [.str "right", .str "to", .int 2]) (ls := [.str "right", .str "to", .int 2]) (b := true) rfl hq4 (fun _ => .cons (.str _) (.cons (.str _) (.cons (.int _) .nil))) (fun _ h => h) (fun _ => .cons (.str _) (.cons (.str _) (.cons (.int _) .nil))) (by show 3 ≤ sizeLine; decide) (by first | rfl | decide +kernel) (by first | rfl | decide +kernel) (by first | rfl | decide +kernel) (fun H5 s5 => iteT ?_)
      have SS := ((((S0).trans s2).trans s3).trans s4).trans s5
      exact ⟨_, rfl, na, _, 0, _, rfl, rfl, SqL.of (SS _ _ hn), rfl, _, rfl, na, _, 1, _, rfl, rfl, SqL.of (SS _ _ hn), rfl, fun y dy ny ndy ne => ⟨y, dy, .int t, .int a, rfl, upd_same, .int _ (by omega), .int _ (by omega), fun _ _ => ⟨rfl, k y dy _ (SS.trans (made_same2 ny ndy)) upd_same⟩, fun e => absurd (num_yes t1) (by rw [e]; decide), fun _ e => absurd (num_yes a1) (by rw [e]; decide)⟩⟩
    · skip
      refine ⟨(by show 2 ≤ sizeLine; decide), fun q nq => ?_⟩
      have hq : upd H q (.tup [.str "shut", .int 0]) q = some (.tup [.str "shut", .int 0]) := upd_same
      have S0 : Same H (upd H q (.tup [.str "shut", .int 0])) := Same.new nq
      change _ at hq
      show tSeq _ _ _ _ (upd H q (.tup [.str "shut", .int 0]))
      generalize upd H q (.tup [.str "shut", .int 0]) = H1 at hq S0 ⊢
      refine form_eq (fs := [.str "shut", .int 0]) (ls := [.str "begin", .int 1]) (b := false) rfl hq (fun _ => .cons (.str _) (.cons (.int _) .nil)) (fun _ h => h) (fun _ => .cons (.str _) (.cons (.int _) .nil)) (by show 2 ≤ sizeLine; decide) (by first | rfl | decide +kernel) (by first | rfl | decide +kernel) (by first | rfl | decide +kernel) (fun H2 s2 => iteF ?_)
      have hq2 := s2 _ _ hq
      refine form_eq (fs := [.str "shut", .int 0]) (ls := [.str "take", .int 1]) (b := false) rfl hq2 (fun _ => .cons (.str _) (.cons (.int _) .nil)) (fun _ h => h) (fun _ => .cons (.str _) (.cons (.int _) .nil)) (by show 2 ≤ sizeLine; decide) (by first | rfl | decide +kernel) (by first | rfl | decide +kernel) (by first | rfl | decide +kernel) (fun H3 s3 => iteF ?_)
      have hq3 := s3 _ _ hq2
      refine form_eq (fs := [.str "shut", .int 0]) (ls := [.str "take", .str "by", .int 2]) (b := false) rfl hq3 (fun _ => .cons (.str _) (.cons (.int _) .nil)) (fun _ h => h) (fun _ => .cons (.str _) (.cons (.str _) (.cons (.int _) .nil))) (by show 3 ≤ sizeLine; decide) (by first | rfl | decide +kernel) (by first | rfl | decide +kernel) (by first | rfl | decide +kernel) (fun H4 s4 => iteF ?_)
      have hq4 := s4 _ _ hq3
      refine form_eq (fs := [.str "shut", .int 0]) (ls := [.str "right", .str "to", .int 2]) (b := false) rfl hq4 (fun _ => .cons (.str _) (.cons (.int _) .nil)) (fun _ h => h) (fun _ => .cons (.str _) (.cons (.str _) (.cons (.int _) .nil))) (by show 3 ≤ sizeLine; decide) (by first | rfl | decide +kernel) (by first | rfl | decide +kernel) (by first | rfl | decide +kernel) (fun H5 s5 => iteF ?_)
      have hq5 := s5 _ _ hq4
      refine form_eq (fs := [.str "shut", .int 0]) (ls := [.str "shut", .int 0]) (b := true) rfl hq5 (fun _ => .cons (.str _) (.cons (.int _) .nil)) (fun _ h => h) (fun _ => .cons (.str _) (.cons (.int _) .nil)) (by show 2 ≤ sizeLine; decide) (by first | rfl | decide +kernel) (by first | rfl | decide +kernel) (by first | rfl | decide +kernel) (fun H6 s6 => iteT ?_)
      have SS := (((((S0).trans s2).trans s3).trans s4).trans s5).trans s6
      exact fun y dy ny ndy ne => k y dy _ (SS.trans (made_same ny ndy)) upd_same
end
end V3

set_option Elab.async false
set_option linter.all false
set_option maxRecDepth 100000
namespace V3
open PySem L2 TL
abbrev sSStr : Stmt := inClass (top 20) 1
abbrev sBEq : Stmt := inClass (top 17) 1
abbrev sTEq : Stmt := inClass (top 18) 1
abbrev sREq : Stmt := inClass (top 19) 1
abbrev sSEq : Stmt := inClass (top 20) 0
section
variable {P : Program} {w : World} {K : PySem.W.Frag} {mg : Str → Option Value} {base : Heap}
theorem ok_tStr {f C : Addr} {fd : FuncData} (F : Fun K "__str__" "Take.__str__" sTStr f fd) (cl : Cls K C) (nT : NoAttr K C "at") (nA : NoAttr K C "amount") : FnOk P w K mg base CX0 1 f fd ["self"] (spTStr C) := by
  refine F.ok scTStr (fun vs H Q E h => ?_) (fun cdv A outer s H vs Q E hr h => ?_)
  · obtain ⟨x, dx, i, v, rfl, _⟩ := h
    rfl
  · obtain ⟨x, dx, i, v, rfl, hx, am, q⟩ := h
    have l := num_len am
    have e1 : ("take " : Str).length = 5 := by decide +kernel
    have e2 : (" by " : Str).length = 4 := by decide +kernel
    have e0 : (Str.empty).length = 0 := rfl
    refine ⟨_, pss_cons (ps_if (pt_cmpR op_isN (pe_fld (pv 0) rfl) pe_non (nomark _)) (pss_one (ps_ret (pe_joined (.cons pe_str (.cons (pe_fmt (pe_fld (pv 0) rfl)) .nil))))) pss_nil)
      (pss_one (ps_ret (pe_joined (.cons pe_str (.cons (pe_fmt (pe_fld (pv 0) rfl)) (.cons pe_str (.cons (pe_fmt (pe_fld (pv 0) rfl)) .nil))))))), ?_⟩
    refine ⟨_, rfl, x, C, dx, _, _, rfl, hx, cl, nA, two_am _ _, rfl, _, rfl, ?_⟩
    have l1 : (Str.empty ++ "take " ++ num i).length ≤ 5000 := by
      rw [app_len, app_len, e1, e0]
      omega
    rcases q with ⟨rfl, q⟩ | ⟨j, rfl, aj, q⟩
    · rw [decide_eq_true rfl]
      exact iteT ⟨_, rfl, small (by rw [app_len, e1, e0]; decide), _, rfl, x, C, dx, _, _, rfl, hx, cl, nT, two_at _ _, .inr ⟨i, rfl, am_log am, _, rfl, small (Nat.le_trans l1 (by decide)), q⟩⟩
    · rw [decide_eq_false (fun z => nomatch z)]
      have lj := num_len aj
      have l2 : (Str.empty ++ "take " ++ num i ++ " by ").length ≤ 6000 := by
        rw [app_len, e2]
        omega
      refine iteF ⟨_, rfl, small (by rw [app_len, e1, e0]; decide), _, rfl, x, C, dx, _, _, rfl, hx, cl, nT, two_at _ _, .inr ⟨i, rfl, am_log am, _, rfl, small (Nat.le_trans l1 (by decide)), _, rfl, small (Nat.le_trans l2 (by decide)), _, rfl, x, C, dx, _, _, rfl, hx, cl, nA, two_am _ _, .inr ⟨j, rfl, am_log aj, _, rfl, small ?_, q⟩⟩⟩
      show (Str.empty ++ "take " ++ num i ++ " by " ++ num j).length ≤ 10000
      rw [app_len]
      omega
theorem ok_rStr {f C : Addr} {fd : FuncData} (F : Fun K "__str__" "Right.__str__" sRStr f fd) (cl : Cls K C) (nT : NoAttr K C "at") (nA : NoAttr K C "amount") : FnOk P w K mg base CX0 1 f fd ["self"] (spRStr C) := by
  refine F.ok scRStr (fun vs H Q E h => ?_) (fun cdv A outer s H vs Q E hr h => ?_)
  · obtain ⟨x, dx, i, j, rfl, _⟩ := h
    rfl
  · obtain ⟨x, dx, i, j, rfl, hx, am, aj, q⟩ := h
    have l := num_len am
    have lj := num_len aj
    have e1 : ("right " : Str).length = 6 := by decide +kernel
    have e2 : (" to " : Str).length = 4 := by decide +kernel
    have e0 : (Str.empty).length = 0 := rfl
    have l1 : (Str.empty ++ "right " ++ num i).length ≤ 5000 := by
      rw [app_len, app_len, e1, e0]
      omega
    have l2 : (Str.empty ++ "right " ++ num i ++ " to ").length ≤ 6000 := by
      rw [app_len, e2]
      omega
    refine ⟨_, pss_one (ps_ret (pe_joined (.cons pe_str (.cons (pe_fmt (pe_fld (pv 0) rfl)) (.cons pe_str (.cons (pe_fmt (pe_fld (pv 0) rfl)) .nil)))))), ?_⟩
    refine ⟨_, rfl, small (by rw [app_len, e1, e0]; decide), _, rfl, x, C, dx, _, _, rfl, hx, cl, nT, two_at _ _, .inr ⟨i, rfl, am_log am, _, rfl, small (Nat.le_trans l1 (by decide)), _, rfl, small (Nat.le_trans l2 (by decide)), _, rfl, x, C, dx, _, _, rfl, hx, cl, nA, two_am _ _, .inr ⟨j, rfl, am_log aj, _, rfl, small ?_, q⟩⟩⟩
    show (Str.empty ++ "right " ++ num i ++ " to " ++ num j).length ≤ 10000
    rw [app_len]
    omega
end
/-! the text of any move, and == of moves -/
def Mv.kind : Mv → Nat
  | .beg _ => 0
  | .take _ => 1
  | .takeBy _ _ => 1
  | .right _ _ => 2
  | .shut => 3
def Cl.at (c : Cl) : Nat → Addr
  | 0 => c.B
  | 1 => c.T
  | 2 => c.R
  | _ => c.S
theorem t_text (i : Int) : tText i = (Mv.take i).text := ext_tl (by
  unfold tText Mv.text
  rw [tl_join]
  simp only [tl_append, Mv.words, List.map, joinL, sp_tl]
  have e : tl ("take " : Str) = tl ("take" : Str) ++ [32] := by decide +kernel
  rw [e]
  simp [Str.empty, tl])
theorem tb_text (i j : Int) : tbText i j = (Mv.takeBy i j).text := ext_tl (by
  unfold tbText Mv.text
  rw [tl_join]
  simp only [tl_append, Mv.words, List.map, joinL, sp_tl]
  have e : tl ("take " : Str) = tl ("take" : Str) ++ [32] := by decide +kernel
  have e2 : tl (" by " : Str) = [32] ++ tl ("by" : Str) ++ [32] := by decide +kernel
  rw [e, e2]
  simp [Str.empty, tl])
theorem r_text (i j : Int) : rText i j = (Mv.right i j).text := ext_tl (by
  unfold rText Mv.text
  rw [tl_join]
  simp only [tl_append, Mv.words, List.map, joinL, sp_tl]
  have e : tl ("right " : Str) = tl ("right" : Str) ++ [32] := by decide +kernel
  have e2 : tl (" to " : Str) = [32] ++ tl ("to" : Str) ++ [32] := by decide +kernel
  rw [e, e2]
  simp [Str.empty, tl])
theorem am_of {a : Int} (h : Amt a) : Am a := by
  unfold Amt at h
  unfold Am
  omega
/-- str of a move of a kind -/
def spMS (c : Cl) (k : Nat) : Sp := fun vs H Q _ => ∃ (x dx : Addr) (m : Mv), vs = [.ref x] ∧ H x = some (m.obj c dx) ∧ m.kind = k ∧ m.ok ∧ Q (.str m.text) H
section
variable {P : Program} {w : World} {K : PySem.W.Frag} {mg : Str → Option Value} {base : Heap}
theorem scSStr : FnScope ["self"] ["self"] (defScope sSStr) := ⟨rfl, rfl, rfl, by decide +kernel, rfl, by decide +kernel, by decide +kernel⟩
theorem ok_sStr {f : Addr} {c : Cl} {fd : FuncData} (F : Fun K "__str__" "Shut.__str__" sSStr f fd) : FnOk P w K mg base CX0 1 f fd ["self"] (spMS c 3) := by
  refine F.ok scSStr (fun vs H Q E h => ?_) (fun cdv A outer s H vs Q E hr h => ?_)
  · obtain ⟨x, dx, m, rfl, _⟩ := h
    rfl
  · obtain ⟨x, dx, m, rfl, hx, hk, ok, q⟩ := h
    refine ⟨_, pss_one (ps_ret pe_str), ?_⟩
    cases m with
    | shut =>
      have e : Mv.shut.text = "shut" := by decide +kernel
      rw [e] at q
      exact q
    | _ => cases hk
theorem ms_b {f : Addr} {c : Cl} {fd : FuncData} (G : FnOk P w K mg base CX0 1 f fd ["self"] (spBStr c.B)) : FnOk P w K mg base CX0 1 f fd ["self"] (spMS c 0) := G.imp fun vs H Q E h => by
  obtain ⟨x, dx, m, rfl, hx, hk, ok, q⟩ := h
  cases m with
  | beg a =>
    rw [← b_text] at q
    exact ⟨x, dx, a, rfl, hx, am_of ok, q⟩
  | _ => cases hk
theorem ms_t {f : Addr} {c : Cl} {fd : FuncData} (G : FnOk P w K mg base CX0 1 f fd ["self"] (spTStr c.T)) : FnOk P w K mg base CX0 1 f fd ["self"] (spMS c 1) := G.imp fun vs H Q E h => by
  obtain ⟨x, dx, m, rfl, hx, hk, ok, q⟩ := h
  cases m with
  | take i =>
    rw [← t_text] at q
    exact ⟨x, dx, i, _, rfl, hx, at_am ok, .inl ⟨rfl, q⟩⟩
  | takeBy i j =>
    rw [← tb_text] at q
    exact ⟨x, dx, i, _, rfl, hx, at_am ok.1, .inr ⟨j, rfl, am_of ok.2, q⟩⟩
  | _ => cases hk
theorem ms_r {f : Addr} {c : Cl} {fd : FuncData} (G : FnOk P w K mg base CX0 1 f fd ["self"] (spRStr c.R)) : FnOk P w K mg base CX0 1 f fd ["self"] (spMS c 2) := G.imp fun vs H Q E h => by
  obtain ⟨x, dx, m, rfl, hx, hk, ok, q⟩ := h
  cases m with
  | right i j =>
    rw [← r_text] at q
    exact ⟨x, dx, i, j, rfl, hx, at_am ok.1, am_of ok.2, q⟩
  | _ => cases hk
end
theorem mv_at (c : Cl) (m : Mv) (dx : Addr) : ∃ fs, m.obj c dx = .ins (c.at m.kind) dx fs := by
  cases m <;> exact ⟨_, rfl⟩
theorem kind_lt (m : Mv) : m.kind < 4 := by
  cases m <;> (simp only [Mv.kind]; omega)
/-- how the classes of moves tell their text -/
structure StrTxt (P : Program) (w : World) (K : PySem.W.Frag) (mg : Str → Option Value) (base : Heap) (c : Cl) : Prop where
  s : ∀ k, k < 4 → ∃ (f : Addr) (fd : FuncData), FnOk P w K mg base CX0 1 f fd ["self"] (spMS c k) ∧ PySem.W.findIn K (.ref (c.at k)) "__str__" = some (some (.ref f)) ∧ PySem.W.isFn K (.ref f) = true ∧ Binds K fd ["self"] []
/-- str(x), x any move -/
def rStrM (c : Cl) : List V → Hp → VK → Prop := fun xs H Q => ∃ v m, xs = [v] ∧ MvAt c H v m ∧ m.ok ∧ Q (.str m.text) H
theorem call_strM {X : Cx} {c : Cl} (T : StrTxt X.prog X.w X.K X.mg X.base c) (room : Room 3 X.A) : CallR X (.type "str") (rStrM c) := by
  intro pins s σ H xs us Q I r h
  obtain ⟨v, m, rfl, ⟨x, dx, rfl, hx⟩, ok, q⟩ := h
  obtain ⟨f, fd, G, at_, isf, bi⟩ := T.s m.kind (kind_lt m)
  obtain ⟨fs, eo⟩ := mv_at c m dx
  refine call_strO (E := fun _ _ _ => False) G at_ isf bi pass0 room pins s σ H _ us Q I r ⟨x, dx, fs, rfl, by rw [hx, eo], x, dx, m, rfl, hx, rfl, ok, _, rfl, q⟩
/-- what of the classes of moves is == and isinstance -/
structure MvCls (K : PySem.W.Frag) (c : Cl) (MV : Addr) : Prop where
  cl : ∀ k, k < 4 → Cls K (c.at k) ∧ PySem.W.findIn K (.ref (c.at k)) "__class__" = some (some (.builtin "object.__class__")) ∧ PySem.W.mroIn K (c.at k) (.type "object") = some true ∧ PySem.W.kitOne K (.ref (c.at k)) (.ref MV) = some true
  gn : PySem.W.specialIn K (.builtin "object.__class__") "__get__" = some (some (.builtin "getset_descriptor.__get__"))
  tk : PySem.W.takesIn K (.builtin "object.__class__") = some true
  nf : ∀ k, k < 4 → ∀ j, j < 4 → PySem.W.notFirst K (c.at k) (.ref (c.at j)) = true
def spMEq (c : Cl) : Sp := fun vs H Q _ => ∃ (u v : V) (m n : Mv), vs = [u, v] ∧ MvAt c H u m ∧ MvAt c H v n ∧ m.ok ∧ n.ok ∧ Q (.bl (decide (m.text = n.text))) H
section
variable {P : Program} {w : World} {K : PySem.W.Frag} {mg : Str → Option Value} {base : Heap}
theorem scBEq : FnScope ["self", "other"] ["self", "other"] (defScope sBEq) := ⟨rfl, rfl, rfl, by decide +kernel, rfl, by decide +kernel, by decide +kernel⟩
theorem scTEq : FnScope ["self", "other"] ["self", "other"] (defScope sTEq) := ⟨rfl, rfl, rfl, by decide +kernel, rfl, by decide +kernel, by decide +kernel⟩
theorem scREq : FnScope ["self", "other"] ["self", "other"] (defScope sREq) := ⟨rfl, rfl, rfl, by decide +kernel, rfl, by decide +kernel, by decide +kernel⟩
theorem scSEq : FnScope ["self", "other"] ["self", "other"] (defScope sSEq) := ⟨rfl, rfl, rfl, by decide +kernel, rfl, by decide +kernel, by decide +kernel⟩
structure BltE (mg : Str → Option Value) : Prop where
  isi : mg "isinstance" = none
  str : mg "str" = none
theorem meq_run {c : Cl} {MV : Addr} {H : Hp} {u v : V} {m n : Mv} {Q : VK} (C : MvCls K c MV) (hu : MvAt c H u m) (hv : MvAt c H v n) (mo : m.ok) (no : n.ok) (q : Q (.bl (decide (m.text = n.text))) H) :
    tAndV (tCB (rIsi K) (tCons (tVar 1) (tCons (tC (.ref MV)) tNil))) (tOp rEq (tCB (rStrM c) (tCons (tVar 0) tNil)) (tCB (rStrM c) (tCons (tVar 1) tNil))) (start ["self", "other"] [u, v]) H Q := by
  obtain ⟨y, dy, rfl, hy⟩ := id hv
  obtain ⟨fs, eo⟩ := mv_at c n dy
  obtain ⟨cl, ca, mr, ki⟩ := C.cl n.kind (kind_lt n)
  refine ⟨_, rfl, _, _, _, _, _, rfl, .own MV, .base (.ins (by rw [hy, eo]) cl ca C.gn C.tk mr), ki, _, rfl, iteT ⟨_, rfl, u, m, rfl, hu, mo, _, rfl, _, n, rfl, hv, no, rfl, ?_⟩⟩
  have e : (V.str m.text = V.str n.text) ↔ (m.text = n.text) := ⟨fun z => by injection z, fun z => by rw [z]⟩
  have e2 : decide (V.str m.text = V.str n.text) = decide (m.text = n.text) := by
    by_cases h : m.text = n.text
    · rw [decide_eq_true h, decide_eq_true (e.mpr h)]
    · rw [decide_eq_false h, decide_eq_false (fun z => h (e.mp z))]
  rw [e2]
  exact q
theorem ok_bEq {f MV : Addr} {c : Cl} {fd : FuncData} (F : Fun K "__eq__" "Begin.__eq__" sBEq f fd) (T : BltE mg) (S : StrTxt P w K mg base c) (C : MvCls K c MV) (gM : mg "Move" = some (.ref MV)) : FnOk P w K mg base CX0 4 f fd ["self", "other"] (spMEq c) := by
  refine F.ok scBEq (fun vs H Q E h => ?_) (fun cdv A outer s H vs Q E hr h => ?_)
  · obtain ⟨u, v, m, n, rfl, _⟩ := h
    rfl
  · obtain ⟨u, v, m, n, rfl, hu, hv, mo, no, q⟩ := h
    exact ⟨_, pss_one (ps_ret (pe_and (pe_callB call_isi (by rfl) T.isi (by decide +kernel) (pa_cons (pv 1) (pa_cons (pe_glob (v := .ref MV) rfl gM rfl) pa_nil))) (pe_one (pe_cmpR op_eq (pe_callTy (call_strM S hr) (by rfl) T.str (by decide +kernel) (pa_cons (pv 0) pa_nil)) (pe_callTy (call_strM S hr) (by rfl) T.str (by decide +kernel) (pa_cons (pv 1) pa_nil)) (nomark _))))),
      meq_run C hu hv mo no q⟩
theorem ok_tEq {f MV : Addr} {c : Cl} {fd : FuncData} (F : Fun K "__eq__" "Take.__eq__" sTEq f fd) (T : BltE mg) (S : StrTxt P w K mg base c) (C : MvCls K c MV) (gM : mg "Move" = some (.ref MV)) : FnOk P w K mg base CX0 4 f fd ["self", "other"] (spMEq c) := by
  refine F.ok scTEq (fun vs H Q E h => ?_) (fun cdv A outer s H vs Q E hr h => ?_)
  · obtain ⟨u, v, m, n, rfl, _⟩ := h
    rfl
  · obtain ⟨u, v, m, n, rfl, hu, hv, mo, no, q⟩ := h
    exact ⟨_, pss_one (ps_ret (pe_and (pe_callB call_isi (by rfl) T.isi (by decide +kernel) (pa_cons (pv 1) (pa_cons (pe_glob (v := .ref MV) rfl gM rfl) pa_nil))) (pe_one (pe_cmpR op_eq (pe_callTy (call_strM S hr) (by rfl) T.str (by decide +kernel) (pa_cons (pv 0) pa_nil)) (pe_callTy (call_strM S hr) (by rfl) T.str (by decide +kernel) (pa_cons (pv 1) pa_nil)) (nomark _))))),
      meq_run C hu hv mo no q⟩
theorem ok_rEq' {f MV : Addr} {c : Cl} {fd : FuncData} (F : Fun K "__eq__" "Right.__eq__" sREq f fd) (T : BltE mg) (S : StrTxt P w K mg base c) (C : MvCls K c MV) (gM : mg "Move" = some (.ref MV)) : FnOk P w K mg base CX0 4 f fd ["self", "other"] (spMEq c) := by
  refine F.ok scREq (fun vs H Q E h => ?_) (fun cdv A outer s H vs Q E hr h => ?_)
  · obtain ⟨u, v, m, n, rfl, _⟩ := h
    rfl
  · obtain ⟨u, v, m, n, rfl, hu, hv, mo, no, q⟩ := h
    exact ⟨_, pss_one (ps_ret (pe_and (pe_callB call_isi (by rfl) T.isi (by decide +kernel) (pa_cons (pv 1) (pa_cons (pe_glob (v := .ref MV) rfl gM rfl) pa_nil))) (pe_one (pe_cmpR op_eq (pe_callTy (call_strM S hr) (by rfl) T.str (by decide +kernel) (pa_cons (pv 0) pa_nil)) (pe_callTy (call_strM S hr) (by rfl) T.str (by decide +kernel) (pa_cons (pv 1) pa_nil)) (nomark _))))),
      meq_run C hu hv mo no q⟩
theorem ok_sEq {f MV : Addr} {c : Cl} {fd : FuncData} (F : Fun K "__eq__" "Shut.__eq__" sSEq f fd) (T : BltE mg) (S : StrTxt P w K mg base c) (C : MvCls K c MV) (gM : mg "Move" = some (.ref MV)) : FnOk P w K mg base CX0 4 f fd ["self", "other"] (spMEq c) := by
  refine F.ok scSEq (fun vs H Q E h => ?_) (fun cdv A outer s H vs Q E hr h => ?_)
  · obtain ⟨u, v, m, n, rfl, _⟩ := h
    rfl
  · obtain ⟨u, v, m, n, rfl, hu, hv, mo, no, q⟩ := h
    exact ⟨_, pss_one (ps_ret (pe_and (pe_callB call_isi (by rfl) T.isi (by decide +kernel) (pa_cons (pv 1) (pa_cons (pe_glob (v := .ref MV) rfl gM rfl) pa_nil))) (pe_one (pe_cmpR op_eq (pe_callTy (call_strM S hr) (by rfl) T.str (by decide +kernel) (pa_cons (pv 0) pa_nil)) (pe_callTy (call_strM S hr) (by rfl) T.str (by decide +kernel) (pa_cons (pv 1) pa_nil)) (nomark _))))),
      meq_run C hu hv mo no q⟩
end
end V3

set_option Elab.async false
set_option linter.all false
set_option maxRecDepth 100000
namespace V3
open PySem L2 TL
/-- the tuple that a move is drawn as -/
def Mv.tupV : Mv → List V
  | .beg a => [.str "begin", .int a]
  | .take t => [.str "take", .int t, .int 0]
  | .takeBy t a => [.str "take", .int t, .int a]
  | .right t a => [.str "right", .int t, .int a]
  | .shut => [.str "shut"]
def TupAt (H : Hp) (v : V) (m : Mv) : Prop := ∃ p, v = .ref p ∧ H p = some (.tup m.tupV)
theorem TupAt.same {H H' : Hp} {v : V} {m : Mv} (h : TupAt H v m) (s : Same H H') : TupAt H' v m := by
  obtain ⟨p, e, hp⟩ := h
  exact ⟨p, e, s _ _ hp⟩
def spText : Sp := fun vs H Q _ => ∃ (v : V) (m : Mv), vs = [v] ∧ TupAt H v m ∧ m.ok ∧ Q (.str m.text) H
end V3

set_option Elab.async false
set_option linter.all false
set_option maxRecDepth 100000
namespace V3
open PySem L2 TL
abbrev sIsRows : Stmt := top 49
abbrev sHasRow : Stmt := top 50
abbrev sHsInit : Stmt := inClass (top 47) 0
abbrev sHsLen : Stmt := inClass (top 47) 4
/-! houses -/
def checkL : List Str := ["left", "all"]
def depthL : List Str := ["depth 0", "depth 1", "depth 2", "depth 3", "depth 4"]
structure Hs where
  d : Int
  ch : Str
  rs : List Rw
  deriving DecidableEq
def Hs.ok (h : Hs) : Prop := 0 ≤ h.d ∧ h.d ≤ 4 ∧ h.ch ∈ checkL ∧ (∀ m ∈ h.rs, m.ok ∧ m.kind = 0) ∧ h.rs.length ≤ 100
def hsF (d ch q : V) : List (Str × V) := [("depth", d), ("check", ch), ("rows", q)]
theorem hs_put (d ch q : V) : putF "rows" q (putF "check" ch (putF "depth" d [])) = hsF d ch q := by
  have a1 : ("depth" : Str) ≠ "check" := by decide +kernel
  have a2 : ("depth" : Str) ≠ "rows" := by decide +kernel
  have a3 : ("check" : Str) ≠ "rows" := by decide +kernel
  show putF "rows" q (putF "check" ch [("depth", d)]) = _
  rw [putF_ne a1]
  show putF "rows" q [("depth", d), ("check", ch)] = _
  rw [putF_ne a2, putF_ne a3]
  rfl
theorem hs_d (d ch q : V) : (hsF d ch q).lookup ("depth" : Str) = some d := rfl
theorem hs_ch (d ch q : V) : (hsF d ch q).lookup ("check" : Str) = some ch := by
  unfold hsF
  rw [lk_ne (by decide +kernel)]
  rfl
theorem hs_rs (d ch q : V) : (hsF d ch q).lookup ("rows" : Str) = some q := by
  unfold hsF
  rw [lk_ne (by decide +kernel), lk_ne (by decide +kernel)]
  rfl
/-- objects of rows, one after another -/
def RwLs (c : Rc) (H : Hp) (us : List V) (ms : List Rw) : Prop := Ls (RwAt c H) us ms
theorem RwLs.keep {c : Rc} {H H' : Hp} {us : List V} {ms : List Rw} (d : RwLs c H us ms) (s : Keep H H') : RwLs c H' us ms := d.imp fun _ _ h => h.keep s
theorem RwLs.same {c : Rc} {H H' : Hp} {us : List V} {ms : List Rw} (d : RwLs c H us ms) (s : Same H H') : RwLs c H' us ms := d.keep (Keep.of s)
/-- a tuple, tracked or written -/
def TupK (K : PySem.W.Frag) (H : Hp) (q : Addr) (us : List V) : Prop := H q = some (.tup us) ∨ ∀ H', SqT K H' q us
theorem TupK.sq {K : PySem.W.Frag} {H : Hp} {q : Addr} {us : List V} (h : TupK K H q us) : SqT K H q us := h.elim SqT.of fun z => z H
theorem TupK.keep {K : PySem.W.Frag} {H H' : Hp} {q : Addr} {us : List V} (h : TupK K H q us) (s : Keep H H') : TupK K H' q us := h.elim (fun z => .inl (s _ _ (fun _ y => by cases y) z)) .inr
theorem TupK.same {K : PySem.W.Frag} {H H' : Hp} {q : Addr} {us : List V} (h : TupK K H q us) (s : Same H H') : TupK K H' q us := h.keep (Keep.of s)
def HsAt (K : PySem.W.Frag) (c : Rc) (C : Addr) (H : Hp) (v : V) (h : Hs) : Prop := ∃ x dx q us, v = .ref x ∧ H x = some (.ins C dx (hsF (.int h.d) (.str h.ch) (.ref q))) ∧ TupK K H q us ∧ RwLs c H us h.rs
theorem HsAt.keep {K : PySem.W.Frag} {c : Rc} {C : Addr} {H H' : Hp} {v : V} {h : Hs} (a : HsAt K c C H v h) (s : Keep H H') : HsAt K c C H' v h := by
  obtain ⟨x, dx, q, us, e, hx, hq, r⟩ := a
  exact ⟨x, dx, q, us, e, s _ _ (fun _ z => by cases z) hx, hq.keep s, r.keep s⟩
theorem HsAt.same {K : PySem.W.Frag} {c : Rc} {C : Addr} {H H' : Hp} {v : V} {h : Hs} (a : HsAt K c C H v h) (s : Same H H') : HsAt K c C H' v h := a.keep (Keep.of s)
structure BltK (mg : Str → Option Value) : Prop where
  isi : mg "isinstance" = none
  int : mg "int" = none
  bool : mg "bool" = none
  list : mg "list" = none
  tuple : mg "tuple" = none
  all : mg "all" = none
  len : mg "len" = none
  str : mg "str" = none
/-- the written tuples and lists of the module -/
structure HsT (K : PySem.W.Frag) (mg : Str → Option Value) (CA DA : Addr) : Prop where
  checks : mg "CHECKS" = some (.ref CA)
  depths : mg "DEPTH_LINES" = some (.ref DA)
  tC : ∀ H, SqT K H CA (checkL.map V.str)
  tD : ∀ H, SqT K H DA (depthL.map V.str)
/-- what House's class must have -/
structure HsC (K : PySem.W.Frag) (C : Addr) : Prop where
  cl : Cls K C
  d : NoAttr K C "depth"
  ch : NoAttr K C "check"
  rs : NoAttr K C "rows"
/-- what Let's class must be to isinstance -/
structure LetI (K : PySem.W.Frag) (c : Rc) : Prop where
  cl : Cls K c.L
  ca : PySem.W.findIn K (.ref c.L) "__class__" = some (some (.builtin "object.__class__"))
  mr : PySem.W.mroIn K c.L (.type "object") = some true
  gn : PySem.W.specialIn K (.builtin "object.__class__") "__get__" = some (some (.builtin "getset_descriptor.__get__"))
  tk : PySem.W.takesIn K (.builtin "object.__class__") = some true
  ki : PySem.W.kitOne K (.ref c.L) (.ref c.L) = some true
def spNumI : Sp := fun vs H Q _ => ∃ i : Int, vs = [.int i] ∧ Q (.bl (decide (0 ≤ i))) H
def spIsRows (c : Rc) : Sp := fun vs H Q _ => ∃ (a : Addr) (us : List V) (ms : List Rw), vs = [.ref a] ∧ H a = some (.lst us) ∧ RwLs c H us ms ∧ (∀ m ∈ ms, m.kind = 0) ∧ ms.length ≤ 1000 ∧ ∀ H', Same H H' → Q (.bl true) H'
def spHsInit (K : PySem.W.Frag) (c : Rc) (C : Addr) : Sp := fun vs H Q _ => ∃ (x dx l : Addr) (us : List V) (h : Hs), vs = [.ref x, .int h.d, .str h.ch, .ref l] ∧ H x = some (.ins C dx []) ∧ H l = some (.lst us) ∧ RwLs c H us h.rs ∧ h.ok ∧
  ∀ H', SameX x H H' → HsAt K c C H' (.ref x) h → Q .non H'
def spHsLen (K : PySem.W.Frag) (c : Rc) (C : Addr) : Sp := fun vs H Q _ => ∃ (v : V) (h : Hs), vs = [v] ∧ HsAt K c C H v h ∧ Q (.int (h.rs.length : Int)) H
/-- whether a whole number is the number of a row -/
def hasRow (h : Hs) (i : Int) : Bool := decide (0 ≤ i) && decide (i < (h.rs.length : Int))
def spHasRow (K : PySem.W.Frag) (c : Rc) (C : Addr) : Sp := fun vs H Q _ => ∃ (v : V) (h : Hs) (i : Int), vs = [v, .int i] ∧ HsAt K c C H v h ∧ Q (.bl (hasRow h i)) H
theorem kit_lt {K : PySem.W.Frag} : PySem.W.kitAny K (.type "list") [.type "list", .type "tuple"] = some true :=
  kitAny_cons (show PySem.W.kitOne K (.type "list") (.type "list") = some true from kit_ty (by decide +kernel)) (fun z => nomatch z) (fun z => rfl)
theorem repl_bl (n : Nat) : List.replicate n (V.bl true) = (List.replicate n true).map V.bl := by
  rw [List.map_replicate]
section
variable {P : Program} {w : World} {K : PySem.W.Frag} {mg : Str → Option Value} {base : Heap}
theorem scIsRows : FnScope ["value", "item"] ["value"] (defScope sIsRows) := ⟨rfl, rfl, rfl, by decide +kernel, rfl, by decide +kernel, by decide +kernel⟩
theorem scHasRow : FnScope ["house", "at"] ["house", "at"] (defScope sHasRow) := ⟨rfl, rfl, rfl, by decide +kernel, rfl, by decide +kernel, by decide +kernel⟩
theorem scHsInit : FnScope ["self", "depth", "check", "rows"] ["self", "depth", "check", "rows"] (defScope sHsInit) := ⟨rfl, rfl, rfl, by decide +kernel, rfl, by decide +kernel, by decide +kernel⟩
theorem scHsLen : FnScope ["self"] ["self"] (defScope sHsLen) := ⟨rfl, rfl, rfl, by decide +kernel, rfl, by decide +kernel, by decide +kernel⟩
theorem ok_intK {f : Addr} {fd : FuncData} (F : Fun K "is_integer" "is_integer" sIsInt f fd) (T : BltK mg) : FnOk P w K mg base CX0 1 f fd ["value"] spIntI := by
  refine F.ok scIsInt (fun vs H Q E h => ?_) (fun cdv A outer s H vs Q E hr h => ?_)
  · obtain ⟨v, rfl, _⟩ := h
    rfl
  · obtain ⟨i, rfl, q⟩ := h
    refine ⟨_, pss_one (ps_ret (pe_and (pe_callB call_isi (by rfl) T.isi (by decide +kernel) (pa_cons (pv 0) (pa_cons (pe_bltn (v := .ty "int") (by rfl) T.int (by decide +kernel) rfl) pa_nil)))
      (pe_one (pe_not (pe_callB call_isi (by rfl) T.isi (by decide +kernel) (pa_cons (pv 0) (pa_cons (pe_bltn (v := .ty "bool") (by rfl) T.bool (by decide +kernel) rfl) pa_nil))))))), ?_⟩
    refine ⟨_, rfl, _, _, _, _, _, rfl, .ty "int", .base (.int i), (show PySem.W.kitOne K (.type "int") (.type "int") = some true from kit_ty (by decide +kernel)), _, rfl, iteT ?_⟩
    exact ⟨_, rfl, _, _, _, _, _, rfl, .ty "bool", .base (.int i), (show PySem.W.kitOne K (.type "int") (.type "bool") = some false from kit_ty (by decide +kernel)), _, rfl, q⟩
theorem ok_numK {f : Addr} {fd : FuncData} (F : Fun K "is_number" "is_number" sIsNum f fd) (cI : Cal P w K mg base CX0 "is_integer" 1 ["value"] spIntI) : FnOk P w K mg base CX0 2 f fd ["value"] spNumI := by
  obtain ⟨fI, fdI, GI, mI, kI, bI⟩ := cI
  refine F.ok scIsNum (fun vs H Q E h => ?_) (fun cdv A outer s H vs Q E hr h => ?_)
  · obtain ⟨v, rfl, _⟩ := h
    rfl
  · obtain ⟨i, rfl, q⟩ := h
    refine ⟨_, pss_one (ps_ret (pe_and (pe_call GI hr rfl mI kI bI .nil pass0 (pa_cons (pv 0) pa_nil)) (pe_one (pe_cmpR op_ge (pv 0) pe_int (nomark _))))), ?_⟩
    exact ⟨_, rfl, i, rfl, _, rfl, iteT ⟨_, rfl, _, _, rfl, rfl, q⟩⟩
theorem ok_isRows {f : Addr} {c : Rc} {fd : FuncData} (F : Fun K "is_rows" "is_rows" sIsRows f fd) (T : BltK mg) (C : LetI K c) (gL : mg "Let" = some (.ref c.L)) : FnOk P w K mg base CX0 1 f fd ["value"] (spIsRows c) := by
  refine F.ok scIsRows (fun vs H Q E h => ?_) (fun cdv A outer s H vs Q E hr h => ?_)
  · obtain ⟨a, us, ms, rfl, _⟩ := h
    rfl
  · obtain ⟨a, us, ms, rfl, ha, rl, kd, n, k⟩ := h
    refine ⟨_, pss_one (ps_ret (pe_and (pe_callB call_isiT (by rfl) T.isi (by decide +kernel) (pa_cons (pv 0) (pa_cons (pe_tup (pa_cons (pe_bltn (v := .ty "list") (by rfl) T.list (by decide +kernel) rfl) (pa_cons (pe_bltn (v := .ty "tuple") (by rfl) T.tuple (by decide +kernel) rfl) pa_nil))) pa_nil)))
        (pe_one (pe_callB (cr_all rfl) (by rfl) T.all (by decide +kernel) (pa_cons (pe_lc (own := [("item", 1)]) (g := gName 1) (tt := tYes) (te := tCB (rIsi K) (tCons (tVar 1) (tCons (tC (.ref c.L)) tNil))) (by rfl) scIsRows.nd (pi_list (pv 0)) (blkOk_by (own := [("item", 1)]) (N := ["value", "item"]) (sc := defScope sIsRows) (by decide +kernel)) (fun _ _ _ _ _ => pg_name (i := 1) scIsRows.nd rfl (Or.inl rfl)) (fun _ _ _ _ _ => pts_nil)
          (fun _ _ _ _ _ => pe_callB call_isi (by rfl) T.isi (by decide +kernel) (pa_cons (pv 1) (pa_cons (pe_glob (v := .ref c.L) rfl gL rfl) pa_nil)))) pa_nil))))), ?_⟩
    refine ⟨_, rfl, (by show 2 ≤ sizeLine; decide), fun tp ntp => ?_⟩
    have s1 : Same H (upd H tp (.tup [.ty "list", .ty "tuple"])) := Same.new ntp
    have ht : upd H tp (.tup [.ty "list", .ty "tuple"]) tp = some (.tup [.ty "list", .ty "tuple"]) := upd_same
    generalize upd H tp (.tup [.ty "list", .ty "tuple"]) = H1 at s1 ht ⊢
    have ha1 := s1 _ _ ha
    have rl1 := rl.same s1
    have lx : us.length = ms.length := rl.1
    refine ⟨_, tp, _, _, _, _, rfl, ht, .cons (.ty "list") (.cons (.ty "tuple") .nil), .base (.lst ha1), kit_lt, _, rfl, iteT ?_⟩
    refine ⟨_, rfl, a, rfl, ⟨us, SqL.of ha1⟩, fun D nD => ?_⟩
    refine lc_list (K := K) (a := a) (xs := us) (fun i Hh => Same H1 Hh ∧ H1 D = none ∧ Hh D = some (.lst (List.replicate i (V.bl true)))) ⟨Same.new nD, nD, upd_same⟩ (fun i Hh _ p => SqL.of (p.1 _ _ ha1)) ?_ ?_
    · intro i z Hh hi p
      have il : i < us.length := (List.getElem?_eq_some_iff.mp hi).1
      obtain ⟨m, em, mz⟩ := Ls.get rl1 hi
      obtain ⟨y, dy, rfl, hy⟩ := mz.same p.1
      have km := kd m (List.mem_of_getElem? em)
      refine ⟨rfl, ?_⟩
      unfold tYes
      dsimp only
      have hy2 : Hh y = some (.ins c.L dy m.fs) := by
        rw [hy]
        show some (HO.ins (c.at m.kind) dy m.fs) = _
        rw [km]
        rfl
      refine iteT ⟨_, rfl, _, _, _, _, _, rfl, .own c.L, .base (.ins hy2 C.cl C.ca C.gn C.tk C.mr), C.ki, _, p.2.2, ?_, fun d o h => ?_, p.2.1, ?_⟩
      · rw [List.length_replicate]
        exact Nat.lt_of_lt_of_le (m := 1001) (by omega) (by decide)
      · rw [upd_ne (ne_of_none h p.2.1)]
        exact p.1 d o h
      · rw [upd_same, List.replicate_succ']
    · intro Hh p
      obtain ⟨s2, _, e⟩ := p
      refine ⟨D, List.replicate us.length true, rfl, SqL.of (by rw [e, repl_bl]), ?_⟩
      have z : (List.replicate us.length true).all id = true := by
        rw [List.all_eq_true]
        intro x hx
        rw [List.eq_of_mem_replicate hx]
        rfl
      rw [z]
      exact k _ (s1.trans s2)
theorem ok_hsInit {f CA DA C : Addr} {c : Rc} {fd : FuncData} {dvs : List V} (F : FunD K "__init__" "House.__init__" (defArgs sHsInit) (defBody sHsInit) (defScope sHsInit) dvs [] f fd) (T : BltK mg) (X : HsT K mg CA DA) (L : HsC K C)
    (cN : Cal P w K mg base CX0 "is_number" 2 ["value"] spNumI) (cR : Cal P w K mg base CX0 "is_rows" 1 ["value"] (spIsRows c)) : FnOk P w K mg base CX0 4 f fd ["self", "depth", "check", "rows"] (spHsInit K c C) := by
  obtain ⟨fN, fdN, GN, mN, kN, bN⟩ := cN
  obtain ⟨fR, fdR, GR, mR, kR, bR⟩ := cR
  refine F.ok scHsInit (fun vs H Q E h => ?_) (fun cdv A outer s H vs Q E hr h => ?_)
  · obtain ⟨x, dx, l, us, h, rfl, _⟩ := h
    rfl
  · obtain ⟨x, dx, l, us, h, rfl, hx, hl, rl, ok, q⟩ := h
    obtain ⟨d0, d4, hc, hm, hn⟩ := ok
    refine ⟨_, pss_cons (ps_if (pt_not (PW.pt (pw_and (pt_val (pe_call GN (hr.mono (by decide)) rfl mN kN bN .nil pass0 (pa_cons (pv 1) pa_nil))) (pw_and1 (pt_cmpR op_lt (pv 1) (pe_callB call_len_seq (by rfl) T.len PySem.boot_len (pa_cons (pe_glob (v := .ref DA) rfl X.depths rfl) pa_nil)) (nomark _)))))) (pss_one ps_never) pss_nil)
      (pss_cons (ps_if (pt_cmpR op_notIn_seq (pv 2) (pe_glob (v := .ref CA) rfl X.checks rfl) rfl) (pss_one ps_never) pss_nil)
      (pss_cons (ps_if (pt_not (pt_val (pe_call GR (hr.mono (by decide)) rfl mR kR bR .nil pass0 (pa_cons (pv 3) pa_nil)))) (pss_one ps_never) pss_nil)
      (pss_cons (ps_fld (pv 0) (pv 1) rfl)
      (pss_cons (ps_fld (pv 0) (pv 2) rfl)
      (pss_one (ps_fld (pv 0) (pe_callTy call_tuple_of (by rfl) T.tuple (by decide +kernel) (pa_cons (pv 3) pa_nil)) rfl)))))), ?_⟩
    refine ⟨_, rfl, h.d, rfl, _, rfl, ?_⟩
    rw [decide_eq_true d0]
    refine iteT ⟨_, rfl, DA, _, rfl, .inr (X.tD _), _, _, rfl, rfl, _, rfl, ?_⟩
    rw [decide_eq_true (show h.d < ((depthL.map V.str).length : Int) by show h.d < 5; omega)]
    refine iteF ⟨_, rfl, CA, _, rfl, .inr (X.tC _), rfl, flat_strs _, _, rfl, ?_⟩
    rw [inV_str, decide_eq_true hc]
    refine iteF ⟨_, rfl, l, us, h.rs, rfl, hl, rl, fun m z => (hm m z).2, by omega, fun H1 s1 => ⟨_, rfl, iteF ?_⟩⟩
    have hx1 := s1 _ _ hx
    have hl1 := s1 _ _ hl
    have nlx : l ≠ x := fun z => by rw [z, hx] at hl; cases hl
    refine ⟨_, rfl, _, rfl, x, C, dx, _, rfl, hx1, L.cl, L.d, (by show 0 < 1000; decide), ?_⟩
    refine ⟨_, rfl, _, rfl, x, C, dx, _, rfl, upd_same, L.cl, L.ch, (by show 1 < 1000; decide), ?_⟩
    rw [upd_upd]
    refine ⟨_, rfl, l, us, rfl, .inl ⟨SqL.of (by rw [upd_ne nlx]; exact hl1), fun t nt => ?_⟩⟩
    have ntx : x ≠ t := ne_of_none upd_same nt
    refine ⟨_, rfl, x, C, dx, _, rfl, (by rw [upd_ne ntx]; exact upd_same), L.cl, L.rs, (lt_put (n := 999) (lt_put (n := 998) (by show 0 < 998; decide))), ?_⟩
    rw [hs_put]
    have nt1 : H1 t = none := by
      rw [upd_ne (Ne.symm ntx)] at nt
      exact nt
    have sx : ∀ b o, b ≠ x → H b = some o → (upd (upd (upd H1 x (HO.ins C dx (putF "check" (V.str h.ch) (putF "depth" (V.int h.d) [])))) t (.tup us)) x (.ins C dx (hsF (.int h.d) (.str h.ch) (.ref t)))) b = some o := fun b o nb e => by
      rw [upd_ne nb, upd_ne (ne_of_none (s1 _ _ e) nt1), upd_ne nb]
      exact s1 _ _ e
    refine q _ (fun b o nb e => sx b o nb e) ⟨x, dx, t, us, rfl, upd_same, .inl (by rw [upd_ne (Ne.symm ntx)]; exact upd_same), ?_⟩
    refine Ls.imp rl fun v m a => ?_
    obtain ⟨y, dy, rfl, hy⟩ := a
    have nyx : y ≠ x := fun z => by
      rw [z, hx] at hy
      have e := Option.some.inj hy
      cases m <;> cases e
    exact ⟨y, dy, rfl, sx y _ nyx hy⟩
theorem ok_hsLen {f C : Addr} {c : Rc} {fd : FuncData} (F : Fun K "__len__" "House.__len__" sHsLen f fd) (T : BltK mg) (L : HsC K C) : FnOk P w K mg base CX0 1 f fd ["self"] (spHsLen K c C) := by
  refine F.ok scHsLen (fun vs H Q E h => ?_) (fun cdv A outer s H vs Q E hr h => ?_)
  · obtain ⟨v, h, rfl, _⟩ := h
    rfl
  · obtain ⟨v, h, rfl, ⟨x, dx, q, us, rfl, hx, hq, rl⟩, k⟩ := h
    refine ⟨_, pss_one (ps_ret (pe_callB call_len_seq (by rfl) T.len PySem.boot_len (pa_cons (pe_fld (pv 0) rfl) pa_nil))), ?_⟩
    rw [← rl.1] at k
    exact ⟨_, rfl, x, C, dx, _, _, rfl, hx, L.cl, L.rs, hs_rs .., q, us, rfl, .inr hq.sq, k⟩
theorem ok_hasRow {f C : Addr} {c : Rc} {fd : FuncData} (F : Fun K "has_row" "has_row" sHasRow f fd) (T : BltK mg) (L : HsC K C) : FnOk P w K mg base CX0 1 f fd ["house", "at"] (spHasRow K c C) := by
  refine F.ok scHasRow (fun vs H Q E h => ?_) (fun cdv A outer s H vs Q E hr h => ?_)
  · obtain ⟨v, h, i, rfl, _⟩ := h
    rfl
  · obtain ⟨v, h, i, rfl, ⟨x, dx, q, us, rfl, hx, hq, rl⟩, k⟩ := h
    refine ⟨_, pss_one (ps_ret (pe_chain op_le op_lt pe_int (pv 1) (pe_callB call_len_seq (by rfl) T.len PySem.boot_len (pa_cons (pe_fld (pv 0) rfl) pa_nil)))), ?_⟩
    refine ⟨_, rfl, _, _, rfl, rfl, _, rfl, ?_⟩
    by_cases i0 : 0 ≤ i
    · rw [decide_eq_true i0]
      refine iteT ⟨_, rfl, x, C, dx, _, _, rfl, hx, L.cl, L.rs, hs_rs .., q, us, rfl, .inr hq.sq, _, _, rfl, rfl, ?_⟩
      unfold hasRow at k
      rw [decide_eq_true i0, Bool.true_and, ← rl.1] at k
      exact k
    · rw [decide_eq_false i0]
      refine iteF ?_
      unfold hasRow at k
      rw [decide_eq_false i0, Bool.false_and] at k
      exact k
end
end V3

set_option Elab.async false
set_option linter.all false
set_option maxRecDepth 100000
namespace V3
open PySem L2 TL
abbrev sHsStr : Stmt := inClass (top 47) 11
abbrev sHsEq : Stmt := inClass (top 47) 10
abbrev sPlaced : Stmt := inClass (top 47) 2
/-! houses: their texts, ==, the place that a house tells -/
def nlS : Str := "\n"
def Hs.lines (h : Hs) : List Str := (Str.empty ++ "depth " ++ num h.d) :: (Str.empty ++ "check " ++ h.ch) :: h.rs.map Rw.text
def Hs.text (h : Hs) : Str := Str.join nlS h.lines
theorem lt_len {m : Rw} (ok : m.ok) (kd : m.kind = 0) : m.text.length ≤ 27 := by
  cases m with
  | ct k w o => cases kd
  | lt k s d p =>
    have l : ∀ z ∈ (Rw.lt k s d p).words, z.length ≤ 6 := fun z hz => (word_ok ok z hz).2
    simp only [Rw.words, List.mem_cons, List.not_mem_nil, or_false, forall_eq_or_imp, forall_eq] at l
    obtain ⟨l1, l2, l3, l4⟩ := l
    have l0 : (Str.empty).length = 0 := rfl
    have lb : (" " : Str).length = 1 := by decide +kernel
    rw [← let_text]
    simp only [app_len]
    omega
theorem num_dep {d : Int} (a : 0 ≤ d) (b : d ≤ 4) : (num d).length = 1 := by
  have h : d = 0 ∨ d = 1 ∨ d = 2 ∨ d = 3 ∨ d = 4 := by omega
  rcases h with rfl | rfl | rfl | rfl | rfl <;> decide +kernel
theorem ch_len {z : Str} (h : z ∈ checkL) : z.length ≤ 4 := by
  have q : ∀ z ∈ checkL, z.length ≤ 4 := by decide +kernel
  exact q z h
theorem sum_le {n : Nat} : ∀ l : List Str, (∀ z ∈ l, z.length ≤ n) → (l.map (·.length)).sum ≤ n * l.length
  | [], _ => by simp
  | a :: r, h => by
    have h1 := h a (by simp)
    have h2 := sum_le r fun z hz => h z (by simp [hz])
    simp only [List.map_cons, List.sum_cons, List.length_cons]
    have e : n * (r.length + 1) = n * r.length + n := by rw [Nat.mul_add, Nat.mul_one]
    omega
theorem lines_len {h : Hs} (ok : h.ok) : ∀ z ∈ h.lines, z.length ≤ 30 := by
  obtain ⟨d0, d4, hc, hm, hn⟩ := ok
  intro z hz
  have e1 : ("depth " : Str).length = 6 := by decide +kernel
  have e2 : ("check " : Str).length = 6 := by decide +kernel
  have l0 : (Str.empty).length = 0 := rfl
  simp only [Hs.lines, List.mem_cons, List.mem_map] at hz
  rcases hz with rfl | rfl | ⟨m, mm, rfl⟩
  · have := num_dep d0 d4
    simp only [app_len]
    omega
  · have := ch_len hc
    simp only [app_len]
    omega
  · have := lt_len (hm m mm).1 (hm m mm).2
    omega
theorem lines_n {h : Hs} (ok : h.ok) : h.lines.length ≤ 102 := by
  have := ok.2.2.2.2
  simp only [Hs.lines, List.length_cons, List.length_map]
  omega
def spHsStr (K : PySem.W.Frag) (c : Rc) (C : Addr) : Sp := fun vs H Q _ => ∃ (v : V) (h : Hs), vs = [v] ∧ HsAt K c C H v h ∧ h.ok ∧ ∀ H', Same H H' → Q (.str h.text) H'
structure StrH (P : Program) (w : World) (K : PySem.W.Frag) (mg : Str → Option Value) (base : Heap) (c : Rc) : Prop where
  s : ∃ (f : Addr) (fd : FuncData), FnOk P w K mg base CX0 1 f fd ["self"] (spRS c 0) ∧ PySem.W.findIn K (.ref c.L) "__str__" = some (some (.ref f)) ∧ PySem.W.isFn K (.ref f) = true ∧ Binds K fd ["self"] []
def rStrH (c : Rc) : List V → Hp → VK → Prop := fun xs H Q => ∃ v m, xs = [v] ∧ RwAt c H v m ∧ m.ok ∧ m.kind = 0 ∧ Q (.str m.text) H
theorem call_strH {X : Cx} {c : Rc} (T : StrH X.prog X.w X.K X.mg X.base c) (room : Room 3 X.A) : CallR X (.type "str") (rStrH c) := by
  intro pins s σ H xs us Q I r h
  obtain ⟨v, m, rfl, ⟨x, dx, rfl, hx⟩, ok, kd, q⟩ := h
  obtain ⟨f, fd, G, at_, isf, bi⟩ := T.s
  have hx2 : H x = some (.ins c.L dx m.fs) := by
    rw [hx]
    show some (HO.ins (c.at m.kind) dx m.fs) = _
    rw [kd]
    rfl
  refine call_strO (E := fun _ _ _ => False) G at_ isf bi pass0 room pins s σ H _ us Q I r ⟨x, dx, m.fs, rfl, hx2, x, dx, m, rfl, hx, kd, ok, _, rfl, q⟩
theorem take_nxt {α : Type} {l : List α} {i : Nat} {x : α} (h : l[i]? = some x) : l.take (i + 1) = l.take i ++ [x] := by
  rw [List.take_add_one, h]
  rfl
/-- the first fitting row's place -/
def placeIn (k s d : Str) : List Rw → Option Str
  | [] => none
  | .lt k' s' d' p :: r => if k' = k ∧ s' = s ∧ d' = d then some p else placeIn k s d r
  | .ct _ _ _ :: r => placeIn k s d r
def optV : Option Str → V
  | some p => .str p
  | none => .non
def spPlaced (K : PySem.W.Frag) (c : Rc) (C : Addr) : Sp := fun vs H Q _ => ∃ (v : V) (h : Hs) (k s d : Str), vs = [v, .str k, .str s, .str d] ∧ HsAt K c C H v h ∧ h.ok ∧ k ∈ kindL ∧ s ∈ stateL ∧ d ∈ deedL ∧ ∀ H', Same H H' → Q (optV (placeIn k s d h.rs)) H'
theorem word_lay : ∀ z ∈ kindL ++ stateL ++ deedL ++ placeL, PyData.canLay0 (.str z) = true := by decide +kernel
theorem lay_k {z : Str} (h : z ∈ kindL) : PyData.canLay0 (.str z) = true := word_lay z (by simp [h])
theorem lay_s {z : Str} (h : z ∈ stateL) : PyData.canLay0 (.str z) = true := word_lay z (by simp [h])
theorem lay_d {z : Str} (h : z ∈ deedL) : PyData.canLay0 (.str z) = true := word_lay z (by simp [h])
theorem tri_shaped {a b c : Str} (ha : a ∈ kindL) (hb : b ∈ stateL) (hc : c ∈ deedL) : SeqAt.shaped (.tuple [.str a, .str b, .str c]) = true := by
  have kt : ∀ xs : List PyData, PyData.canLay0 (.tuple xs) = PyData.canLayAll0 xs := fun xs => by simp [PyData.canLay0]
  simp [SeqAt.shaped, kt, PyData.canLayAll0, lay_k ha, lay_s hb, lay_d hc, PyData.depth, PyData.depthAll]
theorem str_beq (a b : Str) : (a == b) = decide (a = b) := by
  by_cases h : a = b
  · rw [decide_eq_true h, h]
    simp
  · rw [decide_eq_false h]
    simpa using h
theorem tri_eqv (a b c a' b' c' : Str) : PyData.eqv (.tuple [.str a, .str b, .str c]) (.tuple [.str a', .str b', .str c']) = decide (a = a' ∧ b = b' ∧ c = c') := by
  simp [PyData.eqv, PyData.eqvAll, str_beq, Bool.decide_and]
/-- the two notes of a House object's own str and == -/
structure HsStr (P : Program) (w : World) (K : PySem.W.Frag) (mg : Str → Option Value) (base : Heap) (c : Rc) (C : Addr) : Prop where
  s : ∃ (f : Addr) (fd : FuncData), FnOk P w K mg base CX0 4 f fd ["self"] (spHsStr K c C) ∧ PySem.W.findIn K (.ref C) "__str__" = some (some (.ref f)) ∧ PySem.W.isFn K (.ref f) = true ∧ Binds K fd ["self"] []
def rStrK (K : PySem.W.Frag) (c : Rc) (C : Addr) : List V → Hp → VK → Prop := fun xs H Q => ∃ v h, xs = [v] ∧ HsAt K c C H v h ∧ h.ok ∧ ∀ H', Same H H' → Q (.str h.text) H'
theorem call_strK {X : Cx} {c : Rc} {C : Addr} (T : HsStr X.prog X.w X.K X.mg X.base c C) (room : Room 6 X.A) : CallR X (.type "str") (rStrK X.K c C) := by
  intro pins s σ H xs us Q I r h
  obtain ⟨v, h, rfl, a, ok, q⟩ := h
  obtain ⟨f, fd, G, at_, isf, bi⟩ := T.s
  obtain ⟨x, dx, q1, us1, rfl, hx, hq, rl⟩ := id a
  exact call_strO (E := fun _ _ _ => False) G at_ isf bi pass0 room pins s σ H _ us Q I r ⟨x, dx, _, rfl, hx, _, h, rfl, a, ok, fun H' sm => ⟨_, rfl, q H' sm⟩⟩
/-- what House's class must be to isinstance -/
structure HsI (K : PySem.W.Frag) (C : Addr) : Prop where
  cl : Cls K C
  ca : PySem.W.findIn K (.ref C) "__class__" = some (some (.builtin "object.__class__"))
  mr : PySem.W.mroIn K C (.type "object") = some true
  gn : PySem.W.specialIn K (.builtin "object.__class__") "__get__" = some (some (.builtin "getset_descriptor.__get__"))
  tk : PySem.W.takesIn K (.builtin "object.__class__") = some true
  ki : PySem.W.kitOne K (.ref C) (.ref C) = some true
def spHsEq (K : PySem.W.Frag) (c : Rc) (C : Addr) : Sp := fun vs H Q _ => ∃ (u v : V) (h g : Hs), vs = [u, v] ∧ HsAt K c C H u h ∧ HsAt K c C H v g ∧ h.ok ∧ g.ok ∧ ∀ H', Same H H' → Q (.bl (decide (h.text = g.text))) H'
section
variable {P : Program} {w : World} {K : PySem.W.Frag} {mg : Str → Option Value} {base : Heap}
theorem scHsStr : FnScope ["self", "row"] ["self"] (defScope sHsStr) := ⟨rfl, rfl, rfl, by decide +kernel, rfl, by decide +kernel, by decide +kernel⟩
theorem scHsEq : FnScope ["self", "other"] ["self", "other"] (defScope sHsEq) := ⟨rfl, rfl, rfl, by decide +kernel, rfl, by decide +kernel, by decide +kernel⟩
theorem scPlaced : FnScope ["self", "kind", "state", "deed", "row"] ["self", "kind", "state", "deed"] (defScope sPlaced) := ⟨rfl, rfl, rfl, by decide +kernel, rfl, by decide +kernel, by decide +kernel⟩
theorem ok_hsStr {f C : Addr} {c : Rc} {fd : FuncData} (F : Fun K "__str__" "House.__str__" sHsStr f fd) (T : BltK mg) (S : StrH P w K mg base c) (L : HsC K C) : FnOk P w K mg base CX0 4 f fd ["self"] (spHsStr K c C) := by
  refine F.ok scHsStr (fun vs H Q E h => ?_) (fun cdv A outer s H vs Q E hr h => ?_)
  · obtain ⟨v, h, rfl, _⟩ := h
    rfl
  · obtain ⟨v, h, rfl, ⟨x, dx, q, us, rfl, hx, hq, rl⟩, ok, k⟩ := h
    have lall := lines_len ok
    have ln := lines_n ok
    obtain ⟨d0, d4, hc, hm, hn⟩ := id ok
    have e1 : ("depth " : Str).length = 6 := by decide +kernel
    have e2 : ("check " : Str).length = 6 := by decide +kernel
    have l0 : (Str.empty).length = 0 := rfl
    have l1 := num_dep d0 d4
    have l2 := ch_len hc
    refine ⟨_, pss_one (ps_ret (pe_joinK pe_str (pe_lst (pa_cons (pe_joined (.cons pe_str (.cons (pe_fmt (pe_fld (pv 0) rfl)) .nil))) (pa_cons (pe_joined (.cons pe_str (.cons (pe_fmt (pe_fld (pv 0) rfl)) .nil)))
      (StX.pa_star (pe_lc (own := [("row", 1)]) (g := gName 1) (tt := tYes) (te := tCB (rStrH c) (tCons (tVar 1) tNil)) (by rfl) scHsStr.nd (pi_tup (pe_fld (pv 0) rfl)) (blkOk_by (own := [("row", 1)]) (N := ["self", "row"]) (sc := defScope sHsStr) (by decide +kernel)) (fun _ _ _ _ _ => pg_name (i := 1) scHsStr.nd rfl (Or.inl rfl)) (fun _ _ _ _ _ => pts_nil)
          (fun _ _ _ _ _ => pe_callTy (call_strH S hr) (by rfl) T.str (by decide +kernel) (pa_cons (pv 1) pa_nil))) pa_nil)))))), ?_⟩
    have am : Am h.d := by
      have z : h.d = 0 ∨ h.d = 1 ∨ h.d = 2 ∨ h.d = 3 ∨ h.d = 4 := by omega
      rcases z with z | z | z | z | z <;> (rw [z]; unfold Am; decide)
    refine ⟨⟨_, rfl⟩, _, rfl, small (by rw [app_len]; omega), ?_⟩
    refine ⟨_, rfl, x, C, dx, _, _, rfl, hx, L.cl, L.d, hs_d .., .inr ⟨h.d, rfl, am_log am, num h.d, rfl, small (by simp only [app_len]; omega), ?_⟩⟩
    refine ⟨_, rfl, small (by rw [app_len]; omega), ?_⟩
    refine ⟨_, rfl, x, C, dx, _, _, rfl, hx, L.cl, L.ch, hs_ch .., .inl ⟨h.ch, rfl, small (by omega), _, rfl, small (by simp only [app_len]; omega), ?_⟩⟩
    refine ⟨_, rfl, x, C, dx, _, _, rfl, hx, L.cl, L.rs, hs_rs .., q, rfl, ⟨us, hq.sq⟩, fun D nD => ?_⟩
    have lx : us.length = h.rs.length := rl.1
    refine lc_tup (K := K) (a := q) (xs := us) (fun i Hh => Same H Hh ∧ H D = none ∧ Hh D = some (.lst (((h.rs.take i).map Rw.text).map V.str))) ⟨Same.new nD, nD, upd_same⟩ (fun i Hh _ p => (hq.same p.1).sq) ?_ ?_
    · intro i z Hh hi p
      have il : i < us.length := (List.getElem?_eq_some_iff.mp hi).1
      obtain ⟨m, em, mz⟩ := Ls.get rl hi
      obtain ⟨mo, mk⟩ := hm m (List.mem_of_getElem? em)
      refine ⟨rfl, ?_⟩
      unfold tYes
      dsimp only
      refine iteT ⟨_, rfl, z, m, rfl, mz.same p.1, mo, mk, _, p.2.2, ?_, fun d o e => ?_, p.2.1, ?_⟩
      · rw [List.length_map, List.length_map, List.length_take]
        exact Nat.lt_of_lt_of_le (m := 1001) (by omega) (by decide)
      · rw [upd_ne (ne_of_none e p.2.1)]
        exact p.1 d o e
      · rw [upd_same, take_nxt em, List.map_append, List.map_append]
        rfl
    · intro Hh p
      obtain ⟨s2, _, e⟩ := p
      rw [lx, List.take_length] at e
      refine ⟨D, _, rfl, .inr (SqL.of e), ?_, fun t nt => ?_⟩
      · simp only [List.append_nil, List.length_cons, List.length_map]
        exact Nat.le_trans (m := 1001) (by omega) (by decide)
      refine ⟨_, t, h.lines, rfl, rfl, .inl (SqL.of ?_), ?_, ?_⟩
      · rw [upd_same, List.append_nil]
        rfl
      · have z := sum_le h.lines lall
        have e3 : ("\n" : Str).length = 1 := by decide +kernel
        rw [e3]
        omega
      · rw [join_eq]
        exact k _ (s2.trans (Same.new nt))
theorem ok_hsEq {f C : Addr} {c : Rc} {fd : FuncData} (F : Fun K "__eq__" "House.__eq__" sHsEq f fd) (T : BltK mg) (S : HsStr P w K mg base c C) (I : HsI K C) (gH : mg "House" = some (.ref C)) : FnOk P w K mg base CX0 7 f fd ["self", "other"] (spHsEq K c C) := by
  refine F.ok scHsEq (fun vs H Q E h => ?_) (fun cdv A outer s H vs Q E hr h => ?_)
  · obtain ⟨u, v, h, g, rfl, _⟩ := h
    rfl
  · obtain ⟨u, v, h, g, rfl, hu, hv, ho, go, k⟩ := h
    obtain ⟨y, dy, q2, us2, rfl, hy, hq2, rl2⟩ := id hv
    refine ⟨_, pss_one (ps_ret (pe_and (pe_callB call_isi (by rfl) T.isi (by decide +kernel) (pa_cons (pv 1) (pa_cons (pe_glob (v := .ref C) rfl gH rfl) pa_nil)))
      (pe_one (pe_cmpR op_eq (pe_callTy (call_strK S hr) (by rfl) T.str (by decide +kernel) (pa_cons (pv 0) pa_nil)) (pe_callTy (call_strK S hr) (by rfl) T.str (by decide +kernel) (pa_cons (pv 1) pa_nil)) (nomark _))))), ?_⟩
    refine ⟨_, rfl, _, _, _, _, _, rfl, .own C, .base (.ins hy I.cl I.ca I.gn I.tk I.mr), I.ki, _, rfl, iteT ?_⟩
    refine ⟨_, rfl, u, h, rfl, hu, ho, fun H1 s1 => ⟨_, rfl, _, g, rfl, hv.same s1, go, fun H2 s2 => ⟨rfl, ?_⟩⟩⟩
    have e : decide (V.str h.text = V.str g.text) = decide (h.text = g.text) := by
      by_cases z : h.text = g.text
      · rw [z, decide_eq_true rfl, decide_eq_true rfl]
      · rw [decide_eq_false z, decide_eq_false (fun y => z (by injection y))]
    rw [e]
    exact k _ (s1.trans s2)
theorem ok_placed {f C : Addr} {c : Rc} {fd : FuncData} (F : Fun K "placed" "House.placed" sPlaced f fd) (L : HsC K C) (R : LetC K c) : FnOk P w K mg base CX0 2 f fd ["self", "kind", "state", "deed"] (spPlaced K c C) := by
  refine F.ok scPlaced (fun vs H Q E h => ?_) (fun cdv A outer s H vs Q E hr h => ?_)
  · obtain ⟨v, h, k, s, d, rfl, _⟩ := h
    rfl
  · obtain ⟨v, h, kd, st, de, rfl, ⟨x, dx, q, us, rfl, hx, hq, rl⟩, ok, hk, hs, hd, k⟩ := h
    obtain ⟨d0, d4, hc, hm, hn⟩ := id ok
    refine ⟨_, pss_cons (ps_for PassesOwn.never rfl (pi_tup (pe_fld (pv 0) rfl)) (pg_name (i := 4) scPlaced.nd rfl (Or.inl rfl))
      (pss_one (ps_if (pt_cmpR (op_eqD hr.units) (pe_tup (pa_cons (pe_fld (pv 4) rfl) (pa_cons (pe_fld (pv 4) rfl) (pa_cons (pe_fld (pv 4) rfl) pa_nil)))) (pe_tup (pa_cons (pv 1) (pa_cons (pv 2) (pa_cons (pv 3) pa_nil)))) (nomark _)) (pss_one (ps_ret (pe_fld (pv 4) rfl))) pss_nil)))
      (pss_one (ps_ret pe_non)), ?_⟩
    refine ⟨_, rfl, x, C, dx, _, _, rfl, hx, L.cl, L.rs, hs_rs .., q, rfl, ⟨us, hq.sq⟩, ?_⟩
    refine for_tup (K := K) (a := q) (xs := us) (fun i σ H' => (∃ o, σ = [some (.ref x), some (.str kd), some (.str st), some (.str de), o]) ∧ Same H H' ∧ placeIn kd st de h.rs = placeIn kd st de (h.rs.drop i)) ?_ ?_ ?_ ?_
    · exact ⟨⟨_, rfl⟩, Same.refl H, rfl⟩
    · rintro i σ H' _ ⟨_, s1, _⟩
      exact (hq.same s1).sq
    · rintro i z σ H' hi ⟨⟨o, rfl⟩, s1, pl⟩
      obtain ⟨m, em, mz⟩ := Ls.get rl hi
      obtain ⟨mo, mk⟩ := hm m (List.mem_of_getElem? em)
      have il : i < h.rs.length := (List.getElem?_eq_some_iff.mp em).1
      have dr : h.rs.drop i = m :: h.rs.drop (i + 1) := by
        rw [List.drop_eq_getElem_cons il]
        have z := (List.getElem?_eq_some_iff.mp em).2
        rw [z]
      cases m with
      | ct _ _ _ => cases mk
      | lt k' s' d' p' =>
        obtain ⟨y, dy, rfl, hy0⟩ := mz.same s1
        have hy : H' y = some (.ins c.L dy (letF (.str k') (.str s') (.str d') (.str p'))) := hy0
        obtain ⟨k1, k2, k3, k4, _⟩ := id mo
        refine ⟨_, rfl, y, c.L, dy, _, _, rfl, hy, R.cl, R.k, let_kind .., _, rfl, y, c.L, dy, _, _, rfl, hy, R.cl, R.s, let_state .., _, rfl, y, c.L, dy, _, _, rfl, hy, R.cl, R.d, let_deed .., (by show 3 ≤ sizeLine; decide), fun t1 n1 => ?_⟩
        have s2 : Same H' (upd H' t1 (.tup [.str k', .str s', .str d'])) := Same.new n1
        have ht1 : upd H' t1 (.tup [.str k', .str s', .str d']) t1 = some (.tup [.str k', .str s', .str d']) := upd_same
        dsimp only [tNil]
        generalize upd H' t1 (.tup [.str k', .str s', .str d']) = H1 at s2 ht1 ⊢
        refine ⟨_, rfl, _, rfl, _, rfl, (by show 3 ≤ sizeLine; decide), fun t2 n2 => ?_⟩
        have s3 : Same H1 (upd H1 t2 (.tup [.str kd, .str st, .str de])) := Same.new n2
        have ht2 : upd H1 t2 (.tup [.str kd, .str st, .str de]) t2 = some (.tup [.str kd, .str st, .str de]) := upd_same
        dsimp only [tNil]
        generalize upd H1 t2 (.tup [.str kd, .str st, .str de]) = H2 at s3 ht2 ⊢
        have S := (s1.trans s2).trans s3
        refine ⟨.tuple [.str k', .str s', .str d'], .tuple [.str kd, .str st, .str de], .tup (SqT.of (s3 _ _ ht1)) (.cons (.str _) (.cons (.str _) (.cons (.str _) .nil))), .tup (SqT.of ht2) (.cons (.str _) (.cons (.str _) (.cons (.str _) .nil))), tri_shaped k1 k2 k3, tri_shaped hk hs hd, _, rfl, ?_⟩
        rw [tri_eqv]
        rw [dr, show placeIn kd st de (Rw.lt k' s' d' p' :: h.rs.drop (i + 1)) = if k' = kd ∧ s' = st ∧ d' = de then some p' else placeIn kd st de (h.rs.drop (i + 1)) from rfl] at pl
        by_cases e : k' = kd ∧ s' = st ∧ d' = de
        · rw [decide_eq_true e]
          rw [if_pos e] at pl
          refine iteT ⟨_, rfl, y, c.L, dy, _, _, rfl, (s2.trans s3) _ _ hy, R.cl, R.p, let_place .., ?_⟩
          have z := k _ S
          have pl2 : placeIn kd st de h.rs = some p' := pl
          rw [pl2] at z
          exact z
        · rw [decide_eq_false e]
          rw [if_neg e] at pl
          exact iteF ⟨⟨_, rfl⟩, S, pl⟩
    · rintro σ H' ⟨⟨o, rfl⟩, s1, pl⟩
      have z := k _ s1
      rw [rl.1, List.drop_length] at pl
      rw [pl] at z
      exact z
end
end V3

set_option Elab.async false
set_option linter.all false
set_option maxRecDepth 100000
/-! books: what they are, what moves do to them -/
namespace V3
open PySem L2 TL
structure En where
  mo : Int
  am : Int
  ta : Option Nat
  ol : Option Nat
  deriving DecidableEq
structure Bk where
  es : List En
  m : Int
  deriving DecidableEq
def taAt (es : List En) (j : Nat) : Option Nat := (es[j]?).bind (·.ta)
def olAt (es : List En) (j : Nat) : Option Nat := (es[j]?).bind (·.ol)
def leftStep (es : List En) (ls : List Int) (j : Nat) : List Int := match taAt es j with
  | some t => ls.set t (ls.getD t 0 - ls.getD j 0)
  | none => ls
def leftsFrom (es : List En) : Nat → List Int → List Int
  | 0, ls => ls
  | k + 1, ls => leftsFrom es k (leftStep es ls k)
def lefts (es : List En) : List Int := leftsFrom es es.length (es.map (·.am))
def leftAt (es : List En) (j : Nat) : Int := (lefts es).getD j 0
theorem leftStep_len (es : List En) (ls : List Int) (j : Nat) : (leftStep es ls j).length = ls.length := by
  unfold leftStep
  split
  · rw [List.length_set]
  · rfl
theorem leftsFrom_len (es : List En) : ∀ (k : Nat) (ls : List Int), (leftsFrom es k ls).length = ls.length
  | 0, _ => rfl
  | k + 1, ls => by
    show (leftsFrom es k (leftStep es ls k)).length = _
    rw [leftsFrom_len, leftStep_len]
theorem lefts_len (es : List En) : (lefts es).length = es.length := by
  unfold lefts
  rw [leftsFrom_len, List.length_map]
/-- targets and olds are earlier ones; what has a target has no old; months are numbers, amounts amounts -/
structure Wf (b : Bk) : Prop where
  ta : ∀ j t, taAt b.es j = some t → t < j
  ol : ∀ j t, olAt b.es j = some t → t < j
  no : ∀ j t, taAt b.es j = some t → olAt b.es j = none
  mo : ∀ e ∈ b.es, 0 ≤ e.mo ∧ e.mo ≤ b.m
  m : 0 ≤ b.m
def depthF (es : List En) : Nat → Nat → Nat
  | 0, _ => 0
  | f + 1, j => match taAt es j with
    | some t => depthF es f t + 1
    | none => 0
def depth (es : List En) (j : Nat) : Nat := depthF es (j + 1) j
theorem depthF_eq {es : List En} (h : ∀ j t, taAt es j = some t → t < j) : ∀ (f g j : Nat), j < f → j < g → depthF es f j = depthF es g j
  | 0, _, j, a, _ => absurd a (Nat.not_lt_zero _)
  | _ + 1, 0, j, _, b => absurd b (Nat.not_lt_zero _)
  | f + 1, g + 1, j, a, b => by
    unfold depthF
    cases e : taAt es j with
    | none => rfl
    | some t =>
      have l := h j t e
      show depthF es f t + 1 = depthF es g t + 1
      rw [depthF_eq h f g t (by omega) (by omega)]
theorem depth_some {es : List En} (h : ∀ j t, taAt es j = some t → t < j) {j t : Nat} (e : taAt es j = some t) : depth es j = depth es t + 1 := by
  have l := h j t e
  unfold depth
  show (match taAt es j with
    | some t => depthF es j t + 1
    | none => 0) = _
  rw [e]
  show depthF es j t + 1 = depthF es (t + 1) t + 1
  rw [depthF_eq h j (t + 1) t l (by omega)]
theorem depth_none {es : List En} {j : Nat} (e : taAt es j = none) : depth es j = 0 := by
  unfold depth
  show (match taAt es j with
    | some t => depthF es j t + 1
    | none => 0) = _
  rw [e]
def topF (es : List En) : Nat → Nat → Nat
  | 0, j => j
  | f + 1, j => match taAt es j with
    | some t => topF es f t
    | none => j
def topOf (es : List En) (j : Nat) : Nat := topF es (j + 1) j
theorem topF_eq {es : List En} (h : ∀ j t, taAt es j = some t → t < j) : ∀ (f g j : Nat), j < f → j < g → topF es f j = topF es g j
  | 0, _, j, a, _ => absurd a (Nat.not_lt_zero _)
  | _ + 1, 0, j, _, b => absurd b (Nat.not_lt_zero _)
  | f + 1, g + 1, j, a, b => by
    unfold topF
    cases e : taAt es j with
    | none => rfl
    | some t =>
      have l := h j t e
      show topF es f t = topF es g t
      rw [topF_eq h f g t (by omega) (by omega)]
theorem top_some {es : List En} (h : ∀ j t, taAt es j = some t → t < j) {j t : Nat} (e : taAt es j = some t) : topOf es j = topOf es t := by
  have l := h j t e
  unfold topOf
  show (match taAt es j with
    | some t => topF es j t
    | none => j) = _
  rw [e]
  exact topF_eq h j (t + 1) t l (by omega)
theorem top_none {es : List En} {j : Nat} (e : taAt es j = none) : topOf es j = j := by
  unfold topOf
  show (match taAt es j with
    | some t => topF es j t
    | none => j) = _
  rw [e]
theorem top_le {es : List En} (h : ∀ j t, taAt es j = some t → t < j) : ∀ (n j : Nat), j < n → topOf es j ≤ j ∧ taAt es (topOf es j) = none
  | 0, j, a => absurd a (Nat.not_lt_zero _)
  | n + 1, j, a => by
    cases e : taAt es j with
    | none =>
      rw [top_none e]
      exact ⟨Nat.le_refl _, e⟩
    | some t =>
      have l := h j t e
      rw [top_some h e]
      have z := top_le h n t (by omega)
      exact ⟨by omega, z.2⟩
def deedF (es : List En) : Nat → Nat → Nat
  | 0, j => j
  | f + 1, j => match olAt es j with
    | some o => deedF es f (topOf es o)
    | none => j
/-- the deed of a top -/
def deedT (es : List En) (j : Nat) : Nat := deedF es (j + 1) j
def deedOf (es : List En) (j : Nat) : Nat := deedT es (topOf es j)
theorem deedF_eq {es : List En} (h : ∀ j t, taAt es j = some t → t < j) (ho : ∀ j t, olAt es j = some t → t < j) : ∀ (f g j : Nat), j < f → j < g → deedF es f j = deedF es g j
  | 0, _, j, a, _ => absurd a (Nat.not_lt_zero _)
  | _ + 1, 0, j, _, b => absurd b (Nat.not_lt_zero _)
  | f + 1, g + 1, j, a, b => by
    unfold deedF
    cases e : olAt es j with
    | none => rfl
    | some o =>
      have l := ho j o e
      have z := (top_le h (o + 1) o (by omega)).1
      show deedF es f (topOf es o) = deedF es g (topOf es o)
      rw [deedF_eq h ho f g _ (by omega) (by omega)]
theorem deed_some {es : List En} (h : ∀ j t, taAt es j = some t → t < j) (ho : ∀ j t, olAt es j = some t → t < j) {j o : Nat} (e : olAt es j = some o) : deedT es j = deedT es (topOf es o) := by
  have l := ho j o e
  have z := (top_le h (o + 1) o (by omega)).1
  unfold deedT
  show (match olAt es j with
    | some o => deedF es j (topOf es o)
    | none => j) = _
  rw [e]
  exact deedF_eq h ho j _ _ (by omega) (by omega)
theorem deed_none {es : List En} {j : Nat} (e : olAt es j = none) : deedT es j = j := by
  unfold deedT
  show (match olAt es j with
    | some o => deedF es j (topOf es o)
    | none => j) = _
  rw [e]
def kindAt (es : List En) (j : Nat) : Str := if (olAt es j).isSome then "new" else if (taAt es j).isNone then "first" else if depth es j % 2 = 1 then "minus" else "plus"
theorem kind_in (es : List En) (j : Nat) : kindAt es j ∈ kindL := by
  unfold kindAt
  split
  · decide +kernel
  · split
    · decide +kernel
    · split <;> decide +kernel
/-- by depths alone -/
theorem kind_depth {b : Bk} (w : Wf b) (j : Nat) : kindAt b.es j = if depth b.es j = 0 then (if (olAt b.es j).isNone then ("first" : Str) else ("new" : Str)) else if depth b.es j % 2 = 1 then ("minus" : Str) else ("plus" : Str) := by
  unfold kindAt
  cases e : taAt b.es j with
  | none =>
    rw [depth_none e, if_pos rfl]
    cases olAt b.es j <;> rfl
  | some t =>
    rw [depth_some w.ta e, if_neg (Nat.succ_ne_zero _), w.no j t e]
    rfl
def moAt (es : List En) (j : Nat) : Int := ((es[j]?).map (·.mo)).getD 0
def amAt (es : List En) (j : Nat) : Int := ((es[j]?).map (·.am)).getD 0
def stateAt (b : Bk) (j : Nat) : Str := if moAt b.es j = b.m then "open" else "shut"
theorem state_in (b : Bk) (j : Nat) : stateAt b j ∈ stateL := by
  unfold stateAt
  split <;> decide +kernel
/-- the month into which what a deed makes is put -/
def monthFor (h : Hs) (b : Bk) (j : Nat) (d : Str) : Option Int := (placeIn (kindAt b.es j) (stateAt b j) d h.rs).map fun p : Str => if p = ("now" : Str) then b.m else moAt b.es j
def overAll (es : List En) (j : Nat) (a : Int) : Bool := match (taAt es j).bind (taAt es) with
  | some t => decide (leftAt es t < a)
  | none => false
def takeB (h : Hs) (b : Bk) (j : Nat) (o : Option Int) : Option Bk :=
  if j < b.es.length then
    if (h.d ≤ (depth b.es j : Int)) ∨ leftAt b.es j ≤ 0 then none
    else match monthFor h b j (if o.isNone then "whole" else "part") with
      | none => none
      | some mo => if leftAt b.es j < o.getD (leftAt b.es j) then none
        else if h.ch = "all" ∧ overAll b.es j (o.getD (leftAt b.es j)) = true then none
        else some ⟨b.es ++ [⟨mo, o.getD (leftAt b.es j), some j, none⟩], b.m⟩
  else none
def rightB (h : Hs) (b : Bk) (j : Nat) (a : Int) : Option Bk :=
  if j < b.es.length then
    if h.d = 0 ∨ (∃ e ∈ b.es, e.ta = some j) then none
    else match monthFor h b j "right" with
      | none => none
      | some mo => some ⟨b.es ++ [⟨mo, amAt b.es j, some j, none⟩, ⟨mo, a, none, some j⟩], b.m⟩
  else none
def doB (h : Hs) (b : Bk) : Mv → Option Bk
  | .beg a => some ⟨b.es ++ [⟨b.m, a, none, none⟩], b.m⟩
  | .take t => takeB h b t.toNat none
  | .takeBy t a => takeB h b t.toNat (some a)
  | .right t a => rightB h b t.toNat a
  | .shut => some ⟨b.es, b.m + 1⟩
def b0 : Bk := ⟨[], 0⟩
/-- the book behind moves, or none -/
def playB (h : Hs) : Bk → List Mv → Option Bk
  | b, [] => some b
  | b, m :: r => match doB h b m with
    | none => none
    | some b' => playB h b' r
/-! they stay well formed -/
theorem taAt_app {es : List En} {e : En} (j : Nat) : taAt (es ++ [e]) j = if j < es.length then taAt es j else if j = es.length then e.ta else none := by
  unfold taAt
  by_cases h : j < es.length
  · rw [List.getElem?_append_left h, if_pos h]
  · rw [List.getElem?_append_right (by omega), if_neg h]
    by_cases k : j = es.length
    · subst k
      simp
    · rw [if_neg k, List.getElem?_eq_none (by simp; omega)]
      rfl
theorem olAt_app {es : List En} {e : En} (j : Nat) : olAt (es ++ [e]) j = if j < es.length then olAt es j else if j = es.length then e.ol else none := by
  unfold olAt
  by_cases h : j < es.length
  · rw [List.getElem?_append_left h, if_pos h]
  · rw [List.getElem?_append_right (by omega), if_neg h]
    by_cases k : j = es.length
    · subst k
      simp
    · rw [if_neg k, List.getElem?_eq_none (by simp; omega)]
      rfl
theorem Wf.push {b : Bk} {e : En} (w : Wf b) (ht : ∀ t, e.ta = some t → t < b.es.length) (ho : ∀ t, e.ol = some t → t < b.es.length) (hn : ∀ t, e.ta = some t → e.ol = none) (h0 : 0 ≤ e.mo) (h1 : e.mo ≤ b.m) : Wf ⟨b.es ++ [e], b.m⟩ := by
  refine ⟨fun j t q => ?_, fun j t q => ?_, fun j t q => ?_, fun x hx => ?_, w.m⟩
  · have q : taAt (b.es ++ [e]) j = some t := q
    rw [taAt_app] at q
    split at q
    · exact w.ta j t q
    · split at q
      · have := ht t q
        omega
      · cases q
  · have q : olAt (b.es ++ [e]) j = some t := q
    rw [olAt_app] at q
    split at q
    · exact w.ol j t q
    · split at q
      · have := ho t q
        omega
      · cases q
  · have q : taAt (b.es ++ [e]) j = some t := q
    show olAt (b.es ++ [e]) j = none
    rw [taAt_app] at q
    rw [olAt_app]
    split at q
    · rename_i hj
      rw [if_pos hj]
      exact w.no j t q
    · rename_i hj
      rw [if_neg hj]
      split at q
      · rename_i hk
        rw [if_pos hk]
        exact hn t q
      · cases q
  · rcases List.mem_append.mp hx with hx | hx
    · exact w.mo x hx
    · rw [List.mem_singleton.mp hx]
      exact ⟨h0, h1⟩
theorem moAt_ok {b : Bk} (w : Wf b) (j : Nat) : 0 ≤ moAt b.es j ∧ moAt b.es j ≤ b.m := by
  unfold moAt
  cases e : b.es[j]? with
  | none => exact ⟨Int.le_refl _, w.m⟩
  | some x => exact w.mo x (List.mem_of_getElem? e)
theorem month_ok {h : Hs} {b : Bk} (w : Wf b) {j : Nat} {d : Str} {mo : Int} (e : monthFor h b j d = some mo) : 0 ≤ mo ∧ mo ≤ b.m := by
  unfold monthFor at e
  obtain ⟨p, _, rfl⟩ := Option.map_eq_some_iff.mp e
  split
  · exact ⟨w.m, Int.le_refl _⟩
  · exact moAt_ok w j
theorem Wf.zero : Wf b0 := ⟨(fun j t e => by simp [taAt, b0] at e), (fun j t e => by simp [olAt, b0] at e), (fun j t e => by simp [taAt, b0] at e), (fun x hx => by cases hx), Int.le_refl _⟩
theorem Wf.do {h : Hs} {b b' : Bk} (w : Wf b) {mv : Mv} (e : doB h b mv = some b') : Wf b' := by
  have tk : ∀ (j : Nat) (o : Option Int), takeB h b j o = some b' → Wf b' := fun j o e => by
    unfold takeB at e
    split at e
    · rename_i hj
      split at e
      · cases e
      · split at e
        · cases e
        · rename_i mo em
          split at e
          · cases e
          · split at e
            · cases e
            · cases e
              have z := month_ok w em
              exact w.push (fun t q => by cases q; exact hj) (fun t q => by cases q) (fun _ _ => rfl) z.1 z.2
    · cases e
  cases mv with
  | beg a =>
    have e : some (Bk.mk (b.es ++ [⟨b.m, a, none, none⟩]) b.m) = some b' := e
    cases e
    exact w.push (fun t q => by cases q) (fun t q => by cases q) (fun t q => by cases q) w.m (Int.le_refl _)
  | take t => exact tk _ _ e
  | takeBy t a => exact tk _ _ e
  | shut =>
    have e : some (Bk.mk b.es (b.m + 1)) = some b' := e
    cases e
    exact ⟨w.ta, w.ol, w.no, fun x hx => by have z := w.mo x hx; exact ⟨z.1, by show x.mo ≤ b.m + 1; omega⟩, by show 0 ≤ b.m + 1; have := w.m; omega⟩
  | right t a =>
    have e : rightB h b t.toNat a = some b' := e
    unfold rightB at e
    split at e
    · rename_i hj
      split at e
      · cases e
      · split at e
        · cases e
        · rename_i mo em
          cases e
          have z := month_ok w em
          have w1 := w.push (e := ⟨mo, amAt b.es t.toNat, some t.toNat, none⟩) (fun t q => by cases q; exact hj) (fun t q => by cases q) (fun _ _ => rfl) z.1 z.2
          have w2 := w1.push (e := ⟨mo, a, none, some t.toNat⟩) (fun t q => by cases q) (fun t q => by cases q; show _ < (b.es ++ [_]).length; rw [List.length_append]; omega) (fun t q => by cases q) z.1 z.2
          rw [List.append_assoc] at w2
          exact w2
    · cases e
end V3

set_option Elab.async false
set_option linter.all false
set_option maxRecDepth 100000
/-! readings that draw: all but the box stays -/
namespace V3
open PySem L2 TL
theorem Pre.keep' {b : Addr} {H H' : Hp} (hb : ∃ u v, H b = some (V3.box u v)) (s : Pre b H H') : Keep H H' := by
  obtain ⟨u, v, hb⟩ := hb
  exact Keep.pre hb s.1
def isLb {α : Type} (b : Addr) (S : α → V → Hp → Prop) (as : List α) : V → Hp → Prop := fun v H => ∃ D us, v = .ref D ∧ D ≠ b ∧ H D = some (.lst us) ∧ Ls (fun u a => S a u H) us as
/-- stays where only the box at b changes -/
class StP (b : Addr) (R : V → Hp → Prop) : Prop where
  st : ∀ v H0 H H', Pre b H0 H → Pre b H H' → R v H → R v H'
theorem Pre.bx {b : Addr} {H H' : Hp} (s : Pre b H H') : ∃ u v, H' b = some (V3.box u v) := by
  obtain ⟨_, u, v, _, e⟩ := s
  exact ⟨u, v, e⟩
theorem Pre.same {b : Addr} {H0 H H' : Hp} (p : Pre b H0 H) (s : Same H H') : Pre b H H' := by
  obtain ⟨_, u, v, ok, e⟩ := p
  exact (Pre.start ok e).then s
theorem Pre.id {b : Addr} {H0 H : Hp} (p : Pre b H0 H) : Pre b H H := p.same (Same.refl H)
theorem Pre.ne {b D : Addr} {H0 H : Hp} (p : Pre b H0 H) (n : H D = none) : D ≠ b := fun e => by
  obtain ⟨u, v, hb⟩ := p.bx
  rw [e, hb] at n
  cases n
instance {b : Addr} {R : V → Hp → Prop} [i : StL R] : StP b R := ⟨fun v H0 H H' p s r => i.st v H H' (s.keep' p.bx) r⟩
instance {α : Type} {b : Addr} {S : α → V → Hp → Prop} {as : List α} [∀ a, StL (S a)] : StP b (isLb b S as) := ⟨fun v H0 H H' p s ⟨D, us, e, ne, h, l⟩ => ⟨D, us, e, ne, s.1 _ _ ne h, l.imp fun _ _ r => upL (s.keep' p.bx) r⟩⟩
theorem upP {b : Addr} {R : V → Hp → Prop} [i : StP b R] {v : V} {H0 H H' : Hp} (p : Pre b H0 H) (s : Pre b H H') (h : R v H) : R v H' := i.st v H0 H H' p s h
def EvP (b : Addr) (H0 : Hp) (σ : L2.St) (te : TE) (R : V → Hp → Prop) : Prop := ∀ H Q, Pre b H0 H → (∀ v H', Pre b H H' → R v H' → Q v H') → te σ H Q
/-- a number drawn -/
def isDr (m : Int) : V → Hp → Prop := fun v _ => ∃ d, v = .int d ∧ 0 ≤ d ∧ d < m
def isOne {α : Type} (S : α → V → Hp → Prop) (as : List α) : V → Hp → Prop := fun v H => ∃ a ∈ as, S a v H
instance {m : Int} : StL (isDr m) := ⟨fun _ _ _ _ h => h⟩
instance {α : Type} {S : α → V → Hp → Prop} {as : List α} [∀ a, StL (S a)] : StL (isOne S as) := ⟨fun _ _ _ s ⟨a, m, h⟩ => ⟨a, m, upL s h⟩⟩
section
variable {K : PySem.W.Frag} {σ : L2.St} {ta tb te tl : TE} {ts : TA} {H0 : Hp} {R Ra Rb : V → Hp → Prop} {b : Addr} {i : Nat} {m : Int}
theorem evp_pure (h : ∀ H, Pre b H0 H → EvV (Same H) σ te R) : EvP b H0 σ te R := fun H Q p k => h H p H Q (Same.refl H) fun v H' s _ r => k v H' (p.same s) r
theorem evp_choose (hi : σ[i]? = some (some (.ref b))) (m1 : 1 ≤ m) (m2 : m ≤ 10000000000000000000000000000000000000000) (hm : EvP b H0 σ te (isIv m)) : EvP b H0 σ (tCall spChoose [] E0 (tCons (tVar i) (tCons te tNil))) (isDr m) := fun H Q p k =>
  ⟨_, hi, hm H _ p fun v H1 p1 e => by
    cases e
    obtain ⟨_, u, w, ok, hb⟩ := id p1
    exact ⟨b, u, w, m, rfl, hb, ok, m1, m2, fun d u' v' d0 d1 ok' => k _ _ (p1.trans (Pre.box ok')) ⟨d, rfl, d0, d1⟩⟩⟩
theorem evp_one {α : Type} {S : α → V → Hp → Prop} [∀ a, StL (S a)] {as : List α} (hi : σ[i]? = some (some (.ref b))) (n1 : 1 ≤ as.length) (n2 : as.length ≤ 1000) (hl : EvP b H0 σ tl (isLb b S as)) : EvP b H0 σ (tCall (spOneOf K) [] E0 (tCons (tVar i) (tCons tl tNil))) (isOne S as) := fun H Q p k =>
  ⟨_, hi, hl H _ p fun v H1 p1 hv => by
    obtain ⟨D, us, rfl, ne, hD, l⟩ := hv
    obtain ⟨_, u, w, ok, hb⟩ := id p1
    refine ⟨b, D, u, w, us, rfl, hb, ok, ne, SqL.of hD, by rw [l.1]; exact n1, by rw [l.1]; exact n2, fun x u' v' hx ok' => ?_⟩
    have p2 : Pre b H1 (upd H1 b (box u' v')) := Pre.box ok'
    obtain ⟨j, hj⟩ := List.getElem?_of_mem hx
    obtain ⟨a, ea, r⟩ := Ls.get l hj
    exact k x _ (p1.trans p2) ⟨a, List.mem_of_getElem? ea, upL (p2.keep' p1.bx) r⟩⟩
/-- a list display -/
theorem evp_lst {α : Type} {S : α → V → Hp → Prop} [∀ a, St (S a)] {as : List α} (h : ∀ H, Pre b H0 H → EvL H σ ts S as) (n : as.length ≤ 1000) : EvP b H0 σ (tLst ts) (isLb b S as) := fun H Q p k =>
  evn_lst (h H p) n H Q (Same.refl H) fun D us H' nD s hD l => k _ H' (p.same s) ⟨D, us, rfl, Pre.ne p nD, hD, l⟩
theorem evp_nl {α : Type} {S : α → V → Hp → Prop} {as : List α} (h : ∀ H, Pre b H0 H → EvNL H σ te S as) : EvP b H0 σ te (isLb b S as) := fun H Q p k =>
  h H p H Q (Same.refl H) fun D us H' nD s hD l => k _ H' (p.same s) ⟨D, us, rfl, Pre.ne p nD, hD, l⟩
theorem evp_o {r : R2} [i : StP b Ra] (ha : EvP b H0 σ ta Ra) (hb : EvP b H0 σ tb Rb) (h : ∀ x y H Q, Pre b H0 H → Ra x H → Rb y H → (∀ v H', Pre b H H' → R v H' → Q v H') → r x y H Q) : EvP b H0 σ (tOp r ta tb) R := fun H Q p k =>
  ha H _ p fun x H1 p1 rx => hb H1 _ (p.trans p1) fun y H2 p2 ry => h x y H2 Q ((p.trans p1).trans p2) (upP p1 p2 rx) ry fun v H' p3 rv => k v H' ((p1.trans p2).trans p3) rv
theorem evp_to {R' : V → Hp → Prop} (h : EvP b H0 σ te R) (e : ∀ v H, R v H → R' v H) : EvP b H0 σ te R' := fun H Q p k => h H Q p fun v H' s r => k v H' s (e v H' r)
theorem isLb.L {α : Type} {S : α → V → Hp → Prop} {as : List α} {v : V} {H : Hp} (h : isLb b S as v H) : isL S as v H := by
  obtain ⟨D, us, e, _, hD, l⟩ := h
  exact ⟨D, us, e, hD, l⟩
end
end V3

set_option Elab.async false
set_option linter.all false
set_option maxRecDepth 100000
namespace V3
open PySem PySem.Spec PyProof.Rows L2
/-! own exception classes over IndexError whose init is a def -/
abbrev ieTail : List Value := [.type "IndexError", .type "LookupError", .type "Exception", .type "BaseException", .type "object"]
/-- own classes, and then IndexError's line -/
def lineI : List Value → Bool
  | .ref _ :: r => lineI r
  | l => l == ieTail
theorem lineI_or (l : List Value) (e : lineI l = true) : (∃ c r, l = .ref c :: r ∧ lineI r = true) ∨ l = ieTail := by
  cases l with
  | nil => exact .inr (beq_iff_eq.mp e)
  | cons v r => cases v with
    | ref c => exact .inl ⟨c, r, rfl, e⟩
    | _ => exact .inr (beq_iff_eq.mp e)
theorem lineI_pass (me : Value) : ∀ l : List Value, lineI l = true → refuseLoop me "__setattr__" l = pure ()
  | [], e => absurd e (by decide)
  | v :: r, e => by
    rcases lineI_or (v :: r) e with ⟨c, r', q, h⟩ | q
    · obtain ⟨rfl, rfl⟩ := List.cons.inj q
      rw [refuseLoop_ref]
      exact lineI_pass me r h
    · rw [q]
      exact PySem.F.store_IndexError.passes me
theorem lineI_has (Y : String) : ∀ l : List Value, lineI l = true → l.contains (.type Y) = ieTail.contains (.type Y)
  | [], e => absurd e (by decide)
  | v :: r, e => by
    rcases lineI_or (v :: r) e with ⟨c, r', q, h⟩ | q
    · obtain ⟨rfl, rfl⟩ := List.cons.inj q
      rw [List.contains_cons, lineI_has Y r h]
      rfl
    · rw [q]
theorem lineI_ne {l : List Value} (e : lineI l = true) : l.isEmpty = false := by
  cases l with
  | nil => exact absurd e (by decide)
  | cons _ _ => rfl
section
open Builtin Builtin.ObjectAttr PySem.W PySem.Calls PySem.HandSPX
variable {prog : Program} {w : World} {A : Around} {E : Value → Shared → Prop} {R : Result → Shared → Prop} {hp : Heap} {g : Array GenState} {d : Drawn} {t : Nat} {os : OsState}
/-- a first field of an instance without a dict, by object's own way -/
theorem osaI {K : W.Frag} {n : Str} {tk : Tok} {v : Value} {x C : Addr} {fv : Array Value} {cd : ClassData} (Y : K.In hp) (gx : hp.get? x = some { cls := .ref C, data := .fields fv }) (gc : W.clsIn K C = some cd) (gm : lineI cd.mro = true) (gh : cd.hasDict = true) (ga : W.findIn K (.ref C) n = some none)
    (q : ∀ h' tk' dx, (∀ b o, b ≠ x → hp.get? b = some o → h'.get? b = some o) → hp.objs.size ≤ dx → dx ≠ x → h'.get? x = some { cls := .ref C, dict := some dx, data := .fields fv } → h'.Ns1 dx (fun y => if y = n then some v else none) → R (.ok (.ret .none)) ⟨h', g, d, tk', os⟩) :
    codeAny (model prog w) A (.call (.builtin "object.__setattr__") ⟨[.ref x, .str n tk, v], []⟩) R ⟨hp, g, d, t, os⟩ := by
  have J : W.InstAt hp x { cls := .ref C, data := .fields fv } C none := ⟨gx, rfl, rfl, trivial⟩
  have S := F.store_object
  have nem := lineI_ne gm
  have hasO : cd.mro.contains (.type "object") = true := (lineI_has "object" _ gm).trans (by decide +kernel)
  have xs : x ≠ hp.objs.size := Nat.ne_of_lt (Heap.lt_size gx)
  have sb : W.Looks (model prog w) hp (isInstance (.ref x) (.type "object")) true := J.type.andThen (W.looks_mroIn Y (by unfold W.mroIn; rw [gc, Option.bind_some, if_neg (by rw [nem]; decide), hasO]))
  refine codeAny_call_builtin S.slot.plain S.entry (@W.check_slot (model prog w) _ _ ⟨hp, g, d, t, os⟩ "object.__setattr__" "object" "__setattr__" (.ref x) [.str n tk, v] [] _ S.kind S.split sb (S.args (.ref x) (.str n tk) v) ?_)
  have lm : W.Looks (model prog w) hp (mroOf (.ref C)) cd.mro := (W.looks_clsIn Y gc).andThen .now
  have l3 : W.Looks (model prog w) hp (storeTaker? none) none := .now
  have lc : W.Looks (model prog w) hp (classData C) cd := W.looks_clsIn Y gc
  rw [W.osa_eq, refuse_eq]
  refine wpAny_bind (wpAny_bind (J.type.at (wpAny_bind (lm.at ?_))))
  rw [lineI_pass _ _ gm]
  refine wpAny_pure (wpAny_bind (J.type.at (wpAny_bind ((W.looks_findIn Y ga).at (wpAny_bind (l3.at ?_))))))
  show wpAny _ _ (storeInOwnDict (.ref x) (.ref C) (.str n tk) n v false) _ _ _
  obtain ⟨nm, bs, mro, ns, qn, hd, sn, sb', ab, col, del⟩ := cd
  dsimp only at gh
  subst gh
  unfold storeInOwnDict ownDictForStores
  repeat (first | with_reducible refine store_in_new ?_ ?_ | with_reducible refine wpAny_loadPart_at gx ?_ | with_reducible refine lc.at ?_ | wp_step)
  · exact ⟨_, #[], _, (Heap.get?_update_ne _ _ _ _ xs.symm).trans (Heap.get?_push_at rfl rfl), rfl, fun e he => absurd he (by simp), fun _ => rfl⟩
  · intro h' tk' hn' hs
    have gx1 : (hp.push { cls := .type "dict", data := .dict #[] }).get? x = some { cls := .ref C, data := .fields fv } := Heap.get?_push_of_some _ gx
    refine q h' tk' hp.objs.size (fun b o hb ho => ?_) (Nat.le_refl _) xs.symm ?_ hn'
    · exact (hs.2 b (Nat.ne_of_lt (Heap.lt_size ho))).trans ((Heap.get?_update_ne _ _ _ _ hb).trans (Heap.get?_push_of_some _ ho))
    · exact (hs.2 x xs).trans (Heap.get?_update_self _ gx1 rfl)
end
/-- what the written part says of such a class -/
structure OexI (K : PySem.W.Frag) (C : Addr) : Prop where
  cls : ∃ nm q N bs bm sn sub ab col dd k0 k1 k2 k3 k5, K.lookup C = some (excClassObj nm q C N bs bm true sn sub ab col dd k0 k1 k2 k3 k5 "IndexError.__new__") ∧ lineI bm = true
  sa : PySem.W.findIn K (.ref C) "__setattr__" = some (some (.builtin "object.__setattr__"))
  exC : PySem.W.subIn K (.ref C) (.type "BaseException") = some true
  tyC : PySem.W.typeIn K (.ref C) = some (.type "type")
  kC : PySem.W.keepIn K (.ref C) = true
section
variable {X : Cx} {pins : List (Addr × Obj)} {σ : L2.St} {H : Hp} {s : Shared} {a C dx : Addr} {f : Str} {y : V} {u : Value} {fs : List (Str × V)} {Q : Unit → Shared → Prop} {E : Value → Shared → Prop} {A : Around}
theorem ostI_new (T : OexI X.K C) (I : Inv X pins σ H s) (e : H a = some (exo a C none)) (no : PySem.W.findIn X.K (.ref C) f = some none) (ry : RelV y u)
    (k : ∀ dx s', H dx = none → dx ≠ a → Inv X pins σ (upd (upd H dx (exd dx [(f, y)])) a (exo a C (some dx))) s' → Q () s') : wpAny (model X.prog X.w) A (setAttr (.ref a) f u) Q E s := by
  obtain ⟨nm, q, N, bs, bm, sn, sub, ab, col, dd, k0, k1, k2, k3, k5, gC, gm⟩ := T.cls
  have gl : PySem.W.clsIn X.K C = some { name := nm, bases := bs, mro := .ref C :: bm, ns := N, qualname := q, hasDict := true, slotNames := sn, subclasses := sub, abstract := ab, collection := col, hasDel := false } := by
    unfold PySem.W.clsIn
    rw [gC] <;> rfl
  obtain ⟨t1, ho⟩ := exo_at I.hok e
  obtain ⟨hp, g, d, t, os⟩ := s
  refine PySem.W.set_plain I.kIn (ox := { cls := .ref C, dict := none, data := .fields #[.ref t1, .none, .none, .none, .bool false, .none] }) (od := none) ⟨ho, rfl, rfl, trivial⟩ T.sa ?_
  refine osaI I.kIn ho gl (show lineI (.ref C :: bm) = true from gm) rfl no (fun h' tk' dx kk dn dne hx hn => ?_)
  have fd : H dx = none := I.hok.fresh dn
  have nd : ∀ {b : Addr} {o : Obj}, hp.get? b = some o → b ≠ dx := fun {b o} z => Nat.ne_of_lt (Nat.lt_of_lt_of_le (Heap.lt_size z) dn)
  have na : ∀ {b : Addr}, H b = none → b ≠ a := fun {b} n z => by
    rw [z, e] at n
    cases n
  have U : Un X.fs [] H (upd (upd H dx (exd dx [(f, y)])) a (exo a C (some dx))) hp h' := {
    keep := fun b o z n _ _ => kk b o (na n) z
    slot := fun b o z n _ _ => ⟨o.slots, kk b o (na n) z⟩
    free := fun b o z n _ => by rw [upd_ne (na n), upd_ne (nd z)] <;> exact n
    there := fun b o z _ => by
      by_cases eb : b = a
      · exact ⟨_, by rw [eb] <;> exact hx⟩
      · exact ⟨o, kk b o eb z⟩
    tups := fun b xs z => by rw [upd_ne (at_ne e z exo_tup), upd_ne (ne_of_none z fd)] <;> exact z
    frzs := fun b o v z => by rw [upd_ne (at_ne e z exo_frz), upd_ne (ne_of_none z fd)] <;> exact z
    tbls := fun b ps z => ⟨#[], by rw [upd_ne (at_ne e z exo_tbl), upd_ne (ne_of_none z fd), z] <;> simp⟩ }
  refine k dx _ fd dne (I.un (t' := tk') U fun b o z => ?_)
  by_cases eb : b = a
  · subst eb
    rw [upd_same] at z
    cases z
    exact exo_ok hx
  · rw [upd_ne eb] at z
    by_cases ed : b = dx
    · subst ed
      rw [upd_same] at z
      cases z
      exact exd_ok hn (relO_put (f := f) (fs := []) ry fun _ => True.intro)
    · rw [upd_ne ed] at z
      refine (I.hok b o z).stay (fun c v hc y2 => ?_) (fun c hc => by rw [upd_ne (at_ne e hc exo_own), upd_ne (ne_of_none hc fd)] <;> exact hc) (fun c xs hc => by rw [upd_ne (at_ne e hc exo_tup), upd_ne (ne_of_none hc fd)] <;> exact hc)
      refine kk c v ?_ y2
      rcases hc with hc | hc
      · rw [hc]
        exact eb
      · exact at_ne e hc exo_own
end
/-- self.f = y, the first field of an instance that is being made -/
def tOstI (K : PySem.W.Frag) (f : Str) (to te : TE) : TS := fun D σ H => te σ H fun y H1 => to σ H1 fun x H2 => ∃ a C : Addr, x = .ref a ∧ OexI K C ∧ PySem.W.findIn K (.ref C) f = some none ∧
  H2 a = some (exo a C none) ∧ ∀ dx, H2 dx = none → dx ≠ a → D.nx σ (upd (upd H2 dx (exd dx [(f, y)])) a (exo a C (some dx)))
section
variable {X : Cx} {o e : Expr} {es : List Expr} {to te : TE} {ta : TA} {f : Str} {p p' pos : Pos}
theorem ps_ostI (ho : PE X o to) (he : PE X e te) (hs : swapsWith e (some (.Attribute o f p')) pos.line X.env = pure false := by rfl) : PS X (.Assign [.Attribute o f p'] e pos) (tOstI X.K f to te) := by
  refine ⟨fun pins s σ H D I h => ?_⟩
  refine plainObj_wpAny_Assign_Attribute (thn (he.run pins s σ H _ I h) fun v s1 ⟨y, H1, I1, r1, q1⟩ => thn (ho.run pins s1 σ H1 _ I1 q1) fun u s2 ⟨x, H2, I2, r2, a, C, ex, T, no, ea, q⟩ => ?_) hs
  subst ex
  obtain rfl : u = Value.ref a := r2
  exact ostI_new T I2 ea no r1 fun dx s' n ne J => ⟨σ, _, J, q dx n ne⟩
/-- C(e, ..) by its own init, C's line ending in IndexError's -/
theorem pmk_oexI {CX : CXT} {x : Str} {C fI : Addr} {k : Nat} {fd : FuncData} {ps : List Str} {sp : Sp} (T : OexI X.K C) (iC : PySem.W.findIn X.K (.ref C) "__init__" = some (some (.ref fI))) (tI : PySem.W.typeIn X.K (.ref fI) = some (.type "function"))
    (F1 : FnOk X.prog X.w X.K X.mg X.base CX k fI fd ps sp) (room : Room (k + 1) X.A) (bi : Binds X.K fd ps []) (ps' : Passes CX X (fun _ _ _ => False)) (hg : Gl X x) (hm : X.mg x = some (.ref C)) (ha : PA X (e :: es) ta)
    (nd : (x == ("__debug__" : Str)) = false := by decide) (st : starEach (e :: es) X.env = (false, eval e X.env) :: starEach es X.env := by rfl) (pl : (backTo pos (starEach es X.env)).any (·.1) = false := by rfl) :
    PMk X (.Call (.Name x p) (e :: es) [] pos) (tMkO C sp [] ta) := by
  intro pins s σ H Q I h
  obtain ⟨nm, q, N, bs, bm, sn, sub, ab, col, dd, k0, k1, k2, k3, k5, gC, gm⟩ := T.cls
  refine wpAny_Call_Name_kw (ld_glob I hg hm ?_ nd)
  refine PySem.W.callWith_K (h₀ := X.base) I.ok.mod.kin T.kC (thn (ha.run pos pins s σ H _ I h) fun us s1 ⟨vs, H1, I1, r1, hz, q1⟩ => ⟨I1.kIn, ?_⟩) st pl
  show wpAny _ _ (call (.ref C) us) _ _ _
  obtain ⟨hp, g, dr, tk, os⟩ := s1
  have sz : hp.objs.size ≤ hp.objs.size + 1 := Nat.le_succ _
  have fr : H1 (hp.objs.size + 1) = none := I1.hok.fresh sz
  have sp1 := q1 (hp.objs.size + 1) fr
  have keep2 : ∀ b o, hp.get? b = some o → ((hp.push (PySem.W.kdv_tup us)).push (PySem.HandSPX.excO C hp.objs.size)).get? b = some o := fun b o z => Heap.get?_push_of_some _ (Heap.get?_push_of_some _ z)
  have at2 : ((hp.push (PySem.W.kdv_tup us)).push (PySem.HandSPX.excO C hp.objs.size)).get? (hp.objs.size + 1) = some (PySem.HandSPX.excO C hp.objs.size) := by heap_get
  have J : Inv X pins σ (upd H1 (hp.objs.size + 1) (exo (hp.objs.size + 1) C none)) ⟨(hp.push (PySem.W.kdv_tup us)).push (PySem.HandSPX.excO C hp.objs.size), g, dr, tk, os⟩ :=
    I1.laid (t' := tk) (a := hp.objs.size + 1) (o := exo (hp.objs.size + 1) C none) (h' := (hp.push (PySem.W.kdv_tup us)).push (PySem.HandSPX.excO C hp.objs.size)) keep2 sz (exo_ok at2)
  rw [List.append_nil] at sp1
  have r2 : Vals (V.ref (hp.objs.size + 1) :: vs) (Value.ref (hp.objs.size + 1) :: us) := .cons rfl r1
  have len2 : (Value.ref (hp.objs.size + 1) :: us ++ []).length = ps.length := by
    have z := r2.length
    rw [F1.len _ _ _ _ sp1] at z
    rw [List.append_nil]
    exact z.symm
  have few : us.length ≤ sizeLine := by
    rw [← Paired.length r1, sizeLine_eq] <;> omega
  have b2 := bi _ (Value.ref (hp.objs.size + 1) :: us) J.kIn len2
  rw [List.append_nil] at b2
  refine wpAny_call (PySem.HandSPX.call_own PySem.F.excBase_IndexError (fun Y => lineI_has Y bm gm) (I1.kIn _ _ gC) (PySem.W.looks_findIn I1.kIn iC) (fun self => PySem.W.bind_fn I1.kIn self tI) few
    (codeAny_mono (F1.run _ X.stack _ _ ⟨Value.ref (hp.objs.size + 1) :: us, []⟩ (Value.ref (hp.objs.size + 1) :: us) _ _ (fun _ _ _ => False) (room.make C us []) (J.env0.make C us []) b2 r2 sp1) fun r s' z => ?_))
  cases r with
  | error er => exact ps' pins σ _ _ er s' J z
  | ok fl =>
    cases fl with
    | ret u =>
      obtain ⟨v, H2, os2, bare2, un2, ok2, rv, ev, d, fs, ea, ed, nd1, q2⟩ := z
      subst ev
      obtain ⟨h2, g2, d2, t2, os'⟩ := s'
      exact ⟨rv, mk_end (raises_own T.exC T.tyC) I1 sz keep2 un2 ok2 os2 bare2 ea ed nd1 q2⟩
    | next => exact z.elim
    | brk => exact z.elim
    | cont => exact z.elim
end
end V3

set_option Elab.async false
set_option linter.all false
set_option maxRecDepth 100000
namespace V3
open PySem L2 TL
abbrev sNrInit : Stmt := inClass (top 9) 0
/-! NoRow; a house without some rows -/
def spIX (C : Addr) : Sp := fun vs H Q _ => ∃ (a : Addr) (y : V), vs = [.ref a, y] ∧ H a = some (exo a C none) ∧
  ∀ d, H d = none → d ≠ a → Q .non (upd (upd H d (exd d [("at", y)])) a (exo a C (some d)))
structure NrTxt (P : Program) (w : World) (K : PySem.W.Frag) (mg : Str → Option Value) (base : Heap) (C : Addr) : Prop where
  g : mg "NoRow" = some (.ref C)
  o : OexI K C
  no : PySem.W.findIn K (.ref C) "at" = some none
  ini : ∃ (f : Addr) (fd : FuncData), FnOk P w K mg base CX0 1 f fd ["self", "at"] (spIX C) ∧ PySem.W.findIn K (.ref C) "__init__" = some (some (.ref f)) ∧ PySem.W.typeIn K (.ref f) = some (.type "function") ∧ Binds K fd ["self", "at"] []
/-- behind a raise: an error with the number, all else as it was -/
def ErI (C : Addr) (H : Hp) (E : XK) (i : Int) : Prop := ∀ (d : Addr) (H' : Hp), Same H H' → H' d = some (.xd [("at", .int i)]) → E (.ref C) (some d) H'
theorem raise_sameI {H : Hp} {a d : Addr} {o1 o2 o3 o4 : HO} (na : H a = none) (nd : upd H a o1 d = none) (ne : d ≠ a) : Same H (upd (del (upd (upd (upd H a o1) d o2) a o3) a) d o4) := by
  intro b o e
  have ba : b ≠ a := ne_of_none e na
  have hd : H d = none := by
    rw [upd_ne ne] at nd
    exact nd
  have bd : b ≠ d := ne_of_none e hd
  rw [upd_ne bd, del_ne ba, upd_ne ba, upd_ne bd, upd_ne ba]
  exact e
theorem er_readI {C : Addr} {H : Hp} {E : XK} {i : Int} (h : ErI C H E i) : ∀ a, H a = none → spIX C (.ref a :: ([V.int i] ++ [])) (upd H a (exo a C none))
    (fun v H2 => v = .non ∧ ∃ (d : Addr) (fs : List (Str × V)), H2 a = some (exo a C (some d)) ∧ H2 d = some (exd d fs) ∧ H d = none ∧ E (.ref C) (some d) (upd (del H2 a) d (.xd fs))) (fun _ _ _ => False) := by
  intro a na
  refine ⟨a, _, rfl, upd_same, fun d nd ne => ⟨rfl, d, [("at", .int i)], upd_same, ?_, ?_, ?_⟩⟩
  · rw [upd_ne ne]
    exact upd_same
  · rw [upd_ne ne] at nd
    exact nd
  · exact h d _ (raise_sameI na nd ne) upd_same
/-- walking a list or a tuple -/
def iSeq (K : PySem.W.Frag) (tl : TE) : TI := fun σ H R => tl σ H fun x H1 => ∃ a, x = .ref a ∧ (((∃ xs, SqL K H1 a xs) ∧ R (Itl K a) H1) ∨ ((∃ xs, SqT K H1 a xs) ∧ R (Itt K a) H1))
theorem pi_seq {X : Cx} {tg l : Expr} {tl : TE} (hl : PE X l tl) : PI X tg l (iSeq X.K tl) := by
  refine ⟨fun pins s σ H R J h => ?_⟩
  have nw : ∀ {s1 : Shared} {H1 : Hp} {o : Obj}, Inv X pins σ H1 s1 → Inv X pins σ H1 { s1 with heap := s1.heap.push o } := fun {s1 H1 o} I1 => I1.kept (t' := s1.toks) fun b o e => PySem.Heap.get?_push_of_some _ e
  refine thn (hl.run pins s σ H _ J h) fun v s1 ⟨x, H1, I1, r1, a, ea, q1⟩ => ?_
  subst ea
  cases r1
  have fp : ∀ b ∈ [s1.heap.objs.size], FpOk X pins H1 b := fun b hb => by
    rw [List.mem_singleton.mp hb]
    exact I1.fpOk (Nat.le_refl _) (I1.hok.fresh (Nat.le_refl _))
  rcases q1 with ⟨⟨xs, hq⟩, q⟩ | ⟨⟨xs, hq⟩, q⟩
  · obtain ⟨its, rv, p, hz⟩ := I1.list hq
    exact wpAny_pyIter_list p.isList ⟨s1.heap.objs.size, [s1.heap.objs.size], _, _, H1, rfl, nw I1, turn_list a _, ⟨_, PySem.Heap.get?_push_size _ rfl, rfl, rfl⟩, fp, q⟩
  · obtain ⟨its, rv, p, hz⟩ := I1.tuple hq
    exact wpAny_pyIter_tuple (show s1.heap.IsTuple a its.toArray from p) ⟨s1.heap.objs.size, [s1.heap.objs.size], _, _, H1, rfl, nw I1, turn_tuple a _, ⟨_, PySem.Heap.get?_push_size _ rfl, rfl, rfl⟩, fp, q⟩
theorem for_seq {K : PySem.W.Frag} {a : Addr} {xs : List V} {g : TG} {tb : TS} {D : Ends} {σ : L2.St} {H : Hp} (Pv : Nat → L2.St → Hp → Prop) (h : H a = some (.lst xs) ∨ H a = some (.tup xs)) (h0 : Pv 0 σ H) (hl : ∀ i σ H', Pv i σ H' → Same H H')
    (hs : ∀ i x σ H, xs[i]? = some x → Pv i σ H → g x σ H fun σ2 H2 => tb { D with nx := Pv (i + 1), ct := Pv (i + 1), bk := D.nx } σ2 H2) (hd : ∀ σ H, Pv xs.length σ H → D.nx σ H) :
    ((∃ xs, SqL K H a xs) ∧ ∃ W : Nat → Nat → L2.St → Hp → Prop, (∃ m, W 0 m σ H) ∧ ∀ i m σ H, W i m σ H →
      ((Itl K a).stop i H ∧ D.nx σ H) ∨ ((Itl K a).go i H ∧ ∃ N : L2.St → Hp → Prop, (∀ σ' H', N σ' H' → ∃ m', m' < m ∧ W (i + 1) m' σ' H') ∧ ∀ x H', (Itl K a).yld i H x H' → g x σ H' fun σ2 H2 => tb { D with nx := N, ct := N, bk := D.nx } σ2 H2)) ∨
    ((∃ xs, SqT K H a xs) ∧ ∃ W : Nat → Nat → L2.St → Hp → Prop, (∃ m, W 0 m σ H) ∧ ∀ i m σ H, W i m σ H →
      ((Itt K a).stop i H ∧ D.nx σ H) ∨ ((Itt K a).go i H ∧ ∃ N : L2.St → Hp → Prop, (∀ σ' H', N σ' H' → ∃ m', m' < m ∧ W (i + 1) m' σ' H') ∧ ∀ x H', (Itt K a).yld i H x H' → g x σ H' fun σ2 H2 => tb { D with nx := N, ct := N, bk := D.nx } σ2 H2)) := by
  rcases h with h | h
  · exact .inl ⟨⟨xs, SqL.of h⟩, for_list Pv h0 (fun i σ H' _ z => SqL.of (hl i σ H' z _ _ h)) hs hd⟩
  · exact .inr ⟨⟨xs, SqT.of h⟩, for_tup Pv h0 (fun i σ H' _ z => SqT.of (hl i σ H' z _ _ h)) hs hd⟩
/-- the rows whose numbers, from j on, are none of these -/
def keepFrom (ns : List Int) : Nat → List Rw → List Rw
  | _, [] => []
  | j, m :: r => if ((j : Nat) : Int) ∈ ns then keepFrom ns (j + 1) r else m :: keepFrom ns (j + 1) r
theorem keep_snoc (ns : List Int) (m : Rw) : ∀ (l : List Rw) (j : Nat), keepFrom ns j (l ++ [m]) = keepFrom ns j l ++ (if ((j + l.length : Nat) : Int) ∈ ns then [] else [m])
  | [], j => by
    show (if ((j : Nat) : Int) ∈ ns then keepFrom ns (j + 1) [] else m :: keepFrom ns (j + 1) []) = [] ++ (if ((j + 0 : Nat) : Int) ∈ ns then [] else [m])
    rfl
  | a :: l, j => by
    have ih := keep_snoc ns m l (j + 1)
    have e : j + 1 + l.length = j + (a :: l).length := by
      rw [List.length_cons]
      omega
    rw [e] at ih
    show (if ((j : Nat) : Int) ∈ ns then keepFrom ns (j + 1) (l ++ [m]) else a :: keepFrom ns (j + 1) (l ++ [m])) = (if ((j : Nat) : Int) ∈ ns then keepFrom ns (j + 1) l else a :: keepFrom ns (j + 1) l) ++ _
    by_cases h : ((j : Nat) : Int) ∈ ns
    · rw [if_pos h, if_pos h, ih]
    · rw [if_neg h, if_neg h, ih, List.cons_append]
theorem keep_sub (ns : List Int) : ∀ (l : List Rw) (j : Nat), (keepFrom ns j l).length ≤ l.length ∧ ∀ m ∈ keepFrom ns j l, m ∈ l
  | [], _ => ⟨Nat.le_refl _, fun m h => by cases h⟩
  | a :: l, j => by
    obtain ⟨h1, h2⟩ := keep_sub ns l (j + 1)
    show (if ((j : Nat) : Int) ∈ ns then keepFrom ns (j + 1) l else a :: keepFrom ns (j + 1) l).length ≤ _ ∧ ∀ m ∈ (if ((j : Nat) : Int) ∈ ns then keepFrom ns (j + 1) l else a :: keepFrom ns (j + 1) l), _
    by_cases h : ((j : Nat) : Int) ∈ ns
    · rw [if_pos h]
      exact ⟨by rw [List.length_cons]; omega, fun m z => List.mem_cons_of_mem _ (h2 m z)⟩
    · rw [if_neg h]
      refine ⟨by simp only [List.length_cons]; omega, fun m z => ?_⟩
      rcases List.mem_cons.mp z with z | z
      · rw [z]
        exact List.mem_cons_self
      · exact List.mem_cons_of_mem _ (h2 m z)
def Hs.less (h : Hs) (ns : List Int) : Hs := ⟨h.d, h.ch, keepFrom ns 0 h.rs⟩
theorem less_ok {h : Hs} (ok : h.ok) (ns : List Int) : (h.less ns).ok := by
  obtain ⟨d0, d4, hc, hm, hn⟩ := ok
  obtain ⟨h1, h2⟩ := keep_sub ns h.rs 0
  exact ⟨d0, d4, hc, fun m z => hm m (h2 m z), Nat.le_trans h1 hn⟩
def badRow (h : Hs) (ns : List Int) : Option Int := ns.find? fun i => !hasRow h i
def NumsAt (K : PySem.W.Frag) (H : Hp) (p : Addr) (ns : List Int) : Prop := SqL K H p (ns.map V.int) ∨ SqT K H p (ns.map V.int)
/-- a list or a tuple of whole numbers that stays -/
def NumsIn (H : Hp) (p : Addr) (ns : List Int) : Prop := H p = some (.lst (ns.map V.int)) ∨ H p = some (.tup (ns.map V.int))
theorem NumsIn.same {H H' : Hp} {p : Addr} {ns : List Int} (h : NumsIn H p ns) (s : Same H H') : NumsIn H' p ns := h.elim (fun z => .inl (s _ _ z)) (fun z => .inr (s _ _ z))
theorem NumsIn.sq {K : PySem.W.Frag} {H : Hp} {p : Addr} {ns : List Int} (h : NumsIn H p ns) : SqL K H p (ns.map V.int) ∨ SqT K H p (ns.map V.int) := h.elim (fun z => .inl (SqL.of z)) (fun z => .inr (SqT.of z))
def spWithout (K : PySem.W.Frag) (c : Rc) (C CN : Addr) : Sp := fun vs H Q E => ∃ (v : V) (p : Addr) (h : Hs) (ns : List Int), vs = [v, .ref p] ∧ HsAt K c C H v h ∧ h.ok ∧ NumsIn H p ns ∧
  (badRow h ns = none → ∀ w H', Same H H' → HsAt K c C H' w (h.less ns) → Q w H') ∧ ∀ i, badRow h ns = some i → ErI CN H E i
theorem flat_intsH (L : List Int) : (L.map V.int).all flatV = true := by
  induction L with
  | nil => rfl
  | cons a r ih => simpa [flatV] using ih
theorem inV_int {i : Int} {L : List Int} : inV (.int i) (L.map V.int) = decide (i ∈ L) := by
  induction L with
  | nil => rfl
  | cons a r ih =>
    have e : inV (.int i) ((a :: r).map V.int) = (a == i || inV (.int i) (r.map V.int)) := rfl
    rw [e, ih]
    by_cases q : i = a
    · subst q
      simp
    · have z : (a == i) = false := Bool.eq_false_iff.mpr fun w => q (eq_of_beq w).symm
      rw [z]
      simp [q]
/-- House, how it is made -/
structure MkH (P : Program) (w : World) (K : PySem.W.Frag) (mg : Str → Option Value) (base : Heap) (c : Rc) (C : Addr) : Prop where
  g : mg "House" = some (.ref C)
  ini : ∃ (f : Addr) (fd : FuncData), FnOk P w K mg base CX0 4 f fd ["self", "depth", "check", "rows"] (spHsInit K c C) ∧ Mk K C f ∧ Binds K fd ["self", "depth", "check", "rows"] []
theorem mk_house {K : PySem.W.Frag} {c : Rc} {C x dx l : Addr} {H : Hp} {us : List V} {h : Hs} {R : VK} {E : XK} (hl : H l = some (.lst us)) (rl : RwLs c H us h.rs) (ok : h.ok) (nx : H x = none) (ndx : H dx = none) (q : ∀ H', Same H H' → HsAt K c C H' (.ref x) h → R .non H') :
    spHsInit K c C [.ref x, .int h.d, .str h.ch, .ref l] (upd (upd H dx (.own x)) x (.ins C dx [])) R E := by
  have s0 : Same H (upd (upd H dx (.own x)) x (.ins C dx [])) := made_same nx ndx
  exact ⟨x, dx, l, us, h, rfl, upd_same, s0 _ _ hl, rl.same s0, ok, fun H' s' a => q H' (fun b o e => s' b o (ne_of_none e nx) (s0 b o e)) a⟩
section
variable {P : Program} {w : World} {K : PySem.W.Frag} {mg : Str → Option Value} {base : Heap}
theorem scNrInit : FnScope ["self", "at"] ["self", "at"] (defScope sNrInit) := ⟨rfl, rfl, rfl, by decide +kernel, rfl, by decide +kernel, by decide +kernel⟩
theorem ok_nrInit {f C : Addr} {fd : FuncData} (F : Fun K "__init__" "NoRow.__init__" sNrInit f fd) (o : OexI K C) (no : PySem.W.findIn K (.ref C) "at" = some none) : FnOk P w K mg base CX0 1 f fd ["self", "at"] (spIX C) := by
  refine F.ok scNrInit (fun vs H Q E h => ?_) (fun cdv A outer s H vs Q E hr h => ?_)
  · obtain ⟨a, y, rfl, _⟩ := h
    rfl
  · obtain ⟨a, y, rfl, ha, q⟩ := h
    exact ⟨_, pss_one (ps_ostI (pv 0) (pv 1)), _, rfl, _, rfl, a, C, rfl, o, no, ha, fun dx h1 h2 => q dx h1 h2⟩
end
end V3

set_option Elab.async false
set_option linter.all false
set_option maxRecDepth 100000
namespace V3
open PySem L2 TL
abbrev sHouse : Stmt := top 60
abbrev sHouseText : Stmt := top 61
/-! the law's own houses: depth, check, rows in a tuple -/
def HtAt (H : Hp) (v : V) (h : Hs) : Prop := ∃ p q us, v = .ref p ∧ H p = some (.tup [.int h.d, .str h.ch, .ref q]) ∧ H q = some (.tup us) ∧ RowLs 0 H us h.rs
theorem HtAt.keep {H H' : Hp} {v : V} {h : Hs} (a : HtAt H v h) (s : Keep H H') : HtAt H' v h := by
  obtain ⟨p, q, us, e, hp, hq, rl⟩ := a
  exact ⟨p, q, us, e, s _ _ (fun _ z => by cases z) hp, s _ _ (fun _ z => by cases z) hq, rl.keep s⟩
theorem HtAt.same {H H' : Hp} {v : V} {h : Hs} (a : HtAt H v h) (s : Same H H') : HtAt H' v h := a.keep (Keep.of s)
theorem Keep.preb {H H' : Hp} {b : Addr} {u v : Int} (hb : H b = some (box u v)) (s : Pre b H H') : Keep H H' := Keep.pre hb s.1
theorem emp_app (a : Str) : Str.empty ++ a = a := ext_tl (by
  rw [tl_append]
  simp [Str.empty, tl])
def spHouse : Sp := fun vs H Q _ => ∃ (b : Addr) (u v n : Int), vs = [.ref b, .int n] ∧ H b = some (box u v) ∧ BoxOk u v ∧ 1 ≤ n ∧ n ≤ 99 ∧ ∀ (x : V) (h : Hs) (H' : Hp), Pre b H H' → HtAt H' x h → h.ok → (h.rs.length : Int) ≤ n → Q x H'
def spHouseText : Sp := fun vs H Q _ => ∃ (v : V) (h : Hs), vs = [v] ∧ HtAt H v h ∧ h.ok ∧ ∀ H', Same H H' → Q (.str h.text) H'
def spPlace : Sp := fun vs H Q _ => ∃ (v : V) (h : Hs) (k s d : Str), vs = [v, .str k, .str s, .str d] ∧ HtAt H v h ∧ h.ok ∧ k ∈ kindL ∧ s ∈ stateL ∧ d ∈ deedL ∧ ∀ H', Same H H' → Q (.str ((placeIn k s d h.rs).getD Str.empty)) H'
def spHouseOf (K : PySem.W.Frag) (c : Rc) (C : Addr) : Sp := fun vs H Q _ => ∃ (v : V) (h : Hs), vs = [v] ∧ HtAt H v h ∧ h.ok ∧ ∀ (x : V) (H' : Hp), Same H H' → HsAt K c C H' x h → Q x H'
abbrev CalCho (P : Program) (w : World) (K : PySem.W.Frag) (mg : Str → Option Value) (base : Heap) : Prop := Cal P w K mg base CX0 "_law_choose" 1 ["_law_box", "_law_many"] spChoose
abbrev CalRws (P : Program) (w : World) (K : PySem.W.Frag) (mg : Str → Option Value) (base : Heap) : Prop := Cal P w K mg base CX0 "_law_rows" 3 ["_law_box", "_law_many"] spRows
section
variable {P : Program} {w : World} {K : PySem.W.Frag} {mg : Str → Option Value} {base : Heap}
theorem scHouse : FnScope ["_law_box", "_law_many", "_law_depth"] ["_law_box", "_law_many"] (defScope sHouse) := ⟨rfl, rfl, rfl, by decide +kernel, rfl, by decide +kernel, by decide +kernel⟩
theorem scHouseText : FnScope ["_law_house_here", "_law_lines", "_law_row"] ["_law_house_here"] (defScope sHouseText) := ⟨rfl, rfl, rfl, by decide +kernel, rfl, by decide +kernel, by decide +kernel⟩
theorem ok_house {f : Addr} {fd : FuncData} (F : Fun K "_law_house" "_law_house" sHouse f fd) (zt : mg "tuple" = none) (cO : CalOne P w K mg base) (cC : CalCho P w K mg base) (cR : CalRws P w K mg base) : FnOk P w K mg base CX0 4 f fd ["_law_box", "_law_many"] spHouse := by
  obtain ⟨fO, fdO, GO, mO, kO, bO⟩ := cO
  obtain ⟨fC, fdC, GC, mC, kC, bC⟩ := cC
  obtain ⟨fR, fdR, GR, mR, kR, bR⟩ := cR
  refine F.ok scHouse (fun vs H Q E h => ?_) (fun cdv A outer s H vs Q E hr h => ?_)
  · obtain ⟨b, u, v, n, rfl, _⟩ := h
    rfl
  · obtain ⟨b, u, v, n, rfl, hb, bk, n1, n2, k⟩ := h
    refine ⟨_, pss_cons (ps_set (i := 2) scHouse.nd rfl (Or.inl rfl) (pe_call GO (hr.mono (by decide)) rfl mO kO bO .nil pass0 (pa_cons (pv 0) (pa_cons (pe_lst (pa_cons pe_int (pa_cons pe_int (pa_cons pe_int (pa_cons pe_int (pa_cons pe_int (pa_cons pe_int pa_nil))))))) pa_nil))))
      (pss_one (ps_ret (pe_tup (pa_cons (pv 2) (pa_cons (pe_call GO (hr.mono (by decide)) rfl mO kO bO .nil pass0 (pa_cons (pv 0) (pa_cons (pe_lst (pa_cons pe_str (pa_cons pe_str (pa_cons pe_str pa_nil)))) pa_nil)))
        (pa_cons (pe_callTy call_tuple_of (by rfl) zt (by decide +kernel) (pa_cons (pe_call GR (hr.mono (by decide)) rfl mR kR bR .nil pass0 (pa_cons (pv 0) (pa_cons (pe_op op_add pe_int (pe_call GC (hr.mono (by decide)) rfl mC kC bC .nil pass0 (pa_cons (pv 0) (pa_cons (pv 1) pa_nil)))) pa_nil))) pa_nil)) pa_nil)))))), ?_⟩
    refine ⟨_, rfl, (by show 6 ≤ sizeLine; decide), fun l1 nl1 => oneOf_new hb bk nl1 (by decide) (by decide) fun x1 H1 i1 p1 => ?_⟩
    have hx1 : ∃ d : Int, x1 = .int d ∧ 0 ≤ d ∧ d ≤ 4 := by
      simp only [List.mem_cons, List.not_mem_nil, or_false] at i1
      rcases i1 with rfl | rfl | rfl | rfl | rfl | rfl <;> exact ⟨_, rfl, by decide, by decide⟩
    obtain ⟨d, rfl, d0, d4⟩ := hx1
    obtain ⟨_, u1, v1, bk1, hb1⟩ := id p1
    refine ⟨_, rfl, _, rfl, (by show 3 ≤ sizeLine; decide), fun l2 nl2 => ?_⟩
    dsimp only [tNil]
    refine oneOf_new hb1 bk1 nl2 (by decide) (by decide) fun x2 H2 i2 p2 => ?_
    have hx2 : ∃ z : Str, x2 = .str z ∧ z ∈ checkL := by
      simp only [List.mem_cons, List.not_mem_nil, or_false] at i2
      rcases i2 with rfl | rfl | rfl <;> exact ⟨_, rfl, by decide +kernel⟩
    obtain ⟨ch, rfl, hc⟩ := hx2
    obtain ⟨_, u2, v2, bk2, hb2⟩ := id p2
    refine ⟨_, rfl, _, rfl, _, rfl, b, u2, v2, n, rfl, hb2, bk2, n1, by omega, fun e u3 v3 e0 e1 bk3 => ?_⟩
    have p3 : Pre b H2 (upd H2 b (box u3 v3)) := Pre.box bk3
    have hb3 : upd H2 b (box u3 v3) b = some (box u3 v3) := upd_same
    dsimp only [tNil]
    generalize upd H2 b (box u3 v3) = H3 at p3 hb3 ⊢
    refine ⟨_, _, rfl, rfl, b, u3, v3, 1 + e, rfl, hb3, bk3, by omega, by omega, fun D xs ms H4 p4 hD nD hs rl lm => ?_⟩
    refine ⟨D, xs, rfl, .inl ⟨SqL.of hD, fun t nt => ?_⟩⟩
    obtain ⟨_, u4, v4, bk4, hb4⟩ := id p4
    have s5 : Same H4 (upd H4 t (.tup xs)) := Same.new nt
    have ht : upd H4 t (.tup xs) t = some (.tup xs) := upd_same
    generalize upd H4 t (.tup xs) = H5 at s5 ht ⊢
    refine ⟨(by show 3 ≤ sizeLine; decide), fun t2 nt2 => ?_⟩
    have s6 : Same H5 (upd H5 t2 (.tup [.int d, .str ch, .ref t])) := Same.new nt2
    refine k _ ⟨d, ch, ms⟩ _ (((((p1.trans p2).trans p3).trans p4).then s5).then s6) ⟨t2, t, xs, rfl, upd_same, s6 _ _ ht, (rl.keep (Keep.of s5)).keep (Keep.of s6)⟩ ⟨d0, d4, hc, fun m hm => ?_, by show ms.length ≤ 100; omega⟩ (by show (ms.length : Int) ≤ n; omega)
    obtain ⟨i, hi⟩ := List.getElem?_of_mem hm
    obtain ⟨_, _, z⟩ := rl.2 i m hi
    exact z.2
theorem ok_houseText {f : Addr} {fd : FuncData} (F : Fun K "_law_house_text" "_law_house_text" sHouseText f fd) (zs : mg "str" = none) : FnOk P w K mg base CX0 1 f fd ["_law_house_here"] spHouseText := by
  refine F.ok scHouseText (fun vs H Q E h => ?_) (fun cdv A outer s H vs Q E hr h => ?_)
  · obtain ⟨v, h, rfl, _⟩ := h
    rfl
  · obtain ⟨v, h, rfl, ⟨p, q, us, rfl, hp, hq, rl⟩, ok, k⟩ := h
    have lall := lines_len ok
    have ln := lines_n ok
    obtain ⟨d0, d4, hc, hm, hn⟩ := id ok
    refine ⟨_, pss_cons (ps_set (i := 1) scHouseText.nd rfl (Or.inl rfl) (pe_lst (pa_cons (pe_op op_add_str pe_str (pe_callTy call_str_int (by rfl) zs (by decide +kernel) (pa_cons (pe_ix ix_tup (pv 0) pe_int (fun _ _ => rfl)) pa_nil))) (pa_cons (pe_op op_add_str pe_str (pe_ix ix_tup (pv 0) pe_int (fun _ _ => rfl))) pa_nil))))
      (pss_one (ps_ret (pe_joinK pe_str (pe_op op_cat (pv 1) (pe_lc (own := [("_law_row", 2)]) (g := gName 2) (tt := tYes) (te := tM1 (rJoinK K) (tC (.str " ")) (tVar 2)) (by rfl) scHouseText.nd (pi_tup (pe_ix ix_tup (pv 0) pe_int (fun _ _ => rfl))) (blkOk_by (own := [("_law_row", 2)]) (N := ["_law_house_here", "_law_lines", "_law_row"]) (sc := defScope sHouseText) (by decide +kernel)) (fun _ _ _ _ _ => pg_name (i := 2) scHouseText.nd rfl (Or.inl rfl)) (fun _ _ _ _ _ => pts_nil)
          (fun _ _ _ _ _ => pe_joinK pe_str (pv 2))))))), ?_⟩
    have am : Am h.d := by
      have z : h.d = 0 ∨ h.d = 1 ∨ h.d = 2 ∨ h.d = 3 ∨ h.d = 4 := by omega
      rcases z with z | z | z | z | z <;> (rw [z]; unfold Am; decide)
    have e1 : ("depth " : Str).length = 6 := by decide +kernel
    have e2 : ("check " : Str).length = 6 := by decide +kernel
    have n1 := num_dep d0 d4
    have n2 := ch_len hc
    refine ⟨_, rfl, p, _, 0, _, rfl, rfl, SqT.of hp, rfl, h.d, rfl, am_log am, _, _, rfl, rfl, small ?_, ?_⟩
    · show ("depth " : Str).length + (num h.d).length ≤ 10000
      omega
    refine ⟨_, rfl, p, _, 1, _, rfl, rfl, SqT.of hp, rfl, _, _, rfl, rfl, small ?_, (by show 2 ≤ sizeLine; decide), fun l nl => ?_⟩
    · show ("check " : Str).length + h.ch.length ≤ 10000
      omega
    have s1 : Same H (upd H l (.lst [.str ("depth " ++ Str.ofString (toString h.d)), .str ("check " ++ h.ch)])) := Same.new nl
    have hl : upd H l (.lst [.str ("depth " ++ Str.ofString (toString h.d)), .str ("check " ++ h.ch)]) l = some (.lst [.str ("depth " ++ Str.ofString (toString h.d)), .str ("check " ++ h.ch)]) := upd_same
    dsimp only [gName]
    generalize upd H l (.lst [.str ("depth " ++ Str.ofString (toString h.d)), .str ("check " ++ h.ch)]) = H1 at s1 hl ⊢
    have hp1 := s1 _ _ hp
    have hq1 := s1 _ _ hq
    have rl1 : RowLs 0 H1 us h.rs := rl.keep (Keep.of s1)
    have lx : us.length = h.rs.length := rl.1
    refine ⟨⟨_, rfl⟩, _, rfl, _, rfl, p, _, 2, _, rfl, rfl, SqT.of hp1, rfl, q, rfl, ⟨us, SqT.of hq1⟩, fun D nD => ?_⟩
    refine lc_tup (K := K) (a := q) (xs := us) (fun i Hh => Same H1 Hh ∧ H1 D = none ∧ Hh D = some (.lst (((h.rs.take i).map Rw.text).map V.str))) ⟨Same.new nD, nD, upd_same⟩ (fun i Hh _ z => SqT.of (z.1 _ _ hq1)) ?_ ?_
    · rintro i z Hh hi ⟨s2, nD1, hD⟩
      have il : i < us.length := (List.getElem?_eq_some_iff.mp hi).1
      obtain ⟨m, em, tm, mo, mk⟩ := Ls.get rl1 hi
      obtain ⟨t, rfl, ht⟩ := tm.same s2
      have tl0 := lt_len mo mk
      refine ⟨rfl, ?_⟩
      unfold tYes
      dsimp only
      cases m with
      | ct _ _ _ => cases mk
      | lt k' s' d' p' =>
        have lw : ∀ z ∈ (Rw.lt k' s' d' p').words, z.length ≤ 6 := fun z hz => (word_ok mo z hz).2
        simp only [Rw.words, List.mem_cons, List.not_mem_nil, or_false, forall_eq_or_imp, forall_eq] at lw
        obtain ⟨l1, l2, l3, l4⟩ := lw
        have lb : (" " : Str).length = 1 := by decide +kernel
        refine iteT ⟨⟨_, rfl⟩, _, rfl, _, t, [k', s', d', p'], rfl, rfl, .inr (SqT.of ht), ?_, _, hD, ?_, fun b o e => ?_, nD1, ?_⟩
        · simp only [List.map, List.sum_cons, List.sum_nil, List.length_cons, List.length_nil, lb]
          omega
        · rw [List.length_map, List.length_map, List.length_take]
          exact Nat.lt_of_lt_of_le (m := 1001) (by omega) (by decide)
        · rw [upd_ne (ne_of_none e nD1)]
          exact s2 b o e
        · have e : Txt.join (" " : Str) [k', s', d', p'] = (Rw.lt k' s' d' p').text := join_eq _ _
          rw [upd_same, take_nxt em, List.map_append, List.map_append, e]
          rfl
    · rintro Hh ⟨s2, nD1, hD⟩
      rw [lx, List.take_length] at hD
      refine ⟨l, D, _, _, rfl, rfl, s2 _ _ hl, hD, ?_, fun t nt => ⟨_, t, h.lines, rfl, rfl, .inl (SqL.of ?_), ?_, ?_⟩⟩
      · simp only [List.length_map, List.length_cons, List.length_nil]
        exact Nat.le_trans (m := 1001) (by omega) (by decide)
      · rw [upd_same]
        unfold Hs.lines
        rw [emp_app, emp_app]
        rfl
      · have z := sum_le h.lines lall
        have e3 : ("\n" : Str).length = 1 := by decide +kernel
        rw [e3]
        omega
      · rw [join_eq]
        exact k _ ((s1.trans s2).trans (Same.new nt))
end
end V3

set_option Elab.async false
set_option linter.all false
set_option maxRecDepth 100000
namespace V3
open PySem L2 TL
abbrev sPlace : Stmt := top 66
section
variable {P : Program} {w : World} {K : PySem.W.Frag} {mg : Str → Option Value} {base : Heap}
theorem scPlace : FnScope ["_law_house_here", "_law_kind_here", "_law_state", "_law_deed", "_law_row"] ["_law_house_here", "_law_kind_here", "_law_state", "_law_deed"] (defScope sPlace) := ⟨rfl, rfl, rfl, by decide +kernel, rfl, by decide +kernel, by decide +kernel⟩
theorem ok_place {f : Addr} {fd : FuncData} (F : Fun K "_law_place" "_law_place" sPlace f fd) : FnOk P w K mg base CX0 2 f fd ["_law_house_here", "_law_kind_here", "_law_state", "_law_deed"] spPlace := by
  refine F.ok scPlace (fun vs H Q E h => ?_) (fun cdv A outer s H vs Q E hr h => ?_)
  · obtain ⟨v, h, k, s, d, rfl, _⟩ := h
    rfl
  · obtain ⟨v, h, kd, st, de, rfl, ⟨x, q, us, rfl, hx, hq, rl⟩, ok, hk, hs, hd, k⟩ := h
    obtain ⟨d0, d4, hc, hm, hn⟩ := id ok
    refine ⟨_, pss_cons (ps_for PassesOwn.never rfl (pi_tup (pe_ix ix_tup (pv 0) pe_int (fun _ _ => rfl))) (pg_name (i := 4) scPlace.nd rfl (Or.inl rfl))
      (pss_one (ps_if (pt_cmpR (op_eqD hr.units) (pe_slice sl_tup (pv 4) po_none (po_some pe_int)) (pe_tup (pa_cons (pv 1) (pa_cons (pv 2) (pa_cons (pv 3) pa_nil)))) (nomark _)) (pss_one (ps_ret (pe_ix ix_tup (pv 4) pe_int (fun _ _ => rfl)))) pss_nil)))
      (pss_one (ps_ret pe_str)), ?_⟩
    refine ⟨_, rfl, x, _, 2, _, rfl, rfl, SqT.of hx, rfl, q, rfl, ⟨us, SqT.of hq⟩, ?_⟩
    refine for_tup (K := K) (a := q) (xs := us) (fun i σ H' => (∃ o, σ = [some (.ref x), some (.str kd), some (.str st), some (.str de), o]) ∧ Same H H' ∧ placeIn kd st de h.rs = placeIn kd st de (h.rs.drop i)) ?_ ?_ ?_ ?_
    · exact ⟨⟨_, rfl⟩, Same.refl H, rfl⟩
    · rintro i σ H' _ ⟨_, s1, _⟩
      exact SqT.of (s1 _ _ hq)
    · rintro i z σ H' hi ⟨⟨o, rfl⟩, s1, pl⟩
      obtain ⟨m, em, tm, mo, mk⟩ := Ls.get rl hi
      have il : i < h.rs.length := (List.getElem?_eq_some_iff.mp em).1
      have dr : h.rs.drop i = m :: h.rs.drop (i + 1) := by
        rw [List.drop_eq_getElem_cons il]
        have z := (List.getElem?_eq_some_iff.mp em).2
        rw [z]
      cases m with
      | ct _ _ _ => cases mk
      | lt k' s' d' p' =>
        obtain ⟨y, rfl, hy0⟩ := tm.same s1
        have hy : H' y = some (.tup [.str k', .str s', .str d', .str p']) := hy0
        obtain ⟨k1, k2, k3, k4, _⟩ := id mo
        refine ⟨_, rfl, _, rfl, y, [V.str k', V.str s', V.str d', V.str p'], rfl, SqT.of hy, (by show ¬ (HT.sIx 4 0 none = 0 ∧ HT.sIx 4 4 (some 3) = 4); decide), fun t1 n1 => ?_⟩
        rw [show cutV [V.str k', V.str s', V.str d', V.str p'] none (some 3) = [V.str k', V.str s', V.str d'] from rfl]
        have s2 : Same H' (upd H' t1 (.tup [.str k', .str s', .str d'])) := Same.new n1
        have ht1 : upd H' t1 (.tup [.str k', .str s', .str d']) t1 = some (.tup [.str k', .str s', .str d']) := upd_same
        generalize upd H' t1 (.tup [.str k', .str s', .str d']) = H1 at s2 ht1 ⊢
        refine ⟨_, rfl, _, rfl, _, rfl, (by show 3 ≤ sizeLine; decide), fun t2 n2 => ?_⟩
        have s3 : Same H1 (upd H1 t2 (.tup [.str kd, .str st, .str de])) := Same.new n2
        have ht2 : upd H1 t2 (.tup [.str kd, .str st, .str de]) t2 = some (.tup [.str kd, .str st, .str de]) := upd_same
        dsimp only [tNil]
        generalize upd H1 t2 (.tup [.str kd, .str st, .str de]) = H2 at s3 ht2 ⊢
        have S := (s1.trans s2).trans s3
        refine ⟨.tuple [.str k', .str s', .str d'], .tuple [.str kd, .str st, .str de], .tup (SqT.of (s3 _ _ ht1)) (.cons (.str _) (.cons (.str _) (.cons (.str _) .nil))), .tup (SqT.of ht2) (.cons (.str _) (.cons (.str _) (.cons (.str _) .nil))), tri_shaped k1 k2 k3, tri_shaped hk hs hd, _, rfl, ?_⟩
        rw [tri_eqv]
        rw [dr, show placeIn kd st de (Rw.lt k' s' d' p' :: h.rs.drop (i + 1)) = if k' = kd ∧ s' = st ∧ d' = de then some p' else placeIn kd st de (h.rs.drop (i + 1)) from rfl] at pl
        by_cases e : k' = kd ∧ s' = st ∧ d' = de
        · rw [decide_eq_true e]
          rw [if_pos e] at pl
          refine iteT ⟨_, rfl, y, [V.str k', V.str s', V.str d', V.str p'], 3, _, rfl, rfl, SqT.of ((s2.trans s3) _ _ hy), rfl, ?_⟩
          have z := k _ S
          rw [pl] at z
          exact z
        · rw [decide_eq_false e]
          rw [if_neg e] at pl
          exact iteF ⟨⟨_, rfl⟩, S, pl⟩
    · rintro σ H' ⟨⟨o, rfl⟩, s1, pl⟩
      have z := k _ s1
      rw [rl.1, List.drop_length] at pl
      rw [pl] at z
      exact z
end
end V3

set_option Elab.async false
set_option linter.all false
set_option maxRecDepth 100000
/-! the law's own books -/
namespace V3
open PySem L2 TL
abbrev sLefts : Stmt := top 63
abbrev sDepths : Stmt := top 64
abbrev sKindL : Stmt := top 65
def oi : Option Nat → Int
  | some n => (n : Int)
  | none => -1
theorem oi_neg {o : Option Nat} : decide (oi o < 0) = o.isNone := by
  cases o with
  | none => rfl
  | some n => exact decide_eq_false (by show ¬ (n : Int) < 0; omega)
theorem oi_nn {o : Option Nat} : decide (0 ≤ oi o) = o.isSome := by
  cases o with
  | none => rfl
  | some n => exact decide_eq_true (by show 0 ≤ (n : Int); omega)
def LEn (e : En) : V → Hp → Prop := fun v H => ∃ p, v = .ref p ∧ H p = some (.tup [.int e.mo, .int e.am, .int (oi e.ta), .int (oi e.ol)])
instance {e : En} : StL (LEn e) := ⟨fun _ _ _ s ⟨p, e, h⟩ => ⟨p, e, s _ _ (fun _ z => by cases z) h⟩⟩
abbrev LEs (es : List En) : V → Hp → Prop := isU LEn es
def LBk (b : Bk) : V → Hp → Prop := isP2 LEs isIv (b.es, b.m)
instance {b : Bk} : StL (LBk b) := by unfold LBk; infer_instance
section
variable {K : PySem.W.Frag} {σ : L2.St} {ta tb tc te : TE} {H0 : Hp} {b : Bk} {e : En} {es : List En} {j : Nat} {i k : Int}
theorem ev_p2a {α β : Type} {S : α → V → Hp → Prop} {T : β → V → Hp → Prop} {p : α × β} (ha : EvV (Same H0) σ ta (isP2 S T p)) : EvV (Same H0) σ (tOp (rIxT K) ta (tC (.int 0))) (S p.1) := fun H Q w k =>
  ha H _ w fun v H1 s1 w1 ⟨D, u, x, ev, hD, hu, _⟩ => ⟨D, _, 0, u, ev, rfl, SqT.of hD, rfl, k u H1 s1 w1 hu⟩
theorem ev_p2b {α β : Type} {S : α → V → Hp → Prop} {T : β → V → Hp → Prop} {p : α × β} (ha : EvV (Same H0) σ ta (isP2 S T p)) : EvV (Same H0) σ (tOp (rIxT K) ta (tC (.int 1))) (T p.2) := fun H Q w k =>
  ha H _ w fun v H1 s1 w1 ⟨D, u, x, ev, hD, _, hx⟩ => ⟨D, _, 1, x, ev, rfl, SqT.of hD, rfl, k x H1 s1 w1 hx⟩
theorem ev_es (ha : EvV (Same H0) σ ta (LBk b)) : EvV (Same H0) σ (tOp (rIxT K) ta (tC (.int 0))) (LEs b.es) := ev_p2a ha
theorem ev_bm (ha : EvV (Same H0) σ ta (LBk b)) : EvV (Same H0) σ (tOp (rIxT K) ta (tC (.int 1))) (isIv b.m) := ev_p2b ha
theorem ev_e0 (ha : EvV (Same H0) σ ta (LEn e)) : EvV (Same H0) σ (tOp (rIxT K) ta (tC (.int 0))) (isIv e.mo) := fun H Q w k => ha H _ w fun v H1 s1 w1 ⟨p, ev, hp⟩ => ⟨p, _, 0, _, ev, rfl, SqT.of hp, rfl, k _ H1 s1 w1 rfl⟩
theorem ev_e1 (ha : EvV (Same H0) σ ta (LEn e)) : EvV (Same H0) σ (tOp (rIxT K) ta (tC (.int 1))) (isIv e.am) := fun H Q w k => ha H _ w fun v H1 s1 w1 ⟨p, ev, hp⟩ => ⟨p, _, 1, _, ev, rfl, SqT.of hp, rfl, k _ H1 s1 w1 rfl⟩
theorem ev_e2 (ha : EvV (Same H0) σ ta (LEn e)) : EvV (Same H0) σ (tOp (rIxT K) ta (tC (.int 2))) (isIv (oi e.ta)) := fun H Q w k => ha H _ w fun v H1 s1 w1 ⟨p, ev, hp⟩ => ⟨p, _, 2, _, ev, rfl, SqT.of hp, rfl, k _ H1 s1 w1 rfl⟩
theorem ev_e3 (ha : EvV (Same H0) σ ta (LEn e)) : EvV (Same H0) σ (tOp (rIxT K) ta (tC (.int 3))) (isIv (oi e.ol)) := fun H Q w k => ha H _ w fun v H1 s1 w1 ⟨p, ev, hp⟩ => ⟨p, _, 3, _, ev, rfl, SqT.of hp, rfl, k _ H1 s1 w1 rfl⟩
/-- an entry by its number -/
theorem ev_en (h : j < b.es.length) (ha : EvV (Same H0) σ ta (LBk b)) (hb : EvV (Same H0) σ tb (isIv (j : Int))) : EvV (Same H0) σ (tOp (rIxT K) (tOp (rIxT K) ta (tC (.int 0))) tb) (LEn b.es[j]) := ev_ixU (List.getElem?_eq_getElem h) (ev_es ha) hb
/-- 0 <= i < k -/
theorem ev_chain (ha : EvV (Same H0) σ ta (isIv 0)) (hb : EvV (Same H0) σ tb (isIv i)) (hc : EvV (Same H0) σ tc (isIv k)) : EvV (Same H0) σ (tChain (rI0 fun i j => .bl (decide (i ≤ j))) (rI0 fun i j => .bl (decide (i < j))) ta tb tc) (isBv (decide (0 ≤ i) && decide (i < k))) := fun H Q w kk =>
  ha H _ w fun x H1 s1 w1 e => hb H1 _ w1 fun y H2 s2 w2 e2 => by
    cases e
    cases e2
    refine ⟨0, i, rfl, rfl, _, rfl, ?_⟩
    by_cases h : (0 : Int) ≤ i
    · rw [decide_eq_true h] at kk ⊢
      exact iteT (hc H2 _ w2 fun z H3 s3 w3 e3 => by
        cases e3
        exact ⟨i, k, rfl, rfl, kk _ H3 ((s1.trans s2).trans s3) w3 rfl⟩)
    · rw [decide_eq_false h] at kk ⊢
      exact iteF (kk _ H2 (s1.trans s2) w2 rfl)
end
/-- a new list of whole numbers -/
def spNew {α : Type} (A : α → List V → Hp → Prop) (ok : α → Prop) (r : α → List Int) : Sp := fun vs H Q _ => ∃ a, A a vs H ∧ ok a ∧ ∀ D us H', H D = none → Same H H' → H' D = some (.lst us) → Ls (fun u i => isIv i u H') us (r a) → Q (.ref D) H'
def spLefts : Sp := fun vs H Q _ => ∃ (v : V) (b : Bk), vs = [v] ∧ LBk b v H ∧ Wf b ∧ b.es.length ≤ 900 ∧ ∀ D us H', H D = none → Same H H' → H' D = some (.lst us) → Ls (fun u i => isIv i u H') us (lefts b.es) → Q (.ref D) H'
def depthsB (es : List En) : List Int := (List.range es.length).map fun j => ((depth es j : Nat) : Int)
def spDepths : Sp := fun vs H Q _ => ∃ (v : V) (b : Bk), vs = [v] ∧ LBk b v H ∧ Wf b ∧ b.es.length ≤ 900 ∧ ∀ D us H', H D = none → Same H H' → H' D = some (.lst us) → Ls (fun u i => isIv i u H') us (depthsB b.es) → Q (.ref D) H'
def spKindL : Sp := fun vs H Q _ => ∃ (v d : V) (b : Bk) (j : Nat), vs = [v, d, .int (j : Int)] ∧ LBk b v H ∧ isIs (depthsB b.es) d H ∧ Wf b ∧ j < b.es.length ∧ ∀ H', Same H H' → Q (.str (kindAt b.es j)) H'
theorem depthsB_len {es : List En} : (depthsB es).length = es.length := by simp [depthsB]
theorem depthsB_at {es : List En} {j : Nat} (h : j < es.length) : (depthsB es)[j]? = some ((depth es j : Nat) : Int) := by simp [depthsB, h]
section
variable {K : PySem.W.Frag} {σ : L2.St} {ta tb te : TE} {H0 : Hp} {b : Bk} {j : Nat}
theorem evn_call1 {α : Type} {S : α → V → Hp → Prop} {as : List α} {R : V → Hp → Prop} {sp : Sp} (ha : EvV (Same H0) σ ta R) (h : ∀ v H Q, R v H → (∀ D us H', H D = none → Same H H' → H' D = some (.lst us) → Ls (fun u a => S a u H') us as → Q (.ref D) H') → sp [v] H Q E0) : EvNL H0 σ (tCall sp [] E0 (tCons ta tNil)) S as := fun H Q w k =>
  ha H _ w fun v H1 s1 w1 r => h v H1 Q r fun D us H' n s hD l => k D us H' (s1.free n) (s1.trans s) hD l
theorem evn_lefts (w : Wf b) (n : b.es.length ≤ 900) (ha : EvV (Same H0) σ ta (LBk b)) : EvNL H0 σ (tCall spLefts [] E0 (tCons ta tNil)) isIv (lefts b.es) := evn_call1 ha fun v H Q hv k => ⟨v, b, rfl, hv, w, n, k⟩
theorem evn_depths (w : Wf b) (n : b.es.length ≤ 900) (ha : EvV (Same H0) σ ta (LBk b)) : EvNL H0 σ (tCall spDepths [] E0 (tCons ta tNil)) isIv (depthsB b.es) := evn_call1 ha fun v H Q hv k => ⟨v, b, rfl, hv, w, n, k⟩
theorem ev_kindL (w : Wf b) (h : j < b.es.length) (ha : EvV (Same H0) σ ta (LBk b)) (hd : EvV (Same H0) σ tb (isIs (depthsB b.es))) (hj : EvV (Same H0) σ te (isIv (j : Int))) : EvV (Same H0) σ (tCall spKindL [] E0 (tCons ta (tCons tb (tCons te tNil)))) (isSv (kindAt b.es j)) :=
  ev_call (eva_cons ha (eva_cons hd (eva_cons hj eva_nil))) fun vs H Q _ r k => by
    obtain ⟨v, r, rfl, hv, d, r, rfl, hd, x, r, rfl, hx, rfl⟩ := r
    cases hx
    exact ⟨v, d, b, j, rfl, hv, hd, w, h, fun H' s => k _ H' s rfl⟩
end
theorem leftStep_some {es : List En} {ls : List Int} {j t : Nat} (e : taAt es j = some t) : leftStep es ls j = ls.set t (ls.getD t 0 - ls.getD j 0) := by
  unfold leftStep
  rw [e]
theorem leftStep_none {es : List En} {ls : List Int} {j : Nat} (e : taAt es j = none) : leftStep es ls j = ls := by
  unfold leftStep
  rw [e]
theorem taAt_get {es : List En} {j : Nat} (h : j < es.length) : taAt es j = es[j].ta := by
  unfold taAt
  rw [List.getElem?_eq_getElem h]
  rfl
theorem olAt_get {es : List En} {j : Nat} (h : j < es.length) : olAt es j = es[j].ol := by
  unfold olAt
  rw [List.getElem?_eq_getElem h]
  rfl
theorem getD_at {ls : List Int} {j : Nat} (h : j < ls.length) : ls[j]? = some (ls.getD j 0) := by
  rw [List.getD_eq_getElem?_getD, List.getElem?_eq_getElem h]
  rfl
section
variable {P : Program} {w : World} {K : PySem.W.Frag} {mg : Str → Option Value} {base : Heap}
structure BltV (mg : Str → Option Value) : Prop where
  len : mg "len" = none
  range : mg "range" = none
theorem scLefts : FnScope ["_law_book", "_law_found", "_law_at", "_law_target", "_law_entry"] ["_law_book"] (defScope sLefts) := ⟨rfl, rfl, rfl, by decide +kernel, rfl, by decide +kernel, by decide +kernel⟩
theorem scDepths : FnScope ["_law_book", "_law_found", "_law_entry"] ["_law_book"] (defScope sDepths) := ⟨rfl, rfl, rfl, by decide +kernel, rfl, by decide +kernel, by decide +kernel⟩
theorem scKindL : FnScope ["_law_book", "_law_depths_here", "_law_at"] ["_law_book", "_law_depths_here", "_law_at"] (defScope sKindL) := ⟨rfl, rfl, rfl, by decide +kernel, rfl, by decide +kernel, by decide +kernel⟩
theorem ok_lefts {f : Addr} {fd : FuncData} (F : Fun K "_law_lefts" "_law_lefts" sLefts f fd) (T : BltV mg) : FnOk P w K mg base CX0 1 f fd ["_law_book"] spLefts := by
  refine F.ok scLefts (fun vs H Q E h => ?_) (fun cdv A outer s H vs Q E hr h => ?_)
  · obtain ⟨v, b, rfl, _⟩ := h
    rfl
  · obtain ⟨v, b, rfl, hv, wf, n, k⟩ := h
    refine ⟨_, (pss_cons (ps_setLc (i := 1) (own := [("_law_entry", 4)]) (g := gName 4) (tt := tYes) (te := tOp (rIxT K) (tVar 4) (tC (.int 1))) (by rfl) scLefts.nd rfl rfl (sw_true rfl rfl rfl (by decide +kernel)) (pi_tup (pe_ix ix_tup (pv 0) pe_int (fun _ _ => rfl))) (blkOk_by (own := [("_law_entry", 4)]) (N := ["_law_book", "_law_found", "_law_at", "_law_target", "_law_entry"]) (sc := defScope sLefts) (by decide +kernel)) (fun _ _ _ _ _ => (pg_name (i := 4) scLefts.nd rfl (Or.inl rfl))) (fun _ _ _ _ _ => pts_nil) (fun _ _ _ _ _ => (pe_ix ix_tup (pv 4) pe_int (fun _ _ => rfl))))
  (pss_cons (ps_for PassesOwn.never rfl (pi_range3 (by rfl) T.range (pa_cons (pe_op op_sub (pe_callB call_len_seq (by rfl) T.len PySem.boot_len (pa_cons (pv 1) pa_nil)) pe_int) (pa_cons (pe_un un_neg pe_int) (pa_cons (pe_un un_neg pe_int) pa_nil)))) (pg_name (i := 2) scLefts.nd rfl (Or.inl rfl))
  (pss_cons (ps_set (i := 3) scLefts.nd rfl (Or.inl rfl) (pe_ix ix_tup (pe_ix ix_tup (pe_ix ix_tup (pv 0) pe_int (fun _ _ => rfl)) (pv 2) (fun _ _ => rfl)) pe_int (fun _ _ => rfl)))
  (pss_one (ps_if (pt_cmpR op_ge (pv 3) pe_int (nomark _)) (pss_one (ps_asg (pe_op op_sub (pe_ix ix_list (pv 1) (pv 3) (fun _ _ => rfl)) (pe_ix ix_list (pv 1) (pv 2) (fun _ _ => rfl))) (pg_sub (pv 1) (pv 3) set_list))) pss_nil))))
  (pss_one (ps_ret (pv 1))))), ?_⟩
    try dsimp only [gName, tSeq, tAsg]
    refine evn_lcY (H0 := H) (S' := isIv) (fun e : En => e.am) (evi_tupU (ev_es (ev_v rfl hv))) (by omega) (fun e he x H1 w1 r => ev_e1 (ev_v rfl r)) (fun _ => rfl) H _ (Same.refl _) fun D us H1 nD s1 hD l => ?_
    have hv1 := up s1 hv
    try dsimp only [gName, tSeq, tAsg, tNext]
    have lu : us.length = b.es.length := by rw [l.1, List.length_map]
    refine ⟨_, rfl, D, us, rfl, .inl (SqL.of hD), _, _, rfl, rfl, _, rfl, _, rfl, _, _, _, _, rfl, RgC.neg (by omega) (by omega) (by decide) (by decide), ?_⟩
    rw [lu]
    have en : ((b.es.length : Int) - 1 - -1).toNat = b.es.length := by omega
    rw [en]
    refine for_rangeC (fun i σ H' => (∃ o2 o3 : Option V, ∃ ls vs, σ = [some v, some (.ref D), o2, o3, none] ∧ SameX D H1 H' ∧ H' D = some (.lst vs) ∧ Ls (fun u i => isIv i u H') vs ls ∧ ls.length = b.es.length ∧ leftsFrom b.es (b.es.length - i) ls = lefts b.es)) ⟨_, _, _, us, rfl, SameX.refl, hD, l, by rw [List.length_map], rfl⟩ ?_ ?_
    · rintro i σ H2 hi ⟨o2, o3, ls, vs, rfl, sx, hD2, l2, ll, lf⟩
      have hv2 : LBk b v H2 := upL (Keep.pre hD sx) hv1
      have kj : (b.es.length : Int) - 1 + (i : Nat) * -1 = ((b.es.length - 1 - i : Nat) : Int) := by omega
      rw [kj]
      generalize ej : b.es.length - 1 - i = j at *
      have jl : j < b.es.length := by omega
      have e1 : b.es.length - i = j + 1 := by omega
      have e2 : b.es.length - (i + 1) = j := by omega
      rw [e1] at lf
      have lf : leftsFrom b.es j (leftStep b.es ls j) = lefts b.es := lf
      rw [e2]
      have tg := taAt_get jl
      refine ev_e2 (H0 := H2) (K := K) (ev_en jl (ev_v rfl hv2) (ev_v rfl rfl)) H2 _ (Same.refl _) fun u H3 s3 _ eu => ?_
      cases eu
      have hD3 := s3 _ _ hD2
      try dsimp only [gName, tSeq, tAsg, tNext]
      refine if_b (H0 := H3) (Same.refl _) (ev_bool (ev_test (ev_ge (i := oi b.es[j].ta) (j := 0) (ev_v rfl rfl) ev_int)) oi_nn) (fun es H4 s4 => ?_) (fun es H4 s4 => ?_)
      · obtain ⟨t, et⟩ := Option.isSome_iff_exists.mp es
        rw [et] at tg
        have tj := wf.ta j t tg
        have hD4 := s4 _ _ hD3
        have l4 : Ls (fun u i => isIv i u H4) vs ls := l2
        have hL : isIs ls (.ref D) H4 := ⟨D, vs, rfl, hD4, l4⟩
        rw [et]
        refine ev_sb (H0 := H4) (i := ls.getD t 0) (j := ls.getD j 0) (ev_ixL (n := t) (getD_at (by omega)) (ev_v rfl hL) (ev_v (R := isIv (t : Int)) rfl rfl)) (ev_ixL (n := j) (getD_at (by omega)) (ev_v rfl hL) (ev_v (R := isIv (j : Int)) rfl rfl)) H4 _ (Same.refl _) fun u H5 s5 _ eu => ?_
        cases eu
        have hD5 := s5 _ _ hD4
        refine ⟨_, rfl, _, rfl, D, vs, (t : Int), t, rfl, rfl, hD5, ?_, ?_⟩
        · unfold ixN
          rw [if_pos (by omega), if_pos (by rw [l2.1]; omega)]
          rfl
        · refine ⟨_, _, _, _, rfl, fun c o n e => ?_, upd_same, l2.put (v := .int (ls.getD t 0 - ls.getD j 0)) (a := ls.getD t 0 - ls.getD j 0) rfl t, by rw [List.length_set]; exact ll, ?_⟩
          · rw [upd_ne n]
            exact s5 _ _ (s4 _ _ (s3 _ _ (sx c o n e)))
          · rw [leftStep_some tg] at lf
            exact lf
      · rw [Option.isSome_eq_false_iff, Option.isNone_iff_eq_none] at es
        rw [es] at tg
        refine ⟨_, _, ls, vs, rfl, fun c o n e => s4 _ _ (s3 _ _ (sx c o n e)), s4 _ _ hD3, l2, ll, ?_⟩
        rw [leftStep_none tg] at lf
        exact lf
    · rintro σ H2 ⟨o2, o3, ls, vs, rfl, sx, hD2, l2, ll, lf⟩
      rw [Nat.sub_self] at lf
      have lf : ls = lefts b.es := lf
      rw [lf] at l2
      exact ⟨_, rfl, k D vs H2 nD (fun c o e => sx c o (ne_of_none e nD) (s1 c o e)) hD2 l2⟩
end
end V3

set_option Elab.async false
set_option linter.all false
set_option maxRecDepth 100000
namespace V3
open PySem PySem.Spec PyProof.Rows L2
/-! x[i] by an own subscript, within a try; House's own subscript -/
section
variable {X : Cx} {CX : CXT} {n : Nat} {f C : Addr} {fd : FuncData} {ps : List Str} {sp : Sp} {E : L2.St → XK}
/-- f called at a pair, somewhere below the running body; what it raises goes on -/
theorem run_ownA {A : Around} {pins : List (Addr × Obj)} {s : Shared} {σ : L2.St} {H : Hp} {x y : V} {u v : Value} {Q : VK} (sb : Sub X n A) (F : FnOk X.prog X.w X.K X.mg X.base CX n f fd ps sp) (bi : Binds X.K fd ps []) (out : PassesAt CX X σ (E σ))
    (J : L2.Inv X pins σ H s) (rx : L2.RelV x u) (ry : L2.RelV y v) (h : sp [x, y] H Q (E σ)) : wpAny (model X.prog X.w) A (call (.ref f) [u, v]) (EP X pins σ Q) X.xe s := by
  have e := J.env0
  have e0 : L2.Env0 X.prog X.w X.K X.mg X.base A X.stack s H := ⟨by rw [sb.fr] <;> exact e.frames, e.mod, e.bs, e.bsz, e.funs, e.frf, e.hok, e.bare⟩
  have len := F.len _ _ _ _ h
  have r2 : L2.Vals [x, y] [u, v] := .cons rx (.cons ry .nil)
  have b2 : BindsTo s fd ⟨[u, v], []⟩ (ps.zip [u, v]) := by
    have z := bi s [u, v] J.kIn (by simpa using len)
    simpa using z
  refine wpAny_call (codeAny_mono (F.run A X.stack s H ⟨[u, v], []⟩ [u, v] [x, y] _ (E σ) sb.room e0 b2 r2 h) fun r s' z => ?_)
  cases r with
  | error er => exact out pins H s er s' J z
  | ok fl =>
    cases fl with
    | ret w => exact J.after z
    | next => exact z.elim
    | brk => exact z.elim
    | cont => exact z.elim
/-- x[i] within a try: x of the class at C -/
def tIxA (C : Addr) (sp : Sp) (E : L2.St → XK) (ta tb : TE) : TE := fun σ H Q => ta σ H fun x H1 => tb σ H1 fun y H2 => ∃ (a dx : Addr) (fs : List (Str × V)), x = .ref a ∧ H2 a = some (.ins C dx fs) ∧ sp [x, y] H2 Q (E σ)
theorem pe_ixA {a b : Expr} {ta tb : TE} {pos : Pos} (F : FnOk X.prog X.w X.K X.mg X.base CX n f fd ps sp) (G : GetCls X.K C f) (bi : Binds X.K fd ps []) (out : ∀ σ, PassesAt CX X σ (E σ)) (room : Room (n + 1) X.A) (ha : PE X a ta) (hb : PE X b tb)
    (hsl : ∀ (o : Addr) (u : Value), subscripted b true (.ref o) u = runValue (.builtin "lifetime.subscript" ⟨[.ref o, u], []⟩) := by intro _ _; with_unfolding_all rfl) : PE X (.Subscript a b pos) (tIxA C sp E ta tb) := by
  refine ⟨fun pins s σ H Q J h => ?_⟩
  refine Subscript_ (binT (R := fun x y H2 => ∃ (a dx : Addr) (fs : List (Str × V)), x = .ref a ∧ H2 a = some (.ins C dx fs) ∧ sp [x, y] H2 Q (E σ)) ha hb J h fun v u s2 x y H2 I2 rx ry q => ?_)
  obtain ⟨o, dx, fs, rfl, ho, q⟩ := q
  cases rx
  obtain ⟨mA, O, _⟩ := ins_get I2.hok ho
  obtain ⟨od, O, _⟩ := O.look
  obtain ⟨m, fr⟩ := I2.fr
  refine PySem.W.sub_K fr I2.ok.mod.kin O G.at_ G.fi G.fn ?_ (hsl o _)
  exact run_ownA (x := .ref o) (y := y) (A := X.A.in1) ⟨room.in1, rfl⟩ F bi (out σ) I2 rfl ry q
end
end V3

set_option Elab.async false
set_option linter.all false
set_option maxRecDepth 100000
namespace V3
open PySem L2 TL
abbrev sHsGet : Stmt := inClass (top 47) 5
/-! House's own subscript -/
def spHsGet (K : PySem.W.Frag) (c : Rc) (C CN : Addr) : Sp := fun vs H Q E => ∃ (v : V) (h : Hs) (i : Int), vs = [v, .int i] ∧ HsAt K c C H v h ∧
  (∀ (m : Rw), 0 ≤ i → h.rs[i.toNat]? = some m → ∀ u, RwAt c H u m → Q u H) ∧ (hasRow h i = false → ErI CN H E i)
section
variable {P : Program} {w : World} {K : PySem.W.Frag} {mg : Str → Option Value} {base : Heap}
theorem scHsGet : FnScope ["self", "at"] ["self", "at"] (defScope sHsGet) := ⟨rfl, rfl, rfl, by decide +kernel, rfl, by decide +kernel, by decide +kernel⟩
theorem at_nat {us : List V} {i : Int} {u : V} (i0 : 0 ≤ i) (h : us[i.toNat]? = some u) : atI us i = some u := by
  have l := (List.getElem?_eq_some_iff.mp h).1
  show (ixN us.length i).bind (fun j => us[j]?) = _
  have e : ixN us.length i = some i.toNat := by
    unfold ixN
    rw [if_pos i0, if_pos (by show i < _; omega)]
  rw [e]
  exact h
theorem ok_hsGet {f C CN : Addr} {c : Rc} {fd : FuncData} (F : Fun K "__getitem__" "House.__getitem__" sHsGet f fd) (L : HsC K C) (N : NrTxt P w K mg base CN)
    (cR : Cal P w K mg base CX0 "has_row" 1 ["house", "at"] (spHasRow K c C)) : FnOk P w K mg base (L2.CX P w) 3 f fd ["self", "at"] (spHsGet K c C CN) := by
  obtain ⟨fR, fdR, GR, mR, kR, bR⟩ := cR
  obtain ⟨fI, fdI, GI, iI, tI, bI⟩ := N.ini
  refine F.okX scHsGet (fun vs H Q E h => ?_) (fun cdv A outer s H vs Q E hr h => ?_)
  · obtain ⟨v, h, i, rfl, _⟩ := h
    rfl
  · obtain ⟨v, h, i, rfl, hv, q1, q2⟩ := h
    obtain ⟨x, dx, q, us, rfl, hx, hq, rl⟩ := id hv
    refine ⟨_, pss_cons (ps_if (pt_not (pt_val (pe_call GR (hr.mono (by decide)) rfl mR kR bR .nil pass0 (pa_cons (pv 0) (pa_cons (pv 1) pa_nil))))) (pss_one (ps_raise rfl (takes_of rfl rfl rfl rfl) (pmk_oexI N.o iI tI GI hr bI pass0 rfl N.g (by exact (pa_cons (pv 1) pa_nil))))) pss_nil)
      (pss_one (ps_ret (pe_ix ix_tup (pe_fld (pv 0) rfl) (pv 1) (fun _ _ => rfl)))), ?_⟩
    refine ⟨_, rfl, _, rfl, .ref x, h, i, rfl, hv, _, rfl, ?_⟩
    cases e : hasRow h i with
    | false => exact iteT ⟨_, rfl, (by show 1 ≤ 1000; decide), er_readI (q2 e)⟩
    | true =>
      have z : 0 ≤ i ∧ i < (h.rs.length : Int) := by
        unfold hasRow at e
        exact ⟨of_decide_eq_true (Bool.and_eq_true_iff.mp e).1, of_decide_eq_true (Bool.and_eq_true_iff.mp e).2⟩
      have lx : us.length = h.rs.length := rl.1
      have lt : i.toNat < h.rs.length := by omega
      have em : h.rs[i.toNat]? = some h.rs[i.toNat] := List.getElem?_eq_getElem lt
      obtain ⟨u, eu, ru⟩ := rl.2 _ _ em
      refine iteF ⟨_, rfl, x, C, dx, _, _, rfl, hx, L.cl, L.rs, hs_rs .., _, rfl, q, us, i, u, rfl, rfl, hq.sq, at_nat z.1 eu, ?_⟩
      exact q1 _ z.1 em u ru
end
end V3

set_option Elab.async false
set_option linter.all false
set_option maxRecDepth 100000
namespace V3
open PySem L2 TL
/-! House of a tuple of rows, tracked or written -/
def TupW (K : PySem.W.Frag) (H : Hp) (q : Addr) (us : List V) : Prop := H q = some (.tup us) ∨ ((∃ o, K.lookup q = some o ∧ o.cls = .type "tuple") ∧ ∀ H', SqT K H' q us)
theorem TupW.k {K : PySem.W.Frag} {H : Hp} {q : Addr} {us : List V} (h : TupW K H q us) : TupK K H q us := h.elim .inl fun z => .inr z.2
theorem TupW.sq {K : PySem.W.Frag} {H : Hp} {q : Addr} {us : List V} (h : TupW K H q us) : SqT K H q us := h.k.sq
theorem TupW.ty {K : PySem.W.Frag} {H : Hp} {a : Addr} {us : List V} (h : TupW K H a us) : TyX K H (.ref a) (.type "tuple") := by
  rcases h with h | ⟨⟨o, e, c⟩, _⟩
  · exact .base (.tup h)
  · exact .kTuple e c
theorem TupW.same {K : PySem.W.Frag} {H H' : Hp} {q : Addr} {us : List V} (h : TupW K H q us) (s : Same H H') : TupW K H' q us := h.elim (fun z => .inl (s _ _ z)) .inr
def spIsRowsT (K : PySem.W.Frag) (c : Rc) : Sp := fun vs H Q _ => ∃ (a : Addr) (us : List V) (ms : List Rw), vs = [.ref a] ∧ TupW K H a us ∧ RwLs c H us ms ∧ (∀ m ∈ ms, m.kind = 0) ∧ ms.length ≤ 1000 ∧ ∀ H', Same H H' → Q (.bl true) H'
def spHsInitT (K : PySem.W.Frag) (c : Rc) (C : Addr) : Sp := fun vs H Q _ => ∃ (x dx l : Addr) (us : List V) (h : Hs), vs = [.ref x, .int h.d, .str h.ch, .ref l] ∧ H x = some (.ins C dx []) ∧ TupW K H l us ∧ RwLs c H us h.rs ∧ h.ok ∧
  ∀ H', SameX x H H' → HsAt K c C H' (.ref x) h → Q .non H'
theorem kit_tt {K : PySem.W.Frag} : PySem.W.kitAny K (.type "tuple") [.type "list", .type "tuple"] = some true := by
  refine kitAny_cons (b := false) (show PySem.W.kitOne K (.type "tuple") (.type "list") = some false from kit_ty (by decide +kernel)) (fun _ => ?_) (fun z => nomatch z)
  exact kitAny_cons (show PySem.W.kitOne K (.type "tuple") (.type "tuple") = some true from kit_ty (by decide +kernel)) (fun z => nomatch z) fun z => rfl
theorem mk_houseT {K : PySem.W.Frag} {c : Rc} {C x dx l : Addr} {H : Hp} {us : List V} {h : Hs} {R : VK} {E : XK} (hl : TupW K H l us) (rl : RwLs c H us h.rs) (ok : h.ok) (nx : H x = none) (ndx : H dx = none) (q : ∀ H', Same H H' → HsAt K c C H' (.ref x) h → R .non H') :
    spHsInitT K c C [.ref x, .int h.d, .str h.ch, .ref l] (upd (upd H dx (.own x)) x (.ins C dx [])) R E := by
  have s0 : Same H (upd (upd H dx (.own x)) x (.ins C dx [])) := made_same nx ndx
  exact ⟨x, dx, l, us, h, rfl, upd_same, hl.same s0, rl.same s0, ok, fun H' s' a => q H' (fun b o e => s' b o (ne_of_none e nx) (s0 b o e)) a⟩
section
variable {P : Program} {w : World} {K : PySem.W.Frag} {mg : Str → Option Value} {base : Heap}
theorem ok_isRowsT {f : Addr} {c : Rc} {fd : FuncData} (F : Fun K "is_rows" "is_rows" sIsRows f fd) (T : BltK mg) (C : LetI K c) (gL : mg "Let" = some (.ref c.L)) : FnOk P w K mg base CX0 1 f fd ["value"] (spIsRowsT K c) := by
  refine F.ok scIsRows (fun vs H Q E h => ?_) (fun cdv A outer s H vs Q E hr h => ?_)
  · obtain ⟨a, us, ms, rfl, _⟩ := h
    rfl
  · obtain ⟨a, us, ms, rfl, ha, rl, kd, n, k⟩ := h
    refine ⟨_, pss_one (ps_ret (pe_and (pe_callB call_isiT (by rfl) T.isi (by decide +kernel) (pa_cons (pv 0) (pa_cons (pe_tup (pa_cons (pe_bltn (v := .ty "list") (by rfl) T.list (by decide +kernel) rfl) (pa_cons (pe_bltn (v := .ty "tuple") (by rfl) T.tuple (by decide +kernel) rfl) pa_nil))) pa_nil)))
        (pe_one (pe_callB (cr_all rfl) (by rfl) T.all (by decide +kernel) (pa_cons (pe_lc (own := [("item", 1)]) (g := gName 1) (tt := tYes) (te := tCB (rIsi K) (tCons (tVar 1) (tCons (tC (.ref c.L)) tNil))) (by rfl) scIsRows.nd (pi_tup (pv 0)) (blkOk_by (own := [("item", 1)]) (N := ["value", "item"]) (sc := defScope sIsRows) (by decide +kernel)) (fun _ _ _ _ _ => pg_name (i := 1) scIsRows.nd rfl (Or.inl rfl)) (fun _ _ _ _ _ => pts_nil)
          (fun _ _ _ _ _ => pe_callB call_isi (by rfl) T.isi (by decide +kernel) (pa_cons (pv 1) (pa_cons (pe_glob (v := .ref c.L) rfl gL rfl) pa_nil)))) pa_nil))))), ?_⟩
    refine ⟨_, rfl, (by show 2 ≤ sizeLine; decide), fun tp ntp => ?_⟩
    have s1 : Same H (upd H tp (.tup [.ty "list", .ty "tuple"])) := Same.new ntp
    have ht : upd H tp (.tup [.ty "list", .ty "tuple"]) tp = some (.tup [.ty "list", .ty "tuple"]) := upd_same
    generalize upd H tp (.tup [.ty "list", .ty "tuple"]) = H1 at s1 ht ⊢
    have ha1 := ha.same s1
    have rl1 := rl.same s1
    have lx : us.length = ms.length := rl.1
    refine ⟨_, tp, _, _, _, _, rfl, ht, .cons (.ty "list") (.cons (.ty "tuple") .nil), ha1.ty, kit_tt, _, rfl, iteT ?_⟩
    refine ⟨_, rfl, a, rfl, ⟨us, ha1.sq⟩, fun D nD => ?_⟩
    refine lc_tup (K := K) (a := a) (xs := us) (fun i Hh => Same H1 Hh ∧ H1 D = none ∧ Hh D = some (.lst (List.replicate i (V.bl true)))) ⟨Same.new nD, nD, upd_same⟩ (fun i Hh _ p => (ha1.same p.1).sq) ?_ ?_
    · intro i z Hh hi p
      have il : i < us.length := (List.getElem?_eq_some_iff.mp hi).1
      obtain ⟨m, em, mz⟩ := Ls.get rl1 hi
      obtain ⟨y, dy, rfl, hy⟩ := mz.same p.1
      have km := kd m (List.mem_of_getElem? em)
      refine ⟨rfl, ?_⟩
      unfold tYes
      dsimp only
      have hy2 : Hh y = some (.ins c.L dy m.fs) := by
        rw [hy]
        show some (HO.ins (c.at m.kind) dy m.fs) = _
        rw [km]
        rfl
      refine iteT ⟨_, rfl, _, _, _, _, _, rfl, .own c.L, .base (.ins hy2 C.cl C.ca C.gn C.tk C.mr), C.ki, _, p.2.2, ?_, fun d o h => ?_, p.2.1, ?_⟩
      · rw [List.length_replicate]
        exact Nat.lt_of_lt_of_le (m := 1001) (by omega) (by decide)
      · rw [upd_ne (ne_of_none h p.2.1)]
        exact p.1 d o h
      · rw [upd_same, List.replicate_succ']
    · intro Hh p
      obtain ⟨s2, _, e⟩ := p
      refine ⟨D, List.replicate us.length true, rfl, SqL.of (by rw [e, repl_bl]), ?_⟩
      have z : (List.replicate us.length true).all id = true := by
        rw [List.all_eq_true]
        intro x hx
        rw [List.eq_of_mem_replicate hx]
        rfl
      rw [z]
      exact k _ (s1.trans s2)
theorem ok_hsInitT {f CA DA C : Addr} {c : Rc} {fd : FuncData} {dvs : List V} (F : FunD K "__init__" "House.__init__" (defArgs sHsInit) (defBody sHsInit) (defScope sHsInit) dvs [] f fd) (T : BltK mg) (X : HsT K mg CA DA) (L : HsC K C)
    (cN : Cal P w K mg base CX0 "is_number" 2 ["value"] spNumI) (cR : Cal P w K mg base CX0 "is_rows" 1 ["value"] (spIsRowsT K c)) : FnOk P w K mg base CX0 4 f fd ["self", "depth", "check", "rows"] (spHsInitT K c C) := by
  obtain ⟨fN, fdN, GN, mN, kN, bN⟩ := cN
  obtain ⟨fR, fdR, GR, mR, kR, bR⟩ := cR
  refine F.ok scHsInit (fun vs H Q E h => ?_) (fun cdv A outer s H vs Q E hr h => ?_)
  · obtain ⟨x, dx, l, us, h, rfl, _⟩ := h
    rfl
  · obtain ⟨x, dx, l, us, h, rfl, hx, hl, rl, ok, q⟩ := h
    obtain ⟨d0, d4, hc, hm, hn⟩ := ok
    refine ⟨_, pss_cons (ps_if (pt_not (PW.pt (pw_and (pt_val (pe_call GN (hr.mono (by decide)) rfl mN kN bN .nil pass0 (pa_cons (pv 1) pa_nil))) (pw_and1 (pt_cmpR op_lt (pv 1) (pe_callB call_len_seq (by rfl) T.len PySem.boot_len (pa_cons (pe_glob (v := .ref DA) rfl X.depths rfl) pa_nil)) (nomark _)))))) (pss_one ps_never) pss_nil)
      (pss_cons (ps_if (pt_cmpR op_notIn_seq (pv 2) (pe_glob (v := .ref CA) rfl X.checks rfl) rfl) (pss_one ps_never) pss_nil)
      (pss_cons (ps_if (pt_not (pt_val (pe_call GR (hr.mono (by decide)) rfl mR kR bR .nil pass0 (pa_cons (pv 3) pa_nil)))) (pss_one ps_never) pss_nil)
      (pss_cons (ps_fld (pv 0) (pv 1) rfl)
      (pss_cons (ps_fld (pv 0) (pv 2) rfl)
      (pss_one (ps_fld (pv 0) (pe_callTy call_tuple_of (by rfl) T.tuple (by decide +kernel) (pa_cons (pv 3) pa_nil)) rfl)))))), ?_⟩
    refine ⟨_, rfl, h.d, rfl, _, rfl, ?_⟩
    rw [decide_eq_true d0]
    refine iteT ⟨_, rfl, DA, _, rfl, .inr (X.tD _), _, _, rfl, rfl, _, rfl, ?_⟩
    rw [decide_eq_true (show h.d < ((depthL.map V.str).length : Int) by show h.d < 5; omega)]
    refine iteF ⟨_, rfl, CA, _, rfl, .inr (X.tC _), rfl, flat_strs _, _, rfl, ?_⟩
    rw [inV_str, decide_eq_true hc]
    refine iteF ⟨_, rfl, l, us, h.rs, rfl, hl, rl, fun m z => (hm m z).2, by omega, fun H1 s1 => ⟨_, rfl, iteF ?_⟩⟩
    have hx1 := s1 _ _ hx
    have hl1 := hl.same s1
    refine ⟨_, rfl, _, rfl, x, C, dx, _, rfl, hx1, L.cl, L.d, (by show 0 < 1000; decide), ?_⟩
    refine ⟨_, rfl, _, rfl, x, C, dx, _, rfl, upd_same, L.cl, L.ch, (by show 1 < 1000; decide), ?_⟩
    rw [upd_upd]
    have tx : ∀ o : HO, TupW K (upd H1 x o) l us := fun o => by
      rcases hl1 with z | z
      · exact .inl (by rw [upd_ne (fun e => by rw [e, hx1] at z; cases z)]; exact z)
      · exact .inr z
    refine ⟨_, rfl, l, us, rfl, .inr ⟨(tx _).sq, ?_⟩⟩
    refine ⟨_, rfl, x, C, dx, _, rfl, upd_same, L.cl, L.rs, (lt_put (n := 999) (lt_put (n := 998) (by show 0 < 998; decide))), ?_⟩
    rw [hs_put, upd_upd]
    have sx : ∀ b o, b ≠ x → H b = some o → upd H1 x (.ins C dx (hsF (.int h.d) (.str h.ch) (.ref l))) b = some o := fun b o nb e => by
      rw [upd_ne nb]
      exact s1 _ _ e
    refine q _ sx ⟨x, dx, l, us, rfl, upd_same, (tx _).k, ?_⟩
    refine Ls.imp rl fun v m a => ?_
    obtain ⟨y, dy, rfl, hy⟩ := a
    have nyx : y ≠ x := fun z => by
      rw [z, hx] at hy
      have e := Option.some.inj hy
      cases m <;> cases e
    exact ⟨y, dy, rfl, sx y _ nyx hy⟩
end
end V3

set_option Elab.async false
set_option linter.all false
set_option maxRecDepth 100000
namespace V3
open PySem PySem.Spec PyProof.Rows L2
structure BehindL (K : PySem.W.Frag) (C : Addr) : Prop where
  b : Behind K C
  l : PySem.W.subIn K (.ref C) (.type "list") = some false
inductive PlainL (H : Hp) : V → Prop where
  | str (z : Str) : PlainL H (.str z)
  | non : PlainL H .non
  | tup {b : Addr} {ys : List V} (h : H b = some (.tup ys)) : PlainL H (.ref b)
  | lst {b : Addr} {ys : List V} (h : H b = some (.lst ys)) : PlainL H (.ref b)
section
open PySem PySem.SeqAt
variable {prog : Program} {w : World} {A : Around} {E : Value → Shared → Prop} {s : Shared} {x : Addr} {o : Obj}
theorem lst_declines {K : PySem.W.Frag} {C p : Addr} {od : Option Obj} {items : Array Value} {n : Nat} {Q : Shared → Prop} (X : K.In s.heap) (I : PySem.W.InstAt s.heap x o C od) (hs : PySem.W.subIn K (.ref C) (.type "list") = some false) {d1 : Option Addr} {sl1 : Array (Option Value)} (hp : s.heap.get? p = some { cls := .type "list", dict := d1, data := .seq items n, slots := sl1 }) (hq : Q s) :
    wpAny (model prog w) A (call (.builtin "list.__eq__") [.ref p, .ref x]) (fun v s' => v = .notImplemented ∧ Q s') E s := by
  refine GQ.call_here F.slot_list_eq ⟨_, hp, rfl⟩ F.entry_list_eq (F.args_list_eq_2 _ _) ?_
  obtain ⟨hh, g, d, tk, os⟩ := s
  wp_walk
  refine wpAny_loadPart I.at_ (wpAny_pure ?_)
  rw [I.cls]
  refine (PySem.W.looks_subIn X hs).here ?_
  wp_walk
  exact ⟨rfl, hq⟩
end
section
variable {X : Cx} {n : Nat}
/-- x in (..), x of an own class, no item equal to it -/
def rInL (K : PySem.W.Frag) (FF : Addr → Sp → XK → Prop) : R2 := fun x y H Q => ∃ (a p C dx : Addr) (fs : List (Str × V)) (xs : List V) (sp : Sp) (E : XK), x = .ref a ∧ y = .ref p ∧ H a = some (.ins C dx fs) ∧ H p = some (.tup xs) ∧
  (∀ z ∈ xs, PlainL H z) ∧ BehindL K C ∧ FF C sp E ∧ (∀ z ∈ xs, sp [.ref a, z] H (fun v H' => v = .bl false ∧ H' = H) E) ∧ Q (.bl false) H
theorem op_inL {FF : Addr → Sp → XK → Prop} (hF : ∀ C sp E, FF C sp E → ∃ (CX : CXT) (f : Addr) (fd : FuncData) (ps : List Str), FnOk X.prog X.w X.K X.mg X.base CX n f fd ps sp ∧ EqCls X.K C f ∧ Binds X.K fd ps [] ∧ Passes CX X E) (hr : Room (n + 1) X.A) :
    OpR X (compareOp .In) (rInL X.K FF) := by
  intro pins s σ H x y v u Q I rx ry hq
  obtain ⟨a, p, C, dx, fs, xs, sp, E, rfl, rfl, ha, hp, pl, bh, ff, hsp, q⟩ := hq
  obtain ⟨CX, f, fd, ps, F, ec, bi, hx⟩ := hF C sp E ff
  cases rx
  cases ry
  obtain ⟨its, rv, ht, hz⟩ := I.tuple (SqT.of hp)
  obtain ⟨⟨c0, dd, da, sl⟩, ho, hc, m, hd⟩ := id ht
  simp only at hc hd
  subst hc hd
  show wpAny (model X.prog X.w) X.A (do return .bool (← contains (.ref p) (.ref a))) (EP X pins σ Q) X.xe s
  refine wpAny_bind (wpAny_contains_slot ⟨_, ho, rfl⟩ PySem.F.slot_tuple_contains (wpAny_mono (GQ.call_here (Q := fun v s' => v = .bool false ∧ Inv X pins σ H s') PySem.F.slot_tuple_contains ⟨_, ho, rfl⟩ PySem.F.entry_tuple_contains (PySem.F.args_tuple_contains_2 _ _)
    (tuple_none p its.toArray m dd sl (.ref a) (fun _ s' => Inv X pins σ H s') ?_ (fun s' J => ⟨rfl, J⟩) ho I)) (fun v s' hv => ?_) fun _ _ e => e))
  · intro i hi s' J
    have hi2 : i < its.length := by simpa using hi
    have hi3 : i < xs.length := by rw [rv.length]; exact hi2
    obtain ⟨u, hu, ru⟩ := rv.get (List.getElem?_eq_getElem hi3)
    have eu : its.toArray[i] = u := by
      rw [List.getElem?_eq_getElem hi2] at hu
      simpa using Option.some.inj hu
    rw [eu]
    have mem : xs[i] ∈ xs := List.getElem_mem hi3
    have pz := pl _ mem
    have own := hsp _ mem
    generalize xs[i] = z at ru pz own
    obtain ⟨mA, O, _⟩ := ins_get J.hok ha
    obtain ⟨od, IA, _⟩ := O.look
    obtain ⟨mm, hFr⟩ := J.fr
    have run : wpAny (model X.prog X.w) X.A.in1 (call (.ref f) [.ref a, u]) (fun v s2 => ∃ r, v = .bool r ∧ r = false ∧ Inv X pins σ H s2) X.xe s' :=
      wpAny_mono (run_own (x := .ref a) (y := z) ⟨hr.in1, rfl⟩ F bi hx J rfl ru own) (fun w s2 k => by
        obtain ⟨z2, H', J2, rz, ez, eH⟩ := k
        subst ez
        subst eH
        cases rz
        exact ⟨false, rfl, rfl, J2⟩) fun _ _ e => e
    have hu1 : X.A.in1.units < cLine := hr.in1.units0
    cases pz with
    | str zz =>
      obtain ⟨t, rfl⟩ := ru
      refine eqB_str (turned_K (T := "str") hu1 hFr J.ok.mod.kin IA (typeIs_str _ _ _) PySem.F.slot_str_eq rfl bh.b.s (fun k => str_declines IA.at_ rfl k) ec.eq ec.fn (wpAny_mono run (fun v s2 k => ?_) fun _ _ e => e))
      obtain ⟨r, rfl, e, J2⟩ := k
      exact ⟨r, rfl, r, rfl, e, J2⟩
    | non =>
      cases ru
      refine eqB_non (turned_K (T := "NoneType") hu1 hFr J.ok.mod.kin IA (typeIs_none _) PySem.F.slot_NoneType_eq rfl bh.b.n (fun k => none_declines k) ec.eq ec.fn (wpAny_mono run (fun v s2 k => ?_) fun _ _ e => e))
      obtain ⟨r, rfl, e, J2⟩ := k
      exact ⟨r, rfl, r, rfl, e, J2⟩
    | @tup b ys hb =>
      cases ru
      obtain ⟨its2, r2, ht2, hz2⟩ := J.tuple (SqT.of hb)
      have ne : b ≠ a := by
        intro e
        subst e
        rw [ha] at hb
        cases hb
      obtain ⟨o2, ho2, hc2, _⟩ := id ht2
      refine GQ.eqBool_refG ne (turned_K (T := "tuple") hu1 hFr J.ok.mod.kin IA ⟨o2, ho2, hc2⟩ PySem.F.slot_tuple_eq (by first | rfl | simp [oneThing_ref]) bh.b.t (fun k => tup_declines J.kIn IA bh.b.t ht2 k) ec.eq ec.fn (wpAny_mono run (fun v s2 k => ?_) fun _ _ e => e))
      obtain ⟨r, rfl, e, J2⟩ := k
      exact ⟨r, rfl, r, rfl, e, J2⟩
    | @lst b ys hb =>
      cases ru
      obtain ⟨its2, r2, ht2, hz2⟩ := J.list (SqL.of hb)
      have ne : b ≠ a := by
        intro e
        subst e
        rw [ha] at hb
        cases hb
      obtain ⟨⟨c1, d1, da, sl1⟩, n2, g2, hc2, hdc, hd2⟩ := id ht2
      simp only at hc2 hd2
      subst hc2 hd2
      refine GQ.eqBool_refG ne (turned_K (T := "list") hu1 hFr J.ok.mod.kin IA ⟨_, g2, rfl⟩ PySem.F.slot_list_eq (by first | rfl | simp [oneThing_ref]) bh.l (fun k => lst_declines J.kIn IA bh.l g2 k) ec.eq ec.fn (wpAny_mono run (fun v s2 k => ?_) fun _ _ e => e))
      obtain ⟨r, rfl, e, J2⟩ := k
      exact ⟨r, rfl, r, rfl, e, J2⟩
  · obtain ⟨rfl, J⟩ := hv
    exact wpAny_truthy_bool (wpAny_pure ⟨.bl false, H, J, rfl, q⟩)
end
end V3

set_option Elab.async false
set_option linter.all false
set_option maxRecDepth 100000
namespace V3
open PySem L2 TL
/-! houses made of a list: their rows tracked, object by object -/
def HsX (K : PySem.W.Frag) (c : Rc) (C : Addr) (us : List V) (h : Hs) : V → Hp → Prop := fun v H => ∃ x dx q, v = .ref x ∧ H x = some (.ins C dx (hsF (.int h.d) (.str h.ch) (.ref q))) ∧ H q = some (.tup us) ∧ RwLs c H us h.rs
theorem HsX.at {K : PySem.W.Frag} {c : Rc} {C : Addr} {us : List V} {h : Hs} {v : V} {H : Hp} (a : HsX K c C us h v H) : HsAt K c C H v h := by
  obtain ⟨x, dx, q, e, hx, hq, rl⟩ := a
  exact ⟨x, dx, q, us, e, hx, .inl hq, rl⟩
def HsA (K : PySem.W.Frag) (c : Rc) (C : Addr) (h : Hs) : V → Hp → Prop := fun v H => HsAt K c C H v h
def HtA (h : Hs) : V → Hp → Prop := fun v H => HtAt H v h
def RwA (c : Rc) (m : Rw) : V → Hp → Prop := fun v H => RwAt c H v m
instance {K : PySem.W.Frag} {c : Rc} {C : Addr} {us : List V} {h : Hs} : StL (HsX K c C us h) := ⟨fun _ _ _ s ⟨x, dx, q, e, hx, hq, rl⟩ => ⟨x, dx, q, e, s _ _ (fun _ z => by cases z) hx, s _ _ (fun _ z => by cases z) hq, rl.keep s⟩⟩
instance {K : PySem.W.Frag} {c : Rc} {C : Addr} {h : Hs} : StL (HsA K c C h) := ⟨fun _ _ _ s a => HsAt.keep a s⟩
instance {h : Hs} : StL (HtA h) := ⟨fun _ _ _ s a => HtAt.keep a s⟩
instance {c : Rc} {m : Rw} : StL (RwA c m) := ⟨fun _ _ _ s a => RwAt.keep a s⟩
def spHsInitX (K : PySem.W.Frag) (c : Rc) (C : Addr) : Sp := fun vs H Q _ => ∃ (x dx l : Addr) (us : List V) (h : Hs), vs = [.ref x, .int h.d, .str h.ch, .ref l] ∧ H x = some (.ins C dx []) ∧ H l = some (.lst us) ∧ RwLs c H us h.rs ∧ h.ok ∧
  ∀ H', SameX x H H' → HsX K c C us h (.ref x) H' → Q .non H'
def spHsGetX (K : PySem.W.Frag) (c : Rc) (C CN : Addr) : Sp := fun vs H Q E => ∃ (v : V) (us : List V) (h : Hs) (i : Int), vs = [v, .int i] ∧ HsX K c C us h v H ∧
  (∀ (u : V), 0 ≤ i → us[i.toNat]? = some u → Q u H) ∧ (hasRow h i = false → ErI CN H E i)
/-- == with what is none -/
def spHsNe : Sp := fun vs H Q _ => ∃ (u z : V), vs = [u, z] ∧ PlainL H z ∧ Q (.bl false) H
structure HsNot (K : PySem.W.Frag) (C : Addr) : Prop where
  s : PySem.W.kitOne K (.type "str") (.ref C) = some false
  n : PySem.W.kitOne K (.type "NoneType") (.ref C) = some false
  t : PySem.W.kitOne K (.type "tuple") (.ref C) = some false
  l : PySem.W.kitOne K (.type "list") (.ref C) = some false
section
variable {P : Program} {w : World} {K : PySem.W.Frag} {mg : Str → Option Value} {base : Heap}
theorem ok_hsInitX {f CA DA C : Addr} {c : Rc} {fd : FuncData} {dvs : List V} (F : FunD K "__init__" "House.__init__" (defArgs sHsInit) (defBody sHsInit) (defScope sHsInit) dvs [] f fd) (T : BltK mg) (X : HsT K mg CA DA) (L : HsC K C)
    (cN : Cal P w K mg base CX0 "is_number" 2 ["value"] spNumI) (cR : Cal P w K mg base CX0 "is_rows" 1 ["value"] (spIsRows c)) : FnOk P w K mg base CX0 4 f fd ["self", "depth", "check", "rows"] (spHsInitX K c C) := by
  obtain ⟨fN, fdN, GN, mN, kN, bN⟩ := cN
  obtain ⟨fR, fdR, GR, mR, kR, bR⟩ := cR
  refine F.ok scHsInit (fun vs H Q E h => ?_) (fun cdv A outer s H vs Q E hr h => ?_)
  · obtain ⟨x, dx, l, us, h, rfl, _⟩ := h
    rfl
  · obtain ⟨x, dx, l, us, h, rfl, hx, hl, rl, ok, q⟩ := h
    obtain ⟨d0, d4, hc, hm, hn⟩ := ok
    refine ⟨_, pss_cons (ps_if (pt_not (PW.pt (pw_and (pt_val (pe_call GN (hr.mono (by decide)) rfl mN kN bN .nil pass0 (pa_cons (pv 1) pa_nil))) (pw_and1 (pt_cmpR op_lt (pv 1) (pe_callB call_len_seq (by rfl) T.len PySem.boot_len (pa_cons (pe_glob (v := .ref DA) rfl X.depths rfl) pa_nil)) (nomark _)))))) (pss_one ps_never) pss_nil)
      (pss_cons (ps_if (pt_cmpR op_notIn_seq (pv 2) (pe_glob (v := .ref CA) rfl X.checks rfl) rfl) (pss_one ps_never) pss_nil)
      (pss_cons (ps_if (pt_not (pt_val (pe_call GR (hr.mono (by decide)) rfl mR kR bR .nil pass0 (pa_cons (pv 3) pa_nil)))) (pss_one ps_never) pss_nil)
      (pss_cons (ps_fld (pv 0) (pv 1) rfl)
      (pss_cons (ps_fld (pv 0) (pv 2) rfl)
      (pss_one (ps_fld (pv 0) (pe_callTy call_tuple_of (by rfl) T.tuple (by decide +kernel) (pa_cons (pv 3) pa_nil)) rfl)))))), ?_⟩
    refine ⟨_, rfl, h.d, rfl, _, rfl, ?_⟩
    rw [decide_eq_true d0]
    refine iteT ⟨_, rfl, DA, _, rfl, .inr (X.tD _), _, _, rfl, rfl, _, rfl, ?_⟩
    rw [decide_eq_true (show h.d < ((depthL.map V.str).length : Int) by show h.d < 5; omega)]
    refine iteF ⟨_, rfl, CA, _, rfl, .inr (X.tC _), rfl, flat_strs _, _, rfl, ?_⟩
    rw [inV_str, decide_eq_true hc]
    refine iteF ⟨_, rfl, l, us, h.rs, rfl, hl, rl, fun m z => (hm m z).2, by omega, fun H1 s1 => ⟨_, rfl, iteF ?_⟩⟩
    have hx1 := s1 _ _ hx
    have hl1 := s1 _ _ hl
    have nlx : l ≠ x := fun z => by rw [z, hx] at hl; cases hl
    refine ⟨_, rfl, _, rfl, x, C, dx, _, rfl, hx1, L.cl, L.d, (by show 0 < 1000; decide), ?_⟩
    refine ⟨_, rfl, _, rfl, x, C, dx, _, rfl, upd_same, L.cl, L.ch, (by show 1 < 1000; decide), ?_⟩
    rw [upd_upd]
    refine ⟨_, rfl, l, us, rfl, .inl ⟨SqL.of (by rw [upd_ne nlx]; exact hl1), fun t nt => ?_⟩⟩
    have ntx : x ≠ t := ne_of_none upd_same nt
    refine ⟨_, rfl, x, C, dx, _, rfl, (by rw [upd_ne ntx]; exact upd_same), L.cl, L.rs, (lt_put (n := 999) (lt_put (n := 998) (by show 0 < 998; decide))), ?_⟩
    rw [hs_put]
    have nt1 : H1 t = none := by
      rw [upd_ne (Ne.symm ntx)] at nt
      exact nt
    have sx : ∀ b o, b ≠ x → H b = some o → (upd (upd (upd H1 x (HO.ins C dx (putF "check" (V.str h.ch) (putF "depth" (V.int h.d) [])))) t (.tup us)) x (.ins C dx (hsF (.int h.d) (.str h.ch) (.ref t)))) b = some o := fun b o nb e => by
      rw [upd_ne nb, upd_ne (ne_of_none (s1 _ _ e) nt1), upd_ne nb]
      exact s1 _ _ e
    refine q _ (fun b o nb e => sx b o nb e) ⟨x, dx, t, rfl, upd_same, (by rw [upd_ne (Ne.symm ntx)]; exact upd_same), ?_⟩
    refine Ls.imp rl fun v m a => ?_
    obtain ⟨y, dy, rfl, hy⟩ := a
    have nyx : y ≠ x := fun z => by
      rw [z, hx] at hy
      have e := Option.some.inj hy
      cases m <;> cases e
    exact ⟨y, dy, rfl, sx y _ nyx hy⟩
theorem ok_hsGetX {f C CN : Addr} {c : Rc} {fd : FuncData} (F : Fun K "__getitem__" "House.__getitem__" sHsGet f fd) (L : HsC K C) (N : NrTxt P w K mg base CN)
    (cR : Cal P w K mg base CX0 "has_row" 1 ["house", "at"] (spHasRow K c C)) : FnOk P w K mg base (L2.CX P w) 3 f fd ["self", "at"] (spHsGetX K c C CN) := by
  obtain ⟨fR, fdR, GR, mR, kR, bR⟩ := cR
  obtain ⟨fI, fdI, GI, iI, tI, bI⟩ := N.ini
  refine F.okX scHsGet (fun vs H Q E h => ?_) (fun cdv A outer s H vs Q E hr h => ?_)
  · obtain ⟨v, us, h, i, rfl, _⟩ := h
    rfl
  · obtain ⟨v, us, h, i, rfl, hv, q1, q2⟩ := h
    obtain ⟨x, dx, q, rfl, hx, hq, rl⟩ := id hv
    refine ⟨_, pss_cons (ps_if (pt_not (pt_val (pe_call GR (hr.mono (by decide)) rfl mR kR bR .nil pass0 (pa_cons (pv 0) (pa_cons (pv 1) pa_nil))))) (pss_one (ps_raise rfl (takes_of rfl rfl rfl rfl) (pmk_oexI N.o iI tI GI hr bI pass0 rfl N.g (by exact (pa_cons (pv 1) pa_nil))))) pss_nil)
      (pss_one (ps_ret (pe_ix ix_tup (pe_fld (pv 0) rfl) (pv 1) (fun _ _ => rfl)))), ?_⟩
    refine ⟨_, rfl, _, rfl, .ref x, h, i, rfl, hv.at, _, rfl, ?_⟩
    cases e : hasRow h i with
    | false => exact iteT ⟨_, rfl, (by show 1 ≤ 1000; decide), er_readI (q2 e)⟩
    | true =>
      have z : 0 ≤ i ∧ i < (h.rs.length : Int) := by
        unfold hasRow at e
        exact ⟨of_decide_eq_true (Bool.and_eq_true_iff.mp e).1, of_decide_eq_true (Bool.and_eq_true_iff.mp e).2⟩
      have lx : us.length = h.rs.length := rl.1
      have lt : i.toNat < h.rs.length := by omega
      have em : h.rs[i.toNat]? = some h.rs[i.toNat] := List.getElem?_eq_getElem lt
      obtain ⟨u, eu, ru⟩ := rl.2 _ _ em
      refine iteF ⟨_, rfl, x, C, dx, _, _, rfl, hx, L.cl, L.rs, hs_rs .., _, rfl, q, us, i, u, rfl, rfl, SqT.of hq, at_nat z.1 eu, ?_⟩
      exact q1 u z.1 eu
end
/-! texts -/
theorem strOk_tl {x : Str} (h : ∀ c ∈ tl x, c < 1114112) : PyData.strOk x = true := by
  unfold PyData.strOk
  rw [Array.all_eq_true_iff_forall_mem]
  intro c hc
  exact decide_eq_true (h c (by simpa [tl] using hc))
theorem strOk_lt {x : Str} (h : PyData.strOk x = true) : ∀ c ∈ tl x, c < 1114112 := by
  unfold PyData.strOk at h
  rw [Array.all_eq_true_iff_forall_mem] at h
  intro c hc
  exact of_decide_eq_true (h c (by simpa [tl] using hc))
theorem strOk_app {x y : Str} (h : PyData.strOk x = true) (k : PyData.strOk y = true) : PyData.strOk (x ++ y) = true := strOk_tl fun c hc => by
  rw [tl_append] at hc
  exact (List.mem_append.mp hc).elim (strOk_lt h c) (strOk_lt k c)
theorem words_ok : ∀ p ∈ kindL ++ stateL ++ deedL ++ placeL ++ whoseL ++ [num (-1), num 0, num 1], PyData.strOk p = true := by decide +kernel
theorem rw_strOk {m : Rw} (h : m.ok) (kk : m.kind = 0) : PyData.strOk m.text = true := by
  cases m with
  | ct _ _ _ => cases kk
  | lt k s d p =>
    obtain ⟨a, b, c, e, _⟩ := h
    rw [← let_text]
    have w := words_ok
    have sp : PyData.strOk " " = true := by decide +kernel
    have em : PyData.strOk Str.empty = true := by decide +kernel
    exact strOk_app (strOk_app (strOk_app (strOk_app (strOk_app (strOk_app (strOk_app em (w k (by simp [a]))) sp) (w s (by simp [b]))) sp) (w d (by simp [c]))) sp) (w p (by simp [e]))
theorem joinL_snoc (s : List Nat) (z : List Nat) : ∀ (a : List Nat) (r : List (List Nat)), joinL s ((a :: r) ++ [z]) = joinL s (a :: r) ++ (s ++ z)
  | a, [] => by simp [joinL]
  | a, b :: r => by
    have ih := joinL_snoc s z b r
    simp only [List.cons_append, joinL] at ih ⊢
    rw [ih]
    simp
/-- a row more -/
theorem text_more (h : Hs) (m : Rw) : (Hs.mk h.d h.ch (h.rs ++ [m])).text = h.text ++ (nlS ++ m.text) := ext_tl (by
  unfold Hs.text
  rw [tl_append, tl_append, tl_join, tl_join]
  have e : (Hs.mk h.d h.ch (h.rs ++ [m])).lines = h.lines ++ [m.text] := by simp [Hs.lines]
  rw [e, List.map_append]
  exact joinL_snoc _ _ _ _)
theorem text_head (h : Hs) : ∃ r, tl h.text = tl ("depth " : Str) ++ (tl (num h.d) ++ (10 :: r)) := by
  unfold Hs.text
  rw [tl_join]
  have e : tl nlS = [10] := by decide +kernel
  have e0 : tl Str.empty = [] := rfl
  rw [e]
  simp only [Hs.lines, List.map_cons, joinL]
  refine ⟨joinL [10] (tl (Str.empty ++ Str.ofString "check " ++ h.ch) :: List.map tl (List.map Rw.text h.rs)), ?_⟩
  simp only [tl_append, e0]
  simp
theorem text_depth {h g : Hs} (ho : h.ok) (go : g.ok) (e : h.text = g.text) : h.d = g.d := by
  obtain ⟨r, eh⟩ := text_head h
  obtain ⟨r', eg⟩ := text_head g
  rw [e, eg] at eh
  have z := List.append_cancel_left eh
  have l1 : (tl (num h.d)).length = 1 := by
    exact (show (tl (num h.d)).length = (num h.d).length from by simp [tl, Str.length]).trans (num_dep ho.1 ho.2.1)
  have l2 : (tl (num g.d)).length = 1 := by
    exact (show (tl (num g.d)).length = (num g.d).length from by simp [tl, Str.length]).trans (num_dep go.1 go.2.1)
  have z2 := (List.append_inj z (by rw [l1, l2])).1
  have z3 : num g.d = num h.d := ext_tl z2
  have q : ∀ a ∈ [(0 : Int), 1, 2, 3, 4], ∀ b ∈ [(0 : Int), 1, 2, 3, 4], num a = num b → a = b := by decide +kernel
  have m : ∀ d : Int, 0 ≤ d → d ≤ 4 → d ∈ [(0 : Int), 1, 2, 3, 4] := fun d a b => by
    have : d = 0 ∨ d = 1 ∨ d = 2 ∨ d = 3 ∨ d = 4 := by omega
    simpa using this
  exact (q _ (m _ go.1 go.2.1) _ (m _ ho.1 ho.2.1) z3).symm
theorem text_long (h : Hs) : h.text ≠ "depth" := fun e => by
  obtain ⟨r, eh⟩ := text_head h
  rw [e] at eh
  have z := congrArg List.length eh
  have e1 : (tl ("depth" : Str)).length = 5 := by decide +kernel
  have e2 : (tl ("depth " : Str)).length = 6 := by decide +kernel
  rw [e1, List.length_append, e2] at z
  omega
end V3

set_option Elab.async false
set_option linter.all false
set_option maxRecDepth 100000
/-! != of lists whose items are equal by an == of their own -/
namespace V3
open PySem PySem.SeqAt
open AutoSeq1 (wpAny_loadPart')
open MeetsSeq MeetsSeq2 MeetsSeq3 SeqRoads2
section
variable {prog : Program} {w : World} {A : Around} {R : Result → Shared → Prop}
theorem ne_loopL (l b : Addr) (N : Nat) (I : Nat → Shared → Prop) (hl : GQ.ListI prog w A (fun e s' => R (.error e) s') l b N I) (fin : ∀ s, I N s → R (.ok (.ret (.bool false))) s) (k : Nat) :
    ∀ i : Nat, N - i = k → i ≤ N → ∀ s, I i s → wpAny (model prog w) A.in1 (Builtin.«list.__eq__.loop» ⟨[.ref l, .ref b, rawInt i, rawInt 3], []⟩) (GQ.FinOf prog w A R) (fun e s' => R (.error e) s') s := by
  induction k with
  | zero =>
    intro i hk hi s h
    obtain ⟨xs, ys, n, n2, gl, gb, z1, z2, _⟩ := hl _ _ h
    have ei : i = N := by omega
    have done : R (.ok (.ret (.bool false))) s := fin s (ei ▸ h)
    obtain ⟨hp, g, d, tk, os⟩ := s
    wp_walk using wpAny_loadPart' gl, wpAny_loadPart' gb
    have g1 : xs[((i : Nat) : Int).toNat]? = none := by
      simp
      omega
    have g2 : ys[((i : Nat) : Int).toNat]? = none := by
      simp
      omega
    rw [g1, g2]
    wp_walk using wpAny_loadPart' gl, wpAny_loadPart' gb
    show R (.ok (.ret (.bool (xs.size != ys.size)))) _
    rw [z1, z2]
    simpa using done
  | succ k ih =>
    intro i hk hi s h
    obtain ⟨xs, ys, n, n2, gl, gb, z1, z2, turn⟩ := hl _ _ h
    have l1 : i < xs.size := by omega
    have l2 : i < ys.size := by omega
    have one := turn l1 l2
    obtain ⟨hp, g, d, tk, os⟩ := s
    wp_walk using wpAny_loadPart' gl, wpAny_loadPart' gb
    have g1 : xs[((i : Nat) : Int).toNat]? = some xs[i] := by simp [l1]
    have g2 : ys[((i : Nat) : Int).toNat]? = some ys[i] := by simp [l2]
    have e1 : ((i : Int) + 1) = ((i + 1 : Nat) : Int) := by omega
    rw [g1, g2]
    refine wpAny_bind (wpAny_mono one (fun r s2 q => ?_) fun _ _ x => x)
    obtain ⟨er, q⟩ := q
    subst er
    have rec1 := ih (i + 1) (by omega) (by omega) s2 q
    obtain ⟨hp2, g2', d2, tk2, os2⟩ := s2
    wp_walk
    rw [e1]
    exact ⟨plainId_quiet plain_eq_loop _, codeAny_builtin entry_eq_loop (by
      rw [Around.under_plainId plain_eq_loop _]
      exact rec1)⟩
theorem list_neL (l b : Addr) (N : Nat) (I : Nat → Shared → Prop) (hl : GQ.ListI prog w A (fun e s' => R (.error e) s') l b N I) (fin : ∀ s, I N s → R (.ok (.ret (.bool false))) s) {s : Shared} (h : I 0 s) :
    wpAny (model prog w) A.in1 (Builtin.«list.__ne__» ⟨[.ref l, .ref b], []⟩) (GQ.FinOf prog w A R) (fun e s' => R (.error e) s') s := by
  obtain ⟨xs, ys, n, n2, gl, gb, z1, z2, _⟩ := hl _ _ h
  have rec0 := ne_loopL (A := A) (R := R) l b N I hl fin _ 0 rfl (Nat.zero_le _) s h
  obtain ⟨hp, g, d, tk, os⟩ := s
  have sb := AutoSeq1.sub_list_list
  have nz : ¬ (xs.size != ys.size) = true := by simp [z1, z2]
  wp_walk using wpAny_loadPart' gl, wpAny_loadPart' gb
  exact ⟨plainId_quiet plain_eq_loop _, codeAny_builtin entry_eq_loop (by
    rw [Around.under_plainId plain_eq_loop _]
    exact rec0)⟩
end
section
variable {prog : Program} {w : World} {A : Around} {E : Value → Shared → Prop} {s : Shared}
theorem rc_listNe {l b : Addr} {N : Nat} {Q : Value → Shared → Prop} (hu : A.units < cLine) (I : Nat → Shared → Prop) (hl : GQ.ListI prog w A E l b N I) (fin : ∀ s, I N s → Q (.bool false) s) (h : I 0 s) : wpAny (model prog w) A (richCompare .NotEq (.ref l) (.ref b)) Q E s := by
  obtain ⟨xs, ys, n, n2, gl, gb, _, _, _⟩ := hl _ _ h
  refine wpAny_richCompare_same_room (op := .NotEq) ⟨_, gl, rfl⟩ ⟨_, gb, rfl⟩ F.slot_list_ne (GQ.call_here F.slot_list_ne ⟨_, gl, rfl⟩ F.entry_list_ne (F.args_list_ne_2 _ _) ?_) hu
  exact list_neL (R := wants (fun v s' => v ≠ .notImplemented ∧ Q v s') E) l b N I hl (fun s' q => ⟨(fun x => nomatch x), fin s' q⟩) h
end
end V3
namespace V3
open PySem PySem.Spec PyProof.Rows L2
/-- the very same object -/
def DSame : Eqv := fun x y _ => ∃ a, x = .ref a ∧ y = .ref a
theorem mon_same : Mon DSame := fun _ _ _ _ _ d => d
def rNeL (D : Eqv) : R2 := fun x y H Q => DList D x y H ∧ ∀ H', Ext H H' → Q (.bl false) H'
theorem op_neL {X : Cx} {n : Nat} {D : Eqv} (hD : Mon D) (h : EqG X n D) (hr : Room (n + 1) X.A) : OpR X (compareOp .NotEq) (rNeL D) := by
  intro pins s σ H x y v u Q J rx ry hq
  obtain ⟨⟨a, b, xs, ys, rfl, rfl, ha, hb, p⟩, q⟩ := hq
  cases rx
  cases ry
  show wpAny (model X.prog X.w) X.A (richCompare .NotEq (.ref a) (.ref b)) (EP X pins σ Q) X.xe s
  refine rc_listNe (N := xs.length) hr.units0 (fun _ s' => LoopI X pins σ H s') (fun i s' z => ?_) (fun s' z => ?_) ⟨H, J, Ext.rfl'⟩
  · obtain ⟨H1, I1, e1⟩ := id z
    obtain ⟨z0, its, k, r, e⟩ := I1.hok a _ (e1 _ _ ha)
    obtain ⟨z2, its2, k2, r2, e2⟩ := I1.hok b _ (e1 _ _ hb)
    exact ⟨its.toArray, its2.toArray, k, k2, e, e2, by rw [List.size_toArray, ← r.length], by rw [List.size_toArray, ← r2.length, ← p.1], fun h1 h2 => turnG hD h ⟨hr, rfl⟩ p r r2 i h1 h2 s' z⟩
  · obtain ⟨H1, I1, e1⟩ := z
    exact ⟨.bl false, H1, I1, rfl, q H1 e1⟩
theorem eqG_same {X : Cx} : EqG X 0 DSame := fun A pins s σ H x y u v sb J rx ry d => by
  obtain ⟨a, rfl, rfl⟩ := d
  cases rx
  cases ry
  exact PySem.SeqAt.EqAt.same (A := A) (s := s) (.ref a) X.prog X.w X.xe _ ⟨rfl, H, J, Ext.rfl'⟩
end V3

set_option Elab.async false
set_option linter.all false
set_option maxRecDepth 100000
/-! what is done with houses, answered -/
namespace V3
open PySem L2 TL
structure HsOps (P : Program) (w : World) (K : PySem.W.Frag) (mg : Str → Option Value) (base : Heap) (c : Rc) (C CN : Addr) : Prop where
  g : mg "House" = some (.ref C)
  hc : HsC K C
  mkX : ∃ (f : Addr) (fd : FuncData), FnOk P w K mg base CX0 4 f fd ["self", "depth", "check", "rows"] (spHsInitX K c C) ∧ Mk K C f ∧ Binds K fd ["self", "depth", "check", "rows"] []
  mkT : ∃ (f : Addr) (fd : FuncData), FnOk P w K mg base CX0 4 f fd ["self", "depth", "check", "rows"] (spHsInitT K c C) ∧ Mk K C f ∧ Binds K fd ["self", "depth", "check", "rows"] []
  mk0 : ∃ (f : Addr) (fd : FuncData) (e : Addr) (ds : List Value), FnOk P w K mg base CX0 4 f fd ["self", "depth", "check", "rows"] (spHsInitT K c C) ∧ Mk K C f ∧ Vals [.ref e] ds ∧ Binds K fd ["self", "depth", "check", "rows"] ds ∧ (∃ o, K.lookup e = some o ∧ o.cls = .type "tuple") ∧ ∀ H, SqT K H e []
  sk : HsStr P w K mg base c C
  len : ∃ (f : Addr) (fd : FuncData), FnOk P w K mg base CX0 1 f fd ["self"] (spHsLen K c C) ∧ PySem.W.findIn K (.ref C) "__len__" = some (some (.ref f)) ∧ PySem.W.isFn K (.ref f) = true ∧ Binds K fd ["self"] []
  eq : ∃ (f : Addr) (fd : FuncData), FnOk P w K mg base CX0 7 f fd ["self", "other"] (spHsEq K c C) ∧ EqCls K C f ∧ Binds K fd ["self", "other"] []
  ne : ∃ (f : Addr) (fd : FuncData), FnOk P w K mg base CX0 7 f fd ["self", "other"] spHsNe ∧ EqCls K C f ∧ Binds K fd ["self", "other"] []
  get : ∃ (f : Addr) (fd : FuncData), FnOk P w K mg base (L2.CX P w) 3 f fd ["self", "at"] (spHsGetX K c C CN) ∧ GetCls K C f ∧ Binds K fd ["self", "at"] []
  nf : PySem.W.notFirst K C (.ref C) = true
  bh : BehindL K C
def FFe (K : PySem.W.Frag) (c : Rc) (C : Addr) : Addr → Sp → XK → Prop := fun D sp _ => D = C ∧ sp = spHsEq K c C
def FFn (C : Addr) : Addr → Sp → XK → Prop := fun D sp _ => D = C ∧ sp = spHsNe
def FFg (K : PySem.W.Frag) (c : Rc) (C CN : Addr) : Addr → Sp → XK → Prop := fun D sp E => D = C ∧ sp = spHsGetX K c C CN ∧ E = E0
section
variable {X : Cx} {c : Rc} {C CN : Addr}
theorem own_e (T : HsOps X.prog X.w X.K X.mg X.base c C CN) : ∀ D sp E, FFe X.K c C D sp E → ∃ (CX : CXT) (f : Addr) (fd : FuncData) (ps : List Str), FnOk X.prog X.w X.K X.mg X.base CX 7 f fd ps sp ∧ EqCls X.K D f ∧ Binds X.K fd ps [] ∧ Passes CX X E := fun D sp E h => by
  obtain ⟨rfl, rfl⟩ := h
  obtain ⟨f, fd, F, ec, bi⟩ := T.eq
  exact ⟨CX0, f, fd, _, F, ec, bi, fun _ _ _ _ _ _ _ h => h.elim⟩
theorem op_neH (T : HsOps X.prog X.w X.K X.mg X.base c C CN) (hr : Room 8 X.A) : OpR X (compareOp .NotEq) (rEqO X.K 7 (FFe X.K c C) true) := op_neO (own_e T) hr
theorem op_eqH (T : HsOps X.prog X.w X.K X.mg X.base c C CN) (hr : Room 7 X.A) : OpR X (compareOp .Eq) (rEqO X.K 7 (FFe X.K c C) false) := op_eqO (own_e T) hr
theorem op_inH (T : HsOps X.prog X.w X.K X.mg X.base c C CN) (hr : Room 8 X.A) : OpR X (compareOp .In) (rInL X.K (FFn C)) := op_inL (fun D sp E h => by
  obtain ⟨rfl, rfl⟩ := h
  obtain ⟨f, fd, F, ec, bi⟩ := T.ne
  exact ⟨CX0, f, fd, _, F, ec, bi, fun _ _ _ _ _ _ _ h => h.elim⟩) hr
theorem get_H (T : HsOps X.prog X.w X.K X.mg X.base c C CN) : ∀ D sp E, FFg X.K c C CN D sp E → ∃ (CX : CXT) (f : Addr) (fd : FuncData) (ps : List Str), FnOk X.prog X.w X.K X.mg X.base CX 3 f fd ps sp ∧ GetCls X.K D f ∧ Binds X.K fd ps [] ∧ Passes CX X E := fun D sp E h => by
  obtain ⟨rfl, rfl, rfl⟩ := h
  obtain ⟨f, fd, F, ec, bi⟩ := T.get
  exact ⟨_, f, fd, _, F, ec, bi, passL⟩
def rLenK (K : PySem.W.Frag) (c : Rc) (C : Addr) : List V → Hp → VK → Prop := fun xs H Q => ∃ v h, xs = [v] ∧ HsAt K c C H v h ∧ h.ok ∧ Q (.int (h.rs.length : Int)) H
theorem call_lenK (T : HsOps X.prog X.w X.K X.mg X.base c C CN) (room : Room 2 X.A) : CallR X (.builtin "len") (rLenK X.K c C) := by
  intro pins s σ H xs us Q I r h
  obtain ⟨v, h, rfl, a, ok, q⟩ := h
  obtain ⟨f, fd, G, at_, isf, bi⟩ := T.len
  obtain ⟨x, dx, t, ys, rfl, hx, ht, mv⟩ := id a
  have n := ok.2.2.2.2
  refine call_lenO (E := fun _ _ _ => False) G at_ isf bi pass0 room pins s σ H _ us Q I r ⟨x, dx, _, rfl, hx, _, h, rfl, a, _, rfl, ⟨by omega, ?_⟩, q⟩
  exact Int.lt_of_le_of_lt (b := 1000) (by omega) (by decide)
end
section
variable {P : Program} {w : World} {K : PySem.W.Frag} {mg : Str → Option Value} {base : Heap}
theorem ok_hsNe {f C : Addr} {c : Rc} {fd : FuncData} (F : Fun K "__eq__" "House.__eq__" sHsEq f fd) (T : BltK mg) (S : HsStr P w K mg base c C) (N : HsNot K C) (gH : mg "House" = some (.ref C)) : FnOk P w K mg base CX0 7 f fd ["self", "other"] spHsNe := by
  refine F.ok scHsEq (fun vs H Q E h => ?_) (fun cdv A outer s H vs Q E hr h => ?_)
  · obtain ⟨u, z, rfl, _⟩ := h
    rfl
  · obtain ⟨u, z, rfl, pl, k⟩ := h
    refine ⟨_, pss_one (ps_ret (pe_and (pe_callB call_isi (by rfl) T.isi (by decide +kernel) (pa_cons (pv 1) (pa_cons (pe_glob (v := .ref C) rfl gH rfl) pa_nil)))
      (pe_one (pe_cmpR op_eq (pe_callTy (call_strK S hr) (by rfl) T.str (by decide +kernel) (pa_cons (pv 0) pa_nil)) (pe_callTy (call_strK S hr) (by rfl) T.str (by decide +kernel) (pa_cons (pv 1) pa_nil)) (nomark _))))), ?_⟩
    cases pl with
    | str x => exact ⟨_, rfl, _, _, _, _, _, rfl, .own C, .base (.str x), N.s, _, rfl, iteF k⟩
    | non => exact ⟨_, rfl, _, _, _, _, _, rfl, .own C, .base .non, N.n, _, rfl, iteF k⟩
    | tup h => exact ⟨_, rfl, _, _, _, _, _, rfl, .own C, .base (.tup h), N.t, _, rfl, iteF k⟩
    | lst h => exact ⟨_, rfl, _, _, _, _, _, rfl, .own C, .base (.lst h), N.l, _, rfl, iteF k⟩
end
/-- a drawn row's tuple -/
def TrA (m : Rw) : V → Hp → Prop := fun v H => TpAt H v m ∧ m.ok ∧ m.kind = 0
instance {m : Rw} : StL (TrA m) := ⟨fun _ _ _ s a => ⟨a.1.keep s, a.2⟩⟩
section
variable {K : PySem.W.Frag} {c : Rc} {C CN : Addr} {σ : L2.St} {ta tb td tc tl te : TE} {H0 : Hp} {h g : Hs} {us : List V} {m : Rw} {R : V → Hp → Prop}
theorem ev_X (ha : EvV (Same H0) σ ta (HsX K c C us h)) : EvV (Same H0) σ ta (HsA K c C h) := ev_to ha fun _ _ a => a.at
theorem ev_strK (ok : h.ok) (ha : EvV (Same H0) σ ta (HsA K c C h)) : EvV (Same H0) σ (tCB (rStrK K c C) (tCons ta tNil)) (isSv h.text) :=
  ev_cb (eva_cons ha eva_nil) fun vs H Q w r k => by
    obtain ⟨v, r, rfl, hv, rfl⟩ := r
    exact ⟨v, h, rfl, hv, ok, fun H' s => k _ H' s rfl⟩
theorem ev_lenK (ok : h.ok) (ha : EvV (Same H0) σ ta (HsA K c C h)) : EvV (Same H0) σ (tCB (rLenK K c C) (tCons ta tNil)) (isIv (h.rs.length : Int)) :=
  ev_cb (eva_cons ha eva_nil) fun vs H Q w r k => by
    obtain ⟨v, r, rfl, hv, rfl⟩ := r
    exact ⟨v, h, rfl, hv, ok, k _ H (Same.refl H) rfl⟩
theorem ev_eqK {neg : Bool} (nf : PySem.W.notFirst K C (.ref C) = true) (ho : h.ok) (go : g.ok) (ha : EvV (Same H0) σ ta (HsA K c C h)) (hb : EvV (Same H0) σ tb (HsA K c C g)) : EvV (Same H0) σ (tOp (rEqO K 7 (FFe K c C) neg) ta tb) (isBv (decide (h.text = g.text) != neg)) :=
  ev_o ha hb fun x y H Q w a1 a2 k => by
    obtain ⟨x, dx, q, us, rfl, hx, hq, rl⟩ := id a1
    obtain ⟨y, dy, q2, us2, rfl, hy, hq2, rl2⟩ := id a2
    exact ⟨x, C, dx, _, y, C, dy, _, spHsEq K c C, E0, rfl, rfl, hx, hy, ⟨rfl, rfl⟩, nf, _, _, h, g, rfl, a1, a2, ho, go, fun H' s => ⟨_, rfl, k _ H' s rfl⟩⟩
theorem ev_ixK {i : Int} {u : V} (hu : us[i.toNat]? = some u) (i0 : 0 ≤ i) (hi : hasRow h i = true) (ha : EvV (Same H0) σ ta (HsX K c C us h)) (hb : EvV (Same H0) σ tb (isIv i)) : EvV (Same H0) σ (tOp (rIxO (FFg K c C CN)) ta tb) (isVv u) :=
  ev_o ha hb fun x y H Q w a1 a2 k => by
    cases a2
    obtain ⟨x, dx, q, rfl, hx, hq, rl⟩ := id a1
    exact ⟨x, C, dx, _, spHsGetX K c C CN, E0, rfl, hx, ⟨rfl, rfl, rfl⟩, _, us, h, i, rfl, a1, fun u2 _ e => by
      rw [hu] at e
      cases e
      exact k _ H (Same.refl H) rfl, fun e => by rw [hi] at e; cases e⟩
/-- a list of these very objects, rows of a house -/
def isLo (c : Rc) (us : List V) (ms : List Rw) : V → Hp → Prop := fun v H => ∃ l, v = .ref l ∧ H l = some (.lst us) ∧ RwLs c H us ms
instance {ms : List Rw} : St (isLo c us ms) := ⟨fun _ _ _ s ⟨l, e, hl, rl⟩ => ⟨l, e, s _ _ hl, rl.same s⟩⟩
def isTo (c : Rc) (us : List V) (ms : List Rw) : V → Hp → Prop := fun v H => ∃ l, v = .ref l ∧ H l = some (.tup us) ∧ RwLs c H us ms
instance {ms : List Rw} : StL (isTo c us ms) := ⟨fun _ _ _ s ⟨l, e, hl, rl⟩ => ⟨l, e, s _ _ (fun _ z => by cases z) hl, rl.keep s⟩⟩
theorem mk_houseX {C x dx l : Addr} {H : Hp} {R : VK} {E : XK} (hl : H l = some (.lst us)) (rl : RwLs c H us h.rs) (ok : h.ok) (nx : H x = none) (ndx : H dx = none) (q : ∀ H', Same H H' → HsX K c C us h (.ref x) H' → R .non H') :
    spHsInitX K c C [.ref x, .int h.d, .str h.ch, .ref l] (upd (upd H dx (.own x)) x (.ins C dx [])) R E := by
  have s0 : Same H (upd (upd H dx (.own x)) x (.ins C dx [])) := made_same nx ndx
  exact ⟨x, dx, l, us, h, rfl, upd_same, s0 _ _ hl, rl.same s0, ok, fun H' s' a => q H' (fun b o e => s' b o (ne_of_none e nx) (s0 b o e)) a⟩
theorem ev_mkX (ok : h.ok) (hd : EvV (Same H0) σ td (isIv h.d)) (hc : EvV (Same H0) σ tc (isSv h.ch)) (hl : EvV (Same H0) σ tl (isLo c us h.rs)) : EvV (Same H0) σ (tMake C (spHsInitX K c C) [] E0 (tCons td (tCons tc (tCons tl tNil)))) (HsX K c C us h) :=
  ev_make (eva_cons hd (eva_cons hc (eva_cons hl eva_nil))) fun vs H x dx Q w r nx ndx ne k => by
    obtain ⟨v1, r, rfl, e1, v2, r, rfl, e2, v3, r, rfl, ⟨l, rfl, hl, rl⟩, rfl⟩ := r
    cases e1
    cases e2
    exact mk_houseX hl rl ok nx ndx k
theorem ev_mkT (ok : h.ok) (hd : EvV (Same H0) σ td (isIv h.d)) (hc : EvV (Same H0) σ tc (isSv h.ch)) (hl : EvV (Same H0) σ tl (isTo c us h.rs)) : EvV (Same H0) σ (tMake C (spHsInitT K c C) [] E0 (tCons td (tCons tc (tCons tl tNil)))) (HsA K c C h) :=
  ev_make (eva_cons hd (eva_cons hc (eva_cons hl eva_nil))) fun vs H x dx Q w r nx ndx ne k => by
    obtain ⟨v1, r, rfl, e1, v2, r, rfl, e2, v3, r, rfl, ⟨l, rfl, hl, rl⟩, rfl⟩ := r
    cases e1
    cases e2
    exact mk_houseT (.inl hl) rl ok nx ndx k
theorem ev_mk0 {d : Int} {ch : Str} {e : Addr} (ok : (Hs.mk d ch []).ok) (he : (∃ o, K.lookup e = some o ∧ o.cls = .type "tuple") ∧ ∀ H, SqT K H e []) (hd : EvV (Same H0) σ td (isIv d)) (hc : EvV (Same H0) σ tc (isSv ch)) : EvV (Same H0) σ (tMake C (spHsInitT K c C) [.ref e] E0 (tCons td (tCons tc tNil))) (HsA K c C ⟨d, ch, []⟩) :=
  ev_make (eva_cons hd (eva_cons hc eva_nil)) fun vs H x dx Q w r nx ndx ne k => by
    obtain ⟨v1, r, rfl, e1, v2, r, rfl, e2, rfl⟩ := r
    cases e1
    cases e2
    exact mk_houseT (h := ⟨d, ch, []⟩) (us := []) (.inr he) Ls.nil ok nx ndx k
theorem ev_houseOf (ok : h.ok) (ha : EvV (Same H0) σ ta (HtA h)) : EvV (Same H0) σ (tCall (spHouseOf K c C) [] E0 (tCons ta tNil)) (HsA K c C h) :=
  ev_call (eva_cons ha eva_nil) fun vs H Q w r k => by
    obtain ⟨v, r, rfl, hv, rfl⟩ := r
    exact ⟨v, h, rfl, hv, ok, fun x H' s a => k x H' s a⟩
theorem ev_houseText (ok : h.ok) (ha : EvV (Same H0) σ ta (HtA h)) : EvV (Same H0) σ (tCall spHouseText [] E0 (tCons ta tNil)) (isSv h.text) :=
  ev_call (eva_cons ha eva_nil) fun vs H Q w r k => by
    obtain ⟨v, r, rfl, hv, rfl⟩ := r
    exact ⟨v, h, rfl, hv, ok, fun H' s => k _ H' s rfl⟩
theorem ev_letOf (ha : EvV (Same H0) σ ta (TrA m)) : EvV (Same H0) σ (tCall (spLetOf c) [] E0 (tCons ta tNil)) (RwA c m) :=
  ev_call (eva_cons ha eva_nil) fun vs H Q w r k => by
    obtain ⟨v, r, rfl, hv, rfl⟩ := r
    exact ⟨v, m, rfl, hv.1, hv.2.1, hv.2.2, fun x H' s a => k x H' s a⟩
theorem ev_mkLet {k s d p : Str} {t1 t2 t3 t4 : TE} (ok : (Rw.lt k s d p).ok) (h1 : EvV (Same H0) σ t1 (isSv k)) (h2 : EvV (Same H0) σ t2 (isSv s)) (h3 : EvV (Same H0) σ t3 (isSv d)) (h4 : EvV (Same H0) σ t4 (isSv p)) :
    EvV (Same H0) σ (tMake c.L (spLInit c) [] E0 (tCons t1 (tCons t2 (tCons t3 (tCons t4 tNil))))) (RwA c (.lt k s d p)) :=
  ev_make (eva_cons h1 (eva_cons h2 (eva_cons h3 (eva_cons h4 eva_nil)))) fun vs H x dx Q w r nx ndx ne q => by
    obtain ⟨v1, r, rfl, e1, v2, r, rfl, e2, v3, r, rfl, e3, v4, r, rfl, e4, rfl⟩ := r
    cases e1
    cases e2
    cases e3
    cases e4
    exact mk_let ok nx ndx q
theorem ev_strL (ok : m.ok) (kd : m.kind = 0) (ha : EvV (Same H0) σ ta (RwA c m)) : EvV (Same H0) σ (tCB (rStrH c) (tCons ta tNil)) (isSv m.text) :=
  ev_cb (eva_cons ha eva_nil) fun vs H Q w r k => by
    obtain ⟨v, r, rfl, hv, rfl⟩ := r
    exact ⟨v, m, rfl, hv, ok, kd, k _ H (Same.refl H) rfl⟩
theorem ev_rowsX (L : HsC K C) (ha : EvV (Same H0) σ ta (HsX K c C us h)) : EvV (Same H0) σ (tFld K ta "rows") (isTo c us h.rs) :=
  ev_fld ha fun x H w hx => by
    obtain ⟨x, dx, q, rfl, hx, hq, rl⟩ := hx
    exact ⟨x, C, dx, _, _, rfl, hx, L.cl, L.rs, hs_rs .., q, rfl, hq, rl⟩
theorem ev_depth (L : HsC K C) (ha : EvV (Same H0) σ ta (HsA K c C h)) : EvV (Same H0) σ (tFld K ta "depth") (isIv h.d) :=
  ev_fld ha fun x H w hx => by
    obtain ⟨x, dx, q, us, rfl, hx, hq, rl⟩ := hx
    exact ⟨x, C, dx, _, _, rfl, hx, L.cl, L.d, hs_d .., rfl⟩
theorem ev_check (L : HsC K C) (ha : EvV (Same H0) σ ta (HsA K c C h)) : EvV (Same H0) σ (tFld K ta "check") (isSv h.ch) :=
  ev_fld ha fun x H w hx => by
    obtain ⟨x, dx, q, us, rfl, hx, hq, rl⟩ := hx
    exact ⟨x, C, dx, _, _, rfl, hx, L.cl, L.ch, hs_ch .., rfl⟩
theorem ev_ht0 (ha : EvV (Same H0) σ ta (HtA h)) : EvV (Same H0) σ (tOp (rIxT K) ta (tC (.int 0))) (isIv h.d) :=
  ev_o (Rb := isIv 0) ha ev_int fun x y H Q w hx hy k => by
    cases hy
    obtain ⟨p, q, us, rfl, hp, hq, rl⟩ := hx
    exact ⟨p, _, 0, _, rfl, rfl, SqT.of hp, rfl, k _ H (Same.refl H) rfl⟩
theorem ev_ht1 (ha : EvV (Same H0) σ ta (HtA h)) : EvV (Same H0) σ (tOp (rIxT K) ta (tC (.int 1))) (isSv h.ch) :=
  ev_o (Rb := isIv 1) ha ev_int fun x y H Q w hx hy k => by
    cases hy
    obtain ⟨p, q, us, rfl, hp, hq, rl⟩ := hx
    exact ⟨p, _, 1, _, rfl, rfl, SqT.of hp, rfl, k _ H (Same.refl H) rfl⟩
theorem ev_ht2 (ha : EvV (Same H0) σ ta (HtA h)) : EvV (Same H0) σ (tOp (rIxT K) ta (tC (.int 2))) (isU TrA h.rs) :=
  ev_o (Rb := isIv 2) ha ev_int fun x y H Q w hx hy k => by
    cases hy
    obtain ⟨p, q, us, rfl, hp, hq, rl⟩ := hx
    exact ⟨p, _, 2, _, rfl, rfl, SqT.of hp, rfl, k _ H (Same.refl H) ⟨q, us, rfl, hq, rl⟩⟩
theorem ev_ht01 (ha : EvV (Same H0) σ ta (HtA h)) : EvV (Same H0) σ (tSl (rSlT K) ta tNoPart (tPart (tC (.int 2)))) (isP2 isIv isSv (h.d, h.ch)) := fun H Q w k =>
  ha H _ w fun x H1 s1 w1 hx => by
    obtain ⟨p, q, us, rfl, hp, hq, rl⟩ := hx
    refine ⟨2, rfl, p, _, rfl, SqT.of hp, fun z => absurd z.2 (by show ¬ HT.sIx 3 3 (some 2) = 3; decide), fun t nt => ?_⟩
    have s2 : Same H1 (upd H1 t (.tup [.int h.d, .str h.ch])) := Same.new nt
    exact k _ _ (s1.trans s2) (w1.trans s2) ⟨t, _, _, rfl, upd_same, rfl, rfl⟩
theorem ev_isTo {ms : List Rw} (ha : EvV (Same H0) σ ta (isTo c us ms)) : EvV (Same H0) σ (tCB (rIsi K) (tCons ta (tCons (tC (.ty "tuple")) tNil))) (isBv true) := fun H Q w k =>
  ha H _ w fun x H1 s1 w1 hx => by
    obtain ⟨q, rfl, hq, rl⟩ := hx
    exact ⟨_, _, _, _, _, rfl, .ty "tuple", .base (.tup hq), kit_ty (by decide +kernel), k _ H1 s1 w1 rfl⟩
theorem evi_tupo {ms : List Rw} (ha : EvV (Same H0) σ te (isTo c us ms)) : EvI H0 σ (iTup K te) ms (RwA c) :=
  evi_tup (ev_to ha fun v H ⟨D, e, hD, l⟩ => ⟨D, us, e, fun H' s => SqT.of (s _ _ hD), l⟩)
theorem ev_joinT (ha : EvV (Same H0) σ ta (TrA m)) : EvV (Same H0) σ (tM1 (rJoinK K) (tC (.str " ")) ta) (isSv m.text) := fun H Q w k =>
  ⟨⟨_, rfl⟩, ha H _ w fun x H1 s1 w1 hx => by
    obtain ⟨⟨t, rfl, ht⟩, mo, mk⟩ := hx
    cases m with
    | ct _ _ _ => cases mk
    | lt k' s' d' p' =>
      have lw : ∀ z ∈ (Rw.lt k' s' d' p').words, z.length ≤ 6 := fun z hz => (word_ok mo z hz).2
      simp only [Rw.words, List.mem_cons, List.not_mem_nil, or_false, forall_eq_or_imp, forall_eq] at lw
      obtain ⟨l1, l2, l3, l4⟩ := lw
      have lb : (" " : Str).length = 1 := by decide +kernel
      have e : Txt.join (" " : Str) [k', s', d', p'] = (Rw.lt k' s' d' p').text := join_eq _ _
      refine ⟨_, t, [k', s', d', p'], rfl, rfl, .inr (SqT.of ht), ?_, k _ H1 s1 w1 (by rw [e]; rfl)⟩
      simp only [List.map, List.sum_cons, List.sum_nil, List.length_cons, List.length_nil, lb]
      omega⟩
end
end V3

set_option Elab.async false
set_option linter.all false
set_option maxRecDepth 100000
namespace V3
open PySem L2 TL
abbrev sMonthL : Stmt := top 67
def oM : Option Int → Int
  | some m => m
  | none => -1
def spMonthL : Sp := fun vs H Q _ => ∃ (hv v : V) (h : Hs) (b : Bk) (j : Nat) (d : Str), vs = [hv, v, .int (j : Int), .str d] ∧ HtA h hv H ∧ LBk b v H ∧ h.ok ∧ Wf b ∧ b.es.length ≤ 900 ∧ j < b.es.length ∧ d ∈ deedL ∧ ∀ H', Same H H' → Q (.int (oM (monthFor h b j d))) H'
theorem place_in {k s d p : Str} : ∀ {rs : List Rw}, (∀ m ∈ rs, m.ok ∧ m.kind = 0) → placeIn k s d rs = some p → p ∈ placeL
  | [], _, e => by cases e
  | .ct a w o :: r, h, e => place_in (rs := r) (fun m hm => h m (List.mem_cons_of_mem _ hm)) e
  | .lt k' s' d' p' :: r, h, e => by
    have e : (if k' = k ∧ s' = s ∧ d' = d then some p' else placeIn k s d r) = some p := e
    split at e
    · cases e
      exact (h _ (List.mem_cons_self ..)).1.2.2.2.1
    · exact place_in (rs := r) (fun m hm => h m (List.mem_cons_of_mem _ hm)) e
section
variable {K : PySem.W.Frag} {σ : L2.St} {ta tb tc td te : TE} {H0 : Hp} {h : Hs} {b : Bk} {j : Nat} {k s d : Str}
theorem ev_place (ok : h.ok) (hk : k ∈ kindL) (hs : s ∈ stateL) (hd : d ∈ deedL) (h1 : EvV (Same H0) σ ta (HtA h)) (h2 : EvV (Same H0) σ tb (isSv k)) (h3 : EvV (Same H0) σ tc (isSv s)) (h4 : EvV (Same H0) σ td (isSv d)) : EvV (Same H0) σ (tCall spPlace [] E0 (tCons ta (tCons tb (tCons tc (tCons td tNil))))) (isSv ((placeIn k s d h.rs).getD Str.empty)) :=
  ev_call (eva_cons h1 (eva_cons h2 (eva_cons h3 (eva_cons h4 eva_nil)))) fun vs H Q _ r kk => by
    obtain ⟨v, r, rfl, hv, x, r, rfl, e1, y, r, rfl, e2, z, r, rfl, e3, rfl⟩ := r
    cases e1
    cases e2
    cases e3
    exact ⟨v, h, k, s, d, rfl, hv, ok, hk, hs, hd, fun H' s' => kk _ H' s' rfl⟩
theorem ev_monthL (ok : h.ok) (w : Wf b) (n : b.es.length ≤ 900) (hj : j < b.es.length) (hd : d ∈ deedL) (h1 : EvV (Same H0) σ ta (HtA h)) (h2 : EvV (Same H0) σ tb (LBk b)) (h3 : EvV (Same H0) σ tc (isIv (j : Int))) (h4 : EvV (Same H0) σ td (isSv d)) : EvV (Same H0) σ (tCall spMonthL [] E0 (tCons ta (tCons tb (tCons tc (tCons td tNil))))) (isIv (oM (monthFor h b j d))) :=
  ev_call (eva_cons h1 (eva_cons h2 (eva_cons h3 (eva_cons h4 eva_nil)))) fun vs H Q _ r kk => by
    obtain ⟨v, r, rfl, hv, x, r, rfl, hx, y, r, rfl, e2, z, r, rfl, e3, rfl⟩ := r
    cases e2
    cases e3
    exact ⟨v, x, h, b, j, d, rfl, hv, hx, ok, w, n, hj, hd, fun H' s' => kk _ H' s' rfl⟩
end
section
variable {P : Program} {w : World} {K : PySem.W.Frag} {mg : Str → Option Value} {base : Heap}
theorem ok_depths {f : Addr} {fd : FuncData} (F : Fun K "_law_depths" "_law_depths" sDepths f fd) : FnOk P w K mg base CX0 1 f fd ["_law_book"] spDepths := by
  refine F.ok scDepths (fun vs H Q E h => ?_) (fun cdv A outer s H vs Q E hr h => ?_)
  · obtain ⟨v, b, rfl, _⟩ := h
    rfl
  · obtain ⟨v, b, rfl, hv, wf, n, k⟩ := h
    refine ⟨_, (pss_cons (ps_set (i := 1) scDepths.nd rfl (Or.inl rfl) (pe_lst pa_nil))
  (pss_cons (ps_for PassesOwn.never rfl (pi_tup (pe_ix ix_tup (pv 0) pe_int (fun _ _ => rfl))) (pg_name (i := 2) scDepths.nd rfl (Or.inl rfl))
  (pss_one (ps_expr (pe_bm PySem.F.plainAttrs_list PySem.F.slot_list_append PySem.F.type_list_append mt_append (pv 1) (pa_cons (pe_ifExp (pt_cmpR op_lt (pe_ix ix_tup (pv 2) pe_int (fun _ _ => rfl)) pe_int (nomark _)) pe_int (pe_op op_add (pe_ix ix_list (pv 1) (pe_ix ix_tup (pv 2) pe_int (fun _ _ => rfl)) (fun _ _ => rfl)) pe_int)) pa_nil)))))
  (pss_one (ps_ret (pv 1))))), ?_⟩
    try dsimp only [gName, tSeq, tAsg]
    refine ⟨(by show (0 : Nat) ≤ sizeLine; exact Nat.zero_le _), fun D nD => ?_⟩
    have s1 : Same H (upd H D (.lst [])) := Same.new nD
    have hD1 : upd H D (.lst []) D = some (.lst []) := upd_same
    generalize upd H D (.lst []) = H1 at s1 hD1 ⊢
    have hv1 := up s1 hv
    refine ev_es (K := K) (H0 := H1) (b := b) (ev_v (i := 0) rfl hv1) H1 _ (Same.refl _) fun u H2 s2 _ hu => ?_
    obtain ⟨q, us, rfl, hq, l⟩ := hu
    have hD2 := s2 _ _ hD1
    refine ⟨q, rfl, ⟨us, SqT.of hq⟩, ?_⟩
    refine for_tup (K := K) (a := q) (xs := us) (fun i σ H' => (∃ o2 vs, σ = [some v, some (.ref D), o2] ∧ SameX D H2 H' ∧ H' D = some (.lst vs) ∧ Ls (fun u i => isIv i u H') vs ((depthsB b.es).take i))) ⟨_, [], rfl, SameX.refl, hD2, Ls.nil⟩ (fun i σ H' _ ⟨_, _, _, sx, _⟩ => SqT.of (sx _ _ (fun e => by rw [e, hD2] at hq; cases hq) hq)) ?_ ?_
    · rintro i z σ H3 hi ⟨o2, vs, rfl, sx, hD3, l3⟩
      obtain ⟨e, ee, re⟩ := Ls.get l hi
      have il : i < b.es.length := (List.getElem?_eq_some_iff.mp ee).1
      have hz : LEn e z H3 := upL (Keep.pre hD2 sx) re
      have tg : taAt b.es i = e.ta := by
        unfold taAt
        rw [ee]
        rfl
      have lv : vs.length = i := by rw [l3.1, List.length_take, depthsB_len]; omega
      have tk : (depthsB b.es).take (i + 1) = (depthsB b.es).take i ++ [((depth b.es i : Nat) : Int)] := take_nxt (depthsB_at il)
      have hL : isIs ((depthsB b.es).take i) (.ref D) H3 := ⟨D, vs, rfl, hD3, l3⟩
      refine ⟨_, rfl, .inl ⟨rfl, _, SqL.of hD3⟩, ?_⟩
      refine ev_if (H0 := H3) (R := isIv ((depth b.es i : Nat) : Int)) (b := e.ta.isNone) (ev_bool (ev_test (ev_lt (i := oi e.ta) (j := 0) (ev_e2 (ev_v (i := 2) rfl hz)) ev_int)) oi_neg) (fun en => ?_) (fun en => ?_) H3 _ (Same.refl _) fun y H4 s4 _ ey => ?_
      · rw [Option.isNone_iff_eq_none] at en
        rw [en] at tg
        rw [depth_none tg]
        exact ev_int
      · obtain ⟨t, et⟩ := Option.isSome_iff_exists.mp (by simpa using en : e.ta.isSome = true)
        rw [et] at tg
        have tj := wf.ta i t tg
        rw [depth_some wf.ta tg]
        refine ev_to (ev_ad (i := ((depth b.es t : Nat) : Int)) (j := 1) (ev_ixL (n := t) (a := ((depth b.es t : Nat) : Int)) (by rw [List.getElem?_take, if_pos tj]; exact depthsB_at (by omega)) (ev_v (i := 1) rfl hL) (ev_to (ev_e2 (ev_v (i := 2) rfl hz)) fun u H q => by rw [et] at q; exact q)) ev_int) fun u H q => by rw [q]; rfl
      · cases ey
        have hD4 := s4 _ _ hD3
        refine ⟨D, vs, _, rfl, rfl, hD4, Nat.lt_of_le_of_lt (m := 1000) (by omega) (by decide), _, vs ++ [_], rfl, fun c o nc q => ?_, upd_same, ?_⟩
        · rw [upd_ne nc]
          exact s4 _ _ (sx c o nc q)
        · rw [tk]
          exact Ls.push (l3.imp fun _ _ r => r) rfl
    · rintro σ H3 ⟨o2, vs, rfl, sx, hD3, l3⟩
      have lu : us.length = (depthsB b.es).length := by rw [l.1, depthsB_len]
      rw [lu, List.take_length] at l3
      exact ⟨_, rfl, k D vs H3 nD (fun c o q => sx c o (ne_of_none q nD) (s2 _ _ (s1 c o q))) hD3 l3⟩
theorem ok_kindL {f : Addr} {fd : FuncData} (F : Fun K "_law_kind" "_law_kind" sKindL f fd) : FnOk P w K mg base CX0 1 f fd ["_law_book", "_law_depths_here", "_law_at"] spKindL := by
  refine F.ok scKindL (fun vs H Q E h => ?_) (fun cdv A outer s H vs Q E hr h => ?_)
  · obtain ⟨v, d, b, j, rfl, _⟩ := h
    rfl
  · obtain ⟨v, d, b, j, rfl, hv, hd, wf, hj, k⟩ := h
    refine ⟨_, (pss_cons (ps_if (pt_cmpR op_eq (pe_ix ix_list (pv 1) (pv 2) (fun _ _ => rfl)) pe_int (nomark _)) (pss_one (ps_ret (pe_ifExp (pt_cmpR op_lt (pe_ix ix_tup (pe_ix ix_tup (pe_ix ix_tup (pv 0) pe_int (fun _ _ => rfl)) (pv 2) (fun _ _ => rfl)) pe_int (fun _ _ => rfl)) pe_int (nomark _)) pe_str pe_str))) pss_nil)
  (pss_one (ps_ret (pe_ifExp (pt_cmpR op_eq (pe_op op_mod (pe_ix ix_list (pv 1) (pv 2) (fun _ _ => rfl)) pe_int) pe_int (nomark _)) pe_str pe_str)))), ?_⟩
    have dj := depthsB_at hj
    have og := olAt_get hj
    rw [kind_depth wf, og] at k
    refine if_b (H0 := H) (Same.refl _) (ev_test (ev_eqi (i := ((depth b.es j : Nat) : Int)) (j := 0) (ev_ixL (n := j) dj (ev_v rfl hd) (ev_v (R := isIv (j : Int)) rfl rfl)) ev_int)) (fun e H1 s1 => ?_) (fun e H1 s1 => ?_)
    · rw [if_pos (by have := of_decide_eq_true e; omega)] at k
      refine ev_if (H0 := H1) (R := isSv (if b.es[j].ol.isNone = true then ("first" : Str) else ("new" : Str))) (b := b.es[j].ol.isNone) (ev_bool (ev_test (ev_lt (i := oi b.es[j].ol) (j := 0) (ev_e3 (ev_en hj (ev_v rfl (up s1 hv)) (ev_v (R := isIv (j : Int)) rfl rfl))) ev_int)) oi_neg) (fun en => ?_) (fun en => ?_) H1 _ (Same.refl _) fun u H2 s2 _ eu => ?_
      · rw [en, if_pos rfl]
        exact ev_str
      · rw [en, if_neg Bool.false_ne_true]
        exact ev_str
      · cases eu
        exact k _ (s1.trans s2)
    · rw [if_neg (by have := of_decide_eq_false e; omega)] at k
      refine ev_if (H0 := H1) (R := isSv (if depth b.es j % 2 = 1 then ("minus" : Str) else ("plus" : Str))) (b := decide (((depth b.es j : Nat) : Int) % 2 = 1)) (ev_test (ev_eqi (i := ((depth b.es j : Nat) : Int) % 2) (j := 1) (ev_mod (by decide) (ev_ixL (n := j) dj (ev_v rfl (up s1 hd)) (ev_v (R := isIv (j : Int)) rfl rfl)) ev_int) ev_int)) (fun en => ?_) (fun en => ?_) H1 _ (Same.refl _) fun u H2 s2 _ eu => ?_
      · rw [if_pos (by have := of_decide_eq_true en; omega)]
        exact ev_str
      · rw [if_neg (by have := of_decide_eq_false en; omega)]
        exact ev_str
      · cases eu
        exact k _ (s1.trans s2)
theorem scMonthL : FnScope ["_law_house_here", "_law_book", "_law_at", "_law_deed", "_law_month_here", "_law_kind_here", "_law_place_here"] ["_law_house_here", "_law_book", "_law_at", "_law_deed"] (defScope sMonthL) := ⟨rfl, rfl, rfl, by decide +kernel, rfl, by decide +kernel, by decide +kernel⟩
theorem ok_monthL {f : Addr} {fd : FuncData} (F : Fun K "_law_month" "_law_month" sMonthL f fd) (cK : Cal P w K mg base CX0 "_law_kind" 1 ["_law_book", "_law_depths_here", "_law_at"] spKindL) (cD : Cal P w K mg base CX0 "_law_depths" 1 ["_law_book"] spDepths) (cP : Cal P w K mg base CX0 "_law_place" 2 ["_law_house_here", "_law_kind_here", "_law_state", "_law_deed"] spPlace) : FnOk P w K mg base CX0 3 f fd ["_law_house_here", "_law_book", "_law_at", "_law_deed"] spMonthL := by
  obtain ⟨fK, fdK, GK, mK, kK, bK⟩ := cK
  obtain ⟨fD, fdD, GD, mD, kD, bD⟩ := cD
  obtain ⟨fP, fdP, GP, mP, kP, bP⟩ := cP
  refine F.ok scMonthL (fun vs H Q E h => ?_) (fun cdv A outer s H vs Q E hr h => ?_)
  · obtain ⟨hv, v, h, b, j, d, rfl, _⟩ := h
    rfl
  · obtain ⟨hv, v, h, b, j, d, rfl, hh, hb, ok, wf, n, hj, hd, k⟩ := h
    have hr1 : Room 1 _ := hr.mono (by decide)
    refine ⟨_, (pss_cons (ps_par (i := 4) (j := 5) rfl scMonthL.nd rfl rfl (by decide) rfl rfl (pa_cons (pe_ix ix_tup (pe_ix ix_tup (pe_ix ix_tup (pv 1) pe_int (fun _ _ => rfl)) (pv 2) (fun _ _ => rfl)) pe_int (fun _ _ => rfl)) (pa_cons (pe_call GK hr1 rfl mK kK bK .nil pass0 (pa_cons (pv 1) (pa_cons (pe_call GD hr1 rfl mD kD bD .nil pass0 (pa_cons (pv 1) pa_nil)) (pa_cons (pv 2) pa_nil)))) pa_nil)) (by rfl))
  (pss_cons (ps_set (i := 6) scMonthL.nd rfl (Or.inl rfl) (pe_call GP hr rfl mP kP bP .nil pass0 (pa_cons (pv 0) (pa_cons (pv 5) (pa_cons (pe_ifExp (pt_cmpR op_eq (pv 4) (pe_ix ix_tup (pv 1) pe_int (fun _ _ => rfl)) (nomark _)) pe_str pe_str) (pa_cons (pv 3) pa_nil))))))
  (pss_cons (ps_if (pt_cmpR op_eq (pv 6) pe_str (nomark _)) (pss_one (ps_ret (pe_un un_neg pe_int))) pss_nil)
  (pss_one (ps_ret (pe_ifExp (pt_cmpR op_eq (pv 6) pe_str (nomark _)) (pe_ix ix_tup (pv 1) pe_int (fun _ _ => rfl)) (pv 4))))))), ?_⟩
    have mg_ : moAt b.es j = b.es[j].mo := by
      unfold moAt
      rw [List.getElem?_eq_getElem hj]
      rfl
    refine ev_e0 (H0 := H) (K := K) (ev_en hj (ev_v rfl hb) (ev_v (R := isIv (j : Int)) rfl rfl)) H _ (Same.refl _) fun u1 H1 s1 _ e1 => ?_
    cases e1
    refine ev_kindL (H0 := H1) wf hj (ev_v rfl (up s1 hb)) (evn_depths wf n (ev_v rfl (up s1 hb))).ev (ev_v (R := isIv (j : Int)) rfl rfl) H1 _ (Same.refl _) fun u2 H2 s2 _ e2 => ?_
    cases e2
    have S2 := s1.trans s2
    refine ⟨_, _, rfl, ?_⟩
    try dsimp only [gName, tSeq, tAsg, tNext]
    refine ev_place (H0 := H2) (h := h) (k := kindAt b.es j) (s := stateAt b j) (d := d) ok (kind_in _ _) (state_in _ _) hd (ev_v rfl (up S2 hh)) (ev_v rfl rfl) (ev_if (R := isSv (stateAt b j)) (b := decide (b.es[j].mo = b.m)) (ev_test (ev_eqi (ev_v (R := isIv b.es[j].mo) rfl rfl) (ev_bm (ev_v rfl (up S2 hb))))) (fun e => ?_) (fun e => ?_)) (ev_v rfl rfl) H2 _ (Same.refl _) fun u3 H3 s3 _ e3 => ?_
    · unfold stateAt
      rw [mg_, if_pos (of_decide_eq_true e)]
      exact ev_str
    · unfold stateAt
      rw [mg_, if_neg (of_decide_eq_false e)]
      exact ev_str
    · cases e3
      have S3 := S2.trans s3
      unfold monthFor at k
      try dsimp only [gName, tSeq, tAsg, tNext]
      cases ep : placeIn (kindAt b.es j) (stateAt b j) d h.rs with
      | none =>
        rw [ep] at k
        refine if_t (H0 := H3) (Same.refl _) (ev_bool (ev_test (ev_eqS (i := Str.empty) (j := "") (ev_v rfl rfl) ev_str)) (by decide +kernel)) fun H4 s4 => ?_
        exact ev_ng (H0 := H4) ev_int H4 _ (Same.refl _) fun u H5 s5 _ eu => by
          cases eu
          exact k _ ((S3.trans s4).trans s5)
      | some p =>
        have pin := place_in ok.2.2.2.1 ep
        have pne : ∀ p ∈ placeL, decide (p = ("" : Str)) = false := by decide +kernel
        rw [ep] at k
        refine if_f (H0 := H3) (Same.refl _) (ev_bool (ev_test (ev_eqS (i := p) (j := "") (ev_v rfl rfl) ev_str)) (pne p pin)) fun H4 s4 => ?_
        refine ev_if (H0 := H4) (R := isIv (if p = ("now" : Str) then b.m else moAt b.es j)) (b := decide (p = ("now" : Str))) (ev_test (ev_eqS (i := p) (ev_v rfl rfl) ev_str)) (fun e => ?_) (fun e => ?_) H4 _ (Same.refl _) fun u H5 s5 _ eu => ?_
        · rw [if_pos (of_decide_eq_true e)]
          exact ev_bm (ev_v rfl (up (S3.trans s4) hb))
        · rw [if_neg (of_decide_eq_false e), mg_]
          exact ev_v rfl rfl
        · cases eu
          exact k _ ((S3.trans s4).trans s5)
end
end V3

set_option Elab.async false
set_option linter.all false
set_option maxRecDepth 100000
namespace V3
open PySem L2 TL
abbrev sTakeL : Stmt := top 68
abbrev sRightL : Stmt := top 69
abbrev sDoL : Stmt := top 70
/-- something, or None -/
def isO {α : Type} (S : α → V → Hp → Prop) : Option α → V → Hp → Prop
  | some a => S a
  | none => fun v _ => v = .non
instance {α : Type} {S : α → V → Hp → Prop} [i : ∀ a, StL (S a)] {o : Option α} : StL (isO S o) := ⟨fun v H H' s r => by
  cases o with
  | none => exact r
  | some a => exact (i a).st v H H' s r⟩
abbrev OBk : Option Bk → V → Hp → Prop := isO LBk
def amtO (a : Int) : Option Int := if 0 < a then some a else none
/-- what is too little up the line -/
def cbF (es : List En) (all : Bool) (size : Int) : Nat → Option Nat → Nat → Bool
  | 0, _, _ => false
  | _ + 1, none, _ => false
  | f + 1, some x, t => (decide (t % 2 = 0) && ((decide (t = 0) || all) && decide (leftAt es x < size))) || cbF es all size f (taAt es x) (t + 1)
def cb (es : List En) (all : Bool) (size : Int) (o : Option Nat) (t : Nat) : Bool := match o with
  | some x => cbF es all size (x + 1) (some x) t
  | none => false
theorem cbF_none {es : List En} {all : Bool} {size : Int} : ∀ (f t : Nat), cbF es all size f none t = false
  | 0, _ => rfl
  | _ + 1, _ => rfl
theorem cbF_eq {es : List En} {all : Bool} {size : Int} (h : ∀ j t, taAt es j = some t → t < j) : ∀ (f g x t : Nat), x < f → x < g → cbF es all size f (some x) t = cbF es all size g (some x) t
  | 0, _, x, _, a, _ => absurd a (Nat.not_lt_zero _)
  | _ + 1, 0, x, _, _, b => absurd b (Nat.not_lt_zero _)
  | f + 1, g + 1, x, t, a, b => by
    unfold cbF
    cases e : taAt es x with
    | none => rw [cbF_none, cbF_none]
    | some y =>
      have l := h x y e
      rw [cbF_eq h f g y (t + 1) (by omega) (by omega)]
theorem cb_step {es : List En} {all : Bool} {size : Int} (h : ∀ j t, taAt es j = some t → t < j) (x t : Nat) : cb es all size (some x) t = ((decide (t % 2 = 0) && ((decide (t = 0) || all) && decide (leftAt es x < size))) || cb es all size (taAt es x) (t + 1)) := by
  show cbF es all size (x + 1) (some x) t = _
  unfold cbF
  cases e : taAt es x with
  | none => rw [cbF_none]; rfl
  | some y =>
    have l := h x y e
    show _ = (_ || cbF es all size (y + 1) (some y) (t + 1))
    rw [cbF_eq h x (y + 1) y (t + 1) l (by omega)]
/-- no deeper than three: the entry itself, and the one two targets above -/
theorem cb_three {es : List En} {all : Bool} {size : Int} (h : ∀ j t, taAt es j = some t → t < j) {j : Nat} (d : depth es j ≤ 3) : cb es all size (some j) 0 = (decide (leftAt es j < size) || (all && overAll es j size)) := by
  rw [cb_step h j 0]
  have e0 : (decide (0 % 2 = 0) && ((decide (0 = 0) || all) && decide (leftAt es j < size))) = decide (leftAt es j < size) := by simp
  rw [e0]
  congr 1
  unfold overAll
  cases e1 : taAt es j with
  | none => simp [cb]
  | some t1 =>
    rw [depth_some h e1] at d
    rw [cb_step h t1 1]
    show (false || cb es all size (taAt es t1) (1 + 1)) = (all && match (taAt es t1) with
      | some t => decide (leftAt es t < size)
      | none => false)
    rw [Bool.false_or]
    cases e2 : taAt es t1 with
    | none => simp [cb]
    | some t2 =>
      rw [depth_some h e2] at d
      rw [cb_step h t2 2]
      have e4 : cb es all size (taAt es t2) (2 + 1) = false := by
        cases e3 : taAt es t2 with
        | none => rfl
        | some t3 =>
          rw [depth_some h e3] at d
          rw [cb_step h t3 3]
          have e5 : cb es all size (taAt es t3) (3 + 1) = false := by
            cases e6 : taAt es t3 with
            | none => rfl
            | some t4 =>
              rw [depth_some h e6] at d
              omega
          rw [e5]
          rfl
      rw [e4]
      simp
def spTakeL : Sp := fun vs H Q _ => ∃ (hv v : V) (h : Hs) (b : Bk) (j : Nat) (a : Int), vs = [hv, v, .int (j : Int), .int a] ∧ HtA h hv H ∧ LBk b v H ∧ h.ok ∧ Wf b ∧ b.es.length ≤ 900 ∧ 0 ≤ a ∧ ∀ u H', Same H H' → OBk (takeB h b j (amtO a)) u H' → Q u H'
def spRightL : Sp := fun vs H Q _ => ∃ (hv v : V) (h : Hs) (b : Bk) (j : Nat) (a : Int), vs = [hv, v, .int (j : Int), .int a] ∧ HtA h hv H ∧ LBk b v H ∧ h.ok ∧ Wf b ∧ b.es.length ≤ 900 ∧ ∀ u H', Same H H' → OBk (rightB h b j a) u H' → Q u H'
def spDoL : Sp := fun vs H Q _ => ∃ (hv v m : V) (h : Hs) (b : Bk) (mv : Mv), vs = [hv, v, m] ∧ HtA h hv H ∧ LBk b v H ∧ TupAt H m mv ∧ h.ok ∧ Wf b ∧ b.es.length ≤ 900 ∧ mv.ok ∧ ∀ u H', Same H H' → OBk (doB h b mv) u H' → Q u H'
section
variable {K : PySem.W.Frag} {σ : L2.St} {ta tb tc td te : TE} {H0 : Hp} {h : Hs} {b : Bk} {j : Nat} {es fs : List En} {mo am : Int} {o1 o2 : Option Nat}
/-- a tuple of entries more behind -/
theorem ev_catEs (hf : fs ≠ []) (n : es.length + fs.length ≤ 1000) (ha : EvV (Same H0) σ ta (LEs es)) (hb : EvV (Same H0) σ tb (LEs fs)) : EvV (Same H0) σ (tOp (rCatA K) ta tb) (LEs (es ++ fs)) :=
  ev_o ha hb fun x y H Q w hx hy k => by
    obtain ⟨A, us, rfl, hA, l⟩ := hx
    obtain ⟨B, vs, rfl, hB, m⟩ := hy
    have vne : vs ≠ [] := fun e => hf (List.length_eq_zero_iff.mp (by rw [← m.1, e]; rfl))
    refine ⟨A, B, us, vs, rfl, rfl, SqT.of hA, SqT.of hB, Nat.le_trans (by rw [l.1, m.1]; exact n) (by decide), fun e => ?_, fun _ e => absurd e vne, fun _ _ p np => ?_⟩
    · have z : es = [] := List.length_eq_zero_iff.mp (by rw [← l.1, e]; rfl)
      refine k _ H (Same.refl H) ⟨B, vs, rfl, hB, ?_⟩
      rw [z]
      exact m
    · have s4 : Same H (upd H p (.tup (us ++ vs))) := Same.new np
      exact k _ _ s4 ⟨p, _, rfl, upd_same, (l.app m).up s4⟩
/-- an entry, written -/
theorem ev_mkEn (h1 : EvV (Same H0) σ ta (isIv mo)) (h2 : EvV (Same H0) σ tb (isIv am)) (h3 : EvV (Same H0) σ tc (isIv (oi o1))) (h4 : EvV (Same H0) σ td (isIv (oi o2))) : EvV (Same H0) σ (tTup (tCons ta (tCons tb (tCons tc (tCons td tNil))))) (LEn ⟨mo, am, o1, o2⟩) := fun H Q w k =>
  h1 H _ w fun x1 H1 s1 w1 e1 => h2 H1 _ w1 fun x2 H2 s2 w2 e2 => h3 H2 _ w2 fun x3 H3 s3 w3 e3 => h4 H3 _ w3 fun x4 H4 s4 w4 e4 => ⟨(by show 4 ≤ sizeLine; decide), fun p np => by
    cases e1
    cases e2
    cases e3
    cases e4
    have s5 : Same H4 (upd H4 p (.tup [.int mo, .int am, .int (oi o1), .int (oi o2)])) := Same.new np
    exact k _ _ ((((s1.trans s2).trans s3).trans s4).trans s5) (w4.trans s5) ⟨p, rfl, upd_same⟩⟩
theorem ev_mkBk {m : Int} (h1 : EvV (Same H0) σ ta (LEs es)) (h2 : EvV (Same H0) σ tb (isIv m)) : EvV (Same H0) σ (tTup (tCons ta (tCons tb tNil))) (LBk ⟨es, m⟩) := ev_p2 h1 h2
end
/-- a list of entries, or none of them -/
theorem ev_neLe {K : PySem.W.Frag} {σ : L2.St} {ta : TE} {H0 : Hp} {fs : List En} (ha : EvV (Same H0) σ ta (isL LEn fs)) : EvV (Same H0) σ (tOp (rNeD K) ta (tLst tNil)) (isBv (!decide (fs = []))) := fun H Q w k =>
  ha H _ w fun x H1 s1 w1 hx => by
    obtain ⟨D, us, rfl, hD, l⟩ := hx
    refine ⟨(by show (0 : Nat) ≤ sizeLine; exact Nat.zero_le _), fun p np => ?_⟩
    have s2 : Same H1 (upd H1 p (.lst [])) := Same.new np
    have dp : ∀ {fs : List En} {us : List V}, Ls (fun u a => LEn a u H1) us fs → DpAll K (upd H1 p (.lst [])) us (fs.map fun e => PyData.tuple [.int e.mo, .int e.am, .int (oi e.ta), .int (oi e.ol)]) := fun {fs} => by
      induction fs with
      | nil => intro us l; rw [l.nil']; exact .nil
      | cons e r ih =>
        intro us l
        obtain ⟨u, r2, rfl, ⟨q, rfl, hq⟩, l2⟩ := l.uncons
        exact .cons (.tup (SqT.of (s2 _ _ hq)) (.cons (.int _) (.cons (.int _) (.cons (.int _) (.cons (.int _) .nil))))) (ih l2)
    have lay : ∀ fs : List En, PyData.canLayAll0 (fs.map fun e => PyData.tuple [.int e.mo, .int e.am, .int (oi e.ta), .int (oi e.ol)]) = true := fun fs => lay_map fun e _ => by simp [PyData.canLay0, PyData.canLayAll0]
    have dep : ∀ fs : List En, PyData.depthAll (fs.map fun e => PyData.tuple [.int e.mo, .int e.am, .int (oi e.ta), .int (oi e.ol)]) ≤ 1 := fun fs => dep_map (fun e => by simp [PyData.depth, PyData.depthAll]) fs
    refine ⟨_, .list [], .lst (SqL.of (s2 _ _ hD)) (dp l), .lst (SqL.of upd_same) .nil, ?_, by decide +kernel, k _ _ (s1.trans s2) (w1.trans s2) ?_⟩
    · unfold SeqAt.shaped
      have z : (PyData.list (fs.map fun e => PyData.tuple [.int e.mo, .int e.am, .int (oi e.ta), .int (oi e.ol)])).canLay0 = true := by
        simp only [PyData.canLay0]
        exact lay fs
      have y : (PyData.list (fs.map fun e => PyData.tuple [.int e.mo, .int e.am, .int (oi e.ta), .int (oi e.ol)])).depth ≤ 64 := by
        have := dep fs
        simp only [PyData.depth]
        omega
      rw [z, decide_eq_true y]
      rfl
    · cases fs with
      | nil => rfl
      | cons e r => rfl
theorem ch_dec {z : Str} : decide (z = ("all" : Str)) = decide (z = "all") := rfl
section
variable {P : Program} {w : World} {K : PySem.W.Frag} {mg : Str → Option Value} {base : Heap}
theorem scTakeL : FnScope ["_law_house_here", "_law_book", "_law_at", "_law_amount", "_law_lefts_here", "_law_depths_here", "_law_month_here", "_law_size", "_law_above", "_law_turn"] ["_law_house_here", "_law_book", "_law_at", "_law_amount"] (defScope sTakeL) := ⟨rfl, rfl, rfl, by decide +kernel, rfl, by decide +kernel, by decide +kernel⟩
theorem ok_takeL {f : Addr} {fd : FuncData} (F : Fun K "_law_take" "_law_take" sTakeL f fd) (T : BltV mg) (cL : Cal P w K mg base CX0 "_law_lefts" 1 ["_law_book"] spLefts) (cD : Cal P w K mg base CX0 "_law_depths" 1 ["_law_book"] spDepths) (cM : Cal P w K mg base CX0 "_law_month" 3 ["_law_house_here", "_law_book", "_law_at", "_law_deed"] spMonthL) : FnOk P w K mg base CX0 4 f fd ["_law_house_here", "_law_book", "_law_at", "_law_amount"] spTakeL := by
  obtain ⟨fL, fdL, GL, mL, kL, bL⟩ := cL
  obtain ⟨fD, fdD, GD, mD, kD, bD⟩ := cD
  obtain ⟨fM, fdM, GM, mM, kM, bM⟩ := cM
  refine F.ok scTakeL (fun vs H Q E h => ?_) (fun cdv A outer s H vs Q E hr h => ?_)
  · obtain ⟨hv, v, h, b, j, a, rfl, _⟩ := h
    rfl
  · obtain ⟨hv, v, h, b, j, a, rfl, hh, hb, ok, wf, n, a0, k⟩ := h
    have hr1 : Room 1 _ := hr.mono (by decide)
    refine ⟨_, (pss_cons (ps_if (pt_not (pt_chain op_le op_lt pe_int (pv 2) (pe_callB call_len_seq (by rfl) T.len PySem.boot_len (pa_cons (pe_ix ix_tup (pv 1) pe_int (fun _ _ => rfl)) pa_nil)))) (pss_one (ps_ret pe_non)) pss_nil)
  (pss_cons (ps_par (i := 4) (j := 5) rfl scTakeL.nd rfl rfl (by decide) rfl rfl (pa_cons (pe_call GL hr1 rfl mL kL bL .nil pass0 (pa_cons (pv 1) pa_nil)) (pa_cons (pe_call GD hr1 rfl mD kD bD .nil pass0 (pa_cons (pv 1) pa_nil)) pa_nil)) (by rfl))
  (pss_cons (ps_if (PW.pt (pw_or (pt_cmpR op_ge (pe_ix ix_list (pv 5) (pv 2) (fun _ _ => rfl)) (pe_ix ix_tup (pv 0) pe_int (fun _ _ => rfl)) (nomark _)) (pw_or1 (pt_cmpR op_le (pe_ix ix_list (pv 4) (pv 2) (fun _ _ => rfl)) pe_int (nomark _))))) (pss_one (ps_ret pe_non)) pss_nil)
  (pss_cons (ps_set (i := 6) scTakeL.nd rfl (Or.inl rfl) (pe_call GM hr rfl mM kM bM .nil pass0 (pa_cons (pv 0) (pa_cons (pv 1) (pa_cons (pv 2) (pa_cons (pe_ifExp (pt_cmpR op_gt (pv 3) pe_int (nomark _)) pe_str pe_str) pa_nil))))))
  (pss_cons (ps_set (i := 7) scTakeL.nd rfl (Or.inl rfl) (pe_ifExp (pt_cmpR op_gt (pv 3) pe_int (nomark _)) (pv 3) (pe_ix ix_list (pv 4) (pv 2) (fun _ _ => rfl))))
  (pss_cons (ps_par (i := 8) (j := 9) rfl scTakeL.nd rfl rfl (by decide) rfl rfl (pa_cons (pv 2) (pa_cons pe_int pa_nil)) (by rfl))
  (pss_cons (ps_while PassesOwn.never (pt_cmpR op_ge (pv 8) pe_int (nomark _))
  (pss_cons (ps_if (PW.pt (pw_and (pt_cmpR op_eq (pe_op op_mod (pv 9) pe_int) pe_int (nomark _)) (pw_and (PW.pt (pw_or (pt_cmpR op_eq (pv 9) pe_int (nomark _)) (pw_or1 (pt_cmpR op_eq (pe_ix ix_tup (pv 0) pe_int (fun _ _ => rfl)) pe_str (nomark _))))) (pw_and1 (pt_cmpR op_lt (pe_ix ix_list (pv 4) (pv 8) (fun _ _ => rfl)) (pv 7) (nomark _)))))) (pss_one (ps_ret pe_non)) pss_nil)
  (pss_one (ps_par (i := 8) (j := 9) rfl scTakeL.nd rfl rfl (by decide) rfl rfl (pa_cons (pe_ix ix_tup (pe_ix ix_tup (pe_ix ix_tup (pv 1) pe_int (fun _ _ => rfl)) (pv 8) (fun _ _ => rfl)) pe_int (fun _ _ => rfl)) (pa_cons (pe_op op_add (pv 9) pe_int) pa_nil)) (by rfl)))))
  (pss_one (ps_ret (pe_ifExp (pt_cmpR op_lt (pv 6) pe_int (nomark _)) pe_non (pe_tup (pa_cons (pe_op op_catA (pe_ix ix_tup (pv 1) pe_int (fun _ _ => rfl)) (pe_tup (pa_cons (pe_tup (pa_cons (pv 6) (pa_cons (pv 7) (pa_cons (pv 2) (pa_cons (pe_un un_neg pe_int) pa_nil))))) pa_nil))) (pa_cons (pe_ix ix_tup (pv 1) pe_int (fun _ _ => rfl)) pa_nil))))))))))))), ?_⟩
    refine if_b (H0 := H) (Same.refl _) (ev_notB (ev_test (ev_chain (i := (j : Int)) ev_int (ev_v rfl rfl) (ev_lenU (ev_es (ev_v rfl hb)))))) (fun e H1 s1 => ?_) (fun e H1 s1 => ?_)
    · have hj : ¬ j < b.es.length := fun q => by
        rw [decide_eq_true (by omega), decide_eq_true (by omega)] at e
        cases e
      refine k _ _ s1 ?_
      unfold takeB
      rw [if_neg hj]
      exact rfl
    have hj : j < b.es.length := by
      by_cases q : j < b.es.length
      · exact q
      · rw [decide_eq_false (p := (j : Int) < (b.es.length : Int)) (by omega), Bool.and_false] at e
        cases e
    have hh1 := up s1 hh
    have hb1 := up s1 hb
    try dsimp only [gName, tSeq, tAsg, tNext]
    refine evn_lefts (H0 := H1) wf n (ev_v rfl hb1) H1 _ (Same.refl _) fun L us2 H2 nL s2 hL l2 => ?_
    refine evn_depths (H0 := H2) wf n (ev_v rfl (up s2 hb1)) H2 _ (Same.refl _) fun D us3 H3 nD s3 hD l3 => ?_
    refine ⟨_, _, rfl, ?_⟩
    have hL3 : isIs (lefts b.es) (.ref L) H3 := ⟨L, us2, rfl, s3 _ _ hL, l2⟩
    have hD3 : isIs (depthsB b.es) (.ref D) H3 := ⟨D, us3, rfl, hD, l3⟩
    have hh3 := up (s2.trans s3) hh1
    have hb3 := up (s2.trans s3) hb1
    have S3 := s1.trans (s2.trans s3)
    clear hh1 hb1 l2 l3 hL hD
    have la : (lefts b.es)[j]? = some (leftAt b.es j) := getD_at (by rw [lefts_len]; exact hj)
    try dsimp only [gName, tSeq, tAsg, tNext]
    refine if_b (H0 := H3) (Same.refl _) (ev_orB (ev_test (ev_ge (i := ((depth b.es j : Nat) : Int)) (j := h.d) (ev_ixL (n := j) (depthsB_at hj) (ev_v rfl hD3) (ev_v (R := isIv (j : Int)) rfl rfl)) (ev_ht0 (ev_v rfl hh3)))) fun _ => ev_test (ev_le (i := leftAt b.es j) (j := 0) (ev_ixL (n := j) la (ev_v rfl hL3) (ev_v (R := isIv (j : Int)) rfl rfl)) ev_int)) (fun e2 H4 s4 => ?_) (fun e2 H4 s4 => ?_)
    · refine k _ _ (S3.trans s4) ?_
      unfold takeB
      rw [if_pos hj, if_pos (by
        rcases Bool.or_eq_true_iff.mp e2 with q | q
        · exact .inl (of_decide_eq_true q)
        · exact .inr (of_decide_eq_true q))]
      exact rfl
    have nd : ¬ (h.d ≤ (depth b.es j : Int) ∨ leftAt b.es j ≤ 0) := fun q => by
      rw [Bool.or_eq_false_iff] at e2
      rcases q with q | q
      · exact of_decide_eq_false e2.1 q
      · exact of_decide_eq_false e2.2 q
    have d3 : depth b.es j ≤ 3 := by
      have := ok.2.1
      omega
    have hL4 := up s4 hL3
    have hh4 := up s4 hh3
    have hb4 := up s4 hb3
    have S4 := S3.trans s4
    clear hL3 hh3 hb3 hD3
    try dsimp only [gName, tSeq, tAsg, tNext]
    -- the month
    have ds : ∀ {H5 : Hp} {σ : L2.St}, σ[3]? = some (some (.int a)) → EvV (Same H5) σ (tIf (tTest (tOp (rI0 fun i j => .bl (decide (j < i))) (tVar 3) (tC (.int 0)))) (tC (.str "part")) (tC (.str "whole"))) (isSv (if (amtO a).isNone = true then "whole" else "part")) := fun e => ev_if (b := decide (0 < a)) (ev_test (ev_gt (i := a) (j := 0) (ev_v e rfl) ev_int)) (fun q => by
        unfold amtO
        rw [if_pos (of_decide_eq_true q)]
        exact ev_str) (fun q => by
        unfold amtO
        rw [if_neg (of_decide_eq_false q)]
        exact ev_str)
    have dd : (if (amtO a).isNone = true then ("whole" : Str) else ("part" : Str)) ∈ deedL := by split <;> decide +kernel
    refine ev_monthL (H0 := H4) ok wf n hj dd (ev_v rfl hh4) (ev_v rfl hb4) (ev_v (R := isIv (j : Int)) rfl rfl) (ds rfl) H4 _ (Same.refl _) fun u5 H5 s5 _ e5 => ?_
    cases e5
    have hL5 := up s5 hL4
    have hh5 := up s5 hh4
    have hb5 := up s5 hb4
    have S5 := S4.trans s5
    clear hL4 hh4 hb4
    try dsimp only [gName, tSeq, tAsg, tNext]
    -- the size
    refine ev_if (H0 := H5) (R := isIv ((amtO a).getD (leftAt b.es j))) (b := decide (0 < a)) (ev_test (ev_gt (i := a) (j := 0) (ev_v rfl rfl) ev_int)) (fun q => ?_) (fun q => ?_) H5 _ (Same.refl _) fun u6 H6 s6 _ e6 => ?_
    · unfold amtO
      rw [if_pos (of_decide_eq_true q)]
      exact ev_v rfl rfl
    · unfold amtO
      rw [if_neg (of_decide_eq_false q)]
      exact ev_ixL (n := j) la (ev_v rfl hL5) (ev_v (R := isIv (j : Int)) rfl rfl)
    cases e6
    have hL6 := up s6 hL5
    have hh6 := up s6 hh5
    have hb6 := up s6 hb5
    have S6 := S5.trans s6
    clear hL5 hh5 hb5
    unfold takeB at k
    rw [if_pos hj, if_neg nd] at k
    generalize hsz : (amtO a).getD (leftAt b.es j) = size at k ⊢
    generalize hmo : monthFor h b j (if (amtO a).isNone = true then ("whole" : Str) else ("part" : Str)) = mo at k ⊢
    refine ⟨_, rfl, ⟨_, _, rfl, ?_⟩⟩
    try dsimp only [gName, tSeq, tAsg, tNext]
    have c3 := cb_three (all := decide (h.ch = "all")) (size := size) wf.ta d3
    -- up the line
    refine ⟨fun m σ H' => ∃ (o : Option Nat) (t : Nat), σ = [some hv, some v, some (.int (j : Int)), some (.int a), some (.ref L), some (.ref D), some (.int (oM mo)), some (.int size), some (.int (oi o)), some (.int (t : Int))] ∧ Same H6 H' ∧ (∀ x, o = some x → x < b.es.length) ∧ cb b.es (decide (h.ch = "all")) size o t = cb b.es (decide (h.ch = "all")) size (some j) 0 ∧ m = (oi o + 1).toNat, ⟨_, some j, 0, rfl, Same.refl _, (fun x q => by cases q; exact hj), rfl, rfl⟩, ?_⟩
    · rintro m σ H7 ⟨o, t, rfl, s7, ox, ce, rfl⟩
      refine ev_bool (ev_test (ev_ge (H0 := H7) (i := oi o) (j := 0) (ev_v rfl rfl) ev_int)) oi_nn H7 _ (Same.refl _) fun H8 s8 _ => ?_
      have S8 := s7.trans s8
      cases o with
      | none =>
        refine iteF ?_
        have nbad : (decide (leftAt b.es j < size) || (decide (h.ch = "all") && overAll b.es j size)) = false := by
          rw [← c3, ← ce]
          rfl
        rw [Bool.or_eq_false_iff] at nbad
        refine ev_if (H0 := H8) (R := OBk (match mo with
          | none => none
          | some mo => if leftAt b.es j < size then none else if h.ch = "all" ∧ overAll b.es j size = true then none else some ⟨b.es ++ [⟨mo, size, some j, none⟩], b.m⟩)) (b := decide (oM mo < 0)) (ev_test (ev_lt (i := oM mo) (j := 0) (ev_v rfl rfl) ev_int)) (fun q => ?_) (fun q => ?_) H8 _ (Same.refl _) fun u9 H9 s9 _ e9 => ?_
        · cases mo with
          | none => exact ev_c
          | some m =>
            have z := (month_ok wf hmo).1
            exact absurd (of_decide_eq_true q) (by show ¬ m < 0; omega)
        · cases mo with
          | none => exact absurd (of_decide_eq_false q) (by show ¬ ¬ (-1 : Int) < 0; decide)
          | some m =>
            have z1 : ¬ leftAt b.es j < size := of_decide_eq_false nbad.1
            have z2 : ¬ (h.ch = "all" ∧ overAll b.es j size = true) := fun q => by
              have y := nbad.2
              rw [decide_eq_true q.1, q.2] at y
              cases y
            show EvV _ _ _ (OBk (if leftAt b.es j < size then none else if h.ch = "all" ∧ overAll b.es j size = true then none else some ⟨b.es ++ [⟨m, size, some j, none⟩], b.m⟩))
            rw [if_neg z1, if_neg z2]
            exact ev_mkBk (ev_catEs (fs := [⟨m, size, some j, none⟩]) (by simp) (by show _ + 1 ≤ 1000; omega) (ev_es (ev_v rfl (up S8 hb6))) (ev_tupU (evl_cons (ev_mkEn (o1 := some j) (o2 := none) (ev_v rfl rfl) (ev_v rfl rfl) (ev_v rfl rfl) (ev_ng ev_int)) evl_nil) (by show 1 ≤ 1000; decide))) (ev_bm (ev_v rfl (up S8 hb6)))
        · exact k _ _ ((S6.trans S8).trans s9) (by cases mo <;> exact e9)
      | some x =>
        refine iteT ⟨_, fun _ _ z => z, ?_⟩
        have xl := ox x rfl
        have lx : (lefts b.es)[x]? = some (leftAt b.es x) := getD_at (by rw [lefts_len]; exact xl)
        rw [cb_step wf.ta x t] at ce
        refine if_b (H0 := H8) (Same.refl _) (ev_andB (p := decide ((t : Int) % 2 = 0)) (q := (decide (h.ch = "all") || decide ((t : Int) = 0)) && decide (leftAt b.es x < size)) (ev_test (ev_eqi (i := (t : Int) % 2) (j := 0) (ev_mod (by decide) (ev_v rfl rfl) ev_int) ev_int)) fun _ => ev_andB (ev_bool (ev_orB (p := decide ((t : Int) = 0)) (q := decide (h.ch = "all")) (ev_test (ev_eqi (i := (t : Int)) (j := 0) (ev_v rfl rfl) ev_int)) fun _ => ev_test (ev_eqS (i := h.ch) (ev_ht1 (ev_v rfl (up S8 hh6))) ev_str)) (Bool.or_comm _ _)) fun _ => ev_test (ev_lt (i := leftAt b.es x) (j := size) (ev_ixL (n := x) lx (ev_v rfl (up S8 hL6)) (ev_v (R := isIv (x : Int)) rfl rfl)) (ev_v rfl rfl))) (fun q H9 s9 => ?_) (fun q H9 s9 => ?_)
        · have bad : (decide (leftAt b.es j < size) || (decide (h.ch = "all") && overAll b.es j size)) = true := by
            rw [← c3, ← ce]
            have z : (decide (t % 2 = 0) && ((decide (t = 0) || decide (h.ch = "all")) && decide (leftAt b.es x < size))) = true := by
              rw [← q, Bool.or_comm (decide (t = 0))]
              congr 1
              · exact decide_eq_decide.mpr (by omega)
              · congr 2
                exact decide_eq_decide.mpr (by omega)
            rw [z, Bool.true_or]
          refine k _ _ ((S6.trans S8).trans s9) ?_
          cases mo with
          | none => exact rfl
          | some m =>
            show OBk (if leftAt b.es j < size then none else if h.ch = "all" ∧ overAll b.es j size = true then none else some ⟨b.es ++ [⟨m, size, some j, none⟩], b.m⟩) _ _
            by_cases z1 : leftAt b.es j < size
            · rw [if_pos z1]
              exact rfl
            · rw [if_neg z1]
              rw [decide_eq_false z1, Bool.false_or, Bool.and_eq_true] at bad
              rw [if_pos ⟨of_decide_eq_true bad.1, bad.2⟩]
              exact rfl
        · have S9 := S8.trans s9
          have tg := taAt_get xl
          try dsimp only [gName, tSeq, tAsg, tNext]
          refine ev_e2 (H0 := H9) (K := K) (ev_en xl (ev_v rfl (up S9 hb6)) (ev_v (R := isIv (x : Int)) rfl rfl)) H9 _ (Same.refl _) fun u10 H10 s10 _ e10 => ?_
          cases e10
          refine ev_ad (H0 := H10) (i := (t : Int)) (j := 1) (ev_v rfl rfl) ev_int H10 _ (Same.refl _) fun u11 H11 s11 _ e11 => ?_
          cases e11
          refine ⟨_, _, rfl, ⟨_, ?_, b.es[x].ta, t + 1, rfl, (s7.trans s8).trans ((s9.trans s10).trans s11), fun y ey => ?_, ?_, rfl⟩⟩
          · show (oi b.es[x].ta + 1).toNat < ((x : Int) + 1).toNat
            cases ey : b.es[x].ta with
            | none => show (-1 + 1 : Int).toNat < _; omega
            | some y =>
              rw [ey] at tg
              have := wf.ta x y tg
              show ((y : Int) + 1).toNat < _
              omega
          · rw [ey] at tg
            have := wf.ta x y tg
            omega
          · rw [← ce, ← tg]
            have z : (decide (t % 2 = 0) && ((decide (t = 0) || decide (h.ch = "all")) && decide (leftAt b.es x < size))) = false := by
              rw [← q, Bool.or_comm (decide (t = 0))]
              congr 1
              · exact decide_eq_decide.mpr (by omega)
              · congr 2
                exact decide_eq_decide.mpr (by omega)
            rw [z, Bool.false_or]
theorem scRightL : FnScope ["_law_house_here", "_law_book", "_law_at", "_law_amount", "_law_month_here", "_law_entry"] ["_law_house_here", "_law_book", "_law_at", "_law_amount"] (defScope sRightL) := ⟨rfl, rfl, rfl, by decide +kernel, rfl, by decide +kernel, by decide +kernel⟩
theorem scDoL : FnScope ["_law_house_here", "_law_book", "_law_move"] ["_law_house_here", "_law_book", "_law_move"] (defScope sDoL) := ⟨rfl, rfl, rfl, by decide +kernel, rfl, by decide +kernel, by decide +kernel⟩
theorem ok_rightL {f : Addr} {fd : FuncData} (F : Fun K "_law_right" "_law_right" sRightL f fd) (T : BltV mg) (cM : Cal P w K mg base CX0 "_law_month" 3 ["_law_house_here", "_law_book", "_law_at", "_law_deed"] spMonthL) : FnOk P w K mg base CX0 4 f fd ["_law_house_here", "_law_book", "_law_at", "_law_amount"] spRightL := by
  obtain ⟨fM, fdM, GM, mM, kM, bM⟩ := cM
  refine F.ok scRightL (fun vs H Q E h => ?_) (fun cdv A outer s H vs Q E hr h => ?_)
  · obtain ⟨hv, v, h, b, j, a, rfl, _⟩ := h
    rfl
  · obtain ⟨hv, v, h, b, j, a, rfl, hh, hb, ok, wf, n, k⟩ := h
    refine ⟨_, (pss_cons (ps_if (PW.pt (pw_or (pt_not (pt_chain op_le op_lt pe_int (pv 2) (pe_callB call_len_seq (by rfl) T.len PySem.boot_len (pa_cons (pe_ix ix_tup (pv 1) pe_int (fun _ _ => rfl)) pa_nil)))) (pw_or1 (pt_cmpR op_eq (pe_ix ix_tup (pv 0) pe_int (fun _ _ => rfl)) pe_int (nomark _))))) (pss_one (ps_ret pe_non)) pss_nil)
  (pss_cons (ps_if (pt_cmpR (op_neD hr.units) (pe_lc (own := [("_law_entry", 5)]) (g := gName 5) (tt := tTest (tOp rEq (tOp (rIxT K) (tVar 5) (tC (.int 2))) (tVar 2))) (te := tVar 5) (by rfl) scRightL.nd (pi_tup (pe_ix ix_tup (pv 1) pe_int (fun _ _ => rfl))) (blkOk_by (own := [("_law_entry", 5)]) (N := ["_law_house_here", "_law_book", "_law_at", "_law_amount", "_law_month_here", "_law_entry"]) (sc := defScope sRightL) (by decide +kernel)) (fun _ _ _ _ _ => (pg_name (i := 5) scRightL.nd rfl (Or.inl rfl))) (fun _ _ _ _ _ => pts_one (pt_cmpR op_eq (pe_ix ix_tup (pv 5) pe_int (fun _ _ => rfl)) (pv 2) (nomark _))) (fun _ _ _ _ _ => (pv 5))) (pe_lst pa_nil) (nomark _)) (pss_one (ps_ret pe_non)) pss_nil)
  (pss_cons (ps_set (i := 4) scRightL.nd rfl (Or.inl rfl) (pe_call GM hr rfl mM kM bM .nil pass0 (pa_cons (pv 0) (pa_cons (pv 1) (pa_cons (pv 2) (pa_cons pe_str pa_nil))))))
  (pss_cons (ps_if (pt_cmpR op_lt (pv 4) pe_int (nomark _)) (pss_one (ps_ret pe_non)) pss_nil)
  (pss_one (ps_ret (pe_tup (pa_cons (pe_op op_catA (pe_ix ix_tup (pv 1) pe_int (fun _ _ => rfl)) (pe_tup (pa_cons (pe_tup (pa_cons (pv 4) (pa_cons (pe_ix ix_tup (pe_ix ix_tup (pe_ix ix_tup (pv 1) pe_int (fun _ _ => rfl)) (pv 2) (fun _ _ => rfl)) pe_int (fun _ _ => rfl)) (pa_cons (pv 2) (pa_cons (pe_un un_neg pe_int) pa_nil))))) (pa_cons (pe_tup (pa_cons (pv 4) (pa_cons (pv 3) (pa_cons (pe_un un_neg pe_int) (pa_cons (pv 2) pa_nil))))) pa_nil)))) (pa_cons (pe_ix ix_tup (pv 1) pe_int (fun _ _ => rfl)) pa_nil))))))))), ?_⟩
    unfold rightB at k
    refine if_b (H0 := H) (Same.refl _) (ev_orB (ev_notB (ev_test (ev_chain (i := (j : Int)) ev_int (ev_v rfl rfl) (ev_lenU (ev_es (ev_v rfl hb)))))) fun _ => ev_test (ev_eqi (i := h.d) (j := 0) (ev_ht0 (ev_v rfl hh)) ev_int)) (fun e H1 s1 => ?_) (fun e H1 s1 => ?_)
    · refine k _ _ s1 ?_
      by_cases hj : j < b.es.length
      · rw [if_pos hj, if_pos (.inl (by
          rw [decide_eq_true (by omega), decide_eq_true (by omega)] at e
          exact of_decide_eq_true e))]
        exact rfl
      · rw [if_neg hj]
        exact rfl
    rw [Bool.or_eq_false_iff] at e
    have hj : j < b.es.length := by
      by_cases q : j < b.es.length
      · exact q
      · have z := e.1
        rw [decide_eq_false (p := (j : Int) < (b.es.length : Int)) (by omega), Bool.and_false] at z
        cases z
    have d0 : ¬ h.d = 0 := of_decide_eq_false e.2
    rw [if_pos hj] at k
    have hh1 := up s1 hh
    have hb1 := up s1 hb
    try dsimp only [gName, tSeq, tAsg, tNext]
    -- is it opposed?
    refine if_b (H0 := H1) (b := !decide ((b.es.filter fun e => decide (e.ta = some j)) = [])) (Same.refl _) (ev_test (ev_neLe (ev_to (ev_lc (S' := LEn) (g := gName 5) (fun e : En => decide (e.ta = some j)) (fun e => e) (evi_tupU (ev_es (ev_v rfl hb1))) (by omega) (fun e he x H2 w r K2 k2 => ?_)) (fun v H q => by rw [List.map_id'] at q; exact q)))) (fun e H2 s2 => ?_) (fun e H2 s2 => ?_)
    · refine k2 _ _ (Same.refl _) rfl (ev_bool (ev_test (ev_eqi (i := oi e.ta) (j := (j : Int)) (ev_e2 (ev_v rfl r)) (ev_v rfl rfl))) ?_) fun _ => ev_v rfl r
      cases et : e.ta with
      | none => exact (decide_eq_false (by show ¬ (-1 : Int) = j; omega)).trans (decide_eq_false (fun q => by cases q)).symm
      | some t => exact decide_eq_decide.mpr ⟨fun q => by have q : (t : Int) = j := q; congr 1; omega, fun q => by cases q; rfl⟩
    · refine k _ _ (s1.trans s2) ?_
      have ex : ∃ x ∈ b.es, x.ta = some j := by
        cases f : b.es.filter fun e => decide (e.ta = some j) with
        | nil => rw [f] at e; cases e
        | cons x r =>
          have m : x ∈ b.es.filter fun e => decide (e.ta = some j) := by rw [f]; exact List.mem_cons_self ..
          obtain ⟨m1, m2⟩ := List.mem_filter.mp m
          exact ⟨x, m1, of_decide_eq_true m2⟩
      rw [if_pos (.inr ex)]
      exact rfl
    have nx : ¬ (h.d = 0 ∨ ∃ x ∈ b.es, x.ta = some j) := fun q => by
      rcases q with q | ⟨x, hx, ex⟩
      · exact d0 q
      · have m : x ∈ b.es.filter fun e => decide (e.ta = some j) := List.mem_filter.mpr ⟨hx, decide_eq_true ex⟩
        cases f : b.es.filter fun e => decide (e.ta = some j) with
        | nil => rw [f] at m; cases m
        | cons x r => rw [f] at e; cases e
    rw [if_neg nx] at k
    have S2 := s1.trans s2
    have hh2 := up s2 hh1
    have hb2 := up s2 hb1
    try dsimp only [gName, tSeq, tAsg, tNext]
    refine ev_monthL (H0 := H2) (d := "right") ok wf n hj (by decide +kernel) (ev_v rfl hh2) (ev_v rfl hb2) (ev_v (R := isIv (j : Int)) rfl rfl) ev_str H2 _ (Same.refl _) fun u3 H3 s3 _ e3 => ?_
    cases e3
    have hb3 := up s3 hb2
    have S3 := S2.trans s3
    generalize hmo : monthFor h b j "right" = mo at k ⊢
    try dsimp only [gName, tSeq, tAsg, tNext]
    cases mo with
    | none => exact if_t (H0 := H3) (Same.refl _) (ev_bool (ev_test (ev_lt (i := -1) (j := 0) (ev_v rfl rfl) ev_int)) rfl) fun H4 s4 => k _ _ (S3.trans s4) rfl
    | some m =>
      have z := (month_ok wf hmo).1
      refine if_f (H0 := H3) (Same.refl _) (ev_bool (ev_test (ev_lt (i := m) (j := 0) (ev_v rfl rfl) ev_int)) (decide_eq_false (by omega))) fun H4 s4 => ?_
      have ea : amAt b.es j = b.es[j].am := by
        unfold amAt
        rw [List.getElem?_eq_getElem hj]
        rfl
      have hb4 := up s4 hb3
      refine ev_mkBk (H0 := H4) (ev_catEs (fs := [⟨m, amAt b.es j, some j, none⟩, ⟨m, a, none, some j⟩]) (by simp) (by show _ + 2 ≤ 1000; omega) (ev_es (ev_v rfl hb4)) (ev_tupU (evl_cons (ev_mkEn (o1 := some j) (o2 := none) (ev_v rfl rfl) (by rw [ea]; exact ev_e1 (ev_en hj (ev_v rfl hb4) (ev_v (R := isIv (j : Int)) rfl rfl))) (ev_v rfl rfl) (ev_ng ev_int)) (evl_cons (ev_mkEn (o1 := none) (o2 := some j) (ev_v rfl rfl) (ev_v rfl rfl) (ev_ng ev_int) (ev_v rfl rfl)) evl_nil)) (by show 2 ≤ 1000; decide))) (ev_bm (ev_v rfl hb4)) H4 _ (Same.refl _) fun u5 H5 s5 _ e5 => ?_
      exact k _ _ ((S3.trans s4).trans s5) e5
theorem ok_doL {f : Addr} {fd : FuncData} (F : Fun K "_law_do" "_law_do" sDoL f fd) (cT : Cal P w K mg base CX0 "_law_take" 4 ["_law_house_here", "_law_book", "_law_at", "_law_amount"] spTakeL) (cR : Cal P w K mg base CX0 "_law_right" 4 ["_law_house_here", "_law_book", "_law_at", "_law_amount"] spRightL) : FnOk P w K mg base CX0 5 f fd ["_law_house_here", "_law_book", "_law_move"] spDoL := by
  obtain ⟨fT, fdT, GT, mT, kT, bT⟩ := cT
  obtain ⟨fR, fdR, GR, mR, kR, bR⟩ := cR
  refine F.ok scDoL (fun vs H Q E h => ?_) (fun cdv A outer s H vs Q E hr h => ?_)
  · obtain ⟨hv, v, m, h, b, mv, rfl, _⟩ := h
    rfl
  · obtain ⟨hv, v, mm, h, b, mv, rfl, hh, hb, ⟨p, rfl, hp⟩, ok, wf, n, mo, k⟩ := h
    refine ⟨_, (pss_cons (ps_if (pt_cmpR op_eq (pe_ix ix_tup (pv 2) pe_int (fun _ _ => rfl)) pe_str (nomark _)) (pss_one (ps_ret (pe_tup (pa_cons (pe_op op_catA (pe_ix ix_tup (pv 1) pe_int (fun _ _ => rfl)) (pe_tup (pa_cons (pe_tup (pa_cons (pe_ix ix_tup (pv 1) pe_int (fun _ _ => rfl)) (pa_cons (pe_ix ix_tup (pv 2) pe_int (fun _ _ => rfl)) (pa_cons (pe_un un_neg pe_int) (pa_cons (pe_un un_neg pe_int) pa_nil))))) pa_nil))) (pa_cons (pe_ix ix_tup (pv 1) pe_int (fun _ _ => rfl)) pa_nil))))) pss_nil)
  (pss_cons (ps_if (pt_cmpR op_eq (pe_ix ix_tup (pv 2) pe_int (fun _ _ => rfl)) pe_str (nomark _)) (pss_one (ps_ret (pe_tup (pa_cons (pe_ix ix_tup (pv 1) pe_int (fun _ _ => rfl)) (pa_cons (pe_op op_add (pe_ix ix_tup (pv 1) pe_int (fun _ _ => rfl)) pe_int) pa_nil))))) pss_nil)
  (pss_cons (ps_if (pt_cmpR op_eq (pe_ix ix_tup (pv 2) pe_int (fun _ _ => rfl)) pe_str (nomark _)) (pss_one (ps_ret (pe_call GT hr rfl mT kT bT .nil pass0 (pa_cons (pv 0) (pa_cons (pv 1) (pa_cons (pe_ix ix_tup (pv 2) pe_int (fun _ _ => rfl)) (pa_cons (pe_ix ix_tup (pv 2) pe_int (fun _ _ => rfl)) pa_nil))))))) pss_nil)
  (pss_one (ps_ret (pe_call GR hr rfl mR kR bR .nil pass0 (pa_cons (pv 0) (pa_cons (pv 1) (pa_cons (pe_ix ix_tup (pv 2) pe_int (fun _ _ => rfl)) (pa_cons (pe_ix ix_tup (pv 2) pe_int (fun _ _ => rfl)) pa_nil)))))))))), ?_⟩
    have hS : SqT K H p mv.tupV := SqT.of hp
    have e1 : decide (V.str "take" = V.str "begin") = false := by decide +kernel
    have e2 : decide (V.str "take" = V.str "shut") = false := by decide +kernel
    have e4 : decide (V.str "right" = V.str "begin") = false := by decide +kernel
    have e5 : decide (V.str "right" = V.str "shut") = false := by decide +kernel
    have e7 : decide (V.str "right" = V.str "take") = false := by decide +kernel
    have e6 : decide (V.str "shut" = V.str "begin") = false := by decide +kernel
    rcases mv with a | t | ⟨t, a⟩ | ⟨t, a⟩ | _
    · refine ⟨_, rfl, p, _, 0, _, rfl, rfl, hS, rfl, rfl, _, rfl, ?_⟩
      rw [decide_eq_true rfl]
      refine iteT ?_
      exact ev_mkBk (H0 := H) (ev_catEs (fs := [⟨b.m, a, none, none⟩]) (by simp) (by show _ + 1 ≤ 1000; omega) (ev_es (ev_v rfl hb)) (ev_tupU (evl_cons (ev_mkEn (o1 := none) (o2 := none) (ev_bm (ev_v rfl hb)) (fun H' Q w kk => ⟨_, rfl, p, _, 1, _, rfl, rfl, SqT.of (w _ _ hp), rfl, kk _ H' (Same.refl _) w rfl⟩) (ev_ng ev_int) (ev_ng ev_int)) evl_nil) (by show 1 ≤ 1000; decide))) (ev_bm (ev_v rfl hb)) H _ (Same.refl _) fun u H1 s1 _ eu => k _ _ s1 eu
    · have t0 : 0 ≤ t := mo.1
      refine ⟨_, rfl, p, _, 0, _, rfl, rfl, hS, rfl, rfl, _, rfl, ?_⟩
      rw [e1]
      refine iteF ⟨_, rfl, p, _, 0, _, rfl, rfl, hS, rfl, rfl, _, rfl, ?_⟩
      rw [e2]
      refine iteF ⟨_, rfl, p, _, 0, _, rfl, rfl, hS, rfl, rfl, _, rfl, ?_⟩
      rw [decide_eq_true rfl]
      refine iteT ⟨_, rfl, _, rfl, _, rfl, p, _, 1, _, rfl, rfl, hS, rfl, _, rfl, p, _, 2, _, rfl, rfl, hS, rfl, ?_⟩
      exact ⟨hv, v, h, b, t.toNat, 0, by rw [show ((t.toNat : Nat) : Int) = t by omega]; rfl, hh, hb, ok, wf, n, Int.le_refl _, fun u H' s' e => k u H' s' e⟩
    · have t0 : 0 ≤ t := mo.1.1
      have a1 : 1 ≤ a := mo.2.1
      refine ⟨_, rfl, p, _, 0, _, rfl, rfl, hS, rfl, rfl, _, rfl, ?_⟩
      rw [e1]
      refine iteF ⟨_, rfl, p, _, 0, _, rfl, rfl, hS, rfl, rfl, _, rfl, ?_⟩
      rw [e2]
      refine iteF ⟨_, rfl, p, _, 0, _, rfl, rfl, hS, rfl, rfl, _, rfl, ?_⟩
      rw [decide_eq_true rfl]
      refine iteT ⟨_, rfl, _, rfl, _, rfl, p, _, 1, _, rfl, rfl, hS, rfl, _, rfl, p, _, 2, _, rfl, rfl, hS, rfl, ?_⟩
      refine ⟨hv, v, h, b, t.toNat, a, by rw [show ((t.toNat : Nat) : Int) = t by omega]; rfl, hh, hb, ok, wf, n, by omega, fun u H' s' e => k u H' s' ?_⟩
      have z : amtO a = some a := if_pos (by omega)
      rw [z] at e
      exact e
    · have t0 : 0 ≤ t := mo.1.1
      refine ⟨_, rfl, p, _, 0, _, rfl, rfl, hS, rfl, rfl, _, rfl, ?_⟩
      rw [e4]
      refine iteF ⟨_, rfl, p, _, 0, _, rfl, rfl, hS, rfl, rfl, _, rfl, ?_⟩
      rw [e5]
      refine iteF ⟨_, rfl, p, _, 0, _, rfl, rfl, hS, rfl, rfl, _, rfl, ?_⟩
      rw [e7]
      refine iteF ⟨_, rfl, _, rfl, _, rfl, p, _, 1, _, rfl, rfl, hS, rfl, _, rfl, p, _, 2, _, rfl, rfl, hS, rfl, ?_⟩
      exact ⟨hv, v, h, b, t.toNat, a, by rw [show ((t.toNat : Nat) : Int) = t by omega]; rfl, hh, hb, ok, wf, n, fun u H' s' e => k u H' s' e⟩
    · refine ⟨_, rfl, p, _, 0, _, rfl, rfl, hS, rfl, rfl, _, rfl, ?_⟩
      rw [e6]
      refine iteF ⟨_, rfl, p, _, 0, _, rfl, rfl, hS, rfl, rfl, _, rfl, ?_⟩
      rw [decide_eq_true rfl]
      refine iteT ?_
      exact ev_mkBk (H0 := H) (es := b.es) (m := b.m + 1) (ev_es (ev_v rfl hb)) (ev_ad (ev_bm (ev_v rfl hb)) ev_int) H _ (Same.refl _) fun u H1 s1 _ eu => k _ _ s1 eu
end
end V3

set_option Elab.async false
set_option linter.all false
set_option maxRecDepth 100000
namespace V3
open PySem L2 TL
/-! read_move -/
theorem text_len {m : Mv} (h : m.ok) : m.text.length ≤ 5000 := by
  have e0 : (Str.empty).length = 0 := rfl
  have e1 : ("begin " : Str).length = 6 := by decide +kernel
  have e2 : ("take " : Str).length = 5 := by decide +kernel
  have e3 : (" by " : Str).length = 4 := by decide +kernel
  have e4 : ("right " : Str).length = 6 := by decide +kernel
  have e5 : (" to " : Str).length = 4 := by decide +kernel
  cases m with
  | beg a =>
    rw [← b_text]
    have l := num_len (am_of h)
    unfold bText
    rw [app_len, app_len, e0, e1]
    omega
  | take t =>
    rw [← t_text]
    have l := num_len (at_am h)
    unfold tText
    rw [app_len, app_len, e0, e2]
    omega
  | takeBy t a =>
    rw [← tb_text]
    have l := num_len (at_am h.1)
    have l2 := num_len (am_of h.2)
    unfold tbText
    rw [app_len, app_len, app_len, app_len, e0, e2, e3]
    omega
  | right t a =>
    rw [← r_text]
    have l := num_len (at_am h.1)
    have l2 := num_len (am_of h.2)
    unfold rText
    rw [app_len, app_len, app_len, app_len, e0, e4, e5]
    omega
  | shut =>
    have e : Mv.shut.text.length = 4 := by decide +kernel
    rw [e]
    decide
theorem st12 : sliceRange (sliceBounds (some 1) none (some 2) 2).1 (sliceBounds (some 1) none (some 2) 2).2.1 (sliceBounds (some 1) none (some 2) 2).2.2 = [1] := by decide +kernel
theorem st14 : sliceRange (sliceBounds (some 1) none (some 2) 4).1 (sliceBounds (some 1) none (some 2) 4).2.1 (sliceBounds (some 1) none (some 2) 4).2.2 = [1, 3] := by decide +kernel
theorem st11 : sliceRange (sliceBounds (some 1) none (some 2) 1).1 (sliceBounds (some 1) none (some 2) 1).2.1 (sliceBounds (some 1) none (some 2) 1).2.2 = [] := by decide +kernel
theorem st02 : sliceRange (sliceBounds none none (some 2) 2).1 (sliceBounds none none (some 2) 2).2.1 (sliceBounds none none (some 2) 2).2.2 = [0] := by decide +kernel
theorem st04 : sliceRange (sliceBounds none none (some 2) 4).1 (sliceBounds none none (some 2) 4).2.1 (sliceBounds none none (some 2) 4).2.2 = [0, 2] := by decide +kernel
theorem st01 : sliceRange (sliceBounds none none (some 2) 1).1 (sliceBounds none none (some 2) 1).2.1 (sliceBounds none none (some 2) 1).2.2 = [0] := by decide +kernel
theorem step_of {xs : List V} {lo hi st : Option Int} {n : Nat} {l : List Nat} (hn : xs.length = n) (h : sliceRange (sliceBounds lo hi st n).1 (sliceBounds lo hi st n).2.1 (sliceBounds lo hi st n).2.2 = l) : stepV xs lo hi st = l.filterMap (fun i => xs[i]?) := by
  unfold stepV
  rw [hn, h]
theorem step_nums (m : Mv) : stepV (m.words.map V.str) (some 1) none (some 2) = (m.nums.map num).map V.str := by
  cases m with
  | beg a => exact step_of (n := 2) rfl st12
  | take t => exact step_of (n := 2) rfl st12
  | takeBy t a => exact step_of (n := 4) rfl st14
  | right t a => exact step_of (n := 4) rfl st14
  | shut => exact step_of (n := 1) rfl st11
theorem step_evens (m : Mv) : stepV (m.words.map V.str) none none (some 2) = m.evens.map V.str := by
  cases m with
  | beg a => exact step_of (n := 2) rfl st02
  | take t => exact step_of (n := 2) rfl st02
  | takeBy t a => exact step_of (n := 4) rfl st04
  | right t a => exact step_of (n := 4) rfl st04
  | shut => exact step_of (n := 1) rfl st01
theorem nums_len (m : Mv) : m.nums.length ≤ 2 := by cases m <;> (simp only [Mv.nums, List.length_cons, List.length_nil]; omega)
theorem evens_len (m : Mv) : m.evens.length ≤ 2 := by cases m <;> (simp only [Mv.evens, List.length_cons, List.length_nil]; omega)
theorem none_in (l : List Int) : inV .non (l.map V.int) = false := by
  induction l with
  | nil => rfl
  | cons a l ih => exact ih
theorem flat_ints (l : List Int) : (l.map V.int).all flatV = true := by
  induction l with
  | nil => rfl
  | cons a l ih => exact ih
theorem get_num {l : List Int} {i : Nat} {z : V} (h : (List.map V.str (List.map num l))[i]? = some z) : ∃ t, l[i]? = some t ∧ z = .str (num t) := by
  rw [List.getElem?_map, List.getElem?_map] at h
  cases e : l[i]? with
  | none => rw [e] at h; cases h
  | some t =>
    rw [e] at h
    exact ⟨t, rfl, (Option.some.inj h).symm⟩
theorem take_next' {α : Type} : ∀ {l : List α} {i : Nat} {x : α}, l[i]? = some x → l.take (i + 1) = l.take i ++ [x]
  | [], i, x, h => by simp at h
  | a :: l, 0, x, h => by
    have e : a = x := Option.some.inj h
    subst e
    rfl
  | a :: l, i + 1, x, h => by
    have ih := take_next' (l := l) (i := i) (x := x) h
    show a :: l.take (i + 1) = a :: l.take i ++ [x]
    rw [ih]
    rfl
def spRM (c : Cl) : Sp := fun vs H Q _ => ∃ m : Mv, vs = [.str m.text] ∧ m.ok ∧ ∀ (x dx : Addr) (H' : Hp), Same H H' → H' x = some (m.obj c dx) → Q (.ref x) H'
section
variable {P : Program} {w : World} {K : PySem.W.Frag} {mg : Str → Option Value} {base : Heap}
abbrev CalReadNumber (P : Program) (w : World) (K : PySem.W.Frag) (mg : Str → Option Value) (base : Heap) : Prop := Cal P w K mg base CX0 "read_number" 1 ["text"] spRN
abbrev CalMoveOf (P : Program) (w : World) (K : PySem.W.Frag) (mg : Str → Option Value) (base : Heap) (c : Cl) : Prop := Cal P w K mg base CX0 "move_of" 6 ["words", "numbers"] (spMO c)
theorem scReadMove : FnScope ["text", "words", "numbers", "word"] ["text"] (defScope sReadMove) := ⟨rfl, rfl, rfl, by decide +kernel, rfl, by decide +kernel, by decide +kernel⟩
theorem ok_readMove {f : Addr} {c : Cl} {fd : FuncData} (F : Fun K "read_move" "read_move" sReadMove f fd) (cN : CalReadNumber P w K mg base) (cM : CalMoveOf P w K mg base c) : FnOk P w K mg base CX0 7 f fd ["text"] (spRM c) := by
  obtain ⟨fN, fdN, GN, mN, kN, bN⟩ := cN
  obtain ⟨fM, fdM, GM, mM, kM, bM⟩ := cM
  refine F.ok scReadMove (fun vs H Q E h => ?_) (fun cdv A outer s H vs Q E hr h => ?_)
  · obtain ⟨m, rfl, _⟩ := h
    rfl
  · obtain ⟨m, rfl, ok, k⟩ := h
    refine ⟨_, pss_cons (ps_set (i := 1) scReadMove.nd rfl (Or.inl rfl) (pe_split (pv 0) pe_str))
      (pss_cons (ps_setLc (i := 2) (own := [("word", 3)]) (g := gName 3) (tt := tYes) (te := tCall spRN [] (fun _ _ _ => False) (tCons (tVar 3) tNil)) (by rfl) scReadMove.nd rfl rfl (sw_true rfl rfl rfl (by decide +kernel)) (pi_list (pe_step (pv 1) (po_some pe_int) po_none (po_some pe_int)))
          (blkOk_by (own := [("word", 3)]) (N := ["text", "words", "numbers", "word"]) (sc := defScope sReadMove) (by decide +kernel)) (fun _ _ _ _ _ => pg_name (i := 3) scReadMove.nd rfl (Or.inl rfl)) (fun _ _ _ _ _ => pts_nil)
          (fun _ _ _ _ _ => pe_call GN (hr.mono (by decide)) rfl mN kN bN .nil pass0 (pa_cons (pv 3) pa_nil)))
      (pss_cons (ps_if (pt_cmpR op_in_seq pe_non (pv 2) rfl) (pss_one (ps_ret pe_non)) pss_nil)
      (pss_one (ps_try_thru0 (pss_one (ps_ret (pe_call (E := fun _ _ _ => False) GM hr rfl mM kM bM .nil pass0 (pa_cons (pe_step (pv 1) po_none po_none (po_some pe_int)) (pa_cons (pv 2) pa_nil))))))))), ?_⟩
    have tl_ := text_len ok
    refine ⟨_, rfl, ⟨_, rfl⟩, _, sp1, rfl, rfl, by decide +kernel, Nat.le_trans (Nat.add_le_add_right tl_ 2) (by decide), fun wa nw => ?_⟩
    rw [split_text ok]
    have S1 : Same H (upd H wa (.lst (m.words.map V.str))) := Same.new nw
    have hw : upd H wa (.lst (m.words.map V.str)) wa = some (.lst (m.words.map V.str)) := upd_same
    generalize upd H wa (.lst (m.words.map V.str)) = H1 at S1 hw ⊢
    refine ⟨_, rfl, _, rfl, 2, rfl, wa, _, rfl, SqL.of hw, by decide, ?_, fun pa np => ?_⟩
    · rw [step_nums, List.length_map, List.length_map]
      exact Nat.le_trans (nums_len m) (by decide)
    rw [step_nums]
    have S2 : Same H1 (upd H1 pa (.lst ((m.nums.map num).map V.str))) := Same.new np
    have hp : upd H1 pa (.lst ((m.nums.map num).map V.str)) pa = some (.lst ((m.nums.map num).map V.str)) := upd_same
    generalize upd H1 pa (.lst ((m.nums.map num).map V.str)) = H2 at S2 hp ⊢
    refine ⟨pa, rfl, ⟨_, SqL.of hp⟩, fun D nD => ?_⟩
    refine lc_list (K := K) (a := pa) (xs := (m.nums.map num).map V.str) (fun i Hh => Same H2 Hh ∧ H2 D = none ∧ Hh D = some (.lst ((m.nums.take i).map V.int))) ⟨Same.new nD, nD, upd_same⟩ (fun i Hh _ p => SqL.of (p.1 _ _ hp)) ?_ ?_
    · intro i z Hh hi p
      obtain ⟨t, ht, rfl⟩ := get_num hi
      have okt : V3.Idx t := nums_ok ok t (List.mem_of_getElem? ht)
      refine ⟨rfl, ?_⟩
      unfold tYes
      dsimp only
      refine iteT ⟨_, rfl, t, rfl, okt, _, p.2.2, ?_, fun c o h => ?_, p.2.1, ?_⟩
      · have l := nums_len m
        refine Nat.lt_of_le_of_lt (m := 100) ?_ (by decide)
        rw [List.length_map, List.length_take]
        omega
      · rw [upd_ne (ne_of_none h p.2.1)]
        exact p.1 c o h
      · rw [upd_same, take_next' ht, List.map_append]
        rfl
    · intro H3 p
      obtain ⟨S3, nD, hD⟩ := p
      have e : ((m.nums.map num).map V.str).length = m.nums.length := by rw [List.length_map, List.length_map]
      rw [e, List.take_length] at hD
      refine ⟨_, rfl, D, _, rfl, .inl (SqL.of hD), rfl, flat_ints _, _, rfl, ?_⟩
      rw [none_in]
      have hw3 := S3 _ _ (S2 _ _ hw)
      refine iteF ⟨_, rfl, 2, rfl, wa, _, rfl, SqL.of hw3, by decide, ?_, fun qa nq => ?_⟩
      · rw [step_evens, List.length_map]
        exact Nat.le_trans (evens_len m) (by decide)
      rw [step_evens]
      have S4 : Same H3 (upd H3 qa (.lst (m.evens.map V.str))) := Same.new nq
      have hq : upd H3 qa (.lst (m.evens.map V.str)) qa = some (.lst (m.evens.map V.str)) := upd_same
      generalize upd H3 qa (.lst (m.evens.map V.str)) = H4 at S4 hq ⊢
      exact ⟨_, rfl, qa, D, m, rfl, hq, S4 _ _ hD, ok, fun x dx H' s5 hx => k x dx H' ((((S1.trans S2).trans S3).trans S4).trans s5) hx⟩
end
end V3

set_option Elab.async false
set_option linter.all false
set_option maxRecDepth 100000
namespace V3
open PySem L2 TL
/-! read_moves -/
def MvsAt (c : Cl) (H : Hp) : List V → List Mv → Prop
  | [], [] => True
  | x :: xs, m :: ms => MvAt c H x m ∧ MvsAt c H xs ms
  | _, _ => False
theorem MvsAt.same {c : Cl} {H H' : Hp} (s : Same H H') : ∀ {xs : List V} {ms : List Mv}, MvsAt c H xs ms → MvsAt c H' xs ms
  | [], [], _ => trivial
  | _ :: _, _ :: _, h => ⟨h.1.same s, MvsAt.same s h.2⟩
  | [], _ :: _, h => h.elim
  | _ :: _, [], h => h.elim
theorem MvsAt.snoc {c : Cl} {H : Hp} {x : V} {m : Mv} (hx : MvAt c H x m) : ∀ {xs : List V} {ms : List Mv}, MvsAt c H xs ms → MvsAt c H (xs ++ [x]) (ms ++ [m])
  | [], [], _ => ⟨hx, trivial⟩
  | _ :: _, _ :: _, h => ⟨h.1, MvsAt.snoc hx h.2⟩
  | [], _ :: _, h => h.elim
  | _ :: _, [], h => h.elim
theorem MvsAt.len {c : Cl} {H : Hp} : ∀ {xs : List V} {ms : List Mv}, MvsAt c H xs ms → xs.length = ms.length
  | [], [], _ => rfl
  | _ :: xs, _ :: ms, h => by rw [List.length_cons, List.length_cons, MvsAt.len h.2]
  | [], _ :: _, h => h.elim
  | _ :: _, [], h => h.elim
theorem MvAt.upd_lst {c : Cl} {H : Hp} {D : Addr} {o : HO} {ys : List V} {v : V} {m : Mv} (hD : H D = some (.lst ys)) (h : MvAt c H v m) : MvAt c (upd H D o) v m := by
  obtain ⟨x, dx, rfl, hx⟩ := h
  refine ⟨x, dx, rfl, ?_⟩
  have ne : x ≠ D := by
    intro e
    subst e
    rw [hx] at hD
    obtain ⟨fs, eo⟩ := mv_at c m dx
    rw [eo] at hD
    cases hD
  rw [upd_ne ne]
  exact hx
theorem MvsAt.upd_lst {c : Cl} {H : Hp} {D : Addr} {o : HO} {ys : List V} (hD : H D = some (.lst ys)) : ∀ {xs : List V} {ms : List Mv}, MvsAt c H xs ms → MvsAt c (upd H D o) xs ms
  | [], [], _ => trivial
  | _ :: _, _ :: _, h => ⟨h.1.upd_lst hD, MvsAt.upd_lst hD h.2⟩
  | [], _ :: _, h => h.elim
  | _ :: _, [], h => h.elim
def semi : Str := "; "
theorem semi_tl : tl semi = [59, 32] := by decide +kernel
def hText (ms : List Mv) : Str := Str.join semi (ms.map Mv.text)
theorem join_free {y : List Nat} {s : Nat} (hy : s ∉ y) : ∀ {l : List (List Nat)}, (∀ p ∈ l, s ∉ p) → s ∉ joinL y l
  | [], _ => fun z => nomatch z
  | [a], h => h a (List.mem_cons_self ..)
  | a :: b :: l, h => by
    have e : joinL y (a :: b :: l) = a ++ y ++ joinL y (b :: l) := by first | rfl | simp [joinL]
    rw [e]
    intro z
    rcases List.mem_append.mp z with z | z
    · rcases List.mem_append.mp z with z | z
      · exact h a (List.mem_cons_self ..) z
      · exact hy z
    · exact join_free hy (fun p hp => h p (List.mem_cons_of_mem _ hp)) z
theorem text_free {m : Mv} (h : m.ok) : 59 ∉ tl m.text := by
  unfold Mv.text
  rw [tl_join]
  refine join_free (by rw [sp_tl]; decide) fun p hp => ?_
  obtain ⟨z, hz, rfl⟩ := List.mem_map.mp hp
  exact (words_free h z hz).2
theorem split_texts {ms : List Mv} (hne : ms ≠ []) (h : ∀ m ∈ ms, m.ok) : Txt.split (hText ms) semi = ms.map Mv.text := by
  unfold hText
  have z := split_join semi_tl (by decide +kernel) (parts := ms.map Mv.text) (fun e => hne (List.map_eq_nil_iff.mp e)) fun p hp => by
    obtain ⟨m, hm, rfl⟩ := List.mem_map.mp hp
    exact text_free (h m hm)
  rw [join_eq] at z
  exact z
theorem joinL_len {y : List Nat} {k : Nat} : ∀ {l : List (List Nat)}, (∀ p ∈ l, p.length ≤ k) → (joinL y l).length ≤ l.length * (k + y.length)
  | [], _ => by simp [joinL]
  | [a], h => by
    have z := h a (List.mem_cons_self ..)
    have e : joinL y [a] = a := by first | rfl | simp [joinL]
    rw [e, List.length_singleton]
    omega
  | a :: b :: l, h => by
    have e : joinL y (a :: b :: l) = a ++ y ++ joinL y (b :: l) := by first | rfl | simp [joinL]
    have z := h a (List.mem_cons_self ..)
    have ih := joinL_len (y := y) (k := k) (l := b :: l) fun p hp => h p (List.mem_cons_of_mem _ hp)
    rw [e, List.length_append, List.length_append, List.length_cons, Nat.succ_mul]
    omega
theorem hText_len {ms : List Mv} (h : ∀ m ∈ ms, m.ok) (n : ms.length ≤ 1000) : (hText ms).length ≤ 5002000 := by
  unfold hText
  rw [len_tl, tl_join]
  have z := joinL_len (y := tl semi) (k := 5000) (l := (ms.map Mv.text).map tl) fun p hp => by
    obtain ⟨q, hq, rfl⟩ := List.mem_map.mp hp
    obtain ⟨m, hm, rfl⟩ := List.mem_map.mp hq
    rw [← len_tl]
    exact text_len (h m hm)
  have e : (tl semi).length = 2 := by rw [semi_tl]; rfl
  rw [e, List.length_map, List.length_map] at z
  exact Nat.le_trans z (by omega)
theorem text_pos {m : Mv} : 0 < m.text.length := by
  rw [len_tl]
  unfold Mv.text
  rw [tl_join]
  have k : ∀ (a : List Nat) (l : List (List Nat)), a.length ≤ (joinL (tl sp1) (a :: l)).length := fun a l => by
    cases l with
    | nil => exact Nat.le_of_eq (by first | rfl | simp [joinL])
    | cons b l =>
      have e : joinL (tl sp1) (a :: b :: l) = a ++ tl sp1 ++ joinL (tl sp1) (b :: l) := by first | rfl | simp [joinL]
      rw [e, List.length_append, List.length_append]
      omega
  have e1 : 0 < (tl "begin").length := by decide +kernel
  have e2 : 0 < (tl "take").length := by decide +kernel
  have e3 : 0 < (tl "right").length := by decide +kernel
  have e4 : 0 < (tl "shut").length := by decide +kernel
  cases m with
  | beg a => exact Nat.lt_of_lt_of_le e1 (k _ _)
  | take t => exact Nat.lt_of_lt_of_le e2 (k _ _)
  | takeBy t a => exact Nat.lt_of_lt_of_le e2 (k _ _)
  | right t a => exact Nat.lt_of_lt_of_le e3 (k _ _)
  | shut => exact Nat.lt_of_lt_of_le e4 (k _ _)
theorem hText_pos {ms : List Mv} (hne : ms ≠ []) : (hText ms).length ≠ 0 := by
  cases ms with
  | nil => exact absurd rfl hne
  | cons m l =>
    have z := @text_pos m
    rw [len_tl] at z
    unfold hText
    rw [len_tl, tl_join]
    cases l with
    | nil =>
      have e : joinL (tl semi) ([Mv.text m].map tl) = tl m.text := by first | rfl | simp [joinL]
      show (joinL (tl semi) ([Mv.text m].map tl)).length ≠ 0
      rw [e]
      omega
    | cons b l =>
      have e : joinL (tl semi) (((m :: b :: l).map Mv.text).map tl) = tl m.text ++ tl semi ++ joinL (tl semi) (((b :: l).map Mv.text).map tl) := by first | rfl | simp [joinL]
      rw [e, List.length_append, List.length_append]
      omega
def spRMs (c : Cl) : Sp := fun vs H Q _ => ∃ ms : List Mv, vs = [.str (hText ms)] ∧ (∀ m ∈ ms, m.ok) ∧ ms.length ≤ 1000 ∧ ∀ (D : Addr) (xs : List V) (H' : Hp), Same H H' → H' D = some (.lst xs) → MvsAt c H' xs ms → Q (.ref D) H'
theorem set_ne' {σ : L2.St} {i j : Nat} {v : Option V} (h : i ≠ j) : (σ.set i v)[j]? = σ[j]? := List.getElem?_set_ne h
theorem set_eq' {σ : L2.St} {i : Nat} {v : Option V} (h : i < σ.length) : (σ.set i v)[i]? = some v := by
  rw [List.getElem?_set_self h]
section
variable {P : Program} {w : World} {K : PySem.W.Frag} {mg : Str → Option Value} {base : Heap}
abbrev CalReadMove (P : Program) (w : World) (K : PySem.W.Frag) (mg : Str → Option Value) (base : Heap) (c : Cl) : Prop := Cal P w K mg base CX0 "read_move" 7 ["text"] (spRM c)
theorem scReadMoves : FnScope ["text", "moves", "parts", "at", "part", "move"] ["text"] (defScope sReadMoves) := ⟨rfl, rfl, rfl, by decide +kernel, rfl, by decide +kernel, by decide +kernel⟩
/-- what the loop keeps -/
def RdI (c : Cl) (H : Hp) (ms : List Mv) (D p : Addr) (i : Nat) (σ : L2.St) (Hh : Hp) : Prop := σ.length = 6 ∧ σ[1]? = some (some (.ref D)) ∧ Same H Hh ∧ H D = none ∧ p ≠ D ∧ Hh p = some (.lst ((ms.map Mv.text).map V.str)) ∧ ∃ xs, Hh D = some (.lst xs) ∧ MvsAt c Hh xs (ms.take i)
theorem read_loop {c : Cl} {ms : List Mv} {H H2 : Hp} {D p : Addr} {σ : L2.St} {Q : VK} {nx : L2.St → Hp → Prop} (l6 : σ.length = 6) (hd : σ[1]? = some (some (.ref D))) (hp2 : σ[2]? = some (some (.ref p))) (S : Same H H2) (nD : H D = none) (pD : p ≠ D)
    (hp : H2 p = some (.lst ((ms.map Mv.text).map V.str))) (hD : H2 D = some (.lst [])) (ok : ∀ m ∈ ms, m.ok) (n : ms.length ≤ 1000)
    (k : ∀ (D : Addr) (xs : List V) (H' : Hp), Same H H' → H' D = some (HO.lst xs) → MvsAt c H' xs ms → Q (V.ref D) H') :
    tSeq (tFor (iEnum K (tCons (tVar 2) tNil)) (gTup K 2 (gCons (gName 3) (gCons (gName 4) gNil)))
        (tSeq (tAsg (tCall (spRM c) [] (fun _ _ _ => False) (tCons (tVar 4) tNil)) (gName 5))
          (tSeq (tIfS (tTest (tOp (fun x y H Q => y = V.non ∧ Q (V.bl (decide (x = V.non))) H) (tVar 5) (tC V.non))) tNever tNext)
            (tDrop (tBM K "list" rAppend (tVar 1) (tCons (tVar 5) tNil))))))
      (tRet (tVar 1)) { nx := nx, rt := Q } σ H2 := by
  have lp : ((ms.map Mv.text).map V.str).length = ms.length := by rw [List.length_map, List.length_map]
  refine ⟨_, hp2, p, _, rfl, SqL.of hp, ?_⟩
  refine for_it (walk_enum (K := K) (a := p) (xs := (ms.map Mv.text).map V.str)) (RdI c H ms D p) ⟨l6, hd, S, nD, pD, hp, [], hD, trivial⟩ (fun i σ Hh _ q => SqL.of q.2.2.2.2.2.1) ?_ ?_
  · rintro i v σ1 Hh Hh' hi ⟨l6, hd, S, nD, pD, hp, xs, hD, mv⟩ ⟨T, x, y, rfl, nT, rfl, ex, ey⟩
    have ex := (Option.some.inj ex).symm
    subst ex
    rw [lp] at hi
    have hm : ms[i]? = some ms[i] := List.getElem?_eq_getElem hi
    have ey2 : y = .str (ms[i]).text := by
      dsimp only at ey
      rw [List.getElem?_map, List.getElem?_map, hm] at ey
      exact (Option.some.inj ey).symm
    subst ey2
    have okm : (ms[i]).ok := ok _ (List.getElem_mem hi)
    refine ⟨T, _, rfl, SqT.of upd_same, rfl, _, _, rfl, ⟨_, _, rfl, rfl, ?_⟩⟩
    have sT : Same Hh (upd Hh T (.tup [.int (i : Nat), .str (ms[i]).text])) := Same.new nT
    generalize upd Hh T (.tup [.int (i : Nat), .str (ms[i]).text]) = H3 at sT ⊢
    refine ⟨_, set_eq' (by rw [List.length_set]; omega), ms[i], rfl, okm, fun z dz H4 s4 hz => ?_⟩
    have S4 : Same Hh H4 := sT.trans s4
    refine ⟨_, set_eq' (by rw [List.length_set, List.length_set]; omega), rfl, _, rfl, ?_⟩
    rw [decide_eq_false (fun e => nomatch e)]
    refine iteF ?_
    have l1 : (((σ1.set 3 (some (V.int (i : Nat)))).set 4 (some (V.str (ms[i]).text))).set 5 (some (V.ref z)))[1]? = some (some (V.ref D)) := by
      rw [set_ne' (by decide), set_ne' (by decide), set_ne' (by decide)]
      exact hd
    have l5 : (((σ1.set 3 (some (V.int (i : Nat)))).set 4 (some (V.str (ms[i]).text))).set 5 (some (V.ref z)))[5]? = some (some (V.ref z)) := set_eq' (by rw [List.length_set, List.length_set]; omega)
    have ll : (((σ1.set 3 (some (V.int (i : Nat)))).set 4 (some (V.str (ms[i]).text))).set 5 (some (V.ref z))).length = 6 := by
      rw [List.length_set, List.length_set, List.length_set]
      exact l6
    have hD4 := S4 _ _ hD
    have mz : MvAt c H4 (.ref z) ms[i] := ⟨z, dz, rfl, hz⟩
    have le := mv.len
    rw [List.length_take] at le
    refine ⟨_, l1, .inl ⟨rfl, _, SqL.of hD4⟩, _, l5, D, xs, _, rfl, rfl, hD4, Nat.lt_of_le_of_lt (m := 1000) (by omega) (by decide), ?_⟩
    refine ⟨ll, l1, ?_, nD, pD, ?_, xs ++ [.ref z], upd_same, ?_⟩
    · intro a o e
      rw [upd_ne (ne_of_none e nD)]
      exact S4 _ _ (S _ _ e)
    · rw [upd_ne pD]
      exact S4 _ _ hp
    · rw [take_next' hm]
      exact MvsAt.snoc (mz.upd_lst hD4) ((mv.same S4).upd_lst hD4)
  · rintro σ1 Hh ⟨l6, hd, S, nD, pD, hp, xs, hD, mv⟩
    rw [lp, List.take_length] at mv
    exact ⟨_, hd, k D xs Hh S hD mv⟩
theorem ok_readMoves {f : Addr} {c : Cl} {fd : FuncData} (F : Fun K "read_moves" "read_moves" sReadMoves f fd) (cR : CalReadMove P w K mg base c) (ze : mg "enumerate" = none) : FnOk P w K mg base CX0 8 f fd ["text"] (spRMs c) := by
  obtain ⟨fR, fdR, GR, mR, kR, bR⟩ := cR
  refine F.ok scReadMoves (fun vs H Q E h => ?_) (fun cdv A outer s H vs Q E hr h => ?_)
  · obtain ⟨ms, rfl, _⟩ := h
    rfl
  · obtain ⟨ms, rfl, ok, n, k⟩ := h
    refine ⟨_, pss_cons (ps_set (i := 1) scReadMoves.nd rfl (Or.inl rfl) (pe_lst pa_nil))
      (pss_cons (ps_set (i := 2) scReadMoves.nd rfl (Or.inl rfl) (pe_ifExp (pt_truth (pv 0) (by intro _; rfl)) (pe_split (pv 0) pe_str) (pe_lst pa_nil)))
      (pss_cons (ps_for PassesOwn.never rfl (pi_enum (by rfl) ze (pa_cons (pv 2) pa_nil)) (pg_tup rfl (pgs_cons (pg_name (i := 3) scReadMoves.nd rfl (Or.inl rfl)) (pgs_cons (pg_name (i := 4) scReadMoves.nd rfl (Or.inl rfl)) pgs_nil)))
        (pss_cons (ps_set (i := 5) scReadMoves.nd rfl (Or.inl rfl) (pe_call (E := fun _ _ _ => False) GR hr rfl mR kR bR .nil pass0 (pa_cons (pv 4) pa_nil)))
        (pss_cons (ps_if (pt_cmpR op_isN (pv 5) pe_non (nomark _)) (pss_one ps_never) pss_nil)
        (pss_one (ps_expr (pe_bm PySem.F.plainAttrs_list PySem.F.slot_list_append PySem.F.type_list_append mt_append (pv 1) (pa_cons (pv 5) pa_nil)))))))
      (pss_one (ps_ret (pv 1))))), ?_⟩
    have tl_ := hText_len ok n
    refine ⟨?_, fun D nD => ?_⟩
    · show (0 : Nat) ≤ sizeLine
      exact Nat.zero_le _
    have hD : upd H D (.lst []) D = some (.lst []) := upd_same
    have S1 : Same H (upd H D (.lst [])) := Same.new nD
    generalize upd H D (.lst []) = H1 at S1 hD ⊢
    by_cases hms : ms = []
    · subst hms
      have e0 : (hText []).length = 0 := by decide +kernel
      refine ⟨_, rfl, false, ⟨Nat.le_trans tl_ (by decide), by rw [e0]; rfl⟩, iteF ⟨?_, fun p np => ?_⟩⟩
      · show (0 : Nat) ≤ sizeLine
        exact Nat.zero_le _
      exact read_loop (ms := []) rfl rfl rfl (S1.trans (Same.new np)) nD (Ne.symm (ne_of_none hD np)) upd_same (Same.new np _ _ hD) ok n k
    · refine ⟨_, rfl, true, ⟨Nat.le_trans tl_ (by decide), ?_⟩, iteT ⟨_, rfl, ⟨_, rfl⟩, _, semi, rfl, rfl, by decide +kernel, Nat.le_trans (Nat.add_le_add_right tl_ 2) (by decide), fun p np => ?_⟩⟩
      · have z := hText_pos hms
        first | exact (bne_iff_ne.mpr z).symm | simpa using z
      rw [split_texts hms ok]
      exact read_loop rfl rfl rfl (S1.trans (Same.new np)) nD (Ne.symm (ne_of_none hD np)) upd_same (Same.new np _ _ hD) ok n k
end
end V3

set_option Elab.async false
set_option linter.all false
set_option maxRecDepth 100000
namespace V3
open PySem L2 TL
abbrev sIsMoves : Stmt := top 22
abbrev sHInit : Stmt := inClass (top 21) 0
abbrev sHEq : Stmt := inClass (top 21) 6
abbrev sHStr : Stmt := inClass (top 21) 7
/-! histories -/
def hist (C dx q : Addr) : HO := .ins C dx [("moves", .ref q)]
def HiAt (c : Cl) (H : Hp) (v : V) (ms : List Mv) : Prop := ∃ x dx q xs, v = .ref x ∧ H x = some (hist c.Hi dx q) ∧ H q = some (.tup xs) ∧ MvsAt c H xs ms
theorem HiAt.same {c : Cl} {H H' : Hp} {v : V} {ms : List Mv} (h : HiAt c H v ms) (s : Same H H') : HiAt c H' v ms := by
  obtain ⟨x, dx, q, xs, e, hx, hq, mv⟩ := h
  exact ⟨x, dx, q, xs, e, s _ _ hx, s _ _ hq, mv.same s⟩
theorem MvsAt.at {c : Cl} {H : Hp} : ∀ {xs : List V} {ms : List Mv} {i : Nat} {x : V}, MvsAt c H xs ms → xs[i]? = some x → ∃ m, ms[i]? = some m ∧ MvAt c H x m
  | [], _, i, x, _, e => by simp at e
  | _ :: _, [], _, _, h, _ => h.elim
  | y :: ys, m :: ms, 0, x, h, e => ⟨m, rfl, by
    have e2 : y = x := Option.some.inj e
    subst e2
    exact h.1⟩
  | y :: ys, m :: ms, i + 1, x, h, e => MvsAt.at (xs := ys) (ms := ms) (i := i) h.2 e
structure BltH (mg : Str → Option Value) : Prop where
  isi : mg "isinstance" = none
  list : mg "list" = none
  tuple : mg "tuple" = none
  all : mg "all" = none
  str : mg "str" = none
def spIsMM (c : Cl) : Sp := fun vs H Q _ => ∃ (a : Addr) (xs : List V) (ms : List Mv), vs = [.ref a] ∧ H a = some (.lst xs) ∧ MvsAt c H xs ms ∧ ms.length ≤ 1000 ∧ ∀ H', Same H H' → Q (.bl true) H'
def spHIM (c : Cl) : Sp := fun vs H Q _ => ∃ (x dx a : Addr) (xs : List V) (ms : List Mv), vs = [.ref x, .ref a] ∧ H x = some (.ins c.Hi dx []) ∧ H a = some (.lst xs) ∧ MvsAt c H xs ms ∧ ms.length ≤ 1000 ∧
  ∀ (q : Addr) (H' : Hp), (∀ d o, d ≠ x → H d = some o → H' d = some o) → H' x = some (hist c.Hi dx q) → H' q = some (.tup xs) → Q .non H'
theorem all_tt : ∀ n : Nat, (List.replicate n (V.bl true)).all (fun v => v == .bl true) = true := by
  intro n
  induction n with
  | zero => rfl
  | succ n ih => rw [List.replicate_succ, List.all_cons, ih]; rfl
theorem rep_bl (n : Nat) : List.replicate n (V.bl true) = (List.replicate n true).map V.bl := by
  rw [List.map_replicate]
section
variable {P : Program} {w : World} {K : PySem.W.Frag} {mg : Str → Option Value} {base : Heap}
theorem kitAny_lt {K : PySem.W.Frag} : PySem.W.kitAny K (.type "list") [.type "list", .type "tuple"] = some true := by
  refine kitAny_cons (show PySem.W.kitOne K (.type "list") (.type "list") = some true from kit_ty (by decide +kernel)) (fun z => by cases z) (fun z => rfl)
theorem scIsMoves : FnScope ["value", "item"] ["value"] (defScope sIsMoves) := ⟨rfl, rfl, rfl, by decide +kernel, rfl, by decide +kernel, by decide +kernel⟩
theorem ok_isMovesM {f MV : Addr} {c : Cl} {fd : FuncData} (F : Fun K "is_moves" "is_moves" sIsMoves f fd) (T : BltH mg) (C : MvCls K c MV) (gM : mg "Move" = some (.ref MV)) : FnOk P w K mg base CX0 1 f fd ["value"] (spIsMM c) := by
  refine F.ok scIsMoves (fun vs H Q E h => ?_) (fun cdv A outer s H vs Q E hr h => ?_)
  · obtain ⟨a, xs, ms, rfl, _⟩ := h
    rfl
  · obtain ⟨a, xs, ms, rfl, ha, mv, n, k⟩ := h
    refine ⟨_, pss_one (ps_ret (pe_and (pe_callB call_isiT (by rfl) T.isi (by decide +kernel) (pa_cons (pv 0) (pa_cons (pe_tup (pa_cons (pe_bltn (v := .ty "list") (by rfl) T.list (by decide +kernel) rfl) (pa_cons (pe_bltn (v := .ty "tuple") (by rfl) T.tuple (by decide +kernel) rfl) pa_nil))) pa_nil)))
        (pe_one (pe_callB (cr_all rfl) (by rfl) T.all (by decide +kernel) (pa_cons (pe_lc (own := [("item", 1)]) (g := gName 1) (tt := tYes) (te := tCB (rIsi K) (tCons (tVar 1) (tCons (tC (.ref MV)) tNil))) (by rfl) scIsMoves.nd (pi_list (pv 0)) (blkOk_by (own := [("item", 1)]) (N := ["value", "item"]) (sc := defScope sIsMoves) (by decide +kernel)) (fun _ _ _ _ _ => pg_name (i := 1) scIsMoves.nd rfl (Or.inl rfl)) (fun _ _ _ _ _ => pts_nil)
          (fun _ _ _ _ _ => pe_callB call_isi (by rfl) T.isi (by decide +kernel) (pa_cons (pv 1) (pa_cons (pe_glob (v := .ref MV) rfl gM rfl) pa_nil)))) pa_nil))))), ?_⟩
    refine ⟨_, rfl, (by show 2 ≤ sizeLine; decide), fun tp ntp => ?_⟩
    have s1 : Same H (upd H tp (.tup [.ty "list", .ty "tuple"])) := Same.new ntp
    have ht : upd H tp (.tup [.ty "list", .ty "tuple"]) tp = some (.tup [.ty "list", .ty "tuple"]) := upd_same
    generalize upd H tp (.tup [.ty "list", .ty "tuple"]) = H1 at s1 ht ⊢
    have ha1 := s1 _ _ ha
    have mv1 := mv.same s1
    have lx := mv.len
    refine ⟨_, tp, _, _, _, _, rfl, ht, .cons (.ty "list") (.cons (.ty "tuple") .nil), .base (.lst ha1), kitAny_lt, _, rfl, iteT ?_⟩
    refine ⟨_, rfl, a, rfl, ⟨xs, SqL.of ha1⟩, fun D nD => ?_⟩
    refine lc_list (K := K) (a := a) (xs := xs) (fun i Hh => Same H1 Hh ∧ H1 D = none ∧ Hh D = some (.lst (List.replicate i (V.bl true)))) ⟨Same.new nD, nD, upd_same⟩ (fun i Hh _ p => SqL.of (p.1 _ _ ha1)) ?_ ?_
    · intro i z Hh hi p
      obtain ⟨m, hm, mz⟩ := mv1.at hi
      obtain ⟨y, dy, rfl, hy⟩ := mz.same p.1
      obtain ⟨fs, eo⟩ := mv_at c m dy
      obtain ⟨cl, ca, mr, ki⟩ := C.cl m.kind (kind_lt m)
      have il : i < xs.length := by
        by_cases q : i < xs.length
        · exact q
        · rw [List.getElem?_eq_none (by omega)] at hi
          cases hi
      refine ⟨rfl, ?_⟩
      unfold tYes
      dsimp only
      refine iteT ⟨_, rfl, _, _, _, _, _, rfl, .own MV, .base (.ins (by rw [hy, eo]) cl ca C.gn C.tk mr), ki, _, p.2.2, ?_, fun c o h => ?_, p.2.1, ?_⟩
      · rw [List.length_replicate]
        exact Nat.lt_of_lt_of_le (m := 1001) (by omega) (by decide)
      · rw [upd_ne (ne_of_none h p.2.1)]
        exact p.1 c o h
      · rw [upd_same, List.replicate_succ']
    · intro Hh p
      obtain ⟨s2, _, e⟩ := p
      refine ⟨D, List.replicate xs.length true, rfl, SqL.of (by rw [e, rep_bl]), ?_⟩
      have z : (List.replicate xs.length true).all id = true := by
        rw [List.all_eq_true]
        intro x hx
        rw [List.eq_of_mem_replicate hx]
        rfl
      rw [z]
      exact k _ (s1.trans s2)
abbrev CalIsMM (P : Program) (w : World) (K : PySem.W.Frag) (mg : Str → Option Value) (base : Heap) (c : Cl) : Prop := Cal P w K mg base CX0 "is_moves" 1 ["value"] (spIsMM c)
theorem scHInit : FnScope ["self", "moves"] ["self", "moves"] (defScope sHInit) := ⟨rfl, rfl, rfl, by decide +kernel, rfl, by decide +kernel, by decide +kernel⟩
theorem ok_hInitM {f : Addr} {c : Cl} {fd : FuncData} {dvs : List V} (F : FunD K "__init__" "History.__init__" (defArgs sHInit) (defBody sHInit) (defScope sHInit) dvs [] f fd) (cl : Cls K c.Hi) (nM : NoAttr K c.Hi "moves") (cI : CalIsMM P w K mg base c) (zt : mg "tuple" = none) :
    FnOk P w K mg base CX0 3 f fd ["self", "moves"] (spHIM c) := by
  obtain ⟨fA, fdA, GA, mA, kA, bA⟩ := cI
  refine F.ok scHInit (fun vs H Q E h => ?_) (fun cdv A outer s H vs Q E hr h => ?_)
  · obtain ⟨x, dx, a, xs, ms, rfl, _⟩ := h
    rfl
  · obtain ⟨x, dx, a, xs, ms, rfl, hx, ha, mv, n, q1⟩ := h
    refine ⟨_, pss_cons (ps_if (pt_not (pt_val (pe_call GA (hr.mono (by decide)) rfl mA kA bA .nil pass0 (pa_cons (pv 1) pa_nil)))) (pss_one ps_never) pss_nil)
      (pss_one (ps_fld (pv 0) (pe_callTy call_tuple_of (by rfl) zt (by decide +kernel) (pa_cons (pv 1) pa_nil)) rfl)), ?_⟩
    refine ⟨_, rfl, a, xs, ms, rfl, ha, mv, n, fun H1 s1 => ⟨_, rfl, ?_⟩⟩
    have hx1 := s1 _ _ hx
    refine iteF ⟨_, rfl, a, xs, rfl, .inl ⟨SqL.of (s1 _ _ ha), fun l nl => ?_⟩⟩
    have nxl : x ≠ l := ne_of_none hx1 nl
    refine ⟨_, rfl, x, c.Hi, dx, _, rfl, (by rw [upd_ne nxl]; exact hx1), cl, nM, (by show 0 < 1000; decide), ?_⟩
    refine q1 l _ (fun c o nc h => ?_) upd_same ?_
    · rw [upd_ne nc, upd_ne (ne_of_none (s1 _ _ h) nl)]
      exact s1 _ _ h
    · rw [upd_ne (Ne.symm nxl)]
      exact upd_same
end
end V3

set_option Elab.async false
set_option linter.all false
set_option maxRecDepth 100000
namespace V3
open PySem L2 TL
def spRead (c : Cl) : Sp := fun vs H Q _ => ∃ ms : List Mv, vs = [.ref c.Hi, .str (hText ms)] ∧ (∀ m ∈ ms, m.ok) ∧ ms.length ≤ 1000 ∧ ∀ v H', Same H H' → HiAt c H' v ms → Q v H'
def spHStr (c : Cl) : Sp := fun vs H Q _ => ∃ v ms, vs = [v] ∧ HiAt c H v ms ∧ (∀ m ∈ ms, m.ok) ∧ ms.length ≤ 1000 ∧ ∀ H', Same H H' → Q (.str (hText ms)) H'
def spHEq (c : Cl) : Sp := fun vs H Q _ => ∃ u v ms, vs = [u, v] ∧ HiAt c H u ms ∧ HiAt c H v ms ∧ (∀ m ∈ ms, m.ok) ∧ ∀ H', Same H H' → Q (.bl true) H'
/-- the two moves are the same -/
def DMv (c : Cl) : Eqv := fun x y H => ∃ m : Mv, MvAt c H x m ∧ MvAt c H y m ∧ m.ok
theorem mon_mv {c : Cl} : Mon (DMv c) := fun x y H H' e d => by
  obtain ⟨m, hx, hy, ok⟩ := d
  exact ⟨m, hx.same e, hy.same e, ok⟩
theorem prs_mv {c : Cl} {H : Hp} : ∀ {xs ys : List V} {ms : List Mv}, MvsAt c H xs ms → MvsAt c H ys ms → (∀ m ∈ ms, m.ok) → Prs (DMv c) xs ys H
  | [], [], [], _, _, _ => Prs.nil
  | x :: xs, y :: ys, m :: ms, h, h2, ok => Prs.cons ⟨m, h.1, h2.1, ok m (List.mem_cons_self ..)⟩ (prs_mv h.2 h2.2 fun m hm => ok m (List.mem_cons_of_mem _ hm))
  | [], _, _ :: _, h, _, _ => h.elim
  | _ :: _, _, [], h, _, _ => h.elim
  | _, [], _ :: _, _, h, _ => h.elim
  | _, _ :: _, [], _, h, _ => h.elim
structure EqTxt (P : Program) (w : World) (K : PySem.W.Frag) (mg : Str → Option Value) (base : Heap) (c : Cl) : Prop where
  e : ∀ k, k < 4 → ∃ (f : Addr) (fd : FuncData), FnOk P w K mg base CX0 4 f fd ["self", "other"] (spMEq c) ∧ EqCls K (c.at k) f ∧ Binds K fd ["self", "other"] []
section
variable {X : Cx} {c : Cl}
theorem rcG_mv (T : EqTxt X.prog X.w X.K X.mg X.base c) : RcG X 4 (DMv c) := by
  intro A pins s σ H x y u v sb I rx ry d
  obtain ⟨m, ⟨a, dx, rfl, ha⟩, ⟨b, dy, rfl, hb⟩, ok⟩ := d
  obtain ⟨f, fd, F, ec, bi⟩ := T.e m.kind (kind_lt m)
  obtain ⟨fs, eo⟩ := mv_at c m dx
  obtain ⟨gs, eo2⟩ := mv_at c m dy
  cases rx
  cases ry
  obtain ⟨mA, J, _⟩ := ins_get I.hok (ha.trans (congrArg some eo))
  obtain ⟨mB, J', _⟩ := ins_get I.hok (hb.trans (congrArg some eo2))
  obtain ⟨od, J, _⟩ := J.look
  obtain ⟨od', J', _⟩ := J'.look
  obtain ⟨mm, hF⟩ := I.fr
  refine PySem.W.cmp_K (op := .Eq) (tb := .ref (c.at m.kind)) sb.room.units0 hF I.ok.mod.kin J J'.type (by simp [PySem.W.notFirst]) ec.eq ec.fn ?_
  refine wpAny_mono (run_own (x := .ref a) (y := .ref b) (E := fun _ _ _ => False) (Q := fun v H' => v = .bl true ∧ H' = H) sb F bi pass0 I rfl rfl ⟨_, _, m, m, rfl, ⟨a, dx, rfl, ha⟩, ⟨b, dy, rfl, hb⟩, ok, ok, by rw [decide_eq_true rfl], rfl⟩) (fun w s' q => ?_) fun _ _ e => e
  obtain ⟨z, H', I', rz, ez, eH⟩ := q
  subst ez
  subst eH
  cases rz
  exact ⟨rfl, H', I', Ext.rfl'⟩
theorem eqG_mv (T : EqTxt X.prog X.w X.K X.mg X.base c) : EqG X 4 (DMv c) := (rcG_mv T).eqG fun _ _ _ d => by
  obtain ⟨m, ⟨a, dx, rfl, ha⟩, ⟨b, dy, rfl, hb⟩, ok⟩ := d
  exact ⟨a, b, rfl, rfl⟩
end
structure HiCls (K : PySem.W.Frag) (c : Cl) : Prop where
  cl : Cls K c.Hi
  nM : NoAttr K c.Hi "moves"
  ca : PySem.W.findIn K (.ref c.Hi) "__class__" = some (some (.builtin "object.__class__"))
  gn : PySem.W.specialIn K (.builtin "object.__class__") "__get__" = some (some (.builtin "getset_descriptor.__get__"))
  tk : PySem.W.takesIn K (.builtin "object.__class__") = some true
  mr : PySem.W.mroIn K c.Hi (.type "object") = some true
  ki : PySem.W.kitOne K (.ref c.Hi) (.ref c.Hi) = some true
section
variable {P : Program} {w : World} {K : PySem.W.Frag} {mg : Str → Option Value} {base : Heap}
theorem sum_texts : ∀ {ms : List Mv}, (∀ m ∈ ms, m.ok) → ((ms.map Mv.text).map (·.length)).sum ≤ ms.length * 5000
  | [], _ => Nat.le_refl _
  | m :: ms, h => by
    have ih := sum_texts (ms := ms) fun z hz => h z (List.mem_cons_of_mem _ hz)
    have z := text_len (h m (List.mem_cons_self ..))
    rw [List.map_cons, List.map_cons, List.sum_cons, List.length_cons, Nat.succ_mul]
    omega
theorem scHRead : FnScope ["cls", "text"] ["cls", "text"] (defScope sHRead) := ⟨rfl, rfl, rfl, by decide +kernel, rfl, by decide +kernel, by decide +kernel⟩
theorem scHStr : FnScope ["self", "move"] ["self"] (defScope sHStr) := ⟨rfl, rfl, rfl, by decide +kernel, rfl, by decide +kernel, by decide +kernel⟩
theorem scHEq : FnScope ["self", "other"] ["self", "other"] (defScope sHEq) := ⟨rfl, rfl, rfl, by decide +kernel, rfl, by decide +kernel, by decide +kernel⟩
abbrev CalReadMoves (P : Program) (w : World) (K : PySem.W.Frag) (mg : Str → Option Value) (base : Heap) (c : Cl) : Prop := Cal P w K mg base CX0 "read_moves" 8 ["text"] (spRMs c)
/-- History's making -/
structure HiTxt (P : Program) (w : World) (K : PySem.W.Frag) (mg : Str → Option Value) (base : Heap) (c : Cl) : Prop where
  g : mg "History" = some (.ref c.Hi)
  ini : ∃ (f : Addr) (fd : FuncData), FnOk P w K mg base CX0 3 f fd ["self", "moves"] (spHIM c) ∧ Mk K c.Hi f ∧ Binds K fd ["self", "moves"] []
theorem hi_made {c : Cl} {H H' : Hp} {x dx q : Addr} {xs : List V} {ms : List Mv} (nx : H x = none) (ndx : H dx = none) (mv : MvsAt c H xs ms) (s : ∀ d o, d ≠ x → upd (upd H dx (.own x)) x (.ins c.Hi dx []) d = some o → H' d = some o)
    (hx : H' x = some (hist c.Hi dx q)) (hq : H' q = some (.tup xs)) : Same H H' ∧ HiAt c H' (.ref x) ms := by
  have S : Same H H' := fun d o e => by
    have n1 := ne_of_none e nx
    refine s d o n1 ?_
    rw [upd_ne n1, upd_ne (ne_of_none e ndx)]
    exact e
  exact ⟨S, x, dx, q, xs, rfl, hx, hq, mv.same S⟩
theorem ok_hRead {f : Addr} {c : Cl} {fd : FuncData} (F : Fun K "read" "History.read" sHRead f fd) (cR : CalReadMoves P w K mg base c) (T : HiTxt P w K mg base c) : FnOk P w K mg base CX0 9 f fd ["cls", "text"] (spRead c) := by
  obtain ⟨fR, fdR, GR, mR, kR, bR⟩ := cR
  obtain ⟨fI, fdI, GI, MI, bI⟩ := T.ini
  refine F.ok scHRead (fun vs H Q E h => ?_) (fun cdv A outer s H vs Q E hr h => ?_)
  · obtain ⟨ms, rfl, _⟩ := h
    rfl
  · obtain ⟨ms, rfl, ok, n, k⟩ := h
    refine ⟨_, pss_one (ps_ret (pe_makeL (i := 0) (E := fun _ _ _ => False) MI GI (hr.mono (by decide)) rfl (Or.inl rfl) bI .nil pass0 (pa_cons (pe_call (E := fun _ _ _ => False) GR hr rfl mR kR bR .nil pass0 (pa_cons (pv 1) pa_nil)) pa_nil))), ?_⟩
    refine ⟨rfl, _, rfl, ms, rfl, ok, n, fun D xs H1 s1 hD mv x dx nx ndx ne => ⟨x, dx, D, xs, ms, rfl, upd_same, made_same nx ndx _ _ hD, mv.same (made_same nx ndx), n, fun q H' s hx hq => ⟨rfl, ?_⟩⟩⟩
    obtain ⟨S, hi⟩ := hi_made nx ndx mv s hx hq
    exact k _ H' (s1.trans S) hi
theorem ok_hStr {f : Addr} {c : Cl} {fd : FuncData} (F : Fun K "__str__" "History.__str__" sHStr f fd) (S : StrTxt P w K mg base c) (C : HiCls K c) (zs : mg "str" = none) : FnOk P w K mg base CX0 4 f fd ["self"] (spHStr c) := by
  refine F.ok scHStr (fun vs H Q E h => ?_) (fun cdv A outer s H vs Q E hr h => ?_)
  · obtain ⟨v, ms, rfl, _⟩ := h
    rfl
  · obtain ⟨v, ms, rfl, ⟨x, dx, q, xs, rfl, hx, hq, mv⟩, ok, n, k⟩ := h
    refine ⟨_, pss_one (ps_ret (pe_join pe_str (pe_lc (own := [("move", 1)]) (g := gName 1) (tt := tYes) (te := tCB (rStrM c) (tCons (tVar 1) tNil)) (by rfl) scHStr.nd (pi_tup (pe_fld (pv 0) rfl)) (blkOk_by (own := [("move", 1)]) (N := ["self", "move"]) (sc := defScope sHStr) (by decide +kernel)) (fun _ _ _ _ _ => pg_name (i := 1) scHStr.nd rfl (Or.inl rfl)) (fun _ _ _ _ _ => pts_nil)
          (fun _ _ _ _ _ => pe_callTy (call_strM S hr) (by rfl) zs (by decide +kernel) (pa_cons (pv 1) pa_nil))))), ?_⟩
    refine ⟨⟨_, rfl⟩, _, rfl, x, c.Hi, dx, _, _, rfl, hx, C.cl, C.nM, rfl, q, rfl, ⟨xs, SqT.of hq⟩, fun D nD => ?_⟩
    have lx := mv.len
    refine lc_tup (K := K) (a := q) (xs := xs) (fun i Hh => Same H Hh ∧ H D = none ∧ Hh D = some (.lst (((ms.take i).map Mv.text).map V.str))) ⟨Same.new nD, nD, upd_same⟩ (fun i Hh _ p => SqT.of (p.1 _ _ hq)) ?_ ?_
    · intro i z Hh hi p
      obtain ⟨m, hm, mz⟩ := mv.at hi
      refine ⟨rfl, ?_⟩
      unfold tYes
      dsimp only
      refine iteT ⟨_, rfl, _, m, rfl, mz.same p.1, ok m (List.mem_of_getElem? hm), _, p.2.2, ?_, fun c o h => ?_, p.2.1, ?_⟩
      · rw [List.length_map, List.length_map, List.length_take]
        exact Nat.lt_of_lt_of_le (m := 1001) (by omega) (by decide)
      · rw [upd_ne (ne_of_none h p.2.1)]
        exact p.1 c o h
      · rw [upd_same, take_next' hm, List.map_append, List.map_append]
        rfl
    · intro Hh p
      obtain ⟨s2, _, e⟩ := p
      rw [lx, List.take_length] at e
      refine ⟨semi, D, ms.map Mv.text, rfl, rfl, .inl (SqL.of e), ?_, ?_⟩
      · have z := sum_texts ok
        have e2 : (semi).length = 2 := by decide +kernel
        rw [e2, List.length_map]
        exact Nat.le_trans (Nat.add_le_add_right z _) (by omega)
      · rw [join_eq]
        exact k _ s2
theorem ok_hEq {f : Addr} {c : Cl} {fd : FuncData} (F : Fun K "__eq__" "History.__eq__" sHEq f fd) (T : EqTxt P w K mg base c) (C : HiCls K c) (zi : mg "isinstance" = none) (gH : mg "History" = some (.ref c.Hi)) : FnOk P w K mg base CX0 6 f fd ["self", "other"] (spHEq c) := by
  refine F.ok scHEq (fun vs H Q E h => ?_) (fun cdv A outer s H vs Q E hr h => ?_)
  · obtain ⟨u, v, ms, rfl, _⟩ := h
    rfl
  · obtain ⟨u, v, ms, rfl, ⟨x, dx, q, xs, rfl, hx, hq, mv⟩, ⟨x2, dx2, q2, xs2, rfl, hx2, hq2, mv2⟩, ok, k⟩ := h
    refine ⟨_, pss_one (ps_ret (pe_and (pe_callB call_isi (by rfl) zi (by decide +kernel) (pa_cons (pv 1) (pa_cons (pe_glob (v := .ref c.Hi) rfl gH rfl) pa_nil))) (pe_one (pe_cmpR (op_eqG (n := 5) (rcG_tup mon_mv (eqG_mv T)) hr) (pe_fld (pv 0) rfl) (pe_fld (pv 1) rfl) (nomark _))))), ?_⟩
    refine ⟨_, rfl, _, _, _, _, _, rfl, .own c.Hi, .base (.ins hx2 C.cl C.ca C.gn C.tk C.mr), C.ki, _, rfl, iteT ⟨_, rfl, x, c.Hi, dx, _, _, rfl, hx, C.cl, C.nM, rfl, _, rfl, x2, c.Hi, dx2, _, _, rfl, hx2, C.cl, C.nM, rfl, ⟨q, q2, xs, xs2, rfl, rfl, SqT.of hq, SqT.of hq2, prs_mv mv mv2 ok⟩, fun H' e => k H' e⟩⟩
end
end V3

set_option Elab.async false
set_option linter.all false
set_option maxRecDepth 100000
namespace V3
open PySem L2 TL
abbrev sEmpty : Stmt := top 62
-- no sBooksL
abbrev sLawText : Stmt := top 72
/-- a drawn move -/
def TmA (m : Mv) : V → Hp → Prop := fun v H => TupAt H v m
instance {m : Mv} : StL (TmA m) := ⟨fun _ _ _ s ⟨p, e, h⟩ => ⟨p, e, s _ _ (fun _ z => by cases z) h⟩⟩
def spEmpty : Sp := fun vs H Q _ => vs = [] ∧ ∀ u H', Same H H' → LBk b0 u H' → Q u H'
/-- the books ahead of moves and behind each that is let -/
def booksB (h : Hs) : Bk → List Mv → List Bk
  | b, [] => [b]
  | b, m :: r => b :: (match doB h b m with
    | some b' => booksB h b' r
    | none => [])
def spBooksL : Sp := fun vs H Q _ => ∃ (hv lv : V) (h : Hs) (ms : List Mv), vs = [hv, lv] ∧ HtA h hv H ∧ isL TmA ms lv H ∧ h.ok ∧ (∀ m ∈ ms, m.ok) ∧ ms.length ≤ 200 ∧ ∀ D us H', H D = none → Same H H' → H' D = some (.lst us) → Ls (fun u b => LBk b u H') us (booksB h b0 ms) → Q (.ref D) H'
def spTexts : Sp := fun vs H Q _ => ∃ (lv : V) (ms : List Mv), vs = [lv] ∧ isL TmA ms lv H ∧ (∀ m ∈ ms, m.ok) ∧ ms.length ≤ 200 ∧ ∀ H', Same H H' → Q (.str (hText ms)) H'
theorem do_len {h : Hs} {b b' : Bk} {m : Mv} (e : doB h b m = some b') : b'.es.length ≤ b.es.length + 2 := by
  have tk : ∀ (j : Nat) (o : Option Int), takeB h b j o = some b' → b'.es.length ≤ b.es.length + 2 := fun j o e => by
    unfold takeB at e
    split at e
    · split at e
      · cases e
      · split at e
        · cases e
        · split at e
          · cases e
          · split at e
            · cases e
            · cases e
              simp
    · cases e
  cases m with
  | beg a => cases (show some (Bk.mk _ _) = some b' from e); simp
  | take t => exact tk _ _ e
  | takeBy t a => exact tk _ _ e
  | shut => cases (show some (Bk.mk _ _) = some b' from e); simp
  | right t a =>
    have e : rightB h b t.toNat a = some b' := e
    unfold rightB at e
    split at e
    · split at e
      · cases e
      · split at e
        · cases e
        · cases e
          simp
    · cases e
theorem Wf.play {h : Hs} : ∀ {ms : List Mv} {b b' : Bk}, Wf b → playB h b ms = some b' → Wf b' ∧ b'.es.length ≤ b.es.length + 2 * ms.length
  | [], b, b', w, e => by
    cases (show some b = some b' from e)
    exact ⟨w, by simp⟩
  | m :: r, b, b', w, e => by
    have e : (match doB h b m with
      | none => none
      | some b' => playB h b' r) = some b' := e
    cases d : doB h b m with
    | none => rw [d] at e; cases e
    | some b1 =>
      rw [d] at e
      have z := Wf.play (w.do d) e
      have l := do_len d
      refine ⟨z.1, ?_⟩
      have := z.2
      simp only [List.length_cons]
      omega
theorem play_snoc {h : Hs} {m : Mv} : ∀ {ms : List Mv} {b : Bk}, playB h b (ms ++ [m]) = (playB h b ms).bind fun b' => doB h b' m
  | [], b => by
    show (match doB h b m with
      | none => none
      | some b' => some b') = doB h b m
    cases doB h b m <;> rfl
  | x :: r, b => by
    show (match doB h b x with
      | none => none
      | some b' => playB h b' (r ++ [m])) = (match doB h b x with
      | none => none
      | some b' => playB h b' r).bind _
    cases doB h b x with
    | none => rfl
    | some b1 => exact play_snoc
theorem books_cut {h : Hs} : ∀ {ms : List Mv} {b : Bk} {i : Nat} {b' : Bk}, i ≤ ms.length → playB h b (ms.take i) = some b' → ∃ bs : List Bk, bs.length = i ∧ booksB h b ms = bs ++ booksB h b' (ms.drop i) ∧ ∀ k, k < i → playB h b (ms.take k) = bs[k]?
  | ms, b, 0, b', _, e => by
    rw [List.take_zero] at e
    cases (show some b = some b' from e)
    exact ⟨[], rfl, by simp, fun k hk => absurd hk (Nat.not_lt_zero _)⟩
  | [], _, i + 1, _, h, _ => absurd h (by simp)
  | m :: r, b, i + 1, b', hl, e => by
    have e : (match doB h b m with
      | none => none
      | some b' => playB h b' (r.take i)) = some b' := e
    cases d : doB h b m with
    | none => rw [d] at e; cases e
    | some b1 =>
      rw [d] at e
      obtain ⟨bs, l, q, z⟩ := books_cut (ms := r) (i := i) (by simpa using hl) e
      refine ⟨b :: bs, by simp [l], ?_, fun k hk => ?_⟩
      · show b :: (match doB h b m with
          | some b' => booksB h b' r
          | none => []) = _
        rw [d]
        show b :: booksB h b1 r = b :: (bs ++ booksB h b' (r.drop i))
        rw [q]
      · cases k with
        | zero => rfl
        | succ k =>
          show (match doB h b m with
            | none => none
            | some b' => playB h b' (r.take k)) = _
          rw [d]
          exact z k (by omega)
theorem sum_texts' : ∀ {l : List Mv}, (∀ m ∈ l, m.ok) → ((l.map Mv.text).map (·.length)).sum ≤ 5000 * l.length
  | [], _ => by simp
  | m :: l, h => by
    have a := text_len (h m (List.mem_cons_self ..))
    have b := sum_texts' (l := l) fun x hx => h x (List.mem_cons_of_mem _ hx)
    simp only [List.map_cons, List.sum_cons, List.length_cons]
    omega
section
variable {K : PySem.W.Frag} {σ : L2.St} {ta tb te : TE} {H0 : Hp} {b : Bk} {j : Nat} {h : Hs} {ms : List Mv}
theorem ev_texts (ok : ∀ m ∈ ms, m.ok) (n : ms.length ≤ 200) (ha : EvV (Same H0) σ ta (isL TmA ms)) : EvV (Same H0) σ (tCall spTexts [] E0 (tCons ta tNil)) (isSv (hText ms)) :=
  ev_call (eva_cons ha eva_nil) fun vs H Q _ r k => by
    obtain ⟨v, r, rfl, hv, rfl⟩ := r
    exact ⟨v, ms, rfl, hv, ok, n, fun H' s => k _ H' s rfl⟩
theorem ev_mvText {m : Mv} (ok : m.ok) (ha : EvV (Same H0) σ ta (TmA m)) : EvV (Same H0) σ (tCall spText [] E0 (tCons ta tNil)) (isSv m.text) :=
  ev_call (eva_cons ha eva_nil) fun vs H Q _ r k => by
    obtain ⟨v, r, rfl, hv, rfl⟩ := r
    exact ⟨v, m, rfl, hv, ok, k _ H (Same.refl H) rfl⟩
theorem ev_empty : EvV (Same H0) σ (tCall spEmpty [] E0 tNil) (LBk b0) := fun H Q w k => ⟨rfl, fun u H' s e => k u H' s (w.trans s) e⟩
end
section
variable {P : Program} {w : World} {K : PySem.W.Frag} {mg : Str → Option Value} {base : Heap}
theorem scEmpty : FnScope [] [] (defScope sEmpty) := ⟨rfl, rfl, rfl, by decide +kernel, rfl, by decide +kernel, by decide +kernel⟩
theorem scLawText : FnScope ["_law_moves", "_law_move"] ["_law_moves"] (defScope sLawText) := ⟨rfl, rfl, rfl, by decide +kernel, rfl, by decide +kernel, by decide +kernel⟩
theorem ok_empty {f : Addr} {fd : FuncData} (F : Fun K "_law_empty" "_law_empty" sEmpty f fd) : FnOk P w K mg base CX0 1 f fd [] spEmpty := by
  refine F.ok scEmpty (fun vs H Q E h => ?_) (fun cdv A outer s H vs Q E hr h => ?_)
  · obtain ⟨rfl, _⟩ := h
    rfl
  · obtain ⟨rfl, k⟩ := h
    refine ⟨_, (pss_one (ps_ret (pe_tup (pa_cons (pe_tup pa_nil) (pa_cons pe_int pa_nil))))), ?_⟩
    exact ev_mkBk (H0 := H) (es := []) (m := 0) (ev_tupU evl_nil (by decide)) ev_int H _ (Same.refl _) fun u H1 s1 _ eu => k _ _ s1 eu
theorem ok_lawTexts {f : Addr} {fd : FuncData} (F : Fun K "_law_text" "_law_text" sLawText f fd) (cT : Cal P w K mg base CX0 "_law_move_text" 1 ["_law_move"] spText) : FnOk P w K mg base CX0 2 f fd ["_law_moves"] spTexts := by
  obtain ⟨fT, fdT, GT, mT, kT, bT⟩ := cT
  refine F.ok scLawText (fun vs H Q E h => ?_) (fun cdv A outer s H vs Q E hr h => ?_)
  · obtain ⟨lv, ms, rfl, _⟩ := h
    rfl
  · obtain ⟨lv, ms, rfl, hl, ok, n, k⟩ := h
    refine ⟨_, (pss_one (ps_ret (pe_joinK pe_str (pe_lc (own := [("_law_move", 1)]) (g := gName 1) (tt := tYes) (te := tCall spText [] E0 (tCons (tVar 1) tNil)) (by rfl) scLawText.nd (pi_list (pv 0)) (blkOk_by (own := [("_law_move", 1)]) (N := ["_law_moves", "_law_move"]) (sc := defScope sLawText) (by decide +kernel)) (fun _ _ _ _ _ => (pg_name (i := 1) scLawText.nd rfl (Or.inl rfl))) (fun _ _ _ _ _ => pts_nil) (fun _ _ _ _ _ => (pe_call GT hr rfl mT kT bT .nil pass0 (pa_cons (pv 1) pa_nil))))))), ?_⟩
    have e : ("; " : Str) = semi := rfl
    refine ⟨⟨_, rfl⟩, ev_lcY (H0 := H) (S := TmA) (S' := isSv) Mv.text (evi_list (ev_v rfl hl)) (by omega) (fun m hm x H1 w1 r => ev_mvText (ok m hm) (ev_v rfl r)) (fun _ => rfl) H _ (Same.refl _) fun v H1 s1 _ hv => ?_⟩
    obtain ⟨D, us, rfl, hD, l⟩ := hv
    have el := l.toStrs
    subst el
    refine ⟨semi, D, ms.map Mv.text, rfl, rfl, .inl (SqL.of hD), ?_, by rw [join_eq]; exact k _ s1⟩
    have z := sum_texts' ok
    have e2 : (semi).length = 2 := by decide +kernel
    rw [e2, List.length_map]
    omega
end
end V3

set_option Elab.async false
set_option linter.all false
set_option maxRecDepth 100000
/-! drawn histories that a house lets; how great amounts become -/
namespace V3
open PySem L2 TL
abbrev sDrawn : Stmt := top 73
abbrev sHistory : Stmt := top 74
def sN (es : List En) : Nat := (es.map fun e => e.am.natAbs).sum
def absN (ls : List Int) : Nat := (ls.map Int.natAbs).sum
theorem abs_set {x : Int} : ∀ {ls : List Int} {t : Nat}, t < ls.length → absN (ls.set t x) + (ls.getD t 0).natAbs = absN ls + x.natAbs
  | [], t, h => absurd h (Nat.not_lt_zero _)
  | a :: r, 0, _ => by
    show (x :: r).map Int.natAbs |>.sum |> (· + a.natAbs) |> (· = _)
    simp only [absN, List.map_cons, List.sum_cons]
    omega
  | a :: r, t + 1, h => by
    have z := abs_set (x := x) (ls := r) (t := t) (by simpa using h)
    have g : (a :: r).getD (t + 1) 0 = r.getD t 0 := by simp
    rw [g]
    simp only [List.set_cons_succ, absN, List.map_cons, List.sum_cons]
    simp only [absN] at z
    omega
theorem abs_take {ls : List Int} {k : Nat} (h : k < ls.length) : absN (ls.take (k + 1)) = absN (ls.take k) + (ls.getD k 0).natAbs := by
  rw [List.take_succ, getD_at h]
  simp [absN]
theorem left_from {es : List En} (w : ∀ j t, taAt es j = some t → t < j) : ∀ (k : Nat) (ls : List Int), k ≤ ls.length → (∀ j, j < k → ((leftsFrom es k ls).getD j 0).natAbs ≤ absN (ls.take k)) ∧ ∀ j, k ≤ j → (leftsFrom es k ls).getD j 0 = ls.getD j 0
  | 0, ls, _ => ⟨fun j h => absurd h (Nat.not_lt_zero _), fun _ _ => rfl⟩
  | k + 1, ls, hk => by
    obtain ⟨a, c⟩ := left_from w k (leftStep es ls k) (by rw [leftStep_len]; omega)
    have hs : (leftStep es ls k).getD k 0 = ls.getD k 0 ∧ (∀ j, k < j → (leftStep es ls k).getD j 0 = ls.getD j 0) ∧ absN ((leftStep es ls k).take k) ≤ absN (ls.take k) + (ls.getD k 0).natAbs := by
      cases e : taAt es k with
      | none =>
        rw [leftStep_none e]
        exact ⟨rfl, fun _ _ => rfl, Nat.le_add_right _ _⟩
      | some t =>
        have tk := w k t e
        rw [leftStep_some e]
        refine ⟨?_, fun j hj => ?_, ?_⟩
        · simp only [List.getD_eq_getElem?_getD]
          rw [List.getElem?_set_ne (by omega)]
        · simp only [List.getD_eq_getElem?_getD]
          rw [List.getElem?_set_ne (by omega)]
        · rw [List.take_set]
          have z := abs_set (x := ls.getD t 0 - ls.getD k 0) (ls := ls.take k) (t := t) (by rw [List.length_take]; omega)
          have g : (ls.take k).getD t 0 = ls.getD t 0 := by
            simp only [List.getD_eq_getElem?_getD]
            rw [List.getElem?_take_of_lt tk]
          rw [g] at z
          omega
    obtain ⟨e1, e2, e3⟩ := hs
    rw [abs_take (by omega)]
    refine ⟨fun j hj => ?_, fun j hj => ?_⟩
    · show ((leftsFrom es k (leftStep es ls k)).getD j 0).natAbs ≤ _
      by_cases q : j < k
      · have := a j q
        omega
      · have : j = k := by omega
        subst this
        rw [c _ (Nat.le_refl _), e1]
        omega
    · show (leftsFrom es k (leftStep es ls k)).getD j 0 = _
      rw [c j (by omega), e2 j (by omega)]
theorem left_le {b : Bk} (w : Wf b) (j : Nat) : (leftAt b.es j).natAbs ≤ sN b.es := by
  obtain ⟨a, c⟩ := left_from w.ta b.es.length (b.es.map (·.am)) (by rw [List.length_map]; exact Nat.le_refl _)
  have e : absN ((b.es.map (·.am)).take b.es.length) = sN b.es := by
    rw [List.take_of_length_le (by rw [List.length_map]; exact Nat.le_refl _)]
    unfold absN sN
    rw [List.map_map]
    rfl
  by_cases q : j < b.es.length
  · have z := a j q
    rw [e] at z
    exact z
  · have z : leftAt b.es j = (b.es.map (·.am)).getD j 0 := c j (by omega)
    rw [z, List.getD_eq_getElem?_getD, List.getElem?_eq_none (by rw [List.length_map]; omega)]
    exact Nat.zero_le _
theorem am_le {es : List En} (j : Nat) : (amAt es j).natAbs ≤ sN es := by
  unfold amAt
  cases e : es[j]? with
  | none => exact Nat.zero_le _
  | some x =>
    have hx := List.mem_of_getElem? e
    clear e
    induction es with
    | nil => cases hx
    | cons a r ih =>
      have z : sN (a :: r) = a.am.natAbs + sN r := by simp [sN]
      rcases List.mem_cons.mp hx with rfl | hx
      · show x.am.natAbs ≤ _
        omega
      · have := ih hx
        omega
/-- no greater than what is there lets -/
def Small (b : Bk) : Mv → Prop
  | .beg a => a ≤ 1000000
  | .takeBy _ a => a ≤ (sN b.es : Int) + 1
  | .right _ a => a ≤ 9
  | _ => True
theorem sN_app {es fs : List En} : sN (es ++ fs) = sN es + sN fs := by simp [sN]
theorem sN_one {e : En} : sN [e] = e.am.natAbs := by simp [sN]
theorem do_sum {h : Hs} {b b' : Bk} {m : Mv} (w : Wf b) (ok : m.ok) (s : Small b m) (e : doB h b m = some b') : sN b'.es ≤ 2 * sN b.es + 1000000 := by
  have tk : ∀ (j : Nat) (o : Option Int), (∀ a, o = some a → 1 ≤ a ∧ a ≤ (sN b.es : Int) + 1) → takeB h b j o = some b' → sN b'.es ≤ 2 * sN b.es + 1000000 := fun j o so e => by
    unfold takeB at e
    split at e
    · split at e
      · cases e
      · split at e
        · cases e
        · split at e
          · cases e
          · split at e
            · cases e
            · cases e
              show sN (b.es ++ [_]) ≤ _
              rw [sN_app, sN_one]
              show _ + (o.getD (leftAt b.es j)).natAbs ≤ _
              have l := left_le w j
              cases o with
              | none =>
                show _ + (leftAt b.es j).natAbs ≤ _
                omega
              | some a =>
                have z := so a rfl
                show _ + a.natAbs ≤ _
                omega
    · cases e
  cases m with
  | beg a =>
    cases (show some (Bk.mk _ _) = some b' from e)
    have s : a ≤ 1000000 := s
    have ok : V3.Amt a := ok
    show sN (b.es ++ [_]) ≤ _
    rw [sN_app, sN_one]
    show _ + a.natAbs ≤ _
    have := ok.1
    omega
  | take t => exact tk _ _ (fun a q => by cases q) e
  | takeBy t a => exact tk _ _ (fun a' q => by cases q; exact ⟨ok.2.1, s⟩) e
  | shut =>
    cases (show some (Bk.mk _ _) = some b' from e)
    show sN b.es ≤ _
    omega
  | right t a =>
    have e : rightB h b t.toNat a = some b' := e
    have s : a ≤ 9 := s
    have o1 := ok.2.1
    unfold rightB at e
    split at e
    · split at e
      · cases e
      · split at e
        · cases e
        · cases e
          show sN (b.es ++ [_, _]) ≤ _
          rw [sN_app]
          have l := am_le (es := b.es) t.toNat
          have z : ∀ x y : En, sN [x, y] = x.am.natAbs + y.am.natAbs := fun x y => by simp [sN]
          rw [z]
          show _ + ((amAt b.es t.toNat).natAbs + a.natAbs) ≤ _
          omega
    · cases e
def isWh (P : Int → Prop) : V → Hp → Prop := fun v _ => ∃ a, v = .int a ∧ P a
instance {P : Int → Prop} : StL (isWh P) := ⟨fun _ _ _ _ h => h⟩
/-- a test whose answer stays unknown -/
def EvPB (b : Addr) (H0 : Hp) (σ : L2.St) (t : TT) : Prop := ∀ H Q, Pre b H0 H → (∀ r H', Pre b H H' → Q r H') → t σ H Q
section
variable {K : PySem.W.Frag} {σ : L2.St} {ta tb te tl : TE} {t : TT} {H0 : Hp} {R : V → Hp → Prop} {b : Addr} {i : Nat} {m k : Int} {P P' : Int → Prop}
theorem evp_if (c : EvPB b H0 σ t) (h1 : EvP b H0 σ ta R) (h2 : EvP b H0 σ tb R) : EvP b H0 σ (tIf t ta tb) R := fun H Q p k => c H _ p fun r H' p1 => by
  cases r with
  | true => exact iteT (h1 H' Q (p.trans p1) fun v H2 p2 r => k v H2 (p1.trans p2) r)
  | false => exact iteF (h2 H' Q (p.trans p1) fun v H2 p2 r => k v H2 (p1.trans p2) r)
theorem evpb_eq (h : EvP b H0 σ te (isWh P)) : EvPB b H0 σ (tTest (tOp rEq te (tC (.int k)))) := fun H Q p kk => h H _ p fun v H1 p1 ⟨a, ev, _⟩ => by
  cases ev
  exact ⟨rfl, _, rfl, kk _ _ p1⟩
theorem evpb_lt (h : EvP b H0 σ te (isWh P)) : EvPB b H0 σ (tTest (tOp (rI0 fun i j => .bl (decide (i < j))) te (tC (.int k)))) := fun H Q p kk => h H _ p fun v H1 p1 ⟨a, ev, _⟩ => by
  cases ev
  exact ⟨_, _, rfl, rfl, _, rfl, kk _ _ p1⟩
theorem ev_notN {u : V} (ha : EvV (Same H0) σ ta (isVv u)) : EvV (Same H0) σ (tOp (fun x y H Q => y = V.non ∧ Q (.bl (!decide (x = .non))) H) ta (tC .non)) (isBv (!decide (u = .non))) :=
  ev_o (Ra := isVv u) (Rb := isVv .non) ha ev_c fun a b H Q w ea eb k => by
    cases ea
    cases eb
    exact ⟨rfl, k _ H (Same.refl H) rfl⟩
theorem evp_w (h : EvP b H0 σ te (isIv m)) (c : P m) : EvP b H0 σ te (isWh P) := evp_to h fun v H e => ⟨m, e, c⟩
theorem evp_imp (h : EvP b H0 σ te (isWh P)) (c : ∀ a, P a → P' a) : EvP b H0 σ te (isWh P') := evp_to h fun v H ⟨a, e, r⟩ => ⟨a, e, c a r⟩
theorem evp_chooseW (hi : σ[i]? = some (some (.ref b))) (m2 : m ≤ 10000000000000000000000000000000000000000) (hm : EvP b H0 σ te (isWh fun x => 1 ≤ x ∧ x ≤ m)) : EvP b H0 σ (tCall spChoose [] E0 (tCons (tVar i) (tCons te tNil))) (isWh fun d => 0 ≤ d ∧ d < m) := fun H Q p k =>
  ⟨_, hi, hm H _ p fun v H1 p1 e => by
    obtain ⟨x, rfl, x1, xm⟩ := e
    obtain ⟨_, u, w, ok, hb⟩ := id p1
    exact ⟨b, u, w, x, rfl, hb, ok, x1, (by omega), fun d u' v' d0 d1 ok' => k _ _ (p1.trans (Pre.box ok')) ⟨d, rfl, d0, by omega⟩⟩⟩
/-- 1 + a number drawn -/
theorem evp_succ (h : EvP b H0 σ te (isWh fun d => 0 ≤ d ∧ d < m)) : EvP b H0 σ (tOp (rI0 fun i j => .int (i + j)) (tC (.int 1)) te) (isWh fun a => 1 ≤ a ∧ a ≤ m) := fun H Q p k =>
  h H _ p fun v H1 p1 ⟨d, e, d0, d1⟩ => by
    cases e
    exact ⟨1, d, rfl, rfl, k _ _ p1 ⟨1 + d, rfl, by omega, by omega⟩⟩
theorem evp_tm2 {s : Str} (ha : EvP b H0 σ ta (isWh P)) : EvP b H0 σ (tTup (tCons (tC (.str s)) (tCons ta tNil))) (fun v H => ∃ a, P a ∧ ∃ p, v = .ref p ∧ H p = some (.tup [.str s, .int a])) := fun H Q p k =>
  ha H _ p fun v H1 p1 ⟨a, e, r⟩ => by
    cases e
    exact ⟨(by show 2 ≤ sizeLine; decide), fun D nD => k _ _ (p1.then (Same.new nD)) ⟨a, r, D, rfl, upd_same⟩⟩
theorem evp_tm3 {s : Str} (ha : EvP b H0 σ ta (isWh P)) (hb : EvP b H0 σ tb (isWh P')) : EvP b H0 σ (tTup (tCons (tC (.str s)) (tCons ta (tCons tb tNil)))) (fun v H => ∃ a c, P a ∧ P' c ∧ ∃ p, v = .ref p ∧ H p = some (.tup [.str s, .int a, .int c])) := fun H Q p k =>
  ha H _ p fun v H1 p1 ⟨a, e, r⟩ => hb H1 _ (p.trans p1) fun y H2 p2 ⟨c, e2, r2⟩ => by
    cases e
    cases e2
    exact ⟨(by show 3 ≤ sizeLine; decide), fun D nD => k _ _ ((p1.trans p2).then (Same.new nD)) ⟨a, c, r, r2, D, rfl, upd_same⟩⟩
end
def spMoveD : Sp := fun vs H Q _ => ∃ (b : Addr) (bv : V) (u v : Int) (bk : Bk), vs = [.ref b, bv] ∧ H b = some (box u v) ∧ BoxOk u v ∧ LBk bk bv H ∧ Wf bk ∧ bk.es.length ≤ 900 ∧ sN bk.es ≤ 1000000000000000000000000000000000000 ∧
  ∀ m x H', Pre b H H' → Mv.ok m → Small bk m → TmA m x H' → Q x H'
def spHist : Sp := fun vs H Q _ => ∃ (b : Addr) (hv : V) (u v n : Int) (h : Hs), vs = [.ref b, hv, .int n] ∧ H b = some (box u v) ∧ BoxOk u v ∧ HtA h hv H ∧ h.ok ∧ 0 ≤ n ∧ n ≤ 60 ∧
  ∀ D us ms b' H', H D = none → Pre b H H' → H' D = some (.lst us) → Ls (fun u m => TmA m u H') us ms → (∀ m ∈ ms, Mv.ok m) → (ms.length : Int) ≤ n → playB h b0 ms = some b' → sN b'.es ≤ 1000000 * 2 ^ ms.length → Q (.ref D) H'
section
variable {P : Program} {w : World} {K : PySem.W.Frag} {mg : Str → Option Value} {base : Heap}
theorem scDrawn : FnScope ["_law_box", "_law_book", "_law_form", "_law_many", "_law_at", "_law_lefts_here", "_law_most"] ["_law_box", "_law_book"] (defScope sDrawn) := ⟨rfl, rfl, rfl, by decide +kernel, rfl, by decide +kernel, by decide +kernel⟩
theorem scHistory : FnScope ["_law_box", "_law_house_here", "_law_many", "_law_found", "_law_book", "_law_turn", "_law_move", "_law_behind"] ["_law_box", "_law_house_here", "_law_many"] (defScope sHistory) := ⟨rfl, rfl, rfl, by decide +kernel, rfl, by decide +kernel, by decide +kernel⟩
theorem ok_drawn {f : Addr} {fd : FuncData} (F : Fun K "_law_drawn_move" "_law_drawn_move" sDrawn f fd) (T : BltV mg) (cC : CalCho P w K mg base) (cL : Cal P w K mg base CX0 "_law_lefts" 1 ["_law_book"] spLefts) : FnOk P w K mg base CX0 2 f fd ["_law_box", "_law_book"] spMoveD := by
  obtain ⟨fC, fdC, GC, mC, kC, bC⟩ := cC
  obtain ⟨fL, fdL, GL, mL, kL, bL⟩ := cL
  refine F.ok scDrawn (fun vs H Q E h => ?_) (fun cdv A outer s H vs Q E hr h => ?_)
  · obtain ⟨b, bv, u, v, bk, rfl, _⟩ := h
    rfl
  · obtain ⟨b, bv, u, v, bk, rfl, hb, ok, hk, wf, n, sm, k⟩ := h
    refine ⟨_, (pss_cons (ps_par (i := 2) (j := 3) rfl scDrawn.nd rfl rfl (by decide) rfl rfl (pa_cons (pe_call GC hr rfl mC kC bC .nil pass0 (pa_cons (pv 0) (pa_cons pe_int pa_nil))) (pa_cons (pe_callB call_len_seq (by rfl) T.len PySem.boot_len (pa_cons (pe_ix ix_tup (pv 1) pe_int (fun _ _ => rfl)) pa_nil)) pa_nil)) (by rfl))
  (pss_cons (ps_if (PW.pt (pw_or (pt_cmpR op_lt (pv 2) pe_int (nomark _)) (pw_or1 (pt_cmpR op_eq (pv 3) pe_int (nomark _))))) (pss_one (ps_ret (pe_tup (pa_cons pe_str (pa_cons (pe_op op_add pe_int (pe_call GC hr rfl mC kC bC .nil pass0 (pa_cons (pv 0) (pa_cons (pe_ix ix_list (pe_lst (pa_cons pe_int (pa_cons pe_int (pa_cons (pe_op op_pow pe_int pe_int) pa_nil)))) (pe_call GC hr rfl mC kC bC .nil pass0 (pa_cons (pv 0) (pa_cons pe_int pa_nil))) (fun _ _ => rfl)) pa_nil)))) pa_nil))))) pss_nil)
  (pss_cons (ps_if (pt_cmpR op_eq (pv 2) pe_int (nomark _)) (pss_one (ps_ret (pe_tup (pa_cons pe_str pa_nil)))) pss_nil)
  (pss_cons (ps_set (i := 4) scDrawn.nd rfl (Or.inl rfl) (pe_ifExp (pt_cmpR op_eq (pe_call GC hr rfl mC kC bC .nil pass0 (pa_cons (pv 0) (pa_cons pe_int pa_nil))) pe_int (nomark _)) (pe_call GC hr rfl mC kC bC .nil pass0 (pa_cons (pv 0) (pa_cons (pv 3) pa_nil))) (pe_op op_sub (pv 3) pe_int)))
  (pss_cons (ps_if (pt_cmpR op_eq (pv 2) pe_int (nomark _)) (pss_one (ps_ret (pe_tup (pa_cons pe_str (pa_cons (pv 4) (pa_cons (pe_op op_add pe_int (pe_call GC hr rfl mC kC bC .nil pass0 (pa_cons (pv 0) (pa_cons pe_int pa_nil)))) pa_nil)))))) pss_nil)
  (pss_cons (ps_set (i := 5) scDrawn.nd rfl (Or.inl rfl) (pe_call GL hr rfl mL kL bL .nil pass0 (pa_cons (pv 1) pa_nil)))
  (pss_cons (ps_set (i := 6) scDrawn.nd rfl (Or.inl rfl) (pe_ifExp (pt_cmpR op_gt (pe_ix ix_list (pv 5) (pv 4) (fun _ _ => rfl)) pe_int (nomark _)) (pe_ix ix_list (pv 5) (pv 4) (fun _ _ => rfl)) pe_int))
  (pss_one (ps_ret (pe_tup (pa_cons pe_str (pa_cons (pv 4) (pa_cons (pe_ifExp (pt_cmpR op_lt (pv 2) pe_int (nomark _)) pe_int (pe_op op_add pe_int (pe_call GC hr rfl mC kC bC .nil pass0 (pa_cons (pv 0) (pa_cons (pv 6) pa_nil))))) pa_nil))))))))))))), ?_⟩
    have p0 : Pre b H H := Pre.start ok hb
    try dsimp only [gName, tSeq, tAsg]
    refine evp_choose (H0 := H) (i := 0) (m := 10) rfl (by decide) (by decide) (evp_pure fun _ _ => ev_int) H _ p0 fun v1 H1 p1 r1 => ?_
    obtain ⟨d, rfl, d0, d10⟩ := r1
    have hk1 := upP p0 p1 hk
    refine ev_lenU (H0 := H1) (ev_es (ev_v rfl hk1)) H1 _ (Same.refl _) fun v2 H2 s2 _ r2 => ?_
    cases r2
    have hk2 := up s2 hk1
    have p2 : Pre b H H2 := p1.then s2
    refine ⟨_, _, rfl, ?_⟩
    try dsimp only [gName, tSeq, tAsg, tNext]
    refine if_b (H0 := H2) (Same.refl _) (ev_orB (ev_test (ev_lt (i := d) (j := 2) (ev_v rfl rfl) ev_int)) (fun _ => ev_test (ev_eqi (i := (bk.es.length : Int)) (j := 0) (ev_v rfl rfl) ev_int))) (fun e H3 s3 => ?_) (fun e H3 s3 => ?_)
    · have p3 := p2.then s3
      refine evp_tm2 (H0 := H3) (P := fun a => 1 ≤ a ∧ a ≤ 1000000) (evp_succ (evp_chooseW rfl (by decide) fun H4 Q4 p4 k4 => ?_)) H3 _ p3.id fun v4 H4 p4 r4 => ?_
      · refine evp_o (Ra := isLb b isIv [3, 9, 10 ^ (6 : Int).toNat]) (Rb := isDr 3) (evp_lst (fun _ _ => evl_cons ev_int (evl_cons ev_int (evl_cons (ev_pow ⟨by decide, by decide, by decide⟩ ev_int ev_int) evl_nil))) (by decide)) (evp_choose rfl (by decide) (by decide) (evp_pure fun _ _ => ev_int)) (fun x y H5 Q5 p5 rx ry k5 => ?_) H4 Q4 p4 k4
        obtain ⟨D, us, rfl, _, hD, l⟩ := rx
        obtain ⟨y, rfl, y0, y3⟩ := ry
        have ly : y.toNat < us.length := by rw [l.1]; show y.toNat < 3; omega
        obtain ⟨a, ea, ra⟩ := Ls.get l (List.getElem?_eq_getElem ly)
        have p6 : (10 : Int) ^ (6 : Int).toNat = 1000000 := by decide
        rw [p6] at ea
        refine ⟨D, us, y, us[y.toNat], rfl, rfl, SqL.of hD, ?_, k5 _ _ p5.id ⟨a, ra, ?_⟩⟩
        · have e : ixN us.length y = some y.toNat := by
            unfold ixN
            rw [if_pos y0, if_pos (show y < (us.length : Int) by omega)]
          show (ixN us.length y).bind (fun j => us[j]?) = some us[y.toNat]
          rw [e]
          exact List.getElem?_eq_getElem ly
        · have hm := List.mem_of_getElem? ea
          simp only [List.mem_cons, List.not_mem_nil, or_false] at hm
          omega
      · obtain ⟨a, ⟨a1, a2⟩, q⟩ := r4
        exact k (.beg a) _ _ (p3.trans p4) ⟨a1, by omega⟩ a2 q
    have p3 := p2.then s3
    have hk3 := up s3 hk2
    have e2 : ¬ (bk.es.length : Int) = 0 := fun q => by
      rw [decide_eq_true q, Bool.or_true] at e
      cases e
    refine if_b (H0 := H3) (Same.refl _) (ev_test (ev_eqi (i := d) (j := 2) (ev_v rfl rfl) ev_int)) (fun _ H4 s4 => ?_) (fun _ H4 s4 => ?_)
    · refine ⟨(by show 1 ≤ sizeLine; decide), fun D nD => ?_⟩
      exact k .shut _ _ ((p3.then s4).then (Same.new nD)) trivial trivial ⟨D, rfl, upd_same⟩
    have p4 := p3.then s4
    have hk4 := up s4 hk3
    try dsimp only [gName, tSeq, tAsg, tNext]
    refine evp_if (H0 := H4) (R := isWh fun a => 0 ≤ a ∧ a < (bk.es.length : Int)) (evpb_eq (evp_chooseW (m := 2) rfl (by decide) (evp_w (evp_pure fun _ _ => ev_int) ⟨by decide, by decide⟩))) (evp_chooseW rfl (by omega) (evp_w (m := (bk.es.length : Int)) (evp_pure fun _ _ => ev_v rfl rfl) ⟨by omega, by omega⟩)) (evp_w (m := (bk.es.length : Int) - 1) (evp_pure fun _ _ => ev_sb (ev_v rfl rfl) ev_int) ⟨by omega, by omega⟩) H4 _ p4.id fun v5 H5 p5 r5 => ?_
    obtain ⟨a, rfl, a0, al⟩ := r5
    obtain ⟨j, rfl⟩ := Int.eq_ofNat_of_zero_le a0
    have hk5 := upP p4.id p5 hk4
    have P5 := p4.trans p5
    try dsimp only [gName, tSeq, tAsg, tNext]
    refine if_b (H0 := H5) (Same.refl _) (ev_test (ev_eqi (i := d) (j := 3) (ev_v rfl rfl) ev_int)) (fun _ H6 s6 => ?_) (fun _ H6 s6 => ?_)
    · have p6 := P5.then s6
      refine evp_tm3 (H0 := H6) (P := fun a => a = (j : Int)) (P' := fun a => 1 ≤ a ∧ a ≤ 9) (evp_w (m := (j : Int)) (evp_pure fun _ _ => ev_v rfl rfl) rfl) (evp_succ (evp_chooseW rfl (by decide) (evp_w (m := 9) (evp_pure fun _ _ => ev_int) ⟨by decide, by decide⟩))) H6 _ p6.id fun v7 H7 p7 r7 => ?_
      obtain ⟨x, c, rfl, ⟨c1, c2⟩, q⟩ := r7
      exact k (.right j c) _ _ (p6.trans p7) ⟨⟨by omega, by omega⟩, c1, by omega⟩ c2 q
    have p6 := P5.then s6
    have hk6 := up s6 hk5
    try dsimp only [gName, tSeq, tAsg, tNext]
    refine evn_lefts (H0 := H6) wf n (ev_v rfl hk6) H6 _ (Same.refl _) fun D us H7 nD s7 hD l => ?_
    have hL : isIs (lefts bk.es) (.ref D) H7 := ⟨D, us, rfl, hD, l⟩
    have p7 := p6.then s7
    have ll := left_le wf j
    have jl : j < (lefts bk.es).length := by rw [lefts_len]; omega
    try dsimp only [gName, tSeq, tAsg, tNext]
    refine ev_if (H0 := H7) (R := isWh fun x => 1 ≤ x ∧ x ≤ (sN bk.es : Int) + 1) (b := decide (0 < leftAt bk.es j)) (ev_test (ev_gt (i := leftAt bk.es j) (j := 0) (ev_ixL (n := j) (getD_at jl) (ev_v rfl hL) (ev_v (R := isIv (j : Int)) rfl rfl)) ev_int)) (fun e => ?_) (fun e => ?_) H7 _ (Same.refl _) fun v8 H8 s8 _ r8 => ?_
    · have z := of_decide_eq_true e
      exact ev_to (ev_ixL (n := j) (a := leftAt bk.es j) (getD_at jl) (ev_v rfl hL) (ev_v (R := isIv (j : Int)) rfl rfl)) fun v H q => ⟨_, q, by omega, by omega⟩
    · exact ev_to (ev_int (i := 1)) fun v H q => ⟨1, q, by omega, by omega⟩
    obtain ⟨x, rfl, x1, x2⟩ := r8
    have p8 := p7.then s8
    try dsimp only [gName, tSeq, tAsg, tNext]
    refine evp_tm3 (H0 := H8) (P := fun a => a = (j : Int)) (P' := fun a => a = 0 ∨ (1 ≤ a ∧ a ≤ x)) (evp_w (m := (j : Int)) (evp_pure fun _ _ => ev_v rfl rfl) rfl) (evp_if (evpb_lt (P := fun _ => True) (evp_w (m := d) (evp_pure fun _ _ => ev_v rfl rfl) trivial)) (evp_w (m := 0) (evp_pure fun _ _ => ev_int) (Or.inl rfl)) (evp_imp (evp_succ (evp_chooseW rfl (by omega) (evp_w (m := x) (evp_pure fun _ _ => ev_v rfl rfl) ⟨x1, by omega⟩))) fun a q => Or.inr q)) H8 _ p8.id fun v9 H9 p9 r9 => ?_
    obtain ⟨_, c, rfl, cc, q⟩ := r9
    rcases cc with rfl | ⟨c1, c2⟩
    · exact k (.take j) _ _ (p8.trans p9) ⟨by omega, by omega⟩ trivial q
    · exact k (.takeBy j c) _ _ (p8.trans p9) ⟨⟨by omega, by omega⟩, c1, by omega⟩ (by show c ≤ _; omega) q
theorem ok_history {f : Addr} {fd : FuncData} (F : Fun K "_law_history" "_law_history" sHistory f fd) (T : BltV mg) (cE : Cal P w K mg base CX0 "_law_empty" 1 [] spEmpty) (cM : Cal P w K mg base CX0 "_law_drawn_move" 2 ["_law_box", "_law_book"] spMoveD) (cX : Cal P w K mg base CX0 "_law_do" 5 ["_law_house_here", "_law_book", "_law_move"] spDoL) : FnOk P w K mg base CX0 6 f fd ["_law_box", "_law_house_here", "_law_many"] spHist := by
  obtain ⟨fE, fdE, GE, mE, kE, bE⟩ := cE
  obtain ⟨fM, fdM, GM, mM, kM, bM⟩ := cM
  obtain ⟨fX, fdX, GX, mX, kX, bX⟩ := cX
  refine F.ok scHistory (fun vs H Q E h => ?_) (fun cdv A outer s H vs Q E hr h => ?_)
  · obtain ⟨b, hv, u, v, n, h, rfl, _⟩ := h
    rfl
  · obtain ⟨b, hv, u, v, n, h, rfl, hb, ok, hh, hok, n0, n1, k⟩ := h
    have hr1 : Room 1 _ := hr.mono (by decide)
    have hr2 : Room 2 _ := hr.mono (by decide)
    refine ⟨_, (pss_cons (ps_par (i := 3) (j := 4) rfl scHistory.nd rfl rfl (by decide) rfl rfl (pa_cons (pe_lst pa_nil) (pa_cons (pe_call0 GE hr1 rfl mE kE bE .nil pass0) pa_nil)) (by rfl))
  (pss_cons (ps_for PassesOwn.never rfl (pi_range1 (by rfl) T.range (pa_cons (pe_op op_mul pe_int (pv 2)) pa_nil)) (pg_name (i := 5) scHistory.nd rfl (Or.inl rfl))
  (pss_cons (ps_set (i := 6) scHistory.nd rfl (Or.inl rfl) (pe_call GM hr2 rfl mM kM bM .nil pass0 (pa_cons (pv 0) (pa_cons (pv 4) pa_nil))))
  (pss_cons (ps_set (i := 7) scHistory.nd rfl (Or.inl rfl) (pe_call GX hr rfl mX kX bX .nil pass0 (pa_cons (pv 1) (pa_cons (pv 4) (pa_cons (pv 6) pa_nil)))))
  (pss_one (ps_if (PW.pt (pw_and (pt_cmpR op_notN (pv 7) pe_non (nomark _)) (pw_and1 (pt_cmpR op_lt (pe_callB call_len_seq (by rfl) T.len PySem.boot_len (pa_cons (pv 3) pa_nil)) (pv 2) (nomark _))))) (pss_cons (ps_expr (pe_bm PySem.F.plainAttrs_list PySem.F.slot_list_append PySem.F.type_list_append mt_append (pv 3) (pa_cons (pv 6) pa_nil)))
  (pss_one (ps_set (i := 4) scHistory.nd rfl (Or.inl rfl) (pv 7)))) pss_nil)))))
  (pss_one (ps_ret (pv 3))))), ?_⟩
    have p0 : Pre b H H := Pre.start ok hb
    try dsimp only [gName, tSeq, tAsg]
    refine ⟨(by show 0 ≤ sizeLine; decide), fun D nD => ⟨rfl, fun u0 H1 s1 hu0 => ⟨_, _, rfl, ?_⟩⟩⟩
    have p1 : Pre b H H1 := (p0.then (Same.new nD)).then s1
    have nDb : D ≠ b := p0.ne nD
    have hD1 : H1 D = some (.lst []) := s1 _ _ upd_same
    clear s1
    try dsimp only [gName, tSeq, tAsg, tNext]
    refine ⟨_, rfl, 4, n, rfl, rfl, Or.inl ⟨by decide, by decide⟩, 4 * n, rfl, by omega, by omega, ?_⟩
    refine for_range (lo := 0) (n := (4 * n).toNat) (fun i σ H' => ∃ (bv : V) (o5 o6 o7 : Option V) (us : List V) (ms : List Mv) (bk : Bk), σ = [some (.ref b), some hv, some (.int n), some (.ref D), some bv, o5, o6, o7] ∧ Pre b H H' ∧ H' D = some (.lst us) ∧ Ls (fun u m => TmA m u H') us ms ∧ (∀ m ∈ ms, Mv.ok m) ∧ (ms.length : Int) ≤ n ∧ playB h b0 ms = some bk ∧ LBk bk bv H' ∧ sN bk.es + 1000000 ≤ 1000000 * 2 ^ ms.length) ?_ ?_ ?_
    · exact ⟨u0, none, none, none, [], [], b0, rfl, p1, hD1, Ls.nil, (fun m hm => by cases hm), n0, rfl, hu0, by decide⟩
    · rintro i σ H2 hi ⟨bv, o5, o6, o7, us, ms, bk, rfl, p2, hD2, l, mo, ln, pl, hk, sm⟩
      obtain ⟨_, u2, v2, ok2, hb2⟩ := id p2
      have wl := Wf.zero.play pl
      have w2 : ms.length ≤ 60 := by omega
      have pw : 2 ^ ms.length ≤ 2 ^ 60 := Nat.pow_le_pow_right (by decide) w2
      have n9 : bk.es.length ≤ 900 := by
        have := wl.2
        have e : b0.es.length = 0 := rfl
        omega
      refine ⟨_, rfl, _, rfl, b, bv, u2, v2, bk, rfl, hb2, ok2, hk, wl.1, n9, (by omega), fun m x H3 p3 mok msm hx => ?_⟩
      have hD3 := p3.1 _ _ nDb hD2
      have P3 := p2.trans p3
      have hk3 := upP p2 p3 hk
      have l3 : Ls (fun u m => TmA m u H3) us ms := l.imp fun _ _ r => upP p2 p3 r
      have hh3 := upP p0 P3 hh
      try dsimp only [gName, tSeq, tAsg, tNext]
      refine ⟨_, rfl, _, rfl, _, rfl, hv, bv, x, h, bk, m, rfl, hh3, hk3, hx, hok, wl.1, n9, mok, fun y H4 s4 hy => ?_⟩
      have P4 := P3.then s4
      have hD4 := s4 _ _ hD3
      have hk4 := up s4 hk3
      have l4 := Ls.up l3 s4
      have hx4 := up s4 hx
      show tIfS _ _ _ _ _ _
      have yb : (y = .non ↔ doB h bk m = none) := by
        cases d : doB h bk m with
        | none =>
          rw [d] at hy
          exact ⟨fun _ => rfl, fun _ => hy⟩
        | some b' =>
          rw [d] at hy
          obtain ⟨p, _, _, e', _⟩ := (show LBk b' y H4 from hy)
          rw [e']
          exact ⟨(fun q => by cases q), (fun q => by cases q)⟩
      refine if_b (H0 := H4) (Same.refl _) (ev_andB (ev_test (ev_notN (u := y) (ev_v rfl rfl))) (fun _ => ev_test (ev_lt (j := n) (ev_lenL (S := TmA) (as := ms) (ev_v rfl ⟨D, us, rfl, hD4, l4⟩)) (ev_v rfl rfl)))) (fun e H5 s5 => ?_) (fun e H5 s5 => ?_)
      · obtain ⟨e1, e2⟩ := Bool.and_eq_true_iff.mp e
        have e2 := of_decide_eq_true e2
        cases d : doB h bk m with
        | none =>
          rw [yb.mpr d] at e1
          cases e1
        | some b' =>
          rw [d] at hy
          have hy5 : LBk b' y H5 := up s5 (show LBk b' y H4 from hy)
          have hD5 := s5 _ _ hD4
          have P5 := P4.then s5
          have kl : Keep H5 (upd H5 D (.lst (us ++ [x]))) := Keep.lst hD5
          obtain ⟨sa, ua, va, oka, hba⟩ := id P5
          have ds := do_sum wl.1 mok msm d
          try dsimp only [gName, tSeq, tAsg, tNext]
          refine ⟨_, rfl, .inl ⟨rfl, _, SqL.of hD5⟩, _, rfl, D, us, x, rfl, rfl, hD5, small1000 (by rw [l.1]; omega), _, rfl, y, _, _, _, us ++ [x], ms ++ [m], b', rfl, ⟨fun c o nc q => by rw [upd_ne (ne_of_none q nD)]; exact sa c o nc q, ua, va, oka, by rw [upd_ne (Ne.symm nDb)]; exact hba⟩, upd_same, Ls.push ((Ls.up l4 s5).upL kl) (upL kl (up s5 hx4)), ?_, ?_, ?_, upL kl hy5, ?_⟩
          · intro z hz
            rcases List.mem_append.mp hz with hz | hz
            · exact mo z hz
            · rw [List.mem_singleton.mp hz]
              exact mok
          · rw [List.length_append]
            show ((ms.length + 1 : Nat) : Int) ≤ n
            omega
          · rw [play_snoc, pl]
            exact d
          · rw [List.length_append]
            show _ ≤ 1000000 * 2 ^ (ms.length + 1)
            rw [Nat.pow_succ]
            omega
      · exact ⟨bv, _, _, _, us, ms, bk, rfl, P4.then s5, s5 _ _ hD4, Ls.up l4 s5, mo, ln, pl, up s5 hk4, sm⟩
    · rintro σ H2 ⟨bv, o5, o6, o7, us, ms, bk, rfl, p2, hD2, l, mo, ln, pl, hk, sm⟩
      exact ⟨_, rfl, k D us ms bk H2 nD p2 hD2 l mo ln pl (by omega)⟩
end
end V3

set_option Elab.async false
set_option linter.all false
set_option maxRecDepth 100000
/-! entries and books of the program: how they are made -/
namespace V3
open PySem L2 TL
abbrev sEnInit : Stmt := inClass (top 27) 0
abbrev sBkInit : Stmt := inClass (top 28) 0
abbrev sLeftsOf : Stmt := top 29
def oV : Option Nat → V
  | some n => .int (n : Int)
  | none => .non
theorem oV_non {o : Option Nat} : (!decide (oV o = .non)) = o.isSome := by
  cases o with
  | none => rfl
  | some n => exact congrArg (! ·) (decide_eq_false (fun z => by cases z))
theorem oV_is {o : Option Nat} : decide (oV o = .non) = o.isNone := by
  cases o with
  | none => rfl
  | some n => exact decide_eq_false (fun z => by cases z)
def enF (mo am ta ol : V) : List (Str × V) := [("month", mo), ("amount", am), ("target", ta), ("old", ol)]
def bkF (q mo p : V) : List (Str × V) := [("entries", q), ("month", mo), ("lefts", p)]
theorem en_put (mo am ta ol : V) : putF "old" ol (putF "target" ta (putF "amount" am (putF "month" mo []))) = enF mo am ta ol := by
  have a1 : ("month" : Str) ≠ "amount" := by decide +kernel
  have a2 : ("month" : Str) ≠ "target" := by decide +kernel
  have a3 : ("month" : Str) ≠ "old" := by decide +kernel
  have a4 : ("amount" : Str) ≠ "target" := by decide +kernel
  have a5 : ("amount" : Str) ≠ "old" := by decide +kernel
  have a6 : ("target" : Str) ≠ "old" := by decide +kernel
  show putF "old" ol (putF "target" ta (putF "amount" am [("month", mo)])) = _
  rw [putF_ne a1]
  show putF "old" ol (putF "target" ta [("month", mo), ("amount", am)]) = _
  rw [putF_ne a2, putF_ne a4]
  show putF "old" ol [("month", mo), ("amount", am), ("target", ta)] = _
  rw [putF_ne a3, putF_ne a5, putF_ne a6]
  rfl
theorem bk_put1 (q : V) : putF "entries" q [] = ([("entries", q)] : List (Str × V)) := rfl
theorem bk_put2 (q mo : V) : putF "month" mo ([("entries", q)] : List (Str × V)) = ([("entries", q), ("month", mo)] : List (Str × V)) := by
  have a1 : ("entries" : Str) ≠ "month" := by decide +kernel
  rw [putF_ne a1]
  rfl
theorem bk_put3 (q mo p : V) : putF "lefts" p ([("entries", q), ("month", mo)] : List (Str × V)) = bkF q mo p := by
  have a1 : ("entries" : Str) ≠ "lefts" := by decide +kernel
  have a2 : ("month" : Str) ≠ "lefts" := by decide +kernel
  rw [putF_ne a1, putF_ne a2]
  rfl
theorem en_mo (mo am ta ol : V) : (enF mo am ta ol).lookup ("month" : Str) = some mo := rfl
theorem en_am (mo am ta ol : V) : (enF mo am ta ol).lookup ("amount" : Str) = some am := by
  unfold enF
  rw [lk_ne (by decide +kernel)]
  rfl
theorem en_ta (mo am ta ol : V) : (enF mo am ta ol).lookup ("target" : Str) = some ta := by
  unfold enF
  rw [lk_ne (by decide +kernel), lk_ne (by decide +kernel)]
  rfl
theorem en_ol (mo am ta ol : V) : (enF mo am ta ol).lookup ("old" : Str) = some ol := by
  unfold enF
  rw [lk_ne (by decide +kernel), lk_ne (by decide +kernel), lk_ne (by decide +kernel)]
  rfl
theorem bk_es (q mo p : V) : (bkF q mo p).lookup ("entries" : Str) = some q := rfl
theorem bk_mo (q mo p : V) : (bkF q mo p).lookup ("month" : Str) = some mo := by
  unfold bkF
  rw [lk_ne (by decide +kernel)]
  rfl
theorem bk_lf (q mo p : V) : (bkF q mo p).lookup ("lefts" : Str) = some p := by
  unfold bkF
  rw [lk_ne (by decide +kernel), lk_ne (by decide +kernel)]
  rfl
structure EnC (K : PySem.W.Frag) (C : Addr) : Prop where
  cl : Cls K C
  mo : NoAttr K C "month"
  am : NoAttr K C "amount"
  ta : NoAttr K C "target"
  ol : NoAttr K C "old"
structure BkC (K : PySem.W.Frag) (C : Addr) : Prop where
  cl : Cls K C
  es : NoAttr K C "entries"
  mo : NoAttr K C "month"
  lf : NoAttr K C "lefts"
/-- an Entry -/
def EnA (CE : Addr) (e : En) : V → Hp → Prop := fun v H => ∃ x dx, v = .ref x ∧ H x = some (.ins CE dx (enF (.int e.mo) (.int e.am) (oV e.ta) (oV e.ol)))
instance {CE : Addr} {e : En} : StL (EnA CE e) := ⟨fun _ _ _ s ⟨x, dx, e, h⟩ => ⟨x, dx, e, s _ _ (fun _ z => by cases z) h⟩⟩
/-- a Book -/
def BkA (CE CB : Addr) (b : Bk) : V → Hp → Prop := fun v H => ∃ x dx q p, v = .ref x ∧ H x = some (.ins CB dx (bkF q (.int b.m) p)) ∧ isU (EnA CE) b.es q H ∧ isU isIv (lefts b.es) p H
instance {CE CB : Addr} {b : Bk} : StL (BkA CE CB b) := ⟨fun _ _ _ s ⟨x, dx, q, p, e, h, a, c⟩ => ⟨x, dx, q, p, e, s _ _ (fun _ z => by cases z) h, upL s a, upL s c⟩⟩
/-- while an object without fields is filled, entries stay -/
theorem EnA.off {CE C x dx : Addr} {e : En} {H H' : Hp} {v : V} (hx : H x = some (.ins C dx [])) (s : SameX x H H') (h : EnA CE e v H) : EnA CE e v H' := by
  obtain ⟨y, dy, rfl, hy⟩ := h
  refine ⟨y, dy, rfl, s _ _ (fun z => ?_) hy⟩
  rw [z, hx] at hy
  cases hy
theorem isU.off {CE C x dx : Addr} {es : List En} {H H' : Hp} {v : V} (hx : H x = some (.ins C dx [])) (s : SameX x H H') (h : isU (EnA CE) es v H) : isU (EnA CE) es v H' := by
  obtain ⟨D, us, rfl, hD, l⟩ := h
  refine ⟨D, us, rfl, s _ _ (fun z => ?_) hD, l.imp fun _ _ r => r.off hx s⟩
  rw [z, hx] at hD
  cases hD
def spEnInit (CE : Addr) : Sp := fun vs H Q _ => ∃ (x dx : Addr) (e : En), vs = [.ref x, .int e.mo, .int e.am, oV e.ta, oV e.ol] ∧ H x = some (.ins CE dx []) ∧ ∀ H', SameX x H H' → EnA CE e (.ref x) H' → Q .non H'
def spLeftsOf (CE : Addr) : Sp := fun vs H Q _ => ∃ (q : V) (es : List En), vs = [q] ∧ isU (EnA CE) es q H ∧ (∀ j t, taAt es j = some t → t < j) ∧ es.length ≤ 900 ∧ ∀ p H', Same H H' → isU isIv (lefts es) p H' → Q p H'
def spBkInit (CE CB : Addr) : Sp := fun vs H Q _ => ∃ (x dx : Addr) (q : V) (b : Bk), vs = [.ref x, q, .int b.m] ∧ H x = some (.ins CB dx []) ∧ isU (EnA CE) b.es q H ∧ Wf b ∧ b.es.length ≤ 900 ∧ ∀ H', SameX x H H' → BkA CE CB b (.ref x) H' → Q .non H'
section
variable {K : PySem.W.Frag} {σ : L2.St} {ta tb tc td te : TE} {H0 : Hp} {b : Bk} {e : En} {es : List En} {j : Nat} {CE CB : Addr}
theorem ev_enMo (L : EnC K CE) (ha : EvV (Same H0) σ ta (EnA CE e)) : EvV (Same H0) σ (tFld K ta "month") (isIv e.mo) := ev_fld ha fun x H w ⟨x, dx, ex, hx⟩ => ⟨x, CE, dx, _, _, ex, hx, L.cl, L.mo, en_mo .., rfl⟩
theorem ev_enAm (L : EnC K CE) (ha : EvV (Same H0) σ ta (EnA CE e)) : EvV (Same H0) σ (tFld K ta "amount") (isIv e.am) := ev_fld ha fun x H w ⟨x, dx, ex, hx⟩ => ⟨x, CE, dx, _, _, ex, hx, L.cl, L.am, en_am .., rfl⟩
theorem ev_enTa (L : EnC K CE) (ha : EvV (Same H0) σ ta (EnA CE e)) : EvV (Same H0) σ (tFld K ta "target") (isVv (oV e.ta)) := ev_fld ha fun x H w ⟨x, dx, ex, hx⟩ => ⟨x, CE, dx, _, _, ex, hx, L.cl, L.ta, en_ta .., rfl⟩
theorem ev_enOl (L : EnC K CE) (ha : EvV (Same H0) σ ta (EnA CE e)) : EvV (Same H0) σ (tFld K ta "old") (isVv (oV e.ol)) := ev_fld ha fun x H w ⟨x, dx, ex, hx⟩ => ⟨x, CE, dx, _, _, ex, hx, L.cl, L.ol, en_ol .., rfl⟩
theorem ev_bkEs (L : BkC K CB) (ha : EvV (Same H0) σ ta (BkA CE CB b)) : EvV (Same H0) σ (tFld K ta "entries") (isU (EnA CE) b.es) := ev_fld ha fun x H w ⟨x, dx, q, p, ex, hx, hq, hp⟩ => ⟨x, CB, dx, _, _, ex, hx, L.cl, L.es, bk_es .., hq⟩
theorem ev_bkMo (L : BkC K CB) (ha : EvV (Same H0) σ ta (BkA CE CB b)) : EvV (Same H0) σ (tFld K ta "month") (isIv b.m) := ev_fld ha fun x H w ⟨x, dx, q, p, ex, hx, hq, hp⟩ => ⟨x, CB, dx, _, _, ex, hx, L.cl, L.mo, bk_mo .., rfl⟩
theorem ev_bkLf (L : BkC K CB) (ha : EvV (Same H0) σ ta (BkA CE CB b)) : EvV (Same H0) σ (tFld K ta "lefts") (isU isIv (lefts b.es)) := ev_fld ha fun x H w ⟨x, dx, q, p, ex, hx, hq, hp⟩ => ⟨x, CB, dx, _, _, ex, hx, L.cl, L.lf, bk_lf .., hp⟩
/-- an entry of a tuple of entries by its number -/
theorem ev_esAt (h : j < es.length) (ha : EvV (Same H0) σ ta (isU (EnA CE) es)) (hb : EvV (Same H0) σ tb (isIv (j : Int))) : EvV (Same H0) σ (tOp (rIxT K) ta tb) (EnA CE es[j]) := ev_ixU (List.getElem?_eq_getElem h) ha hb
theorem ev_mkEnA (h1 : EvV (Same H0) σ ta (isIv e.mo)) (h2 : EvV (Same H0) σ tb (isIv e.am)) (h3 : EvV (Same H0) σ tc (isVv (oV e.ta))) (h4 : EvV (Same H0) σ td (isVv (oV e.ol))) : EvV (Same H0) σ (tMake CE (spEnInit CE) [] E0 (tCons ta (tCons tb (tCons tc (tCons td tNil))))) (EnA CE e) :=
  ev_make (eva_cons h1 (eva_cons h2 (eva_cons h3 (eva_cons h4 eva_nil)))) fun vs H x dx Q w r nx ndx ne k => by
    obtain ⟨v1, r, rfl, e1, v2, r, rfl, e2, v3, r, rfl, e3, v4, r, rfl, e4, rfl⟩ := r
    cases e1
    cases e2
    cases e3
    cases e4
    exact ⟨x, dx, e, rfl, upd_same, fun H' s' a => k H' (fun c o q => s' c o (ne_of_none q nx) (made_same nx ndx c o q)) a⟩
theorem ev_mkBkA (wf : Wf b) (n : b.es.length ≤ 900) (h1 : EvV (Same H0) σ ta (isU (EnA CE) b.es)) (h2 : EvV (Same H0) σ tb (isIv b.m)) : EvV (Same H0) σ (tMake CB (spBkInit CE CB) [] E0 (tCons ta (tCons tb tNil))) (BkA CE CB b) :=
  ev_make (eva_cons h1 (eva_cons h2 eva_nil)) fun vs H x dx Q w r nx ndx ne k => by
    obtain ⟨v1, r, rfl, e1, v2, r, rfl, e2, rfl⟩ := r
    cases e2
    have s0 : Same H (upd (upd H dx (.own x)) x (.ins CB dx [])) := made_same nx ndx
    exact ⟨x, dx, v1, b, rfl, upd_same, up s0 e1, wf, n, fun H' s' a => k H' (fun c o q => s' c o (ne_of_none q nx) (s0 c o q)) a⟩
end
structure BltBk (mg : Str → Option Value) : Prop where
  len : mg "len" = none
  range : mg "range" = none
  tuple : mg "tuple" = none
  isi : mg "isinstance" = none
  enumerate : mg "enumerate" = none
section
variable {P : Program} {w : World} {K : PySem.W.Frag} {mg : Str → Option Value} {base : Heap}
theorem scEnInit : FnScope ["self", "month", "amount", "target", "old"] ["self", "month", "amount", "target", "old"] (defScope sEnInit) := ⟨rfl, rfl, rfl, by decide +kernel, rfl, by decide +kernel, by decide +kernel⟩
theorem scLeftsOf : FnScope ["entries", "lefts", "at", "target", "entry"] ["entries"] (defScope sLeftsOf) := ⟨rfl, rfl, rfl, by decide +kernel, rfl, by decide +kernel, by decide +kernel⟩
theorem scBkInit : FnScope ["self", "entries", "month"] ["self", "entries", "month"] (defScope sBkInit) := ⟨rfl, rfl, rfl, by decide +kernel, rfl, by decide +kernel, by decide +kernel⟩
theorem ok_enInit {f CE : Addr} {fd : FuncData} (F : Fun K "__init__" "Entry.__init__" sEnInit f fd) (L : EnC K CE) : FnOk P w K mg base CX0 1 f fd ["self", "month", "amount", "target", "old"] (spEnInit CE) := by
  refine F.ok scEnInit (fun vs H Q E h => ?_) (fun cdv A outer s H vs Q E hr h => ?_)
  · obtain ⟨x, dx, e, rfl, _⟩ := h
    rfl
  · obtain ⟨x, dx, e, rfl, hx, q⟩ := h
    refine ⟨_, (pss_cons (ps_fld (pv 0) (pv 1) rfl)
  (pss_cons (ps_fld (pv 0) (pv 2) rfl)
  (pss_cons (ps_fld (pv 0) (pv 3) rfl)
  (pss_one (ps_fld (pv 0) (pv 4) rfl))))), ?_⟩
    refine ⟨_, rfl, _, rfl, x, CE, dx, _, rfl, hx, L.cl, L.mo, (by show 0 < 1000; decide), ?_⟩
    refine ⟨_, rfl, _, rfl, x, CE, dx, _, rfl, upd_same, L.cl, L.am, (by show 1 < 1000; decide), ?_⟩
    rw [upd_upd]
    refine ⟨_, rfl, _, rfl, x, CE, dx, _, rfl, upd_same, L.cl, L.ta, (lt_put (n := 999) (lt_put (n := 998) (by show 0 < 998; decide))), ?_⟩
    rw [upd_upd]
    refine ⟨_, rfl, _, rfl, x, CE, dx, _, rfl, upd_same, L.cl, L.ol, (lt_put (n := 999) (lt_put (n := 998) (lt_put (n := 997) (by show 0 < 997; decide)))), ?_⟩
    rw [upd_upd, en_put]
    exact q _ (fun c o n e => by rw [upd_ne n]; exact e) ⟨x, dx, rfl, upd_same⟩
theorem ok_leftsOf {f CE : Addr} {fd : FuncData} (F : Fun K "lefts_of" "lefts_of" sLeftsOf f fd) (T : BltBk mg) (L : EnC K CE) : FnOk P w K mg base CX0 1 f fd ["entries"] (spLeftsOf CE) := by
  refine F.ok scLeftsOf (fun vs H Q E h => ?_) (fun cdv A outer s H vs Q E hr h => ?_)
  · obtain ⟨q, es, rfl, _⟩ := h
    rfl
  · obtain ⟨q, es, rfl, hv, wf, n, k⟩ := h
    refine ⟨_, (pss_cons (ps_setLc (i := 1) (own := [("entry", 4)]) (g := gName 4) (tt := tYes) (te := tFld K (tVar 4) "amount") (by rfl) scLeftsOf.nd rfl rfl (sw_true rfl rfl rfl (by decide +kernel)) (pi_tup (pv 0)) (blkOk_by (own := [("entry", 4)]) (N := ["entries", "lefts", "at", "target", "entry"]) (sc := defScope sLeftsOf) (by decide +kernel)) (fun _ _ _ _ _ => (pg_name (i := 4) scLeftsOf.nd rfl (Or.inl rfl))) (fun _ _ _ _ _ => pts_nil) (fun _ _ _ _ _ => (pe_fld (pv 4) rfl)))
  (pss_cons (ps_for PassesOwn.never rfl (pi_range3 (by rfl) T.range (pa_cons (pe_op op_sub (pe_callB call_len_seq (by rfl) T.len PySem.boot_len (pa_cons (pv 0) pa_nil)) pe_int) (pa_cons (pe_un un_neg pe_int) (pa_cons (pe_un un_neg pe_int) pa_nil)))) (pg_name (i := 2) scLeftsOf.nd rfl (Or.inl rfl))
  (pss_cons (ps_set (i := 3) scLeftsOf.nd rfl (Or.inl rfl) (pe_fld (pe_ix ix_tup (pv 0) (pv 2) (fun _ _ => rfl)) rfl))
  (pss_one (ps_if (pt_cmpR op_notN (pv 3) pe_non (nomark _)) (pss_one (ps_asg (pe_op op_sub (pe_ix ix_list (pv 1) (pv 3) (fun _ _ => rfl)) (pe_ix ix_list (pv 1) (pv 2) (fun _ _ => rfl))) (pg_sub (pv 1) (pv 3) set_list))) pss_nil))))
  (pss_one (ps_ret (pe_callTy call_tuple_of (by rfl) T.tuple (by decide +kernel) (pa_cons (pv 1) pa_nil)))))), ?_⟩
    try dsimp only [gName, tSeq, tAsg]
    refine evn_lcY (H0 := H) (S' := isIv) (fun e : En => e.am) (evi_tupU (ev_v rfl hv)) (by omega) (fun e he x H1 w1 r => ev_enAm L (ev_v rfl r)) (fun _ => rfl) H _ (Same.refl _) fun D us H1 nD s1 hD l => ?_
    have hv1 := up s1 hv
    try dsimp only [gName, tSeq, tAsg, tNext]
    have lu : us.length = es.length := by rw [l.1, List.length_map]
    obtain ⟨Dq, uq, rfl, hDq, lq⟩ := id hv1
    refine ⟨_, rfl, Dq, uq, rfl, .inr (SqT.of hDq), _, _, rfl, rfl, _, rfl, _, rfl, _, _, _, _, rfl, RgC.neg (by have := lq.1; omega) (by have := lq.1; omega) (by decide) (by decide), ?_⟩
    rw [lq.1]
    have en : ((es.length : Int) - 1 - -1).toNat = es.length := by omega
    rw [en]
    refine for_rangeC (fun i σ H' => (∃ o2 o3 : Option V, ∃ ls vs, σ = [some (.ref Dq), some (.ref D), o2, o3, none] ∧ SameX D H1 H' ∧ H' D = some (.lst vs) ∧ Ls (fun u i => isIv i u H') vs ls ∧ ls.length = es.length ∧ leftsFrom es (es.length - i) ls = lefts es)) ⟨_, _, _, us, rfl, SameX.refl, hD, l, by rw [List.length_map], rfl⟩ ?_ ?_
    · rintro i σ H3 hi ⟨o2, o3, ls, vs, rfl, sx, hD3, l2, ll, lf⟩
      have hv3 : isU (EnA CE) es (.ref Dq) H3 := upL (Keep.pre hD sx) hv1
      have kj : (es.length : Int) - 1 + (i : Nat) * -1 = ((es.length - 1 - i : Nat) : Int) := by omega
      rw [kj]
      generalize ej : es.length - 1 - i = j at *
      have jl : j < es.length := by omega
      have e1 : es.length - i = j + 1 := by omega
      have e2 : es.length - (i + 1) = j := by omega
      rw [e1] at lf
      have lf : leftsFrom es j (leftStep es ls j) = lefts es := lf
      rw [e2]
      have tg := taAt_get jl
      refine ev_enTa (H0 := H3) (K := K) L (ev_esAt jl (ev_v rfl hv3) (ev_v rfl rfl)) H3 _ (Same.refl _) fun u H4 s4 _ eu => ?_
      cases eu
      have hD4 := s4 _ _ hD3
      try dsimp only [gName, tSeq, tAsg, tNext]
      refine if_b (H0 := H4) (Same.refl _) (ev_bool (ev_test (ev_notN (u := oV es[j].ta) (ev_v rfl rfl))) oV_non) (fun ee H5 s5 => ?_) (fun ee H5 s5 => ?_)
      · obtain ⟨t, et⟩ := Option.isSome_iff_exists.mp ee
        rw [et] at tg
        have tj := wf j t tg
        have hD5 := s5 _ _ hD4
        have hL : isIs ls (.ref D) H5 := ⟨D, vs, rfl, hD5, l2⟩
        rw [et]
        refine ev_sb (H0 := H5) (i := ls.getD t 0) (j := ls.getD j 0) (ev_ixL (n := t) (getD_at (by omega)) (ev_v rfl hL) (ev_v (R := isIv (t : Int)) rfl rfl)) (ev_ixL (n := j) (getD_at (by omega)) (ev_v rfl hL) (ev_v (R := isIv (j : Int)) rfl rfl)) H5 _ (Same.refl _) fun u H6 s6 _ eu => ?_
        cases eu
        have hD6 := s6 _ _ hD5
        refine ⟨_, rfl, _, rfl, D, vs, (t : Int), t, rfl, rfl, hD6, ?_, ?_⟩
        · unfold ixN
          rw [if_pos (by omega), if_pos (by rw [l2.1]; omega)]
          rfl
        · refine ⟨_, _, _, _, rfl, fun c o n e => ?_, upd_same, l2.put (v := .int (ls.getD t 0 - ls.getD j 0)) (a := ls.getD t 0 - ls.getD j 0) rfl t, by rw [List.length_set]; exact ll, ?_⟩
          · rw [upd_ne n]
            exact s6 _ _ (s5 _ _ (s4 _ _ (sx c o n e)))
          · rw [leftStep_some tg] at lf
            exact lf
      · rw [Option.isSome_eq_false_iff, Option.isNone_iff_eq_none] at ee
        rw [ee] at tg
        refine ⟨_, _, ls, vs, rfl, fun c o n e => s5 _ _ (s4 _ _ (sx c o n e)), s5 _ _ hD4, l2, ll, ?_⟩
        rw [leftStep_none tg] at lf
        exact lf
    · rintro σ H3 ⟨o2, o3, ls, vs, rfl, sx, hD3, l2, ll, lf⟩
      rw [Nat.sub_self] at lf
      have lf : ls = lefts es := lf
      rw [lf] at l2
      refine ⟨_, rfl, D, vs, rfl, .inl ⟨SqL.of hD3, fun p np => ?_⟩⟩
      have s3 : Same H H3 := fun c o e => sx c o (ne_of_none e nD) (s1 c o e)
      exact k _ _ (s3.trans (Same.new np)) ⟨p, vs, rfl, upd_same, l2⟩
theorem ok_bkInit {f CE CB : Addr} {fd : FuncData} (F : Fun K "__init__" "Book.__init__" sBkInit f fd) (T : BltBk mg) (L : BkC K CB) (cL : Cal P w K mg base CX0 "lefts_of" 1 ["entries"] (spLeftsOf CE)) : FnOk P w K mg base CX0 2 f fd ["self", "entries", "month"] (spBkInit CE CB) := by
  obtain ⟨fL, fdL, GL, mL, kL, bL⟩ := cL
  refine F.ok scBkInit (fun vs H Q E h => ?_) (fun cdv A outer s H vs Q E hr h => ?_)
  · obtain ⟨x, dx, q, b, rfl, _⟩ := h
    rfl
  · obtain ⟨x, dx, q, b, rfl, hx, hq, wf, n, k⟩ := h
    refine ⟨_, (pss_cons (ps_fld (pv 0) (pe_callTy call_tuple_of (by rfl) T.tuple (by decide +kernel) (pa_cons (pv 1) pa_nil)) rfl)
  (pss_cons (ps_fld (pv 0) (pv 2) rfl)
  (pss_one (ps_fld (pv 0) (pe_call GL hr rfl mL kL bL .nil pass0 (pa_cons (pe_fld (pv 0) rfl) pa_nil)) rfl)))), ?_⟩
    obtain ⟨D, us, rfl, hD, l⟩ := id hq
    refine ⟨_, rfl, D, us, rfl, .inr ⟨SqT.of hD, _, rfl, x, CB, dx, _, rfl, hx, L.cl, L.es, (by show 0 < 1000; decide), ?_⟩⟩
    refine ⟨_, rfl, _, rfl, x, CB, dx, _, rfl, upd_same, L.cl, L.mo, (by show 1 < 1000; decide), ?_⟩
    rw [upd_upd, bk_put1, bk_put2]
    have s1 : SameX x H (upd H x (.ins CB dx [("entries", .ref D), ("month", .int b.m)])) := fun c o nc e => by rw [upd_ne nc]; exact e
    have hx1 : upd H x (.ins CB dx [("entries", .ref D), ("month", .int b.m)]) x = some (.ins CB dx [("entries", .ref D), ("month", .int b.m)]) := upd_same
    have hq1 := hq.off hx s1
    generalize upd H x (.ins CB dx [("entries", .ref D), ("month", .int b.m)]) = H1 at s1 hx1 hq1
    refine ⟨_, rfl, x, CB, dx, _, .ref D, rfl, hx1, L.cl, L.es, rfl, .ref D, b.es, rfl, hq1, wf.ta, n, fun p H2 s2 hp => ?_⟩
    have hx2 := s2 _ _ hx1
    refine ⟨_, rfl, x, CB, dx, _, rfl, hx2, L.cl, L.lf, (by show 2 < 1000; decide), ?_⟩
    rw [bk_put3]
    have hq2 := up s2 hq1
    have off : ∀ {c : Addr} {o : HO}, H2 c = some o → (∀ fs, o ≠ .ins CB dx fs) → upd H2 x (.ins CB dx (bkF (.ref D) (.int b.m) p)) c = some o := fun {c o} e ne => by
      rw [upd_ne (fun z => by
        rw [z, hx2] at e
        exact ne _ (Option.some.inj e).symm)]
      exact e
    refine k _ (fun c o nc e => ?_) ⟨x, dx, .ref D, p, rfl, upd_same, ?_, ?_⟩
    · rw [upd_ne nc]
      exact s2 _ _ (s1 c o nc e)
    · obtain ⟨D', us', e', hD', l'⟩ := hq
      refine ⟨D', us', e', ?_, l'.imp fun v e r => ?_⟩
      · exact off (s2 _ _ (s1 _ _ (fun z => by rw [z, hx] at hD'; cases hD') hD')) (fun _ z => by cases z)
      · obtain ⟨y, dy, rfl, hy⟩ := r
        have nyx : y ≠ x := fun z => by
          rw [z, hx] at hy
          cases hy
        exact ⟨y, dy, rfl, by rw [upd_ne nyx]; exact s2 _ _ (s1 _ _ nyx hy)⟩
    · obtain ⟨D', us', e', hD', l'⟩ := hp
      exact ⟨D', us', e', off hD' (fun _ z => by cases z), l'⟩
end
end V3

set_option Elab.async false
set_option linter.all false
set_option maxRecDepth 100000
/-! what a book is asked about an entry -/
namespace V3
open PySem L2 TL
abbrev sBkReq : Stmt := inClass (top 28) 6
abbrev sBkLeft : Stmt := inClass (top 28) 1
abbrev sBkDepth : Stmt := inClass (top 28) 2
abbrev sBkKind : Stmt := inClass (top 28) 3
abbrev sBkLen : Stmt := inClass (top 28) 7
abbrev sBkGet : Stmt := inClass (top 28) 8
/-- asked at a number of an entry, a scalar answered -/
def spAtB (CE CB : Addr) (f : Bk → Nat → V) : Sp := fun vs H Q _ => ∃ (v : V) (b : Bk) (j : Nat), vs = [v, .int (j : Int)] ∧ BkA CE CB b v H ∧ Wf b ∧ j < b.es.length ∧ ∀ H', Same H H' → Q (f b j) H'
def fReq : Bk → Nat → V := fun _ _ => .non
def fLeft : Bk → Nat → V := fun b j => .int (leftAt b.es j)
def fDepth : Bk → Nat → V := fun b j => .int ((depth b.es j : Nat) : Int)
def fKind : Bk → Nat → V := fun b j => .str (kindAt b.es j)
def fTop : Bk → Nat → V := fun b j => .int ((topOf b.es j : Nat) : Int)
def fDeed : Bk → Nat → V := fun b j => .int ((deedOf b.es j : Nat) : Int)
def spBkGet (CE CB : Addr) : Sp := fun vs H Q _ => ∃ (v : V) (b : Bk) (j : Nat) (e : En), vs = [v, .int (j : Int)] ∧ BkA CE CB b v H ∧ Wf b ∧ b.es[j]? = some e ∧ ∀ u H', Same H H' → EnA CE e u H' → Q u H'
def spBkLen (CE CB : Addr) : Sp := fun vs H Q _ => ∃ (v : V) (b : Bk), vs = [v] ∧ BkA CE CB b v H ∧ ∀ H', Same H H' → Q (.int (b.es.length : Int)) H'
def BkM (P : Program) (w : World) (K : PySem.W.Frag) (mg : Str → Option Value) (base : Heap) (CB : Addr) (m : Str) (k : Nat) (sp : Sp) : Prop :=
  ∃ (f : Addr) (fd : FuncData), FnOk P w K mg base CX0 k f fd ["self", "at"] sp ∧ Meth K CB m f ∧ Binds K fd ["self", "at"] []
theorem bk_no {m : Str} (h : m ≠ "entries" ∧ m ≠ "month" ∧ m ≠ "lefts") (q mo p : V) : (bkF q mo p).lookup m = none := by
  unfold bkF
  rw [lk_ne (by simpa using h.1), lk_ne (by simpa using h.2.1), lk_ne (by simpa using h.2.2)]
  rfl
section
variable {K : PySem.W.Frag} {σ : L2.St} {ta tb te : TE} {H0 : Hp} {b : Bk} {j : Nat} {CE CB : Addr} {m : Str} {f : Bk → Nat → V}
theorem ev_atB (h : m ≠ "entries" ∧ m ≠ "month" ∧ m ≠ "lefts") (wf : Wf b) (hj : j < b.es.length) (ha : EvV (Same H0) σ ta (BkA CE CB b)) (hb : EvV (Same H0) σ te (isIv (j : Int))) : EvV (Same H0) σ (tMeth CB m (spAtB CE CB f) [] E0 ta (tCons te tNil)) (isVv (f b j)) :=
  ev_meth ha (fun x H ⟨a, dx, q, p, ex, hx, _, _⟩ => ⟨a, dx, _, ex, hx, bk_no h ..⟩) (eva_cons hb eva_nil) fun x vs H Q w rx r k => by
    obtain ⟨v, r, rfl, hv, rfl⟩ := r
    cases hv
    exact ⟨x, b, j, rfl, rx, wf, hj, fun H' s => k _ H' s rfl⟩
end
section
variable {P : Program} {w : World} {K : PySem.W.Frag} {mg : Str → Option Value} {base : Heap}
theorem scBkReq : FnScope ["self", "at"] ["self", "at"] (defScope sBkReq) := ⟨rfl, rfl, rfl, by decide +kernel, rfl, by decide +kernel, by decide +kernel⟩
theorem scBkLeft : FnScope ["self", "at"] ["self", "at"] (defScope sBkLeft) := ⟨rfl, rfl, rfl, by decide +kernel, rfl, by decide +kernel, by decide +kernel⟩
theorem scBkDepth : FnScope ["self", "at", "depth"] ["self", "at"] (defScope sBkDepth) := ⟨rfl, rfl, rfl, by decide +kernel, rfl, by decide +kernel, by decide +kernel⟩
theorem scBkKind : FnScope ["self", "at"] ["self", "at"] (defScope sBkKind) := ⟨rfl, rfl, rfl, by decide +kernel, rfl, by decide +kernel, by decide +kernel⟩
theorem scBkLen : FnScope ["self"] ["self"] (defScope sBkLen) := ⟨rfl, rfl, rfl, by decide +kernel, rfl, by decide +kernel, by decide +kernel⟩
theorem scBkGet : FnScope ["self", "at"] ["self", "at"] (defScope sBkGet) := ⟨rfl, rfl, rfl, by decide +kernel, rfl, by decide +kernel, by decide +kernel⟩
theorem ok_bkReq {f CE CB : Addr} {fd : FuncData} (F : Fun K "require" "Book.require" sBkReq f fd) (T : BltBk mg) (L : BkC K CB) : FnOk P w K mg base CX0 1 f fd ["self", "at"] (spAtB CE CB fReq) := by
  refine F.ok scBkReq (fun vs H Q E h => ?_) (fun cdv A outer s H vs Q E hr h => ?_)
  · obtain ⟨v, b, j, rfl, _⟩ := h
    rfl
  · obtain ⟨v, b, j, rfl, hb, wf, hj, k⟩ := h
    refine ⟨_, (pss_one (ps_if (pt_not (pt_chain op_le op_lt pe_int (pv 1) (pe_callB call_len_seq (by rfl) T.len PySem.boot_len (pa_cons (pe_fld (pv 0) rfl) pa_nil)))) (pss_one ps_never) pss_nil)), ?_⟩
    refine if_f (H0 := H) (Same.refl _) (ev_bool (ev_notB (ev_test (ev_chain (i := (j : Int)) (k := (b.es.length : Int)) ev_int (ev_v rfl rfl) (ev_lenU (ev_bkEs L (ev_v rfl hb)))))) ?_) fun H1 s1 => k _ s1
    rw [decide_eq_true (by omega), decide_eq_true (by omega)]
    rfl
theorem ok_bkLeft {f CE CB : Addr} {fd : FuncData} (F : Fun K "left_of" "Book.left_of" sBkLeft f fd) (L : BkC K CB) (mR : BkM P w K mg base CB "require" 1 (spAtB CE CB fReq)) : FnOk P w K mg base CX0 2 f fd ["self", "at"] (spAtB CE CB fLeft) := by
  obtain ⟨fR, fdR, GR, mR, bR⟩ := mR
  refine F.ok scBkLeft (fun vs H Q E h => ?_) (fun cdv A outer s H vs Q E hr h => ?_)
  · obtain ⟨v, b, j, rfl, _⟩ := h
    rfl
  · obtain ⟨v, b, j, rfl, hb, wf, hj, k⟩ := h
    refine ⟨_, (pss_cons (ps_expr (pe_meth (E := E0) (pv 0) L.cl mR GR hr bR .nil pass0 (pa_cons (pv 1) pa_nil)))
  (pss_one (ps_ret (pe_ix ix_tup (pe_fld (pv 0) rfl) (pv 1) (fun _ _ => rfl))))), ?_⟩
    refine ev_atB (H0 := H) (by decide +kernel) wf hj (ev_v rfl hb) (ev_v (R := isIv (j : Int)) rfl rfl) H _ (Same.refl _) fun u1 H1 s1 _ _ => ?_
    refine ev_ixU (H0 := H1) (n := j) (a := leftAt b.es j) (getD_at (by rw [lefts_len]; exact hj)) (ev_bkLf L (ev_v rfl (up s1 hb))) (ev_v (R := isIv (j : Int)) rfl rfl) H1 _ (Same.refl _) fun u2 H2 s2 _ e2 => ?_
    cases e2
    exact k _ (s1.trans s2)
theorem ok_bkGet {f CE CB : Addr} {fd : FuncData} (F : Fun K "__getitem__" "Book.__getitem__" sBkGet f fd) (L : BkC K CB) (mR : BkM P w K mg base CB "require" 1 (spAtB CE CB fReq)) : FnOk P w K mg base CX0 2 f fd ["self", "at"] (spBkGet CE CB) := by
  obtain ⟨fR, fdR, GR, mR, bR⟩ := mR
  refine F.ok scBkGet (fun vs H Q E h => ?_) (fun cdv A outer s H vs Q E hr h => ?_)
  · obtain ⟨v, b, j, e, rfl, _⟩ := h
    rfl
  · obtain ⟨v, b, j, e, rfl, hb, wf, he, k⟩ := h
    have hj : j < b.es.length := (List.getElem?_eq_some_iff.mp he).1
    refine ⟨_, (pss_cons (ps_expr (pe_meth (E := E0) (pv 0) L.cl mR GR hr bR .nil pass0 (pa_cons (pv 1) pa_nil)))
  (pss_one (ps_ret (pe_ix ix_tup (pe_fld (pv 0) rfl) (pv 1) (fun _ _ => rfl))))), ?_⟩
    refine ev_atB (H0 := H) (by decide +kernel) wf hj (ev_v rfl hb) (ev_v (R := isIv (j : Int)) rfl rfl) H _ (Same.refl _) fun u1 H1 s1 _ _ => ?_
    exact ev_ixU (H0 := H1) (n := j) (a := e) he (ev_bkEs L (ev_v rfl (up s1 hb))) (ev_v (R := isIv (j : Int)) rfl rfl) H1 _ (Same.refl _) fun u2 H2 s2 _ e2 => k _ _ (s1.trans s2) e2
theorem ok_bkLen {f CE CB : Addr} {fd : FuncData} (F : Fun K "__len__" "Book.__len__" sBkLen f fd) (T : BltBk mg) (L : BkC K CB) : FnOk P w K mg base CX0 1 f fd ["self"] (spBkLen CE CB) := by
  refine F.ok scBkLen (fun vs H Q E h => ?_) (fun cdv A outer s H vs Q E hr h => ?_)
  · obtain ⟨v, b, rfl, _⟩ := h
    rfl
  · obtain ⟨v, b, rfl, hb, k⟩ := h
    refine ⟨_, (pss_one (ps_ret (pe_callB call_len_seq (by rfl) T.len PySem.boot_len (pa_cons (pe_fld (pv 0) rfl) pa_nil)))), ?_⟩
    exact ev_lenU (H0 := H) (ev_bkEs L (ev_v rfl hb)) H _ (Same.refl _) fun u H1 s1 _ e => by
      cases e
      exact k _ s1
theorem ok_bkDepth {f CE CB : Addr} {fd : FuncData} (F : Fun K "depth_of" "Book.depth_of" sBkDepth f fd) (L : BkC K CB) (N : EnC K CE) (mR : BkM P w K mg base CB "require" 1 (spAtB CE CB fReq)) : FnOk P w K mg base CX0 2 f fd ["self", "at"] (spAtB CE CB fDepth) := by
  obtain ⟨fR, fdR, GR, mR, bR⟩ := mR
  refine F.ok scBkDepth (fun vs H Q E h => ?_) (fun cdv A outer s H vs Q E hr h => ?_)
  · obtain ⟨v, b, j, rfl, _⟩ := h
    rfl
  · obtain ⟨v, b, j, rfl, hb, wf, hj, k⟩ := h
    refine ⟨_, (pss_cons (ps_expr (pe_meth (E := E0) (pv 0) L.cl mR GR hr bR .nil pass0 (pa_cons (pv 1) pa_nil)))
  (pss_cons (ps_set (i := 2) scBkDepth.nd rfl (Or.inl rfl) pe_int)
  (pss_cons (ps_while PassesOwn.never (pt_cmpR op_notN (pe_fld (pe_ix ix_tup (pe_fld (pv 0) rfl) (pv 1) (fun _ _ => rfl)) rfl) pe_non (nomark _))
  (pss_cons (ps_set (i := 1) scBkDepth.nd rfl (Or.inl rfl) (pe_fld (pe_ix ix_tup (pe_fld (pv 0) rfl) (pv 1) (fun _ _ => rfl)) rfl))
  (pss_one (ps_set (i := 2) scBkDepth.nd rfl (Or.inl rfl) (pe_op op_add (pv 2) pe_int)))))
  (pss_one (ps_ret (pv 2)))))), ?_⟩
    refine ev_atB (H0 := H) (by decide +kernel) wf hj (ev_v rfl hb) (ev_v (R := isIv (j : Int)) rfl rfl) H _ (Same.refl _) fun u1 H1 s1 _ _ => ?_
    try dsimp only [gName, tSeq, tAsg, tNext]
    refine ⟨fun m σ H' => ∃ x c : Nat, σ = [some v, some (.int (x : Int)), some (.int (c : Int))] ∧ Same H H' ∧ x < b.es.length ∧ depth b.es x + c = depth b.es j ∧ x = m, ⟨_, j, 0, rfl, s1, hj, rfl, rfl⟩, ?_⟩
    rintro m σ H2 ⟨x, c, rfl, s2, xl, tx, rfl⟩
    have tg := taAt_get xl
    refine ev_bool (ev_test (ev_notN (H0 := H2) (u := oV b.es[x].ta) (ev_enTa N (ev_esAt xl (ev_bkEs L (ev_v rfl (up s2 hb))) (ev_v (R := isIv (x : Int)) rfl rfl))))) oV_non H2 _ (Same.refl _) fun H3 s3 _ => ?_
    have S3 := s2.trans s3
    cases et : b.es[x].ta with
    | none =>
      rw [et] at tg
      rw [depth_none tg, Nat.zero_add] at tx
      refine iteF ⟨_, rfl, ?_⟩
      rw [tx]
      exact k _ S3
    | some t =>
      rw [et] at tg
      have tl_ := wf.ta x t tg
      rw [depth_some wf.ta tg] at tx
      refine iteT ⟨_, fun _ _ z => z, ?_⟩
      refine ev_enTa (H0 := H3) (K := K) N (ev_esAt xl (ev_bkEs L (ev_v rfl (up S3 hb))) (ev_v (R := isIv (x : Int)) rfl rfl)) H3 _ (Same.refl _) fun u H4 s4 _ eu => ?_
      rw [et] at eu
      cases eu
      try dsimp only [gName, tSeq, tAsg, tNext]
      exact ⟨_, rfl, _, _, rfl, rfl, _, tl_, t, c + 1, rfl, S3.trans s4, by omega, by omega, rfl⟩
theorem ok_bkKind {f CE CB : Addr} {fd : FuncData} (F : Fun K "kind_of" "Book.kind_of" sBkKind f fd) (L : BkC K CB) (N : EnC K CE) (mR : BkM P w K mg base CB "require" 1 (spAtB CE CB fReq)) (mD : BkM P w K mg base CB "depth_of" 2 (spAtB CE CB fDepth)) : FnOk P w K mg base CX0 3 f fd ["self", "at"] (spAtB CE CB fKind) := by
  obtain ⟨fR, fdR, GR, mR, bR⟩ := mR
  obtain ⟨fD, fdD, GD, mD, bD⟩ := mD
  refine F.ok scBkKind (fun vs H Q E h => ?_) (fun cdv A outer s H vs Q E hr h => ?_)
  · obtain ⟨v, b, j, rfl, _⟩ := h
    rfl
  · obtain ⟨v, b, j, rfl, hb, wf, hj, k⟩ := h
    have hr1 : Room 1 _ := hr.mono (by decide)
    refine ⟨_, (pss_cons (ps_expr (pe_meth (E := E0) (pv 0) L.cl mR GR hr1 bR .nil pass0 (pa_cons (pv 1) pa_nil)))
  (pss_cons (ps_if (pt_cmpR op_notN (pe_fld (pe_ix ix_tup (pe_fld (pv 0) rfl) (pv 1) (fun _ _ => rfl)) rfl) pe_non (nomark _)) (pss_one (ps_ret pe_str)) pss_nil)
  (pss_cons (ps_if (pt_cmpR op_isN (pe_fld (pe_ix ix_tup (pe_fld (pv 0) rfl) (pv 1) (fun _ _ => rfl)) rfl) pe_non (nomark _)) (pss_one (ps_ret pe_str)) pss_nil)
  (pss_one (ps_ret (pe_ifExp (pt_cmpR op_eq (pe_op op_mod (pe_meth (E := E0) (pv 0) L.cl mD GD hr bD .nil pass0 (pa_cons (pv 1) pa_nil)) pe_int) pe_int (nomark _)) pe_str pe_str)))))), ?_⟩
    refine ev_atB (H0 := H) (by decide +kernel) wf hj (ev_v rfl hb) (ev_v (R := isIv (j : Int)) rfl rfl) H _ (Same.refl _) fun u1 H1 s1 _ _ => ?_
    have hb1 := up s1 hb
    have tg := taAt_get hj
    have og := olAt_get hj
    try dsimp only [gName, tSeq, tAsg, tNext]
    unfold fKind kindAt at k
    refine if_b (H0 := H1) (Same.refl _) (ev_bool (ev_test (ev_notN (u := oV b.es[j].ol) (ev_enOl N (ev_esAt hj (ev_bkEs L (ev_v rfl hb1)) (ev_v (R := isIv (j : Int)) rfl rfl))))) oV_non) (fun e H2 s2 => ?_) (fun e H2 s2 => ?_)
    · rw [og, if_pos e] at k
      exact k _ (s1.trans s2)
    rw [og, if_neg (by rw [e]; exact Bool.false_ne_true)] at k
    have hb2 := up s2 hb1
    try dsimp only [gName, tSeq, tAsg, tNext]
    refine if_b (H0 := H2) (Same.refl _) (ev_bool (ev_test (ev_isN (u := oV b.es[j].ta) (ev_enTa N (ev_esAt hj (ev_bkEs L (ev_v rfl hb2)) (ev_v (R := isIv (j : Int)) rfl rfl))))) oV_is) (fun e H3 s3 => ?_) (fun e H3 s3 => ?_)
    · rw [tg, if_pos e] at k
      exact k _ ((s1.trans s2).trans s3)
    rw [tg, if_neg (by rw [e]; exact Bool.false_ne_true)] at k
    have hb3 := up s3 hb2
    refine ev_if (H0 := H3) (R := isSv (if depth b.es j % 2 = 1 then ("minus" : Str) else ("plus" : Str))) (b := decide (((depth b.es j : Nat) : Int) % 2 = 1)) (ev_test (ev_eqi (j := 1) (ev_mod (i := ((depth b.es j : Nat) : Int)) (j := 2) (by decide) (ev_atB (f := fDepth) (by decide +kernel) wf hj (ev_v rfl hb3) (ev_v (R := isIv (j : Int)) rfl rfl)) ev_int) ev_int)) (fun e => ?_) (fun e => ?_) H3 _ (Same.refl _) fun u H4 s4 _ eu => ?_
    · have z := of_decide_eq_true e
      rw [if_pos (by omega)]
      exact ev_str
    · have z := of_decide_eq_false e
      rw [if_neg (by omega)]
      exact ev_str
    · cases eu
      exact k _ (((s1.trans s2).trans s3).trans s4)
end
end V3

set_option Elab.async false
set_option linter.all false
set_option maxRecDepth 100000
/-! what the program does with books: months, moves by their fields -/
namespace V3
open PySem L2 TL
abbrev sMonthFor : Stmt := top 36
abbrev sOverAll : Stmt := top 37
def oI : Option Int → V
  | some n => .int n
  | none => .non
theorem oI_is {o : Option Int} : decide (oI o = .non) = o.isNone := by
  cases o with
  | none => rfl
  | some n => exact decide_eq_false (fun z => by cases z)
theorem oI_non {o : Option Int} : (!decide (oI o = .non)) = o.isSome := by
  rw [oI_is]
  cases o <;> rfl
theorem optV_is {o : Option Str} : decide (optV o = .non) = o.isNone := by
  cases o with
  | none => rfl
  | some n => exact decide_eq_false (fun z => by cases z)
/-- what is done with books and houses -/
structure BkOps (P : Program) (w : World) (K : PySem.W.Frag) (mg : Str → Option Value) (base : Heap) (c : Rc) (CH CE CB : Addr) : Prop where
  L : BkC K CB
  N : EnC K CE
  hc : HsC K CH
  pl : ∃ (f : Addr) (fd : FuncData), FnOk P w K mg base CX0 2 f fd ["self", "kind", "state", "deed"] (spPlaced K c CH) ∧ Meth K CH "placed" f ∧ Binds K fd ["self", "kind", "state", "deed"] []
  get : ∃ (f : Addr) (fd : FuncData), FnOk P w K mg base CX0 2 f fd ["self", "at"] (spBkGet CE CB) ∧ GetCls K CB f ∧ Binds K fd ["self", "at"] []
  len : ∃ (f : Addr) (fd : FuncData), FnOk P w K mg base CX0 1 f fd ["self"] (spBkLen CE CB) ∧ PySem.W.findIn K (.ref CB) "__len__" = some (some (.ref f)) ∧ PySem.W.isFn K (.ref f) = true ∧ Binds K fd ["self"] []
  left : BkM P w K mg base CB "left_of" 2 (spAtB CE CB fLeft)
  dep : BkM P w K mg base CB "depth_of" 2 (spAtB CE CB fDepth)
  kind : BkM P w K mg base CB "kind_of" 3 (spAtB CE CB fKind)
  gE : mg "Entry" = some (.ref CE)
  gB : mg "Book" = some (.ref CB)
  mkE : ∃ (f : Addr) (fd : FuncData), FnOk P w K mg base CX0 1 f fd ["self", "month", "amount", "target", "old"] (spEnInit CE) ∧ Mk K CE f ∧ Binds K fd ["self", "month", "amount", "target", "old"] []
  mkB : ∃ (f : Addr) (fd : FuncData), FnOk P w K mg base CX0 2 f fd ["self", "entries", "month"] (spBkInit CE CB) ∧ Mk K CB f ∧ Binds K fd ["self", "entries", "month"] []
def FFb (CE CB : Addr) : Addr → Sp → XK → Prop := fun D sp E => D = CB ∧ sp = spBkGet CE CB ∧ E = E0
theorem get_B {X : Cx} {c : Rc} {CH CE CB : Addr} (T : BkOps X.prog X.w X.K X.mg X.base c CH CE CB) : ∀ D sp E, FFb CE CB D sp E → ∃ (CX : CXT) (f : Addr) (fd : FuncData) (ps : List Str), FnOk X.prog X.w X.K X.mg X.base CX 2 f fd ps sp ∧ GetCls X.K D f ∧ Binds X.K fd ps [] ∧ Passes CX X E := fun D sp E h => by
  obtain ⟨rfl, rfl, rfl⟩ := h
  obtain ⟨f, fd, F, ec, bi⟩ := T.get
  exact ⟨CX0, f, fd, _, F, ec, bi, fun _ _ _ _ _ _ _ h => h.elim⟩
def rLenB (CE CB : Addr) : List V → Hp → VK → Prop := fun xs H Q => ∃ v b, xs = [v] ∧ BkA CE CB b v H ∧ b.es.length ≤ 1000 ∧ ∀ H', Same H H' → Q (.int (b.es.length : Int)) H'
theorem call_lenB {X : Cx} {c : Rc} {CH CE CB : Addr} (T : BkOps X.prog X.w X.K X.mg X.base c CH CE CB) (room : Room 2 X.A) : CallR X (.builtin "len") (rLenB CE CB) := by
  intro pins s σ H xs us Q I r h
  obtain ⟨v, b, rfl, a, n, q⟩ := h
  obtain ⟨f, fd, G, at_, isf, bi⟩ := T.len
  obtain ⟨x, dx, t, p, rfl, hx, ht, hp⟩ := id a
  refine call_lenO (E := fun _ _ _ => False) G at_ isf bi pass0 room pins s σ H _ us Q I r ⟨x, dx, _, rfl, hx, _, b, rfl, a, fun H' s' => ⟨_, rfl, ⟨by omega, ?_⟩, q H' s'⟩⟩
  exact Int.lt_of_le_of_lt (b := 1000) (by omega) (by decide)
def spMonthFor (K : PySem.W.Frag) (c : Rc) (CH CE CB : Addr) : Sp := fun vs H Q _ => ∃ (hv v : V) (h : Hs) (b : Bk) (j : Nat) (d : Str), vs = [hv, v, .int (j : Int), .str d] ∧ HsA K c CH h hv H ∧ BkA CE CB b v H ∧ h.ok ∧ Wf b ∧ j < b.es.length ∧ d ∈ deedL ∧ ∀ H', Same H H' → Q (oI (monthFor h b j d)) H'
def spOverAll (CE CB : Addr) : Sp := fun vs H Q _ => ∃ (v : V) (b : Bk) (j : Nat) (a : Int), vs = [v, .int (j : Int), .int a] ∧ BkA CE CB b v H ∧ Wf b ∧ j < b.es.length ∧ ∀ H', Same H H' → Q (.bl (overAll b.es j a)) H'
section
variable {K : PySem.W.Frag} {c : Rc} {CH CE CB : Addr} {σ : L2.St} {ta tb td tc te : TE} {H0 : Hp} {h : Hs} {b : Bk} {j : Nat} {k s d : Str}
theorem ev_placed (ok : h.ok) (hk : k ∈ kindL) (hs : s ∈ stateL) (hd : d ∈ deedL) (ha : EvV (Same H0) σ ta (HsA K c CH h)) (h1 : EvV (Same H0) σ tb (isSv k)) (h2 : EvV (Same H0) σ tc (isSv s)) (h3 : EvV (Same H0) σ td (isSv d)) :
    EvV (Same H0) σ (tMeth CH "placed" (spPlaced K c CH) [] E0 ta (tCons tb (tCons tc (tCons td tNil)))) (isVv (optV (placeIn k s d h.rs))) :=
  ev_meth ha (fun x H a => by
    obtain ⟨x, dx, q, us, rfl, hx, _⟩ := a
    exact ⟨x, dx, _, rfl, hx, by
      unfold hsF
      rw [lk_ne (by decide +kernel), lk_ne (by decide +kernel), lk_ne (by decide +kernel)]
      rfl⟩) (eva_cons h1 (eva_cons h2 (eva_cons h3 eva_nil))) fun x vs H Q w rx r kk => by
    obtain ⟨v1, r, rfl, e1, v2, r, rfl, e2, v3, r, rfl, e3, rfl⟩ := r
    cases e1
    cases e2
    cases e3
    exact ⟨x, h, k, s, d, rfl, rx, ok, hk, hs, hd, fun H' s' => kk _ H' s' rfl⟩
theorem ev_ixB {e : En} (wf : Wf b) (he : b.es[j]? = some e) (ha : EvV (Same H0) σ ta (BkA CE CB b)) (hb : EvV (Same H0) σ tb (isIv (j : Int))) : EvV (Same H0) σ (tOp (rIxO (FFb CE CB)) ta tb) (EnA CE e) :=
  ev_o ha hb fun x y H Q w a1 a2 k => by
    cases a2
    obtain ⟨x, dx, q, p, rfl, hx, hq, hp⟩ := id a1
    exact ⟨x, CB, dx, _, spBkGet CE CB, E0, rfl, hx, ⟨rfl, rfl, rfl⟩, _, b, j, e, rfl, a1, wf, he, fun u H' s ee => k u H' s ee⟩
theorem ev_lenB (n : b.es.length ≤ 1000) (ha : EvV (Same H0) σ ta (BkA CE CB b)) : EvV (Same H0) σ (tCB (rLenB CE CB) (tCons ta tNil)) (isIv (b.es.length : Int)) :=
  ev_cb (eva_cons ha eva_nil) fun vs H Q w r k => by
    obtain ⟨v, r, rfl, hv, rfl⟩ := r
    exact ⟨v, b, rfl, hv, n, fun H' s' => k _ H' s' rfl⟩
theorem moAt_get (hj : j < b.es.length) : moAt b.es j = b.es[j].mo := by
  unfold moAt
  rw [List.getElem?_eq_getElem hj]
  rfl
theorem amAt_get (hj : j < b.es.length) : amAt b.es j = b.es[j].am := by
  unfold amAt
  rw [List.getElem?_eq_getElem hj]
  rfl
theorem ev_monthFor (ok : h.ok) (wf : Wf b) (hj : j < b.es.length) (hd : d ∈ deedL) (h1 : EvV (Same H0) σ ta (HsA K c CH h)) (h2 : EvV (Same H0) σ tb (BkA CE CB b)) (h3 : EvV (Same H0) σ tc (isIv (j : Int))) (h4 : EvV (Same H0) σ td (isSv d)) :
    EvV (Same H0) σ (tCall (spMonthFor K c CH CE CB) [] E0 (tCons ta (tCons tb (tCons tc (tCons td tNil))))) (isVv (oI (monthFor h b j d))) :=
  ev_call (eva_cons h1 (eva_cons h2 (eva_cons h3 (eva_cons h4 eva_nil)))) fun vs H Q _ r k => by
    obtain ⟨v1, r, rfl, e1, v2, r, rfl, e2, v3, r, rfl, e3, v4, r, rfl, e4, rfl⟩ := r
    cases e3
    cases e4
    exact ⟨v1, v2, h, b, j, d, rfl, e1, e2, ok, wf, hj, hd, fun H' s => k _ H' s rfl⟩
theorem ev_overAll {a : Int} (wf : Wf b) (hj : j < b.es.length) (h2 : EvV (Same H0) σ tb (BkA CE CB b)) (h3 : EvV (Same H0) σ tc (isIv (j : Int))) (h4 : EvV (Same H0) σ td (isIv a)) :
    EvV (Same H0) σ (tCall (spOverAll CE CB) [] E0 (tCons tb (tCons tc (tCons td tNil)))) (isBv (overAll b.es j a)) :=
  ev_call (eva_cons h2 (eva_cons h3 (eva_cons h4 eva_nil))) fun vs H Q _ r k => by
    obtain ⟨v2, r, rfl, e2, v3, r, rfl, e3, v4, r, rfl, e4, rfl⟩ := r
    cases e3
    cases e4
    exact ⟨v2, b, j, a, rfl, e2, wf, hj, fun H' s => k _ H' s rfl⟩
end
section
variable {P : Program} {w : World} {K : PySem.W.Frag} {mg : Str → Option Value} {base : Heap}
theorem scMonthFor : FnScope ["house", "book", "at", "deed", "own", "state", "place"] ["house", "book", "at", "deed"] (defScope sMonthFor) := ⟨rfl, rfl, rfl, by decide +kernel, rfl, by decide +kernel, by decide +kernel⟩
theorem scOverAll : FnScope ["book", "at", "amount", "target", "above"] ["book", "at", "amount"] (defScope sOverAll) := ⟨rfl, rfl, rfl, by decide +kernel, rfl, by decide +kernel, by decide +kernel⟩
theorem ok_monthFor {f CH CE CB : Addr} {c : Rc} {fd : FuncData} (F : Fun K "month_for" "month_for" sMonthFor f fd) (T : BkOps P w K mg base c CH CE CB) : FnOk P w K mg base CX0 4 f fd ["house", "book", "at", "deed"] (spMonthFor K c CH CE CB) := by
  obtain ⟨fP, fdP, GP, mP, bP⟩ := T.pl
  obtain ⟨fK, fdK, GK, mK, bK⟩ := T.kind
  refine F.ok scMonthFor (fun vs H Q E h => ?_) (fun cdv A outer s H vs Q E hr h => ?_)
  · obtain ⟨hv, v, h, b, j, d, rfl, _⟩ := h
    rfl
  · obtain ⟨hv, v, h, b, j, d, rfl, hh, hb, ok, wf, hj, hd, k⟩ := h
    have hr2 : Room 2 _ := hr.mono (by decide)
    refine ⟨_, (pss_cons (ps_set (i := 4) scMonthFor.nd rfl (Or.inl rfl) (pe_fld (pe_ixO (get_B T) hr (pv 1) (pv 2)) rfl))
  (pss_cons (ps_set (i := 5) scMonthFor.nd rfl (Or.inl rfl) (pe_ifExp (pt_cmpR op_eq (pv 4) (pe_fld (pv 1) rfl) (nomark _)) pe_str pe_str))
  (pss_cons (ps_set (i := 6) scMonthFor.nd rfl (Or.inl rfl) (pe_meth (E := E0) (pv 0) T.hc.cl mP GP hr2 bP .nil pass0 (pa_cons (pe_meth (E := E0) (pv 1) T.L.cl mK GK hr bK .nil pass0 (pa_cons (pv 2) pa_nil)) (pa_cons (pv 5) (pa_cons (pv 3) pa_nil)))))
  (pss_cons (ps_if (pt_cmpR op_isN (pv 6) pe_non (nomark _)) (pss_one (ps_ret pe_non)) pss_nil)
  (pss_one (ps_ret (pe_ifExp (pt_cmpR op_eq (pv 6) pe_str (nomark _)) (pe_fld (pv 1) rfl) (pv 4)))))))), ?_⟩
    try dsimp only [gName, tSeq, tAsg, tNext]
    refine ev_enMo (H0 := H) (K := K) T.N (ev_ixB wf (List.getElem?_eq_getElem hj) (ev_v rfl hb) (ev_v (R := isIv (j : Int)) rfl rfl)) H _ (Same.refl _) fun u1 H1 s1 _ e1 => ?_
    cases e1
    rw [← moAt_get hj]
    have hb1 := up s1 hb
    try dsimp only [gName, tSeq, tAsg, tNext]
    refine ev_if (H0 := H1) (R := isSv (stateAt b j)) (b := decide (moAt b.es j = b.m)) (ev_test (ev_eqi (i := moAt b.es j) (j := b.m) (ev_v rfl rfl) (ev_bkMo T.L (ev_v rfl hb1)))) (fun e => ?_) (fun e => ?_) H1 _ (Same.refl _) fun u2 H2 s2 _ e2 => ?_
    · unfold stateAt
      rw [if_pos (of_decide_eq_true e)]
      exact ev_str
    · unfold stateAt
      rw [if_neg (of_decide_eq_false e)]
      exact ev_str
    cases e2
    have S2 := s1.trans s2
    have hb2 := up s2 hb1
    try dsimp only [gName, tSeq, tAsg, tNext]
    refine ev_placed (H0 := H2) ok (kind_in b.es j) (state_in b j) hd (ev_v rfl (up S2 hh)) (ev_atB (f := fKind) (by decide +kernel) wf hj (ev_v rfl hb2) (ev_v (R := isIv (j : Int)) rfl rfl)) (ev_v rfl rfl) (ev_v rfl rfl) H2 _ (Same.refl _) fun u3 H3 s3 _ e3 => ?_
    cases e3
    have S3 := S2.trans s3
    have hb3 := up s3 hb2
    unfold monthFor at k
    generalize placeIn (kindAt b.es j) (stateAt b j) d h.rs = o at k ⊢
    try dsimp only [gName, tSeq, tAsg, tNext]
    cases o with
    | none => exact if_t (H0 := H3) (Same.refl _) (ev_test (ev_isN (u := optV none) (ev_v rfl rfl))) fun H4 s4 => k _ (S3.trans s4)
    | some p =>
      refine if_f (H0 := H3) (Same.refl _) (ev_bool (ev_test (ev_isN (u := optV (some p)) (ev_v rfl rfl))) optV_is) fun H4 s4 => ?_
      have hb4 := up s4 hb3
      refine ev_if (H0 := H4) (R := isIv (if p = ("now" : Str) then b.m else moAt b.es j)) (b := decide (p = ("now" : Str))) (ev_test (ev_eqS (i := p) (j := "now") (ev_v rfl rfl) ev_str)) (fun e => ?_) (fun e => ?_) H4 _ (Same.refl _) fun u5 H5 s5 _ e5 => ?_
      · rw [if_pos (of_decide_eq_true e)]
        exact ev_bkMo T.L (ev_v rfl hb4)
      · rw [if_neg (of_decide_eq_false e)]
        exact ev_v rfl rfl
      · cases e5
        exact k _ ((S3.trans s4).trans s5)
theorem ok_overAll {f CH CE CB : Addr} {c : Rc} {fd : FuncData} (F : Fun K "is_over_all" "is_over_all" sOverAll f fd) (T : BkOps P w K mg base c CH CE CB) : FnOk P w K mg base CX0 4 f fd ["book", "at", "amount"] (spOverAll CE CB) := by
  obtain ⟨fL, fdL, GL, mL, bL⟩ := T.left
  refine F.ok scOverAll (fun vs H Q E h => ?_) (fun cdv A outer s H vs Q E hr h => ?_)
  · obtain ⟨v, b, j, a, rfl, _⟩ := h
    rfl
  · obtain ⟨v, b, j, a, rfl, hb, wf, hj, k⟩ := h
    have hr2 : Room 2 _ := hr.mono (by decide)
    refine ⟨_, (pss_cons (ps_set (i := 3) scOverAll.nd rfl (Or.inl rfl) (pe_fld (pe_ixO (get_B T) hr (pv 0) (pv 1)) rfl))
  (pss_cons (ps_set (i := 4) scOverAll.nd rfl (Or.inl rfl) (pe_ifExp (pt_cmpR op_isN (pv 3) pe_non (nomark _)) pe_non (pe_fld (pe_ixO (get_B T) hr (pv 0) (pv 3)) rfl)))
  (pss_one (ps_ret (pe_and (pe_cmpR op_notN (pv 4) pe_non (nomark _)) (pe_one (pe_cmpR op_gt (pv 2) (pe_meth (E := E0) (pv 0) T.L.cl mL GL hr2 bL .nil pass0 (pa_cons (pv 4) pa_nil)) (nomark _)))))))), ?_⟩
    try dsimp only [gName, tSeq, tAsg, tNext]
    refine ev_enTa (H0 := H) (K := K) T.N (ev_ixB wf (List.getElem?_eq_getElem hj) (ev_v rfl hb) (ev_v (R := isIv (j : Int)) rfl rfl)) H _ (Same.refl _) fun u1 H1 s1 _ e1 => ?_
    cases e1
    have tg := taAt_get hj
    rw [← tg]
    have hb1 := up s1 hb
    unfold overAll at k
    try dsimp only [gName, tSeq, tAsg, tNext]
    refine ev_if (H0 := H1) (R := isVv (oV ((taAt b.es j).bind (taAt b.es)))) (ev_bool (ev_test (ev_isN (u := oV (taAt b.es j)) (ev_v rfl rfl))) oV_is) (fun e => ?_) (fun e => ?_) H1 _ (Same.refl _) fun u2 H2 s2 _ e2 => ?_
    · rw [Option.isNone_iff_eq_none.mp e]
      exact ev_c
    · cases et : taAt b.es j with
      | none => rw [et] at e; cases e
      | some t =>
        have tj := wf.ta j t et
        have tl : t < b.es.length := by omega
        rw [show (some t).bind (taAt b.es) = taAt b.es t from rfl, taAt_get tl]
        exact ev_enTa T.N (ev_ixB wf (List.getElem?_eq_getElem tl) (ev_v rfl hb1) (ev_v (R := isIv (t : Int)) rfl rfl))
    cases e2
    have S2 := s1.trans s2
    have hb2 := up s2 hb1
    have lt : ∀ t, (taAt b.es j).bind (taAt b.es) = some t → t < b.es.length := fun t e => by
      obtain ⟨x, e1, e2⟩ := Option.bind_eq_some_iff.mp e
      have := wf.ta _ _ e1
      have := wf.ta _ _ e2
      omega
    generalize (taAt b.es j).bind (taAt b.es) = o at k lt ⊢
    cases o with
    | none => exact ev_af (H0 := H2) (ev_is (ev_notN (u := oV none) (ev_v rfl rfl)) oV_non) H2 _ (Same.refl _) (fun u3 H3 s3 _ e3 => by
        cases e3
        exact k _ (S2.trans s3))
    | some t => exact ev_at (H0 := H2) (R := isBv (decide (leftAt b.es t < a))) (ev_is (ev_notN (u := oV (some t)) (ev_v rfl rfl)) oV_non) (ev_gt (i := a) (j := leftAt b.es t) (ev_v rfl rfl) (ev_atB (f := fLeft) (by decide +kernel) wf (lt t rfl) (ev_v rfl hb2) (ev_v (R := isIv (t : Int)) rfl rfl))) H2 _ (Same.refl _) (fun u3 H3 s3 _ e3 => by
        cases e3
        exact k _ (S2.trans s3))
end
end V3

set_option Elab.async false
set_option linter.all false
set_option maxRecDepth 100000
/-! <= and >= of objects of our own classes, by their own methods -/
namespace V3
open PySem PySem.Spec PyProof.Rows L2
/-- a class with an own method for the comparison at f -/
structure CmpCls (K : PySem.W.Frag) (C f : Addr) (op : CmpOp) : Prop where
  at_ : PySem.W.findIn K (.ref C) (cmpInfo op).2.1 = some (some (.ref f))
  fn : PySem.W.isFn K (.ref f) = true
section
variable {X : Cx} {n : Nat}
theorem rc_own {op : CmpOp} {FF : Addr → Sp → XK → Prop} (hF : ∀ C sp E, FF C sp E → ∃ (CX : CXT) (f : Addr) (fd : FuncData) (ps : List Str), FnOk X.prog X.w X.K X.mg X.base CX n f fd ps sp ∧ CmpCls X.K C f op ∧ Binds X.K fd ps [] ∧ Passes CX X E) (hr : Room n X.A) : OpR X (richCompare op) (rEqO X.K n FF false) := by
  intro pins s σ H x y v u Q I rx ry hq
  obtain ⟨a, C, dx, fs, b, D, dy, gs, sp, E, rfl, rfl, ha, hb, ff, hn, hsp⟩ := hq
  obtain ⟨CX, f, fd, ps, F, ec, bi, hx⟩ := hF C sp E ff
  cases rx
  cases ry
  obtain ⟨mA, J, _⟩ := ins_get I.hok ha
  obtain ⟨mB, J', _⟩ := ins_get I.hok hb
  obtain ⟨od, J, _⟩ := J.look
  obtain ⟨od', J', _⟩ := J'.look
  obtain ⟨m, hF⟩ := I.fr
  refine PySem.W.cmp_K (op := op) (tb := .ref D) hr.units0 hF I.ok.mod.kin J J'.type hn ec.at_ ec.fn ?_
  refine wpAny_mono (run_own (x := .ref a) (y := .ref b) ⟨hr, rfl⟩ F bi hx I rfl rfl hsp) (fun w s' q => ?_) fun _ _ e => e
  obtain ⟨z, H', I', rz, r, ez, q⟩ := q
  subst ez
  cases rz
  refine ⟨.bl r, H', I', rfl, ?_⟩
  have e : (r != false) = r := by cases r <;> rfl
  rw [e] at q
  exact q
theorem op_leO {FF : Addr → Sp → XK → Prop} (hF : ∀ C sp E, FF C sp E → ∃ (CX : CXT) (f : Addr) (fd : FuncData) (ps : List Str), FnOk X.prog X.w X.K X.mg X.base CX n f fd ps sp ∧ CmpCls X.K C f .LtE ∧ Binds X.K fd ps [] ∧ Passes CX X E) (hr : Room n X.A) : OpR X (compareOp .LtE) (rEqO X.K n FF false) := rc_own hF hr
theorem op_geO {FF : Addr → Sp → XK → Prop} (hF : ∀ C sp E, FF C sp E → ∃ (CX : CXT) (f : Addr) (fd : FuncData) (ps : List Str), FnOk X.prog X.w X.K X.mg X.base CX n f fd ps sp ∧ CmpCls X.K C f .GtE ∧ Binds X.K fd ps [] ∧ Passes CX X E) (hr : Room n X.A) : OpR X (compareOp .GtE) (rEqO X.K n FF false) := rc_own hF hr
end
end V3

set_option Elab.async false
set_option linter.all false
set_option maxRecDepth 100000
/-! houses put together: &, <=, >= -/
namespace V3
open PySem L2 TL
abbrev sShared : Stmt := top 53
abbrev sNoMore : Stmt := top 54
abbrev sAnd : Stmt := inClass (top 47) 7
abbrev sLe : Stmt := inClass (top 47) 8
abbrev sGe : Stmt := inClass (top 47) 9
def svS : V → Str
  | .str s => s
  | _ => ""
def shP (p q : Hs) (x y z : V) : Bool := (placeIn (svS x) (svS y) (svS z) p.rs).isSome && decide (placeIn (svS x) (svS y) (svS z) p.rs = placeIn (svS x) (svS y) (svS z) q.rs)
def shF (p : Hs) (x y z : V) : Rw := .lt (svS x) (svS y) (svS z) ((placeIn (svS x) (svS y) (svS z) p.rs).getD "")
/-- the rows that both have -/
def sharedR (p q : Hs) : List Rw := tri (kindL.map V.str) (stateL.map V.str) (deedL.map V.str) (shP p q) (shF p)
def andH (p q : Hs) : Hs := ⟨if p.d ≤ q.d then p.d else q.d, if decide (("all" : Str) ∈ [p.ch, q.ch]) = true then "all" else "left", sharedR p q⟩
def placeOf (r : Rw) (h : Hs) : Option Str := match r with
  | .lt k s d _ => placeIn k s d h.rs
  | _ => none
/-- p lets no more than q -/
def noMore (p q : Hs) : Bool := !(decide (q.d < p.d) || (decide (p.ch = ("left" : Str)) && decide (q.ch = ("all" : Str)))) && (p.rs.map fun r => decide (placeOf r q = placeOf r p)).all id
theorem placeIn_mem {k s d pl : Str} : ∀ {rs : List Rw}, placeIn k s d rs = some pl → Rw.lt k s d pl ∈ rs
  | [], h => by cases h
  | .lt k' s' d' p' :: r, h => by
    have h2 : (if k' = k ∧ s' = s ∧ d' = d then some p' else placeIn k s d r) = some pl := h
    by_cases e : k' = k ∧ s' = s ∧ d' = d
    · rw [if_pos e] at h2
      rw [← e.1, ← e.2.1, ← e.2.2, ← Option.some.inj h2]
      exact List.mem_cons_self
    · rw [if_neg e] at h2
      exact List.mem_cons_of_mem _ (placeIn_mem h2)
  | .ct _ _ _ :: r, h => List.mem_cons_of_mem _ (placeIn_mem (rs := r) h)
theorem flat_len {α β : Type} {F : α → List β} {n : Nat} : ∀ {xs : List α}, (∀ x ∈ xs, (F x).length ≤ n) → (xs.flatMap F).length ≤ xs.length * n
  | [], _ => by simp
  | x :: r, h => by
    have ih := flat_len (xs := r) fun y hy => h y (List.mem_cons_of_mem _ hy)
    have hx := h x List.mem_cons_self
    rw [List.flatMap_cons, List.length_append, List.length_cons, Nat.succ_mul]
    omega
theorem tri_len {β : Type} {xs ys zs : List V} {pp : V → V → V → Bool} {f : V → V → V → β} : (tri xs ys zs pp f).length ≤ xs.length * (ys.length * (zs.length * 1)) :=
  flat_len fun x _ => flat_len fun y _ => flat_len fun z _ => by split <;> simp
theorem shared_len (p q : Hs) : (sharedR p q).length ≤ 24 := tri_len
theorem shared_row {p q : Hs} {m : Rw} (h : m ∈ sharedR p q) : m ∈ p.rs := by
  unfold sharedR tri at h
  obtain ⟨x, _, h⟩ := List.mem_flatMap.mp h
  obtain ⟨y, _, h⟩ := List.mem_flatMap.mp h
  obtain ⟨z, _, h⟩ := List.mem_flatMap.mp h
  split at h
  · rename_i e
    have h := List.mem_singleton.mp h
    subst h
    unfold shP at e
    have e := (Bool.and_eq_true_iff.mp e).1
    obtain ⟨pl, hp⟩ := Option.isSome_iff_exists.mp e
    unfold shF
    rw [hp]
    exact placeIn_mem hp
  · cases h
theorem andH_ok {p q : Hs} (hp : p.ok) (hq : q.ok) : (andH p q).ok := by
  have a1 : ("all" : Str) ∈ checkL := by decide +kernel
  have a2 : ("left" : Str) ∈ checkL := by decide +kernel
  refine ⟨?_, ?_, ?_, fun m hm => hp.2.2.2.1 m (shared_row hm), Nat.le_trans (shared_len p q) (by decide)⟩
  · show 0 ≤ if p.d ≤ q.d then p.d else q.d
    have := hp.1
    have := hq.1
    split <;> omega
  · show (if p.d ≤ q.d then p.d else q.d) ≤ 4
    have := hp.2.1
    have := hq.2.1
    split <;> omega
  · show (if decide (("all" : Str) ∈ [p.ch, q.ch]) = true then ("all" : Str) else "left") ∈ checkL
    split
    · exact a1
    · exact a2
theorem optV_inj {a b : Option Str} : decide (optV a = optV b) = decide (a = b) := by
  have z : optV a = optV b ↔ a = b := ⟨fun e => by
    cases a with
    | none => cases b with
      | none => rfl
      | some y => cases (show V.non = V.str y from e)
    | some x => cases b with
      | none => cases (show V.str x = V.non from e)
      | some y =>
        have e : V.str x = V.str y := e
        injection e with e
        rw [e], fun e => by rw [e]⟩
  by_cases h : a = b
  · rw [decide_eq_true h, decide_eq_true (z.mpr h)]
  · rw [decide_eq_false h, decide_eq_false fun e => h (z.mp e)]
theorem optV_non {a : Option Str} : (!decide (optV a = .non)) = a.isSome := by
  cases a with
  | none => rfl
  | some x => rfl
theorem optV_scal (a b : Option Str) : scal (optV a) (optV b) = true := by
  cases a <;> cases b <;> rfl
section
variable {K : PySem.W.Frag} {σ : L2.St} {ta tb tc td : TE} {H0 : Hp} {c : Rc} {C : Addr} {p q : Hs} {k s d pl : Str}
theorem ev_let (ok : (Rw.lt k s d pl).ok) (h1 : EvV (Same H0) σ ta (isSv k)) (h2 : EvV (Same H0) σ tb (isSv s)) (h3 : EvV (Same H0) σ tc (isSv d)) (h4 : EvV (Same H0) σ td (isSv pl)) : EvV (Same H0) σ (tMake c.L (spLInit c) [] E0 (tCons ta (tCons tb (tCons tc (tCons td tNil))))) (RwA c (.lt k s d pl)) := fun H Q w kk =>
  h1 H _ w fun v1 H1 s1 w1 e1 => h2 H1 _ w1 fun v2 H2 s2 w2 e2 => h3 H2 _ w2 fun v3 H3 s3 w3 e3 => h4 H3 _ w3 fun v4 H4 s4 w4 e4 => by
    cases e1
    cases e2
    cases e3
    cases e4
    exact fun y dy ny ndy _ => mk_let ok ny ndy fun H' s' a => ⟨rfl, kk _ H' ((((s1.trans s2).trans s3).trans s4).trans s') (w4.trans s') a⟩
theorem ev_hsD (L : HsC K C) (ha : EvV (Same H0) σ ta (HsA K c C p)) : EvV (Same H0) σ (tFld K ta "depth") (isIv p.d) := ev_fld ha fun x H w ⟨x, dx, q, us, e, hx, _⟩ => ⟨x, C, dx, _, _, e, hx, L.cl, L.d, hs_d .., rfl⟩
theorem ev_hsCh (L : HsC K C) (ha : EvV (Same H0) σ ta (HsA K c C p)) : EvV (Same H0) σ (tFld K ta "check") (isSv p.ch) := ev_fld ha fun x H w ⟨x, dx, q, us, e, hx, _⟩ => ⟨x, C, dx, _, _, e, hx, L.cl, L.ch, hs_ch .., rfl⟩
theorem evi_hsRs (L : HsC K C) (ha : EvV (Same H0) σ ta (HsA K c C p)) : EvI H0 σ (iTup K (tFld K ta "rows")) p.rs (RwA c) :=
  evi_tup (ev_fld ha fun x H w ⟨x, dx, q, us, e, hx, hq, rl⟩ => ⟨x, C, dx, _, _, e, hx, L.cl, L.rs, hs_rs .., q, us, rfl, fun H' s' => (hq.same s').sq, rl⟩)
theorem ev_rwK (R : LetC K c) (ha : EvV (Same H0) σ ta (RwA c (.lt k s d pl))) : EvV (Same H0) σ (tFld K ta "kind") (isSv k) := ev_fld ha fun x H w ⟨y, dy, e, hy⟩ => ⟨y, c.L, dy, _, _, e, hy, R.cl, R.k, let_kind .., rfl⟩
theorem ev_rwS (R : LetC K c) (ha : EvV (Same H0) σ ta (RwA c (.lt k s d pl))) : EvV (Same H0) σ (tFld K ta "state") (isSv s) := ev_fld ha fun x H w ⟨y, dy, e, hy⟩ => ⟨y, c.L, dy, _, _, e, hy, R.cl, R.s, let_state .., rfl⟩
theorem ev_rwD (R : LetC K c) (ha : EvV (Same H0) σ ta (RwA c (.lt k s d pl))) : EvV (Same H0) σ (tFld K ta "deed") (isSv d) := ev_fld ha fun x H w ⟨y, dy, e, hy⟩ => ⟨y, c.L, dy, _, _, e, hy, R.cl, R.d, let_deed .., rfl⟩
theorem ev_isHs (O : HsI K C) (ha : EvV (Same H0) σ ta (HsA K c C p)) : EvV (Same H0) σ (tCB (rIsi K) (tCons ta (tCons (tC (.ref C)) tNil))) (isBv true) := fun H Q w kk =>
  ha H _ w fun x H1 s1 w1 hx => by
    obtain ⟨a, dx, q, us, rfl, ex, _⟩ := hx
    exact ⟨_, _, _, _, _, rfl, .own C, .base (.ins ex O.cl O.ca O.gn O.tk O.mr), O.ki, kk _ H1 s1 w1 rfl⟩
theorem ls_bools {H : Hp} {us : List V} {bs : List Bool} (l : Ls (fun u b => isBv b u H) us bs) : us = bs.map V.bl := List.ext_getElem (by rw [l.1, List.length_map]) fun i h1 h2 => by
  obtain ⟨b, eb, rb⟩ := Ls.get l (List.getElem?_eq_getElem h1)
  rw [List.getElem_map]
  have e : bs[i]'(by rw [List.length_map] at h2; exact h2) = b := by
    have := List.getElem?_eq_some_iff.mp eb
    exact this.2
  rw [e]
  exact rb
theorem ev_all {bs : List Bool} (ha : EvV (Same H0) σ ta (isL isBv bs)) : EvV (Same H0) σ (tCB (rAll K) (tCons ta tNil)) (isBv (bs.all id)) :=
  ev_cb1 ha fun x H Q w ⟨D, us, e, hD, l⟩ kk => ⟨D, bs, by rw [e], SqL.of (by rw [hD, ls_bools l]), kk _ H (Same.refl H) w rfl⟩
end
def spShared (K : PySem.W.Frag) (c : Rc) (C : Addr) : Sp := fun vs H Q _ => ∃ (u v : V) (p q : Hs), vs = [u, v] ∧ HsA K c C p u H ∧ HsA K c C q v H ∧ p.ok ∧ q.ok ∧ ∀ D us H', H D = none → Same H H' → H' D = some (.lst us) → Ls (fun x m => RwA c m x H') us (sharedR p q) → Q (.ref D) H'
def spNoMore (K : PySem.W.Frag) (c : Rc) (C : Addr) : Sp := fun vs H Q _ => ∃ (u v : V) (p q : Hs), vs = [u, v] ∧ HsA K c C p u H ∧ HsA K c C q v H ∧ p.ok ∧ q.ok ∧ ∀ H', Same H H' → Q (.bl (noMore p q)) H'
def spMoreNo (K : PySem.W.Frag) (c : Rc) (C : Addr) : Sp := fun vs H Q _ => ∃ (u v : V) (p q : Hs), vs = [u, v] ∧ HsA K c C p u H ∧ HsA K c C q v H ∧ p.ok ∧ q.ok ∧ ∀ H', Same H H' → Q (.bl (noMore q p)) H'
def spAnd (K : PySem.W.Frag) (c : Rc) (C : Addr) : Sp := fun vs H Q _ => ∃ (u v : V) (p q : Hs), vs = [u, v] ∧ HsA K c C p u H ∧ HsA K c C q v H ∧ p.ok ∧ q.ok ∧ ∀ x H', Same H H' → HsA K c C (andH p q) x H' → Q x H'
section
variable {P : Program} {w : World} {K : PySem.W.Frag} {mg : Str → Option Value} {base : Heap} {KA SA DA PA : Addr}
theorem scShared : FnScope ["p", "q", "kind", "state", "deed"] ["p", "q"] (defScope sShared) := ⟨rfl, rfl, rfl, by decide +kernel, rfl, by decide +kernel, by decide +kernel⟩
theorem scNoMore : FnScope ["p", "q", "row"] ["p", "q"] (defScope sNoMore) := ⟨rfl, rfl, rfl, by decide +kernel, rfl, by decide +kernel, by decide +kernel⟩
theorem scAnd : FnScope ["self", "other", "depth", "check"] ["self", "other"] (defScope sAnd) := ⟨rfl, rfl, rfl, by decide +kernel, rfl, by decide +kernel, by decide +kernel⟩
theorem scLe : FnScope ["self", "other"] ["self", "other"] (defScope sLe) := ⟨rfl, rfl, rfl, by decide +kernel, rfl, by decide +kernel, by decide +kernel⟩
theorem scGe : FnScope ["self", "other"] ["self", "other"] (defScope sGe) := ⟨rfl, rfl, rfl, by decide +kernel, rfl, by decide +kernel, by decide +kernel⟩
theorem ok_shared {f C : Addr} {c : Rc} {fd : FuncData} (F : Fun K "shared_rows" "shared_rows" sShared f fd) (R : RowH K mg KA SA DA PA) (L : HsC K C) (PL : ∃ (f : Addr) (fd : FuncData), FnOk P w K mg base CX0 2 f fd ["self", "kind", "state", "deed"] (spPlaced K c C) ∧ Meth K C "placed" f ∧ Binds K fd ["self", "kind", "state", "deed"] [])
    (M : MkR P w K mg base "Let" ["self", "kind", "state", "deed", "place"] c.L 2 (spLInit c)) : FnOk P w K mg base CX0 4 f fd ["p", "q"] (spShared K c C) := by
  obtain ⟨fP, fdP, GP, mP, bP⟩ := PL
  obtain ⟨fL, fdL, GL, ML, bL⟩ := M.ini
  refine F.ok scShared (fun vs H Q E h => ?_) (fun cdv A outer s H vs Q E hr h => ?_)
  · obtain ⟨u, v, p, q, rfl, _⟩ := h
    rfl
  · obtain ⟨u, v, p, q, rfl, hp, hq, okp, okq, k⟩ := h
    have hr2 : Room 2 _ := hr.mono (by decide)
    refine ⟨_, (pss_one (ps_ret (pe_lc3 (wi := iTup K (tC (.ref KA))) (wi1 := iTup K (tC (.ref SA))) (wi2 := iTup K (tC (.ref DA))) (own := [("kind", 2), ("state", 3), ("deed", 4)]) (vs1 := [3, 4]) (vs2 := [4]) (g := gName 2) (g1 := gName 3) (g2 := gName 4) (tt := tYes) (tt1 := tYes)
      (tt2 := tAnd (tTest (tOp (fun x y H Q => y = V.non ∧ Q (.bl (!decide (x = .non))) H) (tMeth C "placed" (spPlaced K c C) [] E0 (tVar 0) (tCons (tVar 2) (tCons (tVar 3) (tCons (tVar 4) tNil)))) (tC .non))) (tTest (tOp rEq (tMeth C "placed" (spPlaced K c C) [] E0 (tVar 0) (tCons (tVar 2) (tCons (tVar 3) (tCons (tVar 4) tNil)))) (tMeth C "placed" (spPlaced K c C) [] E0 (tVar 1) (tCons (tVar 2) (tCons (tVar 3) (tCons (tVar 4) tNil)))))))
      (te := tMake c.L (spLInit c) [] E0 (tCons (tVar 2) (tCons (tVar 3) (tCons (tVar 4) (tCons (tMeth C "placed" (spPlaced K c C) [] E0 (tVar 0) (tCons (tVar 2) (tCons (tVar 3) (tCons (tVar 4) tNil)))) tNil)))))
      rfl scShared.nd (pi_tup (pe_glob (v := .ref KA) rfl R.kinds rfl)) (blkOk_by (own := [("kind", 2), ("state", 3), ("deed", 4)]) (N := ["p", "q", "kind", "state", "deed"]) (sc := defScope sShared) (by decide +kernel)) (by decide) (by decide)
      (fun _ _ _ _ _ => pg_name (i := 2) scShared.nd rfl (Or.inl rfl)) (fun _ _ _ _ _ => pts_nil) (fun _ _ _ _ _ => by exact pi_tup (pe_glob (v := .ref SA) rfl R.states rfl)) (fun _ _ _ _ _ => pg_name (i := 3) scShared.nd rfl (Or.inl rfl)) (fun _ _ _ _ _ => pts_nil)
      (fun _ _ _ _ _ => by exact pi_tup (pe_glob (v := .ref DA) rfl R.deeds rfl)) (fun _ _ _ _ _ => pg_name (i := 4) scShared.nd rfl (Or.inl rfl))
      (fun _ _ _ _ _ => pts_two (pt_cmpR op_notN (pe_meth (E := E0) (pv 0) L.cl mP GP hr2 bP .nil pass0 (pa_cons (pv 2) (pa_cons (pv 3) (pa_cons (pv 4) pa_nil)))) pe_non (nomark _)) (pt_cmpR op_eq (pe_meth (E := E0) (pv 0) L.cl mP GP hr2 bP .nil pass0 (pa_cons (pv 2) (pa_cons (pv 3) (pa_cons (pv 4) pa_nil)))) (pe_meth (E := E0) (pv 1) L.cl mP GP hr2 bP .nil pass0 (pa_cons (pv 2) (pa_cons (pv 3) (pa_cons (pv 4) pa_nil)))) (nomark _)))
      (fun _ _ _ _ _ => pe_make (E := E0) ML GL hr rfl M.g bL .nil pass0 (pa_cons (pv 2) (pa_cons (pv 3) (pa_cons (pv 4) (pa_cons (pe_meth (E := E0) (pv 0) L.cl mP GP hr2 bP .nil pass0 (pa_cons (pv 2) (pa_cons (pv 3) (pa_cons (pv 4) pa_nil)))) pa_nil)))))))), ?_⟩
    try dsimp only [gName, tSeq, tAsg, tNext]
    refine evn_lc3 (K := K) (σ := [some u, some v, none, none, none]) (S' := RwA c) (shP p q) (shF p) R.tK R.tS R.tD (Nat.le_trans (shared_len p q) (by decide)) (fun _ => rfl) (fun _ _ => rfl) (fun _ _ _ => rfl) (fun x hx y hy z hz H1 s1 => ?_) H _ (Same.refl H) fun D us H' nD s' hD l => k D us H' nD s' hD l
    obtain ⟨kd, hk, rfl⟩ := List.mem_map.mp hx
    obtain ⟨st, hs, rfl⟩ := List.mem_map.mp hy
    obtain ⟨de, hd, rfl⟩ := List.mem_map.mp hz
    have hp1 := up s1 hp
    have hq1 := up s1 hq
    have e1 : ∀ {G : Hp}, Same H1 G → EvV (Same G) [some u, some v, some (.str kd), some (.str st), some (.str de)] (tMeth C "placed" (spPlaced K c C) [] E0 (tVar 0) (tCons (tVar 2) (tCons (tVar 3) (tCons (tVar 4) tNil)))) (isVv (optV (placeIn kd st de p.rs))) := fun g => ev_placed okp hk hs hd (ev_v rfl (up g hp1)) (ev_v rfl rfl) (ev_v rfl rfl) (ev_v rfl rfl)
    have e2 : ∀ {G : Hp}, Same H1 G → EvV (Same G) [some u, some v, some (.str kd), some (.str st), some (.str de)] (tMeth C "placed" (spPlaced K c C) [] E0 (tVar 1) (tCons (tVar 2) (tCons (tVar 3) (tCons (tVar 4) tNil)))) (isVv (optV (placeIn kd st de q.rs))) := fun g => ev_placed okq hk hs hd (ev_v rfl (up g hq1)) (ev_v rfl rfl) (ev_v rfl rfl) (ev_v rfl rfl)
    refine ⟨ev_bool (ev_andB (ev_test (ev_notN (e1 (Same.refl _)))) fun _ => ev_test (ev_eqV (optV_scal _ _) (e1 (Same.refl _)) (e2 (Same.refl _)))) ?_, fun e => ?_⟩
    · rw [optV_non, optV_inj]
      rfl
    · have e : ((placeIn kd st de p.rs).isSome && decide (placeIn kd st de p.rs = placeIn kd st de q.rs)) = true := e
      obtain ⟨pl, hpl⟩ := Option.isSome_iff_exists.mp (Bool.and_eq_true_iff.mp e).1
      have fe : shF p (.str kd) (.str st) (.str de) = .lt kd st de pl := by
        show Rw.lt kd st de ((placeIn kd st de p.rs).getD "") = _
        rw [hpl]
        rfl
      rw [fe]
      have z := e1 (Same.refl H1)
      rw [hpl] at z
      exact ev_let (okp.2.2.2.1 _ (placeIn_mem hpl)).1 (ev_v rfl rfl) (ev_v rfl rfl) (ev_v rfl rfl) z
theorem ok_noMore {f C : Addr} {c : Rc} {fd : FuncData} (F : Fun K "lets_no_more" "lets_no_more" sNoMore f fd) (za : mg "all" = none) (R : LetC K c) (L : HsC K C) (PL : ∃ (f : Addr) (fd : FuncData), FnOk P w K mg base CX0 2 f fd ["self", "kind", "state", "deed"] (spPlaced K c C) ∧ Meth K C "placed" f ∧ Binds K fd ["self", "kind", "state", "deed"] []) : FnOk P w K mg base CX0 3 f fd ["p", "q"] (spNoMore K c C) := by
  obtain ⟨fP, fdP, GP, mP, bP⟩ := PL
  refine F.ok scNoMore (fun vs H Q E h => ?_) (fun cdv A outer s H vs Q E hr h => ?_)
  · obtain ⟨u, v, p, q, rfl, _⟩ := h
    rfl
  · obtain ⟨u, v, p, q, rfl, hp, hq, okp, okq, k⟩ := h
    refine ⟨_, (pss_cons (ps_if (PW.pt (pw_or (pt_cmpR op_gt (pe_fld (pv 0) rfl) (pe_fld (pv 1) rfl) (nomark _)) (pw_or1 (PW.pt (pw_and (pt_cmpR op_eq (pe_fld (pv 0) rfl) pe_str (nomark _)) (pw_and1 (pt_cmpR op_eq (pe_fld (pv 1) rfl) pe_str (nomark _)))))))) (pss_one (ps_ret pe_bl)) pss_nil)
  (pss_one (ps_ret (pe_callB (cr_all rfl) (by rfl) za (by decide +kernel) (pa_cons (pe_lc (own := [("row", 2)]) (g := gName 2) (tt := tYes) (te := tOp rEq (tMeth C "placed" (spPlaced K c C) [] E0 (tVar 1) (tCons (tFld K (tVar 2) "kind") (tCons (tFld K (tVar 2) "state") (tCons (tFld K (tVar 2) "deed") tNil)))) (tMeth C "placed" (spPlaced K c C) [] E0 (tVar 0) (tCons (tFld K (tVar 2) "kind") (tCons (tFld K (tVar 2) "state") (tCons (tFld K (tVar 2) "deed") tNil))))) (by rfl) scNoMore.nd (pi_tup (pe_fld (pv 0) rfl)) (blkOk_by (own := [("row", 2)]) (N := ["p", "q", "row"]) (sc := defScope sNoMore) (by decide +kernel)) (fun _ _ _ _ _ => (pg_name (i := 2) scNoMore.nd rfl (Or.inl rfl))) (fun _ _ _ _ _ => pts_nil) (fun _ _ _ _ _ => (pe_cmpR op_eq (pe_meth (E := E0) (pv 1) L.cl mP GP hr bP .nil pass0 (pa_cons (pe_fld (pv 2) rfl) (pa_cons (pe_fld (pv 2) rfl) (pa_cons (pe_fld (pv 2) rfl) pa_nil)))) (pe_meth (E := E0) (pv 0) L.cl mP GP hr bP .nil pass0 (pa_cons (pe_fld (pv 2) rfl) (pa_cons (pe_fld (pv 2) rfl) (pa_cons (pe_fld (pv 2) rfl) pa_nil)))) (nomark _)))) pa_nil))))), ?_⟩
    try dsimp only [gName, tSeq, tAsg, tNext]
    refine if_b (H0 := H) (Same.refl _) (ev_orB (ev_test (ev_gt (ev_hsD L (ev_v rfl hp)) (ev_hsD L (ev_v rfl hq)))) fun _ => ev_andB (ev_test (ev_eqS (ev_hsCh L (ev_v rfl hp)) ev_str)) fun _ => ev_test (ev_eqS (ev_hsCh L (ev_v rfl hq)) ev_str)) (fun e H1 s1 => ?_) (fun e H1 s1 => ?_)
    · have z : noMore p q = false := by
        unfold noMore
        rw [e]
        rfl
      rw [z] at k
      exact k H1 s1
    · have hp1 := up s1 hp
      have hq1 := up s1 hq
      have z : noMore p q = (p.rs.map fun r => decide (placeOf r q = placeOf r p)).all id := by
        unfold noMore
        rw [e]
        rfl
      rw [z] at k
      try dsimp only [gName, tSeq, tAsg, tNext]
      refine ev_all (H0 := H1) (K := K) (ev_lcY (as := p.rs) (S := RwA c) (S' := isBv) (fun r => decide (placeOf r q = placeOf r p)) (evi_hsRs L (ev_v rfl hp1)) (Nat.le_trans okp.2.2.2.2 (by decide)) (fun r hr v2 H2 s2 e2 => ?_) fun _ => rfl) H1 _ (Same.refl _) fun v3 H3 s3 _ e3 => ?_
      · obtain ⟨ro, rk⟩ := okp.2.2.2.1 r hr
        cases r with
        | ct _ _ _ => cases rk
        | lt kd st de pl =>
          obtain ⟨k1, k2, k3, _, _⟩ := id ro
          have hp2 := up s2 hp1
          have hq2 := up s2 hq1
          have er : ∀ {G : Hp}, Same H2 G → EvV (Same G) [some u, some v, some v2] (tVar 2) (RwA c (.lt kd st de pl)) := fun g => ev_v rfl (up g e2)
          exact ev_is (ev_eqV (optV_scal _ _) (ev_placed okq k1 k2 k3 (ev_v rfl hq2) (ev_rwK R (er (Same.refl _))) (ev_rwS R (er (Same.refl _))) (ev_rwD R (er (Same.refl _)))) (ev_placed okp k1 k2 k3 (ev_v rfl hp2) (ev_rwK R (er (Same.refl _))) (ev_rwS R (er (Same.refl _))) (ev_rwD R (er (Same.refl _))))) optV_inj
      · cases e3
        exact k H3 (s1.trans s3)
theorem ok_hsAnd {f C : Addr} {c : Rc} {fd : FuncData} (F : Fun K "__and__" "House.__and__" sAnd f fd) (zi : mg "isinstance" = none) (L : HsC K C) (O : HsI K C) (M : MkH P w K mg base c C) (cS : Cal P w K mg base CX0 "shared_rows" 4 ["p", "q"] (spShared K c C)) : FnOk P w K mg base CX0 6 f fd ["self", "other"] (spAnd K c C) := by
  obtain ⟨fS, fdS, GS, mS, kS, bS⟩ := cS
  obtain ⟨fH, fdH, GH, MH, bH⟩ := M.ini
  refine F.ok scAnd (fun vs H Q E h => ?_) (fun cdv A outer s H vs Q E hr h => ?_)
  · obtain ⟨u, v, p, q, rfl, _⟩ := h
    rfl
  · obtain ⟨u, v, p, q, rfl, hp, hq, okp, okq, k⟩ := h
    have hr4 : Room 4 _ := hr.mono (by decide)
    refine ⟨_, (pss_cons (ps_if (pt_not (pt_val (pe_callB call_isi (by rfl) zi (by decide +kernel) (pa_cons (pv 1) (pa_cons (pe_glob (v := .ref C) rfl M.g rfl) pa_nil))))) (pss_one ps_never) pss_nil)
  (pss_cons (ps_set (i := 2) scAnd.nd rfl (Or.inl rfl) (pe_ifExp (pt_cmpR op_le (pe_fld (pv 0) rfl) (pe_fld (pv 1) rfl) (nomark _)) (pe_fld (pv 0) rfl) (pe_fld (pv 1) rfl)))
  (pss_cons (ps_set (i := 3) scAnd.nd rfl (Or.inl rfl) (pe_ifExp (pt_cmpR op_in_seq pe_str (pe_tup (pa_cons (pe_fld (pv 0) rfl) (pa_cons (pe_fld (pv 1) rfl) pa_nil))) rfl) pe_str pe_str))
  (pss_one (ps_ret (pe_make (E := E0) MH GH (hr.mono (by decide)) rfl M.g bH .nil pass0 (pa_cons (pv 2) (pa_cons (pv 3) (pa_cons (pe_call GS hr4 rfl mS kS bS .nil pass0 (pa_cons (pv 0) (pa_cons (pv 1) pa_nil))) pa_nil))))))))), ?_⟩
    try dsimp only [gName, tSeq, tAsg, tNext]
    refine if_f (H0 := H) (Same.refl _) (ev_notB (ev_valB (ev_isHs O (ev_v rfl hq)))) fun H1 s1 => ?_
    have hp1 := up s1 hp
    have hq1 := up s1 hq
    try dsimp only [gName, tSeq, tAsg, tNext]
    refine ev_if (H0 := H1) (R := isIv (if p.d ≤ q.d then p.d else q.d)) (b := decide (p.d ≤ q.d)) (ev_test (ev_le (ev_hsD L (ev_v rfl hp1)) (ev_hsD L (ev_v rfl hq1)))) (fun e => ?_) (fun e => ?_) H1 _ (Same.refl _) fun x2 H2 s2 _ e2 => ?_
    · rw [if_pos (of_decide_eq_true e)]
      exact ev_hsD L (ev_v rfl hp1)
    · rw [if_neg (of_decide_eq_false e)]
      exact ev_hsD L (ev_v rfl hq1)
    cases e2
    have hp2 := up s2 hp1
    have hq2 := up s2 hq1
    try dsimp only [gName, tSeq, tAsg, tNext]
    refine ev_if (H0 := H2) (R := isSv (if decide (("all" : Str) ∈ [p.ch, q.ch]) = true then "all" else "left")) (b := decide (("all" : Str) ∈ [p.ch, q.ch])) (ev_test (ev_inT (x := "all") (L := [p.ch, q.ch]) ev_str (ev_tupU (S := isSv) (evl_cons (ev_hsCh L (ev_v rfl hp2)) (evl_cons (ev_hsCh L (ev_v rfl hq2)) evl_nil)) (by show 2 ≤ 1000; decide)))) (fun e => ?_) (fun e => ?_) H2 _ (Same.refl _) fun x3 H3 s3 _ e3 => ?_
    · rw [if_pos e]
      exact ev_str
    · have z : (if decide (("all" : Str) ∈ [p.ch, q.ch]) = true then ("all" : Str) else "left") = "left" := if_neg (by rw [e]; exact Bool.false_ne_true)
      rw [z]
      exact ev_str
    cases e3
    have hp3 := up s3 hp2
    have hq3 := up s3 hq2
    try dsimp only [gName, tSeq, tAsg, tNext]
    refine ⟨_, rfl, _, rfl, _, rfl, _, rfl, u, v, p, q, rfl, hp3, hq3, okp, okq, fun D us H4 nD s4 hD l => ?_⟩
    exact fun y dy ny ndy _ => mk_house (h := andH p q) hD l (andH_ok okp okq) ny ndy fun H' s' a => ⟨rfl, k _ H' ((((s1.trans s2).trans s3).trans s4).trans s') a⟩
theorem ok_hsLe {f C : Addr} {c : Rc} {fd : FuncData} (F : Fun K "__le__" "House.__le__" sLe f fd) (zi : mg "isinstance" = none) (gH : mg "House" = some (.ref C)) (O : HsI K C) (cN : Cal P w K mg base CX0 "lets_no_more" 3 ["p", "q"] (spNoMore K c C)) : FnOk P w K mg base CX0 4 f fd ["self", "other"] (spNoMore K c C) := by
  obtain ⟨fN, fdN, GN, mN, kN, bN⟩ := cN
  refine F.ok scLe (fun vs H Q E h => ?_) (fun cdv A outer s H vs Q E hr h => ?_)
  · obtain ⟨u, v, p, q, rfl, _⟩ := h
    rfl
  · obtain ⟨u, v, p, q, rfl, hp, hq, okp, okq, k⟩ := h
    refine ⟨_, (pss_cons (ps_if (pt_not (pt_val (pe_callB call_isi (by rfl) zi (by decide +kernel) (pa_cons (pv 1) (pa_cons (pe_glob (v := .ref C) rfl gH rfl) pa_nil))))) (pss_one ps_never) pss_nil)
  (pss_one (ps_ret (pe_call GN hr rfl mN kN bN .nil pass0 (pa_cons (pv 0) (pa_cons (pv 1) pa_nil)))))), ?_⟩
    try dsimp only [gName, tSeq, tAsg, tNext]
    refine if_f (H0 := H) (Same.refl _) (ev_notB (ev_valB (ev_isHs O (ev_v rfl hq)))) fun H1 s1 => ?_
    try dsimp only [gName, tSeq, tAsg, tNext]
    exact ⟨_, rfl, _, rfl, u, v, p, q, rfl, up s1 hp, up s1 hq, okp, okq, fun H' s' => k H' (s1.trans s')⟩
theorem ok_hsGe {f C : Addr} {c : Rc} {fd : FuncData} (F : Fun K "__ge__" "House.__ge__" sGe f fd) (zi : mg "isinstance" = none) (gH : mg "House" = some (.ref C)) (O : HsI K C) (cN : Cal P w K mg base CX0 "lets_no_more" 3 ["p", "q"] (spNoMore K c C)) : FnOk P w K mg base CX0 4 f fd ["self", "other"] (spMoreNo K c C) := by
  obtain ⟨fN, fdN, GN, mN, kN, bN⟩ := cN
  refine F.ok scGe (fun vs H Q E h => ?_) (fun cdv A outer s H vs Q E hr h => ?_)
  · obtain ⟨u, v, p, q, rfl, _⟩ := h
    rfl
  · obtain ⟨u, v, p, q, rfl, hp, hq, okp, okq, k⟩ := h
    refine ⟨_, (pss_cons (ps_if (pt_not (pt_val (pe_callB call_isi (by rfl) zi (by decide +kernel) (pa_cons (pv 1) (pa_cons (pe_glob (v := .ref C) rfl gH rfl) pa_nil))))) (pss_one ps_never) pss_nil)
  (pss_one (ps_ret (pe_call GN hr rfl mN kN bN .nil pass0 (pa_cons (pv 1) (pa_cons (pv 0) pa_nil)))))), ?_⟩
    try dsimp only [gName, tSeq, tAsg, tNext]
    refine if_f (H0 := H) (Same.refl _) (ev_notB (ev_valB (ev_isHs O (ev_v rfl hq)))) fun H1 s1 => ?_
    try dsimp only [gName, tSeq, tAsg, tNext]
    exact ⟨_, rfl, _, rfl, v, u, q, p, rfl, up s1 hq, up s1 hp, okq, okp, fun H' s' => k H' (s1.trans s')⟩
end
end V3

set_option Elab.async false
set_option linter.all false
set_option maxRecDepth 100000
/-! houses that let more: what is played in one is played in the other -/
namespace V3
open PySem L2 TL
structure More (h g : Hs) : Prop where
  d : h.d ≤ g.d
  ch : g.ch = ("all" : Str) → h.ch = ("all" : Str)
  pl : ∀ k s d x, placeIn k s d h.rs = some x → placeIn k s d g.rs = some x
theorem More.refl (h : Hs) : More h h := ⟨Int.le_refl _, fun e => e, fun _ _ _ _ e => e⟩
theorem month_more {h g : Hs} (m : More h g) {b : Bk} {j : Nat} {d : Str} {mo : Int} (e : monthFor h b j d = some mo) : monthFor g b j d = some mo := by
  unfold monthFor at e ⊢
  obtain ⟨x, hx, rfl⟩ := Option.map_eq_some_iff.mp e
  rw [m.pl _ _ _ _ hx]
  rfl
theorem do_more {h g : Hs} (m : More h g) (d0 : 0 ≤ h.d) {b b' : Bk} {mv : Mv} (e : doB h b mv = some b') : doB g b mv = some b' := by
  have tk : ∀ (j : Nat) (o : Option Int), takeB h b j o = some b' → takeB g b j o = some b' := fun j o e => by
    unfold takeB at e ⊢
    by_cases q1 : j < b.es.length
    · rw [if_pos q1] at e ⊢
      by_cases q2 : (h.d ≤ (depth b.es j : Int)) ∨ leftAt b.es j ≤ 0
      · rw [if_pos q2] at e
        cases e
      · rw [if_neg q2] at e
        have z : ¬ ((g.d ≤ (depth b.es j : Int)) ∨ leftAt b.es j ≤ 0) := fun y => q2 (y.imp (fun y => Int.le_trans m.d y) id)
        rw [if_neg z]
        cases q3 : monthFor h b j (if o.isNone then "whole" else "part") with
        | none => rw [q3] at e; cases e
        | some mo =>
          rw [q3] at e
          rw [month_more m q3]
          have e : (if leftAt b.es j < o.getD (leftAt b.es j) then none
            else if h.ch = ("all" : Str) ∧ overAll b.es j (o.getD (leftAt b.es j)) = true then none
            else some (Bk.mk (b.es ++ [⟨mo, o.getD (leftAt b.es j), some j, none⟩]) b.m)) = some b' := e
          show (if leftAt b.es j < o.getD (leftAt b.es j) then none
            else if g.ch = ("all" : Str) ∧ overAll b.es j (o.getD (leftAt b.es j)) = true then none
            else some (Bk.mk (b.es ++ [⟨mo, o.getD (leftAt b.es j), some j, none⟩]) b.m)) = some b'
          by_cases q4 : leftAt b.es j < o.getD (leftAt b.es j)
          · rw [if_pos q4] at e
            cases e
          · rw [if_neg q4] at e ⊢
            by_cases q5 : h.ch = ("all" : Str) ∧ overAll b.es j (o.getD (leftAt b.es j)) = true
            · rw [if_pos q5] at e
              cases e
            · rw [if_neg q5] at e
              rw [if_neg fun y => q5 ⟨m.ch y.1, y.2⟩]
              exact e
    · rw [if_neg q1] at e
      cases e
  cases mv with
  | beg a => exact e
  | shut => exact e
  | take t => exact tk _ none e
  | takeBy t a => exact tk _ (some a) e
  | right t a =>
    have e : rightB h b t.toNat a = some b' := e
    show rightB g b t.toNat a = some b'
    unfold rightB at e ⊢
    by_cases q1 : t.toNat < b.es.length
    · rw [if_pos q1] at e ⊢
      by_cases q2 : h.d = 0 ∨ (∃ x ∈ b.es, x.ta = some t.toNat)
      · rw [if_pos q2] at e
        cases e
      · rw [if_neg q2] at e
        have md := m.d
        have z : ¬ (g.d = 0 ∨ (∃ x ∈ b.es, x.ta = some t.toNat)) := fun y => q2 (y.imp (fun y => by omega) id)
        rw [if_neg z]
        cases q3 : monthFor h b t.toNat "right" with
        | none => rw [q3] at e; cases e
        | some mo =>
          rw [q3] at e
          rw [month_more m q3]
          exact e
    · rw [if_neg q1] at e
      cases e
theorem play_more {h g : Hs} (m : More h g) (d0 : 0 ≤ h.d) : ∀ {ms : List Mv} {b b' : Bk}, playB h b ms = some b' → playB g b ms = some b'
  | [], _, _, e => e
  | mv :: r, b, b', e => by
    have e : (match doB h b mv with
      | none => none
      | some b1 => playB h b1 r) = some b' := e
    show (match doB g b mv with
      | none => none
      | some b1 => playB g b1 r) = some b'
    cases q : doB h b mv with
    | none => rw [q] at e; cases e
    | some b1 =>
      rw [q] at e
      rw [do_more m d0 q]
      exact play_more m d0 (ms := r) e
theorem place_app {k s d : Str} {ys : List Rw} : ∀ {xs : List Rw}, placeIn k s d (xs ++ ys) = match placeIn k s d xs with
    | some x => some x
    | none => placeIn k s d ys
  | [] => rfl
  | .lt k' s' d' p' :: r => by
    show (if k' = k ∧ s' = s ∧ d' = d then some p' else placeIn k s d (r ++ ys)) = match (if k' = k ∧ s' = s ∧ d' = d then some p' else placeIn k s d r) with
      | some x => some x
      | none => placeIn k s d ys
    by_cases e : k' = k ∧ s' = s ∧ d' = d
    · rw [if_pos e, if_pos e]
    · rw [if_neg e, if_neg e]
      exact place_app (xs := r)
  | .ct _ _ _ :: r => place_app (xs := r)
theorem place_mem {k s d x : Str} : ∀ {rs : List Rw}, Rw.lt k s d x ∈ rs → ∃ y, placeIn k s d rs = some y
  | [], h => by cases h
  | .lt k' s' d' p' :: r, h => by
    by_cases e : k' = k ∧ s' = s ∧ d' = d
    · exact ⟨p', if_pos e⟩
    · rcases List.mem_cons.mp h with h | h
      · injection h with h1 h2 h3 h4
        exact absurd ⟨h1.symm, h2.symm, h3.symm⟩ e
      · obtain ⟨y, hy⟩ := place_mem h
        exact ⟨y, (if_neg e).trans hy⟩
  | .ct _ _ _ :: r, h => by
    rcases List.mem_cons.mp h with h | h
    · cases h
    · exact place_mem (rs := r) h
theorem more_app {h : Hs} {d2 : Int} {c2 : Str} {ys : List Rw} (hd : h.d ≤ d2) (hc : c2 = ("all" : Str) → h.ch = ("all" : Str)) : More h ⟨d2, c2, h.rs ++ ys⟩ := ⟨hd, hc, fun k s d x e => by
  show placeIn k s d (h.rs ++ ys) = some x
  rw [place_app, e]⟩
theorem more_twice {h : Hs} : More ⟨h.d, h.ch, h.rs ++ h.rs⟩ h := ⟨Int.le_refl _, fun e => e, fun k s d x e => by
  have e : placeIn k s d (h.rs ++ h.rs) = some x := e
  rw [place_app] at e
  cases q : placeIn k s d h.rs with
  | some y => rw [q] at e; exact e
  | none => rw [q] at e; exact e⟩
theorem shared_mem {p q : Hs} {k s d x : Str} (hp : p.ok) : Rw.lt k s d x ∈ sharedR p q ↔ placeIn k s d p.rs = some x ∧ placeIn k s d q.rs = some x := by
  constructor
  · intro h
    unfold sharedR tri at h
    obtain ⟨a, _, h⟩ := List.mem_flatMap.mp h
    obtain ⟨b, _, h⟩ := List.mem_flatMap.mp h
    obtain ⟨c, _, h⟩ := List.mem_flatMap.mp h
    split at h
    · rename_i e
      have h := List.mem_singleton.mp h
      unfold shF at h
      injection h with h1 h2 h3 h4
      unfold shP at e
      rw [← h1, ← h2, ← h3] at e h4
      obtain ⟨e1, e2⟩ := Bool.and_eq_true_iff.mp e
      obtain ⟨y, hy⟩ := Option.isSome_iff_exists.mp e1
      have e2 := of_decide_eq_true e2
      rw [hy] at h4
      have h4 : x = y := h4
      subst h4
      exact ⟨hy, by rw [← e2]; exact hy⟩
    · cases h
  · rintro ⟨h1, h2⟩
    obtain ⟨k1, k2, k3, _, _⟩ := (hp.2.2.2.1 _ (placeIn_mem h1)).1
    unfold sharedR tri
    refine List.mem_flatMap.mpr ⟨.str k, List.mem_map.mpr ⟨k, k1, rfl⟩, List.mem_flatMap.mpr ⟨.str s, List.mem_map.mpr ⟨s, k2, rfl⟩, List.mem_flatMap.mpr ⟨.str d, List.mem_map.mpr ⟨d, k3, rfl⟩, ?_⟩⟩⟩
    have e : shP p q (.str k) (.str s) (.str d) = true := by
      show ((placeIn k s d p.rs).isSome && decide (placeIn k s d p.rs = placeIn k s d q.rs)) = true
      rw [h1, h2, decide_eq_true rfl]
      rfl
    rw [if_pos e]
    have f : shF p (.str k) (.str s) (.str d) = .lt k s d x := by
      show Rw.lt k s d ((placeIn k s d p.rs).getD "") = _
      rw [h1]
      rfl
    rw [f]
    exact List.mem_cons_self
theorem shared_at {p q : Hs} {k s d x : Str} (hp : p.ok) : placeIn k s d (sharedR p q) = some x ↔ placeIn k s d p.rs = some x ∧ placeIn k s d q.rs = some x := by
  constructor
  · intro h
    exact (shared_mem hp).mp (placeIn_mem h)
  · intro h
    obtain ⟨y, hy⟩ := place_mem ((shared_mem hp).mpr h)
    have z := (shared_mem hp).mp (placeIn_mem hy)
    rw [h.1] at z
    rw [hy, Option.some.inj z.1]
theorem more_and {p q : Hs} (m : More p q) (hp : p.ok) : More p (andH p q) ∧ More (andH p q) q := by
  have ed : (andH p q).d = p.d := if_pos m.d
  have ec : (andH p q).ch = (if decide (("all" : Str) ∈ [p.ch, q.ch]) = true then ("all" : Str) else "left") := rfl
  have n1 : ("left" : Str) ≠ "all" := by decide +kernel
  refine ⟨⟨by rw [ed]; exact Int.le_refl _, fun e => ?_, fun k s d x e => (shared_at hp).mpr ⟨e, m.pl _ _ _ _ e⟩⟩, ⟨by rw [ed]; exact m.d, fun e => ?_, fun k s d x e => ((shared_at hp).mp e).2⟩⟩
  · rw [ec] at e
    split at e
    · rename_i z
      have z := of_decide_eq_true z
      rcases List.mem_cons.mp z with z | z
      · exact z.symm
      · exact m.ch (List.mem_singleton.mp z).symm
    · exact absurd e n1
  · rw [ec]
    exact if_pos (decide_eq_true (by rw [e]; simp))
theorem more_noMore {p q : Hs} (m : More p q) (hp : p.ok) : noMore p q = true := by
  unfold noMore
  have n1 : ("left" : Str) ≠ "all" := by decide +kernel
  have z1 : decide (q.d < p.d) = false := decide_eq_false (by have := m.d; omega)
  have z2 : (decide (p.ch = ("left" : Str)) && decide (q.ch = ("all" : Str))) = false := by
    cases e : decide (q.ch = ("all" : Str)) with
    | false => rw [Bool.and_false]
    | true =>
      have := m.ch (of_decide_eq_true e)
      rw [decide_eq_false (by rw [this]; exact Ne.symm n1)]
      rfl
  rw [z1, z2]
  show (true && _) = true
  rw [Bool.true_and, List.all_eq_true]
  intro b hb
  obtain ⟨r, hr, rfl⟩ := List.mem_map.mp hb
  refine decide_eq_true ?_
  cases r with
  | ct _ _ _ => rfl
  | lt k s d x =>
    obtain ⟨y, hy⟩ := place_mem hr
    show placeIn k s d q.rs = placeIn k s d p.rs
    rw [hy, m.pl _ _ _ _ hy]
end V3

set_option Elab.async false
set_option linter.all false
set_option maxRecDepth 100000
/-! House over a tuple of rows -/
namespace V3
open PySem L2 TL
theorem sqT_ty {K : PySem.W.Frag} {H : Hp} {a : Addr} {us : List V} (h : SqT K H a us) : TyX K H (.ref a) (.type "tuple") := by
  rcases h with (h | ⟨od, h⟩) | ⟨o, its, n, h1, h2, _⟩
  · exact .base (.tup h)
  · exact .fTuple h
  · exact .kTuple h1 h2
theorem kitAny_ttH {K : PySem.W.Frag} : PySem.W.kitAny K (.type "tuple") [.type "list", .type "tuple"] = some true := by
  refine kitAny_cons (b := false) (show PySem.W.kitOne K (.type "tuple") (.type "list") = some false from kit_ty (by decide +kernel)) (fun _ => ?_) (fun z => by cases z)
  exact kitAny_cons (show PySem.W.kitOne K (.type "tuple") (.type "tuple") = some true from kit_ty (by decide +kernel)) (fun z => by cases z) fun z => rfl
def spIsRowsK (K : PySem.W.Frag) (c : Rc) : Sp := fun vs H Q _ => ∃ (a : Addr) (us : List V) (ms : List Rw), vs = [.ref a] ∧ TupK K H a us ∧ RwLs c H us ms ∧ (∀ m ∈ ms, m.kind = 0) ∧ ms.length ≤ 1000 ∧ ∀ H', Same H H' → Q (.bl true) H'
def spHsInitK (K : PySem.W.Frag) (c : Rc) (C : Addr) : Sp := fun vs H Q _ => ∃ (x dx l : Addr) (us : List V) (h : Hs), vs = [.ref x, .int h.d, .str h.ch, .ref l] ∧ H x = some (.ins C dx []) ∧ TupK K H l us ∧ RwLs c H us h.rs ∧ h.ok ∧
  ∀ H', SameX x H H' → HsAt K c C H' (.ref x) h → Q .non H'
structure MkHK (P : Program) (w : World) (K : PySem.W.Frag) (mg : Str → Option Value) (base : Heap) (c : Rc) (C : Addr) : Prop where
  g : mg "House" = some (.ref C)
  ini : ∃ (f : Addr) (fd : FuncData), FnOk P w K mg base CX0 4 f fd ["self", "depth", "check", "rows"] (spHsInitK K c C) ∧ Mk K C f ∧ Binds K fd ["self", "depth", "check", "rows"] []
theorem mk_houseK {K : PySem.W.Frag} {c : Rc} {C x dx l : Addr} {H : Hp} {us : List V} {h : Hs} {R : VK} {E : XK} (hl : TupK K H l us) (rl : RwLs c H us h.rs) (ok : h.ok) (nx : H x = none) (ndx : H dx = none) (q : ∀ H', Same H H' → HsAt K c C H' (.ref x) h → R .non H') :
    spHsInitK K c C [.ref x, .int h.d, .str h.ch, .ref l] (upd (upd H dx (.own x)) x (.ins C dx [])) R E := by
  have s0 : Same H (upd (upd H dx (.own x)) x (.ins C dx [])) := made_same nx ndx
  exact ⟨x, dx, l, us, h, rfl, upd_same, hl.same s0, rl.same s0, ok, fun H' s' a => q H' (fun b o e => s' b o (ne_of_none e nx) (s0 b o e)) a⟩
section
variable {P : Program} {w : World} {K : PySem.W.Frag} {mg : Str → Option Value} {base : Heap}
theorem ok_isRowsK {f : Addr} {c : Rc} {fd : FuncData} (F : Fun K "is_rows" "is_rows" sIsRows f fd) (T : BltK mg) (C : LetI K c) (gL : mg "Let" = some (.ref c.L)) : FnOk P w K mg base CX0 1 f fd ["value"] (spIsRowsK K c) := by
  refine F.ok scIsRows (fun vs H Q E h => ?_) (fun cdv A outer s H vs Q E hr h => ?_)
  · obtain ⟨a, us, ms, rfl, _⟩ := h
    rfl
  · obtain ⟨a, us, ms, rfl, ha, rl, kd, n, k⟩ := h
    refine ⟨_, pss_one (ps_ret (pe_and (pe_callB call_isiT (by rfl) T.isi (by decide +kernel) (pa_cons (pv 0) (pa_cons (pe_tup (pa_cons (pe_bltn (v := .ty "list") (by rfl) T.list (by decide +kernel) rfl) (pa_cons (pe_bltn (v := .ty "tuple") (by rfl) T.tuple (by decide +kernel) rfl) pa_nil))) pa_nil)))
        (pe_one (pe_callB (cr_all rfl) (by rfl) T.all (by decide +kernel) (pa_cons (pe_lc (own := [("item", 1)]) (g := gName 1) (tt := tYes) (te := tCB (rIsi K) (tCons (tVar 1) (tCons (tC (.ref c.L)) tNil))) (by rfl) scIsRows.nd (pi_tup (pv 0)) (blkOk_by (own := [("item", 1)]) (N := ["value", "item"]) (sc := defScope sIsRows) (by decide +kernel)) (fun _ _ _ _ _ => pg_name (i := 1) scIsRows.nd rfl (Or.inl rfl)) (fun _ _ _ _ _ => pts_nil)
          (fun _ _ _ _ _ => pe_callB call_isi (by rfl) T.isi (by decide +kernel) (pa_cons (pv 1) (pa_cons (pe_glob (v := .ref c.L) rfl gL rfl) pa_nil)))) pa_nil))))), ?_⟩
    refine ⟨_, rfl, (by show 2 ≤ sizeLine; decide), fun tp ntp => ?_⟩
    have s1 : Same H (upd H tp (.tup [.ty "list", .ty "tuple"])) := Same.new ntp
    have ht : upd H tp (.tup [.ty "list", .ty "tuple"]) tp = some (.tup [.ty "list", .ty "tuple"]) := upd_same
    generalize upd H tp (.tup [.ty "list", .ty "tuple"]) = H1 at s1 ht ⊢
    have ha1 := ha.same s1
    have rl1 := rl.same s1
    have lx : us.length = ms.length := rl.1
    refine ⟨_, tp, _, _, _, _, rfl, ht, .cons (.ty "list") (.cons (.ty "tuple") .nil), sqT_ty ha1.sq, kitAny_ttH, _, rfl, iteT ?_⟩
    refine ⟨_, rfl, a, rfl, ⟨us, ha1.sq⟩, fun D nD => ?_⟩
    refine lc_tup (K := K) (a := a) (xs := us) (fun i Hh => Same H1 Hh ∧ H1 D = none ∧ Hh D = some (.lst (List.replicate i (V.bl true)))) ⟨Same.new nD, nD, upd_same⟩ (fun i Hh _ p => (ha1.same p.1).sq) ?_ ?_
    · intro i z Hh hi p
      have il : i < us.length := (List.getElem?_eq_some_iff.mp hi).1
      obtain ⟨m, em, mz⟩ := Ls.get rl1 hi
      obtain ⟨y, dy, rfl, hy⟩ := mz.same p.1
      have km := kd m (List.mem_of_getElem? em)
      refine ⟨rfl, ?_⟩
      unfold tYes
      dsimp only
      have hy2 : Hh y = some (.ins c.L dy m.fs) := by
        rw [hy]
        show some (HO.ins (c.at m.kind) dy m.fs) = _
        rw [km]
        rfl
      refine iteT ⟨_, rfl, _, _, _, _, _, rfl, .own c.L, .base (.ins hy2 C.cl C.ca C.gn C.tk C.mr), C.ki, _, p.2.2, ?_, fun d o h => ?_, p.2.1, ?_⟩
      · rw [List.length_replicate]
        exact Nat.lt_of_lt_of_le (m := 1001) (by omega) (by decide)
      · rw [upd_ne (ne_of_none h p.2.1)]
        exact p.1 d o h
      · rw [upd_same, List.replicate_succ']
    · intro Hh p
      obtain ⟨s2, _, e⟩ := p
      refine ⟨D, List.replicate us.length true, rfl, SqL.of (by rw [e, repl_bl]), ?_⟩
      have z : (List.replicate us.length true).all id = true := by
        rw [List.all_eq_true]
        intro x hx
        rw [List.eq_of_mem_replicate hx]
        rfl
      rw [z]
      exact k _ (s1.trans s2)
theorem ok_hsInitK {f CA DA C : Addr} {c : Rc} {fd : FuncData} {dvs : List V} (F : FunD K "__init__" "House.__init__" (defArgs sHsInit) (defBody sHsInit) (defScope sHsInit) dvs [] f fd) (T : BltK mg) (X : HsT K mg CA DA) (L : HsC K C)
    (cN : Cal P w K mg base CX0 "is_number" 2 ["value"] spNumI) (cR : Cal P w K mg base CX0 "is_rows" 1 ["value"] (spIsRowsK K c)) : FnOk P w K mg base CX0 4 f fd ["self", "depth", "check", "rows"] (spHsInitK K c C) := by
  obtain ⟨fN, fdN, GN, mN, kN, bN⟩ := cN
  obtain ⟨fR, fdR, GR, mR, kR, bR⟩ := cR
  refine F.ok scHsInit (fun vs H Q E h => ?_) (fun cdv A outer s H vs Q E hr h => ?_)
  · obtain ⟨x, dx, l, us, h, rfl, _⟩ := h
    rfl
  · obtain ⟨x, dx, l, us, h, rfl, hx, hl, rl, ok, q⟩ := h
    obtain ⟨d0, d4, hc, hm, hn⟩ := ok
    refine ⟨_, pss_cons (ps_if (pt_not (PW.pt (pw_and (pt_val (pe_call GN (hr.mono (by decide)) rfl mN kN bN .nil pass0 (pa_cons (pv 1) pa_nil))) (pw_and1 (pt_cmpR op_lt (pv 1) (pe_callB call_len_seq (by rfl) T.len PySem.boot_len (pa_cons (pe_glob (v := .ref DA) rfl X.depths rfl) pa_nil)) (nomark _)))))) (pss_one ps_never) pss_nil)
      (pss_cons (ps_if (pt_cmpR op_notIn_seq (pv 2) (pe_glob (v := .ref CA) rfl X.checks rfl) rfl) (pss_one ps_never) pss_nil)
      (pss_cons (ps_if (pt_not (pt_val (pe_call GR (hr.mono (by decide)) rfl mR kR bR .nil pass0 (pa_cons (pv 3) pa_nil)))) (pss_one ps_never) pss_nil)
      (pss_cons (ps_fld (pv 0) (pv 1) rfl)
      (pss_cons (ps_fld (pv 0) (pv 2) rfl)
      (pss_one (ps_fld (pv 0) (pe_callTy call_tuple_of (by rfl) T.tuple (by decide +kernel) (pa_cons (pv 3) pa_nil)) rfl)))))), ?_⟩
    refine ⟨_, rfl, h.d, rfl, _, rfl, ?_⟩
    rw [decide_eq_true d0]
    refine iteT ⟨_, rfl, DA, _, rfl, .inr (X.tD _), _, _, rfl, rfl, _, rfl, ?_⟩
    rw [decide_eq_true (show h.d < ((depthL.map V.str).length : Int) by show h.d < 5; omega)]
    refine iteF ⟨_, rfl, CA, _, rfl, .inr (X.tC _), rfl, flat_strs _, _, rfl, ?_⟩
    rw [inV_str, decide_eq_true hc]
    refine iteF ⟨_, rfl, l, us, h.rs, rfl, hl, rl, fun m z => (hm m z).2, by omega, fun H1 s1 => ⟨_, rfl, iteF ?_⟩⟩
    have hx1 := s1 _ _ hx
    have hl1 := hl.same s1
    refine ⟨_, rfl, _, rfl, x, C, dx, _, rfl, hx1, L.cl, L.d, (by show 0 < 1000; decide), ?_⟩
    refine ⟨_, rfl, _, rfl, x, C, dx, _, rfl, upd_same, L.cl, L.ch, (by show 1 < 1000; decide), ?_⟩
    rw [upd_upd]
    have hl2 : TupK K (upd H1 x (HO.ins C dx (putF "check" (V.str h.ch) (putF "depth" (V.int h.d) [])))) l us := hl1.imp (fun z => by
      rw [upd_ne (fun e => by rw [e, hx1] at z; cases z)]
      exact z) fun z => z
    refine ⟨_, rfl, l, us, rfl, .inr ⟨hl2.sq, _, rfl, x, C, dx, _, rfl, upd_same, L.cl, L.rs, (lt_put (n := 999) (lt_put (n := 998) (by show 0 < 998; decide))), ?_⟩⟩
    rw [hs_put, upd_upd]
    have sx : ∀ b o, b ≠ x → H b = some o → (upd H1 x (HO.ins C dx (hsF (.int h.d) (.str h.ch) (.ref l)))) b = some o := fun b o nb e => by
      rw [upd_ne nb]
      exact s1 _ _ e
    refine q _ (fun b o nb e => sx b o nb e) ⟨x, dx, l, us, rfl, upd_same, ?_, ?_⟩
    · exact hl1.imp (fun z => by
        rw [upd_ne (fun e => by rw [e, hx1] at z; cases z)]
        exact z) fun z => z
    refine Ls.imp rl fun v m a => ?_
    obtain ⟨y, dy, rfl, hy⟩ := a
    have nyx : y ≠ x := fun z => by
      rw [z, hx] at hy
      have e := Option.some.inj hy
      cases m <;> cases e
    exact ⟨y, dy, rfl, sx y _ nyx hy⟩
end
end V3

set_option Elab.async false
set_option linter.all false
set_option maxRecDepth 100000
/-! what the program's moves make -/
namespace V3
open PySem L2 TL
abbrev sTaken : Stmt := top 34
abbrev sRighted : Stmt := top 35
abbrev sMadeBy : Stmt := top 33
abbrev sAfter : Stmt := top 32
def MvA (cm : Cl) (m : Mv) : V → Hp → Prop := fun v H => MvAt cm H v m
instance {cm : Cl} {m : Mv} : StL (MvA cm m) := ⟨fun _ _ _ s ⟨x, dx, e, hx⟩ => ⟨x, dx, e, s _ _ (fun _ z => by cases m <;> cases z) hx⟩⟩
/-- the classes of moves apart -/
def MvK (K : PySem.W.Frag) (cm : Cl) : Prop := ∀ k, k < 4 → ∀ j, j < 4 → PySem.W.kitOne K (.ref (cm.at k)) (.ref (cm.at j)) = some (decide (k = j))
structure MvF (K : PySem.W.Frag) (cm : Cl) : Prop where
  bA : NoAttr K cm.B "amount"
  tT : NoAttr K cm.T "at"
  tA : NoAttr K cm.T "amount"
  rT : NoAttr K cm.R "at"
  rA : NoAttr K cm.R "amount"
def tkM (j : Nat) : Option Int → Mv
  | none => .take (j : Int)
  | some a => .takeBy (j : Int) a
theorem tk_obj (cm : Cl) (dx : Addr) (j : Nat) (o : Option Int) : (tkM j o).obj cm dx = .ins cm.T dx (two (.int (j : Int)) (oI o)) := by
  cases o <;> rfl
def takeE (h : Hs) (b : Bk) (j : Nat) (o : Option Int) : Option En :=
  if (h.d ≤ (depth b.es j : Int)) ∨ leftAt b.es j ≤ 0 then none
  else match monthFor h b j (if o.isNone then "whole" else "part") with
    | none => none
    | some mo => if leftAt b.es j < o.getD (leftAt b.es j) then none
      else if h.ch = "all" ∧ overAll b.es j (o.getD (leftAt b.es j)) = true then none
      else some ⟨mo, o.getD (leftAt b.es j), some j, none⟩
theorem takeB_eq {h : Hs} {b : Bk} {j : Nat} {o : Option Int} (hj : j < b.es.length) : takeB h b j o = (takeE h b j o).map fun e => ⟨b.es ++ [e], b.m⟩ := by
  unfold takeB takeE
  rw [if_pos hj]
  split
  · rfl
  · cases monthFor h b j (if o.isNone then "whole" else "part") with
    | none => rfl
    | some mo =>
      dsimp only
      split
      · rfl
      · split <;> rfl
def rightE (h : Hs) (b : Bk) (j : Nat) (a : Int) : Option (List En) :=
  if h.d = 0 ∨ (∃ e ∈ b.es, e.ta = some j) then none
  else match monthFor h b j "right" with
    | none => none
    | some mo => some [⟨mo, amAt b.es j, some j, none⟩, ⟨mo, a, none, some j⟩]
theorem rightB_eq {h : Hs} {b : Bk} {j : Nat} {a : Int} (hj : j < b.es.length) : rightB h b j a = (rightE h b j a).map fun es => ⟨b.es ++ es, b.m⟩ := by
  unfold rightB rightE
  rw [if_pos hj]
  split
  · rfl
  · cases monthFor h b j "right" <;> rfl
/-- the entries that a move makes -/
def madeE (h : Hs) (b : Bk) : Mv → Option (List En)
  | .beg a => some [⟨b.m, a, none, none⟩]
  | .take t => if t.toNat < b.es.length then (takeE h b t.toNat none).map fun e => [e] else none
  | .takeBy t a => if t.toNat < b.es.length then (takeE h b t.toNat (some a)).map fun e => [e] else none
  | .right t a => if t.toNat < b.es.length then rightE h b t.toNat a else none
  | .shut => some []
theorem doB_eq {h : Hs} {b : Bk} {m : Mv} (k : m.kind ≠ 3) : doB h b m = (madeE h b m).map fun es => ⟨b.es ++ es, b.m⟩ := by
  have tk : ∀ (j : Nat) (o : Option Int), takeB h b j o = (if j < b.es.length then (takeE h b j o).map fun e => [e] else none).map fun es => ⟨b.es ++ es, b.m⟩ := fun j o => by
    by_cases hj : j < b.es.length
    · rw [takeB_eq hj, if_pos hj, Option.map_map]
      rfl
    · rw [if_neg hj]
      unfold takeB
      rw [if_neg hj]
      rfl
  cases m with
  | beg a => rfl
  | take t => exact tk _ _
  | takeBy t a => exact tk _ _
  | right t a =>
    show rightB h b t.toNat a = (if t.toNat < b.es.length then rightE h b t.toNat a else none).map _
    by_cases hj : t.toNat < b.es.length
    · rw [rightB_eq hj, if_pos hj]
    · rw [if_neg hj]
      unfold rightB
      rw [if_neg hj]
      rfl
  | shut => exact absurd rfl k
/-- a tuple of entries, or none -/
def MdA (CE : Addr) : Option (List En) → V → Hp → Prop
  | some es => isU (EnA CE) es
  | none => isVv .non
instance {CE : Addr} {o : Option (List En)} : StL (MdA CE o) := match o with
  | some es => inferInstanceAs (StL (isU (EnA CE) es))
  | none => inferInstanceAs (StL (isVv .non))
theorem MdA.is {CE : Addr} {o : Option (List En)} {v : V} {H : Hp} (h : MdA CE o v H) : decide (v = .non) = o.isNone := by
  cases o with
  | none =>
    have h : v = .non := h
    exact decide_eq_true h
  | some es =>
    obtain ⟨D, us, rfl, _⟩ := (show isU (EnA CE) es v H from h)
    exact decide_eq_false (fun z => by cases z)
/-- a book, or none -/
def ObA (CE CB : Addr) : Option Bk → V → Hp → Prop
  | some b => BkA CE CB b
  | none => isVv .non
instance {CE CB : Addr} {o : Option Bk} : StL (ObA CE CB o) := match o with
  | some b => inferInstanceAs (StL (BkA CE CB b))
  | none => inferInstanceAs (StL (isVv .non))
theorem ObA.is {CE CB : Addr} {o : Option Bk} {v : V} {H : Hp} (h : ObA CE CB o v H) : decide (v = .non) = o.isNone := by
  cases o with
  | none =>
    have h : v = .non := h
    exact decide_eq_true h
  | some es =>
    obtain ⟨D, us, q, p, rfl, _⟩ := (show BkA CE CB es v H from h)
    exact decide_eq_false (fun z => by cases z)
def spTaken (K : PySem.W.Frag) (c : Rc) (cm : Cl) (CH CE CB : Addr) : Sp := fun vs H Q _ => ∃ (hv v mv : V) (h : Hs) (b : Bk) (j : Nat) (o : Option Int), vs = [hv, v, mv] ∧ HsA K c CH h hv H ∧ BkA CE CB b v H ∧ MvA cm (tkM j o) mv H ∧ h.ok ∧ Wf b ∧ j < b.es.length ∧ ∀ u H', Same H H' → MdA CE ((takeE h b j o).map fun e => [e]) u H' → Q u H'
def spRighted (K : PySem.W.Frag) (c : Rc) (cm : Cl) (CH CE CB : Addr) : Sp := fun vs H Q _ => ∃ (hv v mv : V) (h : Hs) (b : Bk) (j : Nat) (a : Int), vs = [hv, v, mv] ∧ HsA K c CH h hv H ∧ BkA CE CB b v H ∧ MvA cm (.right (j : Int) a) mv H ∧ h.ok ∧ Wf b ∧ j < b.es.length ∧ b.es.length ≤ 900 ∧ ∀ u H', Same H H' → MdA CE (rightE h b j a) u H' → Q u H'
def spMadeBy (K : PySem.W.Frag) (c : Rc) (cm : Cl) (CH CE CB : Addr) : Sp := fun vs H Q _ => ∃ (hv v mv : V) (h : Hs) (b : Bk) (m : Mv), vs = [hv, v, mv] ∧ HsA K c CH h hv H ∧ BkA CE CB b v H ∧ MvA cm m mv H ∧ h.ok ∧ Wf b ∧ m.ok ∧ m.kind ≠ 3 ∧ b.es.length ≤ 900 ∧ ∀ u H', Same H H' → MdA CE (madeE h b m) u H' → Q u H'
def spAfter (K : PySem.W.Frag) (c : Rc) (cm : Cl) (CH CE CB : Addr) : Sp := fun vs H Q _ => ∃ (hv v mv : V) (h : Hs) (b : Bk) (m : Mv), vs = [hv, v, mv] ∧ HsA K c CH h hv H ∧ BkA CE CB b v H ∧ MvA cm m mv H ∧ h.ok ∧ Wf b ∧ m.ok ∧ b.es.length ≤ 890 ∧ ∀ u H', Same H H' → ObA CE CB (doB h b m) u H' → Q u H'
theorem inV_tg {j : Nat} : ∀ {es : List En}, inV (.int (j : Int)) (es.map fun e => oV e.ta) = decide (∃ e ∈ es, e.ta = some j)
  | [] => (decide_eq_false (fun ⟨e, h, _⟩ => by cases h)).symm
  | a :: r => by
    have e : inV (.int (j : Int)) ((a :: r).map fun e => oV e.ta) = (eqV (oV a.ta) (.int (j : Int)) || inV (.int (j : Int)) (r.map fun e => oV e.ta)) := rfl
    rw [e, inV_tg]
    have z : eqV (oV a.ta) (.int (j : Int)) = decide (a.ta = some j) := by
      cases h : a.ta with
      | none => exact (decide_eq_false (fun q => by cases q)).symm
      | some t =>
        have y : eqV (oV (some t)) (.int (j : Int)) = ((t : Int) == (j : Int)) := rfl
        rw [y]
        by_cases q : t = j
        · subst q
          simp
        · rw [decide_eq_false (fun z => q (by cases z; rfl))]
          exact beq_eq_false_iff_ne.mpr fun z => q (by omega)
    rw [z, ← Bool.decide_or]
    exact decide_eq_decide.mpr ⟨fun q => by
      rcases q with q | ⟨x, hx, ex⟩
      · exact ⟨a, List.mem_cons_self .., q⟩
      · exact ⟨x, List.mem_cons_of_mem _ hx, ex⟩, fun ⟨x, hx, ex⟩ => by
      rcases List.mem_cons.mp hx with rfl | hx
      · exact .inl ex
      · exact .inr ⟨x, hx, ex⟩⟩
theorem flat_tg (es : List En) : (es.map fun e => oV e.ta).all flatV = true := by
  rw [List.all_eq_true]
  intro x hx
  obtain ⟨e, _, rfl⟩ := List.mem_map.mp hx
  cases e.ta <;> rfl
section
variable {K : PySem.W.Frag} {c : Rc} {cm : Cl} {CH CE CB MV : Addr} {σ : L2.St} {ta tb td tc te : TE} {H0 : Hp} {h : Hs} {b : Bk} {j : Nat} {a : Int} {o : Option Int} {m : Mv}
theorem ev_tkAt (C : MvCls K cm MV) (M : MvF K cm) (ha : EvV (Same H0) σ ta (MvA cm (tkM j o))) : EvV (Same H0) σ (tFld K ta "at") (isIv (j : Int)) := ev_fld ha fun x H w ⟨x, dx, ex, hx⟩ => ⟨x, cm.T, dx, _, _, ex, hx.trans (congrArg some (tk_obj ..)), (C.cl 1 (by decide)).1, M.tT, two_at .., rfl⟩
theorem ev_tkAm (C : MvCls K cm MV) (M : MvF K cm) (ha : EvV (Same H0) σ ta (MvA cm (tkM j o))) : EvV (Same H0) σ (tFld K ta "amount") (isVv (oI o)) := ev_fld ha fun x H w ⟨x, dx, ex, hx⟩ => ⟨x, cm.T, dx, _, _, ex, hx.trans (congrArg some (tk_obj ..)), (C.cl 1 (by decide)).1, M.tA, two_am .., rfl⟩
theorem ev_rgAt (C : MvCls K cm MV) (M : MvF K cm) (ha : EvV (Same H0) σ ta (MvA cm (.right (j : Int) a))) : EvV (Same H0) σ (tFld K ta "at") (isIv (j : Int)) := ev_fld ha fun x H w ⟨x, dx, ex, hx⟩ => ⟨x, cm.R, dx, _, _, ex, hx, (C.cl 2 (by decide)).1, M.rT, two_at .., rfl⟩
theorem ev_rgAm (C : MvCls K cm MV) (M : MvF K cm) (ha : EvV (Same H0) σ ta (MvA cm (.right (j : Int) a))) : EvV (Same H0) σ (tFld K ta "amount") (isIv a) := ev_fld ha fun x H w ⟨x, dx, ex, hx⟩ => ⟨x, cm.R, dx, _, _, ex, hx, (C.cl 2 (by decide)).1, M.rA, two_am .., rfl⟩
theorem ev_bgAm (C : MvCls K cm MV) (M : MvF K cm) (ha : EvV (Same H0) σ ta (MvA cm (.beg a))) : EvV (Same H0) σ (tFld K ta "amount") (isIv a) := ev_fld ha fun x H w ⟨x, dx, ex, hx⟩ => ⟨x, cm.B, dx, _, _, ex, hx, (C.cl 0 (by decide)).1, M.bA, rfl, rfl⟩
theorem ev_isMv (C : MvCls K cm MV) (M : MvK K cm) {k : Nat} (hk : k < 4) {D : Addr} (eD : D = cm.at k) (ha : EvV (Same H0) σ ta (MvA cm m)) : EvV (Same H0) σ (tCB (rIsi K) (tCons ta (tCons (tC (.ref D)) tNil))) (isBv (decide (m.kind = k))) := fun H Q w kk =>
  ha H _ w fun x H1 s1 w1 hx => by
    subst eD
    obtain ⟨a, dx, rfl, ex⟩ := hx
    obtain ⟨fs, eo⟩ := mv_at cm m dx
    obtain ⟨cl, ca, mr, ki⟩ := C.cl m.kind (kind_lt m)
    exact ⟨_, _, _, _, _, rfl, .own (cm.at k), .base (.ins (by rw [ex, eo]) cl ca C.gn C.tk mr), M m.kind (kind_lt m) k hk, kk _ H1 s1 w1 rfl⟩
theorem ev_inTg {es : List En} (ha : EvV (Same H0) σ ta (isIv (j : Int))) (hb : EvV (Same H0) σ tb (isL isVv (es.map fun e => oV e.ta))) : EvV (Same H0) σ (tOp (rIn K false) ta tb) (isBv (decide (∃ e ∈ es, e.ta = some j))) :=
  ev_o ha hb fun x y H Q w ea hb k => by
    cases ea
    obtain ⟨D, us, rfl, hD, l⟩ := hb
    have e := l.eqs
    subst e
    exact ⟨D, _, rfl, .inl (SqL.of hD), rfl, flat_tg _, k _ H (Same.refl H) (by rw [inV_tg]; rfl)⟩
theorem ev_sp3 {sp : Sp} {R Ra Rb Rc : V → Hp → Prop} [St Ra] [St Rb] [St Rc] (h1 : EvV (Same H0) σ ta Ra) (h2 : EvV (Same H0) σ tb Rb) (h3 : EvV (Same H0) σ tc Rc) (k : ∀ u v w H Q, Ra u H → Rb v H → Rc w H → (∀ x H', Same H H' → R x H' → Q x H') → sp [u, v, w] H Q E0) : EvV (Same H0) σ (tCall sp [] E0 (tCons ta (tCons tb (tCons tc tNil)))) R :=
  ev_call (eva_cons h1 (eva_cons h2 (eva_cons h3 eva_nil))) fun vs H Q _ r kk => by
    obtain ⟨v1, r, rfl, e1, v2, r, rfl, e2, v3, r, rfl, e3, rfl⟩ := r
    exact k _ _ _ _ _ e1 e2 e3 kk
theorem ev_taken (ok : h.ok) (wf : Wf b) (hj : j < b.es.length) (h1 : EvV (Same H0) σ ta (HsA K c CH h)) (h2 : EvV (Same H0) σ tb (BkA CE CB b)) (h3 : EvV (Same H0) σ tc (MvA cm (tkM j o))) : EvV (Same H0) σ (tCall (spTaken K c cm CH CE CB) [] E0 (tCons ta (tCons tb (tCons tc tNil)))) (MdA CE ((takeE h b j o).map fun e => [e])) :=
  ev_sp3 h1 h2 h3 fun u v w H Q e1 e2 e3 k => ⟨u, v, w, h, b, j, o, rfl, e1, e2, e3, ok, wf, hj, fun x H' s r => k x H' s r⟩
theorem ev_righted (ok : h.ok) (wf : Wf b) (hj : j < b.es.length) (n : b.es.length ≤ 900) (h1 : EvV (Same H0) σ ta (HsA K c CH h)) (h2 : EvV (Same H0) σ tb (BkA CE CB b)) (h3 : EvV (Same H0) σ tc (MvA cm (.right (j : Int) a))) : EvV (Same H0) σ (tCall (spRighted K c cm CH CE CB) [] E0 (tCons ta (tCons tb (tCons tc tNil)))) (MdA CE (rightE h b j a)) :=
  ev_sp3 h1 h2 h3 fun u v w H Q e1 e2 e3 k => ⟨u, v, w, h, b, j, a, rfl, e1, e2, e3, ok, wf, hj, n, fun x H' s r => k x H' s r⟩
theorem ev_madeBy (ok : h.ok) (wf : Wf b) (mo : m.ok) (mk : m.kind ≠ 3) (n : b.es.length ≤ 900) (h1 : EvV (Same H0) σ ta (HsA K c CH h)) (h2 : EvV (Same H0) σ tb (BkA CE CB b)) (h3 : EvV (Same H0) σ tc (MvA cm m)) : EvV (Same H0) σ (tCall (spMadeBy K c cm CH CE CB) [] E0 (tCons ta (tCons tb (tCons tc tNil)))) (MdA CE (madeE h b m)) :=
  ev_sp3 h1 h2 h3 fun u v w H Q e1 e2 e3 k => ⟨u, v, w, h, b, m, rfl, e1, e2, e3, ok, wf, mo, mk, n, fun x H' s r => k x H' s r⟩
theorem ev_after (ok : h.ok) (wf : Wf b) (mo : m.ok) (n : b.es.length ≤ 890) (h1 : EvV (Same H0) σ ta (HsA K c CH h)) (h2 : EvV (Same H0) σ tb (BkA CE CB b)) (h3 : EvV (Same H0) σ tc (MvA cm m)) : EvV (Same H0) σ (tCall (spAfter K c cm CH CE CB) [] E0 (tCons ta (tCons tb (tCons tc tNil)))) (ObA CE CB (doB h b m)) :=
  ev_sp3 h1 h2 h3 fun u v w H Q e1 e2 e3 k => ⟨u, v, w, h, b, m, rfl, e1, e2, e3, ok, wf, mo, n, fun x H' s r => k x H' s r⟩
/-- (*a, *b) -/
theorem ev_star2 {es fs : List En} (n : es.length + fs.length ≤ 1000) (h1 : EvV (Same H0) σ ta (isU (EnA CE) es)) (h2 : EvV (Same H0) σ tb (isU (EnA CE) fs)) : EvV (Same H0) σ (tTup (StX.tStar K ta (StX.tStar K tb tNil))) (isU (EnA CE) (es ++ fs)) := fun H Q w k =>
  h1 H _ w fun u H1 s1 w1 r1 => by
    obtain ⟨D, us, rfl, hD, l⟩ := r1
    refine ⟨D, us, rfl, .inl (SqT.of hD), h2 H1 _ w1 fun v H2 s2 w2 r2 => ?_⟩
    obtain ⟨D2, vs, rfl, hD2, l2⟩ := r2
    refine ⟨D2, vs, rfl, .inl (SqT.of hD2), ?_⟩
    have l3 : Ls (fun u a => EnA CE a u H2) (us ++ vs) (es ++ fs) := (Ls.up l s2).app l2
    refine ⟨?_, fun p np => ?_⟩
    · rw [List.append_nil]
      exact Nat.le_trans (by rw [l3.1, List.length_append]; exact n) (by decide)
    · rw [List.append_nil]
      have s3 : Same H2 (upd H2 p (.tup (us ++ vs))) := Same.new np
      exact k _ _ ((s1.trans s2).trans s3) (w2.trans s3) ⟨p, _, rfl, upd_same, Ls.up l3 s3⟩
end
section
variable {P : Program} {w : World} {K : PySem.W.Frag} {mg : Str → Option Value} {base : Heap}
theorem scTaken : FnScope ["house", "book", "move", "left", "deed", "amount", "month"] ["house", "book", "move"] (defScope sTaken) := ⟨rfl, rfl, rfl, by decide +kernel, rfl, by decide +kernel, by decide +kernel⟩
theorem scRighted : FnScope ["house", "book", "move", "month", "entry"] ["house", "book", "move"] (defScope sRighted) := ⟨rfl, rfl, rfl, by decide +kernel, rfl, by decide +kernel, by decide +kernel⟩
theorem scMadeBy : FnScope ["house", "book", "move"] ["house", "book", "move"] (defScope sMadeBy) := ⟨rfl, rfl, rfl, by decide +kernel, rfl, by decide +kernel, by decide +kernel⟩
theorem scAfter : FnScope ["house", "book", "move", "made"] ["house", "book", "move"] (defScope sAfter) := ⟨rfl, rfl, rfl, by decide +kernel, rfl, by decide +kernel, by decide +kernel⟩
theorem ok_taken {f CH CE CB MV : Addr} {c : Rc} {cm : Cl} {fd : FuncData} (F : Fun K "taken" "taken" sTaken f fd) (T : BkOps P w K mg base c CH CE CB) (C : MvCls K cm MV) (M : MvF K cm) (cM : Cal P w K mg base CX0 "month_for" 4 ["house", "book", "at", "deed"] (spMonthFor K c CH CE CB))
    (cV : Cal P w K mg base CX0 "is_over_all" 4 ["book", "at", "amount"] (spOverAll CE CB)) : FnOk P w K mg base CX0 5 f fd ["house", "book", "move"] (spTaken K c cm CH CE CB) := by
  obtain ⟨fM, fdM, GM, mM, kM, bM⟩ := cM
  obtain ⟨fV, fdV, GV, mV, kV, bV⟩ := cV
  obtain ⟨fL, fdL, GL, mL, bL⟩ := T.left
  obtain ⟨fD, fdD, GD, mD, bD⟩ := T.dep
  obtain ⟨fE, fdE, GE, ME, bE⟩ := T.mkE
  refine F.ok scTaken (fun vs H Q E h => ?_) (fun cdv A outer s H vs Q E hr h => ?_)
  · obtain ⟨hv, v, mv, h, b, j, o, rfl, _⟩ := h
    rfl
  · obtain ⟨hv, v, mv, h, b, j, o, rfl, hh, hb, hm, ok, wf, hj, k⟩ := h
    have hr2 : Room 2 _ := hr.mono (by decide)
    refine ⟨_, (pss_cons (ps_set (i := 3) scTaken.nd rfl (Or.inl rfl) (pe_meth (E := E0) (pv 1) T.L.cl mL GL hr2 bL .nil pass0 (pa_cons (pe_fld (pv 2) rfl) pa_nil)))
  (pss_cons (ps_if (PW.pt (pw_or (pt_cmpR op_ge (pe_meth (E := E0) (pv 1) T.L.cl mD GD hr2 bD .nil pass0 (pa_cons (pe_fld (pv 2) rfl) pa_nil)) (pe_fld (pv 0) rfl) (nomark _)) (pw_or1 (pt_cmpR op_le (pv 3) pe_int (nomark _))))) (pss_one (ps_ret pe_non)) pss_nil)
  (pss_cons (ps_set (i := 4) scTaken.nd rfl (Or.inl rfl) (pe_ifExp (pt_cmpR op_isN (pe_fld (pv 2) rfl) pe_non (nomark _)) pe_str pe_str))
  (pss_cons (ps_set (i := 5) scTaken.nd rfl (Or.inl rfl) (pe_ifExp (pt_cmpR op_isN (pe_fld (pv 2) rfl) pe_non (nomark _)) (pv 3) (pe_fld (pv 2) rfl)))
  (pss_cons (ps_set (i := 6) scTaken.nd rfl (Or.inl rfl) (pe_call GM hr rfl mM kM bM .nil pass0 (pa_cons (pv 0) (pa_cons (pv 1) (pa_cons (pe_fld (pv 2) rfl) (pa_cons (pv 4) pa_nil))))))
  (pss_cons (ps_if (PW.pt (pw_or (pt_cmpR op_isN (pv 6) pe_non (nomark _)) (pw_or1 (pt_cmpR op_gt (pv 5) (pv 3) (nomark _))))) (pss_one (ps_ret pe_non)) pss_nil)
  (pss_cons (ps_if (PW.pt (pw_and (pt_cmpR op_eq (pe_fld (pv 0) rfl) pe_str (nomark _)) (pw_and1 (pt_val (pe_call GV hr rfl mV kV bV .nil pass0 (pa_cons (pv 1) (pa_cons (pe_fld (pv 2) rfl) (pa_cons (pv 5) pa_nil)))))))) (pss_one (ps_ret pe_non)) pss_nil)
  (pss_one (ps_ret (pe_tup (pa_cons (pe_make (E := E0) ME GE hr2 rfl T.gE bE .nil pass0 (pa_cons (pv 6) (pa_cons (pv 5) (pa_cons (pe_fld (pv 2) rfl) (pa_cons pe_non pa_nil))))) pa_nil))))))))))), ?_⟩
    unfold takeE at k
    try dsimp only [gName, tSeq, tAsg, tNext]
    refine ev_atB (H0 := H) (f := fLeft) (by decide +kernel) wf hj (ev_v rfl hb) (ev_tkAt (K := K) C M (ev_v rfl hm)) H _ (Same.refl _) fun u1 H1 s1 _ e1 => ?_
    cases e1
    have hb1 := up s1 hb
    have hh1 := up s1 hh
    have hm1 := up s1 hm
    try dsimp only [gName, tSeq, tAsg, tNext]
    refine if_b (H0 := H1) (Same.refl _) (ev_orB (ev_test (ev_ge (i := ((depth b.es j : Nat) : Int)) (j := h.d) (ev_atB (f := fDepth) (by decide +kernel) wf hj (ev_v rfl hb1) (ev_tkAt (K := K) C M (ev_v rfl hm1))) (ev_depth T.hc (ev_v rfl hh1)))) (fun _ => ev_test (ev_le (i := leftAt b.es j) (j := 0) (ev_v rfl rfl) ev_int))) (fun e H2 s2 => ?_) (fun e H2 s2 => ?_)
    · refine k _ _ (s1.trans s2) ?_
      rw [if_pos (by simpa using e)]
      exact rfl
    have S2 := s1.trans s2
    rw [if_neg (by
      rw [Bool.or_eq_false_iff] at e
      exact fun q => q.elim (of_decide_eq_false e.1) (of_decide_eq_false e.2))] at k
    have hb2 := up s2 hb1
    have hh2 := up s2 hh1
    have hm2 := up s2 hm1
    try dsimp only [gName, tSeq, tAsg, tNext]
    refine ev_if (H0 := H2) (R := isSv (if o.isNone then ("whole" : Str) else "part")) (ev_bool (ev_test (ev_isN (u := oI o) (ev_tkAm C M (ev_v rfl hm2)))) oI_is) (fun e => by rw [e]; exact ev_str) (fun e => by rw [e]; exact ev_str) H2 _ (Same.refl _) fun u3 H3 s3 _ e3 => ?_
    cases e3
    have S3 := S2.trans s3
    have hb3 := up s3 hb2
    have hh3 := up s3 hh2
    have hm3 := up s3 hm2
    try dsimp only [gName, tSeq, tAsg, tNext]
    refine ev_if (H0 := H3) (R := isIv (o.getD (leftAt b.es j))) (ev_bool (ev_test (ev_isN (u := oI o) (ev_tkAm C M (ev_v rfl hm3)))) oI_is) (fun e => by rw [Option.isNone_iff_eq_none.mp e]; exact ev_v rfl rfl) (fun e => ev_to (ev_tkAm C M (ev_v rfl hm3)) fun v H q => by
      cases o with
      | none => cases e
      | some a => exact q) H3 _ (Same.refl _) fun u4 H4 s4 _ e4 => ?_
    cases e4
    have S4 := S3.trans s4
    have hb4 := up s4 hb3
    have hh4 := up s4 hh3
    have hm4 := up s4 hm3
    have hd : (if o.isNone then ("whole" : Str) else "part") ∈ deedL := by split <;> decide +kernel
    generalize (if o.isNone then ("whole" : Str) else "part") = d at hd k ⊢
    generalize o.getD (leftAt b.es j) = x at k ⊢
    try dsimp only [gName, tSeq, tAsg, tNext]
    refine ev_monthFor (H0 := H4) (d := d) ok wf hj hd (ev_v rfl hh4) (ev_v rfl hb4) (ev_tkAt (K := K) C M (ev_v rfl hm4)) (ev_v rfl rfl) H4 _ (Same.refl _) fun u5 H5 s5 _ e5 => ?_
    cases e5
    have S5 := S4.trans s5
    have hb5 := up s5 hb4
    have hh5 := up s5 hh4
    have hm5 := up s5 hm4
    generalize monthFor h b j d = mo at k ⊢
    try dsimp only [gName, tSeq, tAsg, tNext]
    refine if_b (H0 := H5) (Same.refl _) (ev_orB (ev_bool (ev_test (ev_isN (u := oI mo) (ev_v rfl rfl))) oI_is) (fun _ => ev_test (ev_gt (i := x) (j := leftAt b.es j) (ev_v rfl rfl) (ev_v rfl rfl)))) (fun e H6 s6 => ?_) (fun e H6 s6 => ?_)
    · refine k _ _ (S5.trans s6) ?_
      cases mo with
      | none => exact rfl
      | some mo =>
        have e : decide (leftAt b.es j < x) = true := e
        dsimp only
        rw [if_pos (of_decide_eq_true e)]
        exact rfl
    have S6 := S5.trans s6
    have hb6 := up s6 hb5
    have hh6 := up s6 hh5
    have hm6 := up s6 hm5
    cases mo with
    | none => cases e
    | some mo =>
      have e : decide (leftAt b.es j < x) = false := e
      dsimp only at k
      rw [if_neg (of_decide_eq_false e)] at k
      try dsimp only [gName, tSeq, tAsg, tNext]
      refine if_b (H0 := H6) (Same.refl _) (ev_andB (ev_test (ev_eqS (i := h.ch) (j := "all") (ev_check T.hc (ev_v rfl hh6)) ev_str)) (fun _ => ev_valB (ev_overAll wf hj (ev_v rfl hb6) (ev_tkAt (K := K) C M (ev_v rfl hm6)) (ev_v rfl rfl)))) (fun e H7 s7 => ?_) (fun e H7 s7 => ?_)
      · refine k _ _ (S6.trans s7) ?_
        rw [Bool.and_eq_true] at e
        rw [if_pos ⟨of_decide_eq_true e.1, e.2⟩]
        exact rfl
      · rw [if_neg (fun q => by
          rw [Bool.and_eq_false_iff] at e
          rcases e with e | e
          · exact of_decide_eq_false e q.1
          · rw [q.2] at e; cases e)] at k
        have hm7 := up s7 hm6
        exact ev_tupU (H0 := H7) (as := [(⟨mo, x, some j, none⟩ : En)]) (evl_cons (ev_mkEnA (ev_v rfl rfl) (ev_v rfl rfl) (ev_tkAt (K := K) C M (ev_v rfl hm7)) ev_c) evl_nil) (by show 1 ≤ 1000; decide) H7 _ (Same.refl _) fun u8 H8 s8 _ e8 => k _ _ ((S6.trans s7).trans s8) e8
theorem ok_righted {f CH CE CB MV : Addr} {c : Rc} {cm : Cl} {fd : FuncData} (F : Fun K "righted" "righted" sRighted f fd) (T : BkOps P w K mg base c CH CE CB) (C : MvCls K cm MV) (M : MvF K cm) (cM : Cal P w K mg base CX0 "month_for" 4 ["house", "book", "at", "deed"] (spMonthFor K c CH CE CB)) :
    FnOk P w K mg base CX0 5 f fd ["house", "book", "move"] (spRighted K c cm CH CE CB) := by
  obtain ⟨fM, fdM, GM, mM, kM, bM⟩ := cM
  obtain ⟨fE, fdE, GE, ME, bE⟩ := T.mkE
  refine F.ok scRighted (fun vs H Q E h => ?_) (fun cdv A outer s H vs Q E hr h => ?_)
  · obtain ⟨hv, v, mv, h, b, j, a, rfl, _⟩ := h
    rfl
  · obtain ⟨hv, v, mv, h, b, j, a, rfl, hh, hb, hm, ok, wf, hj, n, k⟩ := h
    have hr2 : Room 2 _ := hr.mono (by decide)
    have hr3 : Room 3 _ := hr.mono (by decide)
    refine ⟨_, (pss_cons (ps_if (PW.pt (pw_or (pt_cmpR op_eq (pe_fld (pv 0) rfl) pe_int (nomark _)) (pw_or1 (pt_cmpR op_in_seq (pe_fld (pv 2) rfl) (pe_lc (own := [("entry", 4)]) (g := gName 4) (tt := tYes) (te := tFld K (tVar 4) "target") (by rfl) scRighted.nd (pi_tup (pe_fld (pv 1) rfl)) (blkOk_by (own := [("entry", 4)]) (N := ["house", "book", "move", "month", "entry"]) (sc := defScope sRighted) (by decide +kernel)) (fun _ _ _ _ _ => (pg_name (i := 4) scRighted.nd rfl (Or.inl rfl))) (fun _ _ _ _ _ => pts_nil) (fun _ _ _ _ _ => (pe_fld (pv 4) rfl))) rfl)))) (pss_one (ps_ret pe_non)) pss_nil)
  (pss_cons (ps_set (i := 3) scRighted.nd rfl (Or.inl rfl) (pe_call GM hr rfl mM kM bM .nil pass0 (pa_cons (pv 0) (pa_cons (pv 1) (pa_cons (pe_fld (pv 2) rfl) (pa_cons pe_str pa_nil))))))
  (pss_cons (ps_if (pt_cmpR op_isN (pv 3) pe_non (nomark _)) (pss_one (ps_ret pe_non)) pss_nil)
  (pss_one (ps_ret (pe_tup (pa_cons (pe_make (E := E0) ME GE hr2 rfl T.gE bE .nil pass0 (pa_cons (pv 3) (pa_cons (pe_fld (pe_ixO (get_B T) hr3 (pv 1) (pe_fld (pv 2) rfl)) rfl) (pa_cons (pe_fld (pv 2) rfl) (pa_cons pe_non pa_nil))))) (pa_cons (pe_make (E := E0) ME GE hr2 rfl T.gE bE .nil pass0 (pa_cons (pv 3) (pa_cons (pe_fld (pv 2) rfl) (pa_cons pe_non (pa_cons (pe_fld (pv 2) rfl) pa_nil))))) pa_nil)))))))), ?_⟩
    unfold rightE at k
    try dsimp only [gName, tSeq, tAsg, tNext]
    refine if_b (H0 := H) (Same.refl _) (ev_orB (ev_test (ev_eqi (i := h.d) (j := 0) (ev_depth T.hc (ev_v rfl hh)) ev_int)) (fun _ => ev_test (ev_inTg (K := K) (j := j) (es := b.es) (ev_rgAt C M (ev_v rfl hm)) (ev_lcY (S := EnA CE) (S' := isVv) (fun e : En => oV e.ta) (evi_tupU (ev_bkEs T.L (ev_v rfl hb))) (by omega) (fun e he x H1 w1 r => ev_enTa T.N (ev_v rfl r)) (fun _ => rfl))))) (fun e H1 s1 => ?_) (fun e H1 s1 => ?_)
    · refine k _ _ s1 ?_
      rw [if_pos (by
        rw [Bool.or_eq_true] at e
        exact e.imp of_decide_eq_true of_decide_eq_true)]
      exact rfl
    rw [if_neg (by
      rw [Bool.or_eq_false_iff] at e
      exact fun q => q.elim (of_decide_eq_false e.1) (of_decide_eq_false e.2))] at k
    have hb1 := up s1 hb
    have hh1 := up s1 hh
    have hm1 := up s1 hm
    try dsimp only [gName, tSeq, tAsg, tNext]
    refine ev_monthFor (H0 := H1) (d := "right") ok wf hj (by decide +kernel) (ev_v rfl hh1) (ev_v rfl hb1) (ev_rgAt (K := K) C M (ev_v rfl hm1)) ev_str H1 _ (Same.refl _) fun u2 H2 s2 _ e2 => ?_
    cases e2
    have S2 := s1.trans s2
    have hb2 := up s2 hb1
    have hm2 := up s2 hm1
    generalize monthFor h b j "right" = mo at k ⊢
    try dsimp only [gName, tSeq, tAsg, tNext]
    cases mo with
    | none => exact if_t (H0 := H2) (Same.refl _) (ev_test (ev_isN (u := oI none) (ev_v rfl rfl))) fun H3 s3 => k _ _ (S2.trans s3) rfl
    | some mo =>
      refine if_f (H0 := H2) (Same.refl _) (ev_bool (ev_test (ev_isN (u := oI (some mo)) (ev_v rfl rfl))) oI_is) fun H3 s3 => ?_
      have hb3 := up s3 hb2
      have hm3 := up s3 hm2
      dsimp only at k
      exact ev_tupU (H0 := H3) (as := [(⟨mo, amAt b.es j, some j, none⟩ : En), ⟨mo, a, none, some j⟩]) (evl_cons (ev_mkEnA (ev_v rfl rfl) (by rw [amAt_get hj]; exact ev_enAm (e := b.es[j]) T.N (ev_ixB wf (List.getElem?_eq_getElem hj) (ev_v rfl hb3) (ev_rgAt (K := K) C M (ev_v rfl hm3)))) (ev_rgAt (K := K) C M (ev_v rfl hm3)) ev_c) (evl_cons (ev_mkEnA (ev_v rfl rfl) (ev_rgAm (K := K) C M (ev_v rfl hm3)) ev_c (ev_rgAt (K := K) C M (ev_v rfl hm3))) evl_nil)) (by show 2 ≤ 1000; decide) H3 _ (Same.refl _) fun u4 H4 s4 _ e4 => k _ _ ((S2.trans s3).trans s4) e4
theorem ok_madeBy {f CH CE CB MV : Addr} {c : Rc} {cm : Cl} {fd : FuncData} (F : Fun K "made_by" "made_by" sMadeBy f fd) (Z : BltBk mg) (T : BkOps P w K mg base c CH CE CB) (C : MvCls K cm MV) (M : MvF K cm) (MK : MvK K cm) (gBg : mg "Begin" = some (.ref cm.B)) (gTk : mg "Take" = some (.ref cm.T))
    (cT : Cal P w K mg base CX0 "taken" 5 ["house", "book", "move"] (spTaken K c cm CH CE CB)) (cR : Cal P w K mg base CX0 "righted" 5 ["house", "book", "move"] (spRighted K c cm CH CE CB)) : FnOk P w K mg base CX0 6 f fd ["house", "book", "move"] (spMadeBy K c cm CH CE CB) := by
  obtain ⟨fT, fdT, GT, mT, kT, bT⟩ := cT
  obtain ⟨fR, fdR, GR, mR, kR, bR⟩ := cR
  obtain ⟨fE, fdE, GE, ME, bE⟩ := T.mkE
  refine F.ok scMadeBy (fun vs H Q E h => ?_) (fun cdv A outer s H vs Q E hr h => ?_)
  · obtain ⟨hv, v, mv, h, b, m, rfl, _⟩ := h
    rfl
  · obtain ⟨hv, v, mv, h, b, m, rfl, hh, hb, hm, ok, wf, mo, mk, n, k⟩ := h
    have hr2 : Room 2 _ := hr.mono (by decide)
    refine ⟨_, (pss_cons (ps_if (pt_val (pe_callB call_isi (by rfl) Z.isi (by decide +kernel) (pa_cons (pv 2) (pa_cons (pe_glob (v := .ref cm.B) rfl gBg rfl) pa_nil)))) (pss_one (ps_ret (pe_tup (pa_cons (pe_make (E := E0) ME GE hr2 rfl T.gE bE .nil pass0 (pa_cons (pe_fld (pv 1) rfl) (pa_cons (pe_fld (pv 2) rfl) (pa_cons pe_non (pa_cons pe_non pa_nil))))) pa_nil)))) pss_nil)
  (pss_cons (ps_if (pt_cmpR op_ge (pe_fld (pv 2) rfl) (pe_callB (call_lenB T hr2) (by rfl) Z.len PySem.boot_len (pa_cons (pv 1) pa_nil)) (nomark _)) (pss_one (ps_ret pe_non)) pss_nil)
  (pss_cons (ps_if (pt_val (pe_callB call_isi (by rfl) Z.isi (by decide +kernel) (pa_cons (pv 2) (pa_cons (pe_glob (v := .ref cm.T) rfl gTk rfl) pa_nil)))) (pss_one (ps_ret (pe_call GT hr rfl mT kT bT .nil pass0 (pa_cons (pv 0) (pa_cons (pv 1) (pa_cons (pv 2) pa_nil)))))) pss_nil)
  (pss_one (ps_ret (pe_call GR hr rfl mR kR bR .nil pass0 (pa_cons (pv 0) (pa_cons (pv 1) (pa_cons (pv 2) pa_nil))))))))), ?_⟩
    try dsimp only [gName, tSeq, tAsg, tNext]
    refine if_b (H0 := H) (Same.refl _) (ev_valB (ev_isMv C MK (k := 0) (by decide) rfl (ev_v rfl hm))) (fun e H1 s1 => ?_) (fun e H1 s1 => ?_)
    · have z := of_decide_eq_true e
      have hb1 := up s1 hb
      have hm1 := up s1 hm
      cases m with
      | beg a => exact ev_tupU (H0 := H1) (as := [(⟨b.m, a, none, none⟩ : En)]) (evl_cons (ev_mkEnA (ev_bkMo T.L (ev_v rfl hb1)) (ev_bgAm (K := K) C M (ev_v rfl hm1)) ev_c ev_c) evl_nil) (by show 1 ≤ 1000; decide) H1 _ (Same.refl _) fun u2 H2 s2 _ e2 => k _ _ (s1.trans s2) e2
      | take t => cases z
      | takeBy t a => cases z
      | right t a => cases z
      | shut => cases z
    have z0 := of_decide_eq_false e
    have hh1 := up s1 hh
    have hb1 := up s1 hb
    have hm1 := up s1 hm
    have at_ : ∃ j : Nat, (∀ (σ : L2.St) (H1 : Hp) (ta : TE), EvV (Same H1) σ ta (MvA cm m) → EvV (Same H1) σ (tFld K ta "at") (isIv (j : Int))) ∧ ((∃ o, m = tkM j o ∧ madeE h b m = if j < b.es.length then (takeE h b j o).map fun e => [e] else none) ∨ (∃ a, m = .right (j : Int) a ∧ madeE h b m = if j < b.es.length then rightE h b j a else none)) := by
      cases m with
      | beg a => exact absurd rfl z0
      | take t =>
        have t0 : 0 ≤ t := mo.1
        have et : ((t.toNat : Nat) : Int) = t := by omega
        have em : Mv.take t = tkM t.toNat none := by show Mv.take t = Mv.take ((t.toNat : Nat) : Int); rw [et]
        refine ⟨t.toNat, fun σ H1 ta ha => ?_, .inl ⟨none, em, rfl⟩⟩
        rw [em] at ha
        exact ev_tkAt C M ha
      | takeBy t a =>
        have t0 : 0 ≤ t := mo.1.1
        have et : ((t.toNat : Nat) : Int) = t := by omega
        have em : Mv.takeBy t a = tkM t.toNat (some a) := by show Mv.takeBy t a = Mv.takeBy ((t.toNat : Nat) : Int) a; rw [et]
        refine ⟨t.toNat, fun σ H1 ta ha => ?_, .inl ⟨some a, em, rfl⟩⟩
        rw [em] at ha
        exact ev_tkAt C M ha
      | right t a =>
        have t0 : 0 ≤ t := mo.1.1
        have et : ((t.toNat : Nat) : Int) = t := by omega
        have em : Mv.right t a = Mv.right ((t.toNat : Nat) : Int) a := by rw [et]
        refine ⟨t.toNat, fun σ H1 ta ha => ?_, .inr ⟨a, em, rfl⟩⟩
        rw [em] at ha
        exact ev_rgAt C M ha
      | shut => exact absurd rfl mk
    obtain ⟨j, rd, way⟩ := at_
    try dsimp only [gName, tSeq, tAsg, tNext]
    refine if_b (H0 := H1) (Same.refl _) (ev_test (ev_ge (i := (j : Int)) (j := (b.es.length : Int)) (rd _ _ _ (ev_v rfl hm1)) (ev_lenB (by omega) (ev_v rfl hb1)))) (fun e H2 s2 => ?_) (fun e H2 s2 => ?_)
    · have z := of_decide_eq_true e
      refine k _ _ (s1.trans s2) ?_
      rcases way with ⟨o, _, w⟩ | ⟨a, _, w⟩ <;> (rw [w, if_neg (by omega)]; exact rfl)
    have hj : j < b.es.length := by
      have z := of_decide_eq_false e
      omega
    have hh2 := up s2 hh1
    have hb2 := up s2 hb1
    have hm2 := up s2 hm1
    try dsimp only [gName, tSeq, tAsg, tNext]
    refine if_b (H0 := H2) (Same.refl _) (ev_valB (ev_isMv C MK (k := 1) (by decide) rfl (ev_v rfl hm2))) (fun e H3 s3 => ?_) (fun e H3 s3 => ?_)
    · have z := of_decide_eq_true e
      have S3 := (s1.trans s2).trans s3
      rcases way with ⟨o, em, w⟩ | ⟨a, em, w⟩
      · rw [w, if_pos hj] at k
        have hm3 := up s3 hm2
        rw [em] at hm3
        exact ev_taken (H0 := H3) ok wf hj (ev_v rfl (up s3 hh2)) (ev_v rfl (up s3 hb2)) (ev_v rfl hm3) H3 _ (Same.refl _) fun u4 H4 s4 _ e4 => k _ _ (S3.trans s4) e4
      · rw [em] at z
        cases z
    · have z := of_decide_eq_false e
      have S3 := (s1.trans s2).trans s3
      rcases way with ⟨o, em, w⟩ | ⟨a, em, w⟩
      · refine absurd ?_ z
        rw [em]
        cases o <;> rfl
      · rw [w, if_pos hj] at k
        have hm3 := up s3 hm2
        rw [em] at hm3
        exact ev_righted (H0 := H3) ok wf hj n (ev_v rfl (up s3 hh2)) (ev_v rfl (up s3 hb2)) (ev_v rfl hm3) H3 _ (Same.refl _) fun u4 H4 s4 _ e4 => k _ _ (S3.trans s4) e4
theorem ok_after {f CH CE CB MV : Addr} {c : Rc} {cm : Cl} {fd : FuncData} (F : Fun K "after" "after" sAfter f fd) (Z : BltBk mg) (T : BkOps P w K mg base c CH CE CB) (C : MvCls K cm MV) (MK : MvK K cm) (gSh : mg "Shut" = some (.ref cm.S))
    (cY : Cal P w K mg base CX0 "made_by" 6 ["house", "book", "move"] (spMadeBy K c cm CH CE CB)) : FnOk P w K mg base CX0 7 f fd ["house", "book", "move"] (spAfter K c cm CH CE CB) := by
  obtain ⟨fY, fdY, GY, mY, kY, bY⟩ := cY
  obtain ⟨fB, fdB, GB, MB, bB⟩ := T.mkB
  refine F.ok scAfter (fun vs H Q E h => ?_) (fun cdv A outer s H vs Q E hr h => ?_)
  · obtain ⟨hv, v, mv, h, b, m, rfl, _⟩ := h
    rfl
  · obtain ⟨hv, v, mv, h, b, m, rfl, hh, hb, hm, ok, wf, mo, n, k⟩ := h
    have hr3 : Room 3 _ := hr.mono (by decide)
    refine ⟨_, (pss_cons (ps_if (pt_val (pe_callB call_isi (by rfl) Z.isi (by decide +kernel) (pa_cons (pv 2) (pa_cons (pe_glob (v := .ref cm.S) rfl gSh rfl) pa_nil)))) (pss_one (ps_ret (pe_make (E := E0) MB GB hr3 rfl T.gB bB .nil pass0 (pa_cons (pe_fld (pv 1) rfl) (pa_cons (pe_op op_add (pe_fld (pv 1) rfl) pe_int) pa_nil))))) pss_nil)
  (pss_cons (ps_set (i := 3) scAfter.nd rfl (Or.inl rfl) (pe_call GY hr rfl mY kY bY .nil pass0 (pa_cons (pv 0) (pa_cons (pv 1) (pa_cons (pv 2) pa_nil)))))
  (pss_cons (ps_if (pt_cmpR op_isN (pv 3) pe_non (nomark _)) (pss_one (ps_ret pe_non)) pss_nil)
  (pss_one (ps_ret (pe_make (E := E0) MB GB hr3 rfl T.gB bB .nil pass0 (pa_cons (pe_tup (StX.pa_star (pe_fld (pv 1) rfl) (StX.pa_star (pv 3) pa_nil))) (pa_cons (pe_fld (pv 1) rfl) pa_nil)))))))), ?_⟩
    try dsimp only [gName, tSeq, tAsg, tNext]
    refine if_b (H0 := H) (Same.refl _) (ev_valB (ev_isMv C MK (k := 3) (by decide) rfl (ev_v rfl hm))) (fun e H1 s1 => ?_) (fun e H1 s1 => ?_)
    · have z := of_decide_eq_true e
      have hb1 := up s1 hb
      cases m with
      | shut =>
        have w1 : Wf ⟨b.es, b.m + 1⟩ := wf.do (h := h) (mv := .shut) rfl
        exact ev_mkBkA (H0 := H1) (b := ⟨b.es, b.m + 1⟩) w1 (by show b.es.length ≤ 900; omega) (ev_bkEs (b := b) T.L (ev_v rfl hb1)) (ev_ad (ev_bkMo (b := b) T.L (ev_v rfl hb1)) ev_int) H1 _ (Same.refl _) fun u2 H2 s2 _ e2 => k _ _ (s1.trans s2) e2
      | take t => cases z
      | takeBy t a => cases z
      | right t a => cases z
      | beg a => cases z
    have z := of_decide_eq_false e
    have hb1 := up s1 hb
    have de := doB_eq (h := h) (b := b) z
    try dsimp only [gName, tSeq, tAsg, tNext]
    refine ev_madeBy (H0 := H1) ok wf mo z (by omega) (ev_v rfl (up s1 hh)) (ev_v rfl hb1) (ev_v rfl (up s1 hm)) H1 _ (Same.refl _) fun u2 H2 s2 _ e2 => ?_
    have S2 := s1.trans s2
    have hb2 := up s2 hb1
    have n2 : ∀ b', doB h b m = some b' → b'.es.length ≤ 900 := fun b' e => by
      have := do_len e
      omega
    have w2 : ∀ b', doB h b m = some b' → Wf b' := fun b' e => wf.do e
    rw [de] at k n2 w2
    generalize madeE h b m = o at e2 k n2 w2
    try dsimp only [gName, tSeq, tAsg, tNext]
    refine if_b (H0 := H2) (Same.refl _) (ev_bool (ev_test (ev_isN (u := u2) (ev_v rfl rfl))) e2.is) (fun e H3 s3 => ?_) (fun e H3 s3 => ?_)
    · rw [Option.isNone_iff_eq_none.mp e] at k
      exact k _ _ (S2.trans s3) rfl
    · cases o with
      | none => cases e
      | some es =>
        have n3 := n2 _ rfl
        have e3 : isU (EnA CE) es u2 H3 := up s3 (show isU (EnA CE) es u2 H2 from e2)
        have hb3 := up s3 hb2
        have n4 : b.es.length + es.length ≤ 900 := by
          have n3 : (b.es ++ es).length ≤ 900 := n3
          rwa [List.length_append] at n3
        exact ev_mkBkA (H0 := H3) (b := ⟨b.es ++ es, b.m⟩) (w2 _ rfl) n3 (ev_star2 (K := K) (by omega) (ev_bkEs (b := b) T.L (ev_v rfl hb3)) (ev_v rfl e3)) (ev_bkMo (b := b) T.L (ev_v rfl hb3)) H3 _ (Same.refl _) fun u4 H4 s4 _ e4 => k _ _ ((S2.trans s3).trans s4) e4
end
end V3

set_option Elab.async false
set_option linter.all false
set_option maxRecDepth 100000
/-! texts taken apart: words, lines, rows; the lines of a house -/
namespace V3
open PySem L2 TL
theorem sp_eq : sp1 = (⟨#[32]⟩ : Str) := by decide +kernel
theorem nl_eq : nlS = (⟨#[10]⟩ : Str) := by decide +kernel
theorem nl_tl : tl nlS = [10] := by decide +kernel
theorem words_no {x : Str} : ∀ p ∈ Txt.split x sp1, 32 ∉ tl p := by
  rw [sp_eq]
  exact StrLaws.split_free x 32
theorem lines_no {x : Str} : ∀ p ∈ Txt.split x nlS, 10 ∉ tl p := by
  rw [nl_eq]
  exact StrLaws.split_free x 10
theorem split_ne (x y : Str) : Txt.split x y ≠ [] := fun e => by
  have z := PyProof.Rows.split_pos x y
  rw [e] at z
  exact absurd z (by decide)
theorem mem_joinL {S : List Nat} {s : Nat} : ∀ {ps : List (List Nat)} {p : List Nat}, p ∈ ps → s ∈ p → s ∈ joinL S ps
  | [], _, h, _ => by cases h
  | [a], p, h, q => by
    rw [List.mem_singleton.mp h] at q
    exact q
  | a :: b :: r, p, h, q => by
    show s ∈ a ++ (S ++ joinL S (b :: r))
    rcases List.mem_cons.mp h with rfl | h
    · exact List.mem_append_left _ q
    · exact List.mem_append_right _ (List.mem_append_right _ (mem_joinL h q))
theorem free_joinL {S : List Nat} {s : Nat} (hS : s ∉ S) : ∀ {ps : List (List Nat)}, (∀ p ∈ ps, s ∉ p) → s ∉ joinL S ps
  | [], _ => fun z => nomatch z
  | [a], h => h a (List.mem_cons_self ..)
  | a :: b :: r, h => by
    show s ∉ a ++ (S ++ joinL S (b :: r))
    intro z
    rcases List.mem_append.mp z with z | z
    · exact h a (List.mem_cons_self ..) z
    · rcases List.mem_append.mp z with z | z
      · exact hS z
      · exact free_joinL hS (fun p hp => h p (List.mem_cons_of_mem _ hp)) z
theorem part_no {x y : Str} {s : Nat} (h : s ∉ tl x) : ∀ p ∈ Txt.split x y, s ∉ tl p := fun p hp q => h (by
  have e := congrArg tl (StrLaws.join_split x y)
  rw [tl_join] at e
  rw [← e]
  exact mem_joinL (List.mem_map.mpr ⟨p, hp, rfl⟩) q)
theorem join_no {y : Str} {ps : List Str} {s : Nat} (hy : s ∉ tl y) (h : ∀ p ∈ ps, s ∉ tl p) : s ∉ tl (Str.join y ps) := by
  rw [tl_join]
  refine free_joinL hy fun p hp => ?_
  obtain ⟨z, hz, rfl⟩ := List.mem_map.mp hp
  exact h z hz
theorem split_lines {L : List Str} (h : L ≠ []) (f : ∀ p ∈ L, 10 ∉ tl p) : Txt.split (Str.join nlS L) nlS = L := by
  have z := split_join nl_tl (by decide +kernel) h f
  rw [join_eq] at z
  exact z
/-! a row -/
def rowB (k s d p : Str) : Bool := decide (k ∈ kindL) && (decide (s ∈ stateL) && (decide (d ∈ deedL) && (decide (p ∈ placeL) && (!decide (d = "right") || (decide (k = "first") || decide (k = "new"))))))
theorem rowB_iff {k s d p : Str} : rowB k s d p = true ↔ (Rw.lt k s d p).ok := by
  unfold rowB Rw.ok
  simp only [Bool.and_eq_true, decide_eq_true_eq, Bool.or_eq_true, Bool.not_eq_true', decide_eq_false_iff_not]
  constructor
  · rintro ⟨a, b, c, e, f⟩
    exact ⟨a, b, c, e, fun z => f.resolve_left fun y => y z⟩
  · rintro ⟨a, b, c, e, f⟩
    refine ⟨a, b, c, e, ?_⟩
    by_cases z : d = "right"
    · exact .inr (f z)
    · exact .inl z
def rowW : List Str → Option Rw
  | [k, s, d, p] => if rowB k s d p = true then some (.lt k s d p) else none
  | _ => none
def rowOf (x : Str) : Option Rw := rowW (Txt.split x sp1)
theorem rowW_some {ws : List Str} {m : Rw} (h : rowW ws = some m) : m.ok ∧ m.kind = 0 ∧ m.words = ws := by
  match ws, h with
  | [k, s, d, p], h =>
    have h : (if rowB k s d p = true then some (Rw.lt k s d p) else none) = some m := h
    by_cases c : rowB k s d p = true
    · rw [if_pos c] at h
      cases h
      exact ⟨rowB_iff.mp c, rfl, rfl⟩
    · rw [if_neg c] at h
      cases h
  | [], h => cases h
  | [_], h => cases h
  | [_, _], h => cases h
  | [_, _, _], h => cases h
  | _ :: _ :: _ :: _ :: _ :: _, h => cases h
theorem rowOf_some {x : Str} {m : Rw} (h : rowOf x = some m) : m.ok ∧ m.kind = 0 ∧ m.text = x := by
  obtain ⟨a, b, e⟩ := rowW_some h
  refine ⟨a, b, ?_⟩
  unfold Rw.text
  rw [e]
  exact StrLaws.join_split x sp1
theorem rowOf_text {m : Rw} (ok : m.ok) (kd : m.kind = 0) : rowOf m.text = some m := by
  unfold rowOf
  rw [rw_split ok]
  cases m with
  | ct _ _ _ => cases kd
  | lt k s d p =>
    show (if rowB k s d p = true then some (Rw.lt k s d p) else none) = _
    rw [if_pos (rowB_iff.mpr ok)]
/-! lines -/
def checkLn : List Str := ["check left", "check all"]
def standB (j : Nat) (x : Str) : Bool := if j = 0 then decide (x ∈ depthL) else if j = 1 then decide (x ∈ checkLn) else (rowOf x).isSome
def badFrom : Nat → List Str → Option Nat
  | _, [] => none
  | j, x :: r => if standB j x = true then badFrom (j + 1) r else some j
def badLine (L : List Str) : Option Nat := match badFrom 0 L with
  | some i => some i
  | none => if L.length < 2 then some L.length else none
theorem bad_none : ∀ {L : List Str} {j : Nat}, badFrom j L = none → ∀ i x, L[i]? = some x → standB (j + i) x = true
  | [], _, _, i, x, e => by simp at e
  | y :: r, j, h, i, x, e => by
    have h' : (if standB j y = true then badFrom (j + 1) r else some j) = none := h
    by_cases c : standB j y = true
    · rw [if_pos c] at h'
      cases i with
      | zero =>
        have e : y = x := by simpa using e
        subst e
        exact c
      | succ i =>
        have z := bad_none h' i x (by simpa using e)
        have e2 : j + 1 + i = j + (i + 1) := by omega
        rw [e2] at z
        exact z
    · rw [if_neg c] at h'
      cases h'
theorem bad_all : ∀ {L : List Str} {j : Nat}, (∀ i x, L[i]? = some x → standB (j + i) x = true) → badFrom j L = none
  | [], _, _ => rfl
  | y :: r, j, h => by
    show (if standB j y = true then badFrom (j + 1) r else some j) = none
    have h0 : standB j y = true := h 0 y rfl
    rw [if_pos h0]
    refine bad_all fun i x e => ?_
    have z := h (i + 1) x (by simpa using e)
    have e2 : j + 1 + i = j + (i + 1) := by omega
    rw [e2]
    exact z
theorem badFrom_step {j i : Nat} : ∀ {L : List Str} {x : Str}, badFrom j L = badFrom (j + i) (L.drop i) → L[i]? = some x → standB (j + i) x = true → badFrom j L = badFrom (j + (i + 1)) (L.drop (i + 1)) := by
  intro L x h e s
  have il : i < L.length := (List.getElem?_eq_some_iff.mp e).1
  have ex := (List.getElem?_eq_some_iff.mp e).2
  rw [List.drop_eq_getElem_cons il, ex] at h
  rw [h]
  show (if standB (j + i) x = true then badFrom (j + i + 1) (L.drop (i + 1)) else some (j + i)) = _
  rw [if_pos s]
  rfl
theorem badFrom_hit {j i : Nat} {L : List Str} {x : Str} (h : badFrom j L = badFrom (j + i) (L.drop i)) (e : L[i]? = some x) (s : standB (j + i) x = false) : badFrom j L = some (j + i) := by
  have il : i < L.length := (List.getElem?_eq_some_iff.mp e).1
  have ex := (List.getElem?_eq_some_iff.mp e).2
  rw [List.drop_eq_getElem_cons il, ex] at h
  rw [h]
  show (if standB (j + i) x = true then badFrom (j + i + 1) (L.drop (i + 1)) else some (j + i)) = _
  rw [if_neg (by rw [s]; exact Bool.false_ne_true)]
/-- the rows that some lines are -/
theorem rows_of : ∀ {L : List Str}, (∀ x ∈ L, (rowOf x).isSome = true) → ∃ ms : List Rw, ms.map Rw.text = L ∧ (∀ m ∈ ms, m.ok ∧ m.kind = 0) ∧ L.map rowOf = ms.map some
  | [], _ => ⟨[], rfl, (fun m h => by cases h), rfl⟩
  | x :: r, h => by
    obtain ⟨ms, e, k, q⟩ := rows_of (L := r) fun y hy => h y (List.mem_cons_of_mem _ hy)
    have z := h x (List.mem_cons_self ..)
    cases em : rowOf x with
    | none => rw [em] at z; cases z
    | some m =>
      obtain ⟨a, b, c⟩ := rowOf_some em
      refine ⟨m :: ms, by rw [List.map_cons, c, e], fun n hn => ?_, by rw [List.map_cons, List.map_cons, em, q]⟩
      rcases List.mem_cons.mp hn with rfl | hn
      · exact ⟨a, b⟩
      · exact k n hn
theorem depth_at : ∀ j : Nat, j < 5 → depthL[j]? = some (Str.empty ++ "depth " ++ num (j : Int)) := by decide +kernel
theorem check_at : ∀ j : Nat, j < 2 → ∃ c, checkL[j]? = some c ∧ checkLn[j]? = some (Str.empty ++ "check " ++ c) := by decide +kernel
theorem first_at : ∀ j : Nat, j < 5 → ∀ i : Nat, i < j → depthL[i]? ≠ depthL[j]? := by decide +kernel
theorem firstC_at : ∀ j : Nat, j < 2 → ∀ i : Nat, i < j → checkLn[i]? ≠ checkLn[j]? := by decide +kernel
/-- lines that can stand are those of a house; where its first two stand in the tables -/
theorem house_of {L : List Str} (h : badLine L = none) (n : L.length ≤ 102) : ∃ (g : Hs) (j i : Nat) (a b : Str), g.ok ∧ g.lines = L ∧ g.d = (j : Int) ∧ L[0]? = some a ∧ L[1]? = some b ∧ depthL[j]? = some a ∧ (∀ m, m < j → depthL[m]? ≠ some a) ∧
    checkLn[i]? = some b ∧ (∀ m, m < i → checkLn[m]? ≠ some b) ∧ checkL[i]? = some g.ch ∧ (L.drop 2).map rowOf = g.rs.map some := by
  unfold badLine at h
  cases e : badFrom 0 L with
  | some i => rw [e] at h; cases h
  | none =>
    rw [e] at h
    have h : (if L.length < 2 then some L.length else none) = none := h
    have l2 : ¬ L.length < 2 := fun c => by rw [if_pos c] at h; cases h
    have all := bad_none e
    match L, l2, n, all with
    | a :: b :: r, _, n, all =>
      have sa := all 0 a rfl
      have sb := all 1 b rfl
      have sa : decide (a ∈ depthL) = true := sa
      have sb : decide (b ∈ checkLn) = true := sb
      have sr : ∀ x ∈ r, (rowOf x).isSome = true := fun x hx => by
        obtain ⟨i, hi, ei⟩ := List.mem_iff_getElem.mp hx
        have z := all (i + 2) x (by simp [hi, ei])
        unfold standB at z
        rw [if_neg (by omega), if_neg (by omega)] at z
        exact z
      obtain ⟨j, hj, ej⟩ := List.mem_iff_getElem.mp (of_decide_eq_true sa)
      obtain ⟨i, hi, ei⟩ := List.mem_iff_getElem.mp (of_decide_eq_true sb)
      have j5 : j < 5 := hj
      have i2 : i < 2 := hi
      have ej : depthL[j]? = some a := by rw [List.getElem?_eq_getElem hj, ej]
      have ei : checkLn[i]? = some b := by rw [List.getElem?_eq_getElem hi, ei]
      obtain ⟨c, ec, eb⟩ := check_at i i2
      have eb : b = Str.empty ++ "check " ++ c := by rw [ei] at eb; exact Option.some.inj eb
      have ea : a = Str.empty ++ "depth " ++ num (j : Int) := by rw [depth_at j j5] at ej; exact (Option.some.inj ej).symm
      obtain ⟨ms, em, km, qm⟩ := rows_of sr
      have lm : ms.length = r.length := by rw [← em, List.length_map]
      refine ⟨⟨(j : Int), c, ms⟩, j, i, a, b, ⟨by show (0 : Int) ≤ (j : Int); omega, by show (j : Int) ≤ 4; omega, List.mem_of_getElem? ec, km, by show ms.length ≤ 100; simp only [List.length_cons] at n; omega⟩, ?_, rfl, rfl, rfl, ej, fun m hm z => ?_, ei, fun m hm z => ?_, ec, qm⟩
      · show (Str.empty ++ Str.ofString "depth " ++ num (j : Int)) :: (Str.empty ++ Str.ofString "check " ++ c) :: ms.map Rw.text = a :: b :: r
        rw [em, ea, eb]
      · exact first_at j j5 m hm (z.trans ej.symm)
      · exact firstC_at i i2 m hm (z.trans ei.symm)
    | [], l2, _, _ => exact absurd (by decide) l2
    | [_], l2, _, _ => exact absurd (by show 1 < 2; decide) l2
theorem num5 {d : Int} (a : 0 ≤ d) (b : d ≤ 4) : ∃ j : Nat, j < 5 ∧ d = (j : Int) := ⟨d.toNat, by omega, by omega⟩
/-- the lines of a house can stand -/
theorem lines_ok {g : Hs} (ok : g.ok) : badLine g.lines = none := by
  obtain ⟨d0, d4, hc, hm, hn⟩ := ok
  have z : badFrom 0 g.lines = none := bad_all fun i x e => by
    rw [Nat.zero_add]
    match i, e with
    | 0, e =>
      have e : Str.empty ++ "depth " ++ num g.d = x := by simpa [Hs.lines] using e
      obtain ⟨j, j5, ej⟩ := num5 d0 d4
      rw [ej] at e
      show decide (x ∈ depthL) = true
      rw [← e]
      exact decide_eq_true (List.mem_of_getElem? (depth_at j j5))
    | 1, e =>
      have e : Str.empty ++ "check " ++ g.ch = x := by simpa [Hs.lines] using e
      have q : ∀ c ∈ checkL, Str.empty ++ "check " ++ c ∈ checkLn := by decide +kernel
      show decide (x ∈ checkLn) = true
      rw [← e]
      exact decide_eq_true (q _ hc)
    | i + 2, e =>
      have e : (g.rs.map Rw.text)[i]? = some x := by simpa [Hs.lines] using e
      unfold standB
      rw [if_neg (by omega), if_neg (by omega)]
      rw [List.getElem?_map] at e
      cases em : g.rs[i]? with
      | none => rw [em] at e; cases e
      | some m =>
        rw [em] at e
        have e : m.text = x := Option.some.inj e
        obtain ⟨a, b⟩ := hm m (List.mem_of_getElem? em)
        rw [← e, rowOf_text a b]
        rfl
  unfold badLine
  rw [z]
  show (if g.lines.length < 2 then some g.lines.length else none) = none
  rw [if_neg (by simp only [Hs.lines, List.length_cons]; omega)]
theorem lines_no10 {g : Hs} (ok : g.ok) : ∀ p ∈ g.lines, 10 ∉ tl p := by
  obtain ⟨d0, d4, hc, hm, hn⟩ := ok
  intro p hp
  simp only [Hs.lines, List.mem_cons, List.mem_map] at hp
  rcases hp with rfl | rfl | ⟨m, mm, rfl⟩
  · obtain ⟨j, j5, ej⟩ := num5 d0 d4
    have q : ∀ x ∈ depthL, 10 ∉ tl x := by decide +kernel
    rw [ej]
    exact q _ (List.mem_of_getElem? (depth_at j j5))
  · have q : ∀ c ∈ checkL, 10 ∉ tl (Str.empty ++ "check " ++ c) := by decide +kernel
    exact q _ hc
  · unfold Rw.text
    exact join_no (by decide +kernel) fun w hw => (word_ok (hm m mm).1 w hw).1.2
theorem text_split {g : Hs} (ok : g.ok) : Txt.split g.text nlS = g.lines := split_lines (by simp [Hs.lines]) (lines_no10 ok)
theorem lines_inj {g h : Hs} (go : g.ok) (ho : h.ok) (e : g.lines = h.lines) : g = h := by
  have q : ∀ a ∈ [(0 : Int), 1, 2, 3, 4], ∀ b ∈ [(0 : Int), 1, 2, 3, 4], Str.empty ++ "depth " ++ num a = Str.empty ++ "depth " ++ num b → a = b := by decide +kernel
  have q2 : ∀ a ∈ checkL, ∀ b ∈ checkL, Str.empty ++ "check " ++ a = Str.empty ++ "check " ++ b → a = b := by decide +kernel
  have m : ∀ d : Int, 0 ≤ d → d ≤ 4 → d ∈ [(0 : Int), 1, 2, 3, 4] := fun d a b => by
    have : d = 0 ∨ d = 1 ∨ d = 2 ∨ d = 3 ∨ d = 4 := by omega
    simpa using this
  obtain ⟨d, c, rs⟩ := g
  obtain ⟨d', c', rs'⟩ := h
  simp only [Hs.lines, List.cons.injEq] at e
  obtain ⟨e1, e2, e3⟩ := e
  have e1 := q d (m _ go.1 go.2.1) d' (m _ ho.1 ho.2.1) e1
  have e2 := q2 c go.2.2.1 c' ho.2.2.1 e2
  have e4 : ∀ {rs rs' : List Rw}, (∀ m ∈ rs, m.ok ∧ m.kind = 0) → (∀ m ∈ rs', m.ok ∧ m.kind = 0) → rs.map Rw.text = rs'.map Rw.text → rs = rs' := by
    intro rs
    induction rs with
    | nil => intro rs' _ _ e; cases rs' with
      | nil => rfl
      | cons _ _ => cases e
    | cons a r ih => intro rs' ka kb e; cases rs' with
      | nil => cases e
      | cons b r' =>
        simp only [List.map_cons, List.cons.injEq] at e
        rw [rw_inj (ka a (List.mem_cons_self ..)).1 (kb b (List.mem_cons_self ..)).1 e.1, ih (fun m hm => ka m (List.mem_cons_of_mem _ hm)) (fun m hm => kb m (List.mem_cons_of_mem _ hm)) e.2]
  have e5 : rs = rs' := e4 go.2.2.2.1 ho.2.2.2.1 e3
  rw [e1, e2, e5]
/-! weights -/
def wgt (L : List Str) : Nat := (L.map (·.length)).sum + L.length
theorem wgt_app (a b : List Str) : wgt (a ++ b) = wgt a + wgt b := by
  unfold wgt
  simp only [List.map_append, List.sum_append, List.length_append]
  omega
theorem wgt_cut (a : List Str) (n : Nat) : wgt (a.take n) + wgt (a.drop n) = wgt a := by rw [← wgt_app, List.take_append_drop]
theorem wgt_take (a : List Str) (n : Nat) : wgt (a.take n) ≤ wgt a := by have := wgt_cut a n; omega
theorem wgt_drop (a : List Str) (n : Nat) : wgt (a.drop n) ≤ wgt a := by have := wgt_cut a n; omega
theorem wgt_rev (a : List Str) : wgt a.reverse = wgt a := by
  unfold wgt
  rw [List.map_reverse, List.sum_reverse, List.length_reverse]
theorem wgt_mem {a : List Str} {x : Str} (h : x ∈ a) : x.length + 1 ≤ wgt a := by
  obtain ⟨i, hi, e⟩ := List.mem_iff_getElem.mp h
  have z := wgt_cut a i
  rw [List.drop_eq_getElem_cons hi, e] at z
  have y : wgt (x :: a.drop (i + 1)) = x.length + 1 + wgt (a.drop (i + 1)) := by
    unfold wgt
    simp only [List.map_cons, List.sum_cons, List.length_cons]
    omega
  omega
theorem wgt_split (x y : Str) (hy : 1 ≤ y.length) : wgt (Txt.split x y) ≤ x.length + 1 := PyProof.Rows.split_weight x y hy
theorem len_join1 {y : Str} (hy : y.length = 1) (L : List Str) : (Str.join y L).length ≤ wgt L := by
  cases L with
  | nil => show (Str.join y []).length ≤ 0; exact Nat.le_of_eq rfl
  | cons a l =>
    rw [PyProof.Rows.len_join_cons, hy]
    unfold wgt
    simp only [List.length_cons]
    omega
end V3

set_option Elab.async false
set_option linter.all false
set_option maxRecDepth 100000
/-! InvalidText -/
namespace V3
open PySem L2 TL
abbrev sItInit : Stmt := inClass (top 6) 0
structure ItTxt (P : Program) (w : World) (K : PySem.W.Frag) (mg : Str → Option Value) (base : Heap) (C : Addr) : Prop where
  g : mg "InvalidText" = some (.ref C)
  o : OexC K C
  no : PySem.W.findIn K (.ref C) "at" = some none
  ini : ∃ (f : Addr) (fd : FuncData), FnOk P w K mg base CX0 1 f fd ["self", "at"] (spIX C) ∧ PySem.W.findIn K (.ref C) "__init__" = some (some (.ref f)) ∧ PySem.W.typeIn K (.ref f) = some (.type "function") ∧ Binds K fd ["self", "at"] []
section
variable {P : Program} {w : World} {K : PySem.W.Frag} {mg : Str → Option Value} {base : Heap}
theorem scItInit : FnScope ["self", "at"] ["self", "at"] (defScope sItInit) := ⟨rfl, rfl, rfl, by decide +kernel, rfl, by decide +kernel, by decide +kernel⟩
theorem ok_itInit {f C : Addr} {fd : FuncData} (F : Fun K "__init__" "InvalidText.__init__" sItInit f fd) (o : OexC K C) (no : PySem.W.findIn K (.ref C) "at" = some none) : FnOk P w K mg base CX0 1 f fd ["self", "at"] (spIX C) := by
  refine F.ok scItInit (fun vs H Q E h => ?_) (fun cdv A outer s H vs Q E hr h => ?_)
  · obtain ⟨a, y, rfl, _⟩ := h
    rfl
  · obtain ⟨a, y, rfl, ha, q⟩ := h
    exact ⟨_, pss_one (ps_ost (pv 0) (pv 1)), _, rfl, _, rfl, a, C, rfl, o, no, .inl ⟨ha, fun dx h1 h2 => q dx h1 h2⟩⟩
end
end V3

set_option Elab.async false
set_option linter.all false
set_option maxRecDepth 100000
namespace V3
open PySem L2 TL
/-! histories whose tuple may be a written one -/
/-- a tuple, tracked or written -/
def TupH (K : PySem.W.Frag) (H : Hp) (a : Addr) (xs : List V) : Prop := H a = some (.tup xs) ∨ ((∃ o, K.lookup a = some o ∧ o.cls = .type "tuple") ∧ ∀ H, SqT K H a xs)
theorem TupH.sq {K : PySem.W.Frag} {H : Hp} {a : Addr} {xs : List V} (h : TupH K H a xs) : SqT K H a xs := h.elim SqT.of fun z => z.2 H
theorem TupH.ty {K : PySem.W.Frag} {H : Hp} {a : Addr} {xs : List V} (h : TupH K H a xs) : TyX K H (.ref a) (.type "tuple") := by
  rcases h with h | ⟨⟨o, e, c⟩, _⟩
  · exact .base (.tup h)
  · exact .kTuple e c
theorem TupH.same {K : PySem.W.Frag} {H H' : Hp} {a : Addr} {xs : List V} (h : TupH K H a xs) (s : Same H H') : TupH K H' a xs := h.elim (fun z => .inl (s _ _ z)) .inr
def HiK (K : PySem.W.Frag) (c : Cl) (H : Hp) (v : V) (ms : List Mv) : Prop := ∃ x dx q xs, v = .ref x ∧ H x = some (hist c.Hi dx q) ∧ TupH K H q xs ∧ MvsAt c H xs ms
theorem HiK.same {K : PySem.W.Frag} {c : Cl} {H H' : Hp} {v : V} {ms : List Mv} (h : HiK K c H v ms) (s : Same H H') : HiK K c H' v ms := by
  obtain ⟨x, dx, q, xs, e, hx, hq, mv⟩ := h
  exact ⟨x, dx, q, xs, e, s _ _ hx, hq.same s, mv.same s⟩
theorem HiK.of {K : PySem.W.Frag} {c : Cl} {H : Hp} {v : V} {ms : List Mv} (h : HiAt c H v ms) : HiK K c H v ms := by
  obtain ⟨x, dx, q, xs, e, hx, hq, mv⟩ := h
  exact ⟨x, dx, q, xs, e, hx, .inl hq, mv⟩
end V3

set_option Elab.async false
set_option linter.all false
set_option maxRecDepth 100000
/-! the book behind a history, or Refused -/
namespace V3
open PySem L2 TL
abbrev sRfInit : Stmt := inClass (top 7) 0
abbrev sAlong : Stmt := top 31
abbrev sPlay : Stmt := top 30
structure RfTxt (P : Program) (w : World) (K : PySem.W.Frag) (mg : Str → Option Value) (base : Heap) (C : Addr) : Prop where
  g : mg "Refused" = some (.ref C)
  o : OexC K C
  no : PySem.W.findIn K (.ref C) "at" = some none
  ini : ∃ (f : Addr) (fd : FuncData), FnOk P w K mg base CX0 1 f fd ["self", "at"] (spIX C) ∧ PySem.W.findIn K (.ref C) "__init__" = some (some (.ref f)) ∧ PySem.W.typeIn K (.ref f) = some (.type "function") ∧ Binds K fd ["self", "at"] []
/-- the number of the first move that is refused -/
def badMv (h : Hs) : Bk → List Mv → Option Nat
  | _, [] => none
  | b, m :: r => match doB h b m with
    | none => some 0
    | some b' => (badMv h b' r).map (· + 1)
theorem bad_play {h : Hs} : ∀ {ms : List Mv} {b : Bk}, badMv h b ms = none ↔ (playB h b ms).isSome = true
  | [], b => ⟨fun _ => rfl, fun _ => rfl⟩
  | m :: r, b => by
    show (match doB h b m with
      | none => some 0
      | some b' => (badMv h b' r).map (· + 1)) = none ↔ (match doB h b m with
      | none => none
      | some b' => playB h b' r).isSome = true
    cases doB h b m with
    | none => exact ⟨fun e => (nomatch e), fun e => (nomatch e)⟩
    | some b' =>
      dsimp only
      rw [Option.map_eq_none_iff]
      exact bad_play
theorem bad_none_of {h : Hs} {b b' : Bk} {ms : List Mv} (e : playB h b ms = some b') : badMv h b ms = none := bad_play.mpr (by rw [e]; rfl)
def spAlong (K : PySem.W.Frag) (c : Rc) (cm : Cl) (CH CE CB CR : Addr) : Sp := fun vs H Q E => ∃ (hv lv : V) (h : Hs) (ms : List Mv), vs = [hv, lv] ∧ HsA K c CH h hv H ∧ HiK K cm H lv ms ∧ h.ok ∧ (∀ m ∈ ms, m.ok) ∧ ms.length ≤ 400 ∧
  (badMv h b0 ms = none → ∀ D us H', H D = none → Same H H' → H' D = some (.lst us) → Ls (fun u b => BkA CE CB b u H') us (booksB h b0 ms) → Q (.ref D) H') ∧ (∀ i, badMv h b0 ms = some i → ErI CR H E ((i : Nat) : Int))
def spPlay (K : PySem.W.Frag) (c : Rc) (cm : Cl) (CH CE CB CR : Addr) : Sp := fun vs H Q E => ∃ (hv lv : V) (h : Hs) (ms : List Mv), vs = [hv, lv] ∧ HsA K c CH h hv H ∧ HiK K cm H lv ms ∧ h.ok ∧ (∀ m ∈ ms, m.ok) ∧ ms.length ≤ 400 ∧
  (∀ b, playB h b0 ms = some b → ∀ u H', Same H H' → BkA CE CB b u H' → Q u H') ∧ (∀ i, badMv h b0 ms = some i → ErI CR H E ((i : Nat) : Int))
theorem books_last {h : Hs} : ∀ {ms : List Mv} {b b' : Bk}, playB h b ms = some b' → ∃ bs, booksB h b ms = bs ++ [b']
  | [], b, b', e => by
    cases (show some b = some b' from e)
    exact ⟨[], rfl⟩
  | m :: r, b, b', e => by
    have e : (match doB h b m with
      | none => none
      | some b' => playB h b' r) = some b' := e
    cases d : doB h b m with
    | none => rw [d] at e; cases e
    | some b1 =>
      rw [d] at e
      obtain ⟨bs, q⟩ := books_last (ms := r) e
      refine ⟨b :: bs, ?_⟩
      show b :: (match doB h b m with
          | some b' => booksB h b' r
          | none => []) = _
      rw [d]
      show b :: booksB h b1 r = _
      rw [q]
      rfl
theorem atI_last {us : List V} {n : Nat} {u : V} (l : us.length = n + 1) (e : us[n]? = some u) : atI us (-1) = some u := by
  show (ixN us.length (-1)).bind (fun j => us[j]?) = _
  have z : ixN us.length (-1) = some n := by
    unfold ixN
    rw [if_neg (by decide), if_pos (by omega), l]
    congr 1
    omega
  rw [z]
  exact e
section
variable {P : Program} {w : World} {K : PySem.W.Frag} {mg : Str → Option Value} {base : Heap}
theorem scRfInit : FnScope ["self", "at"] ["self", "at"] (defScope sRfInit) := ⟨rfl, rfl, rfl, by decide +kernel, rfl, by decide +kernel, by decide +kernel⟩
theorem scAlong : FnScope ["house", "history", "books", "at", "move", "book"] ["house", "history"] (defScope sAlong) := ⟨rfl, rfl, rfl, by decide +kernel, rfl, by decide +kernel, by decide +kernel⟩
theorem scPlay : FnScope ["house", "history"] ["house", "history"] (defScope sPlay) := ⟨rfl, rfl, rfl, by decide +kernel, rfl, by decide +kernel, by decide +kernel⟩
theorem ok_rfInit {f C : Addr} {fd : FuncData} (F : Fun K "__init__" "Refused.__init__" sRfInit f fd) (o : OexC K C) (no : PySem.W.findIn K (.ref C) "at" = some none) : FnOk P w K mg base CX0 1 f fd ["self", "at"] (spIX C) := by
  refine F.ok scRfInit (fun vs H Q E h => ?_) (fun cdv A outer s H vs Q E hr h => ?_)
  · obtain ⟨a, y, rfl, _⟩ := h
    rfl
  · obtain ⟨a, y, rfl, ha, q⟩ := h
    exact ⟨_, pss_one (ps_ost (pv 0) (pv 1)), _, rfl, _, rfl, a, C, rfl, o, no, .inl ⟨ha, fun dx h1 h2 => q dx h1 h2⟩⟩
theorem ok_along {f CH CE CB CR : Addr} {c : Rc} {cm : Cl} {fd : FuncData} (F : Fun K "books_along" "books_along" sAlong f fd) (Z : BltBk mg) (T : BkOps P w K mg base c CH CE CB) (C : HiCls K cm) (N : RfTxt P w K mg base CR)
    (cA : Cal P w K mg base CX0 "after" 7 ["house", "book", "move"] (spAfter K c cm CH CE CB)) : FnOk P w K mg base (L2.CX P w) 8 f fd ["house", "history"] (spAlong K c cm CH CE CB CR) := by
  obtain ⟨fA, fdA, GA, mA, kA, bA⟩ := cA
  obtain ⟨fB, fdB, GB, MB, bB⟩ := T.mkB
  obtain ⟨fI, fdI, GI, iI, tI, bI⟩ := N.ini
  refine F.okX scAlong (fun vs H Q E h => ?_) (fun cdv A outer s H vs Q E hr h => ?_)
  · obtain ⟨hv, lv, h, ms, rfl, _⟩ := h
    rfl
  · obtain ⟨hv, lv, h, ms, rfl, hh, hl, ok, mo, n, k0, k1⟩ := h
    have hr3 : Room 3 _ := hr.mono (by decide)
    refine ⟨_, (pss_cons (ps_set (i := 2) scAlong.nd rfl (Or.inl rfl) (pe_lst (pa_cons (pe_make (E := E0) MB GB hr3 rfl T.gB bB .nil pass0 (pa_cons (pe_tup pa_nil) (pa_cons pe_int pa_nil))) pa_nil)))
  (pss_cons (ps_for (passes_of rfl) rfl (pi_enumT (by rfl) Z.enumerate (pa_cons (pe_fld (pv 1) rfl) pa_nil)) (pg_tup rfl (pgs_cons (pg_name (i := 3) scAlong.nd rfl (Or.inl rfl)) (pgs_cons (pg_name (i := 4) scAlong.nd rfl (Or.inl rfl)) pgs_nil)))
  (pss_cons (ps_set (i := 5) scAlong.nd rfl (Or.inl rfl) (pe_call GA hr rfl mA kA bA .nil pass0 (pa_cons (pv 0) (pa_cons (pe_ix ix_list (pv 2) (pe_un un_neg pe_int) (fun _ _ => rfl)) (pa_cons (pv 4) pa_nil)))))
  (pss_cons (ps_if (pt_cmpR op_isN (pv 5) pe_non (nomark _)) (pss_one (ps_raise rfl (takes_of rfl rfl rfl rfl) (pmk_oex N.o iI tI GI (hr.mono (by decide)) bI .nil pass0 rfl N.g (by exact (pa_cons (pv 3) pa_nil))))) pss_nil)
  (pss_one (ps_expr (pe_bm PySem.F.plainAttrs_list PySem.F.slot_list_append PySem.F.type_list_append mt_append (pv 2) (pa_cons (pv 5) pa_nil)))))))
  (pss_one (ps_ret (pv 2))))), ?_⟩
    try dsimp only [gName, tSeq, tAsg, tNext]
    refine evn_lst (H0 := H) (S := BkA CE CB) (as := [b0]) (evl_cons (ev_mkBkA (b := b0) Wf.zero (by decide) (ev_tupU evl_nil (by decide)) ev_int) evl_nil) (by decide) H _ (Same.refl _) fun D us1 H1 nD0 S1 hD1 l1 => ?_
    have hh1 := up S1 hh
    obtain ⟨x, dx, q, xs, rfl, hx, hq, mv⟩ := hl.same S1
    have lx := mv.len
    try dsimp only [gName, tSeq, tAsg, tNext]
    refine ⟨_, rfl, x, cm.Hi, dx, _, _, rfl, hx, C.cl, C.nM, rfl, q, xs, rfl, hq.sq, ?_⟩
    have sqs : ∀ {H'}, SameX D H1 H' → SqT K H' q xs := fun {H'} sx => by
      rcases hq with z | z
      · exact SqT.of (sx _ _ (fun e => by rw [e, hD1] at z; cases z) z)
      · exact z.2 H'
    refine for_it (walk_enumT (K := K) (a := q) (xs := xs)) (fun i σ H' => ∃ (o3 o4 o5 : Option V) (us : List V) (bs : List Bk) (b : Bk), σ = [some hv, some (.ref x), some (.ref D), o3, o4, o5] ∧ SameX D H1 H' ∧ H' D = some (.lst us) ∧ Ls (fun u b => BkA CE CB b u H') us (bs ++ [b]) ∧ Wf b ∧ b.es.length ≤ 2 * i ∧ bs.length = i ∧ booksB h b0 ms = bs ++ booksB h b (ms.drop i) ∧ badMv h b0 ms = (badMv h b (ms.drop i)).map (· + i))
      ⟨_, _, _, us1, [], b0, rfl, SameX.refl, hD1, l1, Wf.zero, Nat.zero_le _, rfl, rfl, (by rw [List.drop_zero]; cases badMv h b0 ms <;> rfl)⟩ (fun i σ H' _ ⟨_, _, _, _, _, _, _, sx, _⟩ => sqs sx) ?_ ?_
    · rintro i v σ H2 H3 hi ⟨o3, o4, o5, us, bs, b, rfl, sx, hD2, l2, wf, bl, bi, eb, ebad⟩ ⟨t, z1, z2, rfl, nT, rfl, ez1, ez2⟩
      obtain rfl := (Option.some.inj ez1)
      have il : i < ms.length := by omega
      obtain ⟨m, em, rm⟩ := mv.at ez2
      have okm := mo m (List.mem_of_getElem? em)
      have sT : Same H2 (upd H2 t (.tup [.int (i : Nat), z2])) := Same.new nT
      refine ⟨t, _, rfl, SqT.of upd_same, rfl, _, _, rfl, ⟨_, _, rfl, rfl, ?_⟩⟩
      generalize upd H2 t (.tup [.int (i : Nat), z2]) = H3 at sT ⊢
      have kp : Keep H1 H3 := fun c o n e => sT _ _ (Keep.pre hD1 sx c o n e)
      have hm3 : MvA cm m z2 H3 := upL kp (show MvA cm m z2 H1 from rm)
      have hh3 := upL kp hh1
      have hD3 := sT _ _ hD2
      have l3 := Ls.up l2 sT
      have lu : us.length = i + 1 := by rw [l2.1, List.length_append, bi]; rfl
      obtain ⟨u, eu, ru⟩ := l3.2 i b (by rw [List.getElem?_append_right (by omega), bi, Nat.sub_self]; rfl)
      refine ⟨_, rfl, _, rfl, 1, rfl, D, us, -1, u, rfl, rfl, SqL.of hD3, atI_last lu eu, _, rfl, hv, u, z2, h, b, m, rfl, hh3, ru, hm3, ok, wf, okm, by omega, fun y H4 s4 ho => ?_⟩
      have hD4 := s4 _ _ hD3
      try dsimp only [gName, tSeq, tAsg, tNext]
      have dr : ms.drop i = m :: ms.drop (i + 1) := by
        rw [List.drop_eq_getElem_cons il, (List.getElem?_eq_some_iff.mp em).2]
      rw [dr] at eb ebad
      have eb : booksB h b0 ms = bs ++ (b :: (match doB h b m with
        | some b' => booksB h b' (ms.drop (i + 1))
        | none => [])) := eb
      have ebad : badMv h b0 ms = (match doB h b m with
        | none => some 0
        | some b' => (badMv h b' (ms.drop (i + 1))).map (· + 1)).map (· + i) := ebad
      refine if_b (H0 := H4) (Same.refl _) (ev_bool (ev_test (ev_isN (u := y) (ev_v rfl rfl))) ho.is) (fun e H5 s5 => ?_) (fun e H5 s5 => ?_)
      · have d := Option.isNone_iff_eq_none.mp e
        rw [d] at ebad
        have ebad : badMv h b0 ms = some (0 + i) := ebad
        rw [Nat.zero_add] at ebad
        have S5 : Same H H5 := fun c o e => (s4.trans s5) _ _ (sT _ _ (sx c o (ne_of_none e nD0) (S1 c o e)))
        exact ⟨_, rfl, (by show 1 ≤ 1000; decide), er_readI (fun d H6 s6 hd => k1 i ebad d H6 (S5.trans s6) hd)⟩
      · cases d : doB h b m with
        | none => rw [d] at e; cases e
        | some b' =>
          rw [d] at ho eb ebad
          have hb' : BkA CE CB b' y H4 := ho
          have hD5 := s5 _ _ hD4
          try dsimp only [gName, tSeq, tAsg, tNext]
          have kl : Keep H5 (upd H5 D (.lst (us ++ [y]))) := Keep.lst hD5
          refine ⟨_, rfl, .inl ⟨rfl, _, SqL.of hD5⟩, _, rfl, D, us, y, rfl, rfl, hD5, Nat.lt_of_le_of_lt (m := 1000) (by omega) (by decide), _, _, _, us ++ [y], bs ++ [b], b', rfl, fun c o nc q => ?_, upd_same, Ls.push ((Ls.up l3 (s4.trans s5)).upL kl) (upL kl (up s5 hb')), wf.do d, ?_, by rw [List.length_append, bi]; rfl, ?_, ?_⟩
          · rw [upd_ne nc]
            exact (s4.trans s5) _ _ (sT _ _ (sx c o nc q))
          · have := do_len d
            omega
          · rw [eb, List.append_assoc]
            rfl
          · rw [ebad, Option.map_map]
            congr 1
            funext z
            show z + 1 + i = z + (i + 1)
            omega
    · rintro σ H2 ⟨o3, o4, o5, us, bs, b, rfl, sx, hD2, l2, wf, bl, bi, eb, ebad⟩
      rw [lx, List.drop_length] at eb ebad
      refine ⟨_, rfl, k0 ebad D us H2 nD0 (fun c o q => sx c o (ne_of_none q nD0) (S1 c o q)) hD2 ?_⟩
      rw [eb]
      exact l2
theorem ok_play {f CH CE CB CR : Addr} {c : Rc} {cm : Cl} {fd : FuncData} (F : Fun K "play" "play" sPlay f fd) (cL : Cal P w K mg base (L2.CX P w) "books_along" 8 ["house", "history"] (spAlong K c cm CH CE CB CR)) : FnOk P w K mg base (L2.CX P w) 9 f fd ["house", "history"] (spPlay K c cm CH CE CB CR) := by
  obtain ⟨fL, fdL, GL, mL, kL, bL⟩ := cL
  refine F.okX scPlay (fun vs H Q E h => ?_) (fun cdv A outer s H vs Q E hr h => ?_)
  · obtain ⟨hv, lv, h, ms, rfl, _⟩ := h
    rfl
  · obtain ⟨hv, lv, h, ms, rfl, hh, hl, ok, mo, n, k0, k1⟩ := h
    refine ⟨_, (pss_one (ps_ret (pe_ix ix_list (pe_call (E := E) GL hr rfl mL kL bL .nil (passes_call (takes_of rfl rfl rfl rfl) fun _ _ _ _ z => z) (pa_cons (pv 0) (pa_cons (pv 1) pa_nil))) (pe_un un_neg pe_int) (fun _ _ => rfl)))), ?_⟩
    refine ⟨_, rfl, _, rfl, hv, lv, h, ms, rfl, hh, hl, ok, mo, n, fun bad D us H1 nD s1 hD l => ?_, k1⟩
    obtain ⟨b, eb⟩ := Option.isSome_iff_exists.mp (bad_play.mp bad)
    obtain ⟨bs, ebs⟩ := books_last eb
    rw [ebs] at l
    obtain ⟨u, eu, ru⟩ := l.2 bs.length b (by rw [List.getElem?_append_right (Nat.le_refl _), Nat.sub_self]; rfl)
    exact ⟨1, rfl, D, us, -1, u, rfl, rfl, SqL.of hD, atI_last (by rw [l.1, List.length_append]; rfl) eu, k0 b eb u H1 s1 ru⟩
end
end V3

set_option Elab.async false
set_option linter.all false
set_option maxRecDepth 100000
/-! House.read -/
namespace V3
open PySem L2 TL
abbrev sReadRow : Stmt := top 52
abbrev sStand : Stmt := top 51
abbrev sHsRead : Stmt := inClass (top 47) 1
structure HsL (K : PySem.W.Frag) (mg : Str → Option Value) (EA LA : Addr) : Prop where
  lines : mg "CHECK_LINES" = some (.ref LA)
  oE : ∃ o, K.lookup EA = some o ∧ o.cls = .type "tuple" ∧ o.dict = none
  oL : ∃ o, K.lookup LA = some o ∧ o.cls = .type "tuple" ∧ o.dict = none
  tL : ∀ H, SqT K H LA (checkLn.map V.str)
def spWordA : Sp := fun vs H Q _ => ∃ k s d p : Str, vs = [.str k, .str s, .str d, .str p] ∧ ∀ v H', Same H H' → ((rowB k s d p = true ∧ v = .non) ∨ (rowB k s d p = false ∧ ∃ z, v = .str z)) → Q v H'
def spReadRow (c : Rc) : Sp := fun vs H Q _ => ∃ x : Str, vs = [.str x] ∧ x.length ≤ 100000 ∧ (rowOf x = none → ∀ H', Same H H' → Q .non H') ∧ ∀ m, rowOf x = some m → ∀ y H', Same H H' → RwAt c H' y m → Q y H'
def spStand : Sp := fun vs H Q _ => ∃ (x : Str) (j : Nat), vs = [.str x, .int (j : Int)] ∧ x.length ≤ 100000 ∧ ∀ H', Same H H' → Q (.bl (standB j x)) H'
def spHsRead (K : PySem.W.Frag) (c : Rc) (C CT : Addr) : Sp := fun vs H Q E => ∃ t : Str, vs = [.ref C, .str t] ∧ t.length ≤ 100000 ∧ (Txt.split t nlS).length ≤ 102 ∧
  (badLine (Txt.split t nlS) = none → ∀ g : Hs, g.ok → g.lines = Txt.split t nlS → ∀ x H', Same H H' → HsAt K c C H' x g → Q x H') ∧ ∀ i : Nat, badLine (Txt.split t nlS) = some i → ErI CT H E (i : Int)
section
variable {P : Program} {w : World} {K : PySem.W.Frag} {mg : Str → Option Value} {base : Heap} {KA SA DA PA CA EA LA : Addr}
theorem scReadRow : FnScope ["text", "words", "kind", "state", "deed", "place"] ["text"] (defScope sReadRow) := ⟨rfl, rfl, rfl, by decide +kernel, rfl, by decide +kernel, by decide +kernel⟩
theorem scStand : FnScope ["line", "at"] ["line", "at"] (defScope sStand) := ⟨rfl, rfl, rfl, by decide +kernel, rfl, by decide +kernel, by decide +kernel⟩
theorem scHsRead : FnScope ["cls", "text", "lines", "at", "line", "rows"] ["cls", "text"] (defScope sHsRead) := ⟨rfl, rfl, rfl, by decide +kernel, rfl, by decide +kernel, by decide +kernel⟩
theorem ok_wordA {f : Addr} {fd : FuncData} (F : Fun K "wrong_word" "wrong_word" sWrongWord f fd) (T : RowH K mg KA SA DA PA) : FnOk P w K mg base CX0 1 f fd ["kind", "state", "deed", "place"] spWordA := by
  refine F.ok scWord (fun vs H Q E h => ?_) (fun cdv A outer s H vs Q E hr h => ?_)
  · obtain ⟨k, s, d, p, rfl, _⟩ := h
    rfl
  · obtain ⟨k, s, d, p, rfl, q⟩ := h
    refine ⟨_, pss_cons (ps_if (pt_cmpR op_notIn_seq (pv 0) (pe_glob (v := .ref KA) rfl T.kinds rfl) rfl) (pss_one (ps_ret pe_str)) pss_nil)
      (pss_cons (ps_if (pt_cmpR op_notIn_seq (pv 1) (pe_glob (v := .ref SA) rfl T.states rfl) rfl) (pss_one (ps_ret pe_str)) pss_nil)
      (pss_cons (ps_if (PW.pt (pw_or (pt_cmpR op_notIn_seq (pv 2) (pe_glob (v := .ref DA) rfl T.deeds rfl) rfl) (pw_or1 (PW.pt (pw_and (pt_cmpR op_eq (pv 2) pe_str (nomark _)) (pw_and1 (pt_cmpR op_in_seq (pv 0) (pe_tup (pa_cons pe_str (pa_cons pe_str pa_nil))) rfl))))))) (pss_one (ps_ret pe_str)) pss_nil)
      (pss_cons (ps_if (pt_cmpR op_notIn_seq (pv 3) (pe_glob (v := .ref PA) rfl T.places rfl) rfl) (pss_one (ps_ret pe_str)) pss_nil)
      (pss_one (ps_ret pe_non))))), ?_⟩
    have bad : ∀ (z : Str) (H' : Hp), Same H H' → rowB k s d p = false → Q (.str z) H' := fun z H' sm e => q _ _ sm (.inr ⟨e, z, rfl⟩)
    refine ⟨_, rfl, KA, _, rfl, .inr (T.tK _), rfl, flat_strs _, _, rfl, ?_⟩
    rw [inV_str]
    by_cases k1 : k ∈ kindL
    case neg =>
      rw [decide_eq_false k1]
      exact iteT (bad _ _ (Same.refl H) (by unfold rowB; rw [decide_eq_false k1]; rfl))
    rw [decide_eq_true k1]
    refine iteF ⟨_, rfl, SA, _, rfl, .inr (T.tS _), rfl, flat_strs _, _, rfl, ?_⟩
    rw [inV_str]
    by_cases s1 : s ∈ stateL
    case neg =>
      rw [decide_eq_false s1]
      exact iteT (bad _ _ (Same.refl H) (by unfold rowB; rw [decide_eq_false s1, Bool.false_and, Bool.and_false]))
    rw [decide_eq_true s1]
    refine iteF ⟨_, rfl, DA, _, rfl, .inr (T.tD _), rfl, flat_strs _, _, rfl, ?_⟩
    rw [inV_str]
    by_cases d1 : d ∈ deedL
    case neg =>
      rw [decide_eq_false d1]
      exact iteT (bad _ _ (Same.refl H) (by unfold rowB; rw [decide_eq_false d1, Bool.false_and, Bool.and_false, Bool.and_false]))
    rw [decide_eq_true d1]
    refine iteF ⟨_, rfl, rfl, _, rfl, ?_⟩
    have last : ∀ H', Same H H' → (d = "right" → k = "first" ∨ k = "new") → (∃ b, V.bl (decide (p ∈ placeL)) = V.bl b ∧ True) → True := fun _ _ _ _ => trivial
    have fin : ∀ H', Same H H' → (!decide (d = "right") || (decide (k = "first") || decide (k = "new"))) = true → tIfS (tTest (tOp (rIn K true) (tVar 3) (tC (.ref PA)))) (tRet (tC (.str "place"))) tNext { nx := fun _ H' => Q .non H', rt := Q } [some (.str k), some (.str s), some (.str d), some (.str p)] H' → True := fun _ _ _ _ => trivial
    by_cases e : d = "right"
    · subst e
      rw [decide_eq_true rfl]
      refine iteT ⟨_, rfl, (by show 2 ≤ sizeLine; decide), fun t nt => ⟨t, _, rfl, .inr (SqT.of upd_same), rfl, rfl, _, rfl, ?_⟩⟩
      have sm : Same H (upd H t (.tup [.str "minus", .str "plus"])) := Same.new nt
      have z2 : (if false = true then !inV (V.str k) [.str "minus", .str "plus"] else inV (V.str k) [.str "minus", .str "plus"]) = !(decide (k = "first") || decide (k = "new")) := by
        rw [if_neg Bool.false_ne_true]
        have q : ∀ k ∈ kindL, inV (V.str k) [.str "minus", .str "plus"] = !(decide (k = "first") || decide (k = "new")) := by decide +kernel
        exact q k k1
      rw [z2]
      cases fk : (decide (k = "first") || decide (k = "new")) with
      | false => exact iteT (bad _ _ sm (by unfold rowB; rw [fk]; simp))
      | true =>
        refine iteF ⟨_, rfl, PA, _, rfl, .inr (T.tP _), rfl, flat_strs _, _, rfl, ?_⟩
        rw [inV_str]
        by_cases p1 : p ∈ placeL
        · rw [decide_eq_true p1]
          exact iteF (q _ _ sm (.inl ⟨by unfold rowB; rw [fk, decide_eq_true k1, decide_eq_true s1, decide_eq_true d1, decide_eq_true p1]; simp, rfl⟩))
        · rw [decide_eq_false p1]
          exact iteT (bad _ _ sm (by unfold rowB; rw [decide_eq_false p1]; simp))
    · have e2 : decide (V.str d = V.str "right") = false := decide_eq_false (fun z => e (by injection z))
      rw [e2]
      refine iteF ⟨_, rfl, PA, _, rfl, .inr (T.tP _), rfl, flat_strs _, _, rfl, ?_⟩
      rw [inV_str]
      by_cases p1 : p ∈ placeL
      · rw [decide_eq_true p1]
        exact iteF (q _ _ (Same.refl H) (.inl ⟨by unfold rowB; rw [decide_eq_true k1, decide_eq_true s1, decide_eq_true d1, decide_eq_true p1, decide_eq_false e]; rfl, rfl⟩))
      · rw [decide_eq_false p1]
        exact iteT (bad _ _ (Same.refl H) (by unfold rowB; rw [decide_eq_false p1]; simp))
theorem at_n {us : List V} {n : Nat} {u : V} (h : us[n]? = some u) : atI us (n : Int) = some u := by
  have l := (List.getElem?_eq_some_iff.mp h).1
  show (ixN us.length (n : Int)).bind (fun j => us[j]?) = _
  have e : ixN us.length (n : Int) = some n := by
    unfold ixN
    rw [if_pos (by omega), if_pos (by omega)]
    rfl
  rw [e]
  exact h
theorem take4 {α : Type} {l : List α} (h : l.length = 4) : ∃ a b c d, l = [a, b, c, d] := by
  match l, h with
  | [a, b, c, d], _ => exact ⟨a, b, c, d, rfl⟩
theorem rowW_ne {l : List Str} (h : l.length ≠ 4) : rowW l = none := by
  match l, h with
  | [], _ => rfl
  | [_], _ => rfl
  | [_, _], _ => rfl
  | [_, _, _], _ => rfl
  | [_, _, _, _], h => exact absurd rfl h
  | _ :: _ :: _ :: _ :: _ :: _, _ => rfl
theorem ok_readRow {f : Addr} {c : Rc} {fd : FuncData} (F : Fun K "read_row" "read_row" sReadRow f fd) (zl : mg "len" = none) (cW : Cal P w K mg base CX0 "wrong_word" 1 ["kind", "state", "deed", "place"] spWordA) (M : MkR P w K mg base "Let" ["self", "kind", "state", "deed", "place"] c.L 3 (spLInit c)) :
    FnOk P w K mg base CX0 5 f fd ["text"] (spReadRow c) := by
  obtain ⟨fW, fdW, GW, mW, kW, bW⟩ := cW
  obtain ⟨f1, fd1, G1, M1, b1⟩ := M.ini
  refine F.ok scReadRow (fun vs H Q E h => ?_) (fun cdv A outer s H vs Q E hr h => ?_)
  · obtain ⟨x, rfl, _⟩ := h
    rfl
  · obtain ⟨x, rfl, n, q0, q1⟩ := h
    refine ⟨_, pss_cons (ps_set (i := 1) scReadRow.nd rfl (Or.inl rfl) (pe_split (pv 0) pe_str))
      (pss_cons (ps_if (pt_cmpR op_ne (pe_callB call_len_seq (by rfl) zl PySem.boot_len (pa_cons (pv 1) pa_nil)) pe_int (nomark _)) (pss_one (ps_ret pe_non)) pss_nil)
      (pss_cons (ps_asg (pv 1) (pg_lst rfl (pgs_cons (pg_name (i := 2) scReadRow.nd rfl (Or.inl rfl)) (pgs_cons (pg_name (i := 3) scReadRow.nd rfl (Or.inl rfl)) (pgs_cons (pg_name (i := 4) scReadRow.nd rfl (Or.inl rfl)) (pgs_cons (pg_name (i := 5) scReadRow.nd rfl (Or.inl rfl)) pgs_nil))))))
      (pss_one (ps_ret (pe_ifExp (pt_cmpR op_isN (pe_call GW (hr.mono (by decide)) rfl mW kW bW .nil pass0 (pa_cons (pv 2) (pa_cons (pv 3) (pa_cons (pv 4) (pa_cons (pv 5) pa_nil))))) pe_non (nomark _))
        (pe_make (E := E0) M1 G1 hr rfl M.g b1 .nil pass0 (pa_cons (pv 2) (pa_cons (pv 3) (pa_cons (pv 4) (pa_cons (pv 5) pa_nil))))) pe_non))))), ?_⟩
    refine ⟨_, rfl, ⟨_, rfl⟩, x, sp1, rfl, rfl, by decide +kernel, Nat.le_trans (Nat.add_le_add_right n 2) (by decide), fun p np => ?_⟩
    have s1 : Same H (upd H p (.lst ((Txt.split x sp1).map V.str))) := Same.new np
    have hp : upd H p (.lst ((Txt.split x sp1).map V.str)) p = some (.lst ((Txt.split x sp1).map V.str)) := upd_same
    generalize upd H p (.lst ((Txt.split x sp1).map V.str)) = H1 at s1 hp ⊢
    refine ⟨_, rfl, p, _, rfl, .inl (SqL.of hp), rfl, _, rfl, ?_⟩
    rw [List.length_map]
    by_cases l4 : (Txt.split x sp1).length = 4
    · have e : decide (V.int ((Txt.split x sp1).length : Int) = V.int 4) = true := decide_eq_true (by rw [l4]; rfl)
      rw [e]
      obtain ⟨k, st, d, pl, ew⟩ := take4 l4
      rw [ew] at hp
      refine iteF ⟨_, rfl, p, _, rfl, SqL.of hp, rfl, _, _, rfl, _, _, rfl, _, _, rfl, _, _, rfl, rfl, ?_⟩
      refine ⟨_, rfl, _, rfl, _, rfl, _, rfl, k, st, d, pl, rfl, fun v H2 s2 hv => ?_⟩
      have er : rowOf x = if rowB k st d pl = true then some (.lt k st d pl) else none := by
        unfold rowOf
        rw [ew]
        rfl
      rcases hv with ⟨eb, rfl⟩ | ⟨eb, z, rfl⟩
      · rw [if_pos eb] at er
        refine ⟨rfl, _, rfl, iteT ?_⟩
        refine ⟨_, rfl, _, rfl, _, rfl, _, rfl, fun y dy ny ndy ne => ?_⟩
        exact mk_let (rowB_iff.mp eb) ny ndy fun H' s' a => ⟨rfl, q1 _ er _ _ ((s1.trans s2).trans s') a⟩
      · rw [if_neg (by rw [eb]; exact Bool.false_ne_true)] at er
        refine ⟨rfl, _, rfl, iteF ?_⟩
        exact q0 er _ (s1.trans s2)
    · have e : decide (V.int ((Txt.split x sp1).length : Int) = V.int 4) = false := decide_eq_false (fun z => l4 (by injection z with z; omega))
      rw [e]
      exact iteT (q0 (rowW_ne l4) _ s1)
theorem ok_stand {f : Addr} {c : Rc} {fd : FuncData} (F : Fun K "can_stand" "can_stand" sStand f fd) (X : HsT K mg CA EA) (L : HsL K mg EA LA) (cR : Cal P w K mg base CX0 "read_row" 5 ["text"] (spReadRow c)) : FnOk P w K mg base CX0 6 f fd ["line", "at"] spStand := by
  obtain ⟨fR, fdR, GR, mR, kR, bR⟩ := cR
  refine F.ok scStand (fun vs H Q E h => ?_) (fun cdv A outer s H vs Q E hr h => ?_)
  · obtain ⟨x, j, rfl, _⟩ := h
    rfl
  · obtain ⟨x, j, rfl, n, k⟩ := h
    refine ⟨_, pss_cons (ps_if (pt_cmpR op_eq (pv 1) pe_int (nomark _)) (pss_one (ps_ret (pe_cmpR op_in_seq (pv 0) (pe_glob (v := .ref EA) rfl X.depths rfl) rfl))) pss_nil)
      (pss_cons (ps_if (pt_cmpR op_eq (pv 1) pe_int (nomark _)) (pss_one (ps_ret (pe_cmpR op_in_seq (pv 0) (pe_glob (v := .ref LA) rfl L.lines rfl) rfl))) pss_nil)
      (pss_one (ps_ret (pe_cmpR op_notN (pe_call GR hr rfl mR kR bR .nil pass0 (pa_cons (pv 0) pa_nil)) pe_non (nomark _))))), ?_⟩
    have hk := k
    unfold standB at hk
    refine ⟨_, rfl, rfl, _, rfl, ?_⟩
    by_cases j0 : j = 0
    · subst j0
      rw [show decide (V.int ((0 : Nat) : Int) = V.int 0) = true from decide_eq_true rfl]
      refine iteT ⟨_, rfl, EA, _, rfl, .inr (X.tD _), rfl, flat_strs _, ?_⟩
      rw [inV_str]
      exact hk H (Same.refl H)
    · rw [show decide (V.int ((j : Nat) : Int) = V.int 0) = false from decide_eq_false (fun z => j0 (by injection z with z; omega))]
      refine iteF ⟨_, rfl, rfl, _, rfl, ?_⟩
      rw [if_neg j0] at hk
      by_cases j1 : j = 1
      · subst j1
        rw [show decide (V.int ((1 : Nat) : Int) = V.int 1) = true from decide_eq_true rfl]
        refine iteT ⟨_, rfl, LA, _, rfl, .inr (L.tL _), rfl, flat_strs _, ?_⟩
        rw [inV_str]
        exact hk H (Same.refl H)
      · rw [show decide (V.int ((j : Nat) : Int) = V.int 1) = false from decide_eq_false (fun z => j1 (by injection z with z; omega))]
        rw [if_neg j1] at hk
        refine iteF ⟨_, rfl, x, rfl, n, fun e H' s' => ⟨rfl, ?_⟩, fun m e y H' s' hy => ?_⟩
        · rw [e] at hk
          exact hk H' s'
        · obtain ⟨z, dz, rfl, _⟩ := hy
          rw [e] at hk
          exact ⟨rfl, hk H' s'⟩
theorem ok_hsRead {f C CT : Addr} {c : Rc} {fd : FuncData} (F : Fun K "read" "House.read" sHsRead f fd) (T : BltK mg) (ze : mg "enumerate" = none) (X : HsT K mg CA EA) (L : HsL K mg EA LA) (M : MkH P w K mg base c C) (N : ItTxt P w K mg base CT)
    (cS : Cal P w K mg base CX0 "can_stand" 6 ["line", "at"] spStand) (cR : Cal P w K mg base CX0 "read_row" 5 ["text"] (spReadRow c)) : FnOk P w K mg base (L2.CX P w) 7 f fd ["cls", "text"] (spHsRead K c C CT) := by
  obtain ⟨fS, fdS, GS, mS, kS, bS⟩ := cS
  obtain ⟨fR, fdR, GR, mR, kR, bR⟩ := cR
  obtain ⟨fH, fdH, GH, MH, bH⟩ := M.ini
  obtain ⟨fI, fdI, GI, iI, tI, bI⟩ := N.ini
  refine F.okX scHsRead (fun vs H Q E h => ?_) (fun cdv A outer s H vs Q E hr h => ?_)
  · obtain ⟨t, rfl, _⟩ := h
    rfl
  · obtain ⟨t, rfl, n, ln, q0, q1⟩ := h
    refine ⟨_, pss_cons (ps_set (i := 2) scHsRead.nd rfl (Or.inl rfl) (pe_split (pv 1) pe_str))
      (pss_cons (ps_for (passes_of rfl) rfl (pi_enum (by rfl) ze (pa_cons (pv 2) pa_nil)) (pg_tup rfl (pgs_cons (pg_name (i := 3) scHsRead.nd rfl (Or.inl rfl)) (pgs_cons (pg_name (i := 4) scHsRead.nd rfl (Or.inl rfl)) pgs_nil)))
        (pss_one (ps_if (pt_not (pt_val (pe_call GS hr rfl mS kS bS .nil pass0 (pa_cons (pv 4) (pa_cons (pv 3) pa_nil))))) (pss_one (ps_raise rfl (takes_of rfl rfl rfl rfl) (pmk_oex N.o iI tI GI (hr.mono (by decide)) bI .nil pass0 rfl N.g (by exact (pa_cons (pv 3) pa_nil))))) pss_nil)))
      (pss_cons (ps_if (pt_cmpR op_lt (pe_callB call_len_seq (by rfl) T.len PySem.boot_len (pa_cons (pv 2) pa_nil)) pe_int (nomark _)) (pss_one (ps_raise rfl (takes_of rfl rfl rfl rfl) (pmk_oex N.o iI tI GI (hr.mono (by decide)) bI .nil pass0 rfl N.g (by exact (pa_cons (pe_callB call_len_seq (by rfl) T.len PySem.boot_len (pa_cons (pv 2) pa_nil)) pa_nil))))) pss_nil)
      (pss_cons (ps_setLc (i := 5) (own := [("line", 4)]) (g := gName 4) (tt := tYes) (te := tCall (spReadRow c) [] E0 (tCons (tVar 4) tNil)) (by rfl) scHsRead.nd rfl rfl (sw_true rfl rfl rfl (by decide +kernel)) (pi_list (pe_slice sl_list (pv 2) (po_some pe_int) po_none))
          (blkOk_by (own := [("line", 4)]) (N := ["cls", "text", "lines", "at", "line", "rows"]) (sc := defScope sHsRead) (by decide +kernel)) (fun _ _ _ _ _ => pg_name (i := 4) scHsRead.nd rfl (Or.inl rfl)) (fun _ _ _ _ _ => pts_nil)
          (fun _ _ _ _ _ => pe_call GR (hr.mono (by decide)) rfl mR kR bR .nil pass0 (pa_cons (pv 4) pa_nil)))
      (pss_one (ps_ret (pe_makeL (E := E0) (i := 0) MH GH (hr.mono (by decide)) rfl (Or.inl rfl) bH .nil pass0 (pa_cons (pe_bm PySem.F.plainAttrs_tuple PySem.F.slot_tuple_index PySem.F.type_tuple_index mt_tup_index (pe_glob (v := .ref EA) rfl X.depths rfl) (pa_cons (pe_ix ix_list (pv 2) pe_int (fun _ _ => rfl)) pa_nil))
        (pa_cons (pe_ix ix_tup (pe_glob (v := .ref CA) rfl X.checks rfl) (pe_bm PySem.F.plainAttrs_tuple PySem.F.slot_tuple_index PySem.F.type_tuple_index mt_tup_index (pe_glob (v := .ref LA) rfl L.lines rfl) (pa_cons (pe_ix ix_list (pv 2) pe_int (fun _ _ => rfl)) pa_nil)) (fun _ _ => rfl)) (pa_cons (pv 5) pa_nil))))))))), ?_⟩
    have wl : ∀ x ∈ Txt.split t nlS, x.length ≤ 100000 := fun x hx => by
      have a := wgt_mem hx
      have b := wgt_split t nlS (by decide +kernel)
      omega
    refine ⟨_, rfl, ⟨_, rfl⟩, t, nlS, rfl, rfl, by decide +kernel, Nat.le_trans (Nat.add_le_add_right n 2) (by decide), fun p np => ?_⟩
    generalize Txt.split t nlS = LL at ln q0 q1 wl np ⊢
    have s1 : Same H (upd H p (.lst (LL.map V.str))) := Same.new np
    have hp : upd H p (.lst (LL.map V.str)) p = some (.lst (LL.map V.str)) := upd_same
    generalize upd H p (.lst (LL.map V.str)) = H1 at s1 hp ⊢
    refine ⟨_, rfl, p, _, rfl, SqL.of hp, ?_⟩
    have lm : (LL.map V.str).length = LL.length := List.length_map ..
    refine for_it (walk_enum (K := K) (a := p) (xs := LL.map V.str)) (fun i σ Hh => (∃ o3 o4 o5, σ = [some (.ref C), some (.str t), some (.ref p), o3, o4, o5]) ∧ Same H1 Hh ∧ badFrom 0 LL = badFrom i (LL.drop i)) ⟨⟨_, _, _, rfl⟩, Same.refl _, rfl⟩ (fun i σ Hh _ q => SqL.of (q.2.1 _ _ hp)) ?_ ?_
    · rintro i v σ1 Hh Hh' hi ⟨⟨o3, o4, o5, rfl⟩, s2, bf⟩ ⟨T, x, y, rfl, nT, rfl, ex, ey⟩
      obtain rfl := (Option.some.inj ex)
      rw [lm] at hi
      have hx : LL[i]? = some LL[i] := List.getElem?_eq_getElem hi
      have ey2 : y = .str LL[i] := by
        dsimp only at ey
        rw [List.getElem?_map, hx] at ey
        exact (Option.some.inj ey).symm
      subst ey2
      refine ⟨T, _, rfl, SqT.of upd_same, rfl, _, _, rfl, ⟨_, _, rfl, rfl, ?_⟩⟩
      have sT : Same Hh (upd Hh T (.tup [.int (i : Nat), .str LL[i]])) := Same.new nT
      generalize upd Hh T (.tup [.int (i : Nat), .str LL[i]]) = H3 at sT ⊢
      refine ⟨_, rfl, _, rfl, _, i, rfl, wl _ (List.getElem_mem hi), fun H4 s4 => ⟨_, rfl, ?_⟩⟩
      have S4 := (s2.trans sT).trans s4
      have bf0 : badFrom 0 LL = badFrom (0 + i) (LL.drop i) := by rw [Nat.zero_add]; exact bf
      cases e : standB i LL[i] with
      | true =>
        refine iteF ⟨⟨_, _, _, rfl⟩, S4, ?_⟩
        have z := badFrom_step bf0 hx (by rw [Nat.zero_add]; exact e)
        rw [Nat.zero_add] at z
        exact z
      | false =>
        have z := badFrom_hit bf0 hx (by rw [Nat.zero_add]; exact e)
        rw [Nat.zero_add] at z
        have zz : badLine LL = some i := by
          unfold badLine
          rw [z]
        exact iteT ⟨_, rfl, (by show 1 ≤ 1000; decide), er_readI (fun d H2 s5 hd => q1 i zz d H2 ((s1.trans S4).trans s5) hd)⟩
    · rintro σ1 H2 ⟨⟨o3, o4, o5, rfl⟩, s2, bf⟩
      rw [lm, List.drop_length] at bf
      have bf : badFrom 0 LL = none := bf
      have hp2 := s2 _ _ hp
      refine ⟨_, rfl, p, _, rfl, .inl (SqL.of hp2), _, _, rfl, rfl, _, rfl, ?_⟩
      rw [lm]
      by_cases l2 : LL.length < 2
      · rw [decide_eq_true (show (LL.length : Int) < 2 by omega)]
        have zz : badLine LL = some LL.length := by
          unfold badLine
          rw [bf]
          show (if LL.length < 2 then some LL.length else none) = _
          rw [if_pos l2]
        refine iteT ⟨_, rfl, p, _, rfl, .inl (SqL.of hp2), (by show 1 ≤ 1000; decide), ?_⟩
        rw [lm]
        exact er_readI (fun d H3 s5 hd => q1 _ zz d H3 ((s1.trans s2).trans s5) hd)
      · rw [decide_eq_false (show ¬ (LL.length : Int) < 2 by omega)]
        have zz : badLine LL = none := by
          unfold badLine
          rw [bf]
          show (if LL.length < 2 then some LL.length else none) = _
          rw [if_neg l2]
        obtain ⟨g, j, i, a, b, go, gl, gd, ea, eb, da, dn, cb, cn, cc, rw_⟩ := house_of zz ln
        refine iteF ⟨_, rfl, 2, rfl, p, _, rfl, SqL.of hp2, fun p2 np2 => ?_⟩
        have ec : cutV (LL.map V.str) (some 2) none = (LL.drop 2).map V.str := by
          have z := cutA_from (LL.map V.str) 2
          rw [List.map_drop]
          exact z
        rw [ec]
        have s3 : Same H2 (upd H2 p2 (.lst ((LL.drop 2).map V.str))) := Same.new np2
        have hp3 := s3 _ _ hp2
        have h2 : upd H2 p2 (.lst ((LL.drop 2).map V.str)) p2 = some (.lst ((LL.drop 2).map V.str)) := upd_same
        generalize upd H2 p2 (.lst ((LL.drop 2).map V.str)) = H3 at s3 hp3 h2 ⊢
        have lr : (LL.drop 2).length = g.rs.length := by
          have z := congrArg List.length rw_
          rw [List.length_map, List.length_map] at z
          exact z
        refine ⟨p2, rfl, ⟨_, SqL.of h2⟩, fun D nD => ?_⟩
        refine lc_list (K := K) (a := p2) (xs := (LL.drop 2).map V.str) (fun i Hh => Same H3 Hh ∧ H3 D = none ∧ ∃ acc, Hh D = some (.lst acc) ∧ RwLs c Hh acc (g.rs.take i)) ⟨Same.new nD, nD, [], upd_same, Ls.nil⟩ (fun i Hh _ q => SqL.of (q.1 _ _ h2)) ?_ ?_
        · rintro i z Hh hi ⟨s4, nD, acc, hD, ra⟩
          rw [List.getElem?_map] at hi
          obtain ⟨x, hx, rfl⟩ := Option.map_eq_some_iff.mp hi
          have er : ∃ m, g.rs[i]? = some m ∧ rowOf x = some m := by
            have z := congrArg (fun l => l[i]?) rw_
            rw [List.getElem?_map, List.getElem?_map, hx] at z
            cases em : g.rs[i]? with
            | none => rw [em] at z; cases z
            | some m =>
              rw [em] at z
              exact ⟨m, rfl, Option.some.inj z⟩
          obtain ⟨m, em, ex⟩ := er
          have xm : x ∈ LL := List.mem_of_mem_drop (List.mem_of_getElem? hx)
          have il : i < g.rs.length := (List.getElem?_eq_some_iff.mp em).1
          have rn := go.2.2.2.2
          refine ⟨rfl, ?_⟩
          unfold tYes
          dsimp only
          refine iteT ⟨_, rfl, x, rfl, wl _ xm, (fun e => by rw [ex] at e; cases e), fun m' e y H' s5 hy => ?_⟩
          rw [ex] at e
          obtain rfl := Option.some.inj e
          have hD5 := s5 _ _ hD
          have kl : Keep H' (upd H' D (.lst (acc ++ [y]))) := Keep.lst hD5
          refine ⟨acc, hD5, ?_, fun b o e => ?_, nD, _, upd_same, ?_⟩
          · have z1 : acc.length = (g.rs.take i).length := ra.1
            rw [List.length_take] at z1
            exact Nat.lt_of_lt_of_le (m := 101) (by omega) (by decide)
          · rw [upd_ne (ne_of_none e nD)]
            exact s5 b o (s4 b o e)
          · rw [take_nxt em]
            exact ((ra.same s5).keep kl).push (hy.keep kl)
        · rintro H4 ⟨s4, nD, acc, hD, ra⟩
          rw [List.length_map, lr, List.take_length] at ra
          have hp4 := s4 _ _ hp3
          have at0 : atI (LL.map V.str) 0 = some (.str a) := at_n (us := LL.map V.str) (n := 0) (by rw [List.getElem?_map, ea]; rfl)
          have at1 : atI (LL.map V.str) 1 = some (.str b) := at_n (us := LL.map V.str) (n := 1) (by rw [List.getElem?_map, eb]; rfl)
          have atc : atI (checkL.map V.str) (i : Int) = some (.str g.ch) := at_n (by rw [List.getElem?_map, cc]; rfl)
          refine ⟨rfl, .inr (.inl ⟨rfl, L.oE⟩), _, rfl, p, _, 0, _, rfl, rfl, SqL.of hp4, at0, EA, depthL, a, j, rfl, rfl, X.tD _, da, dn, .inr (.inl ⟨rfl, L.oL⟩), _, rfl, p, _, 1, _, rfl, rfl, SqL.of hp4, at1, LA, checkLn, b, i, rfl, rfl, L.tL _, cb, cn, CA, _, (i : Int), _, rfl, rfl, X.tC _, atc, _, rfl, fun y dy ny ndy _ => ?_⟩
          have z := mk_house (K := K) (c := c) (C := C) (h := g) (R := fun v H' => v = .non ∧ Q (.ref y) H') (E := E0) hD ra go ny ndy fun H' s' a => ⟨rfl, q0 zz g go gl _ _ ((((s1.trans s2).trans s3).trans s4).trans s') a⟩
          rw [gd] at z
          exact z
end
end V3

set_option Elab.async false
set_option linter.all false
set_option maxRecDepth 100000
/-! House.read of the text of a house, answered -/
namespace V3
open PySem L2 TL
/-- a text of so many lines, of such weight -/
def Tx (t : Str) (n w : Nat) : Prop := ∃ L : List Str, L ≠ [] ∧ (∀ x ∈ L, 10 ∉ tl x) ∧ t = Str.join nlS L ∧ L.length ≤ n ∧ wgt L ≤ w
theorem Tx.split {t : Str} {n w : Nat} (h : Tx t n w) : Txt.split t nlS ≠ [] ∧ (∀ x ∈ Txt.split t nlS, 10 ∉ tl x) ∧ t = Str.join nlS (Txt.split t nlS) ∧ (Txt.split t nlS).length ≤ n ∧ wgt (Txt.split t nlS) ≤ w ∧ t.length ≤ w := by
  obtain ⟨L, ne, fr, rfl, hn, hw⟩ := h
  rw [split_lines ne fr]
  exact ⟨ne, fr, rfl, hn, hw, Nat.le_trans (len_join1 (by decide +kernel) L) hw⟩
theorem tx_house {g : Hs} (ok : g.ok) : Tx g.text (g.rs.length + 2) 4000 := by
  refine ⟨g.lines, by simp [Hs.lines], lines_no10 ok, rfl, by simp [Hs.lines], ?_⟩
  have a := sum_le g.lines (lines_len ok)
  have b := lines_n ok
  unfold wgt
  omega
/-- House.read, as it stands in a class -/
structure HsRd (P : Program) (w : World) (K : PySem.W.Frag) (mg : Str → Option Value) (base : Heap) (c : Rc) (C CT : Addr) : Prop where
  g : mg "House" = some (.ref C)
  r : ∃ (mc : Value) (p f : Addr) (fd : FuncData), ClX.CRead K C mc ∧ ClX.CMet K C mc "read" p f ∧ FnOk P w K mg base (L2.CX P w) 7 f fd ["cls", "text"] (spHsRead K c C CT) ∧ Binds K fd ["cls", "text"] []
section
variable {K : PySem.W.Frag} {c : Rc} {C CT : Addr} {σ : L2.St} {ta : TE} {H0 : Hp}
/-- House.read of the text of a house -/
theorem ev_read {h : Hs} (ok : h.ok) (ha : EvV (Same H0) σ ta (isSv h.text)) : EvV (Same H0) σ (tCMethA C (spHsRead K c C CT) (fun _ => E0) (tC (.ref C)) (tCons ta tNil)) (HsA K c C h) := fun H Q w k =>
  ⟨rfl, ha H _ w fun v H1 s1 w1 e => by
    cases e
    have z := lines_n ok
    have tl_ := (tx_house ok).split.2.2.2.2.2
    refine ⟨h.text, rfl, by omega, by rw [text_split ok]; exact z, fun _ g go gl x H' s' hx => ?_, fun i e => ?_⟩
    · rw [text_split ok] at gl
      have eg := lines_inj go ok gl
      subst eg
      exact k x H' (s1.trans s') (w1.trans s') hx
    · rw [text_split ok, lines_ok ok] at e
      cases e⟩
end
end V3

set_option Elab.async false
set_option linter.all false
set_option maxRecDepth 100000
/-! histories read, books played, answered -/
namespace V3
open PySem L2 TL
theorem do_app {h : Hs} {b b' : Bk} {m : Mv} (e : doB h b m = some b') : (∃ fs, b'.es = b.es ++ fs) ∧ b'.m ≤ b.m + 1 := by
  by_cases k : m.kind = 3
  · cases m with
    | shut =>
      cases (show some (Bk.mk b.es (b.m + 1)) = some b' from e)
      exact ⟨⟨[], (List.append_nil _).symm⟩, Int.le_refl _⟩
    | beg a => cases k
    | take t => cases k
    | takeBy t a => cases k
    | right t a => cases k
  · rw [doB_eq k] at e
    obtain ⟨fs, _, rfl⟩ := Option.map_eq_some_iff.mp e
    exact ⟨⟨fs, rfl⟩, by show b.m ≤ b.m + 1; omega⟩
theorem play_app {h : Hs} : ∀ {ms : List Mv} {b b' : Bk}, playB h b ms = some b' → (∃ fs, b'.es = b.es ++ fs) ∧ b'.m ≤ b.m + (ms.length : Int)
  | [], b, b', e => by
    cases (show some b = some b' from e)
    exact ⟨⟨[], (List.append_nil _).symm⟩, by simp⟩
  | m :: r, b, b', e => by
    have e : (match doB h b m with
      | none => none
      | some b' => playB h b' r) = some b' := e
    cases d : doB h b m with
    | none => rw [d] at e; cases e
    | some b1 =>
      rw [d] at e
      obtain ⟨⟨fs, q⟩, m1⟩ := do_app d
      obtain ⟨⟨gs, q2⟩, m2⟩ := play_app (ms := r) e
      refine ⟨⟨fs ++ gs, by rw [q2, q, List.append_assoc]⟩, ?_⟩
      simp only [List.length_cons]
      omega
theorem play_split {h : Hs} : ∀ {ms ns : List Mv} {b : Bk}, playB h b (ms ++ ns) = (playB h b ms).bind fun b' => playB h b' ns
  | [], ns, b => rfl
  | m :: r, ns, b => by
    show (match doB h b m with
      | none => none
      | some b' => playB h b' (r ++ ns)) = (match doB h b m with
      | none => none
      | some b' => playB h b' r).bind _
    cases doB h b m with
    | none => rfl
    | some b1 => exact play_split
/-- a part of what is let is let -/
theorem play_take {h : Hs} {ms : List Mv} {b b' : Bk} (e : playB h b ms = some b') (i : Nat) : ∃ b1, playB h b (ms.take i) = some b1 ∧ playB h b1 (ms.drop i) = some b' := by
  have z : playB h b (ms.take i ++ ms.drop i) = some b' := by rw [List.take_append_drop]; exact e
  rw [play_split] at z
  exact Option.bind_eq_some_iff.mp z
/-- a history whose moves are these -/
def HiA (K : PySem.W.Frag) (cm : Cl) (ms : List Mv) : V → Hp → Prop := fun v H => HiK K cm H v ms
instance {K : PySem.W.Frag} {cm : Cl} {ms : List Mv} : St (HiA K cm ms) := ⟨fun _ _ _ s a => a.same s⟩
/-- History.read, as it stands in a class -/
structure HiRd (P : Program) (w : World) (K : PySem.W.Frag) (mg : Str → Option Value) (base : Heap) (cm : Cl) : Prop where
  g : mg "History" = some (.ref cm.Hi)
  r : ∃ (mc : Value) (p f : Addr) (fd : FuncData), ClX.CRead K cm.Hi mc ∧ ClX.CMet K cm.Hi mc "read" p f ∧ FnOk P w K mg base CX0 9 f fd ["cls", "text"] (spRead cm) ∧ Binds K fd ["cls", "text"] []
section
variable {K : PySem.W.Frag} {c : Rc} {cm : Cl} {CH CE CB CR : Addr} {σ : L2.St} {ta tb te : TE} {t u : TT} {H0 : Hp} {h : Hs} {b : Bk} {ms : List Mv}
theorem ev_isTupU {α : Type} {S : α → V → Hp → Prop} {as : List α} (ha : EvV (Same H0) σ ta (isU S as)) : EvV (Same H0) σ (tCB (rIsi K) (tCons ta (tCons (tC (.ty "tuple")) tNil))) (isBv true) := fun H Q w k =>
  ha H _ w fun v H1 s1 w1 ⟨D, us, e, hD, l⟩ => by
    subst e
    exact ⟨_, _, _, _, _, rfl, .ty "tuple", .base (.tup hD), (show PySem.W.kitOne K (.type "tuple") (.type "tuple") = some true from kit_ty (by decide +kernel)), k _ H1 s1 w1 rfl⟩
theorem ev_hread (mo : ∀ m ∈ ms, m.ok) (n : ms.length ≤ 1000) (ha : EvV (Same H0) σ ta (isSv (hText ms))) : EvV (Same H0) σ (tCMethA cm.Hi (spRead cm) (fun _ => E0) (tC (.ref cm.Hi)) (tCons ta tNil)) (HiA K cm ms) := fun H Q w k =>
  ⟨rfl, ha H _ w fun v H1 s1 w1 e => by
    cases e
    exact ⟨ms, rfl, mo, n, fun x H' s' hx => k x H' (s1.trans s') (w1.trans s') (HiK.of hx)⟩⟩
theorem ev_play (ok : h.ok) (mo : ∀ m ∈ ms, m.ok) (n : ms.length ≤ 400) (e : playB h b0 ms = some b) (h1 : EvV (Same H0) σ ta (HsA K c CH h)) (h2 : EvV (Same H0) σ tb (HiA K cm ms)) : EvV (Same H0) σ (tCall (spPlay K c cm CH CE CB CR) [] E0 (tCons ta (tCons tb tNil))) (BkA CE CB b) :=
  ev_call (eva_cons h1 (eva_cons h2 eva_nil)) fun vs H Q _ r k => by
    obtain ⟨v1, r, rfl, e1, v2, r, rfl, e2, rfl⟩ := r
    refine ⟨v1, v2, h, ms, rfl, e1, e2, ok, mo, n, fun b1 q u H' s ru => ?_, fun i q => ?_⟩
    · rw [e] at q
      cases q
      exact k u H' s ru
    · rw [bad_none_of e] at q
      cases q
theorem ev_booksL (ok : h.ok) (mo : ∀ m ∈ ms, m.ok) (n : ms.length ≤ 200) (h1 : EvV (Same H0) σ ta (HtA h)) (h2 : EvV (Same H0) σ tb (isL TmA ms)) : EvV (Same H0) σ (tCall spBooksL [] E0 (tCons ta (tCons tb tNil))) (isL LBk (booksB h b0 ms)) :=
  ev_call (eva_cons h1 (eva_cons h2 eva_nil)) fun vs H Q _ r k => by
    obtain ⟨v1, r, rfl, e1, v2, r, rfl, e2, rfl⟩ := r
    exact ⟨v1, v2, h, ms, rfl, e1, e2, ok, mo, n, fun D us H' _ s hD l => k _ H' s ⟨D, us, rfl, hD, l⟩⟩
/-- the moves of a drawn history up to one -/
theorem ev_upTo {i : Nat} (ha : EvV (Same H0) σ ta (isL TmA ms)) (hb : EvV (Same H0) σ tb (isIv (i : Int))) : EvV (Same H0) σ (tSl (rSlL K) ta tNoPart (tPart tb)) (isL TmA (ms.take i)) := by
  have z := (evn_cut (K := K) (lo := none) (hi := some (i : Int)) ha evo_none (evo_some hb)).ev
  rw [cutA_to] at z
  exact z
variable {bx : Addr}
theorem evpb_and (h1 : EvPB bx H0 σ t) (h2 : EvPB bx H0 σ u) : EvPB bx H0 σ (tAnd t u) := fun H Q p k => h1 H _ p fun r H1 p1 => by
  cases r with
  | true => exact iteT (h2 H1 _ (p.trans p1) fun r2 H2 p2 => k r2 H2 (p1.trans p2))
  | false => exact iteF (k false H1 p1)
/-- a number and a number drawn -/
theorem evp_addc {m d : Int} (h : EvP bx H0 σ te (isWh fun x => 0 ≤ x ∧ x < m)) : EvP bx H0 σ (tOp (rI0 fun i j => .int (i + j)) (tC (.int d)) te) (isWh fun a => d ≤ a ∧ a < d + m) := fun H Q p k =>
  h H _ p fun v H1 p1 ⟨x, e, d0, d1⟩ => by
    cases e
    exact ⟨d, x, rfl, rfl, k _ _ p1 ⟨d + x, rfl, by omega, by omega⟩⟩
theorem evpb_pure {q : Bool} (h : ∀ H, Pre bx H0 H → EvB (Same H) σ t q) : EvPB bx H0 σ t := fun H Q p k => h H p H Q (Same.refl H) fun H1 s1 _ => k q H1 (p.same s1)
end
theorem books_at {h : Hs} {ms : List Mv} {b b' : Bk} (e : playB h b ms = some b') {i : Nat} (hi : i ≤ ms.length) {b1 : Bk} (e1 : playB h b (ms.take i) = some b1) : (booksB h b ms)[i]? = some b1 := by
  obtain ⟨bs, l, q, _⟩ := books_cut hi e1
  have z : ∀ ns : List Mv, (booksB h b1 ns)[0]? = some b1 := fun ns => by cases ns <;> rfl
  rw [q, List.getElem?_append_right (by omega), l, Nat.sub_self]
  exact z _
end V3

set_option Elab.async false
set_option linter.all false
set_option maxRecDepth 100000
/-! drawn histories have a move: BL5's two readings, told more -/
namespace V3
open PySem L2 TL
def spMoveN : Sp := fun vs H Q _ => ∃ (b : Addr) (bv : V) (u v : Int) (bk : Bk), vs = [.ref b, bv] ∧ H b = some (box u v) ∧ BoxOk u v ∧ LBk bk bv H ∧ Wf bk ∧ bk.es.length ≤ 900 ∧ sN bk.es ≤ 1000000000000000000000000000000000000 ∧
  ∀ m x H', Pre b H H' → Mv.ok m → Small bk m → (bk.es = [] → ∃ a, m = .beg a) → TmA m x H' → Q x H'
def spHistN : Sp := fun vs H Q _ => ∃ (b : Addr) (hv : V) (u v n : Int) (h : Hs), vs = [.ref b, hv, .int n] ∧ H b = some (box u v) ∧ BoxOk u v ∧ HtA h hv H ∧ h.ok ∧ 0 ≤ n ∧ n ≤ 60 ∧
  ∀ D us ms b' H', H D = none → Pre b H H' → H' D = some (.lst us) → Ls (fun u m => TmA m u H') us ms → (∀ m ∈ ms, Mv.ok m) → (ms.length : Int) ≤ n → playB h b0 ms = some b' → sN b'.es ≤ 1000000 * 2 ^ ms.length → (1 ≤ n → ms ≠ []) → Q (.ref D) H'
section
variable {P : Program} {w : World} {K : PySem.W.Frag} {mg : Str → Option Value} {base : Heap}
theorem ok_drawnN {f : Addr} {fd : FuncData} (F : Fun K "_law_drawn_move" "_law_drawn_move" sDrawn f fd) (T : BltV mg) (cC : CalCho P w K mg base) (cL : Cal P w K mg base CX0 "_law_lefts" 1 ["_law_book"] spLefts) : FnOk P w K mg base CX0 2 f fd ["_law_box", "_law_book"] spMoveN := by
  obtain ⟨fC, fdC, GC, mC, kC, bC⟩ := cC
  obtain ⟨fL, fdL, GL, mL, kL, bL⟩ := cL
  refine F.ok scDrawn (fun vs H Q E h => ?_) (fun cdv A outer s H vs Q E hr h => ?_)
  · obtain ⟨b, bv, u, v, bk, rfl, _⟩ := h
    rfl
  · obtain ⟨b, bv, u, v, bk, rfl, hb, ok, hk, wf, n, sm, k⟩ := h
    refine ⟨_, (pss_cons (ps_par (i := 2) (j := 3) rfl scDrawn.nd rfl rfl (by decide) rfl rfl (pa_cons (pe_call GC hr rfl mC kC bC .nil pass0 (pa_cons (pv 0) (pa_cons pe_int pa_nil))) (pa_cons (pe_callB call_len_seq (by rfl) T.len PySem.boot_len (pa_cons (pe_ix ix_tup (pv 1) pe_int (fun _ _ => rfl)) pa_nil)) pa_nil)) (by rfl))
  (pss_cons (ps_if (PW.pt (pw_or (pt_cmpR op_lt (pv 2) pe_int (nomark _)) (pw_or1 (pt_cmpR op_eq (pv 3) pe_int (nomark _))))) (pss_one (ps_ret (pe_tup (pa_cons pe_str (pa_cons (pe_op op_add pe_int (pe_call GC hr rfl mC kC bC .nil pass0 (pa_cons (pv 0) (pa_cons (pe_ix ix_list (pe_lst (pa_cons pe_int (pa_cons pe_int (pa_cons (pe_op op_pow pe_int pe_int) pa_nil)))) (pe_call GC hr rfl mC kC bC .nil pass0 (pa_cons (pv 0) (pa_cons pe_int pa_nil))) (fun _ _ => rfl)) pa_nil)))) pa_nil))))) pss_nil)
  (pss_cons (ps_if (pt_cmpR op_eq (pv 2) pe_int (nomark _)) (pss_one (ps_ret (pe_tup (pa_cons pe_str pa_nil)))) pss_nil)
  (pss_cons (ps_set (i := 4) scDrawn.nd rfl (Or.inl rfl) (pe_ifExp (pt_cmpR op_eq (pe_call GC hr rfl mC kC bC .nil pass0 (pa_cons (pv 0) (pa_cons pe_int pa_nil))) pe_int (nomark _)) (pe_call GC hr rfl mC kC bC .nil pass0 (pa_cons (pv 0) (pa_cons (pv 3) pa_nil))) (pe_op op_sub (pv 3) pe_int)))
  (pss_cons (ps_if (pt_cmpR op_eq (pv 2) pe_int (nomark _)) (pss_one (ps_ret (pe_tup (pa_cons pe_str (pa_cons (pv 4) (pa_cons (pe_op op_add pe_int (pe_call GC hr rfl mC kC bC .nil pass0 (pa_cons (pv 0) (pa_cons pe_int pa_nil)))) pa_nil)))))) pss_nil)
  (pss_cons (ps_set (i := 5) scDrawn.nd rfl (Or.inl rfl) (pe_call GL hr rfl mL kL bL .nil pass0 (pa_cons (pv 1) pa_nil)))
  (pss_cons (ps_set (i := 6) scDrawn.nd rfl (Or.inl rfl) (pe_ifExp (pt_cmpR op_gt (pe_ix ix_list (pv 5) (pv 4) (fun _ _ => rfl)) pe_int (nomark _)) (pe_ix ix_list (pv 5) (pv 4) (fun _ _ => rfl)) pe_int))
  (pss_one (ps_ret (pe_tup (pa_cons pe_str (pa_cons (pv 4) (pa_cons (pe_ifExp (pt_cmpR op_lt (pv 2) pe_int (nomark _)) pe_int (pe_op op_add pe_int (pe_call GC hr rfl mC kC bC .nil pass0 (pa_cons (pv 0) (pa_cons (pv 6) pa_nil))))) pa_nil))))))))))))), ?_⟩
    have p0 : Pre b H H := Pre.start ok hb
    try dsimp only [gName, tSeq, tAsg]
    refine evp_choose (H0 := H) (i := 0) (m := 10) rfl (by decide) (by decide) (evp_pure fun _ _ => ev_int) H _ p0 fun v1 H1 p1 r1 => ?_
    obtain ⟨d, rfl, d0, d10⟩ := r1
    have hk1 := upP p0 p1 hk
    refine ev_lenU (H0 := H1) (ev_es (ev_v rfl hk1)) H1 _ (Same.refl _) fun v2 H2 s2 _ r2 => ?_
    cases r2
    have hk2 := up s2 hk1
    have p2 : Pre b H H2 := p1.then s2
    refine ⟨_, _, rfl, ?_⟩
    try dsimp only [gName, tSeq, tAsg, tNext]
    refine if_b (H0 := H2) (Same.refl _) (ev_orB (ev_test (ev_lt (i := d) (j := 2) (ev_v rfl rfl) ev_int)) (fun _ => ev_test (ev_eqi (i := (bk.es.length : Int)) (j := 0) (ev_v rfl rfl) ev_int))) (fun e H3 s3 => ?_) (fun e H3 s3 => ?_)
    · have p3 := p2.then s3
      refine evp_tm2 (H0 := H3) (P := fun a => 1 ≤ a ∧ a ≤ 1000000) (evp_succ (evp_chooseW rfl (by decide) fun H4 Q4 p4 k4 => ?_)) H3 _ p3.id fun v4 H4 p4 r4 => ?_
      · refine evp_o (Ra := isLb b isIv [3, 9, 10 ^ (6 : Int).toNat]) (Rb := isDr 3) (evp_lst (fun _ _ => evl_cons ev_int (evl_cons ev_int (evl_cons (ev_pow ⟨by decide, by decide, by decide⟩ ev_int ev_int) evl_nil))) (by decide)) (evp_choose rfl (by decide) (by decide) (evp_pure fun _ _ => ev_int)) (fun x y H5 Q5 p5 rx ry k5 => ?_) H4 Q4 p4 k4
        obtain ⟨D, us, rfl, _, hD, l⟩ := rx
        obtain ⟨y, rfl, y0, y3⟩ := ry
        have ly : y.toNat < us.length := by rw [l.1]; show y.toNat < 3; omega
        obtain ⟨a, ea, ra⟩ := Ls.get l (List.getElem?_eq_getElem ly)
        have p6 : (10 : Int) ^ (6 : Int).toNat = 1000000 := by decide
        rw [p6] at ea
        refine ⟨D, us, y, us[y.toNat], rfl, rfl, SqL.of hD, ?_, k5 _ _ p5.id ⟨a, ra, ?_⟩⟩
        · have e : ixN us.length y = some y.toNat := by
            unfold ixN
            rw [if_pos y0, if_pos (show y < (us.length : Int) by omega)]
          show (ixN us.length y).bind (fun j => us[j]?) = some us[y.toNat]
          rw [e]
          exact List.getElem?_eq_getElem ly
        · have hm := List.mem_of_getElem? ea
          simp only [List.mem_cons, List.not_mem_nil, or_false] at hm
          omega
      · obtain ⟨a, ⟨a1, a2⟩, q⟩ := r4
        exact k (.beg a) _ _ (p3.trans p4) ⟨a1, by omega⟩ a2 (fun _ => ⟨a, rfl⟩) q
    have p3 := p2.then s3
    have hk3 := up s3 hk2
    have e2 : ¬ (bk.es.length : Int) = 0 := fun q => by
      rw [decide_eq_true q, Bool.or_true] at e
      cases e
    have ne : bk.es ≠ [] := fun z => e2 (by rw [z]; rfl)
    refine if_b (H0 := H3) (Same.refl _) (ev_test (ev_eqi (i := d) (j := 2) (ev_v rfl rfl) ev_int)) (fun _ H4 s4 => ?_) (fun _ H4 s4 => ?_)
    · refine ⟨(by show 1 ≤ sizeLine; decide), fun D nD => ?_⟩
      exact k .shut _ _ ((p3.then s4).then (Same.new nD)) trivial trivial (fun z => absurd z ne) ⟨D, rfl, upd_same⟩
    have p4 := p3.then s4
    have hk4 := up s4 hk3
    try dsimp only [gName, tSeq, tAsg, tNext]
    refine evp_if (H0 := H4) (R := isWh fun a => 0 ≤ a ∧ a < (bk.es.length : Int)) (evpb_eq (evp_chooseW (m := 2) rfl (by decide) (evp_w (evp_pure fun _ _ => ev_int) ⟨by decide, by decide⟩))) (evp_chooseW rfl (by omega) (evp_w (m := (bk.es.length : Int)) (evp_pure fun _ _ => ev_v rfl rfl) ⟨by omega, by omega⟩)) (evp_w (m := (bk.es.length : Int) - 1) (evp_pure fun _ _ => ev_sb (ev_v rfl rfl) ev_int) ⟨by omega, by omega⟩) H4 _ p4.id fun v5 H5 p5 r5 => ?_
    obtain ⟨a, rfl, a0, al⟩ := r5
    obtain ⟨j, rfl⟩ := Int.eq_ofNat_of_zero_le a0
    have hk5 := upP p4.id p5 hk4
    have P5 := p4.trans p5
    try dsimp only [gName, tSeq, tAsg, tNext]
    refine if_b (H0 := H5) (Same.refl _) (ev_test (ev_eqi (i := d) (j := 3) (ev_v rfl rfl) ev_int)) (fun _ H6 s6 => ?_) (fun _ H6 s6 => ?_)
    · have p6 := P5.then s6
      refine evp_tm3 (H0 := H6) (P := fun a => a = (j : Int)) (P' := fun a => 1 ≤ a ∧ a ≤ 9) (evp_w (m := (j : Int)) (evp_pure fun _ _ => ev_v rfl rfl) rfl) (evp_succ (evp_chooseW rfl (by decide) (evp_w (m := 9) (evp_pure fun _ _ => ev_int) ⟨by decide, by decide⟩))) H6 _ p6.id fun v7 H7 p7 r7 => ?_
      obtain ⟨x, c, rfl, ⟨c1, c2⟩, q⟩ := r7
      exact k (.right j c) _ _ (p6.trans p7) ⟨⟨by omega, by omega⟩, c1, by omega⟩ c2 (fun z => absurd z ne) q
    have p6 := P5.then s6
    have hk6 := up s6 hk5
    try dsimp only [gName, tSeq, tAsg, tNext]
    refine evn_lefts (H0 := H6) wf n (ev_v rfl hk6) H6 _ (Same.refl _) fun D us H7 nD s7 hD l => ?_
    have hL : isIs (lefts bk.es) (.ref D) H7 := ⟨D, us, rfl, hD, l⟩
    have p7 := p6.then s7
    have ll := left_le wf j
    have jl : j < (lefts bk.es).length := by rw [lefts_len]; omega
    try dsimp only [gName, tSeq, tAsg, tNext]
    refine ev_if (H0 := H7) (R := isWh fun x => 1 ≤ x ∧ x ≤ (sN bk.es : Int) + 1) (b := decide (0 < leftAt bk.es j)) (ev_test (ev_gt (i := leftAt bk.es j) (j := 0) (ev_ixL (n := j) (getD_at jl) (ev_v rfl hL) (ev_v (R := isIv (j : Int)) rfl rfl)) ev_int)) (fun e => ?_) (fun e => ?_) H7 _ (Same.refl _) fun v8 H8 s8 _ r8 => ?_
    · have z := of_decide_eq_true e
      exact ev_to (ev_ixL (n := j) (a := leftAt bk.es j) (getD_at jl) (ev_v rfl hL) (ev_v (R := isIv (j : Int)) rfl rfl)) fun v H q => ⟨_, q, by omega, by omega⟩
    · exact ev_to (ev_int (i := 1)) fun v H q => ⟨1, q, by omega, by omega⟩
    obtain ⟨x, rfl, x1, x2⟩ := r8
    have p8 := p7.then s8
    try dsimp only [gName, tSeq, tAsg, tNext]
    refine evp_tm3 (H0 := H8) (P := fun a => a = (j : Int)) (P' := fun a => a = 0 ∨ (1 ≤ a ∧ a ≤ x)) (evp_w (m := (j : Int)) (evp_pure fun _ _ => ev_v rfl rfl) rfl) (evp_if (evpb_lt (P := fun _ => True) (evp_w (m := d) (evp_pure fun _ _ => ev_v rfl rfl) trivial)) (evp_w (m := 0) (evp_pure fun _ _ => ev_int) (Or.inl rfl)) (evp_imp (evp_succ (evp_chooseW rfl (by omega) (evp_w (m := x) (evp_pure fun _ _ => ev_v rfl rfl) ⟨x1, by omega⟩))) fun a q => Or.inr q)) H8 _ p8.id fun v9 H9 p9 r9 => ?_
    obtain ⟨_, c, rfl, cc, q⟩ := r9
    rcases cc with rfl | ⟨c1, c2⟩
    · exact k (.take j) _ _ (p8.trans p9) ⟨by omega, by omega⟩ trivial (fun z => absurd z ne) q
    · exact k (.takeBy j c) _ _ (p8.trans p9) ⟨⟨by omega, by omega⟩, c1, by omega⟩ (by show c ≤ _; omega) (fun z => absurd z ne) q
theorem ok_historyN {f : Addr} {fd : FuncData} (F : Fun K "_law_history" "_law_history" sHistory f fd) (T : BltV mg) (cE : Cal P w K mg base CX0 "_law_empty" 1 [] spEmpty) (cM : Cal P w K mg base CX0 "_law_drawn_move" 2 ["_law_box", "_law_book"] spMoveN) (cX : Cal P w K mg base CX0 "_law_do" 5 ["_law_house_here", "_law_book", "_law_move"] spDoL) : FnOk P w K mg base CX0 6 f fd ["_law_box", "_law_house_here", "_law_many"] spHistN := by
  obtain ⟨fE, fdE, GE, mE, kE, bE⟩ := cE
  obtain ⟨fM, fdM, GM, mM, kM, bM⟩ := cM
  obtain ⟨fX, fdX, GX, mX, kX, bX⟩ := cX
  refine F.ok scHistory (fun vs H Q E h => ?_) (fun cdv A outer s H vs Q E hr h => ?_)
  · obtain ⟨b, hv, u, v, n, h, rfl, _⟩ := h
    rfl
  · obtain ⟨b, hv, u, v, n, h, rfl, hb, ok, hh, hok, n0, n1, k⟩ := h
    have hr1 : Room 1 _ := hr.mono (by decide)
    have hr2 : Room 2 _ := hr.mono (by decide)
    refine ⟨_, (pss_cons (ps_par (i := 3) (j := 4) rfl scHistory.nd rfl rfl (by decide) rfl rfl (pa_cons (pe_lst pa_nil) (pa_cons (pe_call0 GE hr1 rfl mE kE bE .nil pass0) pa_nil)) (by rfl))
  (pss_cons (ps_for PassesOwn.never rfl (pi_range1 (by rfl) T.range (pa_cons (pe_op op_mul pe_int (pv 2)) pa_nil)) (pg_name (i := 5) scHistory.nd rfl (Or.inl rfl))
  (pss_cons (ps_set (i := 6) scHistory.nd rfl (Or.inl rfl) (pe_call GM hr2 rfl mM kM bM .nil pass0 (pa_cons (pv 0) (pa_cons (pv 4) pa_nil))))
  (pss_cons (ps_set (i := 7) scHistory.nd rfl (Or.inl rfl) (pe_call GX hr rfl mX kX bX .nil pass0 (pa_cons (pv 1) (pa_cons (pv 4) (pa_cons (pv 6) pa_nil)))))
  (pss_one (ps_if (PW.pt (pw_and (pt_cmpR op_notN (pv 7) pe_non (nomark _)) (pw_and1 (pt_cmpR op_lt (pe_callB call_len_seq (by rfl) T.len PySem.boot_len (pa_cons (pv 3) pa_nil)) (pv 2) (nomark _))))) (pss_cons (ps_expr (pe_bm PySem.F.plainAttrs_list PySem.F.slot_list_append PySem.F.type_list_append mt_append (pv 3) (pa_cons (pv 6) pa_nil)))
  (pss_one (ps_set (i := 4) scHistory.nd rfl (Or.inl rfl) (pv 7)))) pss_nil)))))
  (pss_one (ps_ret (pv 3))))), ?_⟩
    have p0 : Pre b H H := Pre.start ok hb
    try dsimp only [gName, tSeq, tAsg]
    refine ⟨(by show 0 ≤ sizeLine; decide), fun D nD => ⟨rfl, fun u0 H1 s1 hu0 => ⟨_, _, rfl, ?_⟩⟩⟩
    have p1 : Pre b H H1 := (p0.then (Same.new nD)).then s1
    have nDb : D ≠ b := p0.ne nD
    have hD1 : H1 D = some (.lst []) := s1 _ _ upd_same
    clear s1
    try dsimp only [gName, tSeq, tAsg, tNext]
    refine ⟨_, rfl, 4, n, rfl, rfl, Or.inl ⟨by decide, by decide⟩, 4 * n, rfl, by omega, by omega, ?_⟩
    refine for_range (lo := 0) (n := (4 * n).toNat) (fun i σ H' => ∃ (bv : V) (o5 o6 o7 : Option V) (us : List V) (ms : List Mv) (bk : Bk), σ = [some (.ref b), some hv, some (.int n), some (.ref D), some bv, o5, o6, o7] ∧ Pre b H H' ∧ H' D = some (.lst us) ∧ Ls (fun u m => TmA m u H') us ms ∧ (∀ m ∈ ms, Mv.ok m) ∧ (ms.length : Int) ≤ n ∧ playB h b0 ms = some bk ∧ LBk bk bv H' ∧ sN bk.es + 1000000 ≤ 1000000 * 2 ^ ms.length ∧ (1 ≤ n → 1 ≤ i → ms ≠ [])) ?_ ?_ ?_
    · exact ⟨u0, none, none, none, [], [], b0, rfl, p1, hD1, Ls.nil, (fun m hm => by cases hm), n0, rfl, hu0, by decide, fun _ z => absurd z (by decide)⟩
    · rintro i σ H2 hi ⟨bv, o5, o6, o7, us, ms, bk, rfl, p2, hD2, l, mo, ln, pl, hk, sm, nz⟩
      obtain ⟨_, u2, v2, ok2, hb2⟩ := id p2
      have wl := Wf.zero.play pl
      have w2 : ms.length ≤ 60 := by omega
      have pw : 2 ^ ms.length ≤ 2 ^ 60 := Nat.pow_le_pow_right (by decide) w2
      have n9 : bk.es.length ≤ 900 := by
        have := wl.2
        have e : b0.es.length = 0 := rfl
        omega
      refine ⟨_, rfl, _, rfl, b, bv, u2, v2, bk, rfl, hb2, ok2, hk, wl.1, n9, (by omega), fun m x H3 p3 mok msm mb hx => ?_⟩
      have hD3 := p3.1 _ _ nDb hD2
      have P3 := p2.trans p3
      have hk3 := upP p2 p3 hk
      have l3 : Ls (fun u m => TmA m u H3) us ms := l.imp fun _ _ r => upP p2 p3 r
      have hh3 := upP p0 P3 hh
      try dsimp only [gName, tSeq, tAsg, tNext]
      refine ⟨_, rfl, _, rfl, _, rfl, hv, bv, x, h, bk, m, rfl, hh3, hk3, hx, hok, wl.1, n9, mok, fun y H4 s4 hy => ?_⟩
      have P4 := P3.then s4
      have hD4 := s4 _ _ hD3
      have hk4 := up s4 hk3
      have l4 := Ls.up l3 s4
      have hx4 := up s4 hx
      show tIfS _ _ _ _ _ _
      have yb : (y = .non ↔ doB h bk m = none) := by
        cases d : doB h bk m with
        | none =>
          rw [d] at hy
          exact ⟨fun _ => rfl, fun _ => hy⟩
        | some b' =>
          rw [d] at hy
          obtain ⟨p, _, _, e', _⟩ := (show LBk b' y H4 from hy)
          rw [e']
          exact ⟨(fun q => by cases q), (fun q => by cases q)⟩
      refine if_b (H0 := H4) (Same.refl _) (ev_andB (ev_test (ev_notN (u := y) (ev_v rfl rfl))) (fun _ => ev_test (ev_lt (j := n) (ev_lenL (S := TmA) (as := ms) (ev_v rfl ⟨D, us, rfl, hD4, l4⟩)) (ev_v rfl rfl)))) (fun e H5 s5 => ?_) (fun e H5 s5 => ?_)
      · obtain ⟨e1, e2⟩ := Bool.and_eq_true_iff.mp e
        have e2 := of_decide_eq_true e2
        cases d : doB h bk m with
        | none =>
          rw [yb.mpr d] at e1
          cases e1
        | some b' =>
          rw [d] at hy
          have hy5 : LBk b' y H5 := up s5 (show LBk b' y H4 from hy)
          have hD5 := s5 _ _ hD4
          have P5 := P4.then s5
          have kl : Keep H5 (upd H5 D (.lst (us ++ [x]))) := Keep.lst hD5
          obtain ⟨sa, ua, va, oka, hba⟩ := id P5
          have ds := do_sum wl.1 mok msm d
          try dsimp only [gName, tSeq, tAsg, tNext]
          refine ⟨_, rfl, .inl ⟨rfl, _, SqL.of hD5⟩, _, rfl, D, us, x, rfl, rfl, hD5, small1000 (by rw [l.1]; omega), _, rfl, y, _, _, _, us ++ [x], ms ++ [m], b', rfl, ⟨fun c o nc q => by rw [upd_ne (ne_of_none q nD)]; exact sa c o nc q, ua, va, oka, by rw [upd_ne (Ne.symm nDb)]; exact hba⟩, upd_same, Ls.push ((Ls.up l4 s5).upL kl) (upL kl (up s5 hx4)), ?_, ?_, ?_, upL kl hy5, ?_, fun _ _ z => by simp at z⟩
          · intro z hz
            rcases List.mem_append.mp hz with hz | hz
            · exact mo z hz
            · rw [List.mem_singleton.mp hz]
              exact mok
          · rw [List.length_append]
            show ((ms.length + 1 : Nat) : Int) ≤ n
            omega
          · rw [play_snoc, pl]
            exact d
          · rw [List.length_append]
            show _ ≤ 1000000 * 2 ^ (ms.length + 1)
            rw [Nat.pow_succ]
            omega
      · refine ⟨bv, _, _, _, us, ms, bk, rfl, P4.then s5, s5 _ _ hD4, Ls.up l4 s5, mo, ln, pl, up s5 hk4, sm, fun z1 _ z => ?_⟩
        subst z
        cases (show some b0 = some bk from pl)
        obtain ⟨a, rfl⟩ := mb rfl
        have y1 : y ≠ .non := fun q => by
          have := yb.mp q
          cases this
        simp [y1] at e
        omega
    · rintro σ H2 ⟨bv, o5, o6, o7, us, ms, bk, rfl, p2, hD2, l, mo, ln, pl, hk, sm, nz⟩
      exact ⟨_, rfl, k D us ms bk H2 nD p2 hD2 l mo ln pl (by omega) (fun z => nz z (by omega))⟩
end
end V3

set_option Elab.async false
set_option linter.all false
set_option maxRecDepth 100000
/-! == of tuples whose items have an == of their own, whatever comes out -/
namespace V3
open PySem PySem.SeqAt
open AutoSeq1 (wpAny_loadPart')
open MeetsSeq MeetsSeq2 MeetsSeq3 SeqRoads2
section
variable {prog : Program} {w : World} {A : Around} {R : Result → Shared → Prop}
theorem tuple_eqAny (l b : Addr) (xs ys : Array Value) (n n2 : Nat) (dd dd2 : Option Addr) (sl sl2 : Array (Option Value)) (e : Nat → Bool) (res : Bool) (I : Nat → Shared → Prop)
    (turn : ∀ i (h1 : i < xs.size) (h2 : i < ys.size) s, I i s → wpAny (model prog w) A.in1 (eqBool xs[i] ys[i]) (fun r s' => r = e i ∧ I (i + 1) s') (fun x s' => R (.error x) s') s)
    (stop : ∀ i, i < xs.size → i < ys.size → e i = false → res = false) (whole : (∀ i, i < xs.size → i < ys.size → e i = true) → res = (xs.size == ys.size))
    (fin : ∀ i s, I i s → R (.ok (.ret (.bool res))) s) {s : Shared} (hl1 : s.heap.get? l = some { cls := .type "tuple", dict := dd, data := .seq xs n, slots := sl }) (hb1 : s.heap.get? b = some { cls := .type "tuple", dict := dd2, data := .seq ys n2, slots := sl2 }) (h : I 0 s) :
    wpAny (model prog w) A.in1 (Builtin.«tuple.__eq__» ⟨[.ref l, .ref b], []⟩) (GQ.FinOf prog w A R) (fun x s' => R (.error x) s') s := by
  have g2 := AutoSeq1.sub_tuple_tuple
  have lz : (xs.toList.zip ys.toList).length = min xs.size ys.size := by simp
  have h0 := h
  obtain ⟨hp, g, d, tk, os⟩ := s
  wp_walk using wpAny_loadPart' hl1, wpAny_loadPart' hb1, wpAny_forIn_list _ (fun rest b s' => b.1 = none ∧ ∃ i, rest = (xs.toList.zip ys.toList).drop i ∧ i ≤ (xs.toList.zip ys.toList).length ∧ I i s' ∧ ∀ j, j < i → e j = true) _
  case turn =>
    rintro ⟨y, x⟩ rest b s' ⟨hb', i, hz, hi, hI, ht⟩
    have lt : i < (xs.toList.zip ys.toList).length := by
      rcases Nat.lt_or_ge i (xs.toList.zip ys.toList).length with q | q
      · exact q
      · rw [List.drop_of_length_le q] at hz
        cases hz
    have h1 : i < xs.size := by omega
    have h2 : i < ys.size := by omega
    rw [List.drop_eq_getElem_cons lt] at hz
    injection hz with hyx hr
    have ey : y = xs[i] := by simpa using congrArg Prod.fst hyx
    have ex : x = ys[i] := by simpa using congrArg Prod.snd hyx
    subst ey ex
    refine wpAny_bind (wpAny_mono (turn i h1 h2 s' hI) (fun r s2 q2 => ?_) fun _ _ z => z)
    obtain ⟨hr2, q2⟩ := q2
    cases hc : e i with
    | true =>
      rw [hc] at hr2
      subst hr2
      wp_walk
      refine ⟨rfl, i + 1, hr, lt, q2, fun j hj => ?_⟩
      rcases Nat.lt_or_ge j i with k | k
      · exact ht j k
      · have : j = i := by omega
        rw [this]
        exact hc
    | false =>
      rw [hc] at hr2
      subst hr2
      have er := stop i h1 h2 hc
      have z := fin (i + 1) s2 q2
      rw [er] at z
      wp_walk
      all_goals first | exact z | exact ⟨_, rfl, z⟩ | simpa using z
  case fin =>
    rintro ⟨b1, b2⟩ s' ⟨hb', i, hz, hi, hI, ht⟩
    simp only at hb'
    subst hb'
    have ge : (xs.toList.zip ys.toList).length ≤ i := by
      rcases Nat.lt_or_ge i (xs.toList.zip ys.toList).length with q | q
      · rw [List.drop_eq_getElem_cons q] at hz
        cases hz
      · exact q
    have er := whole fun j a c => ht j (by omega)
    have z := fin i s' hI
    rw [er] at z
    wp_walk
    first | exact z | (simpa [Builtin.Tuple.tupleCompareSizes] using z)
  case h =>
    exact ⟨rfl, 0, rfl, Nat.zero_le _, h0, fun j hj => absurd hj (Nat.not_lt_zero j)⟩
end
section
variable {prog : Program} {w : World} {A : Around} {E : Value → Shared → Prop} {s : Shared}
theorem rc_tupAny {l b : Addr} {xs ys : Array Value} {Q : Value → Shared → Prop} (hu : A.units < cLine) (e : Nat → Bool) (res : Bool) (I : Nat → Shared → Prop)
    (hl : s.heap.IsTuple l xs) (hb : s.heap.IsTuple b ys)
    (turn : ∀ i (h1 : i < xs.size) (h2 : i < ys.size) s, I i s → wpAny (model prog w) A.in1 (eqBool xs[i] ys[i]) (fun r s' => r = e i ∧ I (i + 1) s') E s)
    (stop : ∀ i, i < xs.size → i < ys.size → e i = false → res = false) (whole : (∀ i, i < xs.size → i < ys.size → e i = true) → res = (xs.size == ys.size))
    (fin : ∀ i s, I i s → Q (.bool res) s) (h : I 0 s) : wpAny (model prog w) A (richCompare .Eq (.ref l) (.ref b)) Q E s := by
  obtain ⟨⟨c1, d1, da1, sl1⟩, o1, k1, n1, e1⟩ := id hl
  obtain ⟨⟨c2, d2, da2, sl2⟩, o2, k2, n2, e2⟩ := id hb
  simp only at k1 e1 k2 e2
  subst k1 e1 k2 e2
  refine wpAny_richCompare_same_room (op := .Eq) ⟨_, o1, rfl⟩ ⟨_, o2, rfl⟩ F.slot_tuple_eq (GQ.call_here F.slot_tuple_eq ⟨_, o1, rfl⟩ F.entry_tuple_eq (F.args_tuple_eq_2 _ _) ?_) hu
  exact tuple_eqAny (R := wants (fun v s' => v ≠ .notImplemented ∧ Q v s') E) l b xs ys n1 n2 d1 d2 sl1 sl2 e res I turn stop whole (fun i s' q => ⟨(fun x => nomatch x), fin i s' q⟩) o1 o2 h
end
end V3

set_option Elab.async false
set_option linter.all false
set_option maxRecDepth 100000
/-! == of tuples of objects, at the level of values -/
namespace V3
open PySem PySem.Spec PyProof.Rows L2
def EqB (X : Cx) (n : Nat) (D : V → V → Bool → Hp → Prop) : Prop :=
  ∀ (A : Around) (pins : List (Addr × Obj)) (s : Shared) (σ : L2.St) (H : Hp) (x y : V) (u v : Value) (r : Bool), Sub X n A → Inv X pins σ H s → RelV x u → RelV y v → D x y r H →
    wpAny (model X.prog X.w) A (eqBool u v) (fun q s' => q = r ∧ ∃ H', Inv X pins σ H' s' ∧ Ext H H') X.xe s
def MonB (D : V → V → Bool → Hp → Prop) : Prop := ∀ x y r H H', Ext H H' → D x y r H → D x y r H'
def rTupB (K : PySem.W.Frag) (D : V → V → Bool → Hp → Prop) (neg : Bool) : R2 := fun x y H Q => ∃ (a b : Addr) (xs ys : List V) (e : Nat → Bool) (res : Bool), x = .ref a ∧ y = .ref b ∧ SqT K H a xs ∧ SqT K H b ys ∧
  (∀ (i : Nat) x y, xs[i]? = some x → ys[i]? = some y → D x y (e i) H) ∧ (∀ i, i < xs.length → i < ys.length → e i = false → res = false) ∧ ((∀ i, i < xs.length → i < ys.length → e i = true) → res = (xs.length == ys.length)) ∧
  ∀ H', Ext H H' → Q (.bl (res != neg)) H'
theorem at_vals {xs : List V} {its : List Value} (r : Vals xs its) {i : Nat} (h : i < its.toArray.size) : ∃ x, xs[i]? = some x ∧ RelV x its.toArray[i] := by
  have k : i < its.length := by simpa using h
  have k1 : i < xs.length := by rw [r.length]; exact k
  obtain ⟨u, hu, ru⟩ := r.get (List.getElem?_eq_getElem k1)
  rw [List.getElem?_eq_getElem k] at hu
  refine ⟨_, List.getElem?_eq_getElem k1, ?_⟩
  have e : its.toArray[i] = u := by simpa using Option.some.inj hu
  rw [e]
  exact ru
theorem op_eqB {X : Cx} {n : Nat} {D : V → V → Bool → Hp → Prop} (hD : MonB D) (h : EqB X n D) (hr : Room (n + 1) X.A) : OpR X (compareOp .Eq) (rTupB X.K D false) := by
  intro pins s σ H x y v u Q I rx ry hq
  obtain ⟨a, b, xs, ys, e, res, rfl, rfl, ha, hb, pr, st, wh, q⟩ := hq
  cases rx
  cases ry
  obtain ⟨its, r1, t1, z1⟩ := I.tuple ha
  obtain ⟨its2, r2, t2, z2⟩ := I.tuple hb
  have l1 := r1.length
  have l2 := r2.length
  show wpAny (model X.prog X.w) X.A (richCompare .Eq (.ref a) (.ref b)) (EP X pins σ Q) X.xe s
  refine rc_tupAny hr.units0 e res (fun _ s' => ∃ H', Inv X pins σ H' s' ∧ Ext H H') t1 t2 (fun i h1 h2 s' l => ?_) (fun i h1 h2 => st i (by simpa [l1] using h1) (by simpa [l2] using h2)) (fun k => ?_) (fun i s' l => ?_) ⟨H, I, Ext.rfl'⟩
  · obtain ⟨H1, I1, e1⟩ := l
    obtain ⟨x, ex, rx⟩ := at_vals r1 h1
    obtain ⟨y, ey, ry⟩ := at_vals r2 h2
    refine wpAny_mono (h X.A.in1 pins s' σ H1 x y _ _ (e i) ⟨hr.in1, rfl⟩ I1 rx ry (hD _ _ _ _ _ e1 (pr i x y ex ey))) (fun q s2 z => ?_) fun _ _ x => x
    obtain ⟨eq, H2, I2, e2⟩ := z
    exact ⟨eq, H2, I2, e1.trans e2⟩
  · have w := wh fun i a c => k i (by simpa [← l1] using a) (by simpa [← l2] using c)
    rw [w, List.size_toArray, List.size_toArray, l1, l2]
  · obtain ⟨H1, I1, e1⟩ := l
    refine ⟨.bl res, H1, I1, rfl, ?_⟩
    have z := q H1 e1
    rw [show (res != false) = res from by cases res <;> rfl] at z
    exact z
end V3

set_option Elab.async false
set_option linter.all false
set_option maxRecDepth 100000
/-! == of entries and of books -/
namespace V3
open PySem PySem.Spec PyProof.Rows L2 TL
abbrev sEnEq : Stmt := inClass (top 27) 1
abbrev sBkEq : Stmt := inClass (top 28) 10
/-- what isinstance asks of an own class -/
structure OwnI (K : PySem.W.Frag) (C : Addr) : Prop where
  cl : Cls K C
  ca : PySem.W.findIn K (.ref C) "__class__" = some (some (.builtin "object.__class__"))
  gn : PySem.W.specialIn K (.builtin "object.__class__") "__get__" = some (some (.builtin "getset_descriptor.__get__"))
  tk : PySem.W.takesIn K (.builtin "object.__class__") = some true
  mr : PySem.W.mroIn K C (.type "object") = some true
  ki : PySem.W.kitOne K (.ref C) (.ref C) = some true
  nf : PySem.W.notFirst K C (.ref C) = true
def spEnEq (CE : Addr) : Sp := fun vs H Q _ => ∃ (u v : V) (e f : En), vs = [u, v] ∧ EnA CE e u H ∧ EnA CE f v H ∧ ∀ H', Same H H' → Q (.bl (decide (e = f))) H'
def spBkEq (CE CB : Addr) : Sp := fun vs H Q _ => ∃ (u v : V) (b d : Bk), vs = [u, v] ∧ BkA CE CB b u H ∧ BkA CE CB d v H ∧ ∀ H', Same H H' → Q (.bl (decide (b = d))) H'
theorem oV_inj {a b : Option Nat} (h : oV a = oV b) : a = b := by
  cases a with
  | none => cases b with
    | none => rfl
    | some n => cases h
  | some m => cases b with
    | none => cases h
    | some n =>
      have h : V.int (m : Int) = V.int (n : Int) := h
      injection h with h
      congr 1
      omega
theorem enF_inj {e f : En} (h : enF (.int e.mo) (.int e.am) (oV e.ta) (oV e.ol) = enF (.int f.mo) (.int f.am) (oV f.ta) (oV f.ol)) : e = f := by
  have h1 := congrArg (fun l => l.lookup ("month" : Str)) h
  have h2 := congrArg (fun l => l.lookup ("amount" : Str)) h
  have h3 := congrArg (fun l => l.lookup ("target" : Str)) h
  have h4 := congrArg (fun l => l.lookup ("old" : Str)) h
  simp only [en_mo, en_am, en_ta, en_ol, Option.some.injEq, V.int.injEq] at h1 h2 h3 h4
  cases e
  cases f
  simp only [En.mk.injEq]
  exact ⟨h1, h2, oV_inj h3, oV_inj h4⟩
/-- the answer of == -/
def DE (CE : Addr) : V → V → Bool → Hp → Prop := fun x y r H => ∃ e f : En, EnA CE e x H ∧ EnA CE f y H ∧ r = decide (e = f)
theorem mon_de {CE : Addr} : MonB (DE CE) := fun x y r H H' e d => by
  obtain ⟨m, n, hx, hy, q⟩ := d
  have s : Same H H' := e
  exact ⟨m, n, up s hx, up s hy, q⟩
def EnEqT (P : Program) (w : World) (K : PySem.W.Frag) (mg : Str → Option Value) (base : Heap) (CE : Addr) : Prop :=
  ∃ (f : Addr) (fd : FuncData), FnOk P w K mg base CX0 1 f fd ["self", "other"] (spEnEq CE) ∧ EqCls K CE f ∧ Binds K fd ["self", "other"] []
def BkEqT (P : Program) (w : World) (K : PySem.W.Frag) (mg : Str → Option Value) (base : Heap) (CE CB : Addr) : Prop :=
  ∃ (f : Addr) (fd : FuncData), FnOk P w K mg base CX0 3 f fd ["self", "other"] (spBkEq CE CB) ∧ EqCls K CB f ∧ Binds K fd ["self", "other"] []
theorem eqB_en {X : Cx} {CE : Addr} (T : EnEqT X.prog X.w X.K X.mg X.base CE) (O : OwnI X.K CE) : EqB X 1 (DE CE) := by
  intro A pins s σ H x y u v r sb I rx ry d
  obtain ⟨e, f, ⟨a, dx, rfl, ha⟩, ⟨b, dy, rfl, hb⟩, rfl⟩ := d
  obtain ⟨fn, fd, F, ec, bi⟩ := T
  cases rx
  cases ry
  by_cases ab : a = b
  · subst ab
    rw [ha] at hb
    injection hb with hb
    injection hb with _ _ hb
    have mn := enF_inj hb
    subst mn
    unfold eqBool
    refine wpAny_holding ?_
    refine wpAny_ite_split (fun _ => ?_) (fun h => absurd (beq_self_eq_true _) h)
    refine wpAny_bind (wpAny_rule (wpAny_pure ⟨?_, H, I, Ext.rfl'⟩))
    rw [decide_eq_true rfl]
  · refine GQ.eqBool_refG ab ?_
    obtain ⟨mA, J, _⟩ := ins_get I.hok ha
    obtain ⟨mB, J', _⟩ := ins_get I.hok hb
    obtain ⟨od, J, _⟩ := J.look
    obtain ⟨od', J', _⟩ := J'.look
    obtain ⟨mm, hF⟩ := I.fr
    refine PySem.W.cmp_K (op := .Eq) (tb := .ref CE) sb.room.units0 hF I.ok.mod.kin J J'.type O.nf ec.eq ec.fn ?_
    refine wpAny_mono (run_own (x := .ref a) (y := .ref b) (E := fun _ _ _ => False) (Q := fun v H' => v = .bl (decide (e = f)) ∧ Same H H') sb F bi pass0 I rfl rfl ⟨_, _, e, f, rfl, ⟨a, dx, rfl, ha⟩, ⟨b, dy, rfl, hb⟩, fun H' s' => ⟨rfl, s'⟩⟩) (fun w s' q => ?_) fun _ _ e => e
    obtain ⟨z, H', I', rz, ez, eH⟩ := q
    subst ez
    cases rz
    exact ⟨_, rfl, rfl, H', I', eH⟩
/-- which items are equal -/
def eqsE (ms ns : List En) (i : Nat) : Bool := match ms[i]?, ns[i]? with
  | some m, some n => decide (m = n)
  | _, _ => true
theorem eqsE_at {ms ns : List En} {i : Nat} {m n : En} (h : ms[i]? = some m) (k : ns[i]? = some n) : eqsE ms ns i = decide (m = n) := by
  unfold eqsE
  rw [h, k]
theorem eqsE_stop {ms ns : List En} {i : Nat} (h1 : i < ms.length) (h2 : i < ns.length) (h : eqsE ms ns i = false) : ms ≠ ns := by
  intro e
  subst e
  have k := List.getElem?_eq_getElem h1
  rw [eqsE_at k k, decide_eq_true rfl] at h
  cases h
theorem eqsE_all {ms ns : List En} (h : ∀ i, i < ms.length → i < ns.length → eqsE ms ns i = true) : decide (ms = ns) = (ms.length == ns.length) := by
  by_cases l : ms.length = ns.length
  · have e : ms = ns := by
      refine List.ext_getElem l fun i h1 h2 => ?_
      have z := h i h1 h2
      rw [eqsE_at (List.getElem?_eq_getElem h1) (List.getElem?_eq_getElem h2)] at z
      exact of_decide_eq_true z
    rw [decide_eq_true e, l]
    simp
  · rw [decide_eq_false fun e => l (by rw [e])]
    exact (Bool.eq_false_iff.mpr fun q => l (eq_of_beq q)).symm
def FFq (CE CB : Addr) : Addr → Sp → XK → Prop := fun D sp E => D = CB ∧ sp = spBkEq CE CB ∧ E = E0
theorem own_q {X : Cx} {CE CB : Addr} (T : BkEqT X.prog X.w X.K X.mg X.base CE CB) : ∀ D sp E, FFq CE CB D sp E → ∃ (CX : CXT) (f : Addr) (fd : FuncData) (ps : List Str), FnOk X.prog X.w X.K X.mg X.base CX 3 f fd ps sp ∧ EqCls X.K D f ∧ Binds X.K fd ps [] ∧ Passes CX X E := fun D sp E h => by
  obtain ⟨rfl, rfl, rfl⟩ := h
  obtain ⟨f, fd, F, ec, bi⟩ := T
  exact ⟨CX0, f, fd, _, F, ec, bi, fun _ _ _ _ _ _ _ h => h.elim⟩
theorem op_eqBk {X : Cx} {CE CB : Addr} (T : BkEqT X.prog X.w X.K X.mg X.base CE CB) (hr : Room 3 X.A) : OpR X (compareOp .Eq) (rEqO X.K 3 (FFq CE CB) false) := op_eqO (own_q T) hr
theorem op_neBk {X : Cx} {CE CB : Addr} (T : BkEqT X.prog X.w X.K X.mg X.base CE CB) (hr : Room 4 X.A) : OpR X (compareOp .NotEq) (rEqO X.K 3 (FFq CE CB) true) := op_neO (own_q T) hr
section
variable {K : PySem.W.Frag} {CE CB : Addr} {σ : L2.St} {ta tb : TE} {H0 : Hp} {e f : En} {b d : Bk} {neg : Bool}
theorem ev_isEn (O : OwnI K CE) (ha : EvV (Same H0) σ ta (EnA CE e)) : EvV (Same H0) σ (tCB (rIsi K) (tCons ta (tCons (tC (.ref CE)) tNil))) (isBv true) := fun H Q w kk =>
  ha H _ w fun x H1 s1 w1 hx => by
    obtain ⟨a, dx, rfl, ex⟩ := hx
    exact ⟨_, _, _, _, _, rfl, .own CE, .base (.ins ex O.cl O.ca O.gn O.tk O.mr), O.ki, kk _ H1 s1 w1 rfl⟩
theorem ev_isBk (O : OwnI K CB) (ha : EvV (Same H0) σ ta (BkA CE CB b)) : EvV (Same H0) σ (tCB (rIsi K) (tCons ta (tCons (tC (.ref CB)) tNil))) (isBv true) := fun H Q w kk =>
  ha H _ w fun x H1 s1 w1 hx => by
    obtain ⟨a, dx, q, p, rfl, ex, _⟩ := hx
    exact ⟨_, _, _, _, _, rfl, .own CB, .base (.ins ex O.cl O.ca O.gn O.tk O.mr), O.ki, kk _ H1 s1 w1 rfl⟩
theorem ev_eqEs {es fs : List En} (ha : EvV (Same H0) σ ta (isU (EnA CE) es)) (hb : EvV (Same H0) σ tb (isU (EnA CE) fs)) : EvV (Same H0) σ (tOp (rTupB K (DE CE) false) ta tb) (isBv (decide (es = fs))) :=
  ev_o ha hb fun x y H Q w a1 a2 k => by
    obtain ⟨p, us, rfl, hp, l1⟩ := a1
    obtain ⟨q, vs, rfl, hq, l2⟩ := a2
    refine ⟨p, q, us, vs, eqsE es fs, decide (es = fs), rfl, rfl, SqT.of hp, SqT.of hq, fun i x y hx hy => ?_, fun i h1 h2 h => decide_eq_false (eqsE_stop (by rw [← l1.1]; exact h1) (by rw [← l2.1]; exact h2) h), fun h => ?_, fun H' e => ?_⟩
    · obtain ⟨m, em, rm⟩ := Ls.get l1 hx
      obtain ⟨n, en, rn⟩ := Ls.get l2 hy
      exact ⟨m, n, rm, rn, eqsE_at em en⟩
    · rw [l1.1, l2.1] at h ⊢
      exact eqsE_all h
    · rw [show (decide (es = fs) != false) = decide (es = fs) from by cases decide (es = fs) <;> rfl]
      exact k _ H' e rfl
theorem ev_neBk (nf : PySem.W.notFirst K CB (.ref CB) = true) (ha : EvV (Same H0) σ ta (BkA CE CB b)) (hb : EvV (Same H0) σ tb (BkA CE CB d)) : EvV (Same H0) σ (tOp (rEqO K 3 (FFq CE CB) neg) ta tb) (isBv (decide (b = d) != neg)) :=
  ev_o ha hb fun x y H Q w a1 a2 k => by
    obtain ⟨x, dx, q, p, rfl, hx, _⟩ := id a1
    obtain ⟨y, dy, q2, p2, rfl, hy, _⟩ := id a2
    exact ⟨x, CB, dx, _, y, CB, dy, _, spBkEq CE CB, E0, rfl, rfl, hx, hy, ⟨rfl, rfl, rfl⟩, nf, _, _, b, d, rfl, a1, a2, fun H' s => ⟨_, rfl, k _ H' s rfl⟩⟩
end
section
variable {P : Program} {w : World} {K : PySem.W.Frag} {mg : Str → Option Value} {base : Heap}
theorem scEnEq : FnScope ["self", "other"] ["self", "other"] (defScope sEnEq) := ⟨rfl, rfl, rfl, by decide +kernel, rfl, by decide +kernel, by decide +kernel⟩
theorem scBkEq : FnScope ["self", "other"] ["self", "other"] (defScope sBkEq) := ⟨rfl, rfl, rfl, by decide +kernel, rfl, by decide +kernel, by decide +kernel⟩
theorem scal_oV (a b : Option Nat) : scal (oV a) (oV b) = true := by
  cases a <;> cases b <;> rfl
theorem ok_enEq {f CE : Addr} {fd : FuncData} (F : Fun K "__eq__" "Entry.__eq__" sEnEq f fd) (zi : mg "isinstance" = none) (gE : mg "Entry" = some (.ref CE)) (N : EnC K CE) (O : OwnI K CE) : FnOk P w K mg base CX0 1 f fd ["self", "other"] (spEnEq CE) := by
  refine F.ok scEnEq (fun vs H Q E h => ?_) (fun cdv A outer s H vs Q E hr h => ?_)
  · obtain ⟨u, v, e, f, rfl, _⟩ := h
    rfl
  · obtain ⟨u, v, e, f, rfl, hu, hv, k⟩ := h
    refine ⟨_, (pss_one (ps_ret (pe_and (pe_callB call_isi (by rfl) zi (by decide +kernel) (pa_cons (pv 1) (pa_cons (pe_glob (v := .ref CE) rfl gE rfl) pa_nil))) (pe_and (pe_cmpR op_eq (pe_fld (pv 0) rfl) (pe_fld (pv 1) rfl) (nomark _)) (pe_and (pe_cmpR op_eq (pe_fld (pv 0) rfl) (pe_fld (pv 1) rfl) (nomark _)) (pe_and (pe_cmpR op_eq (pe_fld (pv 0) rfl) (pe_fld (pv 1) rfl) (nomark _)) (pe_one (pe_cmpR op_eq (pe_fld (pv 0) rfl) (pe_fld (pv 1) rfl) (nomark _))))))))), ?_⟩
    refine ev_at (H0 := H) (R := isBv (decide (e = f))) (ev_isEn O (ev_v rfl hv)) (ev_is (ev_av (ev_eqi (i := e.mo) (j := f.mo) (ev_enMo N (ev_v rfl hu)) (ev_enMo N (ev_v rfl hv))) fun _ => ev_av (ev_eqi (i := e.am) (j := f.am) (ev_enAm N (ev_v rfl hu)) (ev_enAm N (ev_v rfl hv))) fun _ => ev_av (ev_eqV (scal_oV e.ta f.ta) (ev_enTa N (ev_v rfl hu)) (ev_enTa N (ev_v rfl hv))) fun _ => ev_eqV (scal_oV e.ol f.ol) (ev_enOl N (ev_v rfl hu)) (ev_enOl N (ev_v rfl hv))) ?_) H _ (Same.refl _) fun u1 H1 s1 _ e1 => ?_
    · rw [← Bool.decide_and, ← Bool.decide_and, ← Bool.decide_and]
      refine decide_eq_decide.mpr ⟨fun ⟨a, b, c, d⟩ => ?_, fun q => by subst q; exact ⟨rfl, rfl, rfl, rfl⟩⟩
      have c := oV_inj c
      have d := oV_inj d
      cases e
      cases f
      simp only [En.mk.injEq]
      exact ⟨a, b, c, d⟩
    · cases e1
      exact k _ s1
theorem ok_bkEq {f CE CB : Addr} {fd : FuncData} (F : Fun K "__eq__" "Book.__eq__" sBkEq f fd) (zi : mg "isinstance" = none) (gB : mg "Book" = some (.ref CB)) (L : BkC K CB) (O : OwnI K CB) (OE : OwnI K CE) (T : EnEqT P w K mg base CE) : FnOk P w K mg base CX0 3 f fd ["self", "other"] (spBkEq CE CB) := by
  refine F.ok scBkEq (fun vs H Q E h => ?_) (fun cdv A outer s H vs Q E hr h => ?_)
  · obtain ⟨u, v, b, d, rfl, _⟩ := h
    rfl
  · obtain ⟨u, v, b, d, rfl, hu, hv, k⟩ := h
    refine ⟨_, (pss_one (ps_ret (pe_and (pe_callB call_isi (by rfl) zi (by decide +kernel) (pa_cons (pv 1) (pa_cons (pe_glob (v := .ref CB) rfl gB rfl) pa_nil))) (pe_and (pe_cmpR (op_eqB (n := 1) mon_de (eqB_en T OE) hr) (pe_fld (pv 0) rfl) (pe_fld (pv 1) rfl) (nomark _)) (pe_one (pe_cmpR op_eq (pe_fld (pv 0) rfl) (pe_fld (pv 1) rfl) (nomark _))))))), ?_⟩
    refine ev_at (H0 := H) (R := isBv (decide (b = d))) (ev_isBk O (ev_v rfl hv)) (ev_is (ev_av (ev_eqEs (ev_bkEs L (ev_v rfl hu)) (ev_bkEs L (ev_v rfl hv))) fun _ => ev_eqi (i := b.m) (j := d.m) (ev_bkMo L (ev_v rfl hu)) (ev_bkMo L (ev_v rfl hv))) ?_) H _ (Same.refl _) fun u1 H1 s1 _ e1 => ?_
    · rw [← Bool.decide_and]
      refine decide_eq_decide.mpr ⟨fun ⟨a, c⟩ => ?_, fun q => by subst q; exact ⟨rfl, rfl⟩⟩
      cases b
      cases d
      simp only [Bk.mk.injEq]
      exact ⟨a, c⟩
    · cases e1
      exact k _ s1
end
end V3

set_option Elab.async false
set_option linter.all false
set_option maxRecDepth 100000
/-! x + y of two classes, x += y -/
namespace V3
open PySem PySem.Spec PyProof.Rows L2
/-- no class up the line of D has one of these names -/
def Silent (K : PySem.W.Frag) (D : Addr) (ns : List Str) : Prop := ∃ (oc : Value) (od : Option Addr) (cd : ClassData) (sl : Array (Option Value)), K.lookup D = some ⟨oc, od, .cls cd, sl⟩ ∧ ∀ c ∈ cd.mro, ∀ n ∈ ns, PySem.W.findIn K c n = some none
section
variable {M : Model} {h : Heap} {K : PySem.W.Frag} {D : Addr}
theorem anyM_off {f : Value → Sem Bool} : ∀ {l : List Value}, (∀ c ∈ l, PySem.W.Looks M h (f c) false) → PySem.W.Looks M h (l.anyM f) false
  | [], _ => .now
  | c :: r, e => (e c (List.mem_cons_self ..)).andThen (anyM_off (l := r) fun d hd => e d (List.mem_cons_of_mem _ hd))
theorem cls_mro {oc : Value} {od : Option Addr} {cd : ClassData} {sl : Array (Option Value)} (X : K.In h) (e : K.lookup D = some ⟨oc, od, .cls cd, sl⟩) : PySem.W.Looks M h (mroOf (.ref D)) cd.mro := by
  have z : PySem.W.clsIn K D = some cd := by
    unfold PySem.W.clsIn
    rw [e]
  exact (PySem.W.looks_clsIn X z).andThen (f := fun cd => pure cd.mro) .now
theorem silent_fills {nm : String} (X : K.In h) (s : Silent K D [dunder nm, dunderR nm]) : PySem.W.Looks M h (fillsNumberSlot (.ref D) nm) false := by
  obtain ⟨oc, od, cd, sl, e, al⟩ := s
  unfold fillsNumberSlot
  refine (cls_mro X e).andThen (anyM_off fun c hc => ?_)
  have h1 := PySem.W.looks_findIn (M := M) X (al c hc (dunder nm) (by simp))
  have h2 := PySem.W.looks_findIn (M := M) X (al c hc (dunderR nm) (by simp))
  cases c with
  | type n => exact h1.andThen (h2.andThen .now)
  | ref a => exact (h1.andThen (b := false) .now).andThen ((h2.andThen (b := false) .now).andThen .now)
  | _ => exact absurd (al _ hc (dunder nm) (by simp)) (by simp [PySem.W.findIn])
theorem silent_inp {nm : String} {add : Bool} (X : K.In h) (s : Silent K D [dunderI nm]) : PySem.W.Looks M h (fillsInplaceSlot (.ref D) nm add) false := by
  obtain ⟨oc, od, cd, sl, e, al⟩ := s
  unfold fillsInplaceSlot
  refine (cls_mro X e).andThen (anyM_off fun c hc => ?_)
  have h1 := PySem.W.looks_findIn (M := M) X (al c hc (dunderI nm) (by simp))
  exact h1.andThen .now
end
section
variable {prog : Program} {w : World} {A : Around} {E : Value → Shared → Prop} {s : Shared} {K : PySem.W.Frag} {x C D f : Addr} {ox : Obj} {od : Option Obj}
theorem bin1_same {nm : String} {b : Value} {Q : Value → Shared → Prop} (X : K.In s.heap) (I : PySem.W.InstAt s.heap x ox C od) (hb : PySem.W.Looks (model prog w) s.heap (typeOf b) (.ref C)) (hc : PySem.W.selfFirst K C = true)
    (hs : PySem.W.findIn K (.ref C) (dunder nm) = some (some (.ref f))) (hf : PySem.W.isFn K (.ref f) = true)
    (h : wpAny (model prog w) A (call (.ref f) [.ref x, b]) (PySem.W.CmpBack Q) E s) : wpAny (model prog w) A (binaryOp1 nm (.ref x) b) (fun r s' => ∃ v, r = some v ∧ Q v s') E s := by
  obtain ⟨cd, rest, hcd, hm⟩ := PySem.W.ksp_first hc
  have one := PySem.W.ksp_try X I hs hf h
  unfold binaryOp1
  refine wpAny_bind (I.type.here (wpAny_bind (hb.here (wpAny_bind ((PySem.W.fills_K X hcd hm hs).here ?_)))))
  simp only [beq_self_eq_true, if_true]
  refine wpAny_bind (wpAny_pure ?_)
  simp only [Bool.and_false, Bool.false_eq_true, if_false, Bool.false_and]
  refine wpAny_bind (wpAny_pure ?_)
  simp only [Bool.false_eq_true, if_false]
  refine wpAny_bind (wpAny_mono one (fun r s' z => ?_) fun _ _ e => e)
  obtain ⟨v, rfl, q⟩ := z
  exact wpAny_pure ⟨v, rfl, q⟩
theorem bin1_mix {nm : String} {b : Value} {Q : Value → Shared → Prop} (X : K.In s.heap) (I : PySem.W.InstAt s.heap x ox C od) (hb : PySem.W.Looks (model prog w) s.heap (typeOf b) (.ref D)) (hne : C ≠ D) (hc : PySem.W.selfFirst K C = true)
    (hs : PySem.W.findIn K (.ref C) (dunder nm) = some (some (.ref f))) (hf : PySem.W.isFn K (.ref f) = true) (sil : Silent K D [dunder nm, dunderR nm])
    (h : wpAny (model prog w) A (call (.ref f) [.ref x, b]) (PySem.W.CmpBack Q) E s) : wpAny (model prog w) A (binaryOp1 nm (.ref x) b) (fun r s' => ∃ v, r = some v ∧ Q v s') E s := by
  obtain ⟨cd, rest, hcd, hm⟩ := PySem.W.ksp_first hc
  have one := PySem.W.ksp_try X I hs hf h
  have ne : (Value.ref C == Value.ref D) = false := Bool.eq_false_iff.mpr fun q => hne (by
    have z := beq_iff_eq.mp q
    injection z)
  unfold binaryOp1
  refine wpAny_bind (I.type.here (wpAny_bind (hb.here (wpAny_bind ((PySem.W.fills_K X hcd hm hs).here ?_)))))
  simp only [ne, Bool.false_eq_true, if_false]
  refine wpAny_bind ((silent_fills X sil).here ?_)
  simp only [Bool.and_false, Bool.false_eq_true, if_false, Bool.false_and]
  refine wpAny_bind (wpAny_pure ?_)
  simp only [Bool.false_eq_true, if_false]
  refine wpAny_bind (wpAny_mono one (fun r s' z => ?_) fun _ _ e => e)
  obtain ⟨v, rfl, q⟩ := z
  exact wpAny_pure ⟨v, rfl, q⟩
end
section
variable {X : Cx} {n : Nat}
/-- the classes of x and y, at x op y -/
def BinTwo (K : PySem.W.Frag) (C D : Addr) (op : Operator) : Prop := C = D ∨ (C ≠ D ∧ Silent K D [dunder op.info.2, dunderR op.info.2])
def rBinD (K : PySem.W.Frag) (op : Operator) (inp : Bool) (FF : Addr → Sp → XK → Prop) : R2 := fun x y H Q => ∃ (a C dx : Addr) (fs : List (Str × V)) (b D dy : Addr) (gs : List (Str × V)) (sp : Sp) (E : XK), x = .ref a ∧ y = .ref b ∧ H a = some (.ins C dx fs) ∧ H b = some (.ins D dy gs) ∧
  BinTwo K C D op ∧ (inp = true → Silent K C [dunderI op.info.2]) ∧ FF C sp E ∧ sp [x, y] H Q E
abbrev OpF (X : Cx) (n : Nat) (op : Operator) (FF : Addr → Sp → XK → Prop) : Prop := ∀ C sp E, FF C sp E → ∃ (CX : CXT) (f : Addr) (fd : FuncData) (ps : List Str), FnOk X.prog X.w X.K X.mg X.base CX n f fd ps sp ∧ BinCls X.K C f op ∧ Binds X.K fd ps [] ∧ Passes CX X E
theorem bin_run {op : Operator} {inp : Bool} {FF : Addr → Sp → XK → Prop} (hF : OpF X n op FF) (hr : Room n X.A) {pins : List (Addr × Obj)} {s : Shared} {σ : L2.St} {H : Hp} {x y : V} {v u : Value} {Q : VK} (I : Inv X pins σ H s) (rx : RelV x v) (ry : RelV y u)
    (hq : rBinD X.K op inp FF x y H Q) : ∃ (a C : Addr) (ox : Obj) (od : Option Obj), v = .ref a ∧ PySem.W.InstAt s.heap a ox C od ∧ (inp = true → Silent X.K C [dunderI op.info.2]) ∧ wpAny (model X.prog X.w) X.A (binaryOp1 op.info.2 v u) (fun r s' => ∃ z, r = some z ∧ EP X pins σ Q z s') X.xe s := by
  obtain ⟨a, C, dx, fs, b, D, dy, gs, sp, E, rfl, rfl, ha, hb, two, no, ff, hsp⟩ := hq
  obtain ⟨CX, f, fd, ps, F, ec, bi, hx⟩ := hF C sp E ff
  cases rx
  cases ry
  obtain ⟨mA, J, _⟩ := ins_get I.hok ha
  obtain ⟨mB, J', _⟩ := ins_get I.hok hb
  obtain ⟨od, J, _⟩ := J.look
  obtain ⟨od', J', _⟩ := J'.look
  have go : wpAny (model X.prog X.w) X.A (call (.ref f) [.ref a, .ref b]) (PySem.W.CmpBack (EP X pins σ Q)) X.xe s := by
    refine wpAny_mono (run_own (x := .ref a) (y := .ref b) ⟨hr, rfl⟩ F bi hx I rfl rfl hsp) (fun w s' q => ?_) fun _ _ e => e
    obtain ⟨z, H', I', rz, q⟩ := q
    exact vals_back rz ⟨z, H', I', rz, q⟩
  refine ⟨a, C, _, _, rfl, J, no, ?_⟩
  rcases two with rfl | ⟨ne, sil⟩
  · exact bin1_same I.kIn J J'.type ec.sf ec.at_ ec.fn go
  · exact bin1_mix I.kIn J J'.type ne ec.sf ec.at_ ec.fn sil go
theorem op_binD {op : Operator} {FF : Addr → Sp → XK → Prop} (hF : OpF X n op FF) (hr : Room n X.A) : OpR X (binaryOp op) (rBinD X.K op false FF) := by
  intro pins s σ H x y v u Q I rx ry hq
  obtain ⟨a, C, ox, od, rfl, J, no, go⟩ := bin_run hF hr I rx ry hq
  unfold binaryOp
  refine wpAny_holding (wpAny_bind (wpAny_mono go (fun r s' z => ?_) fun _ _ e => e))
  obtain ⟨v, rfl, q⟩ := z
  exact wpAny_pure q
theorem ip_own {op : Operator} {FF : Addr → Sp → XK → Prop} (hF : OpF X n op FF) (hr : Room n X.A) : PIp X op (rBinD X.K op true FF) := by
  intro pins s σ H x y v u Q I rx ry hq
  obtain ⟨a, C, ox, od, rfl, J, no, go⟩ := bin_run hF hr I rx ry hq
  unfold inplaceOp
  refine wpAny_holding (wpAny_bind (J.type.here (wpAny_bind ((silent_inp I.kIn (no rfl)).here ?_))))
  simp only [Bool.false_eq_true, if_false]
  refine wpAny_bind (wpAny_mono go (fun r s' z => ?_) fun _ _ e => e)
  obtain ⟨v, rfl, q⟩ := z
  exact wpAny_pure q
end
end V3

set_option Elab.async false
set_option linter.all false
set_option maxRecDepth 100000
/-! the law of k28 -/
namespace V3
open PySem L2 TL
abbrev sLaw : Stmt := top 75
abbrev NL : List Str := ["_law_script", "_law_k", "_law_box", "_law_house_here", "_law_more", "_law_p", "_law_q", "_law_again", "_law_turn", "_law_history_here", "_law_book", "_law_other"]
theorem scLaw : FnScope NL ["_law_script"] (defScope sLaw) := ⟨rfl, rfl, rfl, by decide +kernel, rfl, by decide +kernel, by decide +kernel⟩
def spLaw (K : PySem.W.Frag) : Sp := fun vs H Q _ => ∃ (a : Addr) (ns : List Int), vs = [.ref a] ∧ SqL K H a (ns.map V.int) ∧ ns.length ≤ 63 ∧ ∀ H', Q (.bl true) H'
structure BltK28 (mg : Str → Option Value) : Prop where
  len : mg "len" = none
  range : mg "range" = none
  max : mg "max" = none
  min : mg "min" = none
  tuple : mg "tuple" = none
  str : mg "str" = none
/-- what is done with two houses -/
structure HsAB (P : Program) (w : World) (K : PySem.W.Frag) (mg : Str → Option Value) (base : Heap) (c : Rc) (C : Addr) : Prop where
  le : ∃ (f : Addr) (fd : FuncData), FnOk P w K mg base CX0 4 f fd ["self", "other"] (spNoMore K c C) ∧ CmpCls K C f .LtE ∧ Binds K fd ["self", "other"] []
  ge : ∃ (f : Addr) (fd : FuncData), FnOk P w K mg base CX0 4 f fd ["self", "other"] (spMoreNo K c C) ∧ CmpCls K C f .GtE ∧ Binds K fd ["self", "other"] []
  an : ∃ (f : Addr) (fd : FuncData), FnOk P w K mg base CX0 6 f fd ["self", "other"] (spAnd K c C) ∧ BinCls K C f .BitAnd ∧ Binds K fd ["self", "other"] []
  nf : PySem.W.notFirst K C (.ref C) = true
def FFle (K : PySem.W.Frag) (c : Rc) (C : Addr) : Addr → Sp → XK → Prop := fun D sp E => D = C ∧ sp = spNoMore K c C ∧ E = E0
def FFge (K : PySem.W.Frag) (c : Rc) (C : Addr) : Addr → Sp → XK → Prop := fun D sp E => D = C ∧ sp = spMoreNo K c C ∧ E = E0
def FFan (K : PySem.W.Frag) (c : Rc) (C : Addr) : Addr → Sp → XK → Prop := fun D sp E => D = C ∧ sp = spAnd K c C ∧ E = E0
section
variable {X : Cx} {c : Rc} {C : Addr}
theorem op_leH (T : HsAB X.prog X.w X.K X.mg X.base c C) (hr : Room 4 X.A) : OpR X (compareOp .LtE) (rEqO X.K 4 (FFle X.K c C) false) := op_leO (fun D sp E h => by
  obtain ⟨rfl, rfl, rfl⟩ := h
  obtain ⟨f, fd, F, ec, bi⟩ := T.le
  exact ⟨CX0, f, fd, _, F, ec, bi, fun _ _ _ _ _ _ _ h => h.elim⟩) hr
theorem op_geH (T : HsAB X.prog X.w X.K X.mg X.base c C) (hr : Room 4 X.A) : OpR X (compareOp .GtE) (rEqO X.K 4 (FFge X.K c C) false) := op_geO (fun D sp E h => by
  obtain ⟨rfl, rfl, rfl⟩ := h
  obtain ⟨f, fd, F, ec, bi⟩ := T.ge
  exact ⟨CX0, f, fd, _, F, ec, bi, fun _ _ _ _ _ _ _ h => h.elim⟩) hr
theorem op_anH (T : HsAB X.prog X.w X.K X.mg X.base c C) (hr : Room 6 X.A) : OpR X (binaryOp .BitAnd) (rBinD X.K .BitAnd false (FFan X.K c C)) := op_binD (fun D sp E h => by
  obtain ⟨rfl, rfl, rfl⟩ := h
  obtain ⟨f, fd, F, ec, bi⟩ := T.an
  exact ⟨CX0, f, fd, _, F, ec, bi, fun _ _ _ _ _ _ _ h => h.elim⟩) hr
end
section
variable {K : PySem.W.Frag} {σ : L2.St} {ta tb tc : TE} {H0 : Hp} {c : Rc} {C : Addr} {p q h : Hs} {b : Addr} {cm : Cl}
theorem ev_leH (nf : PySem.W.notFirst K C (.ref C) = true) (okp : p.ok) (okq : q.ok) (ha : EvV (Same H0) σ ta (HsA K c C p)) (hb : EvV (Same H0) σ tb (HsA K c C q)) : EvV (Same H0) σ (tOp (rEqO K 4 (FFle K c C) false) ta tb) (isBv (noMore p q)) :=
  ev_o ha hb fun x y H Q w a1 a2 k => by
    obtain ⟨x, dx, q1, u1, rfl, hx, _⟩ := id a1
    obtain ⟨y, dy, q2, u2, rfl, hy, _⟩ := id a2
    exact ⟨x, C, dx, _, y, C, dy, _, spNoMore K c C, E0, rfl, rfl, hx, hy, ⟨rfl, rfl, rfl⟩, nf, _, _, p, q, rfl, a1, a2, okp, okq, fun H' s => ⟨_, rfl, k _ H' s (by cases noMore p q <;> rfl)⟩⟩
theorem ev_geH (nf : PySem.W.notFirst K C (.ref C) = true) (okp : p.ok) (okq : q.ok) (ha : EvV (Same H0) σ ta (HsA K c C p)) (hb : EvV (Same H0) σ tb (HsA K c C q)) : EvV (Same H0) σ (tOp (rEqO K 4 (FFge K c C) false) ta tb) (isBv (noMore q p)) :=
  ev_o ha hb fun x y H Q w a1 a2 k => by
    obtain ⟨x, dx, q1, u1, rfl, hx, _⟩ := id a1
    obtain ⟨y, dy, q2, u2, rfl, hy, _⟩ := id a2
    exact ⟨x, C, dx, _, y, C, dy, _, spMoreNo K c C, E0, rfl, rfl, hx, hy, ⟨rfl, rfl, rfl⟩, nf, _, _, p, q, rfl, a1, a2, okp, okq, fun H' s => ⟨_, rfl, k _ H' s (by cases noMore q p <;> rfl)⟩⟩
theorem ev_anH (okp : p.ok) (okq : q.ok) (ha : EvV (Same H0) σ ta (HsA K c C p)) (hb : EvV (Same H0) σ tb (HsA K c C q)) : EvV (Same H0) σ (tOp (rBinD K .BitAnd false (FFan K c C)) ta tb) (HsA K c C (andH p q)) :=
  ev_o ha hb fun x y H Q w a1 a2 k => by
    obtain ⟨x, dx, q1, u1, rfl, hx, _⟩ := id a1
    obtain ⟨y, dy, q2, u2, rfl, hy, _⟩ := id a2
    exact ⟨x, C, dx, _, y, C, dy, _, spAnd K c C, E0, rfl, rfl, hx, hy, .inl rfl, (fun z => nomatch z), ⟨rfl, rfl, rfl⟩, _, _, p, q, rfl, a1, a2, okp, okq, fun z H' s a => k z H' s a⟩
theorem ev_htMk {d : Int} {ch : Str} {rs : List Rw} (h1 : EvV (Same H0) σ ta (isIv d)) (h2 : EvV (Same H0) σ tb (isSv ch)) (h3 : EvV (Same H0) σ tc (isU TrA rs)) : EvV (Same H0) σ (tTup (tCons ta (tCons tb (tCons tc tNil)))) (HtA ⟨d, ch, rs⟩) := fun H Q w k =>
  h1 H _ w fun v1 H1 s1 w1 e1 => h2 H1 _ w1 fun v2 H2 s2 w2 e2 => h3 H2 _ w2 fun v3 H3 s3 w3 ⟨q, us, e3, hq, l⟩ => by
    cases e1
    cases e2
    subst e3
    refine ⟨(by show 3 ≤ sizeLine; decide), fun t nt => ?_⟩
    have sT : Same H3 (upd H3 t (.tup [.int d, .str ch, .ref q])) := Same.new nt
    exact k _ _ (((s1.trans s2).trans s3).trans sT) (w3.trans sT) ⟨t, q, us, rfl, upd_same, sT _ _ hq, (show RowLs 0 H3 us rs from l).keep (Keep.of sT)⟩
theorem cat_go {as bs : List Rw} {x y : V} {H : Hp} {Q : VK} (n : as.length + bs.length ≤ 1000) (hx : isU TrA as x H) (hy : isU TrA bs y H) (k : ∀ z H', Same H H' → isU TrA (as ++ bs) z H' → Q z H') : rCatA K x y H Q := by
  obtain ⟨p, us, rfl, hp, l1⟩ := hx
  obtain ⟨q, vs, rfl, hq, l2⟩ := hy
  refine ⟨p, q, us, vs, rfl, rfl, SqT.of hp, SqT.of hq, Nat.le_trans (m := 1000) (by rw [l1.1, l2.1]; exact n) (by decide), fun e => ?_, fun _ e => ?_, fun _ _ t nt => ?_⟩
  · subst e
    have z : as = [] := List.length_eq_zero_iff.mp l1.1.symm
    subst z
    exact k _ H (Same.refl H) ⟨q, vs, rfl, hq, l2⟩
  · subst e
    have z : bs = [] := List.length_eq_zero_iff.mp l2.1.symm
    subst z
    rw [List.append_nil] at k
    exact k _ H (Same.refl H) ⟨p, us, rfl, hp, l1⟩
  · have sT : Same H (upd H t (.tup (us ++ vs))) := Same.new nt
    exact k _ _ sT ⟨t, _, rfl, upd_same, Ls.up (l1.app l2) sT⟩
theorem ev_catU {as bs : List Rw} (n : as.length + bs.length ≤ 1000) (ha : EvV (Same H0) σ ta (isU TrA as)) (hb : EvV (Same H0) σ tb (isU TrA bs)) : EvV (Same H0) σ (tOp (rCatA K) ta tb) (isU TrA (as ++ bs)) :=
  ev_o ha hb fun x y H Q w a1 a2 k => cat_go n a1 a2 k
/-- a history drawn and read -/
def HiG (K : PySem.W.Frag) (cm : Cl) (h : Hs) : V → Hp → Prop := fun v H => ∃ ms bk, HiA K cm ms v H ∧ (∀ m ∈ ms, m.ok) ∧ ms.length ≤ 12 ∧ playB h b0 ms = some bk
theorem evp_hist {xh : V} {tn : TE} (i2 : σ[2]? = some (some (.ref b))) (i3 : σ[3]? = some (some xh)) (hok : h.ok) (p0 : Pre b H0 H0) (hh : HtA h xh H0) (hn : EvP b H0 σ tn (isWh fun x => 3 ≤ x ∧ x < 13)) :
    EvP b H0 σ (tCMethA cm.Hi (spRead cm) (fun _ => E0) (tC (.ref cm.Hi)) (tCons (tCall spTexts [] E0 (tCons (tCall spHist [] E0 (tCons (tVar 2) (tCons (tVar 3) (tCons tn tNil)))) tNil)) tNil)) (HiG K cm h) := fun H Q p k =>
  ⟨rfl, _, i2, _, i3, hn H _ p fun v1 H1 p1 ⟨n, en, n1, n2⟩ => by
    cases en
    have P1 := p.trans p1
    obtain ⟨_, u1, w1, ok1, hb1⟩ := id P1
    refine ⟨b, xh, u1, w1, n, h, rfl, hb1, ok1, upP p0 P1 hh, hok, by omega, by omega, fun D us ms bk H2 nD p2 hD l mo ln pl sm => ?_⟩
    have lm : ms.length ≤ 12 := by omega
    exact ⟨_, ms, rfl, ⟨D, us, rfl, hD, l⟩, mo, by omega, fun H3 s3 => ⟨ms, rfl, mo, by omega, fun x H4 s4 hx => k x H4 (((p1.trans p2).then s3).then s4) ⟨ms, bk, HiK.of hx, mo, lm, pl⟩⟩⟩⟩
end
theorem tup_go {K : PySem.W.Frag} {te : TE} {ts : TA} {g : TG} {tz : TS} {D : Ends} {σ : L2.St} {H : Hp} (h : te σ H fun v H1 => ts σ H1 fun vs H2 => (v :: vs).length ≤ sizeLine ∧ ∀ t, H2 t = none → iTup K (fun σ H Q => Q (.ref t) (upd H2 t (.tup (v :: vs)))) σ H fun J H3 => ∃ W : Nat → Nat → L2.St → Hp → Prop, (∃ m, W 0 m σ H3) ∧ ∀ i m σ H, W i m σ H → (J.stop i H ∧ D.nx σ H) ∨ (J.go i H ∧ ∃ N : L2.St → Hp → Prop, (∀ σ' H', N σ' H' → ∃ m', m' < m ∧ W (i + 1) m' σ' H') ∧ ∀ x H', J.yld i H x H' → g x σ H' fun σ2 H2 => tz { D with nx := N, ct := N, bk := D.nx } σ2 H2)) : tFor (iTup K (tTup (tCons te ts))) g tz D σ H := h
section
variable {P : Program} {w : World} {K : PySem.W.Frag} {mg : Str → Option Value} {base : Heap}
theorem ok_law {f CH CT CE CB CR : Addr} {c : Rc} {cm : Cl} {fd : FuncData} (F : Fun K "law" "law" sLaw f fd) (T : BltK28 mg) (BE : BkEqT P w K mg base CE CB) (OB : OwnI K CB) (L : HsC K CH) (AB : HsAB P w K mg base c CH) (HK : MkHK P w K mg base c CH) (ST : HsStr P w K mg base c CH) (RD : HsRd P w K mg base c CH CT) (RH : HiRd P w K mg base cm)
    (cS : Cal P w K mg base CX0 "_law_seed" 1 ["_law_script", "_law_k"] (spSeed K)) (cC : CalCho P w K mg base) (cO : CalOne P w K mg base) (cR : CalRws P w K mg base) (cH : Cal P w K mg base CX0 "_law_house" 4 ["_law_box", "_law_many"] spHouse) (cT : Cal P w K mg base CX0 "_law_house_text" 1 ["_law_house_here"] spHouseText)
    (cY : Cal P w K mg base CX0 "_law_history" 6 ["_law_box", "_law_house_here", "_law_many"] spHist) (cX : Cal P w K mg base CX0 "_law_text" 2 ["_law_moves"] spTexts)
    (cP : Cal P w K mg base (L2.CX P w) "play" 9 ["house", "history"] (spPlay K c cm CH CE CB CR)) : FnOk P w K mg base CX0 10 f fd ["_law_script"] (spLaw K) := by
  obtain ⟨fS, fdS, GS, mS, kS, bS⟩ := cS
  obtain ⟨fC, fdC, GC, mC, kC, bC⟩ := cC
  obtain ⟨fO, fdO, GO, mO, kO, bO⟩ := cO
  obtain ⟨fW, fdW, GW, mW, kW, bW⟩ := cR
  obtain ⟨fH, fdH, GH, mH, kH, bH⟩ := cH
  obtain ⟨fT, fdT, GT, mT, kT, bT⟩ := cT
  obtain ⟨fY, fdY, GY, mY, kY, bY⟩ := cY
  obtain ⟨fX, fdX, GX, mX, kX, bX⟩ := cX
  obtain ⟨fP, fdP, GP, mP, kP, bP⟩ := cP
  obtain ⟨mc, pr, fR, fdR, rd, cm1, GR, bR⟩ := RD.r
  obtain ⟨mc2, pr2, fQ, fdQ, rd2, cm2, GQ, bQ⟩ := RH.r
  obtain ⟨fK, fdK, GK, MK, bK⟩ := HK.ini
  refine F.ok scLaw (fun vs H Q E h => ?_) (fun cdv A outer s H vs Q E hr h => ?_)
  · obtain ⟨a, ns, rfl, _⟩ := h
    rfl
  · obtain ⟨a, ns, rfl, hS, hl, k⟩ := h
    have hr1 : Room 1 _ := hr.mono (by decide)
    have hr2 : Room 2 _ := hr.mono (by decide)
    have hr3 : Room 3 _ := hr.mono (by decide)
    have hr4 : Room 4 _ := hr.mono (by decide)
    have hr5 : Room 5 _ := hr.mono (by decide)
    have hr6 : Room 6 _ := hr.mono (by decide)
    have hr7 : Room 7 _ := hr.mono (by decide)
    have e0 : ∀ σ, PassesAt (L2.CX P w) (cxOf CX0 P w K mg base NL "law" (defScope sLaw) f cdv A outer s H E).nox σ E0 := fun σ _ _ _ _ _ _ h => by
      obtain ⟨_, _, _, _, _, _, _, _, _, _, _, _, z⟩ := h
      exact z.elim
    have e1 : ∀ σ, PassesAt CX0 (cxOf CX0 P w K mg base NL "law" (defScope sLaw) f cdv A outer s H E).nox σ E0 := fun σ _ _ _ _ _ _ h => h.elim
    have un := hr.units
    refine ⟨_, (pss_cons (ps_for PassesOwn.never rfl (pi_range1 (by rfl) T.range (pa_cons (pe_callB (call_max2 rfl) (by rfl) T.max (by decide +kernel) (pa_cons pe_int (pa_cons (pe_callB (call_min2 rfl) (by rfl) T.min (by decide +kernel) (pa_cons pe_int (pa_cons (pe_callB call_len_seq (by rfl) T.len PySem.boot_len (pa_cons (pv 0) pa_nil)) pa_nil))) pa_nil))) pa_nil)) (pg_name (i := 1) scLaw.nd rfl (Or.inl rfl))
  (pss_cons (ps_set (i := 2) scLaw.nd rfl (Or.inl rfl) (pe_call GS hr1 rfl mS kS bS .nil pass0 (pa_cons (pv 0) (pa_cons (pv 1) pa_nil))))
  (pss_cons (ps_set (i := 3) scLaw.nd rfl (Or.inl rfl) (pe_call GH hr4 rfl mH kH bH .nil pass0 (pa_cons (pv 2) (pa_cons pe_int pa_nil))))
  (pss_cons (ps_set (i := 4) scLaw.nd rfl (Or.inl rfl) (pe_tup (pa_cons (pe_callB (call_min2 rfl) (by rfl) T.min (by decide +kernel) (pa_cons pe_int (pa_cons (pe_op op_add (pe_ix ix_tup (pv 3) pe_int (fun _ _ => rfl)) (pe_call GC hr1 rfl mC kC bC .nil pass0 (pa_cons (pv 2) (pa_cons pe_int pa_nil)))) pa_nil))) (pa_cons (pe_call GO hr2 rfl mO kO bO .nil pass0 (pa_cons (pv 2) (pa_cons (pe_lst (pa_cons pe_str (pa_cons (pe_ix ix_tup (pv 3) pe_int (fun _ _ => rfl)) pa_nil))) pa_nil))) (pa_cons (pe_ix ix_tup (pv 3) pe_int (fun _ _ => rfl)) pa_nil)))))
  (pss_cons (ps_set (i := 4) scLaw.nd rfl (Or.inl rfl) (pe_tup (pa_cons (pe_ix ix_tup (pv 4) pe_int (fun _ _ => rfl)) (pa_cons (pe_ix ix_tup (pv 4) pe_int (fun _ _ => rfl)) (pa_cons (pe_op op_catA (pe_ix ix_tup (pv 4) pe_int (fun _ _ => rfl)) (pe_callTy call_tuple_of (by rfl) T.tuple (by decide +kernel) (pa_cons (pe_call GW hr3 rfl mW kW bW .nil pass0 (pa_cons (pv 2) (pa_cons (pe_op op_add pe_int (pe_call GC hr1 rfl mC kC bC .nil pass0 (pa_cons (pv 2) (pa_cons pe_int pa_nil)))) pa_nil))) pa_nil))) pa_nil)))))
  (pss_cons (ps_par (i := 5) (j := 6) rfl scLaw.nd rfl rfl (by decide) rfl rfl (pa_cons (pe_cmethA (E := fun _ => E0) (pe_glob (v := .ref CH) rfl RD.g rfl) rd cm1 GR bR hr7 e0 (pa_cons (pe_call GT hr1 rfl mT kT bT .nil pass0 (pa_cons (pv 3) pa_nil)) pa_nil)) (pa_cons (pe_cmethA (E := fun _ => E0) (pe_glob (v := .ref CH) rfl RD.g rfl) rd cm1 GR bR hr7 e0 (pa_cons (pe_call GT hr1 rfl mT kT bT .nil pass0 (pa_cons (pv 4) pa_nil)) pa_nil)) pa_nil)) (by rfl))
  (pss_cons (ps_set (i := 7) scLaw.nd rfl (Or.inl rfl) (pe_cmethA (E := fun _ => E0) (pe_glob (v := .ref CH) rfl RD.g rfl) rd cm1 GR bR hr7 e0 (pa_cons (pe_call GT hr1 rfl mT kT bT .nil pass0 (pa_cons (pe_tup (pa_cons (pe_ix ix_tup (pv 3) pe_int (fun _ _ => rfl)) (pa_cons (pe_ix ix_tup (pv 3) pe_int (fun _ _ => rfl)) (pa_cons (pe_op op_catA (pe_ix ix_tup (pv 3) pe_int (fun _ _ => rfl)) (pe_ix ix_tup (pv 3) pe_int (fun _ _ => rfl))) pa_nil)))) pa_nil)) pa_nil)))
  (pss_cons (ps_if (PW.pt (pw_or (pt_not (pt_cmpR (op_leH AB hr4) (pv 5) (pv 6) (nomark _))) (pw_or (pt_not (pt_cmpR (op_geH AB hr4) (pv 6) (pv 5) (nomark _))) (pw_or (pt_not (pt_cmpR (op_leH AB hr4) (pv 5) (pe_op (op_anH AB hr6) (pv 5) (pv 6)) (nomark _))) (pw_or (pt_not (pt_cmpR (op_leH AB hr4) (pe_op (op_anH AB hr6) (pv 5) (pv 6)) (pv 6) (nomark _))) (pw_or (pt_not (pt_cmpR (op_leH AB hr4) (pv 7) (pv 5) (nomark _))) (pw_or1 (pt_not (pt_cmpR (op_leH AB hr4) (pv 5) (pv 7) (nomark _)))))))))) (pss_one (ps_ret pe_bl)) pss_nil)
  (pss_one (ps_for PassesOwn.never rfl (pi_range1 (by rfl) T.range (pa_cons pe_int pa_nil)) (pg_name (i := 8) scLaw.nd rfl (Or.inl rfl))
  (pss_cons (ps_set (i := 9) scLaw.nd rfl (Or.inl rfl) (pe_cmethA (E := fun _ => E0) (pe_glob (v := .ref cm.Hi) rfl RH.g rfl) rd2 cm2 GQ bQ hr e1 (pa_cons (pe_call GX hr2 rfl mX kX bX .nil pass0 (pa_cons (pe_call GY hr6 rfl mY kY bY .nil pass0 (pa_cons (pv 2) (pa_cons (pv 3) (pa_cons (pe_op op_add pe_int (pe_call GC hr1 rfl mC kC bC .nil pass0 (pa_cons (pv 2) (pa_cons pe_int pa_nil)))) pa_nil)))) pa_nil)) pa_nil)))
  (pss_cons (ps_set (i := 10) scLaw.nd rfl (Or.inl rfl) (pe_call (E := E0) GP hr rfl mP kP bP .nil passL (pa_cons (pv 5) (pa_cons (pv 9) pa_nil))))
  (pss_one (ps_for PassesOwn.never rfl (pi_tup (pe_tup (pa_cons (pv 6) (pa_cons (pv 7) (pa_cons (pe_op (op_anH AB hr6) (pv 5) (pv 6)) (pa_cons (pe_cmethA (E := fun _ => E0) (pe_glob (v := .ref CH) rfl RD.g rfl) rd cm1 GR bR hr7 e0 (pa_cons (pe_callTy (call_strK ST hr6) (by rfl) T.str (by decide +kernel) (pa_cons (pv 5) pa_nil)) pa_nil)) (pa_cons (pe_make (E := E0) MK GK (hr.mono (by decide)) rfl HK.g bK .nil pass0 (pa_cons (pe_ix ix_tup (pv 3) pe_int (fun _ _ => rfl)) (pa_cons (pe_ix ix_tup (pv 3) pe_int (fun _ _ => rfl)) (pa_cons (pe_fld (pv 5) rfl) pa_nil)))) pa_nil))))))) (pg_name (i := 11) scLaw.nd rfl (Or.inl rfl))
  (pss_one (ps_if (pt_cmpR (op_neBk BE hr4) (pe_call (E := E0) GP hr rfl mP kP bP .nil passL (pa_cons (pv 11) (pa_cons (pv 9) pa_nil))) (pv 10) (nomark _)) (pss_one (ps_ret pe_bl)) pss_nil))))))))))))))))
  (pss_one (ps_ret pe_bl))), ?_⟩
    refine ⟨_, rfl, a, _, rfl, .inl hS, _, _, rfl, _, _, rfl, ?_⟩
    rw [List.length_map]
    have hn : (if (if (ns.length : Int) < 3 then (ns.length : Int) else 3) > 1 then (if (ns.length : Int) < 3 then (ns.length : Int) else 3) else 1) ≤ 3 ∧ 1 ≤ (if (if (ns.length : Int) < 3 then (ns.length : Int) else 3) > 1 then (if (ns.length : Int) < 3 then (ns.length : Int) else 3) else 1) := by
      constructor <;> (split <;> (try split) <;> omega)
    generalize (if (if (ns.length : Int) < 3 then (ns.length : Int) else 3) > 1 then (if (ns.length : Int) < 3 then (ns.length : Int) else 3) else 1) = n at hn
    refine ⟨n, rfl, by omega, by omega, for_range (lo := 0) (n := n.toNat) (fun i σ H' => (∃ o1 o2 o3 o4 o5 o6 o7 o8 o9 o10 o11 : Option V, σ = [some (.ref a), o1, o2, o3, o4, o5, o6, o7, o8, o9, o10, o11]) ∧ Same H H') ⟨⟨_, _, _, _, _, _, _, _, _, _, _, rfl⟩, Same.refl H⟩ ?_ ?_⟩
    · rintro i σ H0 hi ⟨⟨o1, o2, o3, o4, o5, o6, o7, o8, o9, o10, o11, rfl⟩, s0⟩
      refine ⟨_, rfl, _, rfl, a, ns, _, rfl, s0.seq hS, hl, by omega, by omega, fun b u v nb ok => ?_⟩
      have s1 : Same H (upd H0 b (box u v)) := fun c o e => by
        rw [upd_ne (ne_of_none (s0 c o e) nb)]
        exact s0 c o e
      have hb0 : H b = none := s0.free nb
      have hb1 : upd H0 b (box u v) b = some (box u v) := upd_same
      generalize upd H0 b (box u v) = H1 at s1 hb1
      have p0 : Pre b H1 H1 := Pre.start ok hb1
      try dsimp only [gName, tSeq, tAsg, tNext]
      refine ⟨_, rfl, b, u, v, 8, rfl, hb1, ok, by decide, by decide, fun xh h H2 P2 ht2 hok lm => ?_⟩
      have ht2 : HtA h xh H2 := ht2
      obtain ⟨d0, d4, hch, hrs, hrl⟩ := id hok
      try dsimp only [gName, tSeq, tAsg, tNext]
      refine ev_ht0 (H0 := H2) (K := K) (h := h) (ev_v rfl ht2) H2 _ (Same.refl _) fun x1 H3 s3 _ e1 => ?_
      cases e1
      have P3 := P2.then s3
      have ht3 := up s3 ht2
      refine evp_chooseW (H0 := H3) (b := b) (i := 2) (m := 2) rfl (by decide) (evp_w (m := 2) (evp_pure fun _ _ => ev_int) ⟨by decide, by decide⟩) H3 _ P3.id fun x2 H4 p4 ⟨a2, e2, a20, a21⟩ => ?_
      cases e2
      have P4 := P3.trans p4
      have ht4 := upP P3.id p4 ht3
      refine ⟨_, _, rfl, rfl, _, _, rfl, ?_⟩
      obtain ⟨d2, ed2, d20, d21⟩ : ∃ d2 : Int, (if h.d + a2 < 4 then h.d + a2 else 4) = d2 ∧ h.d ≤ d2 ∧ d2 ≤ 4 := ⟨_, rfl, by split <;> omega, by split <;> omega⟩
      rw [ed2]
      refine ⟨_, rfl, ?_⟩
      refine ev_ht1 (H0 := H4) (K := K) (h := h) (ev_v rfl ht4) H4 _ (Same.refl _) fun x5 H5 s5 _ e5 => ?_
      cases e5
      have P5 := P4.then s5
      have ht5 := up s5 ht4
      obtain ⟨_, u5, w5, ok5, hb5⟩ := id P5
      refine ⟨(by show 2 ≤ sizeLine; decide), fun l6 n6 => ?_⟩
      try dsimp only [tNil]
      refine oneOf_new hb5 ok5 n6 (by show 1 ≤ 2; decide) (by show 2 ≤ 1000; decide) fun x6 H6 i6 p6 => ?_
      obtain ⟨c2, rfl, hc2⟩ : ∃ c2, x6 = .str c2 ∧ (c2 = "left" ∨ c2 = h.ch) := by
        rcases List.mem_cons.mp i6 with e | e
        · exact ⟨_, e, .inl rfl⟩
        · exact ⟨_, List.mem_singleton.mp e, .inr rfl⟩
      have P6 := P5.trans p6
      have ht6 := upP P5.id p6 ht5
      refine ev_ht2 (H0 := H6) (K := K) (h := h) (ev_v rfl ht6) H6 _ (Same.refl _) fun x7 H7 s7 _ e7 => ?_
      have ht7 := up s7 ht6
      obtain ⟨q7, us7, rfl, hq7, l7⟩ := e7
      refine ⟨(by show 3 ≤ sizeLine; decide), fun t nt => ?_⟩
      have s8 : Same H7 (upd H7 t (.tup [.int d2, .str c2, .ref q7])) := Same.new nt
      have hm8 : HtA ⟨d2, c2, h.rs⟩ (.ref t) (upd H7 t (.tup [.int d2, .str c2, .ref q7])) := ⟨t, q7, us7, rfl, upd_same, s8 _ _ hq7, (show RowLs 0 H7 us7 h.rs from l7).keep (Keep.of s8)⟩
      have P8 := (P6.then s7).then s8
      have ht8 := up s8 ht7
      generalize upd H7 t (.tup [.int d2, .str c2, .ref q7]) = H8 at s8 hm8 P8 ht8 ⊢
      try dsimp only [gName, tSeq, tAsg, tNext]
      refine ev_ht0 (H0 := H8) (K := K) (h := ⟨d2, c2, h.rs⟩) (ev_v rfl hm8) H8 _ (Same.refl _) fun x9 H9 s9 _ e9 => ?_
      cases e9
      have hm9 := up s9 hm8
      refine ev_ht1 (H0 := H9) (K := K) (h := ⟨d2, c2, h.rs⟩) (ev_v rfl hm9) H9 _ (Same.refl _) fun x10 H10 s10 _ e10 => ?_
      cases e10
      have hm10 := up s10 hm9
      refine ev_ht2 (H0 := H10) (K := K) (h := ⟨d2, c2, h.rs⟩) (ev_v rfl hm10) H10 _ (Same.refl _) fun x11 H11 s11 _ hx11 => ?_
      have P11 := ((P8.then s9).then s10).then s11
      have ht11 := up s11 (up s10 (up s9 ht8))
      refine ⟨_, rfl, evp_addc (H0 := H11) (bx := b) (m := 5) (d := 1) (evp_chooseW rfl (by decide) (evp_w (m := 5) (evp_pure fun _ _ => ev_int) ⟨by decide, by decide⟩)) H11 _ P11.id fun x12 H12 p12 ⟨n12, e12, n120, n121⟩ => ?_⟩
      cases e12
      have P12 := P11.trans p12
      have ht12 := upP P11.id p12 ht11
      have hx12 := upP P11.id p12 hx11
      obtain ⟨_, u12, w12, ok12, hb12⟩ := id P12
      refine ⟨b, u12, w12, n12, rfl, hb12, ok12, by omega, by omega, fun D xs ms H13 p13 hD nDb nfr rl ln => ?_⟩
      have P13 := P12.trans p13
      have ht13 := upP P12.id p13 ht12
      have hx13 := upP P12.id p13 hx12
      refine ⟨D, xs, rfl, .inl ⟨SqL.of hD, fun t2 nt2 => ?_⟩⟩
      have s14 : Same H13 (upd H13 t2 (.tup xs)) := Same.new nt2
      have hy14 : isU TrA ms (.ref t2) (upd H13 t2 (.tup xs)) := ⟨t2, xs, rfl, upd_same, (show RowLs 0 H13 xs ms from rl).keep (Keep.of s14)⟩
      have P14 := P13.then s14
      have ht14 := up s14 ht13
      have hx14 := up s14 hx13
      generalize upd H13 t2 (.tup xs) = H14 at s14 hy14 P14 ht14 hx14 ⊢
      refine cat_go (as := h.rs) (bs := ms) (by omega) hx14 hy14 fun x15 H15 s15 hx15 => ?_
      obtain ⟨q15, us15, rfl, hq15, l15⟩ := hx15
      refine ⟨(by show 3 ≤ sizeLine; decide), fun t3 nt3 => ?_⟩
      have s16 : Same H15 (upd H15 t3 (.tup [.int d2, .str c2, .ref q15])) := Same.new nt3
      have hm16 : HtA ⟨d2, c2, h.rs ++ ms⟩ (.ref t3) (upd H15 t3 (.tup [.int d2, .str c2, .ref q15])) := ⟨t3, q15, us15, rfl, upd_same, s16 _ _ hq15, (show RowLs 0 H15 us15 (h.rs ++ ms) from l15).keep (Keep.of s16)⟩
      have P16 := (P14.then s15).then s16
      have ht16 := up s16 (up s15 ht14)
      generalize upd H15 t3 (.tup [.int d2, .str c2, .ref q15]) = H16 at s16 hm16 P16 ht16 ⊢
      have lck : ("left" : Str) ∈ checkL := by decide +kernel
      have lna : ("left" : Str) ≠ "all" := by decide +kernel
      have rms : ∀ m ∈ ms, m.ok ∧ m.kind = 0 := fun m hm => by
        obtain ⟨j, hj⟩ := List.getElem?_of_mem hm
        obtain ⟨_, _, z⟩ := rl.2 j m hj
        exact z.2
      have hcl2 : c2 ∈ checkL := hc2.elim (fun e => by rw [e]; exact lck) fun e => by rw [e]; exact hch
      have hok2 : (Hs.mk d2 c2 (h.rs ++ ms)).ok := ⟨(by show 0 ≤ d2; omega), d21, hcl2, (fun m hm => (List.mem_append.mp hm).elim (hrs m) (rms m)), (by show (h.rs ++ ms).length ≤ 100; rw [List.length_append]; omega)⟩
      have hok3 : (Hs.mk h.d h.ch (h.rs ++ h.rs)).ok := ⟨d0, d4, hch, (fun m hm => (List.mem_append.mp hm).elim (hrs m) (hrs m)), (by show (h.rs ++ h.rs).length ≤ 100; rw [List.length_append]; omega)⟩
      have more2 : More h ⟨d2, c2, h.rs ++ ms⟩ := more_app d20 fun e => hc2.elim (fun z => absurd (z.symm.trans e) lna) fun z => z.symm.trans e
      have more3 : More h ⟨h.d, h.ch, h.rs ++ h.rs⟩ := more_app (Int.le_refl _) fun e => e
      have more4 := more_and more2 hok
      try dsimp only [gName, tSeq, tAsg, tNext]
      refine ev_read (H0 := H16) (K := K) (c := c) (C := CH) (CT := CT) hok (ev_houseText hok (ev_v rfl ht16)) H16 _ (Same.refl _) fun xp H17 s17 _ hp17 => ?_
      have hm17 := up s17 hm16
      refine ev_read (H0 := H17) (K := K) (c := c) (C := CH) (CT := CT) hok2 (ev_houseText hok2 (ev_v rfl hm17)) H17 _ (Same.refl _) fun xq H18 s18 _ hq18 => ?_
      have hp18 := up s18 hp17
      have ht18 := up s18 (up s17 ht16)
      refine ⟨_, _, rfl, ?_⟩
      try dsimp only [gName, tSeq, tAsg, tNext]
      refine ev_read (H0 := H18) (K := K) (c := c) (C := CH) (CT := CT) hok3 (ev_houseText hok3 (ev_htMk (ev_ht0 (ev_v rfl ht18)) (ev_ht1 (ev_v rfl ht18)) (ev_catU (by omega) (ev_ht2 (ev_v rfl ht18)) (ev_ht2 (ev_v rfl ht18))))) H18 _ (Same.refl _) fun xa H19 s19 _ ha19 => ?_
      have hp19 := up s19 hp18
      have hq19 := up s19 hq18
      have ht19 := up s19 ht18
      have okA := andH_ok hok hok2
      try dsimp only [gName, tSeq, tAsg, tNext]
      refine if_f (H0 := H19) (Same.refl _) (ev_bool (ev_orB (ev_notB (ev_test (ev_leH AB.nf hok hok2 (ev_v rfl hp19) (ev_v rfl hq19)))) fun _ => ev_orB (ev_notB (ev_test (ev_geH AB.nf hok2 hok (ev_v rfl hq19) (ev_v rfl hp19)))) fun _ => ev_orB (ev_notB (ev_test (ev_leH AB.nf hok okA (ev_v rfl hp19) (ev_anH hok hok2 (ev_v rfl hp19) (ev_v rfl hq19))))) fun _ => ev_orB (ev_notB (ev_test (ev_leH AB.nf okA hok2 (ev_anH hok hok2 (ev_v rfl hp19) (ev_v rfl hq19)) (ev_v rfl hq19)))) fun _ => ev_orB (ev_notB (ev_test (ev_leH AB.nf hok3 hok (ev_v rfl ha19) (ev_v rfl hp19)))) fun _ => ev_notB (ev_test (ev_leH AB.nf hok hok3 (ev_v rfl hp19) (ev_v rfl ha19)))) (by rw [more_noMore more2 hok, more_noMore more4.1 hok, more_noMore more4.2 okA, more_noMore more_twice hok3, more_noMore more3 hok]; rfl)) fun H20 s20 => ?_
      have P20 := (((P16.then s17).then s18).then s19).then s20
      have hp20 := up s20 hp19
      have hq20 := up s20 hq19
      have ha20 := up s20 ha19
      have ht20 := up s20 ht19
      try dsimp only [gName, tSeq, tAsg, tNext]
      refine ⟨3, rfl, by decide, by decide, for_range (lo := 0) (n := 3) (fun j σ H' => (∃ o8 o9 o10 o11 : Option V, σ = [some (.ref a), some (.int (0 + (i : Nat))), some (.ref b), some xh, some (.ref t3), some xp, some xq, some xa, o8, o9, o10, o11]) ∧ Pre b H20 H') ⟨⟨_, _, _, _, rfl⟩, P20.id⟩ ?_ ?_⟩
      · rintro j σ HA hj ⟨⟨o8, o9, o10, o11, rfl⟩, pA⟩
        have PA := P20.trans pA
        have hpA := upP P20.id pA hp20
        have hqA := upP P20.id pA hq20
        have haA := upP P20.id pA ha20
        have htA := upP P20.id pA ht20
        try dsimp only [gName, tSeq, tAsg, tNext]
        refine evp_hist (H0 := HA) (b := b) (K := K) (cm := cm) (h := h) (xh := xh) rfl rfl hok PA.id htA (evp_addc (m := 10) (d := 3) (evp_chooseW rfl (by decide) (evp_w (m := 10) (evp_pure fun _ _ => ev_int) ⟨by decide, by decide⟩))) HA _ PA.id fun xg HB pB hgB => ?_
        obtain ⟨ms2, bk, hgB, mo, lm2, pl⟩ := hgB
        have hpB := upP PA.id pB hpA
        have hqB := upP PA.id pB hqA
        have haB := upP PA.id pB haA
        have htB := upP PA.id pB htA
        try dsimp only [gName, tSeq, tAsg, tNext]
        refine ev_play (H0 := HB) (K := K) (c := c) (cm := cm) (CH := CH) (CE := CE) (CB := CB) (CR := CR) hok mo (by omega) pl (ev_v rfl hpB) (ev_v rfl hgB) HB _ (Same.refl _) fun xb HC sC _ hkC => ?_
        have hpC := up sC hpB
        have hqC := up sC hqB
        have haC := up sC haB
        have htC := up sC htB
        have hgC := up sC hgB
        try dsimp only [gName, tSeq, tAsg, tNext]
        refine tup_go ?_
        refine ⟨_, rfl, _, rfl, ?_⟩
        refine ev_anH (H0 := HC) (K := K) hok hok2 (ev_v rfl hpC) (ev_v rfl hqC) HC _ (Same.refl _) fun y3 HD sD _ hy3 => ?_
        have hpD := up sD hpC
        refine ev_read (H0 := HD) (K := K) (c := c) (C := CH) (CT := CT) hok (ev_cb1 (Ra := HsA K c CH h) (R := isSv h.text) (ev_v rfl hpD) fun x G Q w hx kk => ⟨x, h, rfl, hx, hok, fun G' s => kk _ G' s (w.trans s) rfl⟩) HD _ (Same.refl _) fun y4 HE sE _ hy4 => ?_
        have htE := up sE (up sD htC)
        have hpE := up sE hpD
        refine ev_ht0 (H0 := HE) (K := K) (h := h) (ev_v rfl htE) HE _ (Same.refl _) fun z1 HF1 sF1 _ ez1 => ?_
        cases ez1
        refine ev_ht1 (H0 := HF1) (K := K) (h := h) (ev_v rfl (up sF1 htE)) HF1 _ (Same.refl _) fun z2 HF2 sF2 _ ez2 => ?_
        cases ez2
        obtain ⟨px, pdx, pq, pus, rfl, hpx, hpq, hpl⟩ := up (sF1.trans sF2) hpE
        refine ⟨_, rfl, px, CH, pdx, _, _, rfl, hpx, L.cl, L.rs, hs_rs .., ?_⟩
        refine fun y dy ny ndy _ => mk_houseK (h := h) hpq hpl hok ny ndy fun HG sG hy5 => ⟨rfl, ?_⟩
        refine ⟨(by show 5 ≤ sizeLine; decide), fun t5 nt5 => ⟨t5, rfl, ⟨_, SqT.of upd_same⟩, ?_⟩⟩
        have sT : Same HG (upd HG t5 (.tup [xq, xa, y3, y4, .ref y])) := Same.new nt5
        have hT : upd HG t5 (.tup [xq, xa, y3, y4, .ref y]) t5 = some (.tup [xq, xa, y3, y4, .ref y]) := upd_same
        have S2 : Same HE HG := (sF1.trans sF2).trans sG
        have SC : Same HC (upd HG t5 (.tup [xq, xa, y3, y4, .ref y])) := ((sD.trans sE).trans S2).trans sT
        have all5 : ∀ x ∈ [xq, xa, y3, y4, .ref y], ∃ g, More h g ∧ g.ok ∧ HsA K c CH g x (upd HG t5 (.tup [xq, xa, y3, y4, .ref y])) := fun x hx => by
          simp only [List.mem_cons, List.not_mem_nil, or_false] at hx
          rcases hx with rfl | rfl | rfl | rfl | rfl
          · exact ⟨_, more2, hok2, up SC hqC⟩
          · exact ⟨_, more3, hok3, up SC haC⟩
          · exact ⟨_, more4.1, okA, up ((sE.trans S2).trans sT) hy3⟩
          · exact ⟨_, More.refl h, hok, up (S2.trans sT) hy4⟩
          · exact ⟨_, More.refl h, hok, up sT (show HsA K c CH h (.ref y) HG from hy5)⟩
        generalize upd HG t5 (.tup [xq, xa, y3, y4, .ref y]) = HT at hT SC all5 ⊢
        have hgT := up SC hgC
        have hkT := up SC hkC
        generalize [xq, xa, y3, y4, .ref y] = ys at hT all5
        refine for_tup (K := K) (a := t5) (xs := ys) (fun i2 σ H' => (∃ o11 : Option V, σ = [some (.ref a), some (.int (0 + (i : Nat))), some (.ref b), some xh, some (.ref t3), some (.ref px), some xq, some xa, some (.int (0 + (j : Nat))), some xg, some xb, o11]) ∧ Same HT H') ⟨⟨_, rfl⟩, Same.refl _⟩ (fun i2 σ Hh _ z => SqT.of (z.2 _ _ hT)) ?_ ?_
        · rintro i2 x σ Hh hi2 ⟨⟨o11, rfl⟩, sh⟩
          obtain ⟨g, mg2, gok, hx⟩ := all5 x (List.mem_of_getElem? hi2)
          have hxh := up sh hx
          try dsimp only [gName, tSeq, tAsg, tNext]
          refine if_f (H0 := Hh) (Same.refl _) (ev_bool (ev_test (ev_neBk (b := bk) (d := bk) (neg := true) OB.nf (ev_play (K := K) (c := c) (cm := cm) (CH := CH) (CE := CE) (CB := CB) (CR := CR) gok mo (by omega) (play_more mg2 d0 pl) (ev_v rfl hxh) (ev_v rfl (up sh hgT))) (ev_v rfl (up sh hkT)))) (by rw [decide_eq_true rfl]; rfl)) fun Hi si => ?_
          exact ⟨⟨_, rfl⟩, sh.trans si⟩
        · rintro σ Hh ⟨⟨o11, rfl⟩, sh⟩
          exact ⟨⟨_, _, _, _, rfl⟩, (pA.trans pB).then (sC.trans (SC.trans sh))⟩
      · rintro σ HA ⟨⟨o8, o9, o10, o11, rfl⟩, pA⟩
        exact ⟨⟨_, _, _, _, _, _, _, _, _, _, _, rfl⟩, fun c o e => (P20.trans pA).1 _ _ (ne_of_none e hb0) (s1 c o e)⟩
    · rintro σ H0 ⟨⟨o1, o2, o3, o4, o5, o6, o7, o8, o9, o10, o11, rfl⟩, s0⟩
      exact k _
end
end V3

set_option Elab.async false
set_option linter.all false
set_option maxRecDepth 100000
namespace V3
open PySem L2 TL
abbrev sMvText : Stmt := top 71
section
variable {P : Program} {w : World} {K : PySem.W.Frag} {mg : Str → Option Value} {base : Heap}
theorem scMvText : FnScope ["_law_move"] ["_law_move"] (defScope sMvText) := ⟨rfl, rfl, rfl, by decide +kernel, rfl, by decide +kernel, by decide +kernel⟩
/-- the law's own text of a move -/
theorem app0 (x : Str) : x ++ Str.empty = x := ext_tl (by
  rw [tl_append]
  simp [Str.empty, tl])
theorem empty_app (x : Str) : Str.empty ++ x = x := ext_tl (by
  rw [tl_append]
  simp [Str.empty, tl])
theorem ok_mvText {f : Addr} {fd : FuncData} (F : Fun K "_law_move_text" "_law_move_text" sMvText f fd) (zs : mg "str" = none) : FnOk P w K mg base CX0 1 f fd ["_law_move"] spText := by
  refine F.ok scMvText (fun vs H Q E h => ?_) (fun cdv A outer s H vs Q E hr h => ?_)
  · obtain ⟨v, m, rfl, _⟩ := h
    rfl
  · obtain ⟨v, m, rfl, ⟨p, rfl, hp⟩, ok, q⟩ := h
    refine ⟨_, pss_cons (ps_if (pt_cmpR op_eq (pe_ix ix_tup (pv 0) pe_int (fun _ _ => rfl)) pe_str (nomark _)) (pss_one (ps_ret (pe_op op_add_str pe_str (pe_callTy call_str_int (by rfl) zs (by decide +kernel) (pa_cons (pe_ix ix_tup (pv 0) pe_int (fun _ _ => rfl)) pa_nil))))) pss_nil)
      (pss_cons (ps_if (pt_cmpR op_eq (pe_ix ix_tup (pv 0) pe_int (fun _ _ => rfl)) pe_str (nomark _)) (pss_one (ps_ret pe_str)) pss_nil)
      (pss_cons (ps_if (pt_cmpR op_eq (pe_ix ix_tup (pv 0) pe_int (fun _ _ => rfl)) pe_str (nomark _)) (pss_one (ps_ret (pe_op op_add_str (pe_op op_add_str pe_str (pe_callTy call_str_int (by rfl) zs (by decide +kernel) (pa_cons (pe_ix ix_tup (pv 0) pe_int (fun _ _ => rfl)) pa_nil)))
          (pe_ifExp (pt_cmpR op_gt (pe_ix ix_tup (pv 0) pe_int (fun _ _ => rfl)) pe_int (nomark _)) (pe_op op_add_str pe_str (pe_callTy call_str_int (by rfl) zs (by decide +kernel) (pa_cons (pe_ix ix_tup (pv 0) pe_int (fun _ _ => rfl)) pa_nil))) pe_str)))) pss_nil)
      (pss_one (ps_ret (pe_op op_add_str (pe_op op_add_str (pe_op op_add_str pe_str (pe_callTy call_str_int (by rfl) zs (by decide +kernel) (pa_cons (pe_ix ix_tup (pv 0) pe_int (fun _ _ => rfl)) pa_nil))) pe_str) (pe_callTy call_str_int (by rfl) zs (by decide +kernel) (pa_cons (pe_ix ix_tup (pv 0) pe_int (fun _ _ => rfl)) pa_nil))))))), ?_⟩
    have hS : SqT K H p m.tupV := SqT.of hp
    have e1 : decide (V.str "take" = V.str "begin") = false := by decide +kernel
    have e2 : decide (V.str "take" = V.str "shut") = false := by decide +kernel
    have e4 : decide (V.str "right" = V.str "begin") = false := by decide +kernel
    have e5 : decide (V.str "right" = V.str "shut") = false := by decide +kernel
    have e7 : decide (V.str "right" = V.str "take") = false := by decide +kernel
    have e6 : decide (V.str "shut" = V.str "begin") = false := by decide +kernel
    have l1 : ("begin " : Str).length = 6 := by decide +kernel
    have l2 : ("take " : Str).length = 5 := by decide +kernel
    have l3 : (" by " : Str).length = 4 := by decide +kernel
    have l4 : ("right " : Str).length = 6 := by decide +kernel
    have l5 : (" to " : Str).length = 4 := by decide +kernel
    rcases m with a | t | ⟨t, a⟩ | ⟨t, a⟩ | _
    · have la := num_len (am_of ok)
      refine ⟨_, rfl, p, _, 0, _, rfl, rfl, hS, rfl, rfl, _, rfl, ?_⟩
      rw [decide_eq_true rfl]
      refine iteT ⟨_, rfl, p, _, 1, _, rfl, rfl, hS, rfl, a, rfl, am_log (am_of ok), _, _, rfl, rfl, small ?_, ?_⟩
      · show ("begin " : Str).length + (num a).length ≤ 10000
        omega
      · rw [← b_text] at q
        unfold bText at q
        rw [empty_app] at q
        exact q
    · have lt := num_len (at_am ok)
      refine ⟨_, rfl, p, _, 0, _, rfl, rfl, hS, rfl, rfl, _, rfl, ?_⟩
      rw [e1]
      refine iteF ⟨_, rfl, p, _, 0, _, rfl, rfl, hS, rfl, rfl, _, rfl, ?_⟩
      rw [e2]
      refine iteF ⟨_, rfl, p, _, 0, _, rfl, rfl, hS, rfl, rfl, _, rfl, ?_⟩
      rw [decide_eq_true rfl]
      refine iteT ⟨_, rfl, p, _, 1, _, rfl, rfl, hS, rfl, t, rfl, am_log (at_am ok), _, _, rfl, rfl, small ?_, ?_⟩
      · show ("take " : Str).length + (num t).length ≤ 10000
        omega
      · refine ⟨_, rfl, p, _, 2, _, rfl, rfl, hS, rfl, _, _, rfl, rfl, _, rfl, ?_⟩
        rw [decide_eq_false (by omega)]
        refine iteF ⟨_, _, rfl, rfl, small ?_, ?_⟩
        · show ("take " ++ num t : Str).length + (Str.empty).length ≤ 10000
          rw [app_len]
          have e0 : (Str.empty).length = 0 := rfl
          omega
        · rw [← t_text] at q
          unfold tText at q
          rw [empty_app] at q
          have z : ("take " ++ num t ++ "" : Str) = "take " ++ num t := app0 _
          show Q (.str ("take " ++ num t ++ "")) H
          rw [z]
          exact q
    · have lt := num_len (at_am ok.1)
      have la := num_len (am_of ok.2)
      have a1 : 1 ≤ a := ok.2.1
      refine ⟨_, rfl, p, _, 0, _, rfl, rfl, hS, rfl, rfl, _, rfl, ?_⟩
      rw [e1]
      refine iteF ⟨_, rfl, p, _, 0, _, rfl, rfl, hS, rfl, rfl, _, rfl, ?_⟩
      rw [e2]
      refine iteF ⟨_, rfl, p, _, 0, _, rfl, rfl, hS, rfl, rfl, _, rfl, ?_⟩
      rw [decide_eq_true rfl]
      refine iteT ⟨_, rfl, p, _, 1, _, rfl, rfl, hS, rfl, t, rfl, am_log (at_am ok.1), _, _, rfl, rfl, small ?_, ?_⟩
      · show ("take " : Str).length + (num t).length ≤ 10000
        omega
      · refine ⟨_, rfl, p, _, 2, _, rfl, rfl, hS, rfl, _, _, rfl, rfl, _, rfl, ?_⟩
        rw [decide_eq_true (by omega)]
        refine iteT ⟨_, rfl, p, _, 2, _, rfl, rfl, hS, rfl, a, rfl, am_log (am_of ok.2), _, _, rfl, rfl, small ?_, _, _, rfl, rfl, small ?_, ?_⟩
        · show (" by " : Str).length + (num a).length ≤ 10000
          omega
        · show ("take " ++ num t : Str).length + (" by " ++ num a : Str).length ≤ 10000
          rw [app_len, app_len]
          omega
        · rw [← tb_text] at q
          unfold tbText at q
          rw [empty_app] at q
          have z : ("take " ++ num t ++ (" by " ++ num a) : Str) = "take " ++ num t ++ " by " ++ num a := ext_tl (by
            simp only [tl_append, List.append_assoc])
          show Q (.str ("take " ++ num t ++ (" by " ++ num a))) H
          rw [z]
          exact q
    · have lt := num_len (at_am ok.1)
      have la := num_len (am_of ok.2)
      refine ⟨_, rfl, p, _, 0, _, rfl, rfl, hS, rfl, rfl, _, rfl, ?_⟩
      rw [e4]
      refine iteF ⟨_, rfl, p, _, 0, _, rfl, rfl, hS, rfl, rfl, _, rfl, ?_⟩
      rw [e5]
      refine iteF ⟨_, rfl, p, _, 0, _, rfl, rfl, hS, rfl, rfl, _, rfl, ?_⟩
      rw [e7]
      refine iteF ⟨_, rfl, p, _, 1, _, rfl, rfl, hS, rfl, t, rfl, am_log (at_am ok.1), _, _, rfl, rfl, small ?_, _, _, rfl, rfl, small ?_, ?_⟩
      · show ("right " : Str).length + (num t).length ≤ 10000
        omega
      · show ("right " ++ num t : Str).length + (" to " : Str).length ≤ 10000
        rw [app_len]
        omega
      · refine ⟨_, rfl, p, _, 2, _, rfl, rfl, hS, rfl, a, rfl, am_log (am_of ok.2), _, _, rfl, rfl, small ?_, ?_⟩
        · show ("right " ++ num t ++ " to " : Str).length + (num a).length ≤ 10000
          rw [app_len, app_len]
          omega
        · rw [← r_text] at q
          unfold rText at q
          rw [empty_app] at q
          exact q
    · refine ⟨_, rfl, p, _, 0, _, rfl, rfl, hS, rfl, rfl, _, rfl, ?_⟩
      rw [e6]
      refine iteF ⟨_, rfl, p, _, 0, _, rfl, rfl, hS, rfl, rfl, _, rfl, ?_⟩
      rw [decide_eq_true rfl]
      have e : Mv.shut.text = "shut" := by decide +kernel
      rw [e] at q
      exact iteT q
end
end V3

set_option Elab.async false
set_option maxHeartbeats 4000000
set_option linter.all false
set_option maxRecDepth 100000
namespace V3
open PySem L2
theorem kit_ref {K : PySem.W.Frag} {t C : Addr} {b : Bool} (h1 : PySem.W.isClsIn K C = true) (h2 : PySem.W.typeIn K (.ref C) = some (.type "type")) (h3 : PySem.W.subIn K (.ref t) (.ref C) = some b) (h4 : PySem.W.subIn K (.ref t) (.ref t) = some true) :
    PySem.W.kitOne K (.ref t) (.ref C) = some b := by
  unfold PySem.W.kitOne
  by_cases e : t = C
  · subst e
    rw [h4] at h3
    injection h3 with h3
    subst h3
    rw [if_pos (by simp)]
  · have n : (Value.ref t == Value.ref C) = false := by
      refine Bool.eq_false_iff.mpr fun q => e ?_
      exact Value.ref.inj (beq_iff_eq.mp q)
    rw [n, if_neg Bool.false_ne_true]
    have q : ((PySem.W.clsIn K C).isSome && PySem.W.typeIn K (.ref C) == some (.type "type")) = true := by
      have z : (PySem.W.clsIn K C).isSome = true := h1
      rw [z, h2] <;> rfl
    show (if ((PySem.W.clsIn K C).isSome && PySem.W.typeIn K (.ref C) == some (.type "type")) = true then PySem.W.subIn K (.ref t) (.ref C) else none) = some b
    rw [if_pos q]
    exact h3
theorem kit_base {K : PySem.W.Frag} {t : String} {C : Addr} {b : Bool} (h1 : PySem.W.isClsIn K C = true) (h2 : PySem.W.typeIn K (.ref C) = some (.type "type")) (h3 : PySem.W.subIn K (.type t) (.ref C) = some b) :
    PySem.W.kitOne K (.type t) (.ref C) = some b := by
  unfold PySem.W.kitOne
  have n : (Value.type t == Value.ref C) = false := by
    refine Bool.eq_false_iff.mpr fun q => ?_
    cases beq_iff_eq.mp q
  rw [n, if_neg Bool.false_ne_true]
  have q : ((PySem.W.clsIn K C).isSome && PySem.W.typeIn K (.ref C) == some (.type "type")) = true := by
    have z : (PySem.W.clsIn K C).isSome = true := h1
    rw [z, h2] <;> rfl
  show (if ((PySem.W.clsIn K C).isSome && PySem.W.typeIn K (.ref C) == some (.type "type")) = true then PySem.W.subIn K (.type t) (.ref C) else none) = some b
  rw [if_pos q]
  exact h3
theorem kit_rt {K : PySem.W.Frag} {T : String} {C : Addr} {b : Bool} (hm : PySem.W.kitMeta T = true) (h3 : PySem.W.subIn K (.ref C) (.type T) = some b) : PySem.W.kitOne K (.ref C) (.type T) = some b := by
  unfold PySem.W.kitOne
  rw [if_neg (by intro z; cases (beq_iff_eq.mp z))]
  show (if PySem.W.kitMeta T = true then PySem.W.subIn K (.ref C) (.type T) else none) = some b
  rw [if_pos hm]
  exact h3
theorem nf_same {K : PySem.W.Frag} {C : Addr} : PySem.W.notFirst K C (.ref C) = true := by simp [PySem.W.notFirst]
theorem nf_other {K : PySem.W.Frag} {C D : Addr} (h : PySem.W.subIn K (.ref D) (.ref C) = some false) : PySem.W.notFirst K C (.ref D) = true := by
  unfold PySem.W.notFirst
  rw [h]
  simp
theorem nf_type {K : PySem.W.Frag} {C : Addr} {t : String} (h : PySem.W.subIn K (.type t) (.ref C) = some false) : PySem.W.notFirst K C (.type t) = true := by
  unfold PySem.W.notFirst
  rw [h]
  simp
theorem all_mk {l : PySem.W.OpenLaw} {w : World} {K : PySem.W.Frag} {h : Heap} {mg : Str → Option Value} {fa f_int f_num f_ww f_isr f_seed f_choose f_one f_rows f_ho f_ht f_rr f_cs f_sh f_nm f_law f_em f_lf f_dp f_lk f_pc f_lm f_ltk f_lrg f_do f_mt f_lt f_dm f_hy LC HC f_li f_ls f_hi e_hi f_hs f_pl f_an f_le f_ge KA SA DA PA KK DL LA CT f_it pr f_rd f_amt f_rn f_ism f_rms f_rm f_mo CM MV BC TC RC SC YC f_im f_bi f_ti f_ri f_yi e_yi py f_yr f_play f_along f_after f_mby f_tkn f_rtd f_mf f_oa f_lof EC BK f_ei f_eq f_kl f_kd f_kk f_kr f_kn f_kg f_kq f_ki CR f_rf : Addr} (X : K.In h) (G : h.Ns mainGlobals mg) (hfa : mg "law" = some (.ref fa))
    {od_f_int an_f_int : Option Addr} {sl_f_int : Array (Option Value)} {oc_f_int kV_f_int dc_f_int pm_f_int cd_f_int ct_f_int : Value}
    {od_f_num an_f_num : Option Addr} {sl_f_num : Array (Option Value)} {oc_f_num kV_f_num dc_f_num pm_f_num cd_f_num ct_f_num : Value}
    {od_f_ww an_f_ww : Option Addr} {sl_f_ww : Array (Option Value)} {oc_f_ww kV_f_ww dc_f_ww pm_f_ww cd_f_ww ct_f_ww : Value}
    {od_f_isr an_f_isr : Option Addr} {sl_f_isr : Array (Option Value)} {oc_f_isr kV_f_isr dc_f_isr pm_f_isr cd_f_isr ct_f_isr : Value}
    {od_f_seed an_f_seed : Option Addr} {sl_f_seed : Array (Option Value)} {oc_f_seed kV_f_seed dc_f_seed pm_f_seed cd_f_seed ct_f_seed : Value}
    {od_f_choose an_f_choose : Option Addr} {sl_f_choose : Array (Option Value)} {oc_f_choose kV_f_choose dc_f_choose pm_f_choose cd_f_choose ct_f_choose : Value}
    {od_f_one an_f_one : Option Addr} {sl_f_one : Array (Option Value)} {oc_f_one kV_f_one dc_f_one pm_f_one cd_f_one ct_f_one : Value}
    {od_f_rows an_f_rows : Option Addr} {sl_f_rows : Array (Option Value)} {oc_f_rows kV_f_rows dc_f_rows pm_f_rows cd_f_rows ct_f_rows : Value}
    {od_f_ho an_f_ho : Option Addr} {sl_f_ho : Array (Option Value)} {oc_f_ho kV_f_ho dc_f_ho pm_f_ho cd_f_ho ct_f_ho : Value}
    {od_f_ht an_f_ht : Option Addr} {sl_f_ht : Array (Option Value)} {oc_f_ht kV_f_ht dc_f_ht pm_f_ht cd_f_ht ct_f_ht : Value}
    {od_f_rr an_f_rr : Option Addr} {sl_f_rr : Array (Option Value)} {oc_f_rr kV_f_rr dc_f_rr pm_f_rr cd_f_rr ct_f_rr : Value}
    {od_f_cs an_f_cs : Option Addr} {sl_f_cs : Array (Option Value)} {oc_f_cs kV_f_cs dc_f_cs pm_f_cs cd_f_cs ct_f_cs : Value}
    {od_f_sh an_f_sh : Option Addr} {sl_f_sh : Array (Option Value)} {oc_f_sh kV_f_sh dc_f_sh pm_f_sh cd_f_sh ct_f_sh : Value}
    {od_f_nm an_f_nm : Option Addr} {sl_f_nm : Array (Option Value)} {oc_f_nm kV_f_nm dc_f_nm pm_f_nm cd_f_nm ct_f_nm : Value}
    {od_f_law an_f_law : Option Addr} {sl_f_law : Array (Option Value)} {oc_f_law kV_f_law dc_f_law pm_f_law cd_f_law ct_f_law : Value}
    {od_f_em an_f_em : Option Addr} {sl_f_em : Array (Option Value)} {oc_f_em kV_f_em dc_f_em pm_f_em cd_f_em ct_f_em : Value}
    {od_f_lf an_f_lf : Option Addr} {sl_f_lf : Array (Option Value)} {oc_f_lf kV_f_lf dc_f_lf pm_f_lf cd_f_lf ct_f_lf : Value}
    {od_f_dp an_f_dp : Option Addr} {sl_f_dp : Array (Option Value)} {oc_f_dp kV_f_dp dc_f_dp pm_f_dp cd_f_dp ct_f_dp : Value}
    {od_f_lk an_f_lk : Option Addr} {sl_f_lk : Array (Option Value)} {oc_f_lk kV_f_lk dc_f_lk pm_f_lk cd_f_lk ct_f_lk : Value}
    {od_f_pc an_f_pc : Option Addr} {sl_f_pc : Array (Option Value)} {oc_f_pc kV_f_pc dc_f_pc pm_f_pc cd_f_pc ct_f_pc : Value}
    {od_f_lm an_f_lm : Option Addr} {sl_f_lm : Array (Option Value)} {oc_f_lm kV_f_lm dc_f_lm pm_f_lm cd_f_lm ct_f_lm : Value}
    {od_f_ltk an_f_ltk : Option Addr} {sl_f_ltk : Array (Option Value)} {oc_f_ltk kV_f_ltk dc_f_ltk pm_f_ltk cd_f_ltk ct_f_ltk : Value}
    {od_f_lrg an_f_lrg : Option Addr} {sl_f_lrg : Array (Option Value)} {oc_f_lrg kV_f_lrg dc_f_lrg pm_f_lrg cd_f_lrg ct_f_lrg : Value}
    {od_f_do an_f_do : Option Addr} {sl_f_do : Array (Option Value)} {oc_f_do kV_f_do dc_f_do pm_f_do cd_f_do ct_f_do : Value}
    {od_f_mt an_f_mt : Option Addr} {sl_f_mt : Array (Option Value)} {oc_f_mt kV_f_mt dc_f_mt pm_f_mt cd_f_mt ct_f_mt : Value}
    {od_f_lt an_f_lt : Option Addr} {sl_f_lt : Array (Option Value)} {oc_f_lt kV_f_lt dc_f_lt pm_f_lt cd_f_lt ct_f_lt : Value}
    {od_f_dm an_f_dm : Option Addr} {sl_f_dm : Array (Option Value)} {oc_f_dm kV_f_dm dc_f_dm pm_f_dm cd_f_dm ct_f_dm : Value}
    {od_f_hy an_f_hy : Option Addr} {sl_f_hy : Array (Option Value)} {oc_f_hy kV_f_hy dc_f_hy pm_f_hy cd_f_hy ct_f_hy : Value}
    {od_f_li an_f_li : Option Addr} {sl_f_li : Array (Option Value)} {oc_f_li kV_f_li dc_f_li pm_f_li cd_f_li ct_f_li : Value}
    {od_f_ls an_f_ls : Option Addr} {sl_f_ls : Array (Option Value)} {oc_f_ls kV_f_ls dc_f_ls pm_f_ls cd_f_ls ct_f_ls : Value}
    {od_f_hi an_f_hi dd_f_hi : Option Addr} {sl_f_hi ds_f_hi : Array (Option Value)} {oc_f_hi kV_f_hi dc_f_hi pm_f_hi cd_f_hi ct_f_hi : Value} {T_f_hi : Addr} {n_f_hi : Nat}
    {dd_e : Option Addr} {n_e : Nat} {ds_e : Array (Option Value)}
    {od_f_hs an_f_hs : Option Addr} {sl_f_hs : Array (Option Value)} {oc_f_hs kV_f_hs dc_f_hs pm_f_hs cd_f_hs ct_f_hs : Value}
    {od_f_pl an_f_pl : Option Addr} {sl_f_pl : Array (Option Value)} {oc_f_pl kV_f_pl dc_f_pl pm_f_pl cd_f_pl ct_f_pl : Value}
    {od_f_an an_f_an : Option Addr} {sl_f_an : Array (Option Value)} {oc_f_an kV_f_an dc_f_an pm_f_an cd_f_an ct_f_an : Value}
    {od_f_le an_f_le : Option Addr} {sl_f_le : Array (Option Value)} {oc_f_le kV_f_le dc_f_le pm_f_le cd_f_le ct_f_le : Value}
    {od_f_ge an_f_ge : Option Addr} {sl_f_ge : Array (Option Value)} {oc_f_ge kV_f_ge dc_f_ge pm_f_ge cd_f_ge ct_f_ge : Value}
    {t0_KA t1_KA t2_KA t3_KA : Tok} {dd_KA : Option Addr} {n_KA : Nat} {ds_KA : Array (Option Value)}
    {t0_SA t1_SA : Tok} {dd_SA : Option Addr} {n_SA : Nat} {ds_SA : Array (Option Value)}
    {t0_DA t1_DA t2_DA : Tok} {dd_DA : Option Addr} {n_DA : Nat} {ds_DA : Array (Option Value)}
    {t0_PA t1_PA : Tok} {dd_PA : Option Addr} {n_PA : Nat} {ds_PA : Array (Option Value)}
    {t0_KK t1_KK : Tok} {dd_KK : Option Addr} {n_KK : Nat} {ds_KK : Array (Option Value)}
    {t0_DL t1_DL t2_DL t3_DL t4_DL : Tok} {dd_DL : Option Addr} {n_DL : Nat} {ds_DL : Array (Option Value)}
    {t0_LA t1_LA : Tok} {dd_LA : Option Addr} {n_LA : Nat} {ds_LA : Array (Option Value)}
    {nm_CT q_CT : Str} {N_CT : Addr} {bs_CT bm_CT : List Value} {sn_CT : List Str} {sub_CT : List Value} {ab_CT : Bool} {col_CT : Option Bool} {dd_CT : Option Addr} {m0_CT m1_CT m2_CT m3_CT m5_CT : Option Value}
    {od_f_it an_f_it : Option Addr} {sl_f_it : Array (Option Value)} {oc_f_it kV_f_it dc_f_it pm_f_it cd_f_it ct_f_it : Value}
    {rest_rd : List Value}
    {od_f_rd an_f_rd : Option Addr} {sl_f_rd : Array (Option Value)} {oc_f_rd kV_f_rd dc_f_rd pm_f_rd cd_f_rd ct_f_rd : Value}
    {od_f_amt an_f_amt : Option Addr} {sl_f_amt : Array (Option Value)} {oc_f_amt kV_f_amt dc_f_amt pm_f_amt cd_f_amt ct_f_amt : Value}
    {od_f_rn an_f_rn : Option Addr} {sl_f_rn : Array (Option Value)} {oc_f_rn kV_f_rn dc_f_rn pm_f_rn cd_f_rn ct_f_rn : Value}
    {od_f_ism an_f_ism : Option Addr} {sl_f_ism : Array (Option Value)} {oc_f_ism kV_f_ism dc_f_ism pm_f_ism cd_f_ism ct_f_ism : Value}
    {od_f_rms an_f_rms : Option Addr} {sl_f_rms : Array (Option Value)} {oc_f_rms kV_f_rms dc_f_rms pm_f_rms cd_f_rms ct_f_rms : Value}
    {od_f_rm an_f_rm : Option Addr} {sl_f_rm : Array (Option Value)} {oc_f_rm kV_f_rm dc_f_rm pm_f_rm cd_f_rm ct_f_rm : Value}
    {od_f_mo an_f_mo : Option Addr} {sl_f_mo : Array (Option Value)} {oc_f_mo kV_f_mo dc_f_mo pm_f_mo cd_f_mo ct_f_mo : Value}
    {nm_CM q_CM : Str} {N_CM : Addr} {bs_CM bm_CM : List Value} {sn_CM : List Str} {sub_CM : List Value} {ab_CM : Bool} {col_CM : Option Bool} {dd_CM : Option Addr} {m0_CM m1_CM m2_CM m3_CM m5_CM : Option Value}
    {od_f_im an_f_im : Option Addr} {sl_f_im : Array (Option Value)} {oc_f_im kV_f_im dc_f_im pm_f_im cd_f_im ct_f_im : Value}
    {od_f_bi an_f_bi : Option Addr} {sl_f_bi : Array (Option Value)} {oc_f_bi kV_f_bi dc_f_bi pm_f_bi cd_f_bi ct_f_bi : Value}
    {od_f_ti an_f_ti dd_f_ti : Option Addr} {sl_f_ti ds_f_ti : Array (Option Value)} {oc_f_ti kV_f_ti dc_f_ti pm_f_ti cd_f_ti ct_f_ti : Value} {T_f_ti : Addr} {n_f_ti : Nat}
    {od_f_ri an_f_ri : Option Addr} {sl_f_ri : Array (Option Value)} {oc_f_ri kV_f_ri dc_f_ri pm_f_ri cd_f_ri ct_f_ri : Value}
    {od_f_yi an_f_yi dd_f_yi : Option Addr} {sl_f_yi ds_f_yi : Array (Option Value)} {oc_f_yi kV_f_yi dc_f_yi pm_f_yi cd_f_yi ct_f_yi : Value} {T_f_yi : Addr} {n_f_yi : Nat}
    {rest_yr : List Value}
    {od_f_yr an_f_yr : Option Addr} {sl_f_yr : Array (Option Value)} {oc_f_yr kV_f_yr dc_f_yr pm_f_yr cd_f_yr ct_f_yr : Value}
    {od_f_play an_f_play : Option Addr} {sl_f_play : Array (Option Value)} {oc_f_play kV_f_play dc_f_play pm_f_play cd_f_play ct_f_play : Value}
    {od_f_along an_f_along : Option Addr} {sl_f_along : Array (Option Value)} {oc_f_along kV_f_along dc_f_along pm_f_along cd_f_along ct_f_along : Value}
    {od_f_after an_f_after : Option Addr} {sl_f_after : Array (Option Value)} {oc_f_after kV_f_after dc_f_after pm_f_after cd_f_after ct_f_after : Value}
    {od_f_mby an_f_mby : Option Addr} {sl_f_mby : Array (Option Value)} {oc_f_mby kV_f_mby dc_f_mby pm_f_mby cd_f_mby ct_f_mby : Value}
    {od_f_tkn an_f_tkn : Option Addr} {sl_f_tkn : Array (Option Value)} {oc_f_tkn kV_f_tkn dc_f_tkn pm_f_tkn cd_f_tkn ct_f_tkn : Value}
    {od_f_rtd an_f_rtd : Option Addr} {sl_f_rtd : Array (Option Value)} {oc_f_rtd kV_f_rtd dc_f_rtd pm_f_rtd cd_f_rtd ct_f_rtd : Value}
    {od_f_mf an_f_mf : Option Addr} {sl_f_mf : Array (Option Value)} {oc_f_mf kV_f_mf dc_f_mf pm_f_mf cd_f_mf ct_f_mf : Value}
    {od_f_oa an_f_oa : Option Addr} {sl_f_oa : Array (Option Value)} {oc_f_oa kV_f_oa dc_f_oa pm_f_oa cd_f_oa ct_f_oa : Value}
    {od_f_lof an_f_lof : Option Addr} {sl_f_lof : Array (Option Value)} {oc_f_lof kV_f_lof dc_f_lof pm_f_lof cd_f_lof ct_f_lof : Value}
    {od_f_ei an_f_ei : Option Addr} {sl_f_ei : Array (Option Value)} {oc_f_ei kV_f_ei dc_f_ei pm_f_ei cd_f_ei ct_f_ei : Value}
    {od_f_eq an_f_eq : Option Addr} {sl_f_eq : Array (Option Value)} {oc_f_eq kV_f_eq dc_f_eq pm_f_eq cd_f_eq ct_f_eq : Value}
    {od_f_kl an_f_kl : Option Addr} {sl_f_kl : Array (Option Value)} {oc_f_kl kV_f_kl dc_f_kl pm_f_kl cd_f_kl ct_f_kl : Value}
    {od_f_kd an_f_kd : Option Addr} {sl_f_kd : Array (Option Value)} {oc_f_kd kV_f_kd dc_f_kd pm_f_kd cd_f_kd ct_f_kd : Value}
    {od_f_kk an_f_kk : Option Addr} {sl_f_kk : Array (Option Value)} {oc_f_kk kV_f_kk dc_f_kk pm_f_kk cd_f_kk ct_f_kk : Value}
    {od_f_kr an_f_kr : Option Addr} {sl_f_kr : Array (Option Value)} {oc_f_kr kV_f_kr dc_f_kr pm_f_kr cd_f_kr ct_f_kr : Value}
    {od_f_kn an_f_kn : Option Addr} {sl_f_kn : Array (Option Value)} {oc_f_kn kV_f_kn dc_f_kn pm_f_kn cd_f_kn ct_f_kn : Value}
    {od_f_kg an_f_kg : Option Addr} {sl_f_kg : Array (Option Value)} {oc_f_kg kV_f_kg dc_f_kg pm_f_kg cd_f_kg ct_f_kg : Value}
    {od_f_kq an_f_kq : Option Addr} {sl_f_kq : Array (Option Value)} {oc_f_kq kV_f_kq dc_f_kq pm_f_kq cd_f_kq ct_f_kq : Value}
    {od_f_ki an_f_ki : Option Addr} {sl_f_ki : Array (Option Value)} {oc_f_ki kV_f_ki dc_f_ki pm_f_ki cd_f_ki ct_f_ki : Value}
    {nm_CR q_CR : Str} {N_CR : Addr} {bs_CR bm_CR : List Value} {sn_CR : List Str} {sub_CR : List Value} {ab_CR : Bool} {col_CR : Option Bool} {dd_CR : Option Addr} {m0_CR m1_CR m2_CR m3_CR m5_CR : Option Value}
    {od_f_rf an_f_rf : Option Addr} {sl_f_rf : Array (Option Value)} {oc_f_rf kV_f_rf dc_f_rf pm_f_rf cd_f_rf ct_f_rf : Value}
    (g_f_int : PySem.W.nsIn K mainGlobals "is_integer" = some (some (.ref f_int)))
    (l_f_int : K.lookup f_int = some ⟨oc_f_int, od_f_int, .func (PySem.W.fnOf "is_integer" "is_integer" (defArgs sIsInt) (defBody sIsInt) (defScope sIsInt) .none kV_f_int dc_f_int pm_f_int an_f_int cd_f_int ct_f_int), sl_f_int⟩)
    (c_f_int : PySem.W.codeIn K cd_f_int "is_integer" = true)
    (k_f_int : PySem.W.keepIn K (.ref f_int) = true)
    (g_f_num : PySem.W.nsIn K mainGlobals "is_number" = some (some (.ref f_num)))
    (l_f_num : K.lookup f_num = some ⟨oc_f_num, od_f_num, .func (PySem.W.fnOf "is_number" "is_number" (defArgs sIsNum) (defBody sIsNum) (defScope sIsNum) .none kV_f_num dc_f_num pm_f_num an_f_num cd_f_num ct_f_num), sl_f_num⟩)
    (c_f_num : PySem.W.codeIn K cd_f_num "is_number" = true)
    (k_f_num : PySem.W.keepIn K (.ref f_num) = true)
    (g_f_ww : PySem.W.nsIn K mainGlobals "wrong_word" = some (some (.ref f_ww)))
    (l_f_ww : K.lookup f_ww = some ⟨oc_f_ww, od_f_ww, .func (PySem.W.fnOf "wrong_word" "wrong_word" (defArgs sWrongWord) (defBody sWrongWord) (defScope sWrongWord) .none kV_f_ww dc_f_ww pm_f_ww an_f_ww cd_f_ww ct_f_ww), sl_f_ww⟩)
    (c_f_ww : PySem.W.codeIn K cd_f_ww "wrong_word" = true)
    (k_f_ww : PySem.W.keepIn K (.ref f_ww) = true)
    (g_f_isr : PySem.W.nsIn K mainGlobals "is_rows" = some (some (.ref f_isr)))
    (l_f_isr : K.lookup f_isr = some ⟨oc_f_isr, od_f_isr, .func (PySem.W.fnOf "is_rows" "is_rows" (defArgs sIsRows) (defBody sIsRows) (defScope sIsRows) .none kV_f_isr dc_f_isr pm_f_isr an_f_isr cd_f_isr ct_f_isr), sl_f_isr⟩)
    (c_f_isr : PySem.W.codeIn K cd_f_isr "is_rows" = true)
    (k_f_isr : PySem.W.keepIn K (.ref f_isr) = true)
    (g_f_seed : PySem.W.nsIn K mainGlobals "_law_seed" = some (some (.ref f_seed)))
    (l_f_seed : K.lookup f_seed = some ⟨oc_f_seed, od_f_seed, .func (PySem.W.fnOf "_law_seed" "_law_seed" (defArgs sSeed) (defBody sSeed) (defScope sSeed) .none kV_f_seed dc_f_seed pm_f_seed an_f_seed cd_f_seed ct_f_seed), sl_f_seed⟩)
    (c_f_seed : PySem.W.codeIn K cd_f_seed "_law_seed" = true)
    (k_f_seed : PySem.W.keepIn K (.ref f_seed) = true)
    (g_f_choose : PySem.W.nsIn K mainGlobals "_law_choose" = some (some (.ref f_choose)))
    (l_f_choose : K.lookup f_choose = some ⟨oc_f_choose, od_f_choose, .func (PySem.W.fnOf "_law_choose" "_law_choose" (defArgs sChoose) (defBody sChoose) (defScope sChoose) .none kV_f_choose dc_f_choose pm_f_choose an_f_choose cd_f_choose ct_f_choose), sl_f_choose⟩)
    (c_f_choose : PySem.W.codeIn K cd_f_choose "_law_choose" = true)
    (k_f_choose : PySem.W.keepIn K (.ref f_choose) = true)
    (g_f_one : PySem.W.nsIn K mainGlobals "_law_one_of" = some (some (.ref f_one)))
    (l_f_one : K.lookup f_one = some ⟨oc_f_one, od_f_one, .func (PySem.W.fnOf "_law_one_of" "_law_one_of" (defArgs sOneOf) (defBody sOneOf) (defScope sOneOf) .none kV_f_one dc_f_one pm_f_one an_f_one cd_f_one ct_f_one), sl_f_one⟩)
    (c_f_one : PySem.W.codeIn K cd_f_one "_law_one_of" = true)
    (k_f_one : PySem.W.keepIn K (.ref f_one) = true)
    (g_f_rows : PySem.W.nsIn K mainGlobals "_law_rows" = some (some (.ref f_rows)))
    (l_f_rows : K.lookup f_rows = some ⟨oc_f_rows, od_f_rows, .func (PySem.W.fnOf "_law_rows" "_law_rows" (defArgs sRows) (defBody sRows) (defScope sRows) .none kV_f_rows dc_f_rows pm_f_rows an_f_rows cd_f_rows ct_f_rows), sl_f_rows⟩)
    (c_f_rows : PySem.W.codeIn K cd_f_rows "_law_rows" = true)
    (k_f_rows : PySem.W.keepIn K (.ref f_rows) = true)
    (g_f_ho : PySem.W.nsIn K mainGlobals "_law_house" = some (some (.ref f_ho)))
    (l_f_ho : K.lookup f_ho = some ⟨oc_f_ho, od_f_ho, .func (PySem.W.fnOf "_law_house" "_law_house" (defArgs sHouse) (defBody sHouse) (defScope sHouse) .none kV_f_ho dc_f_ho pm_f_ho an_f_ho cd_f_ho ct_f_ho), sl_f_ho⟩)
    (c_f_ho : PySem.W.codeIn K cd_f_ho "_law_house" = true)
    (k_f_ho : PySem.W.keepIn K (.ref f_ho) = true)
    (g_f_ht : PySem.W.nsIn K mainGlobals "_law_house_text" = some (some (.ref f_ht)))
    (l_f_ht : K.lookup f_ht = some ⟨oc_f_ht, od_f_ht, .func (PySem.W.fnOf "_law_house_text" "_law_house_text" (defArgs sHouseText) (defBody sHouseText) (defScope sHouseText) .none kV_f_ht dc_f_ht pm_f_ht an_f_ht cd_f_ht ct_f_ht), sl_f_ht⟩)
    (c_f_ht : PySem.W.codeIn K cd_f_ht "_law_house_text" = true)
    (k_f_ht : PySem.W.keepIn K (.ref f_ht) = true)
    (g_f_rr : PySem.W.nsIn K mainGlobals "read_row" = some (some (.ref f_rr)))
    (l_f_rr : K.lookup f_rr = some ⟨oc_f_rr, od_f_rr, .func (PySem.W.fnOf "read_row" "read_row" (defArgs sReadRow) (defBody sReadRow) (defScope sReadRow) .none kV_f_rr dc_f_rr pm_f_rr an_f_rr cd_f_rr ct_f_rr), sl_f_rr⟩)
    (c_f_rr : PySem.W.codeIn K cd_f_rr "read_row" = true)
    (k_f_rr : PySem.W.keepIn K (.ref f_rr) = true)
    (g_f_cs : PySem.W.nsIn K mainGlobals "can_stand" = some (some (.ref f_cs)))
    (l_f_cs : K.lookup f_cs = some ⟨oc_f_cs, od_f_cs, .func (PySem.W.fnOf "can_stand" "can_stand" (defArgs sStand) (defBody sStand) (defScope sStand) .none kV_f_cs dc_f_cs pm_f_cs an_f_cs cd_f_cs ct_f_cs), sl_f_cs⟩)
    (c_f_cs : PySem.W.codeIn K cd_f_cs "can_stand" = true)
    (k_f_cs : PySem.W.keepIn K (.ref f_cs) = true)
    (g_f_sh : PySem.W.nsIn K mainGlobals "shared_rows" = some (some (.ref f_sh)))
    (l_f_sh : K.lookup f_sh = some ⟨oc_f_sh, od_f_sh, .func (PySem.W.fnOf "shared_rows" "shared_rows" (defArgs sShared) (defBody sShared) (defScope sShared) .none kV_f_sh dc_f_sh pm_f_sh an_f_sh cd_f_sh ct_f_sh), sl_f_sh⟩)
    (c_f_sh : PySem.W.codeIn K cd_f_sh "shared_rows" = true)
    (k_f_sh : PySem.W.keepIn K (.ref f_sh) = true)
    (g_f_nm : PySem.W.nsIn K mainGlobals "lets_no_more" = some (some (.ref f_nm)))
    (l_f_nm : K.lookup f_nm = some ⟨oc_f_nm, od_f_nm, .func (PySem.W.fnOf "lets_no_more" "lets_no_more" (defArgs sNoMore) (defBody sNoMore) (defScope sNoMore) .none kV_f_nm dc_f_nm pm_f_nm an_f_nm cd_f_nm ct_f_nm), sl_f_nm⟩)
    (c_f_nm : PySem.W.codeIn K cd_f_nm "lets_no_more" = true)
    (k_f_nm : PySem.W.keepIn K (.ref f_nm) = true)
    (g_f_law : PySem.W.nsIn K mainGlobals "law" = some (some (.ref f_law)))
    (l_f_law : K.lookup f_law = some ⟨oc_f_law, od_f_law, .func (PySem.W.fnOf "law" "law" (defArgs sLaw) (defBody sLaw) (defScope sLaw) .none kV_f_law dc_f_law pm_f_law an_f_law cd_f_law ct_f_law), sl_f_law⟩)
    (c_f_law : PySem.W.codeIn K cd_f_law "law" = true)
    (k_f_law : PySem.W.keepIn K (.ref f_law) = true)
    (g_f_em : PySem.W.nsIn K mainGlobals "_law_empty" = some (some (.ref f_em)))
    (l_f_em : K.lookup f_em = some ⟨oc_f_em, od_f_em, .func (PySem.W.fnOf "_law_empty" "_law_empty" (defArgs sEmpty) (defBody sEmpty) (defScope sEmpty) .none kV_f_em dc_f_em pm_f_em an_f_em cd_f_em ct_f_em), sl_f_em⟩)
    (c_f_em : PySem.W.codeIn K cd_f_em "_law_empty" = true)
    (k_f_em : PySem.W.keepIn K (.ref f_em) = true)
    (g_f_lf : PySem.W.nsIn K mainGlobals "_law_lefts" = some (some (.ref f_lf)))
    (l_f_lf : K.lookup f_lf = some ⟨oc_f_lf, od_f_lf, .func (PySem.W.fnOf "_law_lefts" "_law_lefts" (defArgs sLefts) (defBody sLefts) (defScope sLefts) .none kV_f_lf dc_f_lf pm_f_lf an_f_lf cd_f_lf ct_f_lf), sl_f_lf⟩)
    (c_f_lf : PySem.W.codeIn K cd_f_lf "_law_lefts" = true)
    (k_f_lf : PySem.W.keepIn K (.ref f_lf) = true)
    (g_f_dp : PySem.W.nsIn K mainGlobals "_law_depths" = some (some (.ref f_dp)))
    (l_f_dp : K.lookup f_dp = some ⟨oc_f_dp, od_f_dp, .func (PySem.W.fnOf "_law_depths" "_law_depths" (defArgs sDepths) (defBody sDepths) (defScope sDepths) .none kV_f_dp dc_f_dp pm_f_dp an_f_dp cd_f_dp ct_f_dp), sl_f_dp⟩)
    (c_f_dp : PySem.W.codeIn K cd_f_dp "_law_depths" = true)
    (k_f_dp : PySem.W.keepIn K (.ref f_dp) = true)
    (g_f_lk : PySem.W.nsIn K mainGlobals "_law_kind" = some (some (.ref f_lk)))
    (l_f_lk : K.lookup f_lk = some ⟨oc_f_lk, od_f_lk, .func (PySem.W.fnOf "_law_kind" "_law_kind" (defArgs sKindL) (defBody sKindL) (defScope sKindL) .none kV_f_lk dc_f_lk pm_f_lk an_f_lk cd_f_lk ct_f_lk), sl_f_lk⟩)
    (c_f_lk : PySem.W.codeIn K cd_f_lk "_law_kind" = true)
    (k_f_lk : PySem.W.keepIn K (.ref f_lk) = true)
    (g_f_pc : PySem.W.nsIn K mainGlobals "_law_place" = some (some (.ref f_pc)))
    (l_f_pc : K.lookup f_pc = some ⟨oc_f_pc, od_f_pc, .func (PySem.W.fnOf "_law_place" "_law_place" (defArgs sPlace) (defBody sPlace) (defScope sPlace) .none kV_f_pc dc_f_pc pm_f_pc an_f_pc cd_f_pc ct_f_pc), sl_f_pc⟩)
    (c_f_pc : PySem.W.codeIn K cd_f_pc "_law_place" = true)
    (k_f_pc : PySem.W.keepIn K (.ref f_pc) = true)
    (g_f_lm : PySem.W.nsIn K mainGlobals "_law_month" = some (some (.ref f_lm)))
    (l_f_lm : K.lookup f_lm = some ⟨oc_f_lm, od_f_lm, .func (PySem.W.fnOf "_law_month" "_law_month" (defArgs sMonthL) (defBody sMonthL) (defScope sMonthL) .none kV_f_lm dc_f_lm pm_f_lm an_f_lm cd_f_lm ct_f_lm), sl_f_lm⟩)
    (c_f_lm : PySem.W.codeIn K cd_f_lm "_law_month" = true)
    (k_f_lm : PySem.W.keepIn K (.ref f_lm) = true)
    (g_f_ltk : PySem.W.nsIn K mainGlobals "_law_take" = some (some (.ref f_ltk)))
    (l_f_ltk : K.lookup f_ltk = some ⟨oc_f_ltk, od_f_ltk, .func (PySem.W.fnOf "_law_take" "_law_take" (defArgs sTakeL) (defBody sTakeL) (defScope sTakeL) .none kV_f_ltk dc_f_ltk pm_f_ltk an_f_ltk cd_f_ltk ct_f_ltk), sl_f_ltk⟩)
    (c_f_ltk : PySem.W.codeIn K cd_f_ltk "_law_take" = true)
    (k_f_ltk : PySem.W.keepIn K (.ref f_ltk) = true)
    (g_f_lrg : PySem.W.nsIn K mainGlobals "_law_right" = some (some (.ref f_lrg)))
    (l_f_lrg : K.lookup f_lrg = some ⟨oc_f_lrg, od_f_lrg, .func (PySem.W.fnOf "_law_right" "_law_right" (defArgs sRightL) (defBody sRightL) (defScope sRightL) .none kV_f_lrg dc_f_lrg pm_f_lrg an_f_lrg cd_f_lrg ct_f_lrg), sl_f_lrg⟩)
    (c_f_lrg : PySem.W.codeIn K cd_f_lrg "_law_right" = true)
    (k_f_lrg : PySem.W.keepIn K (.ref f_lrg) = true)
    (g_f_do : PySem.W.nsIn K mainGlobals "_law_do" = some (some (.ref f_do)))
    (l_f_do : K.lookup f_do = some ⟨oc_f_do, od_f_do, .func (PySem.W.fnOf "_law_do" "_law_do" (defArgs sDoL) (defBody sDoL) (defScope sDoL) .none kV_f_do dc_f_do pm_f_do an_f_do cd_f_do ct_f_do), sl_f_do⟩)
    (c_f_do : PySem.W.codeIn K cd_f_do "_law_do" = true)
    (k_f_do : PySem.W.keepIn K (.ref f_do) = true)
    (g_f_mt : PySem.W.nsIn K mainGlobals "_law_move_text" = some (some (.ref f_mt)))
    (l_f_mt : K.lookup f_mt = some ⟨oc_f_mt, od_f_mt, .func (PySem.W.fnOf "_law_move_text" "_law_move_text" (defArgs sMvText) (defBody sMvText) (defScope sMvText) .none kV_f_mt dc_f_mt pm_f_mt an_f_mt cd_f_mt ct_f_mt), sl_f_mt⟩)
    (c_f_mt : PySem.W.codeIn K cd_f_mt "_law_move_text" = true)
    (k_f_mt : PySem.W.keepIn K (.ref f_mt) = true)
    (g_f_lt : PySem.W.nsIn K mainGlobals "_law_text" = some (some (.ref f_lt)))
    (l_f_lt : K.lookup f_lt = some ⟨oc_f_lt, od_f_lt, .func (PySem.W.fnOf "_law_text" "_law_text" (defArgs sLawText) (defBody sLawText) (defScope sLawText) .none kV_f_lt dc_f_lt pm_f_lt an_f_lt cd_f_lt ct_f_lt), sl_f_lt⟩)
    (c_f_lt : PySem.W.codeIn K cd_f_lt "_law_text" = true)
    (k_f_lt : PySem.W.keepIn K (.ref f_lt) = true)
    (g_f_dm : PySem.W.nsIn K mainGlobals "_law_drawn_move" = some (some (.ref f_dm)))
    (l_f_dm : K.lookup f_dm = some ⟨oc_f_dm, od_f_dm, .func (PySem.W.fnOf "_law_drawn_move" "_law_drawn_move" (defArgs sDrawn) (defBody sDrawn) (defScope sDrawn) .none kV_f_dm dc_f_dm pm_f_dm an_f_dm cd_f_dm ct_f_dm), sl_f_dm⟩)
    (c_f_dm : PySem.W.codeIn K cd_f_dm "_law_drawn_move" = true)
    (k_f_dm : PySem.W.keepIn K (.ref f_dm) = true)
    (g_f_hy : PySem.W.nsIn K mainGlobals "_law_history" = some (some (.ref f_hy)))
    (l_f_hy : K.lookup f_hy = some ⟨oc_f_hy, od_f_hy, .func (PySem.W.fnOf "_law_history" "_law_history" (defArgs sHistory) (defBody sHistory) (defScope sHistory) .none kV_f_hy dc_f_hy pm_f_hy an_f_hy cd_f_hy ct_f_hy), sl_f_hy⟩)
    (c_f_hy : PySem.W.codeIn K cd_f_hy "_law_history" = true)
    (k_f_hy : PySem.W.keepIn K (.ref f_hy) = true)
    (g_LC : PySem.W.nsIn K mainGlobals "Let" = some (some (.ref LC)))
    (g_HC : PySem.W.nsIn K mainGlobals "House" = some (some (.ref HC)))
    (gn : PySem.W.specialIn K (.builtin "object.__class__") "__get__" = some (some (.builtin "getset_descriptor.__get__")))
    (tk : PySem.W.takesIn K (.builtin "object.__class__") = some true)
    (pg_LC : PySem.W.plainGet K LC Str.empty = true)
    (hd_LC : PySem.W.hasDictIn K LC = true)
    (po_LC : PySem.W.plainOver K LC = true)
    (sa_LC : PySem.W.findIn K (.ref LC) "__setattr__" = some (some (.builtin "object.__setattr__")))
    (mk_LC : PySem.W.makesIn K LC = true)
    (kc_LC : PySem.W.keepIn K (.ref LC) = true)
    (ca_LC : PySem.W.findIn K (.ref LC) "__class__" = some (some (.builtin "object.__class__")))
    (mo_LC : PySem.W.mroIn K LC (.type "object") = some true)
    (ss_LC : PySem.W.subIn K (.ref LC) (.ref LC) = some true)
    (ic_LC : PySem.W.isClsIn K LC = true)
    (tc_LC : PySem.W.typeIn K (.ref LC) = some (.type "type"))
    (pg_HC : PySem.W.plainGet K HC Str.empty = true)
    (hd_HC : PySem.W.hasDictIn K HC = true)
    (po_HC : PySem.W.plainOver K HC = true)
    (sa_HC : PySem.W.findIn K (.ref HC) "__setattr__" = some (some (.builtin "object.__setattr__")))
    (mk_HC : PySem.W.makesIn K HC = true)
    (kc_HC : PySem.W.keepIn K (.ref HC) = true)
    (ca_HC : PySem.W.findIn K (.ref HC) "__class__" = some (some (.builtin "object.__class__")))
    (mo_HC : PySem.W.mroIn K HC (.type "object") = some true)
    (ss_HC : PySem.W.subIn K (.ref HC) (.ref HC) = some true)
    (ic_HC : PySem.W.isClsIn K HC = true)
    (tc_HC : PySem.W.typeIn K (.ref HC) = some (.type "type"))
    (ne_HC : PySem.W.findIn K (.ref HC) "__ne__" = some (some (.builtin "object.__ne__")))
    (ob_HC : PySem.W.subIn K (.ref HC) (.type "object") = some true)
    (no_LC_kind : PySem.W.findIn K (.ref LC) "kind" = some none)
    (no_LC_state : PySem.W.findIn K (.ref LC) "state" = some none)
    (no_LC_deed : PySem.W.findIn K (.ref LC) "deed" = some none)
    (no_LC_place : PySem.W.findIn K (.ref LC) "place" = some none)
    (no_HC_depth : PySem.W.findIn K (.ref HC) "depth" = some none)
    (no_HC_check : PySem.W.findIn K (.ref HC) "check" = some none)
    (no_HC_rows : PySem.W.findIn K (.ref HC) "rows" = some none)
    (a_f_li : PySem.W.findIn K (.ref LC) "__init__" = some (some (.ref f_li)))
    (i_f_li : PySem.W.isFn K (.ref f_li) = true)
    (l_f_li : K.lookup f_li = some ⟨oc_f_li, od_f_li, .func (PySem.W.fnOf "__init__" "Let.__init__" (defArgs sLInit) (defBody sLInit) (defScope sLInit) .none kV_f_li dc_f_li pm_f_li an_f_li cd_f_li ct_f_li), sl_f_li⟩)
    (c_f_li : PySem.W.codeIn K cd_f_li "Let.__init__" = true)
    (k_f_li : PySem.W.keepIn K (.ref f_li) = true)
    (a_f_ls : PySem.W.findIn K (.ref LC) "__str__" = some (some (.ref f_ls)))
    (i_f_ls : PySem.W.isFn K (.ref f_ls) = true)
    (l_f_ls : K.lookup f_ls = some ⟨oc_f_ls, od_f_ls, .func (PySem.W.fnOf "__str__" "Let.__str__" (defArgs sLStr) (defBody sLStr) (defScope sLStr) .none kV_f_ls dc_f_ls pm_f_ls an_f_ls cd_f_ls ct_f_ls), sl_f_ls⟩)
    (c_f_ls : PySem.W.codeIn K cd_f_ls "Let.__str__" = true)
    (k_f_ls : PySem.W.keepIn K (.ref f_ls) = true)
    (a_f_hi : PySem.W.findIn K (.ref HC) "__init__" = some (some (.ref f_hi)))
    (i_f_hi : PySem.W.isFn K (.ref f_hi) = true)
    (l_f_hi : K.lookup f_hi = some ⟨oc_f_hi, od_f_hi, .func (PySem.W.fnOf "__init__" "House.__init__" (defArgs sHsInit) (defBody sHsInit) (defScope sHsInit) (.ref T_f_hi) kV_f_hi dc_f_hi pm_f_hi an_f_hi cd_f_hi ct_f_hi), sl_f_hi⟩)
    (c_f_hi : PySem.W.codeIn K cd_f_hi "House.__init__" = true)
    (k_f_hi : PySem.W.keepIn K (.ref f_hi) = true)
    (t_f_hi : K.lookup T_f_hi = some ⟨.type "tuple", dd_f_hi, .seq #[.ref e_hi] n_f_hi, ds_f_hi⟩)
    (q_e : K.lookup e_hi = some ⟨.type "tuple", dd_e, .seq #[] n_e, ds_e⟩)
    (a_f_hs : PySem.W.findIn K (.ref HC) "__str__" = some (some (.ref f_hs)))
    (i_f_hs : PySem.W.isFn K (.ref f_hs) = true)
    (l_f_hs : K.lookup f_hs = some ⟨oc_f_hs, od_f_hs, .func (PySem.W.fnOf "__str__" "House.__str__" (defArgs sHsStr) (defBody sHsStr) (defScope sHsStr) .none kV_f_hs dc_f_hs pm_f_hs an_f_hs cd_f_hs ct_f_hs), sl_f_hs⟩)
    (c_f_hs : PySem.W.codeIn K cd_f_hs "House.__str__" = true)
    (k_f_hs : PySem.W.keepIn K (.ref f_hs) = true)
    (a_f_pl : PySem.W.findIn K (.ref HC) "placed" = some (some (.ref f_pl)))
    (i_f_pl : PySem.W.isFn K (.ref f_pl) = true)
    (l_f_pl : K.lookup f_pl = some ⟨oc_f_pl, od_f_pl, .func (PySem.W.fnOf "placed" "House.placed" (defArgs sPlaced) (defBody sPlaced) (defScope sPlaced) .none kV_f_pl dc_f_pl pm_f_pl an_f_pl cd_f_pl ct_f_pl), sl_f_pl⟩)
    (c_f_pl : PySem.W.codeIn K cd_f_pl "House.placed" = true)
    (k_f_pl : PySem.W.keepIn K (.ref f_pl) = true)
    (a_f_an : PySem.W.findIn K (.ref HC) "__and__" = some (some (.ref f_an)))
    (i_f_an : PySem.W.isFn K (.ref f_an) = true)
    (l_f_an : K.lookup f_an = some ⟨oc_f_an, od_f_an, .func (PySem.W.fnOf "__and__" "House.__and__" (defArgs sAnd) (defBody sAnd) (defScope sAnd) .none kV_f_an dc_f_an pm_f_an an_f_an cd_f_an ct_f_an), sl_f_an⟩)
    (c_f_an : PySem.W.codeIn K cd_f_an "House.__and__" = true)
    (k_f_an : PySem.W.keepIn K (.ref f_an) = true)
    (a_f_le : PySem.W.findIn K (.ref HC) "__le__" = some (some (.ref f_le)))
    (i_f_le : PySem.W.isFn K (.ref f_le) = true)
    (l_f_le : K.lookup f_le = some ⟨oc_f_le, od_f_le, .func (PySem.W.fnOf "__le__" "House.__le__" (defArgs sLe) (defBody sLe) (defScope sLe) .none kV_f_le dc_f_le pm_f_le an_f_le cd_f_le ct_f_le), sl_f_le⟩)
    (c_f_le : PySem.W.codeIn K cd_f_le "House.__le__" = true)
    (k_f_le : PySem.W.keepIn K (.ref f_le) = true)
    (a_f_ge : PySem.W.findIn K (.ref HC) "__ge__" = some (some (.ref f_ge)))
    (i_f_ge : PySem.W.isFn K (.ref f_ge) = true)
    (l_f_ge : K.lookup f_ge = some ⟨oc_f_ge, od_f_ge, .func (PySem.W.fnOf "__ge__" "House.__ge__" (defArgs sGe) (defBody sGe) (defScope sGe) .none kV_f_ge dc_f_ge pm_f_ge an_f_ge cd_f_ge ct_f_ge), sl_f_ge⟩)
    (c_f_ge : PySem.W.codeIn K cd_f_ge "House.__ge__" = true)
    (k_f_ge : PySem.W.keepIn K (.ref f_ge) = true)
    (g_KA : PySem.W.nsIn K mainGlobals "KINDS" = some (some (.ref KA)))
    (q_KA : K.lookup KA = some ⟨.type "tuple", dd_KA, .seq #[.str "first" t0_KA, .str "new" t1_KA, .str "minus" t2_KA, .str "plus" t3_KA] n_KA, ds_KA⟩)
    (g_SA : PySem.W.nsIn K mainGlobals "STATES" = some (some (.ref SA)))
    (q_SA : K.lookup SA = some ⟨.type "tuple", dd_SA, .seq #[.str "open" t0_SA, .str "shut" t1_SA] n_SA, ds_SA⟩)
    (g_DA : PySem.W.nsIn K mainGlobals "DEEDS" = some (some (.ref DA)))
    (q_DA : K.lookup DA = some ⟨.type "tuple", dd_DA, .seq #[.str "whole" t0_DA, .str "part" t1_DA, .str "right" t2_DA] n_DA, ds_DA⟩)
    (g_PA : PySem.W.nsIn K mainGlobals "PLACES" = some (some (.ref PA)))
    (q_PA : K.lookup PA = some ⟨.type "tuple", dd_PA, .seq #[.str "now" t0_PA, .str "there" t1_PA] n_PA, ds_PA⟩)
    (g_KK : PySem.W.nsIn K mainGlobals "CHECKS" = some (some (.ref KK)))
    (q_KK : K.lookup KK = some ⟨.type "tuple", dd_KK, .seq #[.str "left" t0_KK, .str "all" t1_KK] n_KK, ds_KK⟩)
    (g_DL : PySem.W.nsIn K mainGlobals "DEPTH_LINES" = some (some (.ref DL)))
    (q_DL : K.lookup DL = some ⟨.type "tuple", dd_DL, .seq #[.str "depth 0" t0_DL, .str "depth 1" t1_DL, .str "depth 2" t2_DL, .str "depth 3" t3_DL, .str "depth 4" t4_DL] n_DL, ds_DL⟩)
    (sf_HC : PySem.W.selfFirst K HC = true)
    (g_LA : PySem.W.nsIn K mainGlobals "CHECK_LINES" = some (some (.ref LA)))
    (q_LA : K.lookup LA = some ⟨.type "tuple", dd_LA, .seq #[.str "check left" t0_LA, .str "check all" t1_LA] n_LA, ds_LA⟩)
    (g_CT : PySem.W.nsIn K mainGlobals "InvalidText" = some (some (.ref CT)))
    (x_CT : K.lookup CT = some (PySem.excClassObj nm_CT q_CT CT N_CT bs_CT bm_CT true sn_CT sub_CT ab_CT col_CT dd_CT m0_CT m1_CT m2_CT m3_CT m5_CT "ValueError.__new__"))
    (xb_CT : PySem.HandSPX.refsVE bm_CT = true)
    (xsa_CT : PySem.W.findIn K (.ref CT) "__setattr__" = some (some (.builtin "object.__setattr__")))
    (xga_CT : PySem.W.findIn K (.ref CT) "__getattribute__" = some (some (.builtin "BaseException.__getattribute__")))
    (xgg_CT : PySem.W.findIn K (.ref CT) "__getattr__" = some none)
    (xex_CT : PySem.W.subIn K (.ref CT) (.type "BaseException") = some true)
    (xty_CT : PySem.W.typeIn K (.ref CT) = some (.type "type"))
    (xkc_CT : PySem.W.keepIn K (.ref CT) = true)
    (xhd_CT : PySem.W.hasDictIn K CT = true)
    (xis_CT : PySem.W.isClsIn K CT = true)
    (xca_CT : PySem.W.findIn K (.ref CT) "__class__" = some (some (.builtin "object.__class__")))
    (xgn_CT : PySem.W.specialIn K (.builtin "object.__class__") "__get__" = some (some (.builtin "getset_descriptor.__get__")))
    (xtk_CT : PySem.W.takesIn K (.builtin "object.__class__") = some true)
    (xmo_CT : PySem.W.mroIn K CT (.type "object") = some true)
    (xss_CT : PySem.W.subIn K (.ref CT) (.ref CT) = some true)
    (no_CT_at : PySem.W.findIn K (.ref CT) "at" = some none)
    (a_f_it : PySem.W.findIn K (.ref CT) "__init__" = some (some (.ref f_it)))
    (tf_it : PySem.W.typeIn K (.ref f_it) = some (.type "function"))
    (l_f_it : K.lookup f_it = some ⟨oc_f_it, od_f_it, .func (PySem.W.fnOf "__init__" "InvalidText.__init__" (defArgs sItInit) (defBody sItInit) (defScope sItInit) .none kV_f_it dc_f_it pm_f_it an_f_it cd_f_it ct_f_it), sl_f_it⟩)
    (c_f_it : PySem.W.codeIn K cd_f_it "InvalidText.__init__" = true)
    (k_f_it : PySem.W.keepIn K (.ref f_it) = true)
    (te_CT : PySem.W.exmOne K (.ref CT) (.ref CT) = some true)
    (rd_HC : PySem.W.readsIn K HC (.type "type") = true)
    (rg_HC : PySem.W.specialIn K (.ref HC) "__getattribute__" = some (some (.builtin "type.__getattribute__")))
    (at_rd : PySem.W.findCls K (.ref HC) (.type "type") "read" = some (.get (.builtin "classmethod.__get__") (.ref pr) .none (.ref HC)))
    (rc_rd : PySem.W.recIn K pr "classmethod" = some (.ref f_rd :: rest_rd))
    (fi_rd : PySem.W.fnIn K f_rd = true)
    (l_f_rd : K.lookup f_rd = some ⟨oc_f_rd, od_f_rd, .func (PySem.W.fnOf "read" "House.read" (defArgs sHsRead) (defBody sHsRead) (defScope sHsRead) .none kV_f_rd dc_f_rd pm_f_rd an_f_rd cd_f_rd ct_f_rd), sl_f_rd⟩)
    (c_f_rd : PySem.W.codeIn K cd_f_rd "House.read" = true)
    (k_f_rd : PySem.W.keepIn K (.ref f_rd) = true)
    (dn_LA : dd_LA = none)
    (dn_DL : dd_DL = none)
    (g_f_amt : PySem.W.nsIn K mainGlobals "is_amount" = some (some (.ref f_amt)))
    (l_f_amt : K.lookup f_amt = some ⟨oc_f_amt, od_f_amt, .func (PySem.W.fnOf "is_amount" "is_amount" (defArgs sIsAmt) (defBody sIsAmt) (defScope sIsAmt) .none kV_f_amt dc_f_amt pm_f_amt an_f_amt cd_f_amt ct_f_amt), sl_f_amt⟩)
    (c_f_amt : PySem.W.codeIn K cd_f_amt "is_amount" = true)
    (k_f_amt : PySem.W.keepIn K (.ref f_amt) = true)
    (g_f_rn : PySem.W.nsIn K mainGlobals "read_number" = some (some (.ref f_rn)))
    (l_f_rn : K.lookup f_rn = some ⟨oc_f_rn, od_f_rn, .func (PySem.W.fnOf "read_number" "read_number" (defArgs sReadNumber) (defBody sReadNumber) (defScope sReadNumber) .none kV_f_rn dc_f_rn pm_f_rn an_f_rn cd_f_rn ct_f_rn), sl_f_rn⟩)
    (c_f_rn : PySem.W.codeIn K cd_f_rn "read_number" = true)
    (k_f_rn : PySem.W.keepIn K (.ref f_rn) = true)
    (g_f_ism : PySem.W.nsIn K mainGlobals "is_moves" = some (some (.ref f_ism)))
    (l_f_ism : K.lookup f_ism = some ⟨oc_f_ism, od_f_ism, .func (PySem.W.fnOf "is_moves" "is_moves" (defArgs sIsMoves) (defBody sIsMoves) (defScope sIsMoves) .none kV_f_ism dc_f_ism pm_f_ism an_f_ism cd_f_ism ct_f_ism), sl_f_ism⟩)
    (c_f_ism : PySem.W.codeIn K cd_f_ism "is_moves" = true)
    (k_f_ism : PySem.W.keepIn K (.ref f_ism) = true)
    (g_f_rms : PySem.W.nsIn K mainGlobals "read_moves" = some (some (.ref f_rms)))
    (l_f_rms : K.lookup f_rms = some ⟨oc_f_rms, od_f_rms, .func (PySem.W.fnOf "read_moves" "read_moves" (defArgs sReadMoves) (defBody sReadMoves) (defScope sReadMoves) .none kV_f_rms dc_f_rms pm_f_rms an_f_rms cd_f_rms ct_f_rms), sl_f_rms⟩)
    (c_f_rms : PySem.W.codeIn K cd_f_rms "read_moves" = true)
    (k_f_rms : PySem.W.keepIn K (.ref f_rms) = true)
    (g_f_rm : PySem.W.nsIn K mainGlobals "read_move" = some (some (.ref f_rm)))
    (l_f_rm : K.lookup f_rm = some ⟨oc_f_rm, od_f_rm, .func (PySem.W.fnOf "read_move" "read_move" (defArgs sReadMove) (defBody sReadMove) (defScope sReadMove) .none kV_f_rm dc_f_rm pm_f_rm an_f_rm cd_f_rm ct_f_rm), sl_f_rm⟩)
    (c_f_rm : PySem.W.codeIn K cd_f_rm "read_move" = true)
    (k_f_rm : PySem.W.keepIn K (.ref f_rm) = true)
    (g_f_mo : PySem.W.nsIn K mainGlobals "move_of" = some (some (.ref f_mo)))
    (l_f_mo : K.lookup f_mo = some ⟨oc_f_mo, od_f_mo, .func (PySem.W.fnOf "move_of" "move_of" (defArgs sMoveOf) (defBody sMoveOf) (defScope sMoveOf) .none kV_f_mo dc_f_mo pm_f_mo an_f_mo cd_f_mo ct_f_mo), sl_f_mo⟩)
    (c_f_mo : PySem.W.codeIn K cd_f_mo "move_of" = true)
    (k_f_mo : PySem.W.keepIn K (.ref f_mo) = true)
    (g_CM : PySem.W.nsIn K mainGlobals "InvalidMove" = some (some (.ref CM)))
    (g_MV : PySem.W.nsIn K mainGlobals "Move" = some (some (.ref MV)))
    (g_BC : PySem.W.nsIn K mainGlobals "Begin" = some (some (.ref BC)))
    (g_TC : PySem.W.nsIn K mainGlobals "Take" = some (some (.ref TC)))
    (g_RC : PySem.W.nsIn K mainGlobals "Right" = some (some (.ref RC)))
    (g_SC : PySem.W.nsIn K mainGlobals "Shut" = some (some (.ref SC)))
    (g_YC : PySem.W.nsIn K mainGlobals "History" = some (some (.ref YC)))
    (x_CM : K.lookup CM = some (PySem.excClassObj nm_CM q_CM CM N_CM bs_CM bm_CM true sn_CM sub_CM ab_CM col_CM dd_CM m0_CM m1_CM m2_CM m3_CM m5_CM "ValueError.__new__"))
    (xb_CM : PySem.HandSPX.refsVE bm_CM = true)
    (xsa_CM : PySem.W.findIn K (.ref CM) "__setattr__" = some (some (.builtin "object.__setattr__")))
    (xga_CM : PySem.W.findIn K (.ref CM) "__getattribute__" = some (some (.builtin "BaseException.__getattribute__")))
    (xgg_CM : PySem.W.findIn K (.ref CM) "__getattr__" = some none)
    (xex_CM : PySem.W.subIn K (.ref CM) (.type "BaseException") = some true)
    (xty_CM : PySem.W.typeIn K (.ref CM) = some (.type "type"))
    (xkc_CM : PySem.W.keepIn K (.ref CM) = true)
    (xhd_CM : PySem.W.hasDictIn K CM = true)
    (xis_CM : PySem.W.isClsIn K CM = true)
    (xca_CM : PySem.W.findIn K (.ref CM) "__class__" = some (some (.builtin "object.__class__")))
    (xgn_CM : PySem.W.specialIn K (.builtin "object.__class__") "__get__" = some (some (.builtin "getset_descriptor.__get__")))
    (xtk_CM : PySem.W.takesIn K (.builtin "object.__class__") = some true)
    (xmo_CM : PySem.W.mroIn K CM (.type "object") = some true)
    (xss_CM : PySem.W.subIn K (.ref CM) (.ref CM) = some true)
    (no_CM_word : PySem.W.findIn K (.ref CM) "word" = some none)
    (a_f_im : PySem.W.findIn K (.ref CM) "__init__" = some (some (.ref f_im)))
    (tf_im : PySem.W.typeIn K (.ref f_im) = some (.type "function"))
    (l_f_im : K.lookup f_im = some ⟨oc_f_im, od_f_im, .func (PySem.W.fnOf "__init__" "InvalidMove.__init__" (defArgs sImInit) (defBody sImInit) (defScope sImInit) .none kV_f_im dc_f_im pm_f_im an_f_im cd_f_im ct_f_im), sl_f_im⟩)
    (c_f_im : PySem.W.codeIn K cd_f_im "InvalidMove.__init__" = true)
    (k_f_im : PySem.W.keepIn K (.ref f_im) = true)
    (is_MV : PySem.W.isClsIn K MV = true)
    (ty_MV : PySem.W.typeIn K (.ref MV) = some (.type "type"))
    (pg_BC : PySem.W.plainGet K BC Str.empty = true)
    (hd_BC : PySem.W.hasDictIn K BC = true)
    (po_BC : PySem.W.plainOver K BC = true)
    (sa_BC : PySem.W.findIn K (.ref BC) "__setattr__" = some (some (.builtin "object.__setattr__")))
    (mk_BC : PySem.W.makesIn K BC = true)
    (kc_BC : PySem.W.keepIn K (.ref BC) = true)
    (ca_BC : PySem.W.findIn K (.ref BC) "__class__" = some (some (.builtin "object.__class__")))
    (mo_BC : PySem.W.mroIn K BC (.type "object") = some true)
    (ss_BC : PySem.W.subIn K (.ref BC) (.ref BC) = some true)
    (ic_BC : PySem.W.isClsIn K BC = true)
    (tc_BC : PySem.W.typeIn K (.ref BC) = some (.type "type"))
    (pg_TC : PySem.W.plainGet K TC Str.empty = true)
    (hd_TC : PySem.W.hasDictIn K TC = true)
    (po_TC : PySem.W.plainOver K TC = true)
    (sa_TC : PySem.W.findIn K (.ref TC) "__setattr__" = some (some (.builtin "object.__setattr__")))
    (mk_TC : PySem.W.makesIn K TC = true)
    (kc_TC : PySem.W.keepIn K (.ref TC) = true)
    (ca_TC : PySem.W.findIn K (.ref TC) "__class__" = some (some (.builtin "object.__class__")))
    (mo_TC : PySem.W.mroIn K TC (.type "object") = some true)
    (ss_TC : PySem.W.subIn K (.ref TC) (.ref TC) = some true)
    (ic_TC : PySem.W.isClsIn K TC = true)
    (tc_TC : PySem.W.typeIn K (.ref TC) = some (.type "type"))
    (pg_RC : PySem.W.plainGet K RC Str.empty = true)
    (hd_RC : PySem.W.hasDictIn K RC = true)
    (po_RC : PySem.W.plainOver K RC = true)
    (sa_RC : PySem.W.findIn K (.ref RC) "__setattr__" = some (some (.builtin "object.__setattr__")))
    (mk_RC : PySem.W.makesIn K RC = true)
    (kc_RC : PySem.W.keepIn K (.ref RC) = true)
    (ca_RC : PySem.W.findIn K (.ref RC) "__class__" = some (some (.builtin "object.__class__")))
    (mo_RC : PySem.W.mroIn K RC (.type "object") = some true)
    (ss_RC : PySem.W.subIn K (.ref RC) (.ref RC) = some true)
    (ic_RC : PySem.W.isClsIn K RC = true)
    (tc_RC : PySem.W.typeIn K (.ref RC) = some (.type "type"))
    (pg_SC : PySem.W.plainGet K SC Str.empty = true)
    (hd_SC : PySem.W.hasDictIn K SC = true)
    (po_SC : PySem.W.plainOver K SC = true)
    (sa_SC : PySem.W.findIn K (.ref SC) "__setattr__" = some (some (.builtin "object.__setattr__")))
    (mk_SC : PySem.W.makesIn K SC = true)
    (kc_SC : PySem.W.keepIn K (.ref SC) = true)
    (ca_SC : PySem.W.findIn K (.ref SC) "__class__" = some (some (.builtin "object.__class__")))
    (mo_SC : PySem.W.mroIn K SC (.type "object") = some true)
    (ss_SC : PySem.W.subIn K (.ref SC) (.ref SC) = some true)
    (ic_SC : PySem.W.isClsIn K SC = true)
    (tc_SC : PySem.W.typeIn K (.ref SC) = some (.type "type"))
    (pg_YC : PySem.W.plainGet K YC Str.empty = true)
    (hd_YC : PySem.W.hasDictIn K YC = true)
    (po_YC : PySem.W.plainOver K YC = true)
    (sa_YC : PySem.W.findIn K (.ref YC) "__setattr__" = some (some (.builtin "object.__setattr__")))
    (mk_YC : PySem.W.makesIn K YC = true)
    (kc_YC : PySem.W.keepIn K (.ref YC) = true)
    (ca_YC : PySem.W.findIn K (.ref YC) "__class__" = some (some (.builtin "object.__class__")))
    (mo_YC : PySem.W.mroIn K YC (.type "object") = some true)
    (ss_YC : PySem.W.subIn K (.ref YC) (.ref YC) = some true)
    (ic_YC : PySem.W.isClsIn K YC = true)
    (tc_YC : PySem.W.typeIn K (.ref YC) = some (.type "type"))
    (sm_BC : PySem.W.subIn K (.ref BC) (.ref MV) = some true)
    (su_TC_BC : PySem.W.subIn K (.ref TC) (.ref BC) = some false)
    (su_RC_BC : PySem.W.subIn K (.ref RC) (.ref BC) = some false)
    (su_SC_BC : PySem.W.subIn K (.ref SC) (.ref BC) = some false)
    (sm_TC : PySem.W.subIn K (.ref TC) (.ref MV) = some true)
    (su_BC_TC : PySem.W.subIn K (.ref BC) (.ref TC) = some false)
    (su_RC_TC : PySem.W.subIn K (.ref RC) (.ref TC) = some false)
    (su_SC_TC : PySem.W.subIn K (.ref SC) (.ref TC) = some false)
    (sm_RC : PySem.W.subIn K (.ref RC) (.ref MV) = some true)
    (su_BC_RC : PySem.W.subIn K (.ref BC) (.ref RC) = some false)
    (su_TC_RC : PySem.W.subIn K (.ref TC) (.ref RC) = some false)
    (su_SC_RC : PySem.W.subIn K (.ref SC) (.ref RC) = some false)
    (sm_SC : PySem.W.subIn K (.ref SC) (.ref MV) = some true)
    (su_BC_SC : PySem.W.subIn K (.ref BC) (.ref SC) = some false)
    (su_TC_SC : PySem.W.subIn K (.ref TC) (.ref SC) = some false)
    (su_RC_SC : PySem.W.subIn K (.ref RC) (.ref SC) = some false)
    (no_BC_amount : PySem.W.findIn K (.ref BC) "amount" = some none)
    (no_TC_at : PySem.W.findIn K (.ref TC) "at" = some none)
    (no_TC_amount : PySem.W.findIn K (.ref TC) "amount" = some none)
    (no_RC_at : PySem.W.findIn K (.ref RC) "at" = some none)
    (no_RC_amount : PySem.W.findIn K (.ref RC) "amount" = some none)
    (no_YC_moves : PySem.W.findIn K (.ref YC) "moves" = some none)
    (a_f_bi : PySem.W.findIn K (.ref BC) "__init__" = some (some (.ref f_bi)))
    (i_f_bi : PySem.W.isFn K (.ref f_bi) = true)
    (l_f_bi : K.lookup f_bi = some ⟨oc_f_bi, od_f_bi, .func (PySem.W.fnOf "__init__" "Begin.__init__" (defArgs sBInit) (defBody sBInit) (defScope sBInit) .none kV_f_bi dc_f_bi pm_f_bi an_f_bi cd_f_bi ct_f_bi), sl_f_bi⟩)
    (c_f_bi : PySem.W.codeIn K cd_f_bi "Begin.__init__" = true)
    (k_f_bi : PySem.W.keepIn K (.ref f_bi) = true)
    (a_f_ti : PySem.W.findIn K (.ref TC) "__init__" = some (some (.ref f_ti)))
    (i_f_ti : PySem.W.isFn K (.ref f_ti) = true)
    (l_f_ti : K.lookup f_ti = some ⟨oc_f_ti, od_f_ti, .func (PySem.W.fnOf "__init__" "Take.__init__" (defArgs sTInit) (defBody sTInit) (defScope sTInit) (.ref T_f_ti) kV_f_ti dc_f_ti pm_f_ti an_f_ti cd_f_ti ct_f_ti), sl_f_ti⟩)
    (c_f_ti : PySem.W.codeIn K cd_f_ti "Take.__init__" = true)
    (k_f_ti : PySem.W.keepIn K (.ref f_ti) = true)
    (t_f_ti : K.lookup T_f_ti = some ⟨.type "tuple", dd_f_ti, .seq #[.none] n_f_ti, ds_f_ti⟩)
    (a_f_ri : PySem.W.findIn K (.ref RC) "__init__" = some (some (.ref f_ri)))
    (i_f_ri : PySem.W.isFn K (.ref f_ri) = true)
    (l_f_ri : K.lookup f_ri = some ⟨oc_f_ri, od_f_ri, .func (PySem.W.fnOf "__init__" "Right.__init__" (defArgs sRInit) (defBody sRInit) (defScope sRInit) .none kV_f_ri dc_f_ri pm_f_ri an_f_ri cd_f_ri ct_f_ri), sl_f_ri⟩)
    (c_f_ri : PySem.W.codeIn K cd_f_ri "Right.__init__" = true)
    (k_f_ri : PySem.W.keepIn K (.ref f_ri) = true)
    (oi_SC : PySem.W.findIn K (.ref SC) "__init__" = some (some (.builtin "object.__init__")))
    (a_f_yi : PySem.W.findIn K (.ref YC) "__init__" = some (some (.ref f_yi)))
    (i_f_yi : PySem.W.isFn K (.ref f_yi) = true)
    (l_f_yi : K.lookup f_yi = some ⟨oc_f_yi, od_f_yi, .func (PySem.W.fnOf "__init__" "History.__init__" (defArgs sHInit) (defBody sHInit) (defScope sHInit) (.ref T_f_yi) kV_f_yi dc_f_yi pm_f_yi an_f_yi cd_f_yi ct_f_yi), sl_f_yi⟩)
    (c_f_yi : PySem.W.codeIn K cd_f_yi "History.__init__" = true)
    (k_f_yi : PySem.W.keepIn K (.ref f_yi) = true)
    (t_f_yi : K.lookup T_f_yi = some ⟨.type "tuple", dd_f_yi, .seq #[.ref e_yi] n_f_yi, ds_f_yi⟩)
    (rd_YC : PySem.W.readsIn K YC (.type "type") = true)
    (rg_YC : PySem.W.specialIn K (.ref YC) "__getattribute__" = some (some (.builtin "type.__getattribute__")))
    (at_yr : PySem.W.findCls K (.ref YC) (.type "type") "read" = some (.get (.builtin "classmethod.__get__") (.ref py) .none (.ref YC)))
    (rc_yr : PySem.W.recIn K py "classmethod" = some (.ref f_yr :: rest_yr))
    (fi_yr : PySem.W.fnIn K f_yr = true)
    (l_f_yr : K.lookup f_yr = some ⟨oc_f_yr, od_f_yr, .func (PySem.W.fnOf "read" "History.read" (defArgs sHRead) (defBody sHRead) (defScope sHRead) .none kV_f_yr dc_f_yr pm_f_yr an_f_yr cd_f_yr ct_f_yr), sl_f_yr⟩)
    (c_f_yr : PySem.W.codeIn K cd_f_yr "History.read" = true)
    (k_f_yr : PySem.W.keepIn K (.ref f_yr) = true)
    (g_f_play : PySem.W.nsIn K mainGlobals "play" = some (some (.ref f_play)))
    (l_f_play : K.lookup f_play = some ⟨oc_f_play, od_f_play, .func (PySem.W.fnOf "play" "play" (defArgs sPlay) (defBody sPlay) (defScope sPlay) .none kV_f_play dc_f_play pm_f_play an_f_play cd_f_play ct_f_play), sl_f_play⟩)
    (c_f_play : PySem.W.codeIn K cd_f_play "play" = true)
    (k_f_play : PySem.W.keepIn K (.ref f_play) = true)
    (g_f_along : PySem.W.nsIn K mainGlobals "books_along" = some (some (.ref f_along)))
    (l_f_along : K.lookup f_along = some ⟨oc_f_along, od_f_along, .func (PySem.W.fnOf "books_along" "books_along" (defArgs sAlong) (defBody sAlong) (defScope sAlong) .none kV_f_along dc_f_along pm_f_along an_f_along cd_f_along ct_f_along), sl_f_along⟩)
    (c_f_along : PySem.W.codeIn K cd_f_along "books_along" = true)
    (k_f_along : PySem.W.keepIn K (.ref f_along) = true)
    (g_f_after : PySem.W.nsIn K mainGlobals "after" = some (some (.ref f_after)))
    (l_f_after : K.lookup f_after = some ⟨oc_f_after, od_f_after, .func (PySem.W.fnOf "after" "after" (defArgs sAfter) (defBody sAfter) (defScope sAfter) .none kV_f_after dc_f_after pm_f_after an_f_after cd_f_after ct_f_after), sl_f_after⟩)
    (c_f_after : PySem.W.codeIn K cd_f_after "after" = true)
    (k_f_after : PySem.W.keepIn K (.ref f_after) = true)
    (g_f_mby : PySem.W.nsIn K mainGlobals "made_by" = some (some (.ref f_mby)))
    (l_f_mby : K.lookup f_mby = some ⟨oc_f_mby, od_f_mby, .func (PySem.W.fnOf "made_by" "made_by" (defArgs sMadeBy) (defBody sMadeBy) (defScope sMadeBy) .none kV_f_mby dc_f_mby pm_f_mby an_f_mby cd_f_mby ct_f_mby), sl_f_mby⟩)
    (c_f_mby : PySem.W.codeIn K cd_f_mby "made_by" = true)
    (k_f_mby : PySem.W.keepIn K (.ref f_mby) = true)
    (g_f_tkn : PySem.W.nsIn K mainGlobals "taken" = some (some (.ref f_tkn)))
    (l_f_tkn : K.lookup f_tkn = some ⟨oc_f_tkn, od_f_tkn, .func (PySem.W.fnOf "taken" "taken" (defArgs sTaken) (defBody sTaken) (defScope sTaken) .none kV_f_tkn dc_f_tkn pm_f_tkn an_f_tkn cd_f_tkn ct_f_tkn), sl_f_tkn⟩)
    (c_f_tkn : PySem.W.codeIn K cd_f_tkn "taken" = true)
    (k_f_tkn : PySem.W.keepIn K (.ref f_tkn) = true)
    (g_f_rtd : PySem.W.nsIn K mainGlobals "righted" = some (some (.ref f_rtd)))
    (l_f_rtd : K.lookup f_rtd = some ⟨oc_f_rtd, od_f_rtd, .func (PySem.W.fnOf "righted" "righted" (defArgs sRighted) (defBody sRighted) (defScope sRighted) .none kV_f_rtd dc_f_rtd pm_f_rtd an_f_rtd cd_f_rtd ct_f_rtd), sl_f_rtd⟩)
    (c_f_rtd : PySem.W.codeIn K cd_f_rtd "righted" = true)
    (k_f_rtd : PySem.W.keepIn K (.ref f_rtd) = true)
    (g_f_mf : PySem.W.nsIn K mainGlobals "month_for" = some (some (.ref f_mf)))
    (l_f_mf : K.lookup f_mf = some ⟨oc_f_mf, od_f_mf, .func (PySem.W.fnOf "month_for" "month_for" (defArgs sMonthFor) (defBody sMonthFor) (defScope sMonthFor) .none kV_f_mf dc_f_mf pm_f_mf an_f_mf cd_f_mf ct_f_mf), sl_f_mf⟩)
    (c_f_mf : PySem.W.codeIn K cd_f_mf "month_for" = true)
    (k_f_mf : PySem.W.keepIn K (.ref f_mf) = true)
    (g_f_oa : PySem.W.nsIn K mainGlobals "is_over_all" = some (some (.ref f_oa)))
    (l_f_oa : K.lookup f_oa = some ⟨oc_f_oa, od_f_oa, .func (PySem.W.fnOf "is_over_all" "is_over_all" (defArgs sOverAll) (defBody sOverAll) (defScope sOverAll) .none kV_f_oa dc_f_oa pm_f_oa an_f_oa cd_f_oa ct_f_oa), sl_f_oa⟩)
    (c_f_oa : PySem.W.codeIn K cd_f_oa "is_over_all" = true)
    (k_f_oa : PySem.W.keepIn K (.ref f_oa) = true)
    (g_f_lof : PySem.W.nsIn K mainGlobals "lefts_of" = some (some (.ref f_lof)))
    (l_f_lof : K.lookup f_lof = some ⟨oc_f_lof, od_f_lof, .func (PySem.W.fnOf "lefts_of" "lefts_of" (defArgs sLeftsOf) (defBody sLeftsOf) (defScope sLeftsOf) .none kV_f_lof dc_f_lof pm_f_lof an_f_lof cd_f_lof ct_f_lof), sl_f_lof⟩)
    (c_f_lof : PySem.W.codeIn K cd_f_lof "lefts_of" = true)
    (k_f_lof : PySem.W.keepIn K (.ref f_lof) = true)
    (g_EC : PySem.W.nsIn K mainGlobals "Entry" = some (some (.ref EC)))
    (g_BK : PySem.W.nsIn K mainGlobals "Book" = some (some (.ref BK)))
    (pg_EC : PySem.W.plainGet K EC Str.empty = true)
    (hd_EC : PySem.W.hasDictIn K EC = true)
    (po_EC : PySem.W.plainOver K EC = true)
    (sa_EC : PySem.W.findIn K (.ref EC) "__setattr__" = some (some (.builtin "object.__setattr__")))
    (mk_EC : PySem.W.makesIn K EC = true)
    (kc_EC : PySem.W.keepIn K (.ref EC) = true)
    (ca_EC : PySem.W.findIn K (.ref EC) "__class__" = some (some (.builtin "object.__class__")))
    (mo_EC : PySem.W.mroIn K EC (.type "object") = some true)
    (ss_EC : PySem.W.subIn K (.ref EC) (.ref EC) = some true)
    (ic_EC : PySem.W.isClsIn K EC = true)
    (tc_EC : PySem.W.typeIn K (.ref EC) = some (.type "type"))
    (ne_EC : PySem.W.findIn K (.ref EC) "__ne__" = some (some (.builtin "object.__ne__")))
    (ob_EC : PySem.W.subIn K (.ref EC) (.type "object") = some true)
    (pg_BK : PySem.W.plainGet K BK Str.empty = true)
    (hd_BK : PySem.W.hasDictIn K BK = true)
    (po_BK : PySem.W.plainOver K BK = true)
    (sa_BK : PySem.W.findIn K (.ref BK) "__setattr__" = some (some (.builtin "object.__setattr__")))
    (mk_BK : PySem.W.makesIn K BK = true)
    (kc_BK : PySem.W.keepIn K (.ref BK) = true)
    (ca_BK : PySem.W.findIn K (.ref BK) "__class__" = some (some (.builtin "object.__class__")))
    (mo_BK : PySem.W.mroIn K BK (.type "object") = some true)
    (ss_BK : PySem.W.subIn K (.ref BK) (.ref BK) = some true)
    (ic_BK : PySem.W.isClsIn K BK = true)
    (tc_BK : PySem.W.typeIn K (.ref BK) = some (.type "type"))
    (ne_BK : PySem.W.findIn K (.ref BK) "__ne__" = some (some (.builtin "object.__ne__")))
    (ob_BK : PySem.W.subIn K (.ref BK) (.type "object") = some true)
    (no_EC_month : PySem.W.findIn K (.ref EC) "month" = some none)
    (no_EC_amount : PySem.W.findIn K (.ref EC) "amount" = some none)
    (no_EC_target : PySem.W.findIn K (.ref EC) "target" = some none)
    (no_EC_old : PySem.W.findIn K (.ref EC) "old" = some none)
    (no_BK_entries : PySem.W.findIn K (.ref BK) "entries" = some none)
    (no_BK_month : PySem.W.findIn K (.ref BK) "month" = some none)
    (no_BK_lefts : PySem.W.findIn K (.ref BK) "lefts" = some none)
    (a_f_ei : PySem.W.findIn K (.ref EC) "__init__" = some (some (.ref f_ei)))
    (i_f_ei : PySem.W.isFn K (.ref f_ei) = true)
    (l_f_ei : K.lookup f_ei = some ⟨oc_f_ei, od_f_ei, .func (PySem.W.fnOf "__init__" "Entry.__init__" (defArgs sEnInit) (defBody sEnInit) (defScope sEnInit) .none kV_f_ei dc_f_ei pm_f_ei an_f_ei cd_f_ei ct_f_ei), sl_f_ei⟩)
    (c_f_ei : PySem.W.codeIn K cd_f_ei "Entry.__init__" = true)
    (k_f_ei : PySem.W.keepIn K (.ref f_ei) = true)
    (a_f_eq : PySem.W.findIn K (.ref EC) "__eq__" = some (some (.ref f_eq)))
    (i_f_eq : PySem.W.isFn K (.ref f_eq) = true)
    (l_f_eq : K.lookup f_eq = some ⟨oc_f_eq, od_f_eq, .func (PySem.W.fnOf "__eq__" "Entry.__eq__" (defArgs sEnEq) (defBody sEnEq) (defScope sEnEq) .none kV_f_eq dc_f_eq pm_f_eq an_f_eq cd_f_eq ct_f_eq), sl_f_eq⟩)
    (c_f_eq : PySem.W.codeIn K cd_f_eq "Entry.__eq__" = true)
    (k_f_eq : PySem.W.keepIn K (.ref f_eq) = true)
    (a_f_kl : PySem.W.findIn K (.ref BK) "left_of" = some (some (.ref f_kl)))
    (i_f_kl : PySem.W.isFn K (.ref f_kl) = true)
    (l_f_kl : K.lookup f_kl = some ⟨oc_f_kl, od_f_kl, .func (PySem.W.fnOf "left_of" "Book.left_of" (defArgs sBkLeft) (defBody sBkLeft) (defScope sBkLeft) .none kV_f_kl dc_f_kl pm_f_kl an_f_kl cd_f_kl ct_f_kl), sl_f_kl⟩)
    (c_f_kl : PySem.W.codeIn K cd_f_kl "Book.left_of" = true)
    (k_f_kl : PySem.W.keepIn K (.ref f_kl) = true)
    (a_f_kd : PySem.W.findIn K (.ref BK) "depth_of" = some (some (.ref f_kd)))
    (i_f_kd : PySem.W.isFn K (.ref f_kd) = true)
    (l_f_kd : K.lookup f_kd = some ⟨oc_f_kd, od_f_kd, .func (PySem.W.fnOf "depth_of" "Book.depth_of" (defArgs sBkDepth) (defBody sBkDepth) (defScope sBkDepth) .none kV_f_kd dc_f_kd pm_f_kd an_f_kd cd_f_kd ct_f_kd), sl_f_kd⟩)
    (c_f_kd : PySem.W.codeIn K cd_f_kd "Book.depth_of" = true)
    (k_f_kd : PySem.W.keepIn K (.ref f_kd) = true)
    (a_f_kk : PySem.W.findIn K (.ref BK) "kind_of" = some (some (.ref f_kk)))
    (i_f_kk : PySem.W.isFn K (.ref f_kk) = true)
    (l_f_kk : K.lookup f_kk = some ⟨oc_f_kk, od_f_kk, .func (PySem.W.fnOf "kind_of" "Book.kind_of" (defArgs sBkKind) (defBody sBkKind) (defScope sBkKind) .none kV_f_kk dc_f_kk pm_f_kk an_f_kk cd_f_kk ct_f_kk), sl_f_kk⟩)
    (c_f_kk : PySem.W.codeIn K cd_f_kk "Book.kind_of" = true)
    (k_f_kk : PySem.W.keepIn K (.ref f_kk) = true)
    (a_f_kr : PySem.W.findIn K (.ref BK) "require" = some (some (.ref f_kr)))
    (i_f_kr : PySem.W.isFn K (.ref f_kr) = true)
    (l_f_kr : K.lookup f_kr = some ⟨oc_f_kr, od_f_kr, .func (PySem.W.fnOf "require" "Book.require" (defArgs sBkReq) (defBody sBkReq) (defScope sBkReq) .none kV_f_kr dc_f_kr pm_f_kr an_f_kr cd_f_kr ct_f_kr), sl_f_kr⟩)
    (c_f_kr : PySem.W.codeIn K cd_f_kr "Book.require" = true)
    (k_f_kr : PySem.W.keepIn K (.ref f_kr) = true)
    (a_f_kn : PySem.W.findIn K (.ref BK) "__len__" = some (some (.ref f_kn)))
    (i_f_kn : PySem.W.isFn K (.ref f_kn) = true)
    (l_f_kn : K.lookup f_kn = some ⟨oc_f_kn, od_f_kn, .func (PySem.W.fnOf "__len__" "Book.__len__" (defArgs sBkLen) (defBody sBkLen) (defScope sBkLen) .none kV_f_kn dc_f_kn pm_f_kn an_f_kn cd_f_kn ct_f_kn), sl_f_kn⟩)
    (c_f_kn : PySem.W.codeIn K cd_f_kn "Book.__len__" = true)
    (k_f_kn : PySem.W.keepIn K (.ref f_kn) = true)
    (a_f_kg : PySem.W.findIn K (.ref BK) "__getitem__" = some (some (.ref f_kg)))
    (i_f_kg : PySem.W.isFn K (.ref f_kg) = true)
    (l_f_kg : K.lookup f_kg = some ⟨oc_f_kg, od_f_kg, .func (PySem.W.fnOf "__getitem__" "Book.__getitem__" (defArgs sBkGet) (defBody sBkGet) (defScope sBkGet) .none kV_f_kg dc_f_kg pm_f_kg an_f_kg cd_f_kg ct_f_kg), sl_f_kg⟩)
    (c_f_kg : PySem.W.codeIn K cd_f_kg "Book.__getitem__" = true)
    (k_f_kg : PySem.W.keepIn K (.ref f_kg) = true)
    (a_f_kq : PySem.W.findIn K (.ref BK) "__eq__" = some (some (.ref f_kq)))
    (i_f_kq : PySem.W.isFn K (.ref f_kq) = true)
    (l_f_kq : K.lookup f_kq = some ⟨oc_f_kq, od_f_kq, .func (PySem.W.fnOf "__eq__" "Book.__eq__" (defArgs sBkEq) (defBody sBkEq) (defScope sBkEq) .none kV_f_kq dc_f_kq pm_f_kq an_f_kq cd_f_kq ct_f_kq), sl_f_kq⟩)
    (c_f_kq : PySem.W.codeIn K cd_f_kq "Book.__eq__" = true)
    (k_f_kq : PySem.W.keepIn K (.ref f_kq) = true)
    (a_f_ki : PySem.W.findIn K (.ref BK) "__init__" = some (some (.ref f_ki)))
    (i_f_ki : PySem.W.isFn K (.ref f_ki) = true)
    (l_f_ki : K.lookup f_ki = some ⟨oc_f_ki, od_f_ki, .func (PySem.W.fnOf "__init__" "Book.__init__" (defArgs sBkInit) (defBody sBkInit) (defScope sBkInit) .none kV_f_ki dc_f_ki pm_f_ki an_f_ki cd_f_ki ct_f_ki), sl_f_ki⟩)
    (c_f_ki : PySem.W.codeIn K cd_f_ki "Book.__init__" = true)
    (k_f_ki : PySem.W.keepIn K (.ref f_ki) = true)
    (fi_kg : PySem.W.fnIn K f_kg = true)
    (g_CR : PySem.W.nsIn K mainGlobals "Refused" = some (some (.ref CR)))
    (x_CR : K.lookup CR = some (PySem.excClassObj nm_CR q_CR CR N_CR bs_CR bm_CR true sn_CR sub_CR ab_CR col_CR dd_CR m0_CR m1_CR m2_CR m3_CR m5_CR "ValueError.__new__"))
    (xb_CR : PySem.HandSPX.refsVE bm_CR = true)
    (xsa_CR : PySem.W.findIn K (.ref CR) "__setattr__" = some (some (.builtin "object.__setattr__")))
    (xga_CR : PySem.W.findIn K (.ref CR) "__getattribute__" = some (some (.builtin "BaseException.__getattribute__")))
    (xgg_CR : PySem.W.findIn K (.ref CR) "__getattr__" = some none)
    (xex_CR : PySem.W.subIn K (.ref CR) (.type "BaseException") = some true)
    (xty_CR : PySem.W.typeIn K (.ref CR) = some (.type "type"))
    (xkc_CR : PySem.W.keepIn K (.ref CR) = true)
    (xhd_CR : PySem.W.hasDictIn K CR = true)
    (xis_CR : PySem.W.isClsIn K CR = true)
    (xca_CR : PySem.W.findIn K (.ref CR) "__class__" = some (some (.builtin "object.__class__")))
    (xgn_CR : PySem.W.specialIn K (.builtin "object.__class__") "__get__" = some (some (.builtin "getset_descriptor.__get__")))
    (xtk_CR : PySem.W.takesIn K (.builtin "object.__class__") = some true)
    (xmo_CR : PySem.W.mroIn K CR (.type "object") = some true)
    (xss_CR : PySem.W.subIn K (.ref CR) (.ref CR) = some true)
    (no_CR_at : PySem.W.findIn K (.ref CR) "at" = some none)
    (a_f_rf : PySem.W.findIn K (.ref CR) "__init__" = some (some (.ref f_rf)))
    (tf_rf : PySem.W.typeIn K (.ref f_rf) = some (.type "function"))
    (l_f_rf : K.lookup f_rf = some ⟨oc_f_rf, od_f_rf, .func (PySem.W.fnOf "__init__" "Refused.__init__" (defArgs sRfInit) (defBody sRfInit) (defScope sRfInit) .none kV_f_rf dc_f_rf pm_f_rf an_f_rf cd_f_rf ct_f_rf), sl_f_rf⟩)
    (c_f_rf : PySem.W.codeIn K cd_f_rf "Refused.__init__" = true)
    (k_f_rf : PySem.W.keepIn K (.ref f_rf) = true)
    (z_len : PySem.W.nsIn K mainGlobals "len" = some none)
    (z_abs : PySem.W.nsIn K mainGlobals "abs" = some none)
    (z_int : PySem.W.nsIn K mainGlobals "int" = some none)
    (z_isinstance : PySem.W.nsIn K mainGlobals "isinstance" = some none)
    (z_bool : PySem.W.nsIn K mainGlobals "bool" = some none)
    (z_range : PySem.W.nsIn K mainGlobals "range" = some none)
    (z_max : PySem.W.nsIn K mainGlobals "max" = some none)
    (z_min : PySem.W.nsIn K mainGlobals "min" = some none)
    (z_str : PySem.W.nsIn K mainGlobals "str" = some none)
    (z_list : PySem.W.nsIn K mainGlobals "list" = some none)
    (z_tuple : PySem.W.nsIn K mainGlobals "tuple" = some none)
    (z_all : PySem.W.nsIn K mainGlobals "all" = some none)
    (z_enumerate : PySem.W.nsIn K mainGlobals "enumerate" = some none)
    : ∃ fd : FuncData, (∀ (s : Shared) (v : Value), BindsTo s fd ⟨[v], []⟩ [("_law_script", v)]) ∧ ∀ base : Heap, K.In base → base.Ns mainGlobals mg → FnOk l.prog w K mg base CX0 10 fa fd ["_law_script"] (spLaw K) := by
  have e := hfa.symm.trans (PySem.W.mg_of X G g_f_law)
  cases e
  have F_f_int := fun_mk (st := sIsInt) l_f_int c_f_int k_f_int
  have b_f_int := F_f_int.binds (ps := ["value"]) fun _ _ _ _ _ _ us hl => match us, hl with | [_], _ => rfl
  have F_f_num := fun_mk (st := sIsNum) l_f_num c_f_num k_f_num
  have b_f_num := F_f_num.binds (ps := ["value"]) fun _ _ _ _ _ _ us hl => match us, hl with | [_], _ => rfl
  have F_f_ww := fun_mk (st := sWrongWord) l_f_ww c_f_ww k_f_ww
  have b_f_ww := F_f_ww.binds (ps := ["kind", "state", "deed", "place"]) fun _ _ _ _ _ _ us hl => match us, hl with | [_, _, _, _], _ => rfl
  have F_f_isr := fun_mk (st := sIsRows) l_f_isr c_f_isr k_f_isr
  have b_f_isr := F_f_isr.binds (ps := ["value"]) fun _ _ _ _ _ _ us hl => match us, hl with | [_], _ => rfl
  have F_f_seed := fun_mk (st := sSeed) l_f_seed c_f_seed k_f_seed
  have b_f_seed := F_f_seed.binds (ps := ["_law_script", "_law_k"]) fun _ _ _ _ _ _ us hl => match us, hl with | [_, _], _ => rfl
  have F_f_choose := fun_mk (st := sChoose) l_f_choose c_f_choose k_f_choose
  have b_f_choose := F_f_choose.binds (ps := ["_law_box", "_law_many"]) fun _ _ _ _ _ _ us hl => match us, hl with | [_, _], _ => rfl
  have F_f_one := fun_mk (st := sOneOf) l_f_one c_f_one k_f_one
  have b_f_one := F_f_one.binds (ps := ["_law_box", "_law_some"]) fun _ _ _ _ _ _ us hl => match us, hl with | [_, _], _ => rfl
  have F_f_rows := fun_mk (st := sRows) l_f_rows c_f_rows k_f_rows
  have b_f_rows := F_f_rows.binds (ps := ["_law_box", "_law_many"]) fun _ _ _ _ _ _ us hl => match us, hl with | [_, _], _ => rfl
  have F_f_ho := fun_mk (st := sHouse) l_f_ho c_f_ho k_f_ho
  have b_f_ho := F_f_ho.binds (ps := ["_law_box", "_law_many"]) fun _ _ _ _ _ _ us hl => match us, hl with | [_, _], _ => rfl
  have F_f_ht := fun_mk (st := sHouseText) l_f_ht c_f_ht k_f_ht
  have b_f_ht := F_f_ht.binds (ps := ["_law_house_here"]) fun _ _ _ _ _ _ us hl => match us, hl with | [_], _ => rfl
  have F_f_rr := fun_mk (st := sReadRow) l_f_rr c_f_rr k_f_rr
  have b_f_rr := F_f_rr.binds (ps := ["text"]) fun _ _ _ _ _ _ us hl => match us, hl with | [_], _ => rfl
  have F_f_cs := fun_mk (st := sStand) l_f_cs c_f_cs k_f_cs
  have b_f_cs := F_f_cs.binds (ps := ["line", "at"]) fun _ _ _ _ _ _ us hl => match us, hl with | [_, _], _ => rfl
  have F_f_sh := fun_mk (st := sShared) l_f_sh c_f_sh k_f_sh
  have b_f_sh := F_f_sh.binds (ps := ["p", "q"]) fun _ _ _ _ _ _ us hl => match us, hl with | [_, _], _ => rfl
  have F_f_nm := fun_mk (st := sNoMore) l_f_nm c_f_nm k_f_nm
  have b_f_nm := F_f_nm.binds (ps := ["p", "q"]) fun _ _ _ _ _ _ us hl => match us, hl with | [_, _], _ => rfl
  have F_f_law := fun_mk (st := sLaw) l_f_law c_f_law k_f_law
  have b_f_law := F_f_law.binds (ps := ["_law_script"]) fun _ _ _ _ _ _ us hl => match us, hl with | [_], _ => rfl
  have F_f_em := fun_mk (st := sEmpty) l_f_em c_f_em k_f_em
  have b_f_em := F_f_em.binds (ps := []) fun _ _ _ _ _ _ us hl => match us, hl with | [], _ => rfl
  have F_f_lf := fun_mk (st := sLefts) l_f_lf c_f_lf k_f_lf
  have b_f_lf := F_f_lf.binds (ps := ["_law_book"]) fun _ _ _ _ _ _ us hl => match us, hl with | [_], _ => rfl
  have F_f_dp := fun_mk (st := sDepths) l_f_dp c_f_dp k_f_dp
  have b_f_dp := F_f_dp.binds (ps := ["_law_book"]) fun _ _ _ _ _ _ us hl => match us, hl with | [_], _ => rfl
  have F_f_lk := fun_mk (st := sKindL) l_f_lk c_f_lk k_f_lk
  have b_f_lk := F_f_lk.binds (ps := ["_law_book", "_law_depths_here", "_law_at"]) fun _ _ _ _ _ _ us hl => match us, hl with | [_, _, _], _ => rfl
  have F_f_pc := fun_mk (st := sPlace) l_f_pc c_f_pc k_f_pc
  have b_f_pc := F_f_pc.binds (ps := ["_law_house_here", "_law_kind_here", "_law_state", "_law_deed"]) fun _ _ _ _ _ _ us hl => match us, hl with | [_, _, _, _], _ => rfl
  have F_f_lm := fun_mk (st := sMonthL) l_f_lm c_f_lm k_f_lm
  have b_f_lm := F_f_lm.binds (ps := ["_law_house_here", "_law_book", "_law_at", "_law_deed"]) fun _ _ _ _ _ _ us hl => match us, hl with | [_, _, _, _], _ => rfl
  have F_f_ltk := fun_mk (st := sTakeL) l_f_ltk c_f_ltk k_f_ltk
  have b_f_ltk := F_f_ltk.binds (ps := ["_law_house_here", "_law_book", "_law_at", "_law_amount"]) fun _ _ _ _ _ _ us hl => match us, hl with | [_, _, _, _], _ => rfl
  have F_f_lrg := fun_mk (st := sRightL) l_f_lrg c_f_lrg k_f_lrg
  have b_f_lrg := F_f_lrg.binds (ps := ["_law_house_here", "_law_book", "_law_at", "_law_amount"]) fun _ _ _ _ _ _ us hl => match us, hl with | [_, _, _, _], _ => rfl
  have F_f_do := fun_mk (st := sDoL) l_f_do c_f_do k_f_do
  have b_f_do := F_f_do.binds (ps := ["_law_house_here", "_law_book", "_law_move"]) fun _ _ _ _ _ _ us hl => match us, hl with | [_, _, _], _ => rfl
  have F_f_mt := fun_mk (st := sMvText) l_f_mt c_f_mt k_f_mt
  have b_f_mt := F_f_mt.binds (ps := ["_law_move"]) fun _ _ _ _ _ _ us hl => match us, hl with | [_], _ => rfl
  have F_f_lt := fun_mk (st := sLawText) l_f_lt c_f_lt k_f_lt
  have b_f_lt := F_f_lt.binds (ps := ["_law_moves"]) fun _ _ _ _ _ _ us hl => match us, hl with | [_], _ => rfl
  have F_f_dm := fun_mk (st := sDrawn) l_f_dm c_f_dm k_f_dm
  have b_f_dm := F_f_dm.binds (ps := ["_law_box", "_law_book"]) fun _ _ _ _ _ _ us hl => match us, hl with | [_, _], _ => rfl
  have F_f_hy := fun_mk (st := sHistory) l_f_hy c_f_hy k_f_hy
  have b_f_hy := F_f_hy.binds (ps := ["_law_box", "_law_house_here", "_law_many"]) fun _ _ _ _ _ _ us hl => match us, hl with | [_, _, _], _ => rfl
  have cl_LC : Cls K LC := ⟨pg_LC, hd_LC, po_LC, sa_LC⟩
  have cl_HC : Cls K HC := ⟨pg_HC, hd_HC, po_HC, sa_HC⟩
  have F_f_li := fun_mk (st := sLInit) l_f_li c_f_li k_f_li
  have b_f_li := F_f_li.binds (ps := ["self", "kind", "state", "deed", "place"]) fun _ _ _ _ _ _ us hl => match us, hl with | [_, _, _, _, _], _ => rfl
  have F_f_ls := fun_mk (st := sLStr) l_f_ls c_f_ls k_f_ls
  have b_f_ls := F_f_ls.binds (ps := ["self"]) fun _ _ _ _ _ _ us hl => match us, hl with | [_], _ => rfl
  have F_f_hi : FunD K "__init__" "House.__init__" (defArgs sHsInit) (defBody sHsInit) (defScope sHsInit) [.ref e_hi] [] f_hi _ := ⟨⟨_, _, _, _, _, _, _, _, _, _, rfl, l_f_hi, c_f_hi, .inr ⟨by simp, T_f_hi, _, [.ref e_hi], n_f_hi, rfl, t_f_hi, rfl, .cons rfl .nil⟩, .inl rfl⟩, k_f_hi⟩
  obtain ⟨ds_, vds_, b_f_hi⟩ := F_f_hi.binds1 (ps := ["self", "depth", "check", "rows"]) 4 1 (by simp) rfl (fun _ _ _ _ _ _ _ us its hu hi => by
    match us, its, hu, hi with
    | [_, _, _, _], [_], _, _ => exact ⟨_, rfl, rfl⟩)
  cases vds_
  obtain ⟨es_f_hi, ve_f_hi, cb_f_hi⟩ := F_f_hi.binds1 (ps := ["self", "depth", "check", "rows"]) 3 0 (by simp) rfl (fun _ _ _ _ _ _ _ us its hu hi => by
    match us, its, hu, hi with
    | [_, _, _], [_], _, _ => exact ⟨_, rfl, rfl⟩)
  have F_f_hs := fun_mk (st := sHsStr) l_f_hs c_f_hs k_f_hs
  have b_f_hs := F_f_hs.binds (ps := ["self"]) fun _ _ _ _ _ _ us hl => match us, hl with | [_], _ => rfl
  have F_f_pl := fun_mk (st := sPlaced) l_f_pl c_f_pl k_f_pl
  have b_f_pl := F_f_pl.binds (ps := ["self", "kind", "state", "deed"]) fun _ _ _ _ _ _ us hl => match us, hl with | [_, _, _, _], _ => rfl
  have F_f_an := fun_mk (st := sAnd) l_f_an c_f_an k_f_an
  have b_f_an := F_f_an.binds (ps := ["self", "other"]) fun _ _ _ _ _ _ us hl => match us, hl with | [_, _], _ => rfl
  have F_f_le := fun_mk (st := sLe) l_f_le c_f_le k_f_le
  have b_f_le := F_f_le.binds (ps := ["self", "other"]) fun _ _ _ _ _ _ us hl => match us, hl with | [_, _], _ => rfl
  have F_f_ge := fun_mk (st := sGe) l_f_ge c_f_ge k_f_ge
  have b_f_ge := F_f_ge.binds (ps := ["self", "other"]) fun _ _ _ _ _ _ us hl => match us, hl with | [_, _], _ => rfl
  have ox_CT : OexC K CT := ⟨⟨_, _, _, _, _, _, _, _, _, _, _, _, _, _, _, x_CT, xb_CT⟩, xsa_CT, xex_CT, xty_CT, xkc_CT⟩
  have xc_CT : XClass K CT := ⟨xis_CT, xga_CT, xgg_CT, xex_CT, xca_CT, xgn_CT, xtk_CT, xmo_CT⟩
  have xf_CT : XfC K CT := ⟨xga_CT, xgg_CT, xex_CT, xhd_CT⟩
  have F_f_it := fun_mk (st := sItInit) l_f_it c_f_it k_f_it
  have b_f_it := F_f_it.binds (ps := ["self", "at"]) fun _ _ _ _ _ _ us hl => match us, hl with | [_, _], _ => rfl
  have F_f_rd := fun_mk (st := sHsRead) l_f_rd c_f_rd k_f_rd
  have b_f_rd := F_f_rd.binds (ps := ["cls", "text"]) fun _ _ _ _ _ _ us hl => match us, hl with | [_, _], _ => rfl
  have F_f_amt := fun_mk (st := sIsAmt) l_f_amt c_f_amt k_f_amt
  have b_f_amt := F_f_amt.binds (ps := ["value"]) fun _ _ _ _ _ _ us hl => match us, hl with | [_], _ => rfl
  have F_f_rn := fun_mk (st := sReadNumber) l_f_rn c_f_rn k_f_rn
  have b_f_rn := F_f_rn.binds (ps := ["text"]) fun _ _ _ _ _ _ us hl => match us, hl with | [_], _ => rfl
  have F_f_ism := fun_mk (st := sIsMoves) l_f_ism c_f_ism k_f_ism
  have b_f_ism := F_f_ism.binds (ps := ["value"]) fun _ _ _ _ _ _ us hl => match us, hl with | [_], _ => rfl
  have F_f_rms := fun_mk (st := sReadMoves) l_f_rms c_f_rms k_f_rms
  have b_f_rms := F_f_rms.binds (ps := ["text"]) fun _ _ _ _ _ _ us hl => match us, hl with | [_], _ => rfl
  have F_f_rm := fun_mk (st := sReadMove) l_f_rm c_f_rm k_f_rm
  have b_f_rm := F_f_rm.binds (ps := ["text"]) fun _ _ _ _ _ _ us hl => match us, hl with | [_], _ => rfl
  have F_f_mo := fun_mk (st := sMoveOf) l_f_mo c_f_mo k_f_mo
  have b_f_mo := F_f_mo.binds (ps := ["words", "numbers"]) fun _ _ _ _ _ _ us hl => match us, hl with | [_, _], _ => rfl
  have ox_CM : OexC K CM := ⟨⟨_, _, _, _, _, _, _, _, _, _, _, _, _, _, _, x_CM, xb_CM⟩, xsa_CM, xex_CM, xty_CM, xkc_CM⟩
  have xc_CM : XClass K CM := ⟨xis_CM, xga_CM, xgg_CM, xex_CM, xca_CM, xgn_CM, xtk_CM, xmo_CM⟩
  have xf_CM : XfC K CM := ⟨xga_CM, xgg_CM, xex_CM, xhd_CM⟩
  have F_f_im := fun_mk (st := sImInit) l_f_im c_f_im k_f_im
  have b_f_im := F_f_im.binds (ps := ["self", "word"]) fun _ _ _ _ _ _ us hl => match us, hl with | [_, _], _ => rfl
  have cl_BC : Cls K BC := ⟨pg_BC, hd_BC, po_BC, sa_BC⟩
  have cl_TC : Cls K TC := ⟨pg_TC, hd_TC, po_TC, sa_TC⟩
  have cl_RC : Cls K RC := ⟨pg_RC, hd_RC, po_RC, sa_RC⟩
  have cl_SC : Cls K SC := ⟨pg_SC, hd_SC, po_SC, sa_SC⟩
  have cl_YC : Cls K YC := ⟨pg_YC, hd_YC, po_YC, sa_YC⟩
  have F_f_bi := fun_mk (st := sBInit) l_f_bi c_f_bi k_f_bi
  have b_f_bi := F_f_bi.binds (ps := ["self", "amount"]) fun _ _ _ _ _ _ us hl => match us, hl with | [_, _], _ => rfl
  have F_f_ti : FunD K "__init__" "Take.__init__" (defArgs sTInit) (defBody sTInit) (defScope sTInit) [.non] [] f_ti _ := ⟨⟨_, _, _, _, _, _, _, _, _, _, rfl, l_f_ti, c_f_ti, .inr ⟨by simp, T_f_ti, _, [.none], n_f_ti, rfl, t_f_ti, rfl, .cons rfl .nil⟩, .inl rfl⟩, k_f_ti⟩
  obtain ⟨ds_, vds_, b_f_ti⟩ := F_f_ti.binds1 (ps := ["self", "at", "amount"]) 3 1 (by simp) rfl (fun _ _ _ _ _ _ _ us its hu hi => by
    match us, its, hu, hi with
    | [_, _, _], [_], _, _ => exact ⟨_, rfl, rfl⟩)
  cases vds_
  obtain ⟨es_f_ti, ve_f_ti, cb_f_ti⟩ := F_f_ti.binds1 (ps := ["self", "at", "amount"]) 2 0 (by simp) rfl (fun _ _ _ _ _ _ _ us its hu hi => by
    match us, its, hu, hi with
    | [_, _], [_], _, _ => exact ⟨_, rfl, rfl⟩)
  have F_f_ri := fun_mk (st := sRInit) l_f_ri c_f_ri k_f_ri
  have b_f_ri := F_f_ri.binds (ps := ["self", "at", "amount"]) fun _ _ _ _ _ _ us hl => match us, hl with | [_, _, _], _ => rfl
  have F_f_yi : FunD K "__init__" "History.__init__" (defArgs sHInit) (defBody sHInit) (defScope sHInit) [.ref e_yi] [] f_yi _ := ⟨⟨_, _, _, _, _, _, _, _, _, _, rfl, l_f_yi, c_f_yi, .inr ⟨by simp, T_f_yi, _, [.ref e_yi], n_f_yi, rfl, t_f_yi, rfl, .cons rfl .nil⟩, .inl rfl⟩, k_f_yi⟩
  obtain ⟨ds_, vds_, b_f_yi⟩ := F_f_yi.binds1 (ps := ["self", "moves"]) 2 1 (by simp) rfl (fun _ _ _ _ _ _ _ us its hu hi => by
    match us, its, hu, hi with
    | [_, _], [_], _, _ => exact ⟨_, rfl, rfl⟩)
  cases vds_
  obtain ⟨es_f_yi, ve_f_yi, cb_f_yi⟩ := F_f_yi.binds1 (ps := ["self", "moves"]) 1 0 (by simp) rfl (fun _ _ _ _ _ _ _ us its hu hi => by
    match us, its, hu, hi with
    | [_], [_], _, _ => exact ⟨_, rfl, rfl⟩)
  have F_f_yr := fun_mk (st := sHRead) l_f_yr c_f_yr k_f_yr
  have b_f_yr := F_f_yr.binds (ps := ["cls", "text"]) fun _ _ _ _ _ _ us hl => match us, hl with | [_, _], _ => rfl
  have F_f_play := fun_mk (st := sPlay) l_f_play c_f_play k_f_play
  have b_f_play := F_f_play.binds (ps := ["house", "history"]) fun _ _ _ _ _ _ us hl => match us, hl with | [_, _], _ => rfl
  have F_f_along := fun_mk (st := sAlong) l_f_along c_f_along k_f_along
  have b_f_along := F_f_along.binds (ps := ["house", "history"]) fun _ _ _ _ _ _ us hl => match us, hl with | [_, _], _ => rfl
  have F_f_after := fun_mk (st := sAfter) l_f_after c_f_after k_f_after
  have b_f_after := F_f_after.binds (ps := ["house", "book", "move"]) fun _ _ _ _ _ _ us hl => match us, hl with | [_, _, _], _ => rfl
  have F_f_mby := fun_mk (st := sMadeBy) l_f_mby c_f_mby k_f_mby
  have b_f_mby := F_f_mby.binds (ps := ["house", "book", "move"]) fun _ _ _ _ _ _ us hl => match us, hl with | [_, _, _], _ => rfl
  have F_f_tkn := fun_mk (st := sTaken) l_f_tkn c_f_tkn k_f_tkn
  have b_f_tkn := F_f_tkn.binds (ps := ["house", "book", "move"]) fun _ _ _ _ _ _ us hl => match us, hl with | [_, _, _], _ => rfl
  have F_f_rtd := fun_mk (st := sRighted) l_f_rtd c_f_rtd k_f_rtd
  have b_f_rtd := F_f_rtd.binds (ps := ["house", "book", "move"]) fun _ _ _ _ _ _ us hl => match us, hl with | [_, _, _], _ => rfl
  have F_f_mf := fun_mk (st := sMonthFor) l_f_mf c_f_mf k_f_mf
  have b_f_mf := F_f_mf.binds (ps := ["house", "book", "at", "deed"]) fun _ _ _ _ _ _ us hl => match us, hl with | [_, _, _, _], _ => rfl
  have F_f_oa := fun_mk (st := sOverAll) l_f_oa c_f_oa k_f_oa
  have b_f_oa := F_f_oa.binds (ps := ["book", "at", "amount"]) fun _ _ _ _ _ _ us hl => match us, hl with | [_, _, _], _ => rfl
  have F_f_lof := fun_mk (st := sLeftsOf) l_f_lof c_f_lof k_f_lof
  have b_f_lof := F_f_lof.binds (ps := ["entries"]) fun _ _ _ _ _ _ us hl => match us, hl with | [_], _ => rfl
  have cl_EC : Cls K EC := ⟨pg_EC, hd_EC, po_EC, sa_EC⟩
  have cl_BK : Cls K BK := ⟨pg_BK, hd_BK, po_BK, sa_BK⟩
  have F_f_ei := fun_mk (st := sEnInit) l_f_ei c_f_ei k_f_ei
  have b_f_ei := F_f_ei.binds (ps := ["self", "month", "amount", "target", "old"]) fun _ _ _ _ _ _ us hl => match us, hl with | [_, _, _, _, _], _ => rfl
  have F_f_eq := fun_mk (st := sEnEq) l_f_eq c_f_eq k_f_eq
  have b_f_eq := F_f_eq.binds (ps := ["self", "other"]) fun _ _ _ _ _ _ us hl => match us, hl with | [_, _], _ => rfl
  have F_f_kl := fun_mk (st := sBkLeft) l_f_kl c_f_kl k_f_kl
  have b_f_kl := F_f_kl.binds (ps := ["self", "at"]) fun _ _ _ _ _ _ us hl => match us, hl with | [_, _], _ => rfl
  have F_f_kd := fun_mk (st := sBkDepth) l_f_kd c_f_kd k_f_kd
  have b_f_kd := F_f_kd.binds (ps := ["self", "at"]) fun _ _ _ _ _ _ us hl => match us, hl with | [_, _], _ => rfl
  have F_f_kk := fun_mk (st := sBkKind) l_f_kk c_f_kk k_f_kk
  have b_f_kk := F_f_kk.binds (ps := ["self", "at"]) fun _ _ _ _ _ _ us hl => match us, hl with | [_, _], _ => rfl
  have F_f_kr := fun_mk (st := sBkReq) l_f_kr c_f_kr k_f_kr
  have b_f_kr := F_f_kr.binds (ps := ["self", "at"]) fun _ _ _ _ _ _ us hl => match us, hl with | [_, _], _ => rfl
  have F_f_kn := fun_mk (st := sBkLen) l_f_kn c_f_kn k_f_kn
  have b_f_kn := F_f_kn.binds (ps := ["self"]) fun _ _ _ _ _ _ us hl => match us, hl with | [_], _ => rfl
  have F_f_kg := fun_mk (st := sBkGet) l_f_kg c_f_kg k_f_kg
  have b_f_kg := F_f_kg.binds (ps := ["self", "at"]) fun _ _ _ _ _ _ us hl => match us, hl with | [_, _], _ => rfl
  have F_f_kq := fun_mk (st := sBkEq) l_f_kq c_f_kq k_f_kq
  have b_f_kq := F_f_kq.binds (ps := ["self", "other"]) fun _ _ _ _ _ _ us hl => match us, hl with | [_, _], _ => rfl
  have F_f_ki := fun_mk (st := sBkInit) l_f_ki c_f_ki k_f_ki
  have b_f_ki := F_f_ki.binds (ps := ["self", "entries", "month"]) fun _ _ _ _ _ _ us hl => match us, hl with | [_, _, _], _ => rfl
  have ox_CR : OexC K CR := ⟨⟨_, _, _, _, _, _, _, _, _, _, _, _, _, _, _, x_CR, xb_CR⟩, xsa_CR, xex_CR, xty_CR, xkc_CR⟩
  have xc_CR : XClass K CR := ⟨xis_CR, xga_CR, xgg_CR, xex_CR, xca_CR, xgn_CR, xtk_CR, xmo_CR⟩
  have xf_CR : XfC K CR := ⟨xga_CR, xgg_CR, xex_CR, xhd_CR⟩
  have F_f_rf := fun_mk (st := sRfInit) l_f_rf c_f_rf k_f_rf
  have b_f_rf := F_f_rf.binds (ps := ["self", "at"]) fun _ _ _ _ _ _ us hl => match us, hl with | [_, _], _ => rfl
  have TA : Blt mg := ⟨PySem.W.mg_none_of X G z_len, PySem.W.mg_none_of X G z_abs, PySem.W.mg_none_of X G z_int⟩
  have TK : BltK mg := ⟨PySem.W.mg_none_of X G z_isinstance, PySem.W.mg_none_of X G z_int, PySem.W.mg_none_of X G z_bool, PySem.W.mg_none_of X G z_list, PySem.W.mg_none_of X G z_tuple, PySem.W.mg_none_of X G z_all, PySem.W.mg_none_of X G z_len, PySem.W.mg_none_of X G z_str⟩
  have TG : BltG mg := ⟨PySem.W.mg_none_of X G z_range, PySem.W.mg_none_of X G z_str⟩
  have RT : RowH K mg KA SA DA PA := ⟨PySem.W.mg_of X G g_KA, PySem.W.mg_of X G g_SA, PySem.W.mg_of X G g_DA, PySem.W.mg_of X G g_PA, fun _ => .inr ⟨_, _, _, q_KA, rfl, rfl, by show 4 ≤ sizeLine; decide, (.cons ⟨_, rfl⟩ (.cons ⟨_, rfl⟩ (.cons ⟨_, rfl⟩ (.cons ⟨_, rfl⟩ .nil))))⟩, fun _ => .inr ⟨_, _, _, q_SA, rfl, rfl, by show 2 ≤ sizeLine; decide, (.cons ⟨_, rfl⟩ (.cons ⟨_, rfl⟩ .nil))⟩, fun _ => .inr ⟨_, _, _, q_DA, rfl, rfl, by show 3 ≤ sizeLine; decide, (.cons ⟨_, rfl⟩ (.cons ⟨_, rfl⟩ (.cons ⟨_, rfl⟩ .nil)))⟩, fun _ => .inr ⟨_, _, _, q_PA, rfl, rfl, by show 2 ≤ sizeLine; decide, (.cons ⟨_, rfl⟩ (.cons ⟨_, rfl⟩ .nil))⟩⟩
  have XT : HsT K mg KK DL := ⟨PySem.W.mg_of X G g_KK, PySem.W.mg_of X G g_DL, fun _ => .inr ⟨_, _, _, q_KK, rfl, rfl, by show 2 ≤ sizeLine; decide, (.cons ⟨_, rfl⟩ (.cons ⟨_, rfl⟩ .nil))⟩, fun _ => .inr ⟨_, _, _, q_DL, rfl, rfl, by show 5 ≤ sizeLine; decide, (.cons ⟨_, rfl⟩ (.cons ⟨_, rfl⟩ (.cons ⟨_, rfl⟩ (.cons ⟨_, rfl⟩ (.cons ⟨_, rfl⟩ .nil)))))⟩⟩
  have FL : LetC K ⟨LC, LC⟩ := ⟨cl_LC, no_LC_kind, no_LC_state, no_LC_deed, no_LC_place⟩
  have LI : LetI K ⟨LC, LC⟩ := ⟨cl_LC, ca_LC, mo_LC, gn, tk, kit_ref ic_LC tc_LC ss_LC ss_LC⟩
  have FH : HsC K HC := ⟨cl_HC, no_HC_depth, no_HC_check, no_HC_rows⟩
  have HI : HsI K HC := ⟨cl_HC, ca_HC, mo_HC, gn, tk, kit_ref ic_HC tc_HC ss_HC ss_HC⟩
  have TE0 : (∃ o, K.lookup e_hi = some o ∧ o.cls = .type "tuple") ∧ ∀ H, SqT K H e_hi [] := ⟨⟨_, q_e, rfl⟩, fun _ => .inr ⟨_, _, _, q_e, rfl, rfl, by show 0 ≤ sizeLine; decide, .nil⟩⟩
  have LX : HsL K mg DL LA := ⟨PySem.W.mg_of X G g_LA, ⟨_, q_DL, rfl, dn_DL⟩, ⟨_, q_LA, rfl, dn_LA⟩, fun _ => .inr ⟨_, _, _, q_LA, rfl, rfl, by show 2 ≤ sizeLine; decide, (.cons ⟨_, rfl⟩ (.cons ⟨_, rfl⟩ .nil))⟩⟩
  refine ⟨PySem.W.fnOf "law" "law" (defArgs sLaw) (defBody sLaw) (defScope sLaw) .none kV_f_law dc_f_law pm_f_law an_f_law cd_f_law ct_f_law, fun s v => .of_eq rfl, fun base _ _ => ?_⟩
  have q_f_int : Cal l.prog w K mg base CX0 "is_integer" 1 ["value"] spIntI := ⟨f_int, _, ok_intK F_f_int TK, PySem.W.mg_of X G g_f_int, k_f_int, b_f_int⟩
  have q_f_num : Cal l.prog w K mg base CX0 "is_number" 2 ["value"] spNumI := ⟨f_num, _, ok_numK F_f_num q_f_int, PySem.W.mg_of X G g_f_num, k_f_num, b_f_num⟩
  have q_f_ww : Cal l.prog w K mg base CX0 "wrong_word" 1 ["kind", "state", "deed", "place"] spWord := ⟨f_ww, _, ok_word F_f_ww RT, PySem.W.mg_of X G g_f_ww, k_f_ww, b_f_ww⟩
  have q_f_isr : Cal l.prog w K mg base CX0 "is_rows" 1 ["value"] (spIsRows ⟨LC, LC⟩) := ⟨f_isr, _, ok_isRows F_f_isr TK LI (PySem.W.mg_of X G g_LC), PySem.W.mg_of X G g_f_isr, k_f_isr, b_f_isr⟩
  have qT_f_isr : Cal l.prog w K mg base CX0 "is_rows" 1 ["value"] (spIsRowsT K ⟨LC, LC⟩) := ⟨f_isr, _, ok_isRowsT F_f_isr TK LI (PySem.W.mg_of X G g_LC), PySem.W.mg_of X G g_f_isr, k_f_isr, b_f_isr⟩
  have q_f_choose : Cal l.prog w K mg base CX0 "_law_choose" 1 ["_law_box", "_law_many"] spChoose := ⟨f_choose, _, ok_choose F_f_choose TA, PySem.W.mg_of X G g_f_choose, k_f_choose, b_f_choose⟩
  have q_f_seed : Cal l.prog w K mg base CX0 "_law_seed" 1 ["_law_script", "_law_k"] (spSeed K) := ⟨f_seed, _, ok_seed F_f_seed TA, PySem.W.mg_of X G g_f_seed, k_f_seed, b_f_seed⟩
  have q_f_one : Cal l.prog w K mg base CX0 "_law_one_of" 2 ["_law_box", "_law_some"] (spOneOf K) := ⟨f_one, _, ok_oneOf F_f_one TA q_f_choose, PySem.W.mg_of X G g_f_one, k_f_one, b_f_one⟩
  have ML : MkR l.prog w K mg base "Let" ["self", "kind", "state", "deed", "place"] LC 3 (spLInit ⟨LC, LC⟩) := ⟨PySem.W.mg_of X G g_LC, f_li, _, (ok_lInit F_f_li FL q_f_ww).mono (by decide), ⟨mk_LC, a_f_li, i_f_li, kc_LC⟩, b_f_li⟩
  have MH : MkH l.prog w K mg base ⟨LC, LC⟩ HC := ⟨PySem.W.mg_of X G g_HC, f_hi, _, ok_hsInit F_f_hi TK XT FH q_f_num q_f_isr, ⟨mk_HC, a_f_hi, i_f_hi, kc_HC⟩, b_f_hi⟩
  have SL : StrH l.prog w K mg base ⟨LC, LC⟩ := ⟨⟨f_ls, _, ok_lStr F_f_ls FL, a_f_ls, i_f_ls, b_f_ls⟩⟩
  have SK : HsStr l.prog w K mg base ⟨LC, LC⟩ HC := ⟨⟨f_hs, _, ok_hsStr F_f_hs TK SL FH, a_f_hs, i_f_hs, b_f_hs⟩⟩
  have q_f_rows : Cal l.prog w K mg base CX0 "_law_rows" 3 ["_law_box", "_law_many"] spRows := ⟨f_rows, _, ok_rows F_f_rows TG q_f_one, PySem.W.mg_of X G g_f_rows, k_f_rows, b_f_rows⟩
  have q_f_ho : Cal l.prog w K mg base CX0 "_law_house" 4 ["_law_box", "_law_many"] spHouse := ⟨f_ho, _, ok_house F_f_ho (PySem.W.mg_none_of X G z_tuple) q_f_one q_f_choose q_f_rows, PySem.W.mg_of X G g_f_ho, k_f_ho, b_f_ho⟩
  have q_f_ht : Cal l.prog w K mg base CX0 "_law_house_text" 1 ["_law_house_here"] spHouseText := ⟨f_ht, _, ok_houseText F_f_ht (PySem.W.mg_none_of X G z_str), PySem.W.mg_of X G g_f_ht, k_f_ht, b_f_ht⟩
  have IT : ItTxt l.prog w K mg base CT := ⟨PySem.W.mg_of X G g_CT, ox_CT, no_CT_at, f_it, _, ok_itInit F_f_it ox_CT no_CT_at, a_f_it, tf_it, b_f_it⟩
  have qA_f_ww : Cal l.prog w K mg base CX0 "wrong_word" 1 ["kind", "state", "deed", "place"] spWordA := ⟨f_ww, _, ok_wordA F_f_ww RT, PySem.W.mg_of X G g_f_ww, k_f_ww, b_f_ww⟩
  have q_f_rr : Cal l.prog w K mg base CX0 "read_row" 5 ["text"] (spReadRow ⟨LC, LC⟩) := ⟨f_rr, _, ok_readRow F_f_rr (PySem.W.mg_none_of X G z_len) qA_f_ww ML, PySem.W.mg_of X G g_f_rr, k_f_rr, b_f_rr⟩
  have q_f_cs : Cal l.prog w K mg base CX0 "can_stand" 6 ["line", "at"] spStand := ⟨f_cs, _, ok_stand F_f_cs XT LX q_f_rr, PySem.W.mg_of X G g_f_cs, k_f_cs, b_f_cs⟩
  have RD : HsRd l.prog w K mg base ⟨LC, LC⟩ HC CT := ⟨PySem.W.mg_of X G g_HC, .type "type", pr, f_rd, _, ⟨rd_HC, rg_HC⟩, ⟨at_rd, ⟨rest_rd, rc_rd⟩, fi_rd⟩, ok_hsRead F_f_rd TK (PySem.W.mg_none_of X G z_enumerate) XT LX MH IT q_f_cs q_f_rr, b_f_rd⟩
  have TB : BltB mg := ⟨PySem.W.mg_none_of X G z_isinstance, PySem.W.mg_none_of X G z_int, PySem.W.mg_none_of X G z_bool⟩
  have THH : BltH mg := ⟨PySem.W.mg_none_of X G z_isinstance, PySem.W.mg_none_of X G z_list, PySem.W.mg_none_of X G z_tuple, PySem.W.mg_none_of X G z_all, PySem.W.mg_none_of X G z_str⟩
  have CLS : MvCls K ⟨BC, TC, RC, SC, YC⟩ MV := ⟨fun k hk => match k, hk with
    | 0, _ => ⟨cl_BC, ca_BC, mo_BC, kit_ref is_MV ty_MV sm_BC ss_BC⟩
    | 1, _ => ⟨cl_TC, ca_TC, mo_TC, kit_ref is_MV ty_MV sm_TC ss_TC⟩
    | 2, _ => ⟨cl_RC, ca_RC, mo_RC, kit_ref is_MV ty_MV sm_RC ss_RC⟩
    | 3, _ => ⟨cl_SC, ca_SC, mo_SC, kit_ref is_MV ty_MV sm_SC ss_SC⟩, xgn_CM, xtk_CM, fun k hk j hj => match k, hk with
    | 0, _ => match j, hj with | 0, _ => nf_same | 1, _ => nf_other su_TC_BC | 2, _ => nf_other su_RC_BC | 3, _ => nf_other su_SC_BC
    | 1, _ => match j, hj with | 0, _ => nf_other su_BC_TC | 1, _ => nf_same | 2, _ => nf_other su_RC_TC | 3, _ => nf_other su_SC_TC
    | 2, _ => match j, hj with | 0, _ => nf_other su_BC_RC | 1, _ => nf_other su_TC_RC | 2, _ => nf_same | 3, _ => nf_other su_SC_RC
    | 3, _ => match j, hj with | 0, _ => nf_other su_BC_SC | 1, _ => nf_other su_TC_SC | 2, _ => nf_other su_RC_SC | 3, _ => nf_same⟩
  have MK : MvK K ⟨BC, TC, RC, SC, YC⟩ := fun k hk j hj => match k, hk with
    | 0, _ => match j, hj with | 0, _ => kit_ref ic_BC tc_BC ss_BC ss_BC | 1, _ => kit_ref ic_TC tc_TC su_BC_TC ss_BC | 2, _ => kit_ref ic_RC tc_RC su_BC_RC ss_BC | 3, _ => kit_ref ic_SC tc_SC su_BC_SC ss_BC
    | 1, _ => match j, hj with | 0, _ => kit_ref ic_BC tc_BC su_TC_BC ss_TC | 1, _ => kit_ref ic_TC tc_TC ss_TC ss_TC | 2, _ => kit_ref ic_RC tc_RC su_TC_RC ss_TC | 3, _ => kit_ref ic_SC tc_SC su_TC_SC ss_TC
    | 2, _ => match j, hj with | 0, _ => kit_ref ic_BC tc_BC su_RC_BC ss_RC | 1, _ => kit_ref ic_TC tc_TC su_RC_TC ss_RC | 2, _ => kit_ref ic_RC tc_RC ss_RC ss_RC | 3, _ => kit_ref ic_SC tc_SC su_RC_SC ss_RC
    | 3, _ => match j, hj with | 0, _ => kit_ref ic_BC tc_BC su_SC_BC ss_SC | 1, _ => kit_ref ic_TC tc_TC su_SC_TC ss_SC | 2, _ => kit_ref ic_RC tc_RC su_SC_RC ss_SC | 3, _ => kit_ref ic_SC tc_SC ss_SC ss_SC
  have MF : MvF K ⟨BC, TC, RC, SC, YC⟩ := ⟨no_BC_amount, no_TC_at, no_TC_amount, no_RC_at, no_RC_amount⟩
  have HCLS : HiCls K ⟨BC, TC, RC, SC, YC⟩ := ⟨cl_YC, no_YC_moves, ca_YC, xgn_CM, xtk_CM, mo_YC, by unfold PySem.W.kitOne; rw [if_pos (by simp)]⟩
  have cI : Cal l.prog w K mg base CX0 "is_integer" 1 ["value"] spInt := ⟨f_int, _, ok_isInt F_f_int TB, PySem.W.mg_of X G g_f_int, k_f_int, b_f_int⟩
  have cN : CalNum l.prog w K mg base := ⟨f_num, _, ok_isNum F_f_num cI, PySem.W.mg_of X G g_f_num, k_f_num, b_f_num⟩
  have cA : CalAmt l.prog w K mg base := ⟨f_amt, _, ok_isAmt F_f_amt cN, PySem.W.mg_of X G g_f_amt, k_f_amt, b_f_amt⟩
  have im : ImTxt l.prog w K mg base CM := ⟨PySem.W.mg_of X G g_CM, ox_CM, no_CM_word, f_im, _, ok_imInit F_f_im ox_CM no_CM_word, a_f_im, tf_im, b_f_im⟩
  have GB := ok_bInit (P := l.prog) (w := w) (mg := mg) (base := base) F_f_bi cl_BC no_BC_amount cA im
  have GT := ok_tInit (P := l.prog) (w := w) (mg := mg) (base := base) F_f_ti cl_TC no_TC_at no_TC_amount cN cA im
  have GR := ok_rInit (P := l.prog) (w := w) (mg := mg) (base := base) F_f_ri cl_RC no_RC_at no_RC_amount cN cA im
  have mB : MkTxt l.prog w K mg base "Begin" ["self", "amount"] BC (spBegin BC CM) [] := ⟨PySem.W.mg_of X G g_BC, f_bi, _, GB, ⟨mk_BC, a_f_bi, i_f_bi, kc_BC⟩, b_f_bi, [], .nil, b_f_bi⟩
  have mT : MkTxt l.prog w K mg base "Take" ["self", "at", "amount"] TC (spTake TC CM) [.non] := ⟨PySem.W.mg_of X G g_TC, f_ti, _, GT, ⟨mk_TC, a_f_ti, i_f_ti, kc_TC⟩, b_f_ti, es_f_ti, ve_f_ti, cb_f_ti⟩
  have mR : MkTxt l.prog w K mg base "Right" ["self", "at", "amount"] RC (spRight RC CM) [] := ⟨PySem.W.mg_of X G g_RC, f_ri, _, GR, ⟨mk_RC, a_f_ri, i_f_ri, kc_RC⟩, b_f_ri, [], .nil, b_f_ri⟩
  have MT : MvTxt l.prog w K mg base ⟨BC, TC, RC, SC, YC⟩ CM := ⟨mB, mT, mR, ⟨mk_SC, oi_SC, kc_SC⟩, PySem.W.mg_of X G g_SC⟩
  have cIM : CalIsMM l.prog w K mg base ⟨BC, TC, RC, SC, YC⟩ := ⟨f_ism, _, ok_isMovesM F_f_ism THH CLS (PySem.W.mg_of X G g_MV), PySem.W.mg_of X G g_f_ism, k_f_ism, b_f_ism⟩
  have GH : FnOk l.prog w K mg base CX0 3 f_yi _ ["self", "moves"] (spHIM ⟨BC, TC, RC, SC, YC⟩) := ok_hInitM F_f_yi cl_YC no_YC_moves cIM (PySem.W.mg_none_of X G z_tuple)
  have HT : HiTxt l.prog w K mg base ⟨BC, TC, RC, SC, YC⟩ := ⟨PySem.W.mg_of X G g_YC, f_yi, _, GH, ⟨mk_YC, a_f_yi, i_f_yi, kc_YC⟩, b_f_yi⟩
  have cRN : CalReadNumber l.prog w K mg base := ⟨f_rn, _, ok_readNumber F_f_rn (PySem.W.mg_none_of X G z_int), PySem.W.mg_of X G g_f_rn, k_f_rn, b_f_rn⟩
  have cMO : CalMoveOf l.prog w K mg base ⟨BC, TC, RC, SC, YC⟩ := ⟨f_mo, _, ok_moveOf F_f_mo (PySem.W.mg_none_of X G z_len) MT, PySem.W.mg_of X G g_f_mo, k_f_mo, b_f_mo⟩
  have cRM : CalReadMove l.prog w K mg base ⟨BC, TC, RC, SC, YC⟩ := ⟨f_rm, _, ok_readMove F_f_rm cRN cMO, PySem.W.mg_of X G g_f_rm, k_f_rm, b_f_rm⟩
  have cRMs : CalReadMoves l.prog w K mg base ⟨BC, TC, RC, SC, YC⟩ := ⟨f_rms, _, ok_readMoves F_f_rms cRM (PySem.W.mg_none_of X G z_enumerate), PySem.W.mg_of X G g_f_rms, k_f_rms, b_f_rms⟩
  have YR : HiRd l.prog w K mg base ⟨BC, TC, RC, SC, YC⟩ := ⟨PySem.W.mg_of X G g_YC, .type "type", py, f_yr, _, ⟨rd_YC, rg_YC⟩, ⟨at_yr, ⟨rest_yr, rc_yr⟩, fi_yr⟩, ok_hRead F_f_yr cRMs HT, b_f_yr⟩
  have ZB : BltBk mg := ⟨PySem.W.mg_none_of X G z_len, PySem.W.mg_none_of X G z_range, PySem.W.mg_none_of X G z_tuple, PySem.W.mg_none_of X G z_isinstance, PySem.W.mg_none_of X G z_enumerate⟩
  have CE_ : EnC K EC := { cl := cl_EC, mo := no_EC_month, am := no_EC_amount, ta := no_EC_target, ol := no_EC_old }
  have CB_ : BkC K BK := { cl := cl_BK, es := no_BK_entries, mo := no_BK_month, lf := no_BK_lefts }
  have OE : OwnI K EC := ⟨cl_EC, ca_EC, gn, tk, mo_EC, kit_ref ic_EC tc_EC ss_EC ss_EC, nf_same⟩
  have OB : OwnI K BK := ⟨cl_BK, ca_BK, gn, tk, mo_BK, kit_ref ic_BK tc_BK ss_BK ss_BK, nf_same⟩
  have RF : RfTxt l.prog w K mg base CR := ⟨PySem.W.mg_of X G g_CR, ox_CR, no_CR_at, f_rf, _, ok_rfInit F_f_rf ox_CR no_CR_at, a_f_rf, tf_rf, b_f_rf⟩
  have q_f_lof : Cal l.prog w K mg base CX0 "lefts_of" 1 ["entries"] (spLeftsOf EC) := ⟨f_lof, _, ok_leftsOf F_f_lof ZB CE_, PySem.W.mg_of X G g_f_lof, k_f_lof, b_f_lof⟩
  have mRq : BkM l.prog w K mg base BK "require" 1 (spAtB EC BK fReq) := ⟨f_kr, _, ok_bkReq F_f_kr ZB CB_, ⟨a_f_kr, i_f_kr, k_f_kr⟩, b_f_kr⟩
  have mDp : BkM l.prog w K mg base BK "depth_of" 2 (spAtB EC BK fDepth) := ⟨f_kd, _, ok_bkDepth F_f_kd CB_ CE_ mRq, ⟨a_f_kd, i_f_kd, k_f_kd⟩, b_f_kd⟩
  have BO : BkOps l.prog w K mg base ⟨LC, LC⟩ HC EC BK := {
    L := CB_
    N := CE_
    hc := FH
    pl := ⟨f_pl, _, ok_placed F_f_pl FH FL, ⟨a_f_pl, i_f_pl, k_f_pl⟩, b_f_pl⟩
    get := ⟨f_kg, _, ok_bkGet F_f_kg CB_ mRq, ⟨a_f_kg, i_f_kg, fi_kg⟩, b_f_kg⟩
    len := ⟨f_kn, _, ok_bkLen F_f_kn ZB CB_, a_f_kn, i_f_kn, b_f_kn⟩
    left := ⟨f_kl, _, ok_bkLeft F_f_kl CB_ mRq, ⟨a_f_kl, i_f_kl, k_f_kl⟩, b_f_kl⟩
    dep := mDp
    kind := ⟨f_kk, _, ok_bkKind F_f_kk CB_ CE_ mRq mDp, ⟨a_f_kk, i_f_kk, k_f_kk⟩, b_f_kk⟩
    gE := PySem.W.mg_of X G g_EC
    gB := PySem.W.mg_of X G g_BK
    mkE := ⟨f_ei, _, ok_enInit F_f_ei CE_, ⟨mk_EC, a_f_ei, i_f_ei, kc_EC⟩, b_f_ei⟩
    mkB := ⟨f_ki, _, ok_bkInit F_f_ki ZB CB_ q_f_lof, ⟨mk_BK, a_f_ki, i_f_ki, kc_BK⟩, b_f_ki⟩ }
  have QE : EnEqT l.prog w K mg base EC := ⟨f_eq, _, ok_enEq F_f_eq (PySem.W.mg_none_of X G z_isinstance) (PySem.W.mg_of X G g_EC) CE_ OE, ⟨a_f_eq, i_f_eq, ne_EC, ob_EC⟩, b_f_eq⟩
  have QB : BkEqT l.prog w K mg base EC BK := ⟨f_kq, _, ok_bkEq F_f_kq (PySem.W.mg_none_of X G z_isinstance) (PySem.W.mg_of X G g_BK) CB_ OB OE QE, ⟨a_f_kq, i_f_kq, ne_BK, ob_BK⟩, b_f_kq⟩
  have q_f_mf : Cal l.prog w K mg base CX0 "month_for" 4 ["house", "book", "at", "deed"] (spMonthFor K ⟨LC, LC⟩ HC EC BK) := ⟨f_mf, _, ok_monthFor F_f_mf BO, PySem.W.mg_of X G g_f_mf, k_f_mf, b_f_mf⟩
  have q_f_oa : Cal l.prog w K mg base CX0 "is_over_all" 4 ["book", "at", "amount"] (spOverAll EC BK) := ⟨f_oa, _, ok_overAll F_f_oa BO, PySem.W.mg_of X G g_f_oa, k_f_oa, b_f_oa⟩
  have q_f_tkn : Cal l.prog w K mg base CX0 "taken" 5 ["house", "book", "move"] (spTaken K ⟨LC, LC⟩ ⟨BC, TC, RC, SC, YC⟩ HC EC BK) := ⟨f_tkn, _, ok_taken F_f_tkn BO CLS MF q_f_mf q_f_oa, PySem.W.mg_of X G g_f_tkn, k_f_tkn, b_f_tkn⟩
  have q_f_rtd : Cal l.prog w K mg base CX0 "righted" 5 ["house", "book", "move"] (spRighted K ⟨LC, LC⟩ ⟨BC, TC, RC, SC, YC⟩ HC EC BK) := ⟨f_rtd, _, ok_righted F_f_rtd BO CLS MF q_f_mf, PySem.W.mg_of X G g_f_rtd, k_f_rtd, b_f_rtd⟩
  have q_f_mby : Cal l.prog w K mg base CX0 "made_by" 6 ["house", "book", "move"] (spMadeBy K ⟨LC, LC⟩ ⟨BC, TC, RC, SC, YC⟩ HC EC BK) := ⟨f_mby, _, ok_madeBy F_f_mby ZB BO CLS MF MK (PySem.W.mg_of X G g_BC) (PySem.W.mg_of X G g_TC) q_f_tkn q_f_rtd, PySem.W.mg_of X G g_f_mby, k_f_mby, b_f_mby⟩
  have q_f_after : Cal l.prog w K mg base CX0 "after" 7 ["house", "book", "move"] (spAfter K ⟨LC, LC⟩ ⟨BC, TC, RC, SC, YC⟩ HC EC BK) := ⟨f_after, _, ok_after F_f_after ZB BO CLS MK (PySem.W.mg_of X G g_SC) q_f_mby, PySem.W.mg_of X G g_f_after, k_f_after, b_f_after⟩
  have q_f_along : Cal l.prog w K mg base (L2.CX l.prog w) "books_along" 8 ["house", "history"] (spAlong K ⟨LC, LC⟩ ⟨BC, TC, RC, SC, YC⟩ HC EC BK CR) := ⟨f_along, _, ok_along F_f_along ZB BO HCLS RF q_f_after, PySem.W.mg_of X G g_f_along, k_f_along, b_f_along⟩
  have q_f_play : Cal l.prog w K mg base (L2.CX l.prog w) "play" 9 ["house", "history"] (spPlay K ⟨LC, LC⟩ ⟨BC, TC, RC, SC, YC⟩ HC EC BK CR) := ⟨f_play, _, ok_play F_f_play q_f_along, PySem.W.mg_of X G g_f_play, k_f_play, b_f_play⟩
  have ZV : BltV mg := ⟨PySem.W.mg_none_of X G z_len, PySem.W.mg_none_of X G z_range⟩
  have q_f_em : Cal l.prog w K mg base CX0 "_law_empty" 1 [] spEmpty := ⟨f_em, _, ok_empty F_f_em, PySem.W.mg_of X G g_f_em, k_f_em, b_f_em⟩
  have q_f_lf : Cal l.prog w K mg base CX0 "_law_lefts" 1 ["_law_book"] spLefts := ⟨f_lf, _, ok_lefts F_f_lf ZV, PySem.W.mg_of X G g_f_lf, k_f_lf, b_f_lf⟩
  have q_f_dp : Cal l.prog w K mg base CX0 "_law_depths" 1 ["_law_book"] spDepths := ⟨f_dp, _, ok_depths F_f_dp, PySem.W.mg_of X G g_f_dp, k_f_dp, b_f_dp⟩
  have q_f_lk : Cal l.prog w K mg base CX0 "_law_kind" 1 ["_law_book", "_law_depths_here", "_law_at"] spKindL := ⟨f_lk, _, ok_kindL F_f_lk, PySem.W.mg_of X G g_f_lk, k_f_lk, b_f_lk⟩
  have q_f_pc : Cal l.prog w K mg base CX0 "_law_place" 2 ["_law_house_here", "_law_kind_here", "_law_state", "_law_deed"] spPlace := ⟨f_pc, _, ok_place F_f_pc, PySem.W.mg_of X G g_f_pc, k_f_pc, b_f_pc⟩
  have q_f_lm : Cal l.prog w K mg base CX0 "_law_month" 3 ["_law_house_here", "_law_book", "_law_at", "_law_deed"] spMonthL := ⟨f_lm, _, ok_monthL F_f_lm q_f_lk q_f_dp q_f_pc, PySem.W.mg_of X G g_f_lm, k_f_lm, b_f_lm⟩
  have q_f_ltk : Cal l.prog w K mg base CX0 "_law_take" 4 ["_law_house_here", "_law_book", "_law_at", "_law_amount"] spTakeL := ⟨f_ltk, _, ok_takeL F_f_ltk ZV q_f_lf q_f_dp q_f_lm, PySem.W.mg_of X G g_f_ltk, k_f_ltk, b_f_ltk⟩
  have q_f_lrg : Cal l.prog w K mg base CX0 "_law_right" 4 ["_law_house_here", "_law_book", "_law_at", "_law_amount"] spRightL := ⟨f_lrg, _, ok_rightL F_f_lrg ZV q_f_lm, PySem.W.mg_of X G g_f_lrg, k_f_lrg, b_f_lrg⟩
  have q_f_do : Cal l.prog w K mg base CX0 "_law_do" 5 ["_law_house_here", "_law_book", "_law_move"] spDoL := ⟨f_do, _, ok_doL F_f_do q_f_ltk q_f_lrg, PySem.W.mg_of X G g_f_do, k_f_do, b_f_do⟩
  have q_f_mt : Cal l.prog w K mg base CX0 "_law_move_text" 1 ["_law_move"] spText := ⟨f_mt, _, ok_mvText F_f_mt (PySem.W.mg_none_of X G z_str), PySem.W.mg_of X G g_f_mt, k_f_mt, b_f_mt⟩
  have q_f_lt : Cal l.prog w K mg base CX0 "_law_text" 2 ["_law_moves"] spTexts := ⟨f_lt, _, ok_lawTexts F_f_lt q_f_mt, PySem.W.mg_of X G g_f_lt, k_f_lt, b_f_lt⟩
  have q_f_dm : Cal l.prog w K mg base CX0 "_law_drawn_move" 2 ["_law_box", "_law_book"] spMoveD := ⟨f_dm, _, ok_drawn F_f_dm ZV q_f_choose q_f_lf, PySem.W.mg_of X G g_f_dm, k_f_dm, b_f_dm⟩
  have q_f_hy : Cal l.prog w K mg base CX0 "_law_history" 6 ["_law_box", "_law_house_here", "_law_many"] spHist := ⟨f_hy, _, ok_history F_f_hy ZV q_f_em q_f_dm q_f_do, PySem.W.mg_of X G g_f_hy, k_f_hy, b_f_hy⟩
  have TZ : BltK28 mg := ⟨PySem.W.mg_none_of X G z_len, PySem.W.mg_none_of X G z_range, PySem.W.mg_none_of X G z_max, PySem.W.mg_none_of X G z_min, PySem.W.mg_none_of X G z_tuple, PySem.W.mg_none_of X G z_str⟩
  have ML2 : MkR l.prog w K mg base "Let" ["self", "kind", "state", "deed", "place"] LC 2 (spLInit ⟨LC, LC⟩) := ⟨PySem.W.mg_of X G g_LC, f_li, _, ok_lInit F_f_li FL q_f_ww, ⟨mk_LC, a_f_li, i_f_li, kc_LC⟩, b_f_li⟩
  have q_f_sh : Cal l.prog w K mg base CX0 "shared_rows" 4 ["p", "q"] (spShared K ⟨LC, LC⟩ HC) := ⟨f_sh, _, ok_shared F_f_sh RT FH ⟨f_pl, _, ok_placed F_f_pl FH FL, ⟨a_f_pl, i_f_pl, k_f_pl⟩, b_f_pl⟩ ML2, PySem.W.mg_of X G g_f_sh, k_f_sh, b_f_sh⟩
  have q_f_nm : Cal l.prog w K mg base CX0 "lets_no_more" 3 ["p", "q"] (spNoMore K ⟨LC, LC⟩ HC) := ⟨f_nm, _, ok_noMore F_f_nm (PySem.W.mg_none_of X G z_all) FL FH ⟨f_pl, _, ok_placed F_f_pl FH FL, ⟨a_f_pl, i_f_pl, k_f_pl⟩, b_f_pl⟩, PySem.W.mg_of X G g_f_nm, k_f_nm, b_f_nm⟩
  have AB : HsAB l.prog w K mg base ⟨LC, LC⟩ HC := ⟨⟨f_le, _, ok_hsLe F_f_le (PySem.W.mg_none_of X G z_isinstance) (PySem.W.mg_of X G g_HC) HI q_f_nm, ⟨a_f_le, i_f_le⟩, b_f_le⟩, ⟨f_ge, _, ok_hsGe F_f_ge (PySem.W.mg_none_of X G z_isinstance) (PySem.W.mg_of X G g_HC) HI q_f_nm, ⟨a_f_ge, i_f_ge⟩, b_f_ge⟩, ⟨f_an, _, ok_hsAnd F_f_an (PySem.W.mg_none_of X G z_isinstance) FH HI MH q_f_sh, ⟨sf_HC, a_f_an, i_f_an⟩, b_f_an⟩, nf_same⟩
  have qK_f_isr : Cal l.prog w K mg base CX0 "is_rows" 1 ["value"] (spIsRowsK K ⟨LC, LC⟩) := ⟨f_isr, _, ok_isRowsK F_f_isr TK LI (PySem.W.mg_of X G g_LC), PySem.W.mg_of X G g_f_isr, k_f_isr, b_f_isr⟩
  have HKm : MkHK l.prog w K mg base ⟨LC, LC⟩ HC := ⟨PySem.W.mg_of X G g_HC, f_hi, _, ok_hsInitK F_f_hi TK XT FH q_f_num qK_f_isr, ⟨mk_HC, a_f_hi, i_f_hi, kc_HC⟩, b_f_hi⟩
  exact ok_law F_f_law TZ QB OB FH AB HKm SK RD YR q_f_seed q_f_choose q_f_one q_f_rows q_f_ho q_f_ht q_f_hy q_f_lt q_f_play
theorem walk {l : PySem.W.OpenLaw} {q : Program} {loose : List Str} {XP : (Str → Option Value) → Heap → Prop} {YP : World → Heap → Prop} {d : DefRec} {K : Params → PySem.W.Frag} (hn : l.most = some 63) (hdf : d.params.defaults = [])
    (hY : ∀ (w : World) (h : Heap), YP w h → (K w.params).In h)
    (F : ∀ (w : World) (mg : Str → Option Value) (fa : Addr) (h : Heap), (K w.params).In h → h.Ns mainGlobals mg → mg d.name = some (.ref fa) →
      ∃ fd : FuncData, (∀ (s : Shared) (u : Value), BindsTo s fd ⟨[u], []⟩ [("_law_script", u)]) ∧ ∀ base : Heap, (K w.params).In base → base.Ns mainGlobals mg → FnOk l.prog w (K w.params) mg base CX0 10 fa fd ["_law_script"] (spLaw (K w.params))) :
    PySem.W.WalkO q loose XP YP l.row.toRowW d [] (fun f vs => PySem.call f vs) :=
  L2.walk_of (n := 63) (k := 10) (x := "_law_script") (CX := fun _ => CX0) (sp := fun w => spLaw (K w.params)) hn (by decide) hdf ⟨rfl, by decide, by decide⟩ hY F (fun _ _ a ns hl _ hS => ⟨a, ns, rfl, hS, hl, fun _ => rfl⟩) fun _ _ _ _ _ z => z
end V3

set_option Elab.async false
set_option linter.all false
set_option maxRecDepth 100000
set_option maxHeartbeats 0
/-! the head; its trees get no twins: the names stand already -/
def PySem.W.Fast.tw11458398374949793088 : Nat := 0
def PySem.W.Fast.tw3434173348466665761 : Nat := 0
def PySem.W.Fast.tw18044706690407779588 : Nat := 0
def PySem.W.Fast.tw17107784365919421380 : Nat := 0
def PySem.W.Fast.tw17110768056350888325 : Nat := 0
def PySem.W.Fast.tw10467657307841093127 : Nat := 0
def PySem.W.Fast.tw14539423740417567495 : Nat := 0
def PySem.W.Fast.tw18008057373751978919 : Nat := 0
def PySem.W.Fast.tw4076605297041232073 : Nat := 0
def PySem.W.Fast.tw17312372118986748393 : Nat := 0
def PySem.W.Fast.tw6554210930403057037 : Nat := 0
def PySem.W.Fast.tw2563096554412559184 : Nat := 0
def PySem.W.Fast.tw15878531755106217968 : Nat := 0
def PySem.W.Fast.tw2677111802620847409 : Nat := 0
def PySem.W.Fast.tw9159908151018230388 : Nat := 0
def PySem.W.Fast.tw2833293250332169940 : Nat := 0
def PySem.W.Fast.tw562065998506127893 : Nat := 0
def PySem.W.Fast.tw15009715566412695253 : Nat := 0
def PySem.W.Fast.tw17204016131816267415 : Nat := 0
def PySem.W.Fast.tw647196606987428824 : Nat := 0
def PySem.W.Fast.tw10885573922451818937 : Nat := 0
def PySem.W.Fast.tw1672307365302337211 : Nat := 0
def PySem.W.Fast.tw7460121704856632476 : Nat := 0
def PySem.W.Fast.tw5972935523495637500 : Nat := 0
def PySem.W.Fast.tw13408324831103200926 : Nat := 0
def PySem.W.Fast.tw6438407275280393950 : Nat := 0
def PySem.W.Fast.tw12771589878784054751 : Nat := 0
open PySem PySem.W PyProof.Rows in
open_top V3.hd for PySem.Challenge.rw_contrabooks_k28_whole_houses_that_let_mo

open PySem PySem.W PyProof.Rows in
set_option maxRecDepth 100000 in
set_option maxHeartbeats 0 in
theorem PySem.Challenge.cw_contrabooks_k28_whole_houses_that_let_mo_holds : PySem.Challenge.rw_contrabooks_k28_whole_houses_that_let_mo.Holds := by
  refine V3.hd ?_
  k_fill
  refine V3.walk (l := PySem.Challenge.rw_contrabooks_k28_whole_houses_that_let_mo) rfl rfl (fun w h Y => PySem.W.kIn_of Y) ?F
  case F =>
    intro w mg fa h KX G hmg
    refine' V3.all_mk KX G hmg ?g_f_int ?l_f_int ?c_f_int ?k_f_int ?g_f_num ?l_f_num ?c_f_num ?k_f_num ?g_f_ww ?l_f_ww ?c_f_ww ?k_f_ww ?g_f_isr ?l_f_isr ?c_f_isr ?k_f_isr ?g_f_seed ?l_f_seed ?c_f_seed ?k_f_seed ?g_f_choose ?l_f_choose ?c_f_choose ?k_f_choose ?g_f_one ?l_f_one ?c_f_one ?k_f_one ?g_f_rows ?l_f_rows ?c_f_rows ?k_f_rows ?g_f_ho ?l_f_ho ?c_f_ho ?k_f_ho ?g_f_ht ?l_f_ht ?c_f_ht ?k_f_ht ?g_f_rr ?l_f_rr ?c_f_rr ?k_f_rr ?g_f_cs ?l_f_cs ?c_f_cs ?k_f_cs ?g_f_sh ?l_f_sh ?c_f_sh ?k_f_sh ?g_f_nm ?l_f_nm ?c_f_nm ?k_f_nm ?g_f_law ?l_f_law ?c_f_law ?k_f_law ?g_f_em ?l_f_em ?c_f_em ?k_f_em ?g_f_lf ?l_f_lf ?c_f_lf ?k_f_lf ?g_f_dp ?l_f_dp ?c_f_dp ?k_f_dp ?g_f_lk ?l_f_lk ?c_f_lk ?k_f_lk ?g_f_pc ?l_f_pc ?c_f_pc ?k_f_pc ?g_f_lm ?l_f_lm ?c_f_lm ?k_f_lm ?g_f_ltk ?l_f_ltk ?c_f_ltk ?k_f_ltk ?g_f_lrg ?l_f_lrg ?c_f_lrg ?k_f_lrg ?g_f_do ?l_f_do ?c_f_do ?k_f_do ?g_f_mt ?l_f_mt ?c_f_mt ?k_f_mt ?g_f_lt ?l_f_lt ?c_f_lt ?k_f_lt ?g_f_dm ?l_f_dm ?c_f_dm ?k_f_dm ?g_f_hy ?l_f_hy ?c_f_hy ?k_f_hy ?g_LC ?g_HC ?gn ?tk ?pg_LC ?hd_LC ?po_LC ?sa_LC ?mk_LC ?kc_LC ?ca_LC ?mo_LC ?ss_LC ?ic_LC ?tc_LC ?pg_HC ?hd_HC ?po_HC ?sa_HC ?mk_HC ?kc_HC ?ca_HC ?mo_HC ?ss_HC ?ic_HC ?tc_HC ?ne_HC ?ob_HC ?no_LC_kind ?no_LC_state ?no_LC_deed ?no_LC_place ?no_HC_depth ?no_HC_check ?no_HC_rows ?a_f_li ?i_f_li ?l_f_li ?c_f_li ?k_f_li ?a_f_ls ?i_f_ls ?l_f_ls ?c_f_ls ?k_f_ls ?a_f_hi ?i_f_hi ?l_f_hi ?c_f_hi ?k_f_hi ?t_f_hi ?q_e ?a_f_hs ?i_f_hs ?l_f_hs ?c_f_hs ?k_f_hs ?a_f_pl ?i_f_pl ?l_f_pl ?c_f_pl ?k_f_pl ?a_f_an ?i_f_an ?l_f_an ?c_f_an ?k_f_an ?a_f_le ?i_f_le ?l_f_le ?c_f_le ?k_f_le ?a_f_ge ?i_f_ge ?l_f_ge ?c_f_ge ?k_f_ge ?g_KA ?q_KA ?g_SA ?q_SA ?g_DA ?q_DA ?g_PA ?q_PA ?g_KK ?q_KK ?g_DL ?q_DL ?sf_HC ?g_LA ?q_LA ?g_CT ?x_CT ?xb_CT ?xsa_CT ?xga_CT ?xgg_CT ?xex_CT ?xty_CT ?xkc_CT ?xhd_CT ?xis_CT ?xca_CT ?xgn_CT ?xtk_CT ?xmo_CT ?xss_CT ?no_CT_at ?a_f_it ?tf_it ?l_f_it ?c_f_it ?k_f_it ?te_CT ?rd_HC ?rg_HC ?at_rd ?rc_rd ?fi_rd ?l_f_rd ?c_f_rd ?k_f_rd ?dn_LA ?dn_DL ?g_f_amt ?l_f_amt ?c_f_amt ?k_f_amt ?g_f_rn ?l_f_rn ?c_f_rn ?k_f_rn ?g_f_ism ?l_f_ism ?c_f_ism ?k_f_ism ?g_f_rms ?l_f_rms ?c_f_rms ?k_f_rms ?g_f_rm ?l_f_rm ?c_f_rm ?k_f_rm ?g_f_mo ?l_f_mo ?c_f_mo ?k_f_mo ?g_CM ?g_MV ?g_BC ?g_TC ?g_RC ?g_SC ?g_YC ?x_CM ?xb_CM ?xsa_CM ?xga_CM ?xgg_CM ?xex_CM ?xty_CM ?xkc_CM ?xhd_CM ?xis_CM ?xca_CM ?xgn_CM ?xtk_CM ?xmo_CM ?xss_CM ?no_CM_word ?a_f_im ?tf_im ?l_f_im ?c_f_im ?k_f_im ?is_MV ?ty_MV ?pg_BC ?hd_BC ?po_BC ?sa_BC ?mk_BC ?kc_BC ?ca_BC ?mo_BC ?ss_BC ?ic_BC ?tc_BC ?pg_TC ?hd_TC ?po_TC ?sa_TC ?mk_TC ?kc_TC ?ca_TC ?mo_TC ?ss_TC ?ic_TC ?tc_TC ?pg_RC ?hd_RC ?po_RC ?sa_RC ?mk_RC ?kc_RC ?ca_RC ?mo_RC ?ss_RC ?ic_RC ?tc_RC ?pg_SC ?hd_SC ?po_SC ?sa_SC ?mk_SC ?kc_SC ?ca_SC ?mo_SC ?ss_SC ?ic_SC ?tc_SC ?pg_YC ?hd_YC ?po_YC ?sa_YC ?mk_YC ?kc_YC ?ca_YC ?mo_YC ?ss_YC ?ic_YC ?tc_YC ?sm_BC ?su_TC_BC ?su_RC_BC ?su_SC_BC ?sm_TC ?su_BC_TC ?su_RC_TC ?su_SC_TC ?sm_RC ?su_BC_RC ?su_TC_RC ?su_SC_RC ?sm_SC ?su_BC_SC ?su_TC_SC ?su_RC_SC ?no_BC_amount ?no_TC_at ?no_TC_amount ?no_RC_at ?no_RC_amount ?no_YC_moves ?a_f_bi ?i_f_bi ?l_f_bi ?c_f_bi ?k_f_bi ?a_f_ti ?i_f_ti ?l_f_ti ?c_f_ti ?k_f_ti ?t_f_ti ?a_f_ri ?i_f_ri ?l_f_ri ?c_f_ri ?k_f_ri ?oi_SC ?a_f_yi ?i_f_yi ?l_f_yi ?c_f_yi ?k_f_yi ?t_f_yi ?rd_YC ?rg_YC ?at_yr ?rc_yr ?fi_yr ?l_f_yr ?c_f_yr ?k_f_yr ?g_f_play ?l_f_play ?c_f_play ?k_f_play ?g_f_along ?l_f_along ?c_f_along ?k_f_along ?g_f_after ?l_f_after ?c_f_after ?k_f_after ?g_f_mby ?l_f_mby ?c_f_mby ?k_f_mby ?g_f_tkn ?l_f_tkn ?c_f_tkn ?k_f_tkn ?g_f_rtd ?l_f_rtd ?c_f_rtd ?k_f_rtd ?g_f_mf ?l_f_mf ?c_f_mf ?k_f_mf ?g_f_oa ?l_f_oa ?c_f_oa ?k_f_oa ?g_f_lof ?l_f_lof ?c_f_lof ?k_f_lof ?g_EC ?g_BK ?pg_EC ?hd_EC ?po_EC ?sa_EC ?mk_EC ?kc_EC ?ca_EC ?mo_EC ?ss_EC ?ic_EC ?tc_EC ?ne_EC ?ob_EC ?pg_BK ?hd_BK ?po_BK ?sa_BK ?mk_BK ?kc_BK ?ca_BK ?mo_BK ?ss_BK ?ic_BK ?tc_BK ?ne_BK ?ob_BK ?no_EC_month ?no_EC_amount ?no_EC_target ?no_EC_old ?no_BK_entries ?no_BK_month ?no_BK_lefts ?a_f_ei ?i_f_ei ?l_f_ei ?c_f_ei ?k_f_ei ?a_f_eq ?i_f_eq ?l_f_eq ?c_f_eq ?k_f_eq ?a_f_kl ?i_f_kl ?l_f_kl ?c_f_kl ?k_f_kl ?a_f_kd ?i_f_kd ?l_f_kd ?c_f_kd ?k_f_kd ?a_f_kk ?i_f_kk ?l_f_kk ?c_f_kk ?k_f_kk ?a_f_kr ?i_f_kr ?l_f_kr ?c_f_kr ?k_f_kr ?a_f_kn ?i_f_kn ?l_f_kn ?c_f_kn ?k_f_kn ?a_f_kg ?i_f_kg ?l_f_kg ?c_f_kg ?k_f_kg ?a_f_kq ?i_f_kq ?l_f_kq ?c_f_kq ?k_f_kq ?a_f_ki ?i_f_ki ?l_f_ki ?c_f_ki ?k_f_ki ?fi_kg ?g_CR ?x_CR ?xb_CR ?xsa_CR ?xga_CR ?xgg_CR ?xex_CR ?xty_CR ?xkc_CR ?xhd_CR ?xis_CR ?xca_CR ?xgn_CR ?xtk_CR ?xmo_CR ?xss_CR ?no_CR_at ?a_f_rf ?tf_rf ?l_f_rf ?c_f_rf ?k_f_rf ?z_len ?z_abs ?z_int ?z_isinstance ?z_bool ?z_range ?z_max ?z_min ?z_str ?z_list ?z_tuple ?z_all ?z_enumerate
    (case g_f_int => k_is)
    (case l_f_int => k_is)
    (case c_f_int => k_is)
    (case k_f_int => k_is)
    (case g_f_num => k_is)
    (case l_f_num => k_is)
    (case c_f_num => k_is)
    (case k_f_num => k_is)
    (case g_f_ww => k_is)
    (case l_f_ww => k_is)
    (case c_f_ww => k_is)
    (case k_f_ww => k_is)
    (case g_f_isr => k_is)
    (case l_f_isr => k_is)
    (case c_f_isr => k_is)
    (case k_f_isr => k_is)
    (case g_f_seed => k_is)
    (case l_f_seed => k_is)
    (case c_f_seed => k_is)
    (case k_f_seed => k_is)
    (case g_f_choose => k_is)
    (case l_f_choose => k_is)
    (case c_f_choose => k_is)
    (case k_f_choose => k_is)
    (case g_f_one => k_is)
    (case l_f_one => k_is)
    (case c_f_one => k_is)
    (case k_f_one => k_is)
    (case g_f_rows => k_is)
    (case l_f_rows => k_is)
    (case c_f_rows => k_is)
    (case k_f_rows => k_is)
    (case g_f_ho => k_is)
    (case l_f_ho => k_is)
    (case c_f_ho => k_is)
    (case k_f_ho => k_is)
    (case g_f_ht => k_is)
    (case l_f_ht => k_is)
    (case c_f_ht => k_is)
    (case k_f_ht => k_is)
    (case g_f_rr => k_is)
    (case l_f_rr => k_is)
    (case c_f_rr => k_is)
    (case k_f_rr => k_is)
    (case g_f_cs => k_is)
    (case l_f_cs => k_is)
    (case c_f_cs => k_is)
    (case k_f_cs => k_is)
    (case g_f_sh => k_is)
    (case l_f_sh => k_is)
    (case c_f_sh => k_is)
    (case k_f_sh => k_is)
    (case g_f_nm => k_is)
    (case l_f_nm => k_is)
    (case c_f_nm => k_is)
    (case k_f_nm => k_is)
    (case g_f_law => k_is)
    (case l_f_law => k_is)
    (case c_f_law => k_is)
    (case k_f_law => k_is)
    (case g_f_em => k_is)
    (case l_f_em => k_is)
    (case c_f_em => k_is)
    (case k_f_em => k_is)
    (case g_f_lf => k_is)
    (case l_f_lf => k_is)
    (case c_f_lf => k_is)
    (case k_f_lf => k_is)
    (case g_f_dp => k_is)
    (case l_f_dp => k_is)
    (case c_f_dp => k_is)
    (case k_f_dp => k_is)
    (case g_f_lk => k_is)
    (case l_f_lk => k_is)
    (case c_f_lk => k_is)
    (case k_f_lk => k_is)
    (case g_f_pc => k_is)
    (case l_f_pc => k_is)
    (case c_f_pc => k_is)
    (case k_f_pc => k_is)
    (case g_f_lm => k_is)
    (case l_f_lm => k_is)
    (case c_f_lm => k_is)
    (case k_f_lm => k_is)
    (case g_f_ltk => k_is)
    (case l_f_ltk => k_is)
    (case c_f_ltk => k_is)
    (case k_f_ltk => k_is)
    (case g_f_lrg => k_is)
    (case l_f_lrg => k_is)
    (case c_f_lrg => k_is)
    (case k_f_lrg => k_is)
    (case g_f_do => k_is)
    (case l_f_do => k_is)
    (case c_f_do => k_is)
    (case k_f_do => k_is)
    (case g_f_mt => k_is)
    (case l_f_mt => k_is)
    (case c_f_mt => k_is)
    (case k_f_mt => k_is)
    (case g_f_lt => k_is)
    (case l_f_lt => k_is)
    (case c_f_lt => k_is)
    (case k_f_lt => k_is)
    (case g_f_dm => k_is)
    (case l_f_dm => k_is)
    (case c_f_dm => k_is)
    (case k_f_dm => k_is)
    (case g_f_hy => k_is)
    (case l_f_hy => k_is)
    (case c_f_hy => k_is)
    (case k_f_hy => k_is)
    (case g_LC => k_is)
    (case g_HC => k_is)
    (case gn => k_is)
    (case tk => k_is)
    (case pg_LC => k_is)
    (case hd_LC => k_is)
    (case po_LC => k_is)
    (case sa_LC => k_is)
    (case mk_LC => k_is)
    (case kc_LC => k_is)
    (case ca_LC => k_is)
    (case mo_LC => k_is)
    (case ss_LC => first | rfl | k_is)
    (case ic_LC => k_is)
    (case tc_LC => k_is)
    (case pg_HC => k_is)
    (case hd_HC => k_is)
    (case po_HC => k_is)
    (case sa_HC => k_is)
    (case mk_HC => k_is)
    (case kc_HC => k_is)
    (case ca_HC => k_is)
    (case mo_HC => k_is)
    (case ss_HC => first | rfl | k_is)
    (case ic_HC => k_is)
    (case tc_HC => k_is)
    (case ne_HC => k_is)
    (case ob_HC => k_is)
    (case no_LC_kind => k_is)
    (case no_LC_state => k_is)
    (case no_LC_deed => k_is)
    (case no_LC_place => k_is)
    (case no_HC_depth => k_is)
    (case no_HC_check => k_is)
    (case no_HC_rows => k_is)
    (case a_f_li => k_is)
    (case i_f_li => k_is)
    (case l_f_li => k_is)
    (case c_f_li => k_is)
    (case k_f_li => k_is)
    (case a_f_ls => k_is)
    (case i_f_ls => k_is)
    (case l_f_ls => k_is)
    (case c_f_ls => k_is)
    (case k_f_ls => k_is)
    (case a_f_hi => k_is)
    (case i_f_hi => k_is)
    (case l_f_hi => k_is)
    (case c_f_hi => k_is)
    (case k_f_hi => k_is)
    (case t_f_hi => k_is)
    (case q_e => k_is)
    (case a_f_hs => k_is)
    (case i_f_hs => k_is)
    (case l_f_hs => k_is)
    (case c_f_hs => k_is)
    (case k_f_hs => k_is)
    (case a_f_pl => k_is)
    (case i_f_pl => k_is)
    (case l_f_pl => k_is)
    (case c_f_pl => k_is)
    (case k_f_pl => k_is)
    (case a_f_an => k_is)
    (case i_f_an => k_is)
    (case l_f_an => k_is)
    (case c_f_an => k_is)
    (case k_f_an => k_is)
    (case a_f_le => k_is)
    (case i_f_le => k_is)
    (case l_f_le => k_is)
    (case c_f_le => k_is)
    (case k_f_le => k_is)
    (case a_f_ge => k_is)
    (case i_f_ge => k_is)
    (case l_f_ge => k_is)
    (case c_f_ge => k_is)
    (case k_f_ge => k_is)
    (case g_KA => k_is)
    (case q_KA => k_is)
    (case g_SA => k_is)
    (case q_SA => k_is)
    (case g_DA => k_is)
    (case q_DA => k_is)
    (case g_PA => k_is)
    (case q_PA => k_is)
    (case g_KK => k_is)
    (case q_KK => k_is)
    (case g_DL => k_is)
    (case q_DL => k_is)
    (case sf_HC => k_is)
    (case g_LA => k_is)
    (case q_LA => k_is)
    (case g_CT => k_is)
    (case x_CT => k_is)
    (case xb_CT => decide +kernel)
    (case xsa_CT => k_is)
    (case xga_CT => k_is)
    (case xgg_CT => k_is)
    (case xex_CT => k_is)
    (case xty_CT => k_is)
    (case xkc_CT => k_is)
    (case xhd_CT => k_is)
    (case xis_CT => k_is)
    (case xca_CT => k_is)
    (case xgn_CT => k_is)
    (case xtk_CT => k_is)
    (case xmo_CT => k_is)
    (case xss_CT => first | rfl | k_is)
    (case no_CT_at => k_is)
    (case a_f_it => k_is)
    (case tf_it => k_is)
    (case l_f_it => k_is)
    (case c_f_it => k_is)
    (case k_f_it => k_is)
    (case te_CT => first | k_is | rfl)
    (case rd_HC => k_is)
    (case rg_HC => k_is)
    (case at_rd => first | k_is | rfl)
    (case rc_rd => first | k_is | rfl)
    (case fi_rd => first | k_is | rfl)
    (case l_f_rd => k_is)
    (case c_f_rd => k_is)
    (case k_f_rd => k_is)
    (case dn_LA => rfl)
    (case dn_DL => rfl)
    (case g_f_amt => k_is)
    (case l_f_amt => k_is)
    (case c_f_amt => k_is)
    (case k_f_amt => k_is)
    (case g_f_rn => k_is)
    (case l_f_rn => k_is)
    (case c_f_rn => k_is)
    (case k_f_rn => k_is)
    (case g_f_ism => k_is)
    (case l_f_ism => k_is)
    (case c_f_ism => k_is)
    (case k_f_ism => k_is)
    (case g_f_rms => k_is)
    (case l_f_rms => k_is)
    (case c_f_rms => k_is)
    (case k_f_rms => k_is)
    (case g_f_rm => k_is)
    (case l_f_rm => k_is)
    (case c_f_rm => k_is)
    (case k_f_rm => k_is)
    (case g_f_mo => k_is)
    (case l_f_mo => k_is)
    (case c_f_mo => k_is)
    (case k_f_mo => k_is)
    (case g_CM => k_is)
    (case g_MV => k_is)
    (case g_BC => k_is)
    (case g_TC => k_is)
    (case g_RC => k_is)
    (case g_SC => k_is)
    (case g_YC => k_is)
    (case x_CM => k_is)
    (case xb_CM => decide +kernel)
    (case xsa_CM => k_is)
    (case xga_CM => k_is)
    (case xgg_CM => k_is)
    (case xex_CM => k_is)
    (case xty_CM => k_is)
    (case xkc_CM => k_is)
    (case xhd_CM => k_is)
    (case xis_CM => k_is)
    (case xca_CM => k_is)
    (case xgn_CM => k_is)
    (case xtk_CM => k_is)
    (case xmo_CM => k_is)
    (case xss_CM => first | rfl | k_is)
    (case no_CM_word => k_is)
    (case a_f_im => k_is)
    (case tf_im => k_is)
    (case l_f_im => k_is)
    (case c_f_im => k_is)
    (case k_f_im => k_is)
    (case is_MV => k_is)
    (case ty_MV => k_is)
    (case pg_BC => k_is)
    (case hd_BC => k_is)
    (case po_BC => k_is)
    (case sa_BC => k_is)
    (case mk_BC => k_is)
    (case kc_BC => k_is)
    (case ca_BC => k_is)
    (case mo_BC => k_is)
    (case ss_BC => first | rfl | k_is)
    (case ic_BC => k_is)
    (case tc_BC => k_is)
    (case pg_TC => k_is)
    (case hd_TC => k_is)
    (case po_TC => k_is)
    (case sa_TC => k_is)
    (case mk_TC => k_is)
    (case kc_TC => k_is)
    (case ca_TC => k_is)
    (case mo_TC => k_is)
    (case ss_TC => first | rfl | k_is)
    (case ic_TC => k_is)
    (case tc_TC => k_is)
    (case pg_RC => k_is)
    (case hd_RC => k_is)
    (case po_RC => k_is)
    (case sa_RC => k_is)
    (case mk_RC => k_is)
    (case kc_RC => k_is)
    (case ca_RC => k_is)
    (case mo_RC => k_is)
    (case ss_RC => first | rfl | k_is)
    (case ic_RC => k_is)
    (case tc_RC => k_is)
    (case pg_SC => k_is)
    (case hd_SC => k_is)
    (case po_SC => k_is)
    (case sa_SC => k_is)
    (case mk_SC => k_is)
    (case kc_SC => k_is)
    (case ca_SC => k_is)
    (case mo_SC => k_is)
    (case ss_SC => first | rfl | k_is)
    (case ic_SC => k_is)
    (case tc_SC => k_is)
    (case pg_YC => k_is)
    (case hd_YC => k_is)
    (case po_YC => k_is)
    (case sa_YC => k_is)
    (case mk_YC => k_is)
    (case kc_YC => k_is)
    (case ca_YC => k_is)
    (case mo_YC => k_is)
    (case ss_YC => first | rfl | k_is)
    (case ic_YC => k_is)
    (case tc_YC => k_is)
    (case sm_BC => k_is)
    (case su_TC_BC => k_is)
    (case su_RC_BC => k_is)
    (case su_SC_BC => k_is)
    (case sm_TC => k_is)
    (case su_BC_TC => k_is)
    (case su_RC_TC => k_is)
    (case su_SC_TC => k_is)
    (case sm_RC => k_is)
    (case su_BC_RC => k_is)
    (case su_TC_RC => k_is)
    (case su_SC_RC => k_is)
    (case sm_SC => k_is)
    (case su_BC_SC => k_is)
    (case su_TC_SC => k_is)
    (case su_RC_SC => k_is)
    (case no_BC_amount => k_is)
    (case no_TC_at => k_is)
    (case no_TC_amount => k_is)
    (case no_RC_at => k_is)
    (case no_RC_amount => k_is)
    (case no_YC_moves => k_is)
    (case a_f_bi => k_is)
    (case i_f_bi => k_is)
    (case l_f_bi => k_is)
    (case c_f_bi => k_is)
    (case k_f_bi => k_is)
    (case a_f_ti => k_is)
    (case i_f_ti => k_is)
    (case l_f_ti => k_is)
    (case c_f_ti => k_is)
    (case k_f_ti => k_is)
    (case t_f_ti => k_is)
    (case a_f_ri => k_is)
    (case i_f_ri => k_is)
    (case l_f_ri => k_is)
    (case c_f_ri => k_is)
    (case k_f_ri => k_is)
    (case oi_SC => k_is)
    (case a_f_yi => k_is)
    (case i_f_yi => k_is)
    (case l_f_yi => k_is)
    (case c_f_yi => k_is)
    (case k_f_yi => k_is)
    (case t_f_yi => k_is)
    (case rd_YC => k_is)
    (case rg_YC => k_is)
    (case at_yr => first | k_is | rfl)
    (case rc_yr => first | k_is | rfl)
    (case fi_yr => first | k_is | rfl)
    (case l_f_yr => k_is)
    (case c_f_yr => k_is)
    (case k_f_yr => k_is)
    (case g_f_play => k_is)
    (case l_f_play => k_is)
    (case c_f_play => k_is)
    (case k_f_play => k_is)
    (case g_f_along => k_is)
    (case l_f_along => k_is)
    (case c_f_along => k_is)
    (case k_f_along => k_is)
    (case g_f_after => k_is)
    (case l_f_after => k_is)
    (case c_f_after => k_is)
    (case k_f_after => k_is)
    (case g_f_mby => k_is)
    (case l_f_mby => k_is)
    (case c_f_mby => k_is)
    (case k_f_mby => k_is)
    (case g_f_tkn => k_is)
    (case l_f_tkn => k_is)
    (case c_f_tkn => k_is)
    (case k_f_tkn => k_is)
    (case g_f_rtd => k_is)
    (case l_f_rtd => k_is)
    (case c_f_rtd => k_is)
    (case k_f_rtd => k_is)
    (case g_f_mf => k_is)
    (case l_f_mf => k_is)
    (case c_f_mf => k_is)
    (case k_f_mf => k_is)
    (case g_f_oa => k_is)
    (case l_f_oa => k_is)
    (case c_f_oa => k_is)
    (case k_f_oa => k_is)
    (case g_f_lof => k_is)
    (case l_f_lof => k_is)
    (case c_f_lof => k_is)
    (case k_f_lof => k_is)
    (case g_EC => k_is)
    (case g_BK => k_is)
    (case pg_EC => k_is)
    (case hd_EC => k_is)
    (case po_EC => k_is)
    (case sa_EC => k_is)
    (case mk_EC => k_is)
    (case kc_EC => k_is)
    (case ca_EC => k_is)
    (case mo_EC => k_is)
    (case ss_EC => first | rfl | k_is)
    (case ic_EC => k_is)
    (case tc_EC => k_is)
    (case ne_EC => k_is)
    (case ob_EC => k_is)
    (case pg_BK => k_is)
    (case hd_BK => k_is)
    (case po_BK => k_is)
    (case sa_BK => k_is)
    (case mk_BK => k_is)
    (case kc_BK => k_is)
    (case ca_BK => k_is)
    (case mo_BK => k_is)
    (case ss_BK => first | rfl | k_is)
    (case ic_BK => k_is)
    (case tc_BK => k_is)
    (case ne_BK => k_is)
    (case ob_BK => k_is)
    (case no_EC_month => k_is)
    (case no_EC_amount => k_is)
    (case no_EC_target => k_is)
    (case no_EC_old => k_is)
    (case no_BK_entries => k_is)
    (case no_BK_month => k_is)
    (case no_BK_lefts => k_is)
    (case a_f_ei => k_is)
    (case i_f_ei => k_is)
    (case l_f_ei => k_is)
    (case c_f_ei => k_is)
    (case k_f_ei => k_is)
    (case a_f_eq => k_is)
    (case i_f_eq => k_is)
    (case l_f_eq => k_is)
    (case c_f_eq => k_is)
    (case k_f_eq => k_is)
    (case a_f_kl => k_is)
    (case i_f_kl => k_is)
    (case l_f_kl => k_is)
    (case c_f_kl => k_is)
    (case k_f_kl => k_is)
    (case a_f_kd => k_is)
    (case i_f_kd => k_is)
    (case l_f_kd => k_is)
    (case c_f_kd => k_is)
    (case k_f_kd => k_is)
    (case a_f_kk => k_is)
    (case i_f_kk => k_is)
    (case l_f_kk => k_is)
    (case c_f_kk => k_is)
    (case k_f_kk => k_is)
    (case a_f_kr => k_is)
    (case i_f_kr => k_is)
    (case l_f_kr => k_is)
    (case c_f_kr => k_is)
    (case k_f_kr => k_is)
    (case a_f_kn => k_is)
    (case i_f_kn => k_is)
    (case l_f_kn => k_is)
    (case c_f_kn => k_is)
    (case k_f_kn => k_is)
    (case a_f_kg => k_is)
    (case i_f_kg => k_is)
    (case l_f_kg => k_is)
    (case c_f_kg => k_is)
    (case k_f_kg => k_is)
    (case a_f_kq => k_is)
    (case i_f_kq => k_is)
    (case l_f_kq => k_is)
    (case c_f_kq => k_is)
    (case k_f_kq => k_is)
    (case a_f_ki => k_is)
    (case i_f_ki => k_is)
    (case l_f_ki => k_is)
    (case c_f_ki => k_is)
    (case k_f_ki => k_is)
    (case fi_kg => first | k_is | rfl)
    (case g_CR => k_is)
    (case x_CR => k_is)
    (case xb_CR => decide +kernel)
    (case xsa_CR => k_is)
    (case xga_CR => k_is)
    (case xgg_CR => k_is)
    (case xex_CR => k_is)
    (case xty_CR => k_is)
    (case xkc_CR => k_is)
    (case xhd_CR => k_is)
    (case xis_CR => k_is)
    (case xca_CR => k_is)
    (case xgn_CR => k_is)
    (case xtk_CR => k_is)
    (case xmo_CR => k_is)
    (case xss_CR => first | rfl | k_is)
    (case no_CR_at => k_is)
    (case a_f_rf => k_is)
    (case tf_rf => k_is)
    (case l_f_rf => k_is)
    (case c_f_rf => k_is)
    (case k_f_rf => k_is)
    (case z_len => k_is)
    (case z_abs => k_is)
    (case z_int => k_is)
    (case z_isinstance => k_is)
    (case z_bool => k_is)
    (case z_range => k_is)
    (case z_max => k_is)
    (case z_min => k_is)
    (case z_str => k_is)
    (case z_list => k_is)
    (case z_tuple => k_is)
    (case z_all => k_is)
    (case z_enumerate => k_is)
#print axioms PySem.Challenge.cw_contrabooks_k28_whole_houses_that_let_mo_holds
