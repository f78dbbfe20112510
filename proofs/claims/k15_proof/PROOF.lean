import PyProof.Rows.All
import Wide.All
import OpenK.AllK
import Wide.FinOn
import HandS.Comp
import HandS.DeepEq
import HandS.ForExc
import HandS.Dict
import HandS.Iter
import HandS.Text
import HandS.Wide
import HandS.FStr
import HandS.IsInst
import HandS.ExcInit
import HandS.ExcField
import HandS.ExcIs
import HandS.OwnEq
import KE.KCallOwn
import KE.KExcIs
import PyProof.NeKinds
import HandS.RaiseMore
import HandS.Star
import HandS.ClsMeth
import HandS.StrMore
import PyProof.InstEq
import HandS.TupAny
import OpenK.KMeth
import HandS.Base
import HandS.Call
import HandS.List
import PyProof.Rows.NestShow
import HandS.Ends
import HandS.Zip
import HandS.Walk
import HandS.Defaults
import KE.GoesEnum
import HandS.Style
import HandS.Conv
import KE.KOpsOwn
import HandS.Deep
import PySem.Challenge.RW_contrabooks_k15_houses_put_together
set_option Elab.async false
set_option linter.all false
set_option maxRecDepth 100000
/-! a list comprehension of three clauses: each clause a loop of its own, what stands within it a reading -/
namespace V3
open PySem PySem.Spec PyProof.Rows L2
/-- the tests of a clause -/
abbrev allTrue (ifs : List Expr) (env : Env) : Sem Bool := forIn ifs true fun d q => if q = true then do let y ← isTrue d env (eval d env); pure (ForInStep.yield y) else pure (ForInStep.yield q)
/-- one turn: next, store, tests, what stands within, again -/
def turnW (cd : Code) (p : Pos) (tg : Expr) (ifs : List Expr) (Wn : Sem Fin → Sem Fin) (it : Value) (env : Env) : Sem Fin :=
  standAt p >>= fun _ => pyNext it >>= fun q => match q with
    | none => pure (.done .next)
    | some u => letOwnedTupleGo tg it u >>= fun _ => assign tg env u >>= fun _ => allTrue ifs env >>= fun b => if b = true then Wn (again cd) else again cd
/-- within: a further clause -/
def nextW (lc : Expr) (j : Nat) (src : Expr) (acc : Value) (env : Env) : Sem Fin → Sem Fin := fun k =>
  eval src env >>= fun x => standAt src.pos >>= fun _ => foldedSetIterable src env x >>= fun y => holding [y] (pyIter y) >>= fun it => runOwn (.compStart lc j it acc env) env >>= fun _ => k
/-- within: the item is put into the list -/
def lastW (elt : Expr) (acc : Value) (env : Env) : Sem Fin → Sem Fin := fun k =>
  (eval elt env >>= fun y => call (.builtin "list.append") [acc, y] >>= fun _ => pure ()) >>= fun _ => k
abbrev lc3 (elt t0 i0 t1 i1 t2 i2 : Expr) (f0 f1 f2 : List Expr) (sc : Scope) (p : Pos) : Expr := .ListComp elt [⟨t0, i0, f0, 0⟩, ⟨t1, i1, f1, 0⟩, ⟨t2, i2, f2, 0⟩] sc p
section
variable {elt t0 i0 t1 i1 t2 i2 : Expr} {f0 f1 f2 : List Expr} {sc : Scope} {p : Pos} {it acc : Value} {env : Env}
theorem turn3_0 : compTurn (lc3 elt t0 i0 t1 i1 t2 i2 f0 f1 f2 sc p) 0 it acc env = turnW (.compLoop (lc3 elt t0 i0 t1 i1 t2 i2 f0 f1 f2 sc p) 0 it acc env) i0.pos t0 f0 (nextW (lc3 elt t0 i0 t1 i1 t2 i2 f0 f1 f2 sc p) 1 i1 acc env) it env := by rfl
theorem turn3_1 : compTurn (lc3 elt t0 i0 t1 i1 t2 i2 f0 f1 f2 sc p) 1 it acc env = turnW (.compLoop (lc3 elt t0 i0 t1 i1 t2 i2 f0 f1 f2 sc p) 1 it acc env) i1.pos t1 f1 (nextW (lc3 elt t0 i0 t1 i1 t2 i2 f0 f1 f2 sc p) 2 i2 acc env) it env := by rfl
theorem turn3_2 : compTurn (lc3 elt t0 i0 t1 i1 t2 i2 f0 f1 f2 sc p) 2 it acc env = turnW (.compLoop (lc3 elt t0 i0 t1 i1 t2 i2 f0 f1 f2 sc p) 2 it acc env) i2.pos t2 f2 (lastW elt acc env) it env := by rfl
end
section
variable {prog : Program} {w : World} {A : Around} {R : Result → Shared → Prop} {s : Shared} {elt tg : Expr} {gens : List Comprehension} {ifs : List Expr} {sc : Scope} {p p1 : Pos} {j : Nat} {it acc : Value} {env : Env} {Wn : Sem Fin → Sem Fin}
theorem loopW (ht : compTurn (.ListComp elt gens sc p) j it acc env = turnW (.compLoop (.ListComp elt gens sc p) j it acc env) p1 tg ifs Wn it env) (I : Nat → Shared → Prop)
    (turn : ∀ n s, I n s → wpAny (model prog w) A (pyNext it) (fun q s1 => match q with
      | none => R (.ok .next) s1
      | some u => wpAny (model prog w) A (letOwnedTupleGo tg it u) (fun _ s2 => wpAny (model prog w) A (assign tg env u) (fun _ s3 => wpAny (model prog w) A (allTrue ifs env) (fun b s4 =>
          if b = true then wpAny (model prog w) A (Wn (again (.compLoop (.ListComp elt gens sc p) j it acc env))) (fun fin s5 => fin = .again (.compLoop (.ListComp elt gens sc p) j it acc env) ∧ ∃ m, m < n ∧ I m s5) (fun _ _ => False) s4
          else ∃ m, m < n ∧ I m s4) (fun _ _ => False) s3) (fun _ _ => False) s2) (fun _ _ => False) s1) (fun _ _ => False) s)
    (n : Nat) (h : I n s) : codeAny (model prog w) A (.compLoop (.ListComp elt gens sc p) j it acc env) R s := by
  refine codeAny_loop rfl I (fun n s hI => ?_) n h
  show wpAny (model prog w) A ((compTurn (.ListComp elt gens sc p) j it acc env).onRaise fun x => do noteFrame x env; theTreesLotGoes x) _ _ s
  refine wpAny_noted ?_
  rw [ht]
  refine wpAny_bind (wpAny_standAt (wpAny_bind (thnF (turn n s hI) fun q s1 h1 => ?_)))
  cases q with
  | none => exact wpAny_pure h1
  | some u => exact wpAny_bind (thnF h1 fun _ s2 h2 => wpAny_bind (thnF h2 fun _ s3 h3 => wpAny_bind (thnF h3 fun b s4 h4 => by
      cases b with
      | false => exact wpAny_pure ⟨rfl, h4⟩
      | true =>
        refine thnF h4 fun fin s5 h5 => ?_
        obtain ⟨rfl, h5⟩ := h5
        exact ⟨rfl, h5⟩)))
end
/-- the slots known ahead but those of vs are known behind -/
def Keeps (vs : List Nat) (σ σ' : L2.St) : Prop := σ'.length = σ.length ∧ ∀ (j : Nat) v, (wipe σ vs)[j]? = some (some v) → σ'[j]? = some (some v)
theorem Keeps.refl (σ : L2.St) : Keeps [] σ σ := ⟨rfl, fun _ _ e => e⟩
/-- what stands within a clause runs so and goes on with the loop -/
def InB (X : Cx) (vs : List Nat) (Wn : Sem Fin → Sem Fin) (tb : L2.St → Hp → (Hp → Prop) → Prop) : Prop := ∀ (cd : Code) (pins : List (Addr × Obj)) (s : Shared) (σ : L2.St) (H : Hp) (Nx : Hp → Prop), Inv X pins σ H s → tb σ H Nx →
  wpAny (model X.prog X.w) X.A (Wn (again cd)) (fun fin s' => fin = .again cd ∧ ∃ σ' H', Inv X pins σ' H' s' ∧ Keeps vs σ σ' ∧ Nx H') (fun _ _ => False) s
/-- a clause's loop as a reading -/
def LoopT (J : It) (g : TG) (tt : TT) (vs : List Nat) (tb : L2.St → Hp → (Hp → Prop) → Prop) (σ : L2.St) (H : Hp) (Nx : Hp → Prop) : Prop := ∃ Wt : Nat → Nat → Hp → Prop, (∃ m, Wt 0 m H) ∧ ∀ i m H, Wt i m H →
  (J.stop i H ∧ Nx H) ∨ (J.go i H ∧ ∃ N : Hp → Prop, (∀ H', N H' → ∃ m', m' < m ∧ Wt (i + 1) m' H') ∧ ∀ x H', J.yld i H x H' → g x (wipe σ vs) H' fun σ2 H2 => wipe σ2 vs = wipe σ vs ∧ tt σ2 H2 fun b H3 => if b = true then tb σ2 H3 N else N H3)
section
variable {X : Cx} {pins : List (Addr × Obj)} {s : Shared} {σ : L2.St} {H : Hp} {elt tg iter : Expr} {gens : List Comprehension} {ifs : List Expr} {sc : Scope} {p p1 : Pos} {j : Nat} {it : Addr} {acc : Value} {Wn : Sem Fin → Sem Fin} {J : It} {fp : List Addr} {tn : Nat → Heap → Prop} {g : TG} {tt : TT} {vs vs' : List Nat} {tb : L2.St → Hp → (Hp → Prop) → Prop} {Nx : Hp → Prop} {R : Result → Shared → Prop} {wi : TI}
theorem loop_run (hc : X.calm = true) (hx : X.xe = fun _ _ => False) (T : Turn X.prog X.w X.K tg J fp it tn) (pg : PG X tg g) (pt : PTs X ifs tt) (hb : InB X vs' Wn tb) (sub : ∀ i ∈ vs', i ∈ vs)
    (ht : compTurn (.ListComp elt gens sc p) j (.ref it) acc X.env = turnW (.compLoop (.ListComp elt gens sc p) j (.ref it) acc X.env) p1 tg ifs Wn (.ref it) X.env)
    (I : Inv X pins (wipe σ vs) H s) (st : tn 0 s.heap) (f : ∀ b ∈ fp, FpOk X pins H b) (h : LoopT J g tt vs tb σ H Nx) (hR : ∀ H' s', Inv X pins (wipe σ vs) H' s' → Nx H' → R (.ok .next) s') :
    codeAny (model X.prog X.w) X.A (.compLoop (.ListComp elt gens sc p) j (.ref it) acc X.env) R s := by
  obtain ⟨Wt, ⟨m0, w0⟩, turn⟩ := h
  have fo : ∀ {H'}, (∀ b ∈ fp, H' b = none) → ∀ b ∈ fp, FpOk X pins H' b := fun n b hb => ⟨n b hb, (f b hb).2⟩
  refine loopW ht (fun n s' => ∃ i H', Inv X pins (wipe σ vs) H' s' ∧ tn i s'.heap ∧ (∀ b ∈ fp, H' b = none) ∧ Wt i n H') ?_ m0 ⟨0, H, I, st, fun b hb => (f b hb).1, w0⟩
  rintro n s1 ⟨i, H1, I1, st1, n1, w1⟩
  rcases turn i n H1 w1 with ⟨stop, q⟩ | ⟨go, N, hN, step⟩
  · refine thnF (T.done X rfl rfl rfl hc i pins s1 _ H1 (fun _ _ => False) I1 (fo n1) st1 stop) fun q2 s2 ⟨e, I2⟩ => ?_
    subst e
    exact hR H1 s2 I2 q
  · refine thnF (T.item X rfl rfl rfl hc i pins s1 _ H1 (fun _ _ => False) I1 (fo n1) st1 go) fun q2 s2 ⟨u, e, h2⟩ => ?_
    subst e
    refine thnF h2 fun _ s3 ⟨x, H3, I3, r3, y3, st3, n3⟩ => ?_
    have I3' := I3.pinned (fo n3) (T.obj _ _ st3)
    have z4 := pg.run _ s3 _ H3 x u _ I3' r3 (step x H3 y3)
    rw [hx] at z4
    refine thnF z4 fun _ s4 ⟨σ4, H4, I4, ew, q4⟩ => ?_
    have z5 := pt.run _ s4 σ4 H4 _ I4 q4
    rw [hx] at z5
    refine thnF z5 fun b s5 ⟨H5, I5, q5⟩ => ?_
    have fin : ∀ {σ' H' s'}, Inv X (pins ++ pinsAt fp s3.heap) σ' H' s' → Keeps vs' σ4 σ' → N H' → ∃ m, m < n ∧ ∃ i H', Inv X pins (wipe σ vs) H' s' ∧ tn i s'.heap ∧ (∀ b ∈ fp, H' b = none) ∧ Wt i m H' := fun {σ' H' s'} I' kp nx => by
      obtain ⟨m', hm, w'⟩ := hN H' nx
      have pn : ∀ b ∈ fp, ∀ o, s3.heap.get? b = some o → s'.heap.get? b = some o ∧ H' b = none := fun b hb o e =>
        let z := I'.pin (b, o) (List.mem_append_right _ (List.mem_append_right _ (mem_pinsAt hb e)))
        ⟨z.1, z.2.1⟩
      have el : (wipe σ vs).length = σ'.length := by rw [← ew, wipe_length, kp.1]
      refine ⟨m', hm, i + 1, H', (I'.unpinned (pins := pins)).weak el fun k v e => ?_, T.keep _ _ _ st3 fun b hb o e => (pn b hb o e).1, fun b hb => ?_, w'⟩
      · rw [← ew] at e
        obtain ⟨e1, e2⟩ := wipe_some e
        refine kp.2 k v ?_
        rw [wipe_out fun z => e2 (sub k z)]
        exact e1
      · obtain ⟨o, e, _⟩ := T.obj _ _ st3 b hb
        exact (pn b hb o e).2
    cases b with
    | false =>
      have q5 : N H5 := q5
      exact fin I5 ⟨rfl, fun k v e => (wipe_some e).1⟩ q5
    | true =>
      have q5 : tb σ4 H5 N := q5
      refine thnF (hb _ _ s5 σ4 H5 N I5 q5) fun fn s6 ⟨e, σ6, H6, I6, kp, nx⟩ => ?_
      exact ⟨e, fin I6 kp nx⟩
end
/-- a further clause as what stands within one; the item put into the list at D -/
def tCl (wi : TI) (g : TG) (tt : TT) (vs : List Nat) (tb : L2.St → Hp → (Hp → Prop) → Prop) : L2.St → Hp → (Hp → Prop) → Prop := fun σ H N => wi σ H fun J H1 => LoopT J g tt vs tb σ H1 N
def tPut (te : TE) (D : Addr) : L2.St → Hp → (Hp → Prop) → Prop := fun σ H N => te σ H fun y H1 => ∃ ys, H1 D = some (.lst ys) ∧ ys.length < sizeLine ∧ N (upd H1 D (.lst (ys ++ [y])))
/-- [elt for t0 in i0 if .. for t1 in i1 if .. for t2 in i2 if ..] -/
def tLc3 (wi : TI) (g : TG) (tt : TT) (wi1 : TI) (g1 : TG) (tt1 : TT) (wi2 : TI) (g2 : TG) (tt2 : TT) (te : TE) (vs vs1 vs2 : List Nat) : TE := fun σ H Q =>
  wi σ H fun J H1 => ∀ D, H1 D = none → LoopT J g tt vs (tCl wi1 g1 tt1 vs1 (tCl wi2 g2 tt2 vs2 (tPut te D))) σ (upd H1 D (.lst [])) (Q (.ref D))
section
variable {prog : Program} {w : World} {A : Around} {R : Result → Shared → Prop} {s : Shared} {elt t0 i0 t1 i1 t2 i2 : Expr} {f0 f1 f2 : List Expr} {sc : Scope} {p : Pos} {it acc : Value} {env : Env} {j : Nat}
theorem start3 (hj : j = 1 ∨ j = 2) (h0 : codeAny (model prog w) A (.compLoop (lc3 elt t0 i0 t1 i1 t2 i2 f0 f1 f2 sc p) j it acc env) R s)
    (h : wpAny (model prog w) A (pyIter it) (fun it2 s2 => codeAny (model prog w) A (.compLoop (lc3 elt t0 i0 t1 i1 t2 i2 f0 f1 f2 sc p) j it2 acc env) R s2) (fun _ _ => False) s) :
    codeAny (model prog w) A (.compStart (lc3 elt t0 i0 t1 i1 t2 i2 f0 f1 f2 sc p) j it acc env) R s := by
  have hn : wpAny (model prog w) A (pyIter it) (fun it2 s2 => codeAny (model prog w) A (.compLoop (lc3 elt t0 i0 t1 i1 t2 i2 f0 f1 f2 sc p) j it2 acc env) R s2) (notedBy (model prog w) A env fun x s' => R (.error x) s') s := thnF h fun _ _ z => z
  refine codeAny_of_tree ?_
  show wpAny _ _ ((compStart (lc3 elt t0 i0 t1 i1 t2 i2 f0 f1 f2 sc p) j it acc env).onRaise fun x => do noteFrame x env; standAt theWindowsPlace) _ _ s
  refine wpAny_notedAt ?_
  rcases hj with rfl | rfl <;> unfold compStart <;> (show wpAny _ _ (ask >>= _) _ _ s) <;> refine wpAny_bind (wpAny_askSetting (wpAny_ite ?_)) <;> split <;>
    first
    | exact wpAny_pure ⟨rfl, h0⟩
    | exact wpAny_bind (wpAny_pure (wpAny_pure ⟨rfl, h0⟩))
    | exact wpAny_bind (wpAny_rule (wpAny_bind (wpAny_standAt (wpAny_bind (wpAny_mono hn (fun it2 s2 z => wpAny_pure ⟨rfl, z⟩) fun _ _ z => z)))))
    | (refine wpAny_bind (wpAny_rule ?_)
       show wpAny _ _ (standAt _ >>= _) _ _ s
       exact wpAny_bind (wpAny_standAt (wpAny_bind (wpAny_mono hn (fun it2 s2 z => wpAny_pure ⟨rfl, z⟩) fun _ _ z => z))))
end
section
variable {X : Cx} {elt t0 i0 t1 i1 t2 i2 : Expr} {f0 f1 f2 : List Expr} {sc : Scope} {p p1 : Pos} {acc : Value} {j : Nat} {tg src : Expr} {ifs : List Expr} {Wn : Sem Fin → Sem Fin} {g : TG} {tt : TT} {vs vs' : List Nat} {tb : L2.St → Hp → (Hp → Prop) → Prop} {wi : TI} {te : TE} {D : Addr}
theorem in_last (hx : X.xe = fun _ _ => False) (he : PE X elt te) : InB X [] (lastW elt (.ref D) X.env) (tPut te D) := fun cd pins s σ H Nx I h => by
  have z := he.run pins s σ H _ I h
  rw [hx] at z
  refine wpAny_bind (wpAny_bind (thnF z fun yv s1 ⟨y, H1, I1, r1, ys, hD, hz, q⟩ => ?_))
  exact wpAny_bind (app_ok I1 hD hz r1 fun s2 I2 => wpAny_pure (wpAny_pure ⟨rfl, σ, _, I2, Keeps.refl σ, q⟩))
theorem in_clause (hj : j = 1 ∨ j = 2) (hc : X.calm = true) (hx : X.xe = fun _ _ => False) (hi : PI X tg src wi) (pg : PG X tg g) (pt : PTs X ifs tt) (hs : ∀ x, foldedSetIterable src X.env x = pure x) (hb : InB X vs' Wn tb) (sub : ∀ i ∈ vs', i ∈ vs)
    (ht : ∀ it, compTurn (lc3 elt t0 i0 t1 i1 t2 i2 f0 f1 f2 sc p) j (.ref it) acc X.env = turnW (.compLoop (lc3 elt t0 i0 t1 i1 t2 i2 f0 f1 f2 sc p) j (.ref it) acc X.env) p1 tg ifs Wn (.ref it) X.env) :
    InB X vs (nextW (lc3 elt t0 i0 t1 i1 t2 i2 f0 f1 f2 sc p) j src acc X.env) (tCl wi g tt vs tb) := fun cd pins s σ H Nx I h => by
  have z := hi.run pins s σ H _ I h
  rw [hx] at z
  refine wpAny_bind (thnF z fun xv s1 h1 => wpAny_bind (wpAny_standAt (wpAny_bind (wpAny_of_eq (hs xv) (wpAny_bind (wpAny_holding (thnF h1 fun itv s2 h2 => ?_)))))))
  obtain ⟨it, fp, tn, J, H2, rfl, I2, T, st, f, q⟩ := h2
  refine wpAny_bind (wpAny_runOwn ?_)
  rw [Around.mark_none]
  have lp : codeAny (model X.prog X.w) X.A (.compLoop (lc3 elt t0 i0 t1 i1 t2 i2 f0 f1 f2 sc p) j (.ref it) acc X.env) (fun r s' => match r with
      | .ok _ => ∃ σ' H', Inv X pins σ' H' s' ∧ Keeps vs σ σ' ∧ Nx H'
      | .error _ => False) s2 := loop_run hc hx T pg pt hb sub (ht it) (I2.weak (wipe_length _ _) fun k v e => (wipe_some e).1) st f q fun H' s' I' nx => ⟨_, H', I', ⟨wipe_length _ _, fun _ _ e => e⟩, nx⟩
  refine codeAny_mono (start3 hj lp (T.self X.A 0 _ _ _ st lp)) fun r s3 h3 => ?_
  cases r with
  | ok fl => exact wpAny_pure ⟨rfl, h3⟩
  | error e => exact h3.elim
end
section
variable {X : Cx} {elt t0 i0 t1 i1 t2 i2 : Expr} {f0 f1 f2 : List Expr} {sc : Scope} {own : List (Str × Nat)} {vs1 vs2 : List Nat} {ps : Pos} {wi wi1 wi2 : TI} {g g1 g2 : TG} {tt tt1 tt2 : TT} {te : TE}
theorem pe_lc3 (hc : X.calm = true) (hN : X.N.Nodup) (hi : PI X t0 i0 wi) (ok : BlkOk X.N X.env.scope sc own) (v1 : ∀ i ∈ vs1, i ∈ own.map (·.2)) (v2 : ∀ i ∈ vs2, i ∈ vs1)
    (hg : ∀ (u : Shared) (G : Hp) (C : Addr) (cl : List (Str × Addr)) (fp : List Addr), PG (X.blk u G sc (compEnvC sc cl C X.env) fp) t0 g) (ht : ∀ (u : Shared) (G : Hp) (C : Addr) (cl : List (Str × Addr)) (fp : List Addr), PTs (X.blk u G sc (compEnvC sc cl C X.env) fp) f0 tt) (hi1 : ∀ (u : Shared) (G : Hp) (C : Addr) (cl : List (Str × Addr)) (fp : List Addr), PI (X.blk u G sc (compEnvC sc cl C X.env) fp) t1 i1 wi1) (hg1 : ∀ (u : Shared) (G : Hp) (C : Addr) (cl : List (Str × Addr)) (fp : List Addr), PG (X.blk u G sc (compEnvC sc cl C X.env) fp) t1 g1) (ht1 : ∀ (u : Shared) (G : Hp) (C : Addr) (cl : List (Str × Addr)) (fp : List Addr), PTs (X.blk u G sc (compEnvC sc cl C X.env) fp) f1 tt1)
    (hi2 : ∀ (u : Shared) (G : Hp) (C : Addr) (cl : List (Str × Addr)) (fp : List Addr), PI (X.blk u G sc (compEnvC sc cl C X.env) fp) t2 i2 wi2) (hg2 : ∀ (u : Shared) (G : Hp) (C : Addr) (cl : List (Str × Addr)) (fp : List Addr), PG (X.blk u G sc (compEnvC sc cl C X.env) fp) t2 g2) (ht2 : ∀ (u : Shared) (G : Hp) (C : Addr) (cl : List (Str × Addr)) (fp : List Addr), PTs (X.blk u G sc (compEnvC sc cl C X.env) fp) f2 tt2) (he : ∀ (u : Shared) (G : Hp) (C : Addr) (cl : List (Str × Addr)) (fp : List Addr), PE (X.blk u G sc (compEnvC sc cl C X.env) fp) elt te)
    (hs : ∀ x, foldedSetIterable i0 X.env x = pure x := by intro _; rfl) (hs1 : ∀ e x, foldedSetIterable i1 e x = pure x := by intro _ _; rfl) (hs2 : ∀ e x, foldedSetIterable i2 e x = pure x := by intro _ _; rfl) :
    PE X (lc3 elt t0 i0 t1 i1 t2 i2 f0 f1 f2 sc ps) (tLc3 wi g tt wi1 g1 tt1 wi2 g2 tt2 te (own.map (·.2)) vs1 vs2) := by
  refine ⟨fun pins s σ H Q I h => ?_⟩
  rw [eval_ListComp]
  have clos : ∀ y ∈ sc.names, y.2 = .free → ∃ c, X.env.cells.lookup y.1 = some c := fun y hy e => (ok.free y hy e).elim (fun k => I.ok.has _ (.inl k)) fun k => I.ok.has _ (.inr k)
  refine wpAny_comprehension_free (use := none) rfl hs (closure_ok clos) ok.kind (fun y hy e => by rw [ok.uniq y hy, e]) (thn (hi.run pins s σ H _ I h) fun xv a1 hx => thn hx fun itv a2 z2 => ?_)
  obtain ⟨it, fp, tn, J, H2, rfl, I2, T, st2, fr2, q⟩ := z2
  refine wpAny_newObj_type (newEnv_comp ?_) (by show 0 ≤ sizeLine; decide)
  obtain ⟨D, eD⟩ : ∃ D, D = a2.heap.objs.size := ⟨_, rfl⟩
  have nD : H2 D = none := I2.hok.fresh (Nat.le_of_eq eD.symm)
  have q := q D nD
  rw [← eD]
  have I3 : Inv X pins σ (upd H2 D (.lst [])) { a2 with heap := a2.heap.push { cls := .type "list", data := .seq ([] : List Value).toArray } } := by
    refine I2.laid (t' := a2.toks) (fun b o e => Heap.get?_push_of_some _ e) (Nat.le_of_eq eD.symm) ⟨Nat.zero_le _, [], 0, .nil, ?_⟩
    rw [eD]
    exact Heap.get?_push_size _ rfl
  have st3 : tn 0 (a2.heap.push { cls := .type "list", data := .seq ([] : List Value).toArray }) := T.keep _ _ _ st2 fun b _ o e => Heap.get?_push_of_some _ e
  have fr3 : ∀ b ∈ fp, FpOk X pins (upd H2 D (.lst [])) b ∧ b < (a2.heap.push { cls := .type "list", data := .seq ([] : List Value).toArray }).objs.size := fun b hb => by
    obtain ⟨o, e, _⟩ := T.obj _ _ st2 b hb
    have lt := Heap.lt_size e
    refine ⟨⟨?_, (fr2 b hb).2⟩, by rw [Heap.size_push]; exact Nat.lt_succ_of_lt lt⟩
    rw [upd_ne (by rw [eD]; exact Nat.ne_of_lt lt)]
    exact (fr2 b hb).1
  generalize ha3 : ({ a2 with heap := a2.heap.push { cls := .type "list", data := .seq ([] : List Value).toArray } } : Shared) = a3 at I3 ⊢
  have eh : a3.heap = a2.heap.push { cls := .type "list", data := .seq ([] : List Value).toArray } := by rw [← ha3]
  rw [← eh] at st3 fr3
  generalize upd H2 D (.lst []) = H3 at I3 fr3 q
  have I4 := block_start I3 ok hN fr3
  have st4 : tn 0 (pushCells (a3.heap.push { cls := .type "dict", data := .dict #[] }) sc.names) := T.keep _ _ _ st3 fun b _ o e => pushCells_keeps _ _ _ _ (Heap.get?_push_of_some _ e)
  generalize hcl : cellsFrom (a3.heap.objs.size + 1) sc.names (cloFrom X.env.cells sc.names []) = cl at I4 ⊢
  show codeAny _ _ (.compStart (lc3 elt t0 i0 t1 i1 t2 i2 f0 f1 f2 sc ps) 0 (.ref it) (.ref D) (compEnvC sc cl a3.heap.objs.size X.env)) (compPost (model X.prog X.w) X.A X.xe none _ (.ref D) a3.heap.objs.size) { a3 with heap := pushCells (a3.heap.push { cls := .type "dict", data := .dict #[] }) sc.names }
  generalize ha4 : ({ a3 with heap := pushCells (a3.heap.push { cls := .type "dict", data := .dict #[] }) sc.names } : Shared) = a4 at I4 ⊢
  have st4 : tn 0 a4.heap := by rw [← ha4]; exact st4
  have b2 := in_clause (X := X.blk a3 H3 sc (compEnvC sc cl a3.heap.objs.size X.env) fp) (acc := .ref D) (elt := elt) (t0 := t0) (i0 := i0) (t1 := t1) (i1 := i1) (t2 := t2) (i2 := i2) (f0 := f0) (f1 := f1) (f2 := f2) (sc := sc) (p := ps) (p1 := i2.pos) (vs := vs2) (.inr rfl) hc rfl (hi2 a3 H3 a3.heap.objs.size cl fp) (hg2 a3 H3 a3.heap.objs.size cl fp) (ht2 a3 H3 a3.heap.objs.size cl fp) (hs2 _) (in_last (X := X.blk a3 H3 sc (compEnvC sc cl a3.heap.objs.size X.env) fp) (D := D) rfl (he a3 H3 a3.heap.objs.size cl fp)) (fun i hi => by cases hi) fun it => turn3_2
  have b1 := in_clause (X := X.blk a3 H3 sc (compEnvC sc cl a3.heap.objs.size X.env) fp) (acc := .ref D) (vs := vs1) (.inl rfl) hc rfl (hi1 a3 H3 a3.heap.objs.size cl fp) (hg1 a3 H3 a3.heap.objs.size cl fp) (ht1 a3 H3 a3.heap.objs.size cl fp) (hs1 _) b2 v2 fun it => turn3_1
  have lp : codeAny (model X.prog X.w) X.A (.compLoop (lc3 elt t0 i0 t1 i1 t2 i2 f0 f1 f2 sc ps) 0 (.ref it) (.ref D) (compEnvC sc cl a3.heap.objs.size X.env)) (compPost (model X.prog X.w) X.A X.xe none (EP X pins σ Q) (.ref D) a3.heap.objs.size) a4 := by
    refine loop_run (X := X.blk a3 H3 sc (compEnvC sc cl a3.heap.objs.size X.env) fp) (pins := []) hc rfl T (hg a3 H3 a3.heap.objs.size cl fp) (ht a3 H3 a3.heap.objs.size cl fp) b1 v1 turn3_0 I4 st4 (fun b hb => ?_) q fun H5 a5 I5 qq => ?_
    · exact ⟨(fr3 b hb).1.1, (I4.ok.exf b hb).1, I4.ok.exfs b hb, .inl hb, fun x c e => (I4.ok.exf b hb).2 x c e, fun pn hp => absurd (show pn ∈ ([] : List (Addr × Obj)) ++ [] from hp) (by simp)⟩
    · have I7 : Inv X pins σ H5 a5 := I3.call' (ch := fp) I5.os I5.base I5.hok I5.bare fun b hb => ⟨(fr3 b hb).1.2.2.2.1, (fr3 b hb).1.2.1, (fr3 b hb).1.2.2.2.2.1, (fr3 b hb).1.2.2.2.2.2⟩
      have nC : H5 a3.heap.objs.size = none := I5.free
      obtain ⟨m, hm, _⟩ := I5.loc
      obtain ⟨c0, c1, c2, c3, c4, c5⟩ := I3.fpOk (Nat.le_refl _) nC
      exact ⟨m, hm, fun h2 sb => ⟨.ref D, H5, I7.turned (t' := a5.toks) (fun b o hb e => (sb.2 b hb).trans e) c0 c1 c3 c4 c5, rfl, qq⟩⟩
  exact codeAny_compStart_list lp (T.self X.A 0 _ _ _ st4 lp)
end
end V3

set_option Elab.async false
set_option linter.all false
set_option maxRecDepth 100000
namespace V3
open PySem L2
def top (i : Nat) : Stmt := PySem.Challenge.pw_contrabooks_k15_houses_put_together.main.body.getD i (.Pass ⟨0, 0, 0, 0⟩)
abbrev sSeed : Stmt := top 28
abbrev sChoose : Stmt := top 29
abbrev sOneOf : Stmt := top 30
/-- the box of draws: two numbers -/
def BoxOk (u v : Int) : Prop := 0 ≤ u ∧ 1 ≤ v ∧ v ≤ 2147483629
def box (u v : Int) : HO := .lst [.int u, .int v]
def BoxAt (H : Hp) (b : Addr) : Prop := ∃ u v, BoxOk u v ∧ H b = some (box u v)
def spSeed (K : PySem.W.Frag) : Sp := fun vs H Q _ => ∃ (a : Addr) (ns : List Int) (k : Int), vs = [.ref a, .int k] ∧ SqL K H a (ns.map V.int) ∧ ns.length ≤ 63 ∧ 0 ≤ k ∧ k ≤ 100 ∧
  ∀ (p : Addr) (u v : Int), H p = none → BoxOk u v → Q (.ref p) (upd H p (box u v))
def spChoose : Sp := fun vs H Q _ => ∃ (b : Addr) (u v m : Int), vs = [.ref b, .int m] ∧ H b = some (box u v) ∧ BoxOk u v ∧ 1 ≤ m ∧ m ≤ 10000000000000000000000000000000000000000 ∧
  ∀ d u' v' : Int, 0 ≤ d → d < m → BoxOk u' v' → Q (.int d) (upd H b (box u' v'))
def spOneOf (K : PySem.W.Frag) : Sp := fun vs H Q _ => ∃ (b l : Addr) (u v : Int) (xs : List V), vs = [.ref b, .ref l] ∧ H b = some (box u v) ∧ BoxOk u v ∧ l ≠ b ∧ SqL K H l xs ∧ 1 ≤ xs.length ∧ xs.length ≤ 1000 ∧
  ∀ (x : V) (u' v' : Int), x ∈ xs → BoxOk u' v' → Q x (upd H b (box u' v'))
structure Blt (mg : Str → Option Value) : Prop where
  len : mg "len" = none
  abs : mg "abs" = none
  int : mg "int" = none
/-- a def that stands at a name of the module -/
def Cal (P : Program) (w : World) (K : PySem.W.Frag) (mg : Str → Option Value) (base : Heap) (CX : CXT) (name : Str) (k : Nat) (ps : List Str) (sp : Sp) : Prop :=
  ∃ (f : Addr) (fd : FuncData), FnOk P w K mg base CX k f fd ps sp ∧ mg name = some (.ref f) ∧ PySem.W.keepIn K (.ref f) = true ∧ Binds K fd ps []
theorem seqL_ne {K : PySem.W.Frag} {H : Hp} {l b : Addr} {o : HO} {xs : List V} (ne : l ≠ b) (h : SqL K H l xs) : SqL K (upd H b o) l xs := by
  rcases h with (h | ⟨o, h⟩) | h
  · exact .inl (.inl (by rw [upd_ne ne]; exact h))
  · exact .inl (.inr ⟨o, by rw [upd_ne ne]; exact h⟩)
  · exact .inr h
theorem atI_ints {ns : List Int} {i : Int} (h0 : 0 ≤ i) (hj : i.toNat < ns.length) : atI (ns.map V.int) i = some (.int ns[i.toNat]) := by
  have e : ixN (ns.map V.int).length i = some i.toNat := by
    unfold ixN
    rw [if_pos h0, if_pos (by rw [List.length_map]; omega)]
  show (ixN (ns.map V.int).length i).bind (fun j => (ns.map V.int)[j]?) = some (.int ns[i.toNat])
  rw [e]
  show (ns.map V.int)[i.toNat]? = some (.int ns[i.toNat])
  rw [List.getElem?_map, List.getElem?_eq_getElem hj]
  rfl
section
variable {P : Program} {w : World} {K : PySem.W.Frag} {mg : Str → Option Value} {base : Heap}
theorem scSeed : FnScope ["_law_script", "_law_k", "_law_cell"] ["_law_script", "_law_k"] (defScope sSeed) := ⟨rfl, rfl, rfl, by decide +kernel, rfl, by decide +kernel, by decide +kernel⟩
theorem scChoose : FnScope ["_law_box", "_law_many", "_law_digit", "_law_first"] ["_law_box", "_law_many"] (defScope sChoose) := ⟨rfl, rfl, rfl, by decide +kernel, rfl, by decide +kernel, by decide +kernel⟩
theorem scOneOf : FnScope ["_law_box", "_law_some"] ["_law_box", "_law_some"] (defScope sOneOf) := ⟨rfl, rfl, rfl, by decide +kernel, rfl, by decide +kernel, by decide +kernel⟩
theorem ok_choose {f : Addr} {fd : FuncData} (F : Fun K "_law_choose" "_law_choose" sChoose f fd) (T : Blt mg) : FnOk P w K mg base CX0 1 f fd ["_law_box", "_law_many"] spChoose := by
  refine F.ok scChoose (fun vs H Q E h => ?_) (fun cdv A outer s H vs Q E hr h => ?_)
  · obtain ⟨b, u, v, m, rfl, _⟩ := h
    rfl
  · obtain ⟨b, u, v, m, rfl, hb, ok, m1, m2, k⟩ := h
    refine ⟨_, pss_cons (ps_if (pt_cmpR op_gt (pe_ix ix_list (pv 0) pe_int (fun _ _ => rfl)) pe_int (nomark _))
        (pss_cons (ps_set (i := 2) scChoose.nd rfl (Or.inl rfl) (pe_op op_mod (pe_callTy call_int1 (by rfl) T.int (by decide +kernel) (pa_cons (pe_ix ix_list (pv 0) pe_int (fun _ _ => rfl)) pa_nil)) (pv 1)))
        (pss_cons (ps_asg (pe_op op_fdivW (pe_ix ix_list (pv 0) pe_int (fun _ _ => rfl)) (pv 1)) (pg_sub (pv 0) pe_int set_list))
        (pss_one (ps_ret (pv 2))))) pss_nil)
      (pss_cons (ps_set (i := 3) scChoose.nd rfl (Or.inl rfl) (pe_op op_mod (pe_callTy call_int1 (by rfl) T.int (by decide +kernel) (pa_cons (pe_op op_add (pe_op op_mul (pe_ix ix_list (pv 0) pe_int (fun _ _ => rfl)) pe_int) pe_int) pa_nil)) pe_int))
      (pss_cons (ps_asg (pe_op op_add (pe_op op_mod (pe_callTy call_int1 (by rfl) T.int (by decide +kernel) (pa_cons (pe_op op_add (pe_op op_mul (pv 3) pe_int) pe_int) pa_nil)) pe_int) pe_int) (pg_sub (pv 0) pe_int set_list))
      (pss_one (ps_ret (pe_op op_mod (pe_callTy call_int1 (by rfl) T.int (by decide +kernel) (pa_cons (pe_op op_fdivW (pe_op op_add (pe_op op_mul (pv 3) pe_int) (pe_ix ix_list (pv 0) pe_int (fun _ _ => rfl))) pe_int) pa_nil)) (pv 1)))))), ?_⟩
    obtain ⟨u0, v1, v2⟩ := ok
    have hm : (0 : Int) < m := by omega
    have hw : m.natAbs < 2 ^ 140 := by
      have : (2 : Nat) ^ 140 = 1393796574908163946345982392040522594123776 := by decide
      omega
    refine ⟨_, rfl, b, _, 0, _, rfl, rfl, SqL.of hb, rfl, _, _, rfl, rfl, _, rfl, ?_⟩
    refine ite2 (fun c => ?_) (fun c => ?_)
    · refine ⟨_, rfl, b, _, 0, _, rfl, rfl, SqL.of hb, rfl, .inl ⟨_, rfl, _, rfl, _, _, rfl, rfl, hm, ?_⟩⟩
      refine ⟨_, rfl, b, _, 0, _, rfl, rfl, SqL.of hb, rfl, _, rfl, _, _, rfl, rfl, wide_div hm hw (by decide) (by decide), ?_⟩
      refine ⟨_, rfl, b, _, 0, 0, rfl, rfl, hb, rfl, _, rfl, ?_⟩
      exact k _ _ _ (Int.emod_nonneg _ (by omega)) (Int.emod_lt_of_pos _ hm) ⟨Int.ediv_nonneg u0 (by omega), v1, v2⟩
    · refine ⟨_, rfl, b, _, 1, _, rfl, rfl, SqL.of hb, rfl, _, _, rfl, rfl, .inl (by constructor <;> omega), _, _, rfl, rfl, .inl ⟨_, rfl, _, _, rfl, rfl, (by show (0 : Int) < 2147483563; decide), ?_⟩⟩
      have a1 := Int.emod_nonneg (v * 40014 + 11) (by decide : (2147483563 : Int) ≠ 0)
      have a2 := Int.emod_lt_of_pos (v * 40014 + 11) (by decide : (0 : Int) < 2147483563)
      refine ⟨_, rfl, _, _, rfl, rfl, .inl (by constructor <;> omega), _, _, rfl, rfl, .inl ⟨_, rfl, _, _, rfl, rfl, (by show (0 : Int) < 2147483629; decide), _, _, rfl, rfl, ?_⟩⟩
      refine ⟨_, rfl, b, _, 1, 1, rfl, rfl, hb, rfl, ?_⟩
      have b1 := Int.emod_nonneg ((v * 40014 + 11) % 2147483563 * 40692 + 2903) (by decide : (2147483629 : Int) ≠ 0)
      have b2 := Int.emod_lt_of_pos ((v * 40014 + 11) % 2147483563 * 40692 + 2903) (by decide : (0 : Int) < 2147483629)
      refine ⟨_, rfl, _, _, rfl, rfl, .inl (by constructor <;> omega), _, rfl, b, _, 1, _, rfl, rfl, SqL.of upd_same, rfl, _, _, rfl, rfl, _, _, rfl, rfl, wide_div (b := 14) (by decide) (by decide) (by decide) (by decide), .inl ⟨_, rfl, _, rfl, _, _, rfl, rfl, hm, ?_⟩⟩
      exact k _ _ _ (Int.emod_nonneg _ (by omega)) (Int.emod_lt_of_pos _ hm) ⟨u0, by omega, by omega⟩
theorem ok_oneOf {f : Addr} {fd : FuncData} (F : Fun K "_law_one_of" "_law_one_of" sOneOf f fd) (T : Blt mg) (c : Cal P w K mg base CX0 "_law_choose" 1 ["_law_box", "_law_many"] spChoose) : FnOk P w K mg base CX0 2 f fd ["_law_box", "_law_some"] (spOneOf K) := by
  obtain ⟨fC, fdC, GC, mC, kC, bC⟩ := c
  refine F.ok scOneOf (fun vs H Q E h => ?_) (fun cdv A outer s H vs Q E hr h => ?_)
  · obtain ⟨b, l, u, v, xs, rfl, _⟩ := h
    rfl
  · obtain ⟨b, l, u, v, xs, rfl, hb, ok, ne, hS, x1, x2, k⟩ := h
    refine ⟨_, pss_one (ps_ret (pe_ix ix_list (pv 1) (pe_call GC hr rfl mC kC bC .nil pass0 (pa_cons (pv 0) (pa_cons (pe_callB call_len_seq (by rfl) T.len PySem.boot_len (pa_cons (pv 1) pa_nil)) pa_nil))) (fun _ _ => rfl))), ?_⟩
    refine ⟨_, rfl, _, rfl, _, rfl, l, _, rfl, .inl hS, b, u, v, _, rfl, hb, ok, (by omega), (by omega), fun d u' v' d0 d1 ok' => ?_⟩
    have hj : d.toNat < xs.length := by omega
    refine ⟨l, xs, d, xs[d.toNat], rfl, rfl, ?_, ?_, k _ _ _ (List.getElem_mem hj) ok'⟩
    · exact seqL_ne ne hS
    · have e : ixN xs.length d = some d.toNat := by
        unfold ixN
        rw [if_pos d0, if_pos (by omega)]
      show (ixN xs.length d).bind (fun j => xs[j]?) = some xs[d.toNat]
      rw [e]
      exact List.getElem?_eq_getElem hj
theorem ok_seed {f : Addr} {fd : FuncData} (F : Fun K "_law_seed" "_law_seed" sSeed f fd) (T : Blt mg) : FnOk P w K mg base CX0 1 f fd ["_law_script", "_law_k"] (spSeed K) := by
  refine F.ok scSeed (fun vs H Q E h => ?_) (fun cdv A outer s H vs Q E hr h => ?_)
  · obtain ⟨a, ns, k, rfl, _⟩ := h
    rfl
  · obtain ⟨a, ns, k, rfl, hS, hl, k0, k1, go⟩ := h
    refine ⟨_, pss_cons (ps_set (i := 2) scSeed.nd rfl (Or.inl rfl) (pe_op op_add (pe_op op_mul pe_int (pv 1)) pe_int))
      (pss_cons (ps_if (pt_cmpR op_lt (pv 1) (pe_callB call_len_seq (by rfl) T.len PySem.boot_len (pa_cons (pv 0) pa_nil)) (nomark _))
        (pss_one (ps_set (i := 2) scSeed.nd rfl (Or.inl rfl) (pe_callB call_abs (by rfl) T.abs (by decide +kernel) (pa_cons (pe_ix ix_list (pv 0) (pv 1) (fun _ _ => rfl)) pa_nil))))
        (pss_one (ps_if (pt_cmpR op_gt (pe_callB call_len_seq (by rfl) T.len PySem.boot_len (pa_cons (pv 0) pa_nil)) pe_int (nomark _))
          (pss_one (ps_set (i := 2) scSeed.nd rfl (Or.inl rfl) (pe_op op_add (pv 2) (pe_op op_mul (pe_op op_mod (pe_callTy call_int1 (by rfl) T.int (by decide +kernel) (pa_cons (pe_callB call_abs (by rfl) T.abs (by decide +kernel) (pa_cons (pe_ix ix_list (pv 0) (pe_op op_mod (pe_callTy call_int1 (by rfl) T.int (by decide +kernel) (pa_cons (pv 1) pa_nil)) (pe_callB call_len_seq (by rfl) T.len PySem.boot_len (pa_cons (pv 0) pa_nil))) (fun _ _ => rfl)) pa_nil)) pa_nil)) pe_int) pe_int))))
          pss_nil)))
      (pss_one (ps_ret (pe_lst (pa_cons (pe_ifExp (pt_cmpR op_ge (pv 2) (pe_op op_pow pe_int pe_int) (nomark _)) (pv 2) pe_int)
        (pa_cons (pe_op op_add (pe_op op_mod (pe_callTy call_int1 (by rfl) T.int (by decide +kernel) (pa_cons (pe_op op_add (pe_op op_mul (pe_op op_mod (pe_callTy call_int1 (by rfl) T.int (by decide +kernel) (pa_cons (pv 2) pa_nil)) pe_int) pe_int) (pe_op op_mul pe_int (pv 1))) pa_nil)) pe_int) pe_int) pa_nil)))))), ?_⟩
    have hk1 : -(2 ^ 64) < (7411 : Int) ∧ (7411 : Int) < 2 ^ 64 := by constructor <;> decide
    refine ⟨_, rfl, _, _, rfl, rfl, .inl hk1, _, _, rfl, rfl, ?_⟩
    refine ⟨_, rfl, _, rfl, a, _, rfl, .inl hS, _, _, rfl, rfl, _, rfl, ?_⟩
    rw [List.length_map]
    refine ite2 (fun c => ?wayA) (fun c => ?wayB)
    case' wayA =>
      have c' : k < (ns.length : Int) := of_decide_eq_true c
      have hj : k.toNat < ns.length := by omega
      refine ⟨_, rfl, _, rfl, a, _, k, .int ns[k.toNat], rfl, rfl, hS, atI_ints k0 hj, _, rfl, ?_⟩
      have hc : 0 ≤ (if ns[k.toNat] < 0 then -ns[k.toNat] else ns[k.toNat]) := by split <;> omega
      generalize (if ns[k.toNat] < 0 then -ns[k.toNat] else ns[k.toNat]) = cell at hc
    case' wayB =>
      refine ⟨_, rfl, a, _, rfl, .inl hS, _, _, rfl, rfl, _, rfl, ?_⟩
      rw [List.length_map]
      refine ite2 (fun c2 => ?wayC) (fun c2 => ?wayD)
    case' wayC =>
      have c' : (0 : Int) < (ns.length : Int) := of_decide_eq_true c2
      have r0 := Int.emod_nonneg k (show (ns.length : Int) ≠ 0 by omega)
      have r1 := Int.emod_lt_of_pos k c'
      have hj : (k % (ns.length : Int)).toNat < ns.length := by omega
      refine ⟨_, rfl, _, rfl, _, rfl, .inl ⟨_, rfl, _, rfl, a, _, rfl, .inl hS, _, _, rfl, rfl, (by rw [List.length_map]; exact c'), ?_⟩⟩
      rw [List.length_map]
      refine ⟨a, _, k % (ns.length : Int), .int ns[(k % (ns.length : Int)).toNat], rfl, rfl, hS, atI_ints r0 hj, _, rfl, .inl ⟨_, rfl, _, _, rfl, rfl, (by show (0 : Int) < 2147483629; decide), _, _, rfl, rfl, .inr (by constructor <;> decide), _, _, rfl, rfl, ?_⟩⟩
      generalize (if ns[(k % (ns.length : Int)).toNat] < 0 then -ns[(k % (ns.length : Int)).toNat] else ns[(k % (ns.length : Int)).toNat]) = z
      have z0 := Int.emod_nonneg z (by decide : (2147483629 : Int) ≠ 0)
      have hc : 0 ≤ 7411 * k + 29 + z % 2147483629 * 40093 := by omega
      generalize 7411 * k + 29 + z % 2147483629 * 40093 = cell at hc
    case' wayD =>
      have hc : 0 ≤ 7411 * k + 29 := by omega
      generalize 7411 * k + 29 = cell at hc
    all_goals (
      refine ⟨_, rfl, _, _, rfl, rfl, ⟨by decide, by decide, by decide⟩, _, _, rfl, rfl, _, rfl, ?_⟩
      have e1 := Int.emod_nonneg cell (by decide : (2147483629 : Int) ≠ 0)
      have e2 := Int.emod_lt_of_pos cell (by decide : (0 : Int) < 2147483629)
      have f1 := Int.emod_nonneg (cell % 2147483629 * 48271 + 20021 * k) (by decide : (2147483629 : Int) ≠ 0)
      have f2 := Int.emod_lt_of_pos (cell % 2147483629 * 48271 + 20021 * k) (by decide : (0 : Int) < 2147483629)
      refine ite2 (fun _ => ⟨_, rfl, ?_⟩) (fun _ => ?_)
      all_goals (
        refine ⟨_, rfl, .inl ⟨_, rfl, _, _, rfl, rfl, (by show (0 : Int) < 2147483629; decide), _, _, rfl, rfl, .inl (by constructor <;> omega), _, rfl, _, _, rfl, rfl, .inl (by constructor <;> decide), _, _, rfl, rfl, .inl ⟨_, rfl, _, _, rfl, rfl, (by show (0 : Int) < 2147483629; decide), _, _, rfl, rfl, (by show 2 ≤ sizeLine; decide), fun p hp => ?_⟩⟩⟩
        exact go p _ _ hp ⟨by omega, by omega, by omega⟩))
end
end V3

set_option Elab.async false
set_option linter.all false
set_option maxRecDepth 100000
/-! Rules of our own over the hand layer: an object made whose making may raise, within a try; str(o) by its own def; isinstance of a caught error with fields. -/
namespace V3
open PySem L2 PyProof.Rows
section
variable {X : Cx} {CX : CXT} {k : Nat} {f C : Addr} {fd : FuncData} {ps : List Str} {sp : Sp} {E : L2.St → XK} {x : Str} {p pos : Pos} {e : Expr} {es : List Expr} {t : TA} {dvs : List V} {ds : List Value}
theorem make_at {pins : List (Addr × Obj)} {σ : L2.St} {H : Hp} {s : Shared} {Q : VK}
    {us : List Value} {vs : List V} (M : Mk X.K C f)
    (F : FnOk X.prog X.w X.K X.mg X.base CX k f fd ps sp)
    (room : Room (k + 1) X.A) (bi : Binds X.K fd ps ds) (va : Vals dvs ds)
    (out : PassesAt CX X σ (E σ)) (I : Inv X pins σ H s) (r : Vals vs us)
    (h : ∀ y dy, H y = none → H dy = none → dy ≠ y →
      sp (.ref y :: (vs ++ dvs)) (upd (upd H dy (.own y)) y (.ins C dy []))
        (fun v H2 => v = .non ∧ Q (.ref y) H2) (E σ)) :
    wpAny (model X.prog X.w) X.A (call (.ref C) us) (EP X pins σ Q) X.xe s := by
  have want := h (s.heap.objs.size + 1) s.heap.objs.size
    (I.hok.fresh (Nat.le_succ _)) (I.hok.fresh (Nat.le_refl _))
    (Nat.ne_of_lt (Nat.lt_succ_self _))
  have J := Inv.made (C := C) I
  have rr : Vals (V.ref (s.heap.objs.size + 1) :: (vs ++ dvs))
      (Value.ref (s.heap.objs.size + 1) :: (us ++ ds)) := .cons rfl (r.append va)
  have len : (Value.ref (s.heap.objs.size + 1) :: us ++ ds).length = ps.length := by
    have q := rr.length
    rw [F.len _ _ _ _ want] at q
    exact q.symm
  have bound := bi _ (Value.ref (s.heap.objs.size + 1) :: us) J.kIn len
  have ran := F.run _ X.stack _ _ ⟨Value.ref (s.heap.objs.size + 1) :: us, []⟩
    (Value.ref (s.heap.objs.size + 1) :: (us ++ ds)) _ _ (E σ)
    (room.make C us []) (J.env0.make C us []) bound rr want
  refine wpAny_call (make_map (f := f) I.kIn M.makes M.init
    (beq_iff_eq.mp M.fn) (codeAny_mono ran fun res s' hq => ?_))
  match res, hq with
  | .error err, hq => exact out pins _ _ err s' J hq
  | .ok (.ret u), hq =>
    obtain ⟨v, H', I3, rv, ev, q3⟩ := J.after hq
    subst ev
    exact ⟨rv, ⟨V.ref (s.heap.objs.size + 1), H', I3, rfl, q3⟩⟩
  | .ok .next, hq => exact hq.elim
  | .ok .brk, hq => exact hq.elim
  | .ok .cont, hq => exact hq.elim
/-- C(e, ..) where what its making raises is wished for at the slots -/
def tMakeS (C : Addr) (sp : Sp) (dvs : List V) (E : L2.St → XK) (t : TA) : TE :=
  fun σ H Q => t σ H fun vs H1 => ∀ y dy, H1 y = none → H1 dy = none → dy ≠ y →
    sp (.ref y :: (vs ++ dvs)) (upd (upd H1 dy (.own y)) y (.ins C dy []))
      (fun v H2 => v = .non ∧ Q (.ref y) H2) (E σ)
theorem pe_makeS (M : Mk X.K C f) (F : FnOk X.prog X.w X.K X.mg X.base CX k f fd ps sp)
    (room : Room (k + 1) X.A) (hg : Gl X x) (hm : X.mg x = some (.ref C))
    (bi : Binds X.K fd ps ds) (va : Vals dvs ds) (out : ∀ σ, PassesAt CX X σ (E σ))
    (ha : PA X (e :: es) t) (hdb : (x == ("__debug__" : Str)) = false := by decide)
    (he : starEach (e :: es) X.env = (false, eval e X.env) :: starEach es X.env := by rfl)
    (hpl : (backTo pos (starEach es X.env)).any (·.1) = false := by rfl) :
    PE X (.Call (.Name x p) (e :: es) [] pos) (tMakeS C sp dvs E t) := by
  refine ⟨fun pins s σ H Q I h => wpAny_Call_Name_kw (ld_glob I hg hm ?_ hdb)⟩
  refine PySem.W.callWith_K (h₀ := X.base) I.ok.mod.kin M.kp ?_ he hpl
  exact thn (ha.run pos pins s σ H _ I h) fun us s1 ⟨vs, H1, I1, r, q⟩ =>
    ⟨I1.kIn, make_at M F room bi va (out σ) I1 r q⟩
end
/-! str(o), o of an own class with its own __str__ -/
section
variable {X : Cx} {CX : CXT} {n : Nat} {f C : Addr} {fd : FuncData} {ps : List Str} {sp : Sp} {E : XK}
theorem room2 {A : Around} (r : Room (n + 2) A) : Room n A.in1.in1 := Room.in1 (k := n) (Room.in1 (k := n + 1) r)
def rStrO (C : Addr) (sp : Sp) (E : XK) : List V → Hp → VK → Prop := fun xs H Q =>
  ∃ a dx fs, xs = [.ref a] ∧ H a = some (.ins C dx fs) ∧
    sp [.ref a] H (fun v H' => ∃ y : Str, v = .str y ∧ Q (.str y) H') E
theorem call_strO (F : FnOk X.prog X.w X.K X.mg X.base CX n f fd ps sp)
    (at_ : PySem.W.findIn X.K (.ref C) "__str__" = some (some (.ref f)))
    (isf : PySem.W.isFn X.K (.ref f) = true) (bi : Binds X.K fd ps [])
    (out : Passes CX X E) (room : Room (n + 2) X.A) : CallR X (.type "str") (rStrO C sp E) := by
  intro pins s σ H xs us Q I r h
  obtain ⟨a, dx, fs, rfl, ha, want⟩ := h
  cases r with
  | cons r1 rn =>
    cases rn
    cases r1
    obtain ⟨mA, O, _⟩ := ins_get I.hok ha
    obtain ⟨od, J, _⟩ := O.look
    have rr := room2 room
    refine PySem.W.kso_call rr.units0 I.kIn J at_ isf ?_
    have e0 : Env0 X.prog X.w X.K X.mg X.base X.A.in1.in1 X.stack s H := I.env0.in1.in1
    have len := F.len _ _ _ _ want
    have bound : BindsTo s fd ⟨[.ref a], []⟩ (ps.zip [Value.ref a]) := by
      have b := bi s [.ref a] I.kIn (by simpa using len)
      simpa using b
    have ran := F.run X.A.in1.in1 X.stack s H ⟨[.ref a], []⟩ [.ref a] [.ref a] _ E rr e0 bound (.cons rfl .nil) want
    refine wpAny_call (codeAny_mono ran fun res s' hq => ?_)
    match res, hq with
    | .error err, hq => exact out pins σ H s err s' I hq
    | .ok (.ret u), hq =>
      obtain ⟨v, H', I', rv, y, ev, q⟩ := I.after hq
      subst ev
      obtain ⟨t, rfl⟩ := rv
      exact ⟨.str y, H', I', ⟨t, rfl⟩, q⟩
    | .ok .next, hq => exact hq.elim
    | .ok .brk, hq => exact hq.elim
    | .ok .cont, hq => exact hq.elim
end
/-! isinstance(e, c), isinstance(e, (c, ..)), e the error that the suite holds -/
structure XClass (K : PySem.W.Frag) (D : Addr) : Prop where
  is : (PySem.W.clsIn K D).isSome = true
  ga : PySem.W.findIn K (.ref D) "__getattribute__" = some (some (.builtin "BaseException.__getattribute__"))
  gt : PySem.W.findIn K (.ref D) "__getattr__" = some none
  sb : PySem.W.subIn K (.ref D) (.type "BaseException") = some true
  ca : PySem.W.findIn K (.ref D) "__class__" = some (some (.builtin "object.__class__"))
  gn : PySem.W.specialIn K (.builtin "object.__class__") "__get__" = some (some (.builtin "getset_descriptor.__get__"))
  tk : PySem.W.takesIn K (.builtin "object.__class__") = some true
  mo : PySem.W.mroIn K D (.type "object") = some true
section
variable {X : Cx} {a D : Addr} {oe : Obj} {pn : List (Addr × Obj)} {d : Option Addr}
theorem held_at {pins : List (Addr × Obj)} {σ : L2.St} {H : Hp} {s : Shared} {dd : Addr} {fs : List (Str × V)}
    (hz : Zc (.ref D) (some dd) oe) (hf : ∃ vs, oe.data = .fields vs)
    (I : Inv (X.suite a ((a, oe) :: pn)) pins σ H s) (hd : H dd = some (.xd fs)) :
    ∃ od : Obj, PySem.W.InstAt s.heap a oe D (some od) := by
  obtain ⟨ha, _⟩ := I.pin (a, oe) (List.mem_append_left _ List.mem_cons_self)
  obtain ⟨vs, hv⟩ := hf
  have hx : ObjOk X.prog X.w H s.heap dd (.xd fs) := I.hok dd _ hd
  obtain ⟨mA, hns, _⟩ := hx
  obtain ⟨od, ho, _⟩ := lookIn_ns hns
  exact ⟨od, ha, hz.1, by unfold PySem.W.notCls; rw [hv] <;> rfl, by rw [hz.2]; exact ho⟩
def rIsX (K : PySem.W.Frag) (D a : Addr) (cls : Value) (d : Option Addr) : List V → Hp → VK → Prop := fun xs H Q =>
  ∃ (dd : Addr) (fs : List (Str × V)) (c : V) (u : Value) (b : Bool), cls = .ref D ∧ d = some dd ∧ H dd = some (.xd fs) ∧
    xs = [.ref a, c] ∧ ClsV c u ∧ PySem.W.kitOne K (.ref D) u = some b ∧ Q (.bl b) H
theorem call_isX {cls : Value} (T : XClass X.K D) (hz : Zc cls d oe) (hf : ∃ vs, oe.data = .fields vs) :
    CallR (X.suite a ((a, oe) :: pn)) (.builtin "isinstance") (rIsX X.K D a cls d) := by
  intro pins s σ H xs us Q I r h
  obtain ⟨dd, fs, c, u, b, rfl, rfl, hd, rfl, k, e, q⟩ := h
  obtain ⟨u1, u2, rfl, r1, r2⟩ := vals2 r
  cases (show u1 = Value.ref a from r1)
  have e2 := k.eq r2
  subst e2
  obtain ⟨od, J⟩ := held_at hz hf I hd
  exact PySem.W.kia_one (PySem.W.kitx_exc T.is T.ga T.gt T.sb T.ca T.gn T.tk T.mo) I.kIn J e (fun z => nomatch z)
    fun tk => ⟨.bl b, H, I.tok tk, rfl, q⟩
def rIsXT (K : PySem.W.Frag) (D a : Addr) (cls : Value) (d : Option Addr) : List V → Hp → VK → Prop := fun xs H Q =>
  ∃ (dd : Addr) (fs : List (Str × V)) (tp : Addr) (cs : List V) (us : List Value) (b : Bool), cls = .ref D ∧ d = some dd ∧ H dd = some (.xd fs) ∧
    xs = [.ref a, .ref tp] ∧ H tp = some (.tup cs) ∧ Paired ClsV cs us ∧ PySem.W.kitAny K (.ref D) us = some b ∧ Q (.bl b) H
theorem call_isXT {cls : Value} (T : XClass X.K D) (hz : Zc cls d oe) (hf : ∃ vs, oe.data = .fields vs) :
    CallR (X.suite a ((a, oe) :: pn)) (.builtin "isinstance") (rIsXT X.K D a cls d) := by
  intro pins s σ H xs us Q I r h
  obtain ⟨dd, fs, tp, cs, ws, b, rfl, rfl, hd, rfl, hT, k, e, q⟩ := h
  obtain ⟨u1, u2, rfl, r1, r2⟩ := vals2 r
  cases (show u1 = Value.ref a from r1)
  cases (show u2 = Value.ref tp from r2)
  obtain ⟨od, J⟩ := held_at hz hf I hd
  have okT : ObjOk X.prog X.w H s.heap tp (.tup cs) := I.hok tp _ hT
  obtain ⟨_, items, vals, ob, got, isT, m, dat⟩ := okT
  have same := ClsV.all k vals
  subst same
  obtain ⟨c0, d0, dt0, s0⟩ := ob
  simp only at isT dat
  subst isT dat
  exact PySem.W.kia_tup (PySem.W.kitx_exc T.is T.ga T.gt T.sb T.ca T.gn T.tk T.mo) I.kIn J got e (fun z => nomatch z)
    fun tk => ⟨.bl b, H, I.tok tk, rfl, q⟩
end
end V3

set_option Elab.async false
set_option linter.all false
set_option maxRecDepth 100000
/-! Further rules of our own: C() without an own __init__, len(o) by an own __len__, repr of small values, a list against the empty one. -/
namespace V3
open PySem L2 PyProof.Rows
section
variable {X : Cx} {C : Addr} {x : Str} {p pos : Pos}
/-- what a class without an own __init__ must have to be made -/
structure Mk0 (K : PySem.W.Frag) (C : Addr) : Prop where
  makes : PySem.W.makesIn K C = true
  ini : PySem.W.findIn K (.ref C) "__init__" = some (some (.builtin "object.__init__"))
  kp : PySem.W.keepIn K (.ref C) = true
def tNew (C : Addr) : TE := fun σ H Q => ∀ y dy, H y = none → H dy = none → dy ≠ y → Q (.ref y) (upd (upd H dy (.own y)) y (.ins C dy []))
theorem pe_new0 (M : Mk0 X.K C) (hg : Gl X x) (hm : X.mg x = some (.ref C)) (hdb : (x == ("__debug__" : Str)) = false := by decide) :
    PE X (.Call (.Name x p) [] [] pos) (tNew C) := by
  refine ⟨fun pins s σ H Q I h => wpAny_Call_Name_kw (ld_glob I hg hm ?_ hdb)⟩
  refine PySem.W.callWith_K0 I.kIn M.kp ?_
  have J := Inv.made (C := C) I
  have want := h (s.heap.objs.size + 1) s.heap.objs.size (I.hok.fresh (Nat.le_succ _)) (I.hok.fresh (Nat.le_refl _)) (Nat.ne_of_lt (Nat.lt_succ_self _))
  show wpAny _ _ (call (.ref C) []) _ _ _
  have KX := I.kIn
  refine wpAny_call (make_map0 KX M.makes M.ini (fun self => PySem.W.Looks.of_pure (PySem.W.oi_bind self)) ?_)
  have Y := PySem.W.makes_of (M := model X.prog X.w) KX M.makes
  obtain ⟨hh, g, d, t, os⟩ := s
  have own : ((hh.push PySem.W.emptyDict).push (PySem.W.instObj C hh.objs.size)).get? (hh.objs.size + 1) = some (PySem.W.instObj C hh.objs.size) := by heap_get
  have ty : PySem.W.Looks (model X.prog X.w) ((hh.push PySem.W.emptyDict).push (PySem.W.instObj C hh.objs.size)) (typeOf (.ref (hh.objs.size + 1))) (.ref C) :=
    (PySem.W.Looks.ld own).andThen .now
  have sub : PySem.W.Looks (model X.prog X.w) ((hh.push PySem.W.emptyDict).push (PySem.W.instObj C hh.objs.size)) (isInstance (.ref (hh.objs.size + 1)) (.type "object")) true := ty.andThen (Y.top.keeps fun b o e => Heap.get?_push_of_some _ (Heap.get?_push_of_some _ e))
  refine codeAny_call_builtin PySem.W.oi_plain PySem.W.entry_oi
    (@PySem.W.check_slot (model X.prog X.w) _ _ _ "object.__init__" "object" "__init__" (.ref (hh.objs.size + 1)) [] [] _
      PySem.W.oi_kind PySem.W.oi_split sub (PySem.W.oi_args (.ref (hh.objs.size + 1))) ?_)
  rw [PySem.W.oi_run]
  exact wpAny_pure (And.intro rfl ⟨V.ref (hh.objs.size + 1), _, J, rfl, want⟩)
end
section
variable {X : Cx} {CX : CXT} {n : Nat} {f C : Addr} {fd : FuncData} {ps : List Str} {sp : Sp} {E : XK}
/-- len(o), o of a class with its own __len__ -/
def rLenO (C : Addr) (sp : Sp) (E : XK) : List V → Hp → VK → Prop := fun xs H Q =>
  ∃ a dx fs, xs = [.ref a] ∧ H a = some (.ins C dx fs) ∧ sp [.ref a] H (fun v H' => ∃ i : Int, v = .int i ∧ (0 ≤ i ∧ i < 2 ^ 63) ∧ Q (.int i) H') E
theorem call_lenO (F : FnOk X.prog X.w X.K X.mg X.base CX n f fd ps sp) (at_ : PySem.W.findIn X.K (.ref C) "__len__" = some (some (.ref f)))
    (isf : PySem.W.isFn X.K (.ref f) = true) (bi : Binds X.K fd ps []) (out : Passes CX X E) (room : Room (n + 1) X.A) : CallR X (.builtin "len") (rLenO C sp E) := by
  intro pins s σ H xs us Q I r h
  obtain ⟨a, dx, fs, rfl, ha, want⟩ := h
  cases r with
  | cons r1 rn =>
    cases rn
    cases r1
    obtain ⟨mA, O, _⟩ := ins_get I.hok ha
    obtain ⟨od, J, _⟩ := O.look
    obtain ⟨m, hF⟩ := I.fr
    have rr : Room n X.A.in1 := Room.in1 (k := n) room
    refine PySem.W.len_K hF I.ok.mod.kin J at_ isf ?_
    have e0 : Env0 X.prog X.w X.K X.mg X.base X.A.in1 X.stack s H := I.env0.in1
    have len := F.len _ _ _ _ want
    have bound : BindsTo s fd ⟨[.ref a], []⟩ (ps.zip [Value.ref a]) := by
      have b := bi s [.ref a] I.kIn (by simpa using len)
      simpa using b
    have ran := F.run X.A.in1 X.stack s H ⟨[.ref a], []⟩ [.ref a] [.ref a] _ E rr e0 bound (.cons rfl .nil) want
    refine wpAny_call (codeAny_mono ran fun res s' hq => ?_)
    match res, hq with
    | .error err, hq => exact out pins σ H s err s' I hq
    | .ok (.ret u), hq =>
      obtain ⟨v, H', I', rv, i, ev, hi, q⟩ := I.after hq
      subst ev
      obtain ⟨t, rfl⟩ := rv
      exact ⟨hi, .int i, H', I'.tok _, ⟨_, rfl⟩, q⟩
    | .ok .next, hq => exact hq.elim
    | .ok .brk, hq => exact hq.elim
    | .ok .cont, hq => exact hq.elim
end
section
variable {X : Cx}
theorem call_repr_str : CallR X (.builtin "repr") (fun xs H Q => ∃ z : Str, xs = [.str z] ∧ (reprText z).length ≤ sizeLine ∧ Q (.str (reprText z)) H) := by
  intro pins s σ H xs us Q I r h
  obtain ⟨z, rfl, hz, q⟩ := h
  obtain ⟨u, rfl, t, rfl⟩ := vals1 r
  exact PySem.P.repr_of_str ⟨.str _, H, I.tok _, ⟨_, rfl⟩, q⟩ hz
/-- an int or a text -/
def rRepr : List V → Hp → VK → Prop := fun xs H Q => (∃ i : Int, xs = [.int i] ∧ i.natAbs.log2 < 1920 ∧ Q (.str (toString i)) H) ∨
  (∃ z : Str, xs = [.str z] ∧ (reprText z).length ≤ sizeLine ∧ Q (.str (reprText z)) H)
theorem call_reprIS : CallR X (.builtin "repr") rRepr := by
  intro pins s σ H xs us Q I r h
  rcases h with h | h
  · exact SkE.call_repr_int pins s σ H xs us Q I r h
  · exact call_repr_str pins s σ H xs us Q I r h
/-- xs != [] -/
def rNeE : R2 := fun x y H Q => ∃ l b xs, x = .ref l ∧ y = .ref b ∧ H l = some (.lst xs) ∧ H b = some (.lst []) ∧ Q (.bl (!xs.isEmpty)) H
theorem op_neE (hu : X.A.units < cLine) : OpR X (compareOp .NotEq) rNeE := by
  intro pins s σ H x y v u Q I rx ry h
  obtain ⟨l, b, xs, rfl, rfl, hl, hb, q⟩ := h
  cases rx
  cases ry
  obtain ⟨z, its, k, r, e⟩ := I.hok l _ hl
  obtain ⟨z2, its2, k2, r2, e2⟩ := I.hok b _ hb
  cases r2
  have L1 : s.heap.IsList l its.toArray := ⟨_, e, rfl, k, rfl⟩
  have L2' : s.heap.IsList b ([] : List Value).toArray := ⟨_, e2, rfl, k2, rfl⟩
  refine PySem.W.cmp_ofNotEq ?_
  cases r with
  | nil =>
    have c := PySem.SeqAt.RcNeAt.lists (e := fun _ => true) L1 L2' rfl hu (fun j h1 _ => absurd h1 (Nat.not_lt_zero _))
    exact c X.prog X.w X.xe _ ⟨.bl false, H, I, rfl, q⟩
  | @cons x0 u0 xs0 us0 r0 rr =>
    have c := PySem.SeqAt.RcNeAt.lists_lengths L1 L2' (by simp) hu
    exact c X.prog X.w X.xe _ ⟨.bl true, H, I, rfl, q⟩
end
end V3

set_option Elab.async false
set_option linter.all false
set_option maxRecDepth 100000
/-! Further rules of our own: xs[a:b:k]; a class that stands in a local name, called. -/
namespace V3
open PySem PySem.Spec PyProof.Rows L2
/-- the items of xs[lo:hi:st] -/
def stepV (xs : List V) (lo hi st : Option Int) : List V :=
  (sliceRange (sliceBounds lo hi st xs.length).1 (sliceBounds lo hi st xs.length).2.1 (sliceBounds lo hi st xs.length).2.2).filterMap (fun i => xs[i]?)
theorem vals_pick {xs : List V} {us : List Value} (r : Vals xs us) : ∀ idx : List Nat, Vals (idx.filterMap (fun i => xs[i]?)) (idx.filterMap (fun i => us.toArray[i]?))
  | [] => .nil
  | i :: idx => by
    have ih := vals_pick r idx
    rw [List.filterMap_cons, List.filterMap_cons]
    cases e : xs[i]? with
    | none =>
      have e2 : us.toArray[i]? = none := by
        rw [List.getElem?_toArray]
        exact r.none_of e
      rw [e2]
      exact ih
    | some x =>
      obtain ⟨u, hu, ru⟩ := r.get e
      have e2 : us.toArray[i]? = some u := by
        rw [List.getElem?_toArray]
        exact hu
      rw [e2]
      exact .cons ru ih
section
variable {X : Cx} {e : Expr} {te : TE} {lo hi st : Option Expr} {tl th ts : TO} {p2 pos : Pos}
def tStep (K : PySem.W.Frag) (te : TE) (tl th ts : TO) : TE := fun σ H Q => te σ H fun x H1 => tl σ H1 fun l H2 => th σ H2 fun u H3 => ts σ H3 fun k H4 =>
  ∃ a xs, x = .ref a ∧ SqL K H4 a xs ∧ k ≠ some 0 ∧ (stepV xs l u k).length ≤ sizeLine ∧ ∀ p, H4 p = none → Q (.ref p) (upd H4 p (.lst (stepV xs l u k)))
theorem pe_step (he : PE X e te) (hl : PO X lo tl) (hu : PO X hi th) (hk : PO X st ts)
    (hop : ∀ (o : Value) (n : Addr), subscripted (.Slice lo hi st p2) false o (.ref n) = operate [o, .ref n] (getItem o (.ref n)) := by intro _ _; with_unfolding_all rfl) :
    PE X (.Subscript e (.Slice lo hi st p2) pos) (tStep X.K te tl th ts) := by
  refine ⟨fun pins s σ H Q I h => ?_⟩
  refine Subscript_ (thn (he.run pins s σ H _ I h) fun v s1 ⟨x, H1, I1, r1, q1⟩ => ?_)
  refine wpAny_Slice (thn (hl.run pins s1 σ H1 _ I1 q1) fun vl s2 ⟨l, H2, I2, pl, q2⟩ =>
    thn (hu.run pins s2 σ H2 _ I2 q2) fun vu s3 ⟨u, H3, I3, pu, q3⟩ =>
    thn (hk.run pins s3 σ H3 _ I3 q3) fun vk s4 ⟨k, H4, I4, pk, q4⟩ => ?_)
  obtain ⟨a, xs, rfl, hx, hk0, hsz, q⟩ := q4
  have J : Inv X pins σ H4 { s4 with heap := s4.heap.push { cls := .type "slice", data := .fields #[vl, vu, vk] } } := I4.kept (t' := s4.toks) fun b ob q => Heap.get?_push_of_some _ q
  cases r1
  obtain ⟨its, r, ht, hz⟩ := J.list hx
  have hlen := r.length
  have got : wpAny (model X.prog X.w) X.A (getItem (.ref a) (.ref s4.heap.objs.size)) (EP X pins σ Q) X.xe { s4 with heap := s4.heap.push { cls := .type "slice", data := .fields #[vl, vu, vk] } } := by
    refine wpAny_getItem_list_slice ht.isList (Heap.IsSliceOf.new ..) pl pu pk hk0 ?_ (by rw [List.size_toArray] <;> omega)
    have e : slicePick its.toArray l u k = ((sliceRange (sliceBounds l u k xs.length).1 (sliceBounds l u k xs.length).2.1 (sliceBounds l u k xs.length).2.2).filterMap (fun i => its.toArray[i]?)).toArray := by
      unfold slicePick
      rw [List.size_toArray, ← hlen]
    rw [e]
    refine ⟨.ref (s4.heap.push _).objs.size, _, J.laid (t' := s4.toks) (o := .lst (stepV xs l u k)) (fun b ob q => Heap.get?_push_of_some _ q) (Nat.le_refl _) ?_, rfl, q _ (J.hok.fresh (Nat.le_refl _))⟩
    exact ⟨hsz, _, 0, vals_pick r _, Heap.get?_push_size _ rfl⟩
  show wpAny (model X.prog X.w) X.A (subscriptTail e (.Slice lo hi st p2) (.ref a) (.ref s4.heap.objs.size)) (EP X pins σ Q) X.xe { s4 with heap := s4.heap.push { cls := .type "slice", data := .fields #[vl, vu, vk] } }
  exact tail_any (ops := [.ref a, .ref s4.heap.objs.size]) ht.isList.typeIs slot_list_getitem.lookup got (hop _ _)
end
section
variable {X : Cx} {CX : CXT} {k i : Nat} {f C : Addr} {fd : FuncData} {ps : List Str} {sp : Sp} {E : XK} {x : Str} {p pos : Pos} {e : Expr} {es : List Expr} {t : TA} {dvs : List V} {ds : List Value}
/-- c(e, ..), c a local name that holds the class at C -/
def tMakeL (i : Nat) (C : Addr) (sp : Sp) (dvs : List V) (E : XK) (t : TA) : TE := fun σ H Q => σ[i]? = some (some (.ref C)) ∧ tMake C sp dvs E t σ H Q
theorem pe_makeL (M : Mk X.K C f) (F : FnOk X.prog X.w X.K X.mg X.base CX k f fd ps sp) (room : Room (k + 1) X.A) (hN : X.N[i]? = some x) (hv : Vis X.env.scope x)
    (bi : Binds X.K fd ps ds) (va : Vals dvs ds) (out : Passes CX X E) (ha : PA X (e :: es) t)
    (hdb : (x == ("__debug__" : Str)) = false := by decide) (hcd : (x == ("__classdict__" : Str)) = false := by decide)
    (he : starEach (e :: es) X.env = (false, eval e X.env) :: starEach es X.env := by rfl) (hpl : (backTo pos (starEach es X.env)).any (·.1) = false := by rfl) :
    PE X (.Call (.Name x p) (e :: es) [] pos) (tMakeL i C sp dvs E t) := by
  refine ⟨fun pins s σ H Q I h => ?_⟩
  obtain ⟨at_, want⟩ := h
  refine wpAny_Call_Name_kw (thn ((pe_var (pos := p) hN hv hdb hcd).run pins s σ H (fun v H1 => v = .ref C ∧ H1 = H) I ⟨.ref C, at_, rfl, rfl⟩) fun u s1 ⟨v, H1, I1, r1, q1⟩ => ?_)
  obtain ⟨rfl, rfl⟩ := q1
  cases r1
  refine PySem.W.callWith_K (h₀ := X.base) I.ok.mod.kin M.kp ?_ he hpl
  exact thn (ha.run pos pins s1 σ _ _ I1 want) fun us s2 ⟨vs, H2, I2, r, q⟩ => ⟨I2.kIn, run_make M F room bi va out I2 r q⟩
end
end V3

set_option Elab.async false
set_option linter.all false
set_option maxRecDepth 100000
/-! == and != of objects of our own classes, by their own __eq__, whatever it answers. -/
namespace V3
open PySem PySem.Spec PyProof.Rows L2
section
variable {prog : Program} {w : World} {A : Around} {E : Value → Shared → Prop} {s : Shared} {K : PySem.W.Frag} {x C L f : Addr} {h₀ : Heap} {m : Str → Option Value} {ox : Obj} {od : Option Obj} {name : Str} {b tb : Value}
theorem ifBound_B {M : Model} {args : List Value} {id : String} {Q : Option Value → Shared → Prop} (X : K.In s.heap) (I : PySem.W.InstAt s.heap x ox C od) (hs : PySem.W.findIn K (.ref C) name = some (some (.builtin id)))
    (hb : ∀ self, bindSpecial (.builtin id) self = pure (.builtin id, [self]))
    (h : wpAny M A (call (.builtin id) (.ref x :: args)) (fun v => Q (some v)) E s) : wpAny M A (callSpecialIfBound? (.ref x) name args) Q E s := by
  simp only [callSpecialIfBound?, bindSpecialIfBound?]
  refine wpAny_holding (wpAny_bind (wpAny_bind (wpAny_bind (I.type.here ((PySem.W.looks_findIn X hs).here ?_)))))
  simp only [hb]
  refine wpAny_bind (wpAny_askSetting (wpAny_ite ?_))
  have fin : wpAny M A (call (.builtin id) ([.ref x] ++ args) >>= fun v => pure (some v)) Q E s := wpAny_bind (wpAny_mono h (fun v s' h' => wpAny_pure h') fun _ _ h' => h')
  split
  · exact wpAny_bind (wpAny_pure (wpAny_pure fin))
  · exact wpAny_tryCatch (wpAny_bind (wpAny_pure (wpAny_pure fin)))
theorem ne_entry {Q : Fin → Shared → Prop} (hu : A.units < cLine) (X : K.In s.heap) (I : PySem.W.InstAt s.heap x ox C od) (hs : PySem.W.findIn K (.ref C) "__eq__" = some (some (.ref f))) (hf : PySem.W.isFn K (.ref f) = true)
    (h : wpAny (model prog w) A (call (.ref f) [.ref x, b]) (fun v s' => ∃ r, v = .bool r ∧ Q (.done (.ret (.bool (!r)))) s') E s) :
    wpAny (model prog w) A (Builtin.«object.__ne__» ⟨[.ref x, b], []⟩) Q E s := by
  unfold Builtin.«object.__ne__»
  repeat (first | with_reducible refine wpAny_cRoomFor hu ?_ | with_reducible refine wpAny_bind (PySem.W.ifBound_K X I hs hf (wpAny_mono h (fun v s' hv => ?_) fun _ _ e => e)) | wp_step)
  obtain ⟨r, rfl, q⟩ := hv
  repeat wp_step
  exact q
theorem ne_K {Q : Value → Shared → Prop} (hu : A.units + 1 < cLine) (F : PyProof.Rows.Fr h₀ L s.heap m) (X₀ : K.In h₀) (I : PySem.W.InstAt s.heap x ox C od) (hb : PySem.W.Looks (model prog w) s.heap (typeOf b) tb) (hn : PySem.W.notFirst K C tb = true)
    (hs : PySem.W.findIn K (.ref C) "__eq__" = some (some (.ref f))) (hf : PySem.W.isFn K (.ref f) = true)
    (hne : PySem.W.findIn K (.ref C) "__ne__" = some (some (.builtin "object.__ne__"))) (hob : PySem.W.subIn K (.ref C) (.type "object") = some true)
    (h : wpAny (model prog w) A.in1 (call (.ref f) [.ref x, b]) (fun v s' => ∃ r, v = .bool r ∧ Q (.bool (!r)) s') E s) : wpAny (model prog w) A (richCompare .NotEq (.ref x) b) Q E s := by
  have X := X₀.keeps F.keep
  have hu0 : A.units < cLine := Nat.lt_of_succ_lt hu
  have one : wpAny (model prog w) A (tryCompare (.ref x) "__ne__" b) (fun r s' => ∃ v, r = some v ∧ Q v s') E s := by
    unfold tryCompare
    refine wpAny_bind (ifBound_B X I hne (fun self => PySem.F.cmp_object.ne.bind self) ?_)
    refine wpAny_call (codeAny_call_builtin PySem.F.cmp_object.ne.plain PySem.F.cmpEntry_ne (PySem.W.check_slot PySem.F.cmpKind_ne PySem.F.cmpSplit_ne (I.type.andThen (PySem.W.looks_subIn X hob)) (PySem.F.cmpArgs_ne _ _) (ne_entry (A := A.in1) hu X I hs hf ?_)))
    refine wpAny_mono h (fun v s' hv => ?_) fun _ _ e => e
    obtain ⟨r, rfl, q⟩ := hv
    exact ⟨r, rfl, wpAny_pure ⟨_, rfl, q⟩⟩
  unfold richCompare
  simp only [oneThing_ref]
  refine wpAny_holding (wpAny_bind (wpAny_cRoomFor hu0 ?_))
  refine wpAny_bind (I.type.here (wpAny_bind (hb.here ?_)))
  split
  · rename_i q
    have e : PySem.W.subIn K tb (.ref C) = some false := by
      rcases Bool.or_eq_true_iff.mp hn with e | e
      · rw [beq_iff_eq.mp e] at q; simp at q
      · exact beq_iff_eq.mp e
    refine wpAny_bind ((PySem.W.looks_subIn X e).here ?_)
    simp only [Bool.false_eq_true, if_false]
    refine wpAny_bind (wpAny_mono one (fun r s' z => ?_) fun _ _ e => e)
    obtain ⟨v, rfl, hq⟩ := z
    exact wpAny_pure hq
  · refine wpAny_bind (wpAny_pure ?_)
    simp only [Bool.false_eq_true, if_false]
    refine wpAny_bind (wpAny_mono one (fun r s' z => ?_) fun _ _ e => e)
    obtain ⟨v, rfl, hq⟩ := z
    exact wpAny_pure hq
end
/-- a class with an own __eq__ at f and the __ne__ of object -/
structure EqCls (K : PySem.W.Frag) (C f : Addr) : Prop where
  eq : PySem.W.findIn K (.ref C) "__eq__" = some (some (.ref f))
  fn : PySem.W.isFn K (.ref f) = true
  ne : PySem.W.findIn K (.ref C) "__ne__" = some (some (.builtin "object.__ne__"))
  ob : PySem.W.subIn K (.ref C) (.type "object") = some true
section
variable {X : Cx} {CX : CXT} {n : Nat} {f C D : Addr} {fd : FuncData} {ps : List Str} {sp : Sp} {E : XK}
/-- f called at a pair, somewhere below the running body -/
theorem run_own {A : Around} {pins : List (Addr × Obj)} {s : Shared} {σ : L2.St} {H : Hp} {x y : V} {u v : Value} {Q : VK} (sb : Sub X n A) (F : FnOk X.prog X.w X.K X.mg X.base CX n f fd ps sp) (hb : Binds X.K fd ps []) (hx : Passes CX X E)
    (I : Inv X pins σ H s) (rx : RelV x u) (ry : RelV y v) (h : sp [x, y] H Q E) : wpAny (model X.prog X.w) A (call (.ref f) [u, v]) (EP X pins σ Q) X.xe s := by
  have e0 : Env0 X.prog X.w X.K X.mg X.base A X.stack s H := by
    have e := I.env0
    exact ⟨by rw [sb.fr]; exact e.frames, e.mod, e.bs, e.bsz, e.funs, e.frf, e.hok, e.bare⟩
  have hl := F.len _ _ _ _ h
  have r2 : Vals [x, y] [u, v] := .cons rx (.cons ry .nil)
  refine wpAny_call (codeAny_mono (F.run A X.stack s H ⟨[u, v], []⟩ [u, v] [x, y] _ E sb.room e0 (by
    have := hb s [u, v] I.kIn (by simpa using hl)
    simpa using this) r2 h) fun r s' hq => ?_)
  cases r with
  | error e => exact hx pins σ H s e s' I hq
  | ok fl =>
    cases fl with
    | ret w =>
      obtain ⟨z, H', I', rz, q⟩ := I.after hq
      exact ⟨z, H', I', rz, q⟩
    | next => exact False.elim hq
    | brk => exact False.elim hq
    | cont => exact False.elim hq
/-- x == y, x an object whose class has the own __eq__ -/
def rEqO (K : PySem.W.Frag) (n : Nat) (FF : Addr → Sp → XK → Prop) (neg : Bool) : R2 := fun x y H Q => ∃ (a C dx : Addr) (fs : List (Str × V)) (b D dy : Addr) (gs : List (Str × V)) (sp : Sp) (E : XK), x = .ref a ∧ y = .ref b ∧ H a = some (.ins C dx fs) ∧ H b = some (.ins D dy gs) ∧
  FF C sp E ∧ PySem.W.notFirst K C (.ref D) = true ∧ sp [x, y] H (fun v H' => ∃ r : Bool, v = .bl r ∧ Q (.bl (r != neg)) H') E
theorem op_eqO {FF : Addr → Sp → XK → Prop} (hF : ∀ C sp E, FF C sp E → ∃ (CX : CXT) (f : Addr) (fd : FuncData) (ps : List Str), FnOk X.prog X.w X.K X.mg X.base CX n f fd ps sp ∧ EqCls X.K C f ∧ Binds X.K fd ps [] ∧ Passes CX X E) (hr : Room n X.A) :
    OpR X (compareOp .Eq) (rEqO X.K n FF false) := by
  intro pins s σ H x y v u Q I rx ry hq
  obtain ⟨a, C, dx, fs, b, D, dy, gs, sp, E, rfl, rfl, ha, hb, ff, hn, hsp⟩ := hq
  obtain ⟨CX, f, fd, ps, F, ec, bi, hx⟩ := hF C sp E ff
  cases rx
  cases ry
  obtain ⟨mA, J, _⟩ := ins_get I.hok ha
  obtain ⟨mB, J', _⟩ := ins_get I.hok hb
  obtain ⟨od, J, _⟩ := J.look
  obtain ⟨od', J', _⟩ := J'.look
  obtain ⟨m, hF⟩ := I.fr
  show wpAny (model X.prog X.w) X.A (richCompare .Eq (.ref a) (.ref b)) (EP X pins σ Q) X.xe s
  refine PySem.W.cmp_K (op := .Eq) (tb := .ref D) hr.units0 hF I.ok.mod.kin J J'.type hn ec.eq ec.fn ?_
  refine wpAny_mono (run_own (x := .ref a) (y := .ref b) ⟨hr, rfl⟩ F bi hx I rfl rfl hsp) (fun w s' q => ?_) fun _ _ e => e
  obtain ⟨z, H', I', rz, r, ez, q⟩ := q
  subst ez
  cases rz
  refine ⟨.bl r, H', I', rfl, ?_⟩
  have e : (r != false) = r := by cases r <;> rfl
  rw [e] at q
  exact q
theorem op_neO {FF : Addr → Sp → XK → Prop} (hF : ∀ C sp E, FF C sp E → ∃ (CX : CXT) (f : Addr) (fd : FuncData) (ps : List Str), FnOk X.prog X.w X.K X.mg X.base CX n f fd ps sp ∧ EqCls X.K C f ∧ Binds X.K fd ps [] ∧ Passes CX X E) (hr : Room (n + 1) X.A) :
    OpR X (compareOp .NotEq) (rEqO X.K n FF true) := by
  intro pins s σ H x y v u Q I rx ry hq
  obtain ⟨a, C, dx, fs, b, D, dy, gs, sp, E, rfl, rfl, ha, hb, ff, hn, hsp⟩ := hq
  obtain ⟨CX, f, fd, ps, F, ec, bi, hx⟩ := hF C sp E ff
  cases rx
  cases ry
  obtain ⟨mA, J, _⟩ := ins_get I.hok ha
  obtain ⟨mB, J', _⟩ := ins_get I.hok hb
  obtain ⟨od, J, _⟩ := J.look
  obtain ⟨od', J', _⟩ := J'.look
  obtain ⟨m, hF⟩ := I.fr
  show wpAny (model X.prog X.w) X.A (richCompare .NotEq (.ref a) (.ref b)) (EP X pins σ Q) X.xe s
  refine ne_K (tb := .ref D) (by have := hr.units; omega) hF I.ok.mod.kin J J'.type hn ec.eq ec.fn ec.ne ec.ob ?_
  refine wpAny_mono (run_own (x := .ref a) (y := .ref b) (A := X.A.in1) ⟨hr.in1, rfl⟩ F bi hx I rfl rfl hsp) (fun w s' q => ?_) fun _ _ e => e
  obtain ⟨z, H', I', rz, r, ez, q⟩ := q
  subst ez
  cases rz
  refine ⟨r, rfl, .bl (!r), H', I', rfl, ?_⟩
  have e : (r != true) = !r := by cases r <;> rfl
  rw [e] at q
  exact q
end
end V3

set_option Elab.async false
set_option linter.all false
set_option maxRecDepth 100000
/-! x + y by an own __add__; x[i], x[a:b:c] by an own __getitem__. -/
namespace V3
open PySem PySem.Spec PyProof.Rows L2
section
variable {X : Cx} {n : Nat}
theorem vals_back {z : V} {u : Value} {Q : Value → Shared → Prop} {s' : Shared} (r : RelV z u) (q : Q u s') : PySem.W.CmpBack Q u s' := by
  cases z with
  | non => cases r; exact q
  | bl b => cases r; exact q
  | int i => obtain ⟨t, rfl⟩ := r; exact q
  | str i => obtain ⟨t, rfl⟩ := r; exact q
  | byt i => obtain ⟨t, rfl⟩ := r; exact q
  | flt i => obtain ⟨t, rfl⟩ := r; exact q
  | ref a => cases r; exact q
  | ty a => cases r; exact q
/-- a class with an own method at f for a binary operator -/
structure BinCls (K : PySem.W.Frag) (C f : Addr) (op : Operator) : Prop where
  sf : PySem.W.selfFirst K C = true
  at_ : PySem.W.findIn K (.ref C) (PySem.dunder op.info.2) = some (some (.ref f))
  fn : PySem.W.isFn K (.ref f) = true
/-- x op y, both of one class -/
def rBinS (FF : Addr → Sp → XK → Prop) : R2 := fun x y H Q => ∃ (a C dx : Addr) (fs : List (Str × V)) (b dy : Addr) (gs : List (Str × V)) (sp : Sp) (E : XK), x = .ref a ∧ y = .ref b ∧ H a = some (.ins C dx fs) ∧ H b = some (.ins C dy gs) ∧
  FF C sp E ∧ sp [x, y] H Q E
theorem op_binS {op : Operator} {FF : Addr → Sp → XK → Prop} (hF : ∀ C sp E, FF C sp E → ∃ (CX : CXT) (f : Addr) (fd : FuncData) (ps : List Str), FnOk X.prog X.w X.K X.mg X.base CX n f fd ps sp ∧ BinCls X.K C f op ∧ Binds X.K fd ps [] ∧ Passes CX X E) (hr : Room n X.A) :
    OpR X (binaryOp op) (rBinS FF) := by
  intro pins s σ H x y v u Q I rx ry hq
  obtain ⟨a, C, dx, fs, b, dy, gs, sp, E, rfl, rfl, ha, hb, ff, hsp⟩ := hq
  obtain ⟨CX, f, fd, ps, F, ec, bi, hx⟩ := hF C sp E ff
  cases rx
  cases ry
  obtain ⟨mA, J, _⟩ := ins_get I.hok ha
  obtain ⟨mB, J', _⟩ := ins_get I.hok hb
  obtain ⟨od, J, _⟩ := J.look
  obtain ⟨od', J', _⟩ := J'.look
  obtain ⟨m, hF⟩ := I.fr
  refine PySem.W.binop_K hF I.ok.mod.kin J J'.type ec.sf ec.at_ ec.fn ?_
  refine wpAny_mono (run_own (x := .ref a) (y := .ref b) ⟨hr, rfl⟩ F bi hx I rfl rfl hsp) (fun w s' q => ?_) fun _ _ e => e
  obtain ⟨z, H', I', rz, q⟩ := q
  exact vals_back rz ⟨z, H', I', rz, q⟩
/-- a class with an own __getitem__ at f -/
structure GetCls (K : PySem.W.Frag) (C f : Addr) : Prop where
  at_ : PySem.W.findIn K (.ref C) "__getitem__" = some (some (.ref f))
  fn : PySem.W.isFn K (.ref f) = true
  fi : PySem.W.fnIn K f = true
def rIxO (FF : Addr → Sp → XK → Prop) : R2 := fun x y H Q => ∃ (a C dx : Addr) (fs : List (Str × V)) (sp : Sp) (E : XK), x = .ref a ∧ H a = some (.ins C dx fs) ∧ FF C sp E ∧ sp [x, y] H Q E
/-- the call that x[i] makes -/
theorem sub_own {FF : Addr → Sp → XK → Prop} (hF : ∀ C sp E, FF C sp E → ∃ (CX : CXT) (f : Addr) (fd : FuncData) (ps : List Str), FnOk X.prog X.w X.K X.mg X.base CX n f fd ps sp ∧ GetCls X.K C f ∧ Binds X.K fd ps [] ∧ Passes CX X E) (hr : Room (n + 1) X.A)
    {value slice : Expr} {pins : List (Addr × Obj)} {s : Shared} {σ : L2.St} {H : Hp} {x y : V} {v u : Value} {Q : VK} (I : Inv X pins σ H s) (rx : RelV x v) (ry : RelV y u) (hq : rIxO FF x y H Q)
    (hsl : ∀ a : Addr, subscripted slice true (.ref a) u = runValue (.builtin "lifetime.subscript" ⟨[.ref a, u], []⟩)) : wpAny (model X.prog X.w) X.A (subscriptTail value slice v u) (EP X pins σ Q) X.xe s := by
  obtain ⟨a, C, dx, fs, sp, E, rfl, ha, ff, hsp⟩ := hq
  obtain ⟨CX, f, fd, ps, F, ec, bi, hx⟩ := hF C sp E ff
  cases rx
  obtain ⟨mA, J, _⟩ := ins_get I.hok ha
  obtain ⟨od, J, _⟩ := J.look
  obtain ⟨m, hF⟩ := I.fr
  refine PySem.W.sub_K hF I.ok.mod.kin J ec.at_ ec.fi ec.fn ?_ (hsl a)
  exact run_own (x := .ref a) (y := y) (A := X.A.in1) ⟨hr.in1, rfl⟩ F bi hx I rfl ry hsp
/-- x[i] -/
theorem pe_ixO {FF : Addr → Sp → XK → Prop} (hF : ∀ C sp E, FF C sp E → ∃ (CX : CXT) (f : Addr) (fd : FuncData) (ps : List Str), FnOk X.prog X.w X.K X.mg X.base CX n f fd ps sp ∧ GetCls X.K C f ∧ Binds X.K fd ps [] ∧ Passes CX X E) (hr : Room (n + 1) X.A)
    {a b : Expr} {ta tb : TE} {pos : Pos} (ha : PE X a ta) (hb : PE X b tb)
    (hsl : ∀ (o : Addr) (u : Value), subscripted b true (.ref o) u = runValue (.builtin "lifetime.subscript" ⟨[.ref o, u], []⟩) := by intro _ _; with_unfolding_all rfl) : PE X (.Subscript a b pos) (tOp (rIxO FF) ta tb) := by
  refine ⟨fun pins s σ H Q I h => ?_⟩
  exact Subscript_ (binT ha hb I h fun v u s2 x y H2 I2 rx ry q => sub_own hF hr I2 rx ry q fun o => hsl o u)
/-- a slice object -/
def SlH (p : Addr) (lo hi st : Option Int) : HO := .ext fun h => ∃ vl vu vk, h.IsSliceOf p vl vu vk ∧ IsPart vl lo ∧ IsPart vu hi ∧ IsPart vk st
def tSlO (FF : Addr → Sp → XK → Prop) (te : TE) (tl th ts : TO) : TE := fun σ H Q => te σ H fun x H1 => tl σ H1 fun l H2 => th σ H2 fun u H3 => ts σ H3 fun k H4 =>
  ∀ p, H4 p = none → rIxO FF x (.ref p) (upd H4 p (SlH p l u k)) Q
theorem po_no : PO X none tNoPart := ⟨fun pins s σ H Q I h => by
  rw [evalPart_none]
  exact wpAny_pure ⟨none, H, I, .none, h⟩⟩
/-- x[a:b:c] -/
theorem pe_slO {FF : Addr → Sp → XK → Prop} (hF : ∀ C sp E, FF C sp E → ∃ (CX : CXT) (f : Addr) (fd : FuncData) (ps : List Str), FnOk X.prog X.w X.K X.mg X.base CX n f fd ps sp ∧ GetCls X.K C f ∧ Binds X.K fd ps [] ∧ Passes CX X E) (hr : Room (n + 1) X.A)
    {e : Expr} {te : TE} {lo hi st : Option Expr} {tl th ts : TO} {p2 pos : Pos} (he : PE X e te) (hl : PO X lo tl) (hu : PO X hi th) (hk : PO X st ts)
    (hsl : ∀ (o : Addr) (u : Value), subscripted (.Slice lo hi st p2) true (.ref o) u = runValue (.builtin "lifetime.subscript" ⟨[.ref o, u], []⟩) := by intro _ _; with_unfolding_all rfl) :
    PE X (.Subscript e (.Slice lo hi st p2) pos) (tSlO FF te tl th ts) := by
  refine ⟨fun pins s σ H Q I h => ?_⟩
  refine Subscript_ (thn (he.run pins s σ H _ I h) fun v s1 ⟨x, H1, I1, r1, q1⟩ => ?_)
  refine wpAny_Slice (thn (hl.run pins s1 σ H1 _ I1 q1) fun vl s2 ⟨l, H2, I2, pl, q2⟩ =>
    thn (hu.run pins s2 σ H2 _ I2 q2) fun vu s3 ⟨u, H3, I3, pu, q3⟩ =>
    thn (hk.run pins s3 σ H3 _ I3 q3) fun vk s4 ⟨k, H4, I4, pk, q4⟩ => ?_)
  have J : Inv X pins σ (upd H4 s4.heap.objs.size (SlH s4.heap.objs.size l u k)) { s4 with heap := s4.heap.push { cls := .type "slice", data := .fields #[vl, vu, vk] } } :=
    I4.laid (t' := s4.toks) (o := SlH s4.heap.objs.size l u k) (fun b ob q => Heap.get?_push_of_some _ q) (Nat.le_refl _)
      ⟨⟨vl, vu, vk, Heap.IsSliceOf.new .., pl, pu, pk⟩, ⟨_, Heap.get?_push_size _ rfl⟩, fun h1 h2 ⟨a, b, c, ⟨o, ho, hc, hd⟩, p1, p2, p3⟩ kp => ⟨a, b, c, ⟨o, kp o ho, hc, hd⟩, p1, p2, p3⟩⟩
  exact sub_own (y := .ref s4.heap.objs.size) hF hr J r1 rfl (q4 _ (I4.hok.fresh (Nat.le_refl _))) fun o => hsl o _
end
end V3

set_option Elab.async false
set_option linter.all false
set_option maxRecDepth 100000
/-! slices of tuples, with any step. -/
namespace HT
open PySem PySem.Spec PyProof.Rows
section
variable {prog : Program} {w : World} {A : Around} {E : Value → Shared → Prop} {s : Shared}
theorem sliceApplied_any {sl : Addr} {vl vu vk : Value} {lo hi st : Option Int} {n : Nat} {Q : Int × Int × Nat → Shared → Prop} (hs : s.heap.IsSliceOf sl vl vu vk) (pl : IsPart vl lo) (pu : IsPart vu hi) (pk : IsPart vk st) (h0 : st ≠ some 0)
    (h : Q ((Builtin.Slice.sliceAdjust lo hi (st.getD 1) (n : Int)).1, st.getD 1, Builtin.Slice.slicePlaces (Builtin.Slice.sliceAdjust lo hi (st.getD 1) (n : Int)).1 (Builtin.Slice.sliceAdjust lo hi (st.getD 1) (n : Int)).2 (st.getD 1)) s) : wpAny (model prog w) A (Builtin.Slice.sliceApplied (.ref sl) (pure (n : Int))) Q E s := by
  obtain ⟨os, hos, hcs, hds⟩ := id hs
  unfold Builtin.Slice.sliceApplied Builtin.Slice.sliceFields
  refine wpAny_bind (wpAny_bind (wpAny_field hos hds (x := vl) rfl (wpAny_bind (wpAny_field hos hds (x := vu) rfl (wpAny_bind (wpAny_field hos hds (x := vk) rfl (wpAny_pure ?_)))))))
  refine wpAny_bind (slicePart_ pk ?_)
  have hc : ¬ ((st.getD 1 == 0) = true) := by
    cases st with
    | none => decide
    | some c =>
      intro q
      exact h0 (by rw [show c = 0 from eq_of_beq q])
  show wpAny _ _ (if (st.getD 1 == 0) = true then _ else _) _ _ s
  rw [if_neg hc]
  refine wpAny_bind (slicePart_ pl (wpAny_bind (slicePart_ pu (wpAny_bind (wpAny_pure ?_)))))
  exact wpAny_pure h
/-- the places of a slice -/
def idxT (lo hi st : Option Int) (n : Nat) : List Nat :=
  (List.range (Builtin.Slice.slicePlaces (Builtin.Slice.sliceAdjust lo hi (st.getD 1) (n : Int)).1 (Builtin.Slice.sliceAdjust lo hi (st.getD 1) (n : Int)).2 (st.getD 1))).map fun (k : Nat) => ((Builtin.Slice.sliceAdjust lo hi (st.getD 1) (n : Int)).1 + (k : Int) * st.getD 1).toNat
theorem getItem_tuple_any {t sl : Addr} {items : Array Value} {vl vu vk : Value} {lo hi st : Option Int} {Q : Value → Shared → Prop} (ht : IsTup s.heap t items) (hs : s.heap.IsSliceOf sl vl vu vk) (pl : IsPart vl lo) (pu : IsPart vu hi) (pk : IsPart vk st) (h0 : st ≠ some 0)
    (hsz : ((idxT lo hi st items.size).filterMap fun i => items[i]?).length ≤ sizeLine)
    (hw : (idxT lo hi st items.size) = List.range items.size → Q (.ref t) s)
    (h : Q (.ref s.heap.objs.size) { s with heap := s.heap.push { cls := .type "tuple", data := .seq ((idxT lo hi st items.size).filterMap fun i => items[i]?).toArray } })
    : wpAny (model prog w) A (getItem (.ref t) (.ref sl)) Q E s := by
  obtain ⟨os, hos, hcs, hds⟩ := id hs
  have hTs : s.TypeIs (.ref sl) "slice" := ⟨os, hos, hcs⟩
  unfold getItem
  try with_reducible refine wpAny_holding ?_
  first | refine wpAny_bind (wpAny_pure ?_) | skip
  refine wpAny_bind (wpAny_sequenceKey ht.typeIs (by decide) ?_)
  refine wpAny_bind (wpAny_callSpecial?_slot (name := Str.ofString "__getitem__") ht.typeIs PyProof.Rows.slot_tuple_getitem
    (wpAny_call_entry PyProof.Rows.slot_tuple_getitem ht.typeIs entry_tuple_getitem ?_ (args_tuple_getitem _ _)))
  show wpAny _ _ (Builtin.Tuple.tupleItemsOf (.ref t) >>= _) _ _ s
  refine wpAny_bind (tupleItemsOf_ ht ?_)
  refine wpAny_bind (wpAny_typeOf hTs ?_)
  rw [if_pos (by decide)]
  refine wpAny_bind (sliceApplied_any hs pl pu pk h0 ?_)
  unfold idxT at hsz hw h
  rw [List.filterMap_map] at hsz h
  generalize (Builtin.Slice.sliceAdjust lo hi (st.getD 1) ((items.size : Nat) : Int)).1 = a at hsz hw h ⊢
  generalize (Builtin.Slice.sliceAdjust lo hi (st.getD 1) ((items.size : Nat) : Int)).2 = b at hsz hw h ⊢
  generalize st.getD 1 = c at hsz hw h ⊢
  generalize Builtin.Slice.slicePlaces a b c = n at hsz hw h ⊢
  show wpAny _ _ (if (a == 0 && c == 1 && n == items.size) = true then _ else _) _ _ s
  by_cases q : (a == 0 && c == 1 && n == items.size) = true
  · rw [if_pos q]
    rw [Bool.and_eq_true, Bool.and_eq_true] at q
    have q1 : a = 0 := eq_of_beq q.1.1
    have q2 : c = 1 := eq_of_beq q.1.2
    have q3 : n = items.size := eq_of_beq q.2
    subst q1 q2 q3
    have hQ := hw (by
      have e : (fun (k : Nat) => ((0 : Int) + (k : Int) * 1).toNat) = id := by
        funext k
        show ((0 : Int) + (k : Int) * 1).toNat = k
        omega
      rw [e, List.map_id])
    refine wpAny_bind ?_
    show wpAny _ _ (typeOf (.ref t) >>= fun T => pure (T == .type "tuple")) _ _ s
    refine wpAny_bind (wpAny_typeOf ht.typeIs (wpAny_pure ?_))
    first
      | rw [if_pos (by decide)]
      | simp only [beq_self_eq_true, if_true]
    first
      | exact wpAny_bind (wpAny_rule (wpAny_pure ⟨_, rfl, wpAny_pure hQ⟩))
      | exact wpAny_bind (wpAny_rule (wpAny_bind (wpAny_pure (wpAny_pure ⟨_, rfl, wpAny_pure hQ⟩))))
  · rw [if_neg q]
    have htake : sizeOk (.seq (((List.range n).filterMap ((fun i => items[i]?) ∘ fun (k : Nat) => (a + (k : Int) * c).toNat))).toArray) := by
      show ((List.range n).filterMap ((fun i => items[i]?) ∘ fun (k : Nat) => (a + (k : Int) * c).toNat)).toArray.size ≤ sizeLine
      rw [List.size_toArray]
      exact hsz
    first
      | exact wpAny_bind (m := Builtin.Tuple.tupleExact _) (wpAny_newObj_type (wpAny_pure ⟨_, rfl, wpAny_pure h⟩) htake)
      | exact wpAny_bind (m := Builtin.Tuple.tupleExact _) (wpAny_newObj_type (wpAny_bind (wpAny_pure (wpAny_pure ⟨_, rfl, wpAny_pure h⟩))) htake)
      | exact wpAny_bind (wpAny_bind (m := Builtin.Tuple.tupleExact _) (wpAny_newObj_type (wpAny_pure (wpAny_pure ⟨_, rfl, wpAny_pure h⟩)) htake))
      | exact wpAny_bind (wpAny_bind (m := Builtin.Tuple.tupleExact _) (wpAny_newObj_type (wpAny_pure ⟨_, rfl, wpAny_pure h⟩) htake))
end
end HT

set_option Elab.async false
set_option linter.all false
set_option maxRecDepth 100000
/-! slices of tuples, at the level of values -/
namespace V3
open PySem PySem.Spec PyProof.Rows L2
/-- what a slice picks -/
def stepL {α : Type} (xs : List α) (lo hi st : Option Int) : List α := (HT.idxT lo hi st xs.length).filterMap fun i => xs[i]?
theorem pick_self {α : Type} (xs : List α) : (List.range xs.length).filterMap (fun i => xs[i]?) = xs := by
  have z := pick_run xs.toArray 0 xs.length
  rw [List.filterMap_map] at z
  have e : ((fun x => xs.toArray[x]?) ∘ fun x => 0 + x) = fun i => xs[i]? := by
    funext i
    simp
  rw [e] at z
  simpa using z
theorem fm_congr {α β : Type} {f g : α → Option β} : ∀ {xs : List α}, (∀ x ∈ xs, f x = g x) → xs.filterMap f = xs.filterMap g
  | [], _ => rfl
  | x :: r, h => by
    have e := h x (List.mem_cons_self ..)
    have ih := fm_congr (xs := r) fun y hy => h y (List.mem_cons_of_mem _ hy)
    rw [List.filterMap_cons, List.filterMap_cons, e, ih]
theorem step_len {α : Type} (xs : List α) {lo hi st : Option Int} : (stepL xs lo hi st).length ≤ (HT.idxT lo hi st xs.length).length := List.length_filterMap_le ..
theorem step_one {α : Type} (xs : List α) (lo hi : Option Int) : stepL xs lo hi none = (xs.drop (HT.sIx xs.length 0 lo)).take (HT.sIx xs.length xs.length hi - HT.sIx xs.length 0 lo) := by
  unfold stepL HT.idxT
  show List.filterMap (fun i => xs[i]?) (List.map (fun (k : Nat) => ((Builtin.Slice.sliceAdjust lo hi 1 (xs.length : Int)).1 + (k : Int) * 1).toNat) (List.range (Builtin.Slice.slicePlaces (Builtin.Slice.sliceAdjust lo hi 1 (xs.length : Int)).1 (Builtin.Slice.sliceAdjust lo hi 1 (xs.length : Int)).2 1))) = _
  rw [HT.adjust_gen lo hi xs.length]
  show List.filterMap (fun i => xs[i]?) (List.map (fun (k : Nat) => (((HT.sIx xs.length 0 lo : Nat) : Int) + (k : Int) * 1).toNat) (List.range (Builtin.Slice.slicePlaces ((HT.sIx xs.length 0 lo : Nat) : Int) ((HT.sIx xs.length xs.length hi : Nat) : Int) 1))) = _
  rw [HT.places_gen]
  generalize HT.sIx xs.length 0 lo = i
  generalize HT.sIx xs.length xs.length hi - i = k
  have z := pick_run xs.toArray i k
  have e : (fun (k : Nat) => ((i : Int) + (k : Int) * 1).toNat) = fun x => i + x := by
    funext m
    omega
  rw [e]
  simpa using z
theorem step_to {α : Type} (xs : List α) {k : Nat} (h : k ≤ xs.length) : stepL xs none (some (k : Int)) none = xs.take k := by
  rw [step_one, HT.sIx_nat, HT.sIx_none, Nat.min_eq_left h]
  simp
theorem step_from {α : Type} (xs : List α) {k : Nat} (h : k ≤ xs.length) : stepL xs (some (k : Int)) none none = xs.drop k := by
  rw [step_one, HT.sIx_nat, HT.sIx_none, Nat.min_eq_left h]
  exact List.take_of_length_le (by rw [List.length_drop]; exact Nat.le_refl _)
theorem step_back {α : Type} (xs : List α) : stepL xs none none (some (-1)) = xs.reverse := by
  unfold stepL HT.idxT
  have a1 : Builtin.Slice.sliceAdjust none none ((some (-1 : Int)).getD 1) (xs.length : Int) = ((xs.length : Int) - 1, -1) := by
    simp [Builtin.Slice.sliceAdjust]
  have a2 : Builtin.Slice.slicePlaces ((xs.length : Int) - 1) (-1) ((some (-1 : Int)).getD 1) = xs.length := by
    unfold Builtin.Slice.slicePlaces
    simp
    omega
  rw [a1]
  show List.filterMap (fun i => xs[i]?) (List.map (fun (k : Nat) => ((xs.length : Int) - 1 + (k : Int) * (some (-1 : Int)).getD 1).toNat) (List.range (Builtin.Slice.slicePlaces ((xs.length : Int) - 1) (-1) ((some (-1 : Int)).getD 1)))) = _
  rw [a2, List.filterMap_map]
  have z := pick_self xs.reverse
  rw [List.length_reverse] at z
  refine Eq.trans (fm_congr fun k hk => ?_) z
  have lt : k < xs.length := List.mem_range.mp hk
  rw [List.getElem?_reverse lt]
  have e : ((xs.length : Int) - 1 + (k : Int) * (some (-1 : Int)).getD 1).toNat = xs.length - 1 - k := by
    show ((xs.length : Int) - 1 + (k : Int) * (-1)).toNat = _
    omega
  show xs[((xs.length : Int) - 1 + (k : Int) * (some (-1 : Int)).getD 1).toNat]? = _
  rw [e]
theorem vals_idx {xs : List V} {us : List Value} (r : Vals xs us) : ∀ idx : List Nat, Vals (idx.filterMap fun i => xs[i]?) (idx.filterMap fun i => us.toArray[i]?) := vals_pick r
section
variable {X : Cx}
/-- what t[slice] wants -/
def wSl (K : PySem.W.Frag) (p : Addr) (xs : List V) (lo hi st : Option Int) (H : Hp) (Q : VK) : Prop := SqT K H p xs ∧ st ≠ some 0 ∧ (stepL xs lo hi st).length ≤ sizeLine ∧
  (HT.idxT lo hi st xs.length = List.range xs.length → Q (.ref p) H) ∧ ∀ r, H r = none → Q (.ref r) (upd H r (.tup (stepL xs lo hi st)))
theorem run_sl {pins : List (Addr × Obj)} {s : Shared} {σ : L2.St} {H : Hp} {p sl : Addr} {xs : List V} {vl vu vk : Value} {lo hi st : Option Int} {Q : VK} (I : Inv X pins σ H s) (hs : s.heap.IsSliceOf sl vl vu vk) (pl : IsPart vl lo) (pu : IsPart vu hi) (pk : IsPart vk st)
    (h : wSl X.K p xs lo hi st H Q) : ∃ items : Array Value, IsTup s.heap p items ∧ wpAny (model X.prog X.w) X.A (getItem (.ref p) (.ref sl)) (EP X pins σ Q) X.xe s := by
  obtain ⟨hx, h0, hz, hw, hq⟩ := h
  obtain ⟨its, r, ht, hsz⟩ := I.tuple hx
  have ln : xs.length = its.toArray.size := by rw [List.size_toArray]; exact r.length
  refine ⟨its.toArray, ht, HT.getItem_tuple_any ht hs pl pu pk h0 ?_ (fun e => ?_) ?_⟩
  · unfold stepL at hz
    rw [ln] at hz
    rw [← (vals_idx r _).length]
    exact hz
  · exact ⟨.ref p, H, I, rfl, hw (by rw [ln]; exact e)⟩
  · have v := vals_idx r (HT.idxT lo hi st its.toArray.size)
    rw [← ln] at v ⊢
    refine ⟨.ref s.heap.objs.size, _, I.laid (t' := s.toks) (o := .tup (stepL xs lo hi st)) (fun b ob q => Heap.get?_push_of_some _ q) (Nat.le_refl _) ?_, rfl, hq _ (I.hok.fresh (Nat.le_refl _))⟩
    exact ⟨hz, _, v, ⟨_, Heap.get?_push_size _ rfl, rfl, _, rfl⟩⟩
/-- t[a:b:c] -/
def tStepT (K : PySem.W.Frag) (te : TE) (tl th ts : TO) : TE := fun σ H Q => te σ H fun x H1 => tl σ H1 fun l H2 => th σ H2 fun u H3 => ts σ H3 fun k H4 => ∃ p xs, x = .ref p ∧ wSl K p xs l u k H4 Q
theorem pe_stepT {e : Expr} {te : TE} {lo hi st : Option Expr} {tl th ts : TO} {p2 pos : Pos} (he : PE X e te) (hl : PO X lo tl) (hu : PO X hi th) (hk : PO X st ts)
    (hop : ∀ (o : Value) (n : Addr), subscripted (.Slice lo hi st p2) false o (.ref n) = operate [o, .ref n] (getItem o (.ref n)) := by intro _ _; with_unfolding_all rfl) :
    PE X (.Subscript e (.Slice lo hi st p2) pos) (tStepT X.K te tl th ts) := by
  refine ⟨fun pins s σ H Q I h => ?_⟩
  refine Subscript_ (thn (he.run pins s σ H _ I h) fun v s1 ⟨x, H1, I1, r1, q1⟩ => ?_)
  refine wpAny_Slice (thn (hl.run pins s1 σ H1 _ I1 q1) fun vl s2 ⟨l, H2, I2, pl, q2⟩ =>
    thn (hu.run pins s2 σ H2 _ I2 q2) fun vu s3 ⟨u, H3, I3, pu, q3⟩ =>
    thn (hk.run pins s3 σ H3 _ I3 q3) fun vk s4 ⟨k, H4, I4, pk, q4⟩ => ?_)
  obtain ⟨p, xs, rfl, w⟩ := q4
  have J : Inv X pins σ H4 { s4 with heap := s4.heap.push { cls := .type "slice", data := .fields #[vl, vu, vk] } } := I4.kept (t' := s4.toks) fun b ob q => Heap.get?_push_of_some _ q
  cases r1
  obtain ⟨items, ht, got⟩ := run_sl J (Heap.IsSliceOf.new ..) pl pu pk w
  exact tail_any (ops := [.ref p, .ref s4.heap.objs.size]) ht.typeIs slot_tuple_getitem.lookup got (hop _ _)
/-- t[s], s a slice -/
def rIxSl (K : PySem.W.Frag) : R2 := fun x y H Q => ∃ p q xs lo hi st, x = .ref p ∧ y = .ref q ∧ H q = some (SlH q lo hi st) ∧ wSl K p xs lo hi st H Q
theorem ix_slice : IxR X (rIxSl X.K) := by
  intro value slice pins s σ H x y v u Q I rx ry h hs
  obtain ⟨p, q, xs, lo, hi, st, rfl, rfl, hq, w⟩ := h
  cases rx
  cases ry
  obtain ⟨⟨vl, vu, vk, so, pl, pu, pk⟩, _, _⟩ := I.hok _ _ hq
  obtain ⟨items, ht, got⟩ := run_sl I so pl pu pk w
  exact tail_any (ops := [.ref p, .ref q]) ht.typeIs slot_tuple_getitem.lookup got hs
end
end V3

set_option Elab.async false
set_option linter.all false
set_option maxRecDepth 100000
/-! readings that leave all as it was: what they answer -/
namespace V3
open PySem L2
def EvV (W : Hp → Prop) (σ : L2.St) (te : TE) (R : V → Hp → Prop) : Prop := ∀ H Q, W H → (∀ v H', Same H H' → W H' → R v H' → Q v H') → te σ H Q
def EvB (W : Hp → Prop) (σ : L2.St) (tt : TT) (b : Bool) : Prop := ∀ H Q, W H → (∀ H', Same H H' → W H' → Q b H') → tt σ H Q
def EvO (W : Hp → Prop) (σ : L2.St) (tO : TO) (o : Option Int) : Prop := ∀ H Q, W H → (∀ H', Same H H' → W H' → Q o H') → tO σ H Q
def StV (R : V → Hp → Prop) : Prop := ∀ v H H', Same H H' → R v H → R v H'
def isIv (i : Int) : V → Hp → Prop := fun v _ => v = .int i
def isSv (s : Str) : V → Hp → Prop := fun v _ => v = .str s
def isBv (b : Bool) : V → Hp → Prop := fun v _ => v = .bl b
def isVv (u : V) : V → Hp → Prop := fun v _ => v = u
theorem st_i {i : Int} : StV (isIv i) := fun _ _ _ _ h => h
theorem st_s {i : Str} : StV (isSv i) := fun _ _ _ _ h => h
theorem st_b {i : Bool} : StV (isBv i) := fun _ _ _ _ h => h
theorem st_v {u : V} : StV (isVv u) := fun _ _ _ _ h => h
section
variable {W : Hp → Prop} {σ : L2.St} {ta tb te : TE} {R Ra Rb : V → Hp → Prop}
theorem ev_var {i : Nat} {v : V} (e : σ[i]? = some (some v)) (h : ∀ H, W H → R v H) : EvV W σ (tVar i) R := fun H Q w k => ⟨v, e, k v H (Same.refl H) w (h H w)⟩
theorem ev_c {v : V} : EvV W σ (tC v) (isVv v) := fun H Q w k => k v H (Same.refl H) w rfl
theorem ev_int {i : Int} : EvV W σ (tC (.int i)) (isIv i) := fun H Q w k => k _ H (Same.refl H) w rfl
theorem ev_str {s : Str} : EvV W σ (tC (.str s)) (isSv s) := fun H Q w k => k _ H (Same.refl H) w rfl
/-- a two-place operation -/
theorem ev_op {r : R2} (sa : StV Ra) (ha : EvV W σ ta Ra) (hb : EvV W σ tb Rb) (h : ∀ x y H Q, W H → Ra x H → Rb y H → (∀ v H', Same H H' → W H' → R v H' → Q v H') → r x y H Q) : EvV W σ (tOp r ta tb) R := fun H Q w k =>
  ha H _ w fun x H1 s1 w1 rx => hb H1 _ w1 fun y H2 s2 w2 ry => h x y H2 Q w2 (sa _ _ _ s2 rx) ry fun v H' s w' rv => k v H' ((s1.trans s2).trans s) w' rv
/-- a call with one argument -/
theorem ev_cb1 {r : List V → Hp → VK → Prop} (ha : EvV W σ ta Ra) (h : ∀ x H Q, W H → Ra x H → (∀ v H', Same H H' → W H' → R v H' → Q v H') → r [x] H Q) : EvV W σ (tCB r (tCons ta tNil)) R := fun H Q w k =>
  ha H _ w fun x H1 s1 w1 rx => h x H1 Q w1 rx fun v H' s w' rv => k v H' (s1.trans s) w' rv
theorem ev_test {b : Bool} (h : EvV W σ te (isBv b)) : EvB W σ (tTest te) b := fun H Q w k => h H _ w fun v H' s w' e => ⟨b, e, k H' s w'⟩
theorem ev_or {t u : TT} {b : Bool} (h : EvB W σ t false) (h2 : EvB W σ u b) : EvB W σ (tOr t u) b := fun H Q w k =>
  h H _ w fun H1 s1 w1 => iteF (h2 H1 _ w1 fun H2 s2 w2 => k H2 (s1.trans s2) w2)
theorem evo_none : EvO W σ tNoPart none := fun H Q w k => k H (Same.refl H) w
theorem evo_some {i : Int} (h : EvV W σ te (isIv i)) : EvO W σ (tPart te) (some i) := fun H Q w k => h H _ w fun v H' s w' e => ⟨i, e, k H' s w'⟩
theorem ev_add {i j : Int} (ha : EvV W σ ta (isIv i)) (hb : EvV W σ tb (isIv j)) : EvV W σ (tOp (rI0 fun i j => .int (i + j)) ta tb) (isIv (i + j)) :=
  ev_op st_i ha hb fun x y H Q w ex ey k => ⟨i, j, ex, ey, k _ H (Same.refl H) w rfl⟩
/-- != and == of flat values -/
theorem ev_neI {i j : Int} (ha : EvV W σ ta (isIv i)) (hb : EvV W σ tb (isIv j)) : EvV W σ (tOp rNe ta tb) (isBv (!decide (i = j))) :=
  ev_op st_i ha hb fun x y H Q w ex ey k => by
    cases ex
    cases ey
    refine ⟨rfl, k _ H (Same.refl H) w ?_⟩
    have e : (V.int i = V.int j) ↔ (i = j) := ⟨fun z => by injection z, fun z => by rw [z]⟩
    show V.bl (!decide (V.int i = V.int j)) = V.bl (!decide (i = j))
    by_cases h : i = j
    · rw [decide_eq_true h, decide_eq_true (e.mpr h)]
    · rw [decide_eq_false h, decide_eq_false (fun z => h (e.mp z))]
theorem dec_str {i j : Str} : decide (V.str i = V.str j) = decide (i = j) := by
  have e : (V.str i = V.str j) ↔ (i = j) := ⟨fun z => by injection z, fun z => by rw [z]⟩
  by_cases h : i = j
  · rw [decide_eq_true h, decide_eq_true (e.mpr h)]
  · rw [decide_eq_false h, decide_eq_false (fun z => h (e.mp z))]
theorem dec_bl {i j : Bool} : decide (V.bl i = V.bl j) = decide (i = j) := by
  have e : (V.bl i = V.bl j) ↔ (i = j) := ⟨fun z => by injection z, fun z => by rw [z]⟩
  by_cases h : i = j
  · rw [decide_eq_true h, decide_eq_true (e.mpr h)]
  · rw [decide_eq_false h, decide_eq_false (fun z => h (e.mp z))]
theorem ev_neS {i j : Str} (ha : EvV W σ ta (isSv i)) (hb : EvV W σ tb (isSv j)) : EvV W σ (tOp rNe ta tb) (isBv (!decide (i = j))) :=
  ev_op st_s ha hb fun x y H Q w ex ey k => by
    cases ex
    cases ey
    exact ⟨rfl, k _ H (Same.refl H) w (congrArg (fun b => V.bl (!b)) dec_str)⟩
theorem ev_eqS {i j : Str} (ha : EvV W σ ta (isSv i)) (hb : EvV W σ tb (isSv j)) : EvV W σ (tOp rEq ta tb) (isBv (decide (i = j))) :=
  ev_op st_s ha hb fun x y H Q w ex ey k => by
    cases ex
    cases ey
    exact ⟨rfl, k _ H (Same.refl H) w (congrArg V.bl dec_str)⟩
theorem ev_neB {i j : Bool} (ha : EvV W σ ta (isBv i)) (hb : EvV W σ tb (isBv j)) : EvV W σ (tOp rNe ta tb) (isBv (!decide (i = j))) :=
  ev_op st_b ha hb fun x y H Q w ex ey k => by
    cases ex
    cases ey
    exact ⟨rfl, k _ H (Same.refl H) w (congrArg (fun b => V.bl (!b)) dec_bl)⟩
theorem ev_eqB {i j : Bool} (ha : EvV W σ ta (isBv i)) (hb : EvV W σ tb (isBv j)) : EvV W σ (tOp rEq ta tb) (isBv (decide (i = j))) :=
  ev_op st_b ha hb fun x y H Q w ex ey k => by
    cases ex
    cases ey
    exact ⟨rfl, k _ H (Same.refl H) w (congrArg V.bl dec_bl)⟩
theorem ev_to {R' : V → Hp → Prop} (h : EvV W σ te R) (e : ∀ v H, R v H → R' v H) : EvV W σ te R' := fun H Q w k => h H Q w fun v H' s w' r => k v H' s w' (e v H' r)
theorem ev_bool {b b' : Bool} (h : EvB W σ t b) (e : b = b') : EvB W σ t b' := e ▸ h
/-- an if whose test fails -/
theorem if_no {c : TT} {t u : TS} {D : Ends} {H : Hp} (h : EvB W σ c false) (w : W H) (k : ∀ H', Same H H' → W H' → u D σ H') : tIfS c t u D σ H := h H _ w fun H' s w' => iteF (k H' s w')
end
end V3

set_option Elab.async false
set_option linter.all false
set_option maxRecDepth 100000
/-! functions that are called where no repr is under way: repr of nested lists and tuples -/
namespace V3
open PySem PySem.Spec PyProof.Rows L2
def NoG (A : Around) : Prop := A.guards = some []
theorem NoG.deeper {A : Around} (h : NoG A) (e : Env) : NoG (A.deeper e) := h
/-- what a def promises to such callers -/
structure FnG (P : Program) (w : World) (K : PySem.W.Frag)
    (mg : Str → Option Value) (base : Heap) (CX : CXT) (k : Nat)
    (f : Addr) (fd : FuncData) (ps : List Str) (sp : Sp) : Prop where
  len : ∀ vs H Q E, sp vs H Q E → vs.length = ps.length
  run : ∀ (A : Around) (up : List Env) (s : Shared) (H : Hp) (args : Args)
    (us : List Value) (vs : List V) (Q : VK) (E : XK),
    NoG A → Room k A → Env0 P w K mg base A up s H →
    BindsTo s fd args (ps.zip us) → Vals vs us → sp vs H Q E →
    codeAny (model P w) A (.call (.ref f) args) (CR CX up P w H s Q E) s
theorem FnG.of {P : Program} {w : World} {K : PySem.W.Frag} {mg : Str → Option Value} {base : Heap}
    {CX : CXT} {k : Nat} {f : Addr} {fd : FuncData} {ps : List Str} {sp : Sp}
    (F : FnOk P w K mg base CX k f fd ps sp) : FnG P w K mg base CX k f fd ps sp :=
  ⟨F.len, fun A up s H args us vs Q E _ => F.run A up s H args us vs Q E⟩
theorem FnG.up {P : Program} {w : World} {K : PySem.W.Frag} {mg : Str → Option Value} {base : Heap}
    {CX : CXT} {j k : Nat} {f : Addr} {fd : FuncData} {ps : List Str} {sp : Sp}
    (F : FnG P w K mg base CX j f fd ps sp) (h : j ≤ k) : FnG P w K mg base CX k f fd ps sp :=
  ⟨F.len, fun A up s H args us vs Q E g r => F.run A up s H args us vs Q E g (r.mono h)⟩
section
variable {P : Program} {w : World} {K : PySem.W.Frag} {mg : Str → Option Value} {base : Heap}
/-- the rule for a def of the text -/
theorem fnG {CX : CXT} {k : Nat} {f : Addr} {x qual : Str} {st : Stmt} {fd : FuncData}
    {N ps : List Str} {sp : Sp} (F : Fun K x qual st f fd) (S : FnScope N ps (defScope st))
    (len : ∀ vs H Q E, sp vs H Q E → vs.length = ps.length)
    (hbody : ∀ (cdv : Value) (A : Around) (up : List Env) (s : Shared) (H : Hp)
      (vs : List V) (Q : VK) (E : XK),
      NoG A → Room k (A.deeper (envOfC qual (defScope st) s.heap.objs.size f cdv)) →
      sp vs H Q E →
      ∃ t, PSs (cxOf CX P w K mg base N qual (defScope st) f cdv A up s H E) (defBody st) t ∧
        t { nx := fun _ H' => Q .non H', rt := Q } (start N vs) H) :
    FnG P w K mg base CX (k + 1) f fd ps sp := by
  obtain ⟨oc, od, kV, doc, pm, an, cdv, ct, osl, rfl, lk, hcd⟩ := F.ex
  refine ⟨len, fun A up s H args us vs Q E g room e0 bnd rel want => ?_⟩
  have nlen := len _ _ _ _ want
  have old := fun b o e => (e0.bs b o e).1
  have KX : K.In s.heap := e0.mod.kin.keeps old
  have lim := e0.mod.nolimit.keeps old
  have known : ∀ y ∈ ps.zip us, (defScope st).names.lookup y.1 = some .local ∨
      ((defScope st).names.lookup y.1 = some .cell ∧
        ((cellsFrom (s.heap.objs.size + 1) (defScope st).names []).lookup y.1).isSome = true) := by
    rintro ⟨n, v⟩ hy
    exact (S.par n (List.of_mem_zip hy).1).imp id fun q => ⟨q, PySem.W.cellsFrom_some _ _ _ (.inl q)⟩
  refine codeAny_call_function room.depth (KX _ _ lk) rfl S.co S.gen rfl
    (PySem.W.codeRec_of KX hcd) (bnd _ _ _ _ ?_)
  refine wpAny_newFunctionEnv_cells S.kind known fun env same s1 x => ?_
  subst same
  refine ⟨lim.keeps x.toInCall.keep, codeAny_func ?_⟩
  obtain ⟨t, ht, hq⟩ := hbody cdv A up s H vs Q E g (room.deeper _) want
  have I := inv_start (CX := CX) (E := E) S room.hd e0 nlen rel x
  refine wpAny_mono (ht.run [] s1 (start N vs) H _ I hq) (fun fl s' hs => ?_) fun e s' hs => hs
  match fl, hs with
  | .ret u, hs =>
    obtain ⟨v, σ', H', J, rv, q⟩ := hs
    exact ⟨v, H', J.os, J.bare, J.base, J.hok, rv, q⟩
  | .next, hs =>
    obtain ⟨σ', H', J, q⟩ := hs
    exact ⟨.non, H', J.os, J.bare, J.base, J.hok, rfl, q⟩
  | .brk, hs =>
    obtain ⟨_, _, _, q⟩ := hs
    exact q.elim
  | .cont, hs =>
    obtain ⟨_, _, _, q⟩ := hs
    exact q.elim
end
section
variable {X : Cx} {CX : CXT} {k : Nat} {f : Addr} {fd : FuncData} {ps : List Str} {sp : Sp}
  {dvs : List V} {ds : List Value} {E : XK} {x : Str} {p pos : Pos} {e : Expr} {es : List Expr} {t : TA}
theorem runG {pins : List (Addr × Obj)} {σ : L2.St} {H : Hp} {s : Shared} {Q : VK}
    {us : List Value} {vs : List V} (F : FnG X.prog X.w X.K X.mg X.base CX k f fd ps sp)
    (g : NoG X.A) (room : Room k X.A) (bi : Binds X.K fd ps ds) (va : Vals dvs ds)
    (out : Passes CX X E) (I : Inv X pins σ H s) (r : Vals vs us) (want : sp (vs ++ dvs) H Q E) :
    wpAny (model X.prog X.w) X.A (call (.ref f) us) (EP X pins σ Q) X.xe s := by
  have r2 := r.append va
  have nlen := r2.length.symm.trans (F.len _ _ _ _ want)
  have ran := F.run X.A X.stack s H ⟨us, []⟩ _ _ Q E g room I.env0 (bi s us I.kIn nlen) r2 want
  refine wpAny_call (codeAny_mono ran fun res s' hq => ?_)
  match res, hq with
  | .error err, hq => exact out pins σ H s err s' I hq
  | .ok (.ret u), hq => exact I.after hq
  | .ok .next, hq => exact hq.elim
  | .ok .brk, hq => exact hq.elim
  | .ok .cont, hq => exact hq.elim
/-- f(e, ..) -/
theorem pe_callG (F : FnG X.prog X.w X.K X.mg X.base CX k f fd ps sp) (g : NoG X.A)
    (room : Room k X.A) (hg : Gl X x) (hm : X.mg x = some (.ref f))
    (kp : PySem.W.keepIn X.K (.ref f) = true) (bi : Binds X.K fd ps ds) (va : Vals dvs ds)
    (out : Passes CX X E) (ha : PA X (e :: es) t)
    (hdb : (x == ("__debug__" : Str)) = false := by decide)
    (he : starEach (e :: es) X.env = (false, eval e X.env) :: starEach es X.env := by rfl)
    (hpl : (backTo pos (starEach es X.env)).any (·.1) = false := by rfl) :
    PE X (.Call (.Name x p) (e :: es) [] pos) (tCall sp dvs E t) := by
  refine ⟨fun pins s σ H Q I h => wpAny_Call_Name_kw (ld_glob I hg hm ?_ hdb)⟩
  refine PySem.W.callWith_K (h₀ := X.base) I.ok.mod.kin kp ?_ he hpl
  exact thn (ha.run pos pins s σ H _ I h) fun us s1 ⟨vs, H1, I1, r, q⟩ =>
    ⟨I1.kIn, runG F g room bi va out I1 r q⟩
/-- repr(v), v nested data -/
def rReprD (K : PySem.W.Frag) (A : Around) : List V → Hp → VK → Prop := fun xs H Q =>
  ∃ (a : Addr) (d : PyData), xs = [.ref a] ∧ Dp K H (.ref a) d ∧ d.showable = true ∧
    d.hasDict = false ∧ A.units + (d.depth + 1) < cLine ∧ d.shown.length ≤ sizeLine ∧ Q (.str d.shown) H
theorem call_reprD (g : NoG X.A) : CallR X (.builtin "repr") (rReprD X.K X.A) := by
  intro pins s σ H xs us Q I r h
  obtain ⟨a, d, rfl, hd, sh, nd, hu, hz, q⟩ := h
  obtain ⟨u, rfl, ru⟩ := vals1 r
  obtain ⟨as, rd⟩ := hd.reads I d _ _ ru
  cases ru
  exact repr_of_reads' rd sh (PyData.noDict_hsm nd) g hu (fun _ _ e => e)
    (fun h' u tk hk => ⟨.str d.shown, H, I.kept (t' := tk) hk, ⟨u, rfl⟩, q⟩) hz
end
end V3

set_option Elab.async false
set_option linter.all false
set_option maxRecDepth 100000
/-! the law's own call, where no repr is under way -/
namespace V3
open PySem PySem.Spec PyProof.Rows L2
section
variable {P : Program} {w : World} {K : PySem.W.Frag} {mg mb : Str → Option Value} {k : Nat}
  {fa a : Addr} {fd : FuncData} {x : Str} {sp : Sp} {s1 : Shared} {vs : List Value} {ns : List Int}
/-- nothing but the script is followed -/
structure Lone (H : Hp) (a : Addr) : Prop where
  only : Only H
  here : ∀ b, H b ≠ none → b = a
theorem law_from {H : Hp} (KX : K.In s1.heap) (hns : s1.heap.Ns mainGlobals mg)
    (hb : s1.heap.Ns builtinsNs mb) (hbb : ∀ y : Str, y ≠ "__name__" → mb y = bootBuiltins y)
    (lim : s1.heap.NoLimit) (gens : s1.gens = #[])
    (ha : s1.heap.get? a = some { cls := .type "list", data := .seq vs.toArray })
    (room : Room k callerA)
    (F : ∀ base : Heap, K.In base → base.Ns mainGlobals mg → FnG P w K mg base CX0 k fa fd [x] sp)
    (bi : ∀ (s : Shared) (u : Value), BindsTo s fd ⟨[u], []⟩ [(x, u)])
    (want : sp [.ref a] H (fun v _ => v = .bl true) fun _ _ _ => False)
    (lone : Lone H a) (hok : HOk P w H s1.heap) (free : H a ≠ none → K.lookup a = none) :
    codeAny (model P w) callerA (.call (.ref fa) ⟨[.ref a], []⟩)
      (fun r s' => r = .ok (.ret (.bool true)) ∧ OldK s1.heap s'.heap ∧ s'.os = s1.os ∧ AllBare s'.gens) s1 := by
  have at_a : ∀ {b : Addr}, H b ≠ none → b = a := fun {b} h => lone.here b h
  have kept : ∀ {b : Addr} {o : Obj}, s1.heap.get? b = some o → (b = a → H b = none) →
      (hidT s1.heap H).get? b = some o := by
    intro b o e n
    by_cases q : H b = none
    · exact hidT_get e q
    · exact hidT_get e (n (at_a q))
  have nsK : ∀ {b : Addr} {m : Str → Option Value}, s1.heap.Ns b m → (hidT s1.heap H).Ns b m := by
    rintro b m ⟨o, es, ep, e, d, r⟩
    refine ⟨o, es, ep, kept e fun z => ?_, d, r⟩
    subst z
    rw [ha] at e
    cases e
    exact nomatch d
  have hKb : K.In (hidT s1.heap H) := by
    intro b o e
    refine kept (KX b o e) fun z => ?_
    subst z
    by_cases q : H b = none
    · exact q
    · rw [free q] at e
      cases e
  obtain ⟨mc, c1, c2⟩ := lim
  have hM : Mod K mg (hidT s1.heap H) := ⟨hKb, nsK hns, ⟨mb, nsK hb, hbb⟩, mc, nsK c1, c2⟩
  have e0 : Env0 P w K mg (hidT s1.heap H) callerA [] s1 H :=
    ⟨rfl, hM, fun b o e => of_hidT e, Nat.le_of_eq (hidT_size _ _), trivial,
      fun b hb => (nomatch hb), hok, AllBare.of_eq gens⟩
  have ran := (F _ hKb (nsK hns)).run callerA [] s1 H ⟨[.ref a], []⟩ [.ref a] [.ref a] _ _ rfl room e0
    (bi s1 (.ref a)) (.cons rfl .nil) want
  refine codeAny_mono ran fun r s' h => ?_
  match r, h with
  | .error e, h => exact h.elim
  | .ok .next, h => exact h.elim
  | .ok .brk, h => exact h.elim
  | .ok .cont, h => exact h.elim
  | .ok (.ret u), h =>
    obtain ⟨v, H', os, bare, un, hok', r', q⟩ := h
    have q' : v = .bl true := q
    subst q'
    have r2 : u = Value.bool true := r'
    subst r2
    refine ⟨rfl, OldK.of_keep fun b o e => ?_, os, bare⟩
    cases hb : H b with
    | none => exact un.keep b o e hb (fun z => by cases z) (by simp)
    | some u =>
      rcases lone.only b with z | ⟨ob, xs, z⟩
      · rw [hb] at z
        cases z
      · obtain ⟨g1, _⟩ := hok b _ z
        obtain ⟨g2, _⟩ := hok' b _ (un.frzs b ob _ z)
        rw [e] at g1
        cases g1
        exact g2
theorem law_callG (KX : K.In s1.heap) (hns : s1.heap.Ns mainGlobals mg)
    (hb : s1.heap.Ns builtinsNs mb) (hbb : ∀ y : Str, y ≠ "__name__" → mb y = bootBuiltins y)
    (lim : s1.heap.NoLimit) (gens : s1.gens = #[])
    (ha : s1.heap.get? a = some { cls := .type "list", data := .seq vs.toArray })
    (whole : IntsAre vs ns) (few : ns.length ≤ sizeLine) (room : Room k callerA)
    (F : ∀ base : Heap, K.In base → base.Ns mainGlobals mg → FnG P w K mg base CX0 k fa fd [x] sp)
    (bi : ∀ (s : Shared) (u : Value), BindsTo s fd ⟨[u], []⟩ [(x, u)])
    (want : ∀ H : Hp, Only H → SqL K H a (ns.map V.int) → sp [.ref a] H (fun v _ => v = .bl true) fun _ _ _ => False) :
    codeAny (model P w) callerA (.call (.ref fa) ⟨[.ref a], []⟩)
      (fun r s' => r = .ok (.ret (.bool true)) ∧ OldK s1.heap s'.heap ∧ s'.os = s1.os ∧ AllBare s'.gens) s1 := by
  have rv := vals_ints whole
  have nv := whole.length
  cases hk : K.lookup a with
  | some o =>
    have e := KX a o hk
    rw [ha] at e
    cases e
    have o0 : Only (fun _ => none) := fun _ => .inl rfl
    refine law_from KX hns hb hbb lim gens ha room F bi (want _ o0 (.inr ⟨_, vs.toArray, _, hk, rfl, rfl, rfl, ?_, ?_⟩)) ⟨o0, ?_⟩ ?_ ?_
    · rw [List.size_toArray, nv]
      exact few
    · simpa using rv
    · intro b z
      exact absurd rfl z
    · intro b u z
      have z2 : (none : Option HO) = some u := z
      cases z2
    · intro z
      exact absurd rfl z
  | none =>
    let Ha : Hp := fun b => if b = a then some (.frz { cls := .type "list", data := .seq vs.toArray } (.lst (ns.map V.int))) else none
    have yes : Ha a = some (.frz { cls := .type "list", data := .seq vs.toArray } (.lst (ns.map V.int))) := if_pos rfl
    have no : ∀ b, b ≠ a → Ha b = none := fun b n => if_neg n
    have o0 : Only Ha := by
      intro b
      by_cases z : b = a
      · subst z
        exact .inr ⟨_, _, yes⟩
      · exact .inl (no b z)
    refine law_from (H := Ha) KX hns hb hbb lim gens ha room F bi (want _ o0 (.inl (.inr ⟨_, yes⟩))) ⟨o0, ?_⟩ ?_ fun _ => hk
    · intro b z
      by_cases q : b = a
      · exact q
      · exact absurd (no b q) z
    · intro b u z
      by_cases q : b = a
      · subst q
        rw [yes] at z
        cases z
        exact ⟨ha, by rw [List.length_map]; exact few, vs, _, rv, ha⟩
      · rw [no b q] at z
        cases z
end
/-- the walk from such a promise -/
theorem walk_ofG {l : PySem.W.OpenLaw} {n k : Nat} {q : Program} {loose : List Str}
    {XP : (Str → Option Value) → Heap → Prop} {YP : World → Heap → Prop} {d : DefRec}
    {K : Params → PySem.W.Frag} {sp : World → Sp} {x : Str}
    (hn : l.most = some n) (small : n ≤ sizeLine) (hdf : d.params.defaults = []) (room : Room k callerA)
    (hY : ∀ (w : World) (h : Heap), YP w h → (K w.params).In h)
    (F : ∀ (w : World) (mg : Str → Option Value) (fa : Addr) (h : Heap), (K w.params).In h →
      h.Ns mainGlobals mg → mg d.name = some (.ref fa) →
      ∃ fd : FuncData, (∀ (s : Shared) (u : Value), BindsTo s fd ⟨[u], []⟩ [(x, u)]) ∧
        ∀ base : Heap, (K w.params).In base → base.Ns mainGlobals mg →
          FnG l.prog w (K w.params) mg base CX0 k fa fd [x] (sp w))
    (hsp : ∀ (w : World) (H : Hp) (a : Addr) (ns : List Int), ns.length ≤ n → Only H →
      SqL (K w.params) H a (ns.map V.int) → sp w [.ref a] H (fun v _ => v = .bl true) fun _ _ _ => False) :
    PySem.W.WalkO q loose XP YP l.row.toRowW d [] (fun f vs => PySem.call f vs) := by
  refine Att.attach_call hn hdf fun w s0 s1 mg mb fa o pm cd doc a vs ns G Y ho hd hcd hmg hobj whole len gens => ?_
  have KX := hY w _ Y
  obtain ⟨fd, bi, hF⟩ := F w mg fa _ KX G.T.g hmg
  exact law_callG KX G.T.g G.T.b G.T.builtins G.T.nolimit gens hobj whole (Nat.le_trans len small) room hF bi
    fun H hO hS => hsp w H a ns len hO hS
end V3

set_option Elab.async false
set_option linter.all false
set_option maxRecDepth 100000
/-! x in (a, b, ..), where none of the items is x: each item's own == is run -/
namespace V3
open PySem PySem.SeqAt
open AutoSeq1 (wpAny_loadPart')
open MeetsSeq MeetsSeq2 MeetsSeq3 SeqRoads2
section
variable {prog : Program} {w : World} {A : Around} {R : Result → Shared → Prop}
theorem tuple_none (l : Addr) (items : Array Value) (n : Nat) (dd : Option Addr) (sl : Array (Option Value)) (x : Value) (I : Nat → Shared → Prop)
    (turn : ∀ i (h : i < items.size) s, I i s →
      wpAny (model prog w) A.in1 (eqBool items[i] x) (fun r s' => r = false ∧ I (i + 1) s') (fun e s' => R (.error e) s') s)
    (fin : ∀ s, I items.size s → R (.ok (.ret (.bool false))) s) {s : Shared}
    (hl : s.heap.get? l = some { cls := .type "tuple", dict := dd, data := .seq items n, slots := sl }) (h : I 0 s) :
    wpAny (model prog w) A.in1 (Builtin.«tuple.__contains__» ⟨[.ref l, x], []⟩) (GQ.FinOf prog w A R) (fun e s' => R (.error e) s') s := by
  have h0 := h
  obtain ⟨hp, g, d, tk, os⟩ := s
  wp_walk using wpAny_loadPart' hl, wpAny_forIn_array _ (fun rest b s' => b.1 = none ∧ ∃ i, rest = items.toList.drop i ∧ i ≤ items.size ∧ I i s') _
  case turn =>
    rintro y rest b s' ⟨hb, i, hz, hi, hI⟩
    have lt : i < items.toList.length := by
      rcases Nat.lt_or_ge i items.toList.length with q | q
      · exact q
      · rw [List.drop_of_length_le q] at hz
        cases hz
    have lt2 : i < items.size := by simpa using lt
    rw [List.drop_eq_getElem_cons lt] at hz
    injection hz with hy hr
    have hy2 : y = items[i] := by simpa using hy
    subst hy2
    refine wpAny_bind (wpAny_mono (turn i lt2 s' hI) (fun r s2 q => ?_) fun _ _ z => z)
    obtain ⟨rfl, q⟩ := q
    wp_walk
    exact ⟨rfl, i + 1, hr, lt2, q⟩
  case fin =>
    rintro ⟨b1, b2⟩ s' ⟨hb, i, hz, hi, hI⟩
    simp only at hb
    subst hb
    have ge : items.size ≤ i := by
      rcases Nat.lt_or_ge i items.toList.length with q | q
      · rw [List.drop_eq_getElem_cons q] at hz
        cases hz
      · simpa using q
    have e : i = items.size := by omega
    have hR := fin s' (e ▸ hI)
    wp_walk
    first | exact hR | exact ⟨_, rfl, hR⟩ | simpa using hR
  case h =>
    exact ⟨rfl, 0, rfl, Nat.zero_le _, h0⟩
end
end V3

set_option Elab.async false
set_option linter.all false
set_option maxRecDepth 100000
namespace V3
open PySem PySem.SeqAt
open AutoSeq1 (wpAny_loadPart')
section
variable {prog : Program} {w : World} {A : Around} {E : Value → Shared → Prop} {s : Shared} {x : Addr} {o : Obj}
theorem str_declines {z : Str} {t : Tok} {Q : Shared → Prop} (ho : s.heap.get? x = some o) (hd : o.data = .plain) (hq : Q s) :
    wpAny (model prog w) A (call (.builtin "str.__eq__") [.str z t, .ref x]) (fun v s' => v = .notImplemented ∧ Q s') E s := by
  refine GQ.call_here F.slot_str_eq (typeIs_str s z t) F.entry_str_eq (F.args_str_eq_2 _ _) ?_
  obtain ⟨c, dd, da, sl⟩ := o
  simp only at hd
  subst hd
  obtain ⟨hp, g, d, tk, os⟩ := s
  unfold Builtin.«str.__eq__» Builtin.Str.strCompare
  wp_walk using wpAny_load ho
  exact ⟨rfl, hq⟩
theorem none_declines {Q : Shared → Prop} (hq : Q s) :
    wpAny (model prog w) A (call (.builtin "NoneType.__eq__") [.none, .ref x]) (fun v s' => v = .notImplemented ∧ Q s') E s := by
  refine GQ.call_here F.slot_NoneType_eq (typeIs_none s) F.entry_NoneType_eq (F.args_NoneType_eq_2 _ _) ?_
  obtain ⟨hp, g, d, tk, os⟩ := s
  unfold Builtin.«NoneType.__eq__»
  wp_walk
  exact ⟨rfl, hq⟩
theorem tup_declines {K : PySem.W.Frag} {C p : Addr} {od : Option Obj} {items : Array Value} {Q : Shared → Prop} (X : K.In s.heap) (I : PySem.W.InstAt s.heap x o C od) (hs : PySem.W.subIn K (.ref C) (.type "tuple") = some false) (hp : s.heap.IsTuple p items) (hq : Q s) :
    wpAny (model prog w) A (call (.builtin "tuple.__eq__") [.ref p, .ref x]) (fun v s' => v = .notImplemented ∧ Q s') E s := by
  obtain ⟨⟨c1, d1, da, sl⟩, ho, hc, n, hd⟩ := id hp
  simp only at hc hd
  subst hc hd
  refine GQ.call_here F.slot_tuple_eq ⟨_, ho, rfl⟩ F.entry_tuple_eq (F.args_tuple_eq_2 _ _) ?_
  obtain ⟨hh, g, d, tk, os⟩ := s
  wp_walk
  refine wpAny_loadPart I.at_ (wpAny_pure ?_)
  rw [I.cls]
  refine (PySem.W.looks_subIn X hs).here ?_
  wp_walk
  exact ⟨rfl, hq⟩
end
/-! a == b by the own __eq__ of b, where that of a declines -/
section
variable {prog : Program} {w : World} {A : Around} {E : Value → Shared → Prop} {s : Shared} {K : PySem.W.Frag} {x C L f : Addr} {h₀ : Heap} {m : Str → Option Value} {ox : Obj} {od : Option Obj} {a : Value} {T id : String}
theorem turned_K {Q : Value → Shared → Prop} (hu : A.units < cLine) (F : PyProof.Rows.Fr h₀ L s.heap m) (X₀ : K.In h₀) (I : PySem.W.InstAt s.heap x ox C od) (hT : s.TypeIs a T) (sl : Slot T "__eq__" id)
    (one : oneThing? .Eq a (.ref x) = none) (hs : PySem.W.subIn K (.ref C) (.type T) = some false)
    (no : ∀ {Q : Shared → Prop}, Q s → wpAny (model prog w) A (call (.builtin id) [a, .ref x]) (fun v s' => v = .notImplemented ∧ Q s') E s)
    (he : PySem.W.findIn K (.ref C) "__eq__" = some (some (.ref f))) (hf : PySem.W.isFn K (.ref f) = true)
    (h : wpAny (model prog w) A (call (.ref f) [.ref x, a]) (fun v s' => ∃ r, v = .bool r ∧ Q (.bool r) s') E s) : wpAny (model prog w) A (richCompare .Eq a (.ref x)) Q E s := by
  have X := X₀.keeps F.keep
  unfold richCompare
  simp only [one]
  refine wpAny_holding (wpAny_bind (wpAny_cRoomFor hu ?_))
  refine wpAny_bind (wpAny_typeOf hT (wpAny_bind (I.type.here ?_)))
  split
  · refine wpAny_bind ((PySem.W.looks_subIn X hs).here ?_)
    simp only [Bool.false_eq_true, if_false]
    refine wpAny_bind (wpAny_tryCompare_declines hT sl (no ?_))
    simp only [Bool.not_false, if_true]
    have two : wpAny (model prog w) A (tryCompare (.ref x) "__eq__" a) (fun r s' => ∃ v, r = some v ∧ Q v s') E s := by
      unfold tryCompare
      refine wpAny_bind (PySem.W.ifBound_K X I he hf (wpAny_mono h (fun v s' hv => ?_) fun _ _ e => e))
      obtain ⟨r, rfl, q⟩ := hv
      exact wpAny_pure ⟨_, rfl, q⟩
    refine wpAny_bind (wpAny_mono two (fun r s' z => ?_) fun _ _ e => e)
    obtain ⟨v, rfl, hq⟩ := z
    exact wpAny_pure hq
  · rename_i q
    exact absurd (by simp) q
end
end V3

set_option Elab.async false
set_option linter.all false
set_option maxRecDepth 100000
namespace V3
open PySem PySem.Spec PyProof.Rows L2
/-- what of a class is wanted where its objects stand behind texts, None and tuples -/
structure Behind (K : PySem.W.Frag) (C : Addr) : Prop where
  s : PySem.W.subIn K (.ref C) (.type "str") = some false
  n : PySem.W.subIn K (.ref C) (.type "NoneType") = some false
  t : PySem.W.subIn K (.ref C) (.type "tuple") = some false
inductive Plain (H : Hp) : V → Prop where
  | str (z : Str) : Plain H (.str z)
  | non : Plain H .non
  | tup {b : Addr} {ys : List V} (h : H b = some (.tup ys)) : Plain H (.ref b)
section
variable {prog : Program} {w : World} {A : Around} {E : Value → Shared → Prop} {s : Shared}
theorem eqB_str {z : Str} {t : Tok} {a : Addr} {Q : Bool → Shared → Prop} (h : wpAny (model prog w) A (richCompare .Eq (.str z t) (.ref a)) (fun v s' => ∃ r, v = .bool r ∧ Q r s') E s) :
    wpAny (model prog w) A (eqBool (.str z t) (.ref a)) Q E s := by
  unfold eqBool
  refine wpAny_holding (wpAny_ite_split (fun q => absurd (eq_of_beq q) (fun e => nomatch e)) fun _ => ?_)
  refine wpAny_bind (wpAny_mono h (fun v s' hv => ?_) fun _ _ x => x)
  obtain ⟨r, rfl, q⟩ := hv
  exact wpAny_truthy_bool q
theorem eqB_non {a : Addr} {Q : Bool → Shared → Prop} (h : wpAny (model prog w) A (richCompare .Eq .none (.ref a)) (fun v s' => ∃ r, v = .bool r ∧ Q r s') E s) :
    wpAny (model prog w) A (eqBool .none (.ref a)) Q E s := by
  unfold eqBool
  refine wpAny_holding (wpAny_ite_split (fun q => absurd (eq_of_beq q) (fun e => nomatch e)) fun _ => ?_)
  refine wpAny_bind (wpAny_mono h (fun v s' hv => ?_) fun _ _ x => x)
  obtain ⟨r, rfl, q⟩ := hv
  exact wpAny_truthy_bool q
end
section
variable {X : Cx} {n : Nat}
/-- x in (..), x of an own class, no item equal to it -/
def rInO (K : PySem.W.Frag) (FF : Addr → Sp → XK → Prop) : R2 := fun x y H Q => ∃ (a p C dx : Addr) (fs : List (Str × V)) (xs : List V) (sp : Sp) (E : XK), x = .ref a ∧ y = .ref p ∧ H a = some (.ins C dx fs) ∧ H p = some (.tup xs) ∧
  (∀ z ∈ xs, Plain H z) ∧ Behind K C ∧ FF C sp E ∧ (∀ z ∈ xs, sp [.ref a, z] H (fun v H' => v = .bl false ∧ H' = H) E) ∧ Q (.bl false) H
theorem op_inO {FF : Addr → Sp → XK → Prop} (hF : ∀ C sp E, FF C sp E → ∃ (CX : CXT) (f : Addr) (fd : FuncData) (ps : List Str), FnOk X.prog X.w X.K X.mg X.base CX n f fd ps sp ∧ EqCls X.K C f ∧ Binds X.K fd ps [] ∧ Passes CX X E) (hr : Room (n + 1) X.A) :
    OpR X (compareOp .In) (rInO X.K FF) := by
  intro pins s σ H x y v u Q I rx ry hq
  obtain ⟨a, p, C, dx, fs, xs, sp, E, rfl, rfl, ha, hp, pl, bh, ff, hsp, q⟩ := hq
  obtain ⟨CX, f, fd, ps, F, ec, bi, hx⟩ := hF C sp E ff
  cases rx
  cases ry
  obtain ⟨its, rv, ht, hz⟩ := I.tuple (SqT.of hp)
  obtain ⟨⟨c0, dd, da, sl⟩, ho, hc, m, hd⟩ := id ht
  simp only at hc hd
  subst hc hd
  show wpAny (model X.prog X.w) X.A (do return .bool (← contains (.ref p) (.ref a))) (EP X pins σ Q) X.xe s
  refine wpAny_bind (wpAny_contains_slot ⟨_, ho, rfl⟩ PySem.F.slot_tuple_contains (wpAny_mono (GQ.call_here (Q := fun v s' => v = .bool false ∧ Inv X pins σ H s') PySem.F.slot_tuple_contains ⟨_, ho, rfl⟩ PySem.F.entry_tuple_contains (PySem.F.args_tuple_contains_2 _ _)
    (tuple_none p its.toArray m dd sl (.ref a) (fun _ s' => Inv X pins σ H s') ?_ (fun s' J => ⟨rfl, J⟩) ho I)) (fun v s' hv => ?_) fun _ _ e => e))
  · intro i hi s' J
    have hi2 : i < its.length := by simpa using hi
    have hi3 : i < xs.length := by rw [rv.length]; exact hi2
    obtain ⟨u, hu, ru⟩ := rv.get (List.getElem?_eq_getElem hi3)
    have eu : its.toArray[i] = u := by
      rw [List.getElem?_eq_getElem hi2] at hu
      simpa using Option.some.inj hu
    rw [eu]
    have mem : xs[i] ∈ xs := List.getElem_mem hi3
    have pz := pl _ mem
    have own := hsp _ mem
    generalize xs[i] = z at ru pz own
    obtain ⟨mA, O, _⟩ := ins_get J.hok ha
    obtain ⟨od, IA, _⟩ := O.look
    obtain ⟨mm, hFr⟩ := J.fr
    have run : wpAny (model X.prog X.w) X.A.in1 (call (.ref f) [.ref a, u]) (fun v s2 => ∃ r, v = .bool r ∧ r = false ∧ Inv X pins σ H s2) X.xe s' :=
      wpAny_mono (run_own (x := .ref a) (y := z) ⟨hr.in1, rfl⟩ F bi hx J rfl ru own) (fun w s2 k => by
        obtain ⟨z2, H', J2, rz, ez, eH⟩ := k
        subst ez
        subst eH
        cases rz
        exact ⟨false, rfl, rfl, J2⟩) fun _ _ e => e
    have hu1 : X.A.in1.units < cLine := hr.in1.units0
    cases pz with
    | str zz =>
      obtain ⟨t, rfl⟩ := ru
      refine eqB_str (turned_K (T := "str") hu1 hFr J.ok.mod.kin IA (typeIs_str _ _ _) PySem.F.slot_str_eq rfl bh.s (fun k => str_declines IA.at_ rfl k) ec.eq ec.fn (wpAny_mono run (fun v s2 k => ?_) fun _ _ e => e))
      obtain ⟨r, rfl, e, J2⟩ := k
      exact ⟨r, rfl, r, rfl, e, J2⟩
    | non =>
      cases ru
      refine eqB_non (turned_K (T := "NoneType") hu1 hFr J.ok.mod.kin IA (typeIs_none _) PySem.F.slot_NoneType_eq rfl bh.n (fun k => none_declines k) ec.eq ec.fn (wpAny_mono run (fun v s2 k => ?_) fun _ _ e => e))
      obtain ⟨r, rfl, e, J2⟩ := k
      exact ⟨r, rfl, r, rfl, e, J2⟩
    | @tup b ys hb =>
      cases ru
      obtain ⟨its2, r2, ht2, hz2⟩ := J.tuple (SqT.of hb)
      have ne : b ≠ a := by
        intro e
        subst e
        rw [ha] at hb
        cases hb
      obtain ⟨o2, ho2, hc2, _⟩ := id ht2
      refine GQ.eqBool_refG ne (turned_K (T := "tuple") hu1 hFr J.ok.mod.kin IA ⟨o2, ho2, hc2⟩ PySem.F.slot_tuple_eq (by first | rfl | simp [oneThing_ref]) bh.t (fun k => tup_declines J.kIn IA bh.t ht2 k) ec.eq ec.fn (wpAny_mono run (fun v s2 k => ?_) fun _ _ e => e))
      obtain ⟨r, rfl, e, J2⟩ := k
      exact ⟨r, rfl, r, rfl, e, J2⟩
  · obtain ⟨rfl, J⟩ := hv
    exact wpAny_truthy_bool (wpAny_pure ⟨.bl false, H, J, rfl, q⟩)
end
end V3

set_option Elab.async false
set_option linter.all false
set_option maxRecDepth 100000
namespace V3
open PySem L2 TL
def num (i : Int) : Str := Str.ofString (toString i)
def Am (i : Int) : Prop := i.natAbs ≤ 10000000000000000000000000000000000000000
theorem am_log {i : Int} (h : Am i) : i.natAbs.log2 < 1920 := Nat.lt_of_lt_of_le (PySem.Flt.log2_lt_of (k := 140) (by decide) (by
  have : (2 : Nat) ^ 140 = 1393796574908163946345982392040522594123776 := by decide
  unfold Am at h
  omega)) (by decide)
theorem num_len {i : Int} (h : Am i) : (num i).length ≤ 1921 := PyProof.Rows.int_text_len_1921 (am_log h)
theorem app_len (x y : Str) : (x ++ y).length = x.length + y.length := PySem.Str.length_append x y
theorem small {n : Nat} (h : n ≤ 10000) : n ≤ sizeLine := Nat.le_trans h (by decide)
def sp1 : Str := " "
theorem tl_num' {t : Int} (h : 0 ≤ t) : tl (num t) = numL t.toNat := by
  have e : ((t.toNat : Nat) : Int) = t := by omega
  have z := tl_num t.toNat
  rw [e] at z
  exact z
theorem num_free {t : Int} {s : Nat} (h : 0 ≤ t) (hs : s < 48 ∨ 57 < s) : s ∉ tl (num t) := by
  rw [tl_num' h]
  exact numL_free hs
theorem sp_tl : tl sp1 = [32] := by decide +kernel
theorem Same.new {p : Addr} {H : Hp} {o : HO} (hp : H p = none) : Same H (upd H p o) := fun c u h => by rw [upd_ne (ne_of_none h hp)]; exact h
theorem made_same {H : Hp} {y dy : Addr} {o1 o2 : HO} (ny : H y = none) (ndy : H dy = none) : Same H (upd (upd H dy o1) y o2) := fun b o e => by
  rw [upd_ne (ne_of_none e ny), upd_ne (ne_of_none e ndy)]
  exact e
theorem made_same2 {H : Hp} {y dy : Addr} {o1 o2 o3 : HO} (ny : H y = none) (ndy : H dy = none) : Same H (upd (upd (upd H dy o1) y o2) y o3) := fun b o e => by
  rw [upd_ne (ne_of_none e ny), upd_ne (ne_of_none e ny), upd_ne (ne_of_none e ndy)]
  exact e
def SameX (b : Addr) (H H' : Hp) : Prop := ∀ c o, c ≠ b → H c = some o → H' c = some o
theorem SameX.refl {b : Addr} {H : Hp} : SameX b H H := fun _ _ _ h => h
theorem SameX.trans {b : Addr} {H H1 H2 : Hp} (s : SameX b H H1) (t : SameX b H1 H2) : SameX b H H2 := fun c o n h => t c o n (s c o n h)
theorem SameX.of {b : Addr} {H H' : Hp} (s : Same H H') : SameX b H H' := fun c o _ h => s c o h
theorem SameX.box {b : Addr} {H : Hp} {o : HO} : SameX b H (upd H b o) := fun c _ n h => by rw [upd_ne n]; exact h
def Pre (b : Addr) (H H' : Hp) : Prop := SameX b H H' ∧ ∃ u v, BoxOk u v ∧ H' b = some (box u v)
theorem Pre.trans {b : Addr} {H H1 H2 : Hp} (s : Pre b H H1) (t : Pre b H1 H2) : Pre b H H2 := ⟨s.1.trans t.1, t.2⟩
theorem Pre.then {b : Addr} {H H1 H2 : Hp} (s : Pre b H H1) (t : Same H1 H2) : Pre b H H2 := by
  obtain ⟨h, u, v, ok, e⟩ := s
  exact ⟨h.trans (SameX.of t), u, v, ok, t _ _ e⟩
theorem Pre.box {b : Addr} {H : Hp} {u v : Int} (ok : BoxOk u v) : Pre b H (upd H b (box u v)) := ⟨SameX.box, u, v, ok, upd_same⟩
theorem Pre.start {b : Addr} {H : Hp} {u v : Int} (ok : BoxOk u v) (h : H b = some (V3.box u v)) : Pre b H H := ⟨SameX.refl, u, v, ok, h⟩
def Keep (H H' : Hp) : Prop := ∀ c o, (∀ xs, o ≠ .lst xs) → H c = some o → H' c = some o
theorem Keep.of {H H' : Hp} (s : Same H H') : Keep H H' := fun c o _ h => s c o h
theorem Keep.lst {H : Hp} {D : Addr} {xs : List V} {o : HO} (hD : H D = some (.lst xs)) : Keep H (upd H D o) := fun c u n h => by
  have nc : c ≠ D := fun e => by
    subst e
    rw [hD] at h
    injection h with h
    exact n _ h.symm
  rw [upd_ne nc]
  exact h
theorem Keep.pre {H H' : Hp} {b : Addr} {xs : List V} (hb : H b = some (.lst xs)) (s : SameX b H H') : Keep H H' := fun c u n h => by
  have nc : c ≠ b := fun e => by
    subst e
    rw [hb] at h
    injection h with h
    exact n _ h.symm
  exact s c u nc h
theorem at_end {α : Type} {xs : List α} {x y : α} {i : Nat} (h : (xs ++ [x])[i]? = some y) : (i < xs.length ∧ xs[i]? = some y) ∨ (i = xs.length ∧ y = x) := by
  by_cases c : i < xs.length
  · exact .inl ⟨c, by rw [List.getElem?_append_left c] at h; exact h⟩
  · rw [List.getElem?_append_right (by omega)] at h
    obtain ⟨l, e⟩ := List.getElem?_eq_some_iff.mp h
    have z : i - xs.length = 0 := by simpa using l
    exact .inr ⟨by omega, by simp [z] at e; exact e.symm⟩
theorem at_old {α : Type} {xs : List α} {x y : α} {i : Nat} (h : xs[i]? = some y) : (xs ++ [x])[i]? = some y := by
  have l := (List.getElem?_eq_some_iff.mp h).1
  rw [List.getElem?_append_left l]
  exact h
theorem at_new {α : Type} {xs : List α} {x : α} {n : Nat} (h : xs.length = n) : (xs ++ [x])[n]? = some x := by
  subst h
  simp
theorem take_next {α : Type} {ms : List α} {m : α} {i : Nat} (h : ms[i]? = some m) : ms.take (i + 1) = ms.take i ++ [m] := by
  rw [List.take_add_one, h]
  rfl
theorem Same.upn {H H1 : Hp} {b : Addr} {o : HO} (s : Same H H1) (nb : H b = none) : Same H (upd H1 b o) := fun c u e => by
  rw [upd_ne (ne_of_none e nb)]
  exact s c u e
theorem Pre.all {b : Addr} {H H' : Hp} (p : Pre b H H') (n : H b = none) : Same H H' := fun c o h => p.1 c o (ne_of_none h n) h
end V3

set_option Elab.async false
set_option linter.all false
set_option maxRecDepth 100000
namespace V3
open PySem L2 TL
/-! rows of houses and of reports: their words and texts -/
def kindL : List Str := ["first", "new", "minus", "plus"]
def stateL : List Str := ["open", "shut"]
def deedL : List Str := ["whole", "part", "right"]
def placeL : List Str := ["now", "there"]
def whoseL : List Str := ["own", "target", "top", "deed"]
inductive Rw where
  | lt (k s d p : Str)
  | ct (k : Str) (w : Int) (o : Str)
  deriving DecidableEq
def Wt (w : Int) : Prop := w = -1 ∨ w = 0 ∨ w = 1
def Rw.ok : Rw → Prop
  | .lt k s d p => k ∈ kindL ∧ s ∈ stateL ∧ d ∈ deedL ∧ p ∈ placeL ∧ (d = "right" → k = "first" ∨ k = "new")
  | .ct k w o => k ∈ kindL ∧ Wt w ∧ o ∈ whoseL
def Rw.words : Rw → List Str
  | .lt k s d p => [k, s, d, p]
  | .ct k w o => [k, num w, o]
def Rw.text (m : Rw) : Str := Str.join sp1 m.words
def Rw.kind : Rw → Nat
  | .lt _ _ _ _ => 0
  | .ct _ _ _ => 1
theorem all_free : ∀ p ∈ kindL ++ stateL ++ deedL ++ placeL ++ whoseL ++ [num (-1), num 0, num 1], (32 ∉ tl p ∧ 10 ∉ tl p) ∧ p.length ≤ 6 := by decide +kernel
theorem wt_word {w : Int} (h : Wt w) : num w ∈ [num (-1), num 0, num 1] := by
  rcases h with rfl | rfl | rfl <;> simp
theorem word_ok {m : Rw} (h : m.ok) : ∀ p ∈ m.words, (32 ∉ tl p ∧ 10 ∉ tl p) ∧ p.length ≤ 6 := by
  intro p hp
  refine all_free p ?_
  cases m with
  | lt k s d q =>
    obtain ⟨a, b, c, e, _⟩ := h
    simp only [Rw.words, List.mem_cons, List.not_mem_nil, or_false] at hp
    simp only [List.mem_append]
    rcases hp with rfl | rfl | rfl | rfl
    · exact .inl (.inl (.inl (.inl (.inl a))))
    · exact .inl (.inl (.inl (.inl (.inr b))))
    · exact .inl (.inl (.inl (.inr c)))
    · exact .inl (.inl (.inr e))
  | ct k w o =>
    obtain ⟨a, b, c⟩ := h
    simp only [Rw.words, List.mem_cons, List.not_mem_nil, or_false] at hp
    simp only [List.mem_append]
    rcases hp with rfl | rfl | rfl
    · exact .inl (.inl (.inl (.inl (.inl a))))
    · exact .inr (wt_word b)
    · exact .inl (.inr c)
theorem rw_ne (m : Rw) : m.words ≠ [] := by cases m <;> exact (fun z => nomatch z)
theorem rw_split {m : Rw} (h : m.ok) : Txt.split m.text sp1 = m.words := by
  unfold Rw.text
  have z := split_join sp_tl (by decide +kernel) (rw_ne m) fun p hp => (word_ok h p hp).1.1
  rw [join_eq] at z
  exact z
theorem wt_inj {v w : Int} (hv : Wt v) (hw : Wt w) (e : num v = num w) : v = w := by
  have d1 : num (-1) ≠ num 0 := by decide +kernel
  have d2 : num (-1) ≠ num 1 := by decide +kernel
  have d3 : num 0 ≠ num 1 := by decide +kernel
  rcases hv with rfl | rfl | rfl <;> rcases hw with rfl | rfl | rfl <;> first | rfl | exact absurd e d1 | exact absurd e d2 | exact absurd e d3 | exact absurd e.symm d1 | exact absurd e.symm d2 | exact absurd e.symm d3
theorem rw_inj {m n : Rw} (hm : m.ok) (hn : n.ok) (h : m.text = n.text) : m = n := by
  have e : m.words = n.words := by rw [← rw_split hm, ← rw_split hn, h]
  cases m with
  | lt k s d p =>
    cases n with
    | lt k' s' d' p' =>
      simp only [Rw.words, List.cons.injEq, and_true] at e
      obtain ⟨rfl, rfl, rfl, rfl⟩ := e
      rfl
    | ct k' w' o' => simp [Rw.words] at e
  | ct k w o =>
    cases n with
    | lt k' s' d' p' => simp [Rw.words] at e
    | ct k' w' o' =>
      simp only [Rw.words, List.cons.injEq, and_true] at e
      obtain ⟨rfl, ew, rfl⟩ := e
      rw [wt_inj hm.2.1 hn.2.1 ew]
theorem rw_dec {m n : Rw} (hm : m.ok) (hn : n.ok) : decide (m.text = n.text) = decide (m = n) := by
  by_cases h : m = n
  · rw [h, decide_eq_true rfl, decide_eq_true rfl]
  · rw [decide_eq_false h, decide_eq_false (fun e => h (rw_inj hm hn e))]
/-- what the two classes write -/
theorem let_text (k s d p : Str) : Str.empty ++ k ++ " " ++ s ++ " " ++ d ++ " " ++ p = (Rw.lt k s d p).text := ext_tl (by
  unfold Rw.text
  rw [tl_join]
  have e : tl (" " : Str) = [32] := by decide +kernel
  simp only [tl_append, Rw.words, List.map, joinL, sp_tl, e]
  simp [Str.empty, tl])
theorem cnt_text (k : Str) (w : Int) (o : Str) : Str.empty ++ k ++ " " ++ num w ++ " " ++ o = (Rw.ct k w o).text := ext_tl (by
  unfold Rw.text
  rw [tl_join]
  have e : tl (" " : Str) = [32] := by decide +kernel
  simp only [tl_append, Rw.words, List.map, joinL, sp_tl, e]
  simp [Str.empty, tl])
theorem inV_str {k : Str} {L : List Str} : inV (.str k) (L.map V.str) = decide (k ∈ L) := by
  induction L with
  | nil => rfl
  | cons a r ih =>
    have e : inV (.str k) ((a :: r).map V.str) = (a == k || inV (.str k) (r.map V.str)) := rfl
    rw [e, ih]
    by_cases q : k = a
    · subst q
      simp
    · have z : (a == k) = false := Bool.eq_false_iff.mpr fun w => q (eq_of_beq w).symm
      rw [z]
      simp [q]
theorem flat_strs (L : List Str) : (L.map V.str).all flatV = true := by
  induction L with
  | nil => rfl
  | cons a r ih => simpa [flatV] using ih
/-- fields -/
theorem putF_ne {f g : Str} {v x : V} {r : List (Str × V)} (h : g ≠ f) : putF f v ((g, x) :: r) = (g, x) :: putF f v r := by
  show (if g = f then _ else _) = _
  rw [if_neg h]
theorem lk_ne {f g : Str} {v : V} {r : List (Str × V)} (h : (g == f) = false) : List.lookup g ((f, v) :: r) = List.lookup g r := by
  simp [List.lookup, h]
structure Rc where
  L : Addr
  C : Addr
def Rc.at (c : Rc) : Nat → Addr
  | 0 => c.L
  | _ => c.C
def letF (k s d p : V) : List (Str × V) := [("kind", k), ("state", s), ("deed", d), ("place", p)]
def cntF (k w o : V) : List (Str × V) := [("kind", k), ("weight", w), ("whose", o)]
def Rw.fs : Rw → List (Str × V)
  | .lt k s d p => letF (.str k) (.str s) (.str d) (.str p)
  | .ct k w o => cntF (.str k) (.int w) (.str o)
def Rw.obj (c : Rc) (dx : Addr) (m : Rw) : HO := .ins (c.at m.kind) dx m.fs
def RwAt (c : Rc) (H : Hp) (v : V) (m : Rw) : Prop := ∃ x dx, v = .ref x ∧ H x = some (m.obj c dx)
theorem RwAt.keep {c : Rc} {H H' : Hp} {v : V} {m : Rw} (h : RwAt c H v m) (s : Keep H H') : RwAt c H' v m := by
  obtain ⟨x, dx, e, hx⟩ := h
  exact ⟨x, dx, e, s _ _ (fun _ z => by cases z) hx⟩
theorem RwAt.same {c : Rc} {H H' : Hp} {v : V} {m : Rw} (h : RwAt c H v m) (s : Same H H') : RwAt c H' v m := h.keep (Keep.of s)
theorem rkind_lt (m : Rw) : m.kind < 2 := by cases m <;> (simp only [Rw.kind]; omega)
theorem let_put (k s d p : V) : putF "place" p (putF "deed" d (putF "state" s (putF "kind" k []))) = letF k s d p := by
  have a1 : ("kind" : Str) ≠ "state" := by decide +kernel
  have a2 : ("kind" : Str) ≠ "deed" := by decide +kernel
  have a3 : ("kind" : Str) ≠ "place" := by decide +kernel
  have a4 : ("state" : Str) ≠ "deed" := by decide +kernel
  have a5 : ("state" : Str) ≠ "place" := by decide +kernel
  have a6 : ("deed" : Str) ≠ "place" := by decide +kernel
  show putF "place" p (putF "deed" d (putF "state" s [("kind", k)])) = _
  rw [putF_ne a1]
  show putF "place" p (putF "deed" d [("kind", k), ("state", s)]) = _
  rw [putF_ne a2, putF_ne a4]
  show putF "place" p [("kind", k), ("state", s), ("deed", d)] = _
  rw [putF_ne a3, putF_ne a5, putF_ne a6]
  rfl
theorem cnt_put (k w o : V) : putF "whose" o (putF "weight" w (putF "kind" k [])) = cntF k w o := by
  have a1 : ("kind" : Str) ≠ "weight" := by decide +kernel
  have a2 : ("kind" : Str) ≠ "whose" := by decide +kernel
  have a3 : ("weight" : Str) ≠ "whose" := by decide +kernel
  show putF "whose" o (putF "weight" w [("kind", k)]) = _
  rw [putF_ne a1]
  show putF "whose" o [("kind", k), ("weight", w)] = _
  rw [putF_ne a2, putF_ne a3]
  rfl
theorem let_kind (k s d p : V) : (letF k s d p).lookup ("kind" : Str) = some k := rfl
theorem let_state (k s d p : V) : (letF k s d p).lookup ("state" : Str) = some s := by
  unfold letF
  rw [lk_ne (by decide +kernel)]
  rfl
theorem let_deed (k s d p : V) : (letF k s d p).lookup ("deed" : Str) = some d := by
  unfold letF
  rw [lk_ne (by decide +kernel), lk_ne (by decide +kernel)]
  rfl
theorem let_place (k s d p : V) : (letF k s d p).lookup ("place" : Str) = some p := by
  unfold letF
  rw [lk_ne (by decide +kernel), lk_ne (by decide +kernel), lk_ne (by decide +kernel)]
  rfl
theorem cnt_kind (k w o : V) : (cntF k w o).lookup ("kind" : Str) = some k := rfl
theorem cnt_weight (k w o : V) : (cntF k w o).lookup ("weight" : Str) = some w := by
  unfold cntF
  rw [lk_ne (by decide +kernel)]
  rfl
theorem cnt_whose (k w o : V) : (cntF k w o).lookup ("whose" : Str) = some o := by
  unfold cntF
  rw [lk_ne (by decide +kernel), lk_ne (by decide +kernel)]
  rfl
end V3

set_option Elab.async false
set_option linter.all false
set_option maxRecDepth 100000
namespace V3
open PySem L2 TL
abbrev sWrongWord : Stmt := top 20
abbrev sLInit : Stmt := inClass (top 18) 0
abbrev sLStr : Stmt := inClass (top 18) 2
/-! the rows of houses alone -/
structure RowH (K : PySem.W.Frag) (mg : Str → Option Value) (KA SA DA PA : Addr) : Prop where
  kinds : mg "KINDS" = some (.ref KA)
  states : mg "STATES" = some (.ref SA)
  deeds : mg "DEEDS" = some (.ref DA)
  places : mg "PLACES" = some (.ref PA)
  tK : ∀ H, SqT K H KA (kindL.map V.str)
  tS : ∀ H, SqT K H SA (stateL.map V.str)
  tD : ∀ H, SqT K H DA (deedL.map V.str)
  tP : ∀ H, SqT K H PA (placeL.map V.str)
structure BltR (mg : Str → Option Value) : Prop where
  isi : mg "isinstance" = none
  int : mg "int" = none
  bool : mg "bool" = none
  str : mg "str" = none
def spIntI : Sp := fun vs H Q _ => ∃ i : Int, vs = [.int i] ∧ Q (.bl true) H
def spWord : Sp := fun vs H Q _ => ∃ k s d p, vs = [.str k, .str s, .str d, .str p] ∧ (Rw.lt k s d p).ok ∧ ∀ H', Same H H' → Q .non H'
def spLInit (c : Rc) : Sp := fun vs H Q _ => ∃ x dx k s d p, vs = [.ref x, .str k, .str s, .str d, .str p] ∧ H x = some (.ins c.L dx []) ∧ (Rw.lt k s d p).ok ∧ ∀ H', SameX x H H' → H' x = some ((Rw.lt k s d p).obj c dx) → Q .non H'
def spRS (c : Rc) (k : Nat) : Sp := fun vs H Q _ => ∃ (x dx : Addr) (m : Rw), vs = [.ref x] ∧ H x = some (m.obj c dx) ∧ m.kind = k ∧ m.ok ∧ Q (.str m.text) H
theorem lt_put {f : Str} {v : V} {n : Nat} : ∀ {fs : List (Str × V)}, fs.length < n → (putF f v fs).length < n + 1
  | [], h => by
    show 1 < n + 1
    have : 0 < n := h
    omega
  | (g, x) :: r, h => by
    show (if g = f then (g, v) :: r else (g, x) :: putF f v r).length < n + 1
    have l : r.length + 1 < n := h
    split
    · show r.length + 1 < n + 1
      omega
    · have z := lt_put (f := f) (v := v) (n := n - 1) (fs := r) (by omega)
      show (putF f v r).length + 1 < n + 1
      omega
theorem SameX.upd {x : Addr} {H H' : Hp} {o : HO} (s : SameX x H H') : SameX x H (upd H' x o) := fun c u n h => by
  rw [upd_ne n]
  exact s c u n h
/-- what an object's class must have of its fields -/
structure LetC (K : PySem.W.Frag) (c : Rc) : Prop where
  cl : Cls K c.L
  k : NoAttr K c.L "kind"
  s : NoAttr K c.L "state"
  d : NoAttr K c.L "deed"
  p : NoAttr K c.L "place"
section
variable {P : Program} {w : World} {K : PySem.W.Frag} {mg : Str → Option Value} {base : Heap} {KA SA DA PA : Addr}
theorem scWord : FnScope ["kind", "state", "deed", "place"] ["kind", "state", "deed", "place"] (defScope sWrongWord) := ⟨rfl, rfl, rfl, by decide +kernel, rfl, by decide +kernel, by decide +kernel⟩
theorem scLInit : FnScope ["self", "kind", "state", "deed", "place", "wrong"] ["self", "kind", "state", "deed", "place"] (defScope sLInit) := ⟨rfl, rfl, rfl, by decide +kernel, rfl, by decide +kernel, by decide +kernel⟩
theorem scLStr : FnScope ["self"] ["self"] (defScope sLStr) := ⟨rfl, rfl, rfl, by decide +kernel, rfl, by decide +kernel, by decide +kernel⟩
theorem ok_word {f : Addr} {fd : FuncData} (F : Fun K "wrong_word" "wrong_word" sWrongWord f fd) (T : RowH K mg KA SA DA PA) : FnOk P w K mg base CX0 1 f fd ["kind", "state", "deed", "place"] spWord := by
  refine F.ok scWord (fun vs H Q E h => ?_) (fun cdv A outer s H vs Q E hr h => ?_)
  · obtain ⟨k, s, d, p, rfl, _⟩ := h
    rfl
  · obtain ⟨k, s, d, p, rfl, ⟨k1, s1, d1, p1, r1⟩, q⟩ := h
    refine ⟨_, pss_cons (ps_if (pt_cmpR op_notIn_seq (pv 0) (pe_glob (v := .ref KA) rfl T.kinds rfl) rfl) (pss_one (ps_ret pe_str)) pss_nil)
      (pss_cons (ps_if (pt_cmpR op_notIn_seq (pv 1) (pe_glob (v := .ref SA) rfl T.states rfl) rfl) (pss_one (ps_ret pe_str)) pss_nil)
      (pss_cons (ps_if (PW.pt (pw_or (pt_cmpR op_notIn_seq (pv 2) (pe_glob (v := .ref DA) rfl T.deeds rfl) rfl) (pw_or1 (PW.pt (pw_and (pt_cmpR op_eq (pv 2) pe_str (nomark _)) (pw_and1 (pt_cmpR op_in_seq (pv 0) (pe_tup (pa_cons pe_str (pa_cons pe_str pa_nil))) rfl))))))) (pss_one (ps_ret pe_str)) pss_nil)
      (pss_cons (ps_if (pt_cmpR op_notIn_seq (pv 3) (pe_glob (v := .ref PA) rfl T.places rfl) rfl) (pss_one (ps_ret pe_str)) pss_nil)
      (pss_one (ps_ret pe_non))))), ?_⟩
    refine ⟨_, rfl, KA, _, rfl, .inr (T.tK _), rfl, flat_strs _, _, rfl, ?_⟩
    rw [inV_str, decide_eq_true k1]
    refine iteF ⟨_, rfl, SA, _, rfl, .inr (T.tS _), rfl, flat_strs _, _, rfl, ?_⟩
    rw [inV_str, decide_eq_true s1]
    refine iteF ⟨_, rfl, DA, _, rfl, .inr (T.tD _), rfl, flat_strs _, _, rfl, ?_⟩
    rw [inV_str, decide_eq_true d1]
    refine iteF ⟨_, rfl, rfl, _, rfl, ?_⟩
    have last : ∀ H', Same H H' → Q .non H' := q
    by_cases e : d = "right"
    · subst e
      rw [decide_eq_true rfl]
      refine iteT ⟨_, rfl, (by show 2 ≤ sizeLine; decide), fun t nt => ⟨t, _, rfl, .inr (SqT.of upd_same), rfl, rfl, _, rfl, ?_⟩⟩
      have z : inV (.str k) [.str "minus", .str "plus"] = false := by
        rcases r1 rfl with rfl | rfl <;> decide +kernel
      have z2 : (if false = true then !inV (V.str k) [.str "minus", .str "plus"] else inV (V.str k) [.str "minus", .str "plus"]) = false := by rw [if_neg Bool.false_ne_true, z]
      rw [z2]
      refine iteF ⟨_, rfl, PA, _, rfl, .inr (T.tP _), rfl, flat_strs _, _, rfl, ?_⟩
      rw [inV_str, decide_eq_true p1]
      exact iteF (last _ (Same.new nt))
    · have e2 : decide (V.str d = V.str "right") = false := decide_eq_false (fun z => e (by injection z))
      rw [e2]
      refine iteF ⟨_, rfl, PA, _, rfl, .inr (T.tP _), rfl, flat_strs _, _, rfl, ?_⟩
      rw [inV_str, decide_eq_true p1]
      exact iteF (last _ (Same.refl H))
theorem ok_lInit {f : Addr} {c : Rc} {fd : FuncData} (F : Fun K "__init__" "Let.__init__" sLInit f fd) (L : LetC K c) (cW : Cal P w K mg base CX0 "wrong_word" 1 ["kind", "state", "deed", "place"] spWord) : FnOk P w K mg base CX0 2 f fd ["self", "kind", "state", "deed", "place"] (spLInit c) := by
  obtain ⟨fW, fdW, GW, mW, kW, bW⟩ := cW
  refine F.ok scLInit (fun vs H Q E h => ?_) (fun cdv A outer s H vs Q E hr h => ?_)
  · obtain ⟨x, dx, k, s, d, p, rfl, _⟩ := h
    rfl
  · obtain ⟨x, dx, k, s, d, p, rfl, hx, ok, q⟩ := h
    refine ⟨_, pss_cons (ps_set (i := 5) scLInit.nd rfl (Or.inl rfl) (pe_call GW hr rfl mW kW bW .nil pass0 (pa_cons (pv 1) (pa_cons (pv 2) (pa_cons (pv 3) (pa_cons (pv 4) pa_nil))))))
      (pss_cons (ps_if (pt_cmpR op_notN (pv 5) pe_non (nomark _)) (pss_one ps_never) pss_nil)
      (pss_cons (ps_fld (pv 0) (pv 1) rfl)
      (pss_cons (ps_fld (pv 0) (pv 2) rfl)
      (pss_cons (ps_fld (pv 0) (pv 3) rfl)
      (pss_one (ps_fld (pv 0) (pv 4) rfl)))))), ?_⟩
    refine ⟨_, rfl, _, rfl, _, rfl, _, rfl, k, s, d, p, rfl, ok, fun H1 s1 => ?_⟩
    refine ⟨_, rfl, rfl, _, rfl, iteF ?_⟩
    have hx1 := s1 _ _ hx
    refine ⟨_, rfl, _, rfl, x, c.L, dx, _, rfl, hx1, L.cl, L.k, (by show 0 < 1000; decide), ?_⟩
    refine ⟨_, rfl, _, rfl, x, c.L, dx, _, rfl, upd_same, L.cl, L.s, (by show 1 < 1000; decide), ?_⟩
    rw [upd_upd]
    refine ⟨_, rfl, _, rfl, x, c.L, dx, _, rfl, upd_same, L.cl, L.d, (lt_put (n := 999) (lt_put (n := 998) (by show 0 < 998; decide))), ?_⟩
    rw [upd_upd]
    refine ⟨_, rfl, _, rfl, x, c.L, dx, _, rfl, upd_same, L.cl, L.p, (lt_put (n := 999) (lt_put (n := 998) (lt_put (n := 997) (by show 0 < 997; decide)))), ?_⟩
    rw [upd_upd, let_put]
    exact q _ (SameX.of s1).upd upd_same
theorem ok_lStr {f : Addr} {c : Rc} {fd : FuncData} (F : Fun K "__str__" "Let.__str__" sLStr f fd) (L : LetC K c) : FnOk P w K mg base CX0 1 f fd ["self"] (spRS c 0) := by
  refine F.ok scLStr (fun vs H Q E h => ?_) (fun cdv A outer s H vs Q E hr h => ?_)
  · obtain ⟨x, dx, m, rfl, _⟩ := h
    rfl
  · obtain ⟨x, dx, m, rfl, hx, hk, ok, q⟩ := h
    cases m with
    | ct k w o => cases hk
    | lt k s d p =>
      have l : ∀ z ∈ (Rw.lt k s d p).words, z.length ≤ 6 := fun z hz => (word_ok ok z hz).2
      simp only [Rw.words, List.mem_cons, List.not_mem_nil, or_false, forall_eq_or_imp, forall_eq] at l
      obtain ⟨l1, l2, l3, l4⟩ := l
      have l0 : (Str.empty).length = 0 := rfl
      have lb : (" " : Str).length = 1 := by decide +kernel
      refine ⟨_, (pss_one (ps_ret (pe_joined (.cons (pe_fmt (pe_fld (pv 0) rfl)) (.cons pe_str (.cons (pe_fmt (pe_fld (pv 0) rfl)) (.cons pe_str (.cons (pe_fmt (pe_fld (pv 0) rfl)) (.cons pe_str (.cons (pe_fmt (pe_fld (pv 0) rfl)) .nil)))))))))), ?_⟩
      refine ⟨_, rfl, x, c.L, dx, _, _, rfl, hx, L.cl, L.k, let_kind .., .inl ⟨k, rfl, small (by omega), _, rfl, small (by rw [app_len]; omega), ?_⟩⟩
      refine ⟨_, rfl, small (by simp only [app_len]; omega), ?_⟩
      refine ⟨_, rfl, x, c.L, dx, _, _, rfl, hx, L.cl, L.s, let_state .., .inl ⟨s, rfl, small (by omega), _, rfl, small (by simp only [app_len]; omega), ?_⟩⟩
      refine ⟨_, rfl, small (by simp only [app_len]; omega), ?_⟩
      refine ⟨_, rfl, x, c.L, dx, _, _, rfl, hx, L.cl, L.d, let_deed .., .inl ⟨d, rfl, small (by omega), _, rfl, small (by simp only [app_len]; omega), ?_⟩⟩
      refine ⟨_, rfl, small (by simp only [app_len]; omega), ?_⟩
      refine ⟨_, rfl, x, c.L, dx, _, _, rfl, hx, L.cl, L.p, let_place .., .inl ⟨p, rfl, small (by omega), _, rfl, small (by simp only [app_len]; omega), ?_⟩⟩
      rw [← let_text] at q
      exact q
end
end V3

set_option Elab.async false
set_option linter.all false
set_option maxRecDepth 100000
namespace V3
open PySem L2 TL
abbrev sRows : Stmt := top 31
section
variable {X : Cx} {e : Expr} {o : Expr} {to te : TE}
def rJoinK (K : PySem.W.Frag) : V → List V → Hp → VK → Prop := fun x xs H Q => ∃ a p, ∃ ys : List Str, x = .str a ∧ xs = [.ref p] ∧ (SqL K H p (ys.map V.str) ∨ SqT K H p (ys.map V.str)) ∧
  (ys.map (·.length)).sum + ys.length * a.length ≤ 16777216 ∧ Q (.str (Txt.join a ys)) H
/-- the same rules, K said -/
theorem pe_joinK {K : PySem.W.Frag} {apos pos : Pos} (ho : PE X o to) (he : PE X e te) (hK : X.K = K := by rfl) (hs : starEach [e] X.env = [(false, eval e X.env)] := by rfl) (hbase : attributeBase o "join" X.env (eval o X.env) = eval o X.env := by rfl) (hline : (apos.endLine == pos.line) = true := by rfl) :
    PE X (.Call (.Attribute o "join" apos) [e] [] pos) (tM1 (rJoinK K) to te) := by
  subst hK
  exact pe_join ho he hs hbase hline
theorem pe_ixT {K : PySem.W.Frag} {a b : Expr} {ta tb : TE} {pos : Pos} (ha : PE X a ta) (hb : PE X b tb) (hs : PlainIx b) (hK : X.K = K := by rfl) : PE X (.Subscript a b pos) (tOp (rIxT K) ta tb) := by
  subst hK
  exact pe_ix ix_tup ha hb hs
theorem pe_ixL {K : PySem.W.Frag} {a b : Expr} {ta tb : TE} {pos : Pos} (ha : PE X a ta) (hb : PE X b tb) (hs : PlainIx b) (hK : X.K = K := by rfl) : PE X (.Subscript a b pos) (tOp (rIxL K) ta tb) := by
  subst hK
  exact pe_ix ix_list ha hb hs
end
/-- a list of values that stand for those of another list -/
def Ls {α : Type} (R : V → α → Prop) (vs : List V) (ms : List α) : Prop := vs.length = ms.length ∧ ∀ (i : Nat) (m : α), ms[i]? = some m → ∃ v, vs[i]? = some v ∧ R v m
theorem Ls.nil {α : Type} {R : V → α → Prop} : Ls R [] [] := ⟨rfl, fun i m h => by simp at h⟩
theorem Ls.imp {α : Type} {R R' : V → α → Prop} {vs : List V} {ms : List α} (d : Ls R vs ms) (h : ∀ v m, R v m → R' v m) : Ls R' vs ms := ⟨d.1, fun i m e => by
  obtain ⟨v, e', r⟩ := d.2 i m e
  exact ⟨v, e', h _ _ r⟩⟩
theorem Ls.push {α : Type} {R : V → α → Prop} {vs : List V} {ms : List α} {v : V} {m : α} (d : Ls R vs ms) (t : R v m) : Ls R (vs ++ [v]) (ms ++ [m]) := by
  refine ⟨by simp [d.1], fun i n hn => ?_⟩
  rcases at_end hn with ⟨_, q⟩ | ⟨rfl, rfl⟩
  · obtain ⟨w, e, t'⟩ := d.2 i n q
    exact ⟨w, at_old e, t'⟩
  · exact ⟨v, at_new d.1, t⟩
theorem Ls.get {α : Type} {R : V → α → Prop} {vs : List V} {ms : List α} {v : V} {i : Nat} (d : Ls R vs ms) (h : vs[i]? = some v) : ∃ m, ms[i]? = some m ∧ R v m := by
  have l := (List.getElem?_eq_some_iff.mp h).1
  have e := List.getElem?_eq_getElem (l := ms) (i := i) (by rw [← d.1]; exact l)
  obtain ⟨w, q, t⟩ := d.2 i _ e
  rw [h] at q
  injection q with q
  subst q
  exact ⟨_, e, t⟩
theorem Ls.get2 {α : Type} {R : V → α → Prop} {vs : List V} {ms : List α} {v : V} {i : Nat} {m : α} (d : Ls R vs ms) (h : vs[i]? = some v) (hm : ms[i]? = some m) : R v m := by
  obtain ⟨w, q, t⟩ := d.2 i _ hm
  rw [h] at q
  injection q with q
  subst q
  exact t
/-- the tuple of a row -/
def Rw.tupV : Rw → List V
  | .lt k s d p => [.str k, .str s, .str d, .str p]
  | .ct k w o => [.str k, .int w, .str o]
def TpAt (H : Hp) (v : V) (m : Rw) : Prop := ∃ p, v = .ref p ∧ H p = some (.tup m.tupV)
theorem TpAt.keep {H H' : Hp} {v : V} {m : Rw} (h : TpAt H v m) (s : Keep H H') : TpAt H' v m := by
  obtain ⟨p, e, hp⟩ := h
  exact ⟨p, e, s _ _ (fun _ z => by cases z) hp⟩
theorem TpAt.same {H H' : Hp} {v : V} {m : Rw} (h : TpAt H v m) (s : Same H H') : TpAt H' v m := h.keep (Keep.of s)
/-- tuples of rows, each of them a row of a kind -/
def RowLs (kd : Nat) (H : Hp) (vs : List V) (ms : List Rw) : Prop := Ls (fun v m => TpAt H v m ∧ m.ok ∧ m.kind = kd) vs ms
theorem RowLs.keep {kd : Nat} {H H' : Hp} {vs : List V} {ms : List Rw} (d : RowLs kd H vs ms) (s : Keep H H') : RowLs kd H' vs ms := d.imp fun _ _ h => ⟨h.1.keep s, h.2⟩
def spRows : Sp := fun vs H Q _ => ∃ (b : Addr) (u v : Int) (n : Int), vs = [.ref b, .int n] ∧ H b = some (box u v) ∧ BoxOk u v ∧ 0 ≤ n ∧ n ≤ 100 ∧
  ∀ (D : Addr) (xs : List V) (ms : List Rw) (H' : Hp), Pre b H H' → H' D = some (.lst xs) → D ≠ b → (∀ c o, c ≠ b → H c = some o → c ≠ D) → RowLs 0 H' xs ms → (ms.length : Int) = n → Q (.ref D) H'
def spLetOf (c : Rc) : Sp := fun vs H Q _ => ∃ (v : V) (m : Rw), vs = [v] ∧ TpAt H v m ∧ m.ok ∧ m.kind = 0 ∧ ∀ (x : V) (H' : Hp), Same H H' → RwAt c H' x m → Q x H'
structure MkR (P : Program) (w : World) (K : PySem.W.Frag) (mg : Str → Option Value) (base : Heap) (name : Str) (ps : List Str) (C : Addr) (k : Nat) (spI : Sp) : Prop where
  g : mg name = some (.ref C)
  ini : ∃ (f : Addr) (fd : FuncData), FnOk P w K mg base CX0 k f fd ps spI ∧ Mk K C f ∧ Binds K fd ps []
structure BltG (mg : Str → Option Value) : Prop where
  range : mg "range" = none
  str : mg "str" = none
theorem mk_let {c : Rc} {x dx : Addr} {H : Hp} {k s d p : Str} {R : VK} {E : XK} (ok : (Rw.lt k s d p).ok) (nx : H x = none) (ndx : H dx = none) (q : ∀ H', Same H H' → RwAt c H' (.ref x) (.lt k s d p) → R .non H') :
    spLInit c [.ref x, .str k, .str s, .str d, .str p] (upd (upd H dx (.own x)) x (.ins c.L dx [])) R E :=
  ⟨x, dx, k, s, d, p, rfl, upd_same, ok, fun H' s' hx => q H' (fun a o e => s' a o (ne_of_none e nx) (made_same nx ndx a o e)) ⟨x, dx, rfl, hx⟩⟩
theorem oneOf_at {K : PySem.W.Frag} {b l : Addr} {u v : Int} {H : Hp} {xs : List V} {Q : VK} (hb : H b = some (box u v)) (ok : BoxOk u v) (ne : l ≠ b) (hl : H l = some (.lst xs)) (h1 : 1 ≤ xs.length) (h2 : xs.length ≤ 1000)
    (k : ∀ x H', x ∈ xs → Pre b H H' → Q x H') : spOneOf K [.ref b, .ref l] H Q E :=
  ⟨b, l, u, v, xs, rfl, hb, ok, ne, SqL.of hl, h1, h2, fun x _ _ hx ok' => k x _ hx (Pre.box ok')⟩
theorem oneOf_new {K : PySem.W.Frag} {b l : Addr} {u v : Int} {H : Hp} {xs : List V} {Q : VK} (hb : H b = some (box u v)) (ok : BoxOk u v) (nl : H l = none) (h1 : 1 ≤ xs.length) (h2 : xs.length ≤ 1000)
    (k : ∀ x H', x ∈ xs → Pre b H H' → Q x H') : spOneOf K [.ref b, .ref l] (upd H l (.lst xs)) Q E0 := by
  have nbl : b ≠ l := ne_of_none hb nl
  refine oneOf_at (by rw [upd_ne nbl]; exact hb) ok (Ne.symm nbl) upd_same h1 h2 fun x H' hx p => k x H' hx ⟨fun c o n e => p.1 c o n (by rw [upd_ne (ne_of_none e nl)]; exact e), p.2⟩
section
variable {P : Program} {w : World} {K : PySem.W.Frag} {mg : Str → Option Value} {base : Heap}
abbrev CalOne (P : Program) (w : World) (K : PySem.W.Frag) (mg : Str → Option Value) (base : Heap) : Prop := Cal P w K mg base CX0 "_law_one_of" 2 ["_law_box", "_law_some"] (spOneOf K)
theorem scRows : FnScope ["_law_box", "_law_many", "_law_found", "_law_turn", "_law_kind", "_law_deeds", "_law_state"] ["_law_box", "_law_many"] (defScope sRows) := ⟨rfl, rfl, rfl, by decide +kernel, rfl, by decide +kernel, by decide +kernel⟩
theorem ok_rows {f : Addr} {fd : FuncData} (F : Fun K "_law_rows" "_law_rows" sRows f fd) (T : BltG mg) (cO : CalOne P w K mg base) : FnOk P w K mg base CX0 3 f fd ["_law_box", "_law_many"] spRows := by
  obtain ⟨fO, fdO, GO, mO, kO, bO⟩ := cO
  refine F.ok scRows (fun vs H Q E h => ?_) (fun cdv A outer s H vs Q E hr h => ?_)
  · obtain ⟨b, u, v, n, rfl, _⟩ := h
    rfl
  · obtain ⟨b, u, v, n, rfl, hb, bk, n0, n1, k⟩ := h
    refine ⟨_, pss_cons (ps_set (i := 2) scRows.nd rfl (Or.inl rfl) (pe_lst pa_nil))
      (pss_cons (ps_for PassesOwn.never rfl (pi_range1 (by rfl) T.range (pa_cons (pv 1) pa_nil)) (pg_name (i := 3) scRows.nd rfl (Or.inl rfl))
      (pss_cons (ps_set (i := 4) scRows.nd rfl (Or.inl rfl) (pe_call GO hr rfl mO kO bO .nil pass0 (pa_cons (pv 0) (pa_cons (pe_lst (pa_cons pe_str (pa_cons pe_str (pa_cons pe_str (pa_cons pe_str (pa_cons pe_str (pa_cons pe_str pa_nil))))))) pa_nil))))
      (pss_cons (ps_set (i := 5) scRows.nd rfl (Or.inl rfl) (pe_ifExp (pt_cmpR op_in_seq (pv 4) (pe_tup (pa_cons pe_str (pa_cons pe_str pa_nil))) rfl) (pe_lst (pa_cons pe_str (pa_cons pe_str pa_nil))) (pe_lst (pa_cons pe_str (pa_cons pe_str (pa_cons pe_str pa_nil))))))
      (pss_cons (ps_set (i := 6) scRows.nd rfl (Or.inl rfl) (pe_call GO hr rfl mO kO bO .nil pass0 (pa_cons (pv 0) (pa_cons (pe_lst (pa_cons pe_str (pa_cons pe_str (pa_cons pe_str pa_nil)))) pa_nil))))
      (pss_one (ps_expr (pe_bm PySem.F.plainAttrs_list PySem.F.slot_list_append PySem.F.type_list_append mt_append (pv 2) (pa_cons (pe_tup (pa_cons (pv 4) (pa_cons (pv 6) (pa_cons (pe_call GO hr rfl mO kO bO .nil pass0 (pa_cons (pv 0) (pa_cons (pv 5) pa_nil))) (pa_cons (pe_call GO hr rfl mO kO bO .nil pass0 (pa_cons (pv 0) (pa_cons (pe_lst (pa_cons pe_str (pa_cons pe_str (pa_cons pe_str (pa_cons pe_str pa_nil))))) pa_nil))) pa_nil))))) pa_nil))))))))
      (pss_one (ps_ret (pv 2)))), ?_⟩
    refine ⟨(by show 0 ≤ sizeLine; decide), fun D nD => ?_⟩
    have nbD : b ≠ D := ne_of_none hb nD
    have nD0 : ∀ c o, c ≠ b → H c = some o → c ≠ D := fun c o _ e => ne_of_none e nD
    refine ⟨_, rfl, n, rfl, by omega, by omega, for_range (lo := 0) (n := n.toNat) (fun i σ H' => (∃ o3 o4 o5 o6 : Option V, σ = [some (.ref b), some (.int n), some (.ref D), o3, o4, o5, o6]) ∧ ∃ xs ms, Pre b H H' ∧ H' D = some (.lst xs) ∧ RowLs 0 H' xs ms ∧ ms.length = i) ?_ ?_ ?_⟩
    · exact ⟨⟨_, _, _, _, rfl⟩, [], [], ⟨SameX.of (Same.new nD), u, v, bk, by rw [upd_ne nbD]; exact hb⟩, upd_same, Ls.nil, rfl⟩
    · rintro i σ H0 hi ⟨⟨o3, o4, o5, o6, rfl⟩, xs, ms, p0, hD, rl, lm⟩
      obtain ⟨_, u0, v0, bk0, hb0⟩ := id p0
      refine ⟨_, rfl, (by show 6 ≤ sizeLine; decide), fun l1 n1 => oneOf_new hb0 bk0 n1 (by decide) (by decide) fun x1 H1 i1 p1 => ?_⟩
      have hx1 : ∃ k, x1 = .str k ∧ k ∈ kindL := by
        simp only [List.mem_cons, List.not_mem_nil, or_false] at i1
        rcases i1 with rfl | rfl | rfl | rfl | rfl | rfl <;> exact ⟨_, rfl, by decide +kernel⟩
      obtain ⟨kd, rfl, hk⟩ := hx1
      obtain ⟨_, u1, v1, bk1, hb1⟩ := id p1
      refine ⟨_, rfl, (by show 2 ≤ sizeLine; decide), fun t1 nt1 => ⟨t1, _, rfl, .inr (SqT.of upd_same), rfl, rfl, _, rfl, ?_⟩⟩
      have p2 : Pre b H1 (upd H1 t1 (.tup [.str "minus", .str "plus"])) := ⟨SameX.of (Same.new nt1), u1, v1, bk1, by rw [upd_ne (ne_of_none hb1 nt1)]; exact hb1⟩
      generalize upd H1 t1 (.tup [.str "minus", .str "plus"]) = H2 at p2
      obtain ⟨_, u2, v2, bk2, hb2⟩ := id p2
      have e0 : (if false = true then !inV (V.str kd) [.str "minus", .str "plus"] else inV (V.str kd) [.str "minus", .str "plus"]) = inV (V.str kd) [.str "minus", .str "plus"] := if_neg Bool.false_ne_true
      rw [e0]
      refine ite2 (fun c => ⟨(by show 2 ≤ sizeLine; decide), fun l2 n2 => ?wayA⟩) (fun c => ⟨(by show 3 ≤ sizeLine; decide), fun l2 n2 => ?wayB⟩)
      case' wayA =>
        have dl : ∀ z ∈ [V.str "whole", .str "part"], ∃ d, z = .str d ∧ d ∈ deedL ∧ (d = "right" → kd = "first" ∨ kd = "new") := by
          intro z hz
          simp only [List.mem_cons, List.not_mem_nil, or_false] at hz
          rcases hz with rfl | rfl
          · exact ⟨_, rfl, by decide +kernel, fun e => absurd e (by decide +kernel)⟩
          · exact ⟨_, rfl, by decide +kernel, fun e => absurd e (by decide +kernel)⟩
        have ll : 1 ≤ [V.str "whole", .str "part"].length ∧ [V.str "whole", .str "part"].length ≤ 1000 := by decide
        generalize [V.str "whole", .str "part"] = deeds at dl ll
      case' wayB =>
        have kf : kd = "first" ∨ kd = "new" := by
          have q : ∀ z ∈ kindL, inV (.str z) [.str "minus", .str "plus"] = false → z = "first" ∨ z = "new" := by decide +kernel
          exact q kd hk (Bool.eq_false_iff.mpr c)
        have dl : ∀ z ∈ [V.str "whole", .str "part", .str "right"], ∃ d, z = .str d ∧ d ∈ deedL ∧ (d = "right" → kd = "first" ∨ kd = "new") := by
          intro z hz
          simp only [List.mem_cons, List.not_mem_nil, or_false] at hz
          rcases hz with rfl | rfl | rfl <;> exact ⟨_, rfl, by decide +kernel, fun _ => kf⟩
        have ll : 1 ≤ [V.str "whole", .str "part", .str "right"].length ∧ [V.str "whole", .str "part", .str "right"].length ≤ 1000 := by decide
        generalize [V.str "whole", .str "part", .str "right"] = deeds at dl ll
      all_goals
        have p3 : Pre b H2 (upd H2 l2 (.lst deeds)) := ⟨SameX.of (Same.new n2), u2, v2, bk2, by rw [upd_ne (ne_of_none hb2 n2)]; exact hb2⟩
        have hl2 : upd H2 l2 (.lst deeds) l2 = some (.lst deeds) := upd_same
        have nlb : l2 ≠ b := Ne.symm (ne_of_none hb2 n2)
        have nlD : D ≠ l2 := ne_of_none ((p1.trans p2).1 D _ (Ne.symm nbD) hD) n2
        generalize upd H2 l2 (.lst deeds) = H3 at p3 hl2
        obtain ⟨_, u3, v3, bk3, hb3⟩ := id p3
        refine ⟨_, rfl, (by show 3 ≤ sizeLine; decide), fun l4 n4 => oneOf_new hb3 bk3 n4 (by decide) (by decide) fun x4 H4 i4 p4 => ?_⟩
        have hx4 : ∃ s, x4 = .str s ∧ s ∈ stateL := by
          simp only [List.mem_cons, List.not_mem_nil, or_false] at i4
          rcases i4 with rfl | rfl | rfl <;> exact ⟨_, rfl, by decide +kernel⟩
        obtain ⟨st, rfl, hs⟩ := hx4
        obtain ⟨_, u4, v4, bk4, hb4⟩ := id p4
        have pD4 : Pre b H0 H4 := ((p1.trans p2).trans p3).trans p4
        have hD4 := pD4.1 D _ (Ne.symm nbD) hD
        refine ⟨_, rfl, .inl ⟨rfl, _, SqL.of hD4⟩, _, rfl, _, rfl, _, rfl, _, rfl, ?_⟩
        dsimp only [tNil]
        refine oneOf_at hb4 bk4 nlb (p4.1 _ _ nlb hl2) ll.1 ll.2 fun x5 H5 i5 p5 => ?_
        obtain ⟨dd, rfl, hd, hdr⟩ := dl _ i5
        obtain ⟨_, u5, v5, bk5, hb5⟩ := id p5
        refine ⟨_, rfl, (by show 4 ≤ sizeLine; decide), fun l6 n6 => ?_⟩
        dsimp only [tNil]
        refine oneOf_new hb5 bk5 n6 (by decide) (by decide) fun x6 H6 i6 p6 => ?_
        have hx6 : ∃ s, x6 = .str s ∧ s ∈ placeL := by
          simp only [List.mem_cons, List.not_mem_nil, or_false] at i6
          rcases i6 with rfl | rfl | rfl | rfl <;> exact ⟨_, rfl, by decide +kernel⟩
        obtain ⟨pl, rfl, hp⟩ := hx6
        refine ⟨(by show 4 ≤ sizeLine; decide), fun t7 n7 => ?_⟩
        have p7 : Pre b H0 (upd H6 t7 (.tup [.str kd, .str st, .str dd, .str pl])) := ((pD4.trans p5).trans p6).then (Same.new n7)
        have t7a : TpAt (upd H6 t7 (.tup [.str kd, .str st, .str dd, .str pl])) (.ref t7) (.lt kd st dd pl) := ⟨t7, rfl, upd_same⟩
        generalize upd H6 t7 (.tup [.str kd, .str st, .str dd, .str pl]) = H7 at p7 t7a
        have hD7 := p7.1 D _ (Ne.symm nbD) hD
        have pA := p0.trans p7
        obtain ⟨sa, ua, va, bka, hba⟩ := id pA
        refine ⟨D, xs, _, rfl, rfl, hD7, small1000 (by rw [rl.1]; omega), ⟨_, _, _, _, rfl⟩, xs ++ [.ref t7], ms ++ [.lt kd st dd pl], ⟨fun c o n e => by rw [upd_ne (nD0 c o n e)]; exact sa c o n e, ua, va, bka, by rw [upd_ne nbD]; exact hba⟩, upd_same, ?_, by simp [lm]⟩
        exact RowLs.keep (kd := 0) (Ls.push (rl.keep (Keep.pre hb0 p7.1)) ⟨t7a, ⟨hk, hs, hd, hp, hdr⟩, rfl⟩) (Keep.lst hD7)
    · rintro σ H' ⟨⟨o3, o4, o5, o6, rfl⟩, xs, ms, p0, hD, rl, lm⟩
      exact ⟨_, rfl, k D xs ms H' p0 hD (Ne.symm nbD) nD0 rl (by rw [lm]; omega)⟩
end
end V3

set_option Elab.async false
set_option linter.all false
set_option maxRecDepth 100000
namespace V3
open PySem PySem.Spec PyProof.Rows L2
/-! enumerate over a tuple -/
set_option maxHeartbeats 1000000 in
theorem new_enumT (a : Addr) (its : Array Value) :
    Meets (Builtin.«enumerate.__new__» ⟨[.type "enumerate", .ref a], []⟩) (fun _ R s => s.heap.IsTuple a its ∧
      R (.ok (.ret (.ref (s.heap.push { cls := .type "tuple_iterator", data := .fields #[.ref a, .int 0 0] }).objs.size)))
        { s with heap := (s.heap.push { cls := .type "tuple_iterator", data := .fields #[.ref a, .int 0 0] }).push { cls := .type "enumerate", data := .fields #[.none, .bool false, .ref s.heap.objs.size, rawInt 0, .none, .none] } }) :=
  .of_wp fun prog w A R s h => by
    obtain ⟨hp, g, d, tk, os⟩ := s
    obtain ⟨h1, h⟩ := h
    have sb := sub_enumerate
    have q1 : ∀ {A' : Around} {E : Value → Shared → Prop} {Q : Value → Shared → Prop}, Q (.ref hp.objs.size) ⟨hp.push { cls := .type "tuple_iterator", data := .fields #[.ref a, .int 0 0] }, g, d, tk, os⟩ → wpAny (model prog w) A' (pyIter (.ref a)) Q E ⟨hp, g, d, tk, os⟩ :=
      fun q => (begins_tuple a its).iter prog w _ _ ⟨hp, g, d, tk, os⟩ _ h1 q
    wp_walk using q1
    refine wpAny_stack_any fun st => wpAny_pure ?_
    split
    · rename_i c _ _ _ _ _
      cases (c == Value.type "enumerate") <;> (wp_walk using q1; exact ⟨_, rfl, h⟩)
    · wp_walk using q1
      exact ⟨_, rfl, h⟩
theorem call_enumT {prog : Program} {w : World} {A : Around} {E : Value → Shared → Prop} {s : Shared} {a : Addr} {its : Array Value} {Q : Value → Shared → Prop} (ha : s.heap.IsTuple a its)
    (k : ∀ h', IsEnum h' (s.heap.objs.size + 1) s.heap.objs.size 0 .none → h'.IsTupleIter s.heap.objs.size a 0 → (∀ b o, s.heap.get? b = some o → h'.get? b = some o) → Q (.ref (s.heap.objs.size + 1)) { s with heap := h' }) :
    wpAny (model prog w) A (call (.type "enumerate") [.ref a]) Q E s := by
  refine callType_new F.called_enumerate (by decide) (F.typeCall_enumerate_1 _) (F.newCall_enumerate_1 _) (fun obj => F.args_object_init_2 obj _) F.entry_enumerate_new (new_enumT a its) ⟨ha, ?_⟩
  have sz : (s.heap.push { cls := .type "tuple_iterator", data := .fields #[.ref a, .int 0 0] }).objs.size = s.heap.objs.size + 1 := Heap.size_push ..
  show _ ∧ _
  rw [sz]
  have e1 : IsEnum ((s.heap.push { cls := .type "tuple_iterator", data := .fields #[.ref a, .int 0 0] }).push { cls := .type "enumerate", data := .fields #[.none, .bool false, .ref s.heap.objs.size, rawInt 0, .none, .none] }) (s.heap.objs.size + 1) s.heap.objs.size 0 .none := by
    have z := Heap.get?_push_size (s.heap.push { cls := .type "tuple_iterator", data := .fields #[.ref a, .int 0 0] }) (o := { cls := .type "enumerate", data := .fields #[.none, .bool false, .ref s.heap.objs.size, rawInt 0, .none, .none] }) rfl
    rw [sz] at z
    exact z
  exact ⟨⟨_, e1, rfl⟩, k _ e1 ⟨_, Heap.get?_push_of_some _ (Heap.get?_push_size _ rfl), rfl, rfl⟩ fun b o x => Heap.get?_push_of_some _ (Heap.get?_push_of_some _ x)⟩
/-- the tuple at a, each item in a new pair with its number -/
def Iet (K : PySem.W.Frag) (a : Addr) : It :=
  ⟨fun i H => ∃ xs x, SqT K H a xs ∧ xs[i]? = some x, fun i H v H' => ∃ T x, v = .ref T ∧ H T = none ∧ H' = upd H T (.tup [.int (i : Nat), x]) ∧ ∀ xs, SqT K H a xs → xs[i]? = some x, fun i H => ∃ xs, SqT K H a xs ∧ xs.length = i⟩
theorem turn_enumT {P : Program} {w : World} {K : PySem.W.Frag} {elts : List Expr} {kk : Nat} {tpos : Pos} (a e it : Addr) :
    Turn P w K (.Tuple elts kk tpos) (Iet K a) [e, it] e (fun i h => (∃ old, IsEnum h e it ((i : Nat) : Int) old) ∧ h.IsTupleIter it a i ∧ e ≠ it ∧ a ≠ it ∧ e ≠ a) where
  mem := by simp
  obj := fun i h st b hb => by
    obtain ⟨⟨old, g1⟩, ⟨o, ho, hc, hd⟩, _⟩ := st
    have z0 : b = e ∨ b = it := by simpa using hb
    rcases z0 with z | z
    · rw [z]
      exact ⟨_, g1, fun v q => nomatch q⟩
    · rw [z]
      exact ⟨o, ho, fun v q => by rw [hd] at q; cases q⟩
  keep := fun i h h' st k => let ⟨⟨old, g1⟩, g2, g3⟩ := st; ⟨⟨old, k e (by simp) _ g1⟩, g2.at fun o q => k it (by simp) o q, g3⟩
  item := by
    intro X hP hw hK hc i pins s σ H E I hf st hg
    subst hP hw hK
    obtain ⟨⟨old, g1⟩, g2, n1, n2, n3⟩ := st
    obtain ⟨xs, x, hq, hx⟩ := hg
    obtain ⟨its, rv, p, hz⟩ := I.tuple hq
    obtain ⟨u, hu, ru⟩ := rv.get hx
    have el : e < s.heap.objs.size := Heap.lt_size g1
    have il : it < s.heap.objs.size := by
      obtain ⟨_, q, _⟩ := g2
      exact Heap.lt_size q
    have lt : i < its.toArray.size := by
      have z := (List.getElem?_eq_some_iff.mp hu).1
      simpa using z
    refine wpAny_pyNext_enum_itemD (Draws.tuple (A := X.A.in1) (show X.A.in1.handled = none from I.ok.hd hc) it a n2 its.toArray) g1 ⟨g2, p⟩ lt n1 (by simp only [List.mem_cons, List.not_mem_nil, or_false, not_or]; exact ⟨n1, n3⟩) fun y h' tk hP ho st' hT hsz hk => ?_
    obtain rfl : y = u := by
      have z : its.toArray[i]? = some y := hP
      have z2 : its.toArray[i]? = some u := by simpa using hu
      rw [z2] at z
      exact (Option.some.inj z).symm
    refine ⟨_, rfl, wpAny_letOwnedTupleGo_enum (s := { s with heap := h', toks := tk + 1 }) ho fun h'' g1' sb => ?_⟩
    have T2 : h''.get? s.heap.objs.size = some { cls := .type "tuple", data := .seq #[.int i tk, y] } := (sb.2 _ (Nat.ne_of_gt el)).trans hT
    have new : ObjOk X.prog X.w (upd H s.heap.objs.size (.tup [.int (i : Nat), x])) h'' s.heap.objs.size (.tup [.int (i : Nat), x]) :=
      ⟨by show 2 ≤ sizeLine; decide, [.int i tk, y], .cons ⟨_, rfl⟩ (.cons ru .nil), ⟨_, T2, rfl, _, rfl⟩⟩
    have J : Inv X pins σ (upd H s.heap.objs.size (.tup [.int (i : Nat), x])) { s with heap := h'', toks := tk + 1 } :=
      I.turnedNew (ch := [e, it]) (fun b ob hb q => (sb.2 b (fun z => hb (by simp [z]))).trans (hk b ob (fun z => hb (by simp [z])) (fun z => hb (by simp [z])) q)) hf (Nat.le_refl _) new
    refine ⟨.ref s.heap.objs.size, _, J, rfl, ⟨_, x, rfl, I.hok.fresh (Nat.le_refl _), rfl, fun ys hy => by rw [I.tuple_inj hy hq]; exact hx⟩, ⟨⟨y, ?_⟩, st'.1.at fun o q => (sb.2 it (Ne.symm n1)).trans q, n1, n2, n3⟩, fun b hb => ?_⟩
    · have e1 : ((i + 1 : Nat) : Int) = (i : Int) + 1 := by omega
      rw [e1]
      exact g1'
    · have lb : b < s.heap.objs.size := by
        have z0 : b = e ∨ b = it := by simpa using hb
        rcases z0 with z | z
        · rw [z]
          exact el
        · rw [z]
          exact il
      rw [upd_ne (Nat.ne_of_lt lb)]
      exact (hf b hb).1
  done := by
    intro X hP hw hK hc i pins s σ H E I hf st hg
    subst hP hw hK
    obtain ⟨⟨old, g1⟩, g2, n1, n2, n3⟩ := st
    obtain ⟨xs, hq, hx⟩ := hg
    obtain ⟨its, rv, p, hz⟩ := I.tuple hq
    obtain ⟨f0, f1, f2, f3, f4, f5⟩ := hf it (by simp)
    have ei : i = its.toArray.size := by
      have z := rv.length
      simp only [List.size_toArray]
      omega
    exact wpAny_pyNext_enum_endD (Draws.tuple (A := X.A.in1) (show X.A.in1.handled = none from I.ok.hd hc) it a n2 its.toArray) g1 (by rw [← ei]; exact ⟨g2, p⟩) fun h' eb => ⟨rfl, I.turned (t' := s.toks) (fun b o hb q => eb b o hb q) f0 f1 f3 f4 f5⟩
  self := fun A i s Q E st h => let ⟨⟨_, g1⟩, _⟩ := st; wpAny_pyIter_enum g1 h
def iEnumT (K : PySem.W.Frag) (ta : TA) : TI := fun σ H R => ta σ H fun vs H1 => ∃ a xs, vs = [.ref a] ∧ SqT K H1 a xs ∧ R (Iet K a) H1
theorem pi_enumT {X : Cx} {e : Expr} {ta : TA} {p pos tpos : Pos} {elts : List Expr} {kk : Nat} (hg : Gl X "enumerate") (hm : X.mg "enumerate" = none) (ha : PA X [e] ta) (hs : starEach [e] X.env = [(false, eval e X.env)] := by rfl) :
    PI X (.Tuple elts kk tpos) (.Call (.Name "enumerate" p) [e] [] pos) (iEnumT X.K ta) := by
  refine ⟨fun pins s σ H R I h => ?_⟩
  refine Call_ (ld_blt I hg hm boot_enumerate (PyProof.Rows.callWith_type1 (thn (ha.run pos pins s σ H _ I h) fun us s1 ⟨vs, H1, I1, r1, a, xs, ex, hq, q⟩ => ?_) hs rfl))
  subst ex
  cases r1 with
  | cons r rr =>
    cases rr
    cases r
    obtain ⟨its, rv, p', hz⟩ := I1.tuple hq
    have al : a < s1.heap.objs.size := IsTup.lt p'
    refine call_enumT (its := its.toArray) p' fun h' he hit hk => wpAny_pyIter_enum he ?_
    have I2 : Inv X pins σ H1 { s1 with heap := h' } := I1.kept (t' := s1.toks) hk
    refine ⟨s1.heap.objs.size + 1, [s1.heap.objs.size + 1, s1.heap.objs.size], _, _, H1, rfl, I2, turn_enumT a (s1.heap.objs.size + 1) s1.heap.objs.size, ⟨⟨.none, he⟩, hit, Nat.succ_ne_self _, Nat.ne_of_lt al, Nat.ne_of_gt (Nat.lt_succ_of_lt al)⟩, fun b hb => ?_, q⟩
    have z0 : b = s1.heap.objs.size + 1 ∨ b = s1.heap.objs.size := by simpa using hb
    have le : s1.heap.objs.size ≤ b := by
      rcases z0 with z | z
      · rw [z]
        exact Nat.le_add_right _ _
      · rw [z]
        exact Nat.le_refl _
    exact I1.fpOk le (I1.hok.fresh le)
theorem walk_enumT {K : PySem.W.Frag} {a : Addr} {xs : List V} : Walk (Iet K a) xs.length (fun H => SqT K H a xs) (YPair (fun i => some (.int (i : Nat))) (fun i => xs[i]?)) := by
  refine ⟨fun i _ hi q => ⟨xs, xs[i], q, by simp [hi]⟩, fun _ q => ⟨xs, q, rfl⟩, fun i H v H' _ q y => ?_⟩
  obtain ⟨T, x, h1, h2, h3, h4⟩ := y
  exact ⟨T, .int (i : Nat), x, h1, h2, h3, rfl, h4 xs q⟩
end V3

set_option Elab.async false
set_option linter.all false
set_option maxRecDepth 100000
/-! readings that leave all as it was, from a heap on: what they answer, by classes of stable things -/
namespace V3
open PySem L2 TL
class St (R : V → Hp → Prop) : Prop where
  st : ∀ v H H', Same H H' → R v H → R v H'
/-- all but the lists may go on -/
class StL (R : V → Hp → Prop) : Prop where
  st : ∀ v H H', Keep H H' → R v H → R v H'
instance {R : V → Hp → Prop} [i : StL R] : St R := ⟨fun v H H' s h => i.st v H H' (Keep.of s) h⟩
theorem upL {R : V → Hp → Prop} [i : StL R] {v : V} {H H' : Hp} (s : Keep H H') (h : R v H) : R v H' := i.st _ _ _ s h
class StA (R : List V → Hp → Prop) : Prop where
  st : ∀ v H H', Same H H' → R v H → R v H'
theorem up {R : V → Hp → Prop} [i : St R] {v : V} {H H' : Hp} (s : Same H H') (h : R v H) : R v H' := i.st _ _ _ s h
theorem stv {R : V → Hp → Prop} [i : St R] : StV R := i.st
instance {i : Int} : StL (isIv i) := ⟨fun _ _ _ _ h => h⟩
instance {i : Str} : StL (isSv i) := ⟨fun _ _ _ _ h => h⟩
instance {i : Bool} : StL (isBv i) := ⟨fun _ _ _ _ h => h⟩
instance {u : V} : StL (isVv u) := ⟨fun _ _ _ _ h => h⟩
/-- a tracked list, a tracked tuple of such things -/
def isL {α : Type} (S : α → V → Hp → Prop) (as : List α) : V → Hp → Prop := fun v H => ∃ D us, v = .ref D ∧ H D = some (.lst us) ∧ Ls (fun u a => S a u H) us as
def isU {α : Type} (S : α → V → Hp → Prop) (as : List α) : V → Hp → Prop := fun v H => ∃ D us, v = .ref D ∧ H D = some (.tup us) ∧ Ls (fun u a => S a u H) us as
instance {α : Type} {S : α → V → Hp → Prop} {as : List α} [∀ a, St (S a)] : St (isL S as) := ⟨fun _ _ _ s ⟨D, us, e, h, l⟩ => ⟨D, us, e, s _ _ h, l.imp fun _ _ r => up s r⟩⟩
instance {α : Type} {S : α → V → Hp → Prop} {as : List α} [∀ a, St (S a)] : St (isU S as) := ⟨fun _ _ _ s ⟨D, us, e, h, l⟩ => ⟨D, us, e, s _ _ h, l.imp fun _ _ r => up s r⟩⟩
instance {α : Type} {S : α → V → Hp → Prop} {as : List α} [∀ a, StL (S a)] : StL (isU S as) := ⟨fun _ _ _ s ⟨D, us, e, h, l⟩ => ⟨D, us, e, s _ _ (fun _ z => by cases z) h, l.imp fun _ _ r => upL s r⟩⟩
theorem Ls.upL {α : Type} {S : α → V → Hp → Prop} [∀ a, StL (S a)] {us : List V} {as : List α} {H H' : Hp} (l : Ls (fun u a => S a u H) us as) (s : Keep H H') : Ls (fun u a => S a u H') us as := l.imp fun _ _ r => V3.upL s r
theorem Ls.up {α : Type} {S : α → V → Hp → Prop} [∀ a, St (S a)] {us : List V} {as : List α} {H H' : Hp} (l : Ls (fun u a => S a u H) us as) (s : Same H H') : Ls (fun u a => S a u H') us as := l.imp fun _ _ r => V3.up s r
abbrev isIs : List Int → V → Hp → Prop := isL isIv
abbrev isSs : List Str → V → Hp → Prop := isL isSv
abbrev isBs : List Bool → V → Hp → Prop := isL isBv
/-- arguments -/
def A0 : List V → Hp → Prop := fun vs _ => vs = []
def AC (R : V → Hp → Prop) (Rs : List V → Hp → Prop) : List V → Hp → Prop := fun vs H => ∃ v r, vs = v :: r ∧ R v H ∧ Rs r H
instance : StA A0 := ⟨fun _ _ _ _ h => h⟩
instance {R : V → Hp → Prop} {Rs : List V → Hp → Prop} [St R] [i : StA Rs] : StA (AC R Rs) := ⟨fun _ _ _ s ⟨v, r, e, h, t⟩ => ⟨v, r, e, up s h, i.st _ _ _ s t⟩⟩
def EvA (W : Hp → Prop) (σ : L2.St) (ta : TA) (Rs : List V → Hp → Prop) : Prop := ∀ H Q, W H → (∀ vs H', Same H H' → W H' → Rs vs H' → Q vs H') → ta σ H Q
section
variable {σ : L2.St} {ta tb te : TE} {ts : TA} {t u : TT} {H0 : Hp} {R Ra Rb : V → Hp → Prop} {Rs : List V → Hp → Prop}
theorem ev_v [St R] {i : Nat} {v : V} (e : σ[i]? = some (some v)) (h : R v H0) : EvV (Same H0) σ (tVar i) R := ev_var e fun _ s => up s h
theorem eva_nil : EvA (Same H0) σ tNil A0 := fun H Q w k => k [] H (Same.refl H) w rfl
theorem eva_cons [St Ra] (ha : EvV (Same H0) σ ta Ra) (hs : EvA (Same H0) σ ts Rs) : EvA (Same H0) σ (tCons ta ts) (AC Ra Rs) := fun H Q w k =>
  ha H _ w fun x H1 s1 w1 r => hs H1 _ w1 fun xs H2 s2 w2 rs => k (x :: xs) H2 (s1.trans s2) w2 ⟨x, xs, rfl, up s2 r, rs⟩
theorem ev_call {sp : Sp} {dvs : List V} {E : XK} (ha : EvA (Same H0) σ ts Rs) (h : ∀ vs H Q, Same H0 H → Rs vs H → (∀ v H', Same H H' → R v H' → Q v H') → sp (vs ++ dvs) H Q E) : EvV (Same H0) σ (tCall sp dvs E ts) R := fun H Q w k =>
  ha H _ w fun vs H1 s1 w1 r => h vs H1 Q w1 r fun v H' s r' => k v H' (s1.trans s) (w1.trans s) r'
theorem ev_cb {r : List V → Hp → VK → Prop} (ha : EvA (Same H0) σ ts Rs) (h : ∀ vs H Q, Same H0 H → Rs vs H → (∀ v H', Same H H' → R v H' → Q v H') → r vs H Q) : EvV (Same H0) σ (tCB r ts) R := fun H Q w k =>
  ha H _ w fun vs H1 s1 w1 r => h vs H1 Q w1 r fun v H' s r' => k v H' (s1.trans s) (w1.trans s) r'
theorem ev_o {r : R2} [St Ra] (ha : EvV (Same H0) σ ta Ra) (hb : EvV (Same H0) σ tb Rb) (h : ∀ x y H Q, Same H0 H → Ra x H → Rb y H → (∀ v H', Same H H' → R v H' → Q v H') → r x y H Q) : EvV (Same H0) σ (tOp r ta tb) R :=
  ev_op stv ha hb fun x y H Q w a b k => h x y H Q w a b fun v H' s r => k v H' s (w.trans s) r
theorem ev_make {C : Addr} {sp : Sp} {dvs : List V} {E : XK} (ha : EvA (Same H0) σ ts Rs) (h : ∀ vs H x dx (Q : VK), Same H0 H → Rs vs H → H x = none → H dx = none → dx ≠ x → (∀ H', Same H H' → R (.ref x) H' → Q .non H') →
    sp (.ref x :: (vs ++ dvs)) (upd (upd H dx (.own x)) x (.ins C dx [])) Q E) : EvV (Same H0) σ (tMake C sp dvs E ts) R := fun H Q w k =>
  ha H _ w fun vs H1 s1 w1 r x dx nx ndx ne => h vs H1 x dx _ w1 r nx ndx ne fun H' s r' => ⟨rfl, k _ H' (s1.trans s) (w1.trans s) r'⟩
theorem ev_meth {C : Addr} {m : Str} {sp : Sp} {dvs : List V} {E : XK} [St Ra] (hx : EvV (Same H0) σ ta Ra) (ho : ∀ x H, Ra x H → ∃ a dx fs, x = .ref a ∧ H a = some (.ins C dx fs) ∧ fs.lookup m = none) (ha : EvA (Same H0) σ ts Rs)
    (h : ∀ x vs H Q, Same H0 H → Ra x H → Rs vs H → (∀ v H', Same H H' → R v H' → Q v H') → sp (x :: (vs ++ dvs)) H Q E) : EvV (Same H0) σ (tMeth C m sp dvs E ta ts) R := fun H Q w k =>
  hx H _ w fun x H1 s1 w1 rx => by
    obtain ⟨a, dx, fs, e, hh, l⟩ := ho x H1 rx
    exact ⟨a, dx, fs, e, hh, l, ha H1 _ w1 fun vs H2 s2 w2 r => h x vs H2 Q w2 (up s2 rx) r fun v H' s r' => k v H' ((s1.trans s2).trans s) (w2.trans s) r'⟩
theorem ev_fld {K : PySem.W.Frag} {f : Str} (ha : EvV (Same H0) σ ta Ra) (h : ∀ x H, Same H0 H → Ra x H → ∃ a C dx fs v, x = .ref a ∧ H a = some (.ins C dx fs) ∧ Cls K C ∧ NoAttr K C f ∧ fs.lookup f = some v ∧ R v H) : EvV (Same H0) σ (tFld K ta f) R := fun H Q w k =>
  ha H _ w fun x H1 s1 w1 rx => by
    obtain ⟨a, C, dx, fs, v, e, hh, c, n, l, r⟩ := h x H1 w1 rx
    exact ⟨a, C, dx, fs, v, e, hh, c, n, l, k v H1 s1 w1 r⟩
theorem ev_tup [i : StA Rs] (ha : EvA (Same H0) σ ts Rs) (n : ∀ vs H, Rs vs H → vs.length ≤ 1000) : EvV (Same H0) σ (tTup ts) (fun v H => ∃ p xs, v = .ref p ∧ H p = some (.tup xs) ∧ Rs xs H) := fun H Q w k =>
  ha H _ w fun vs H1 s1 w1 r => ⟨Nat.le_trans (n _ _ r) (by decide), fun p np => by
    have s2 : Same H1 (upd H1 p (.tup vs)) := Same.new np
    exact k _ _ (s1.trans s2) (w1.trans s2) ⟨p, vs, rfl, upd_same, i.st _ _ _ s2 r⟩⟩
/-- the arguments of a display, all of a sort -/
def EvL {α : Type} (H0 : Hp) (σ : L2.St) (ts : TA) (S : α → V → Hp → Prop) (as : List α) : Prop := EvA (Same H0) σ ts (fun vs H => Ls (fun u a => S a u H) vs as)
theorem Ls.cons {α : Type} {R : V → α → Prop} {vs : List V} {ms : List α} {v : V} {m : α} (t : R v m) (d : Ls R vs ms) : Ls R (v :: vs) (m :: ms) := by
  refine ⟨by simp [d.1], fun i n hn => ?_⟩
  cases i with
  | zero =>
    have e : m = n := by simpa using hn
    subst e
    exact ⟨v, rfl, t⟩
  | succ i =>
    obtain ⟨w, e, r⟩ := d.2 i n (by simpa using hn)
    exact ⟨w, by simpa using e, r⟩
theorem evl_nil {α : Type} {S : α → V → Hp → Prop} : EvL H0 σ tNil S [] := fun H Q w k => k [] H (Same.refl H) w Ls.nil
theorem evl_cons {α : Type} {S : α → V → Hp → Prop} [∀ a, St (S a)] {a : α} {as : List α} (ha : EvV (Same H0) σ ta (S a)) (hs : EvL H0 σ ts S as) : EvL H0 σ (tCons ta ts) S (a :: as) := fun H Q w k =>
  ha H _ w fun x H1 s1 w1 r => hs H1 _ w1 fun xs H2 s2 w2 rs => k (x :: xs) H2 (s1.trans s2) w2 (Ls.cons (up s2 r) rs)
theorem ev_lst {α : Type} {S : α → V → Hp → Prop} [∀ a, St (S a)] {as : List α} (h : EvL H0 σ ts S as) (n : as.length ≤ 1000) : EvV (Same H0) σ (tLst ts) (isL S as) := fun H Q w k =>
  h H _ w fun vs H1 s1 w1 r => ⟨Nat.le_trans (by rw [r.1]; exact n) (by decide), fun p np => by
    have s2 : Same H1 (upd H1 p (.lst vs)) := Same.new np
    exact k _ _ (s1.trans s2) (w1.trans s2) ⟨p, vs, rfl, upd_same, Ls.up r s2⟩⟩
theorem ev_tupU {α : Type} {S : α → V → Hp → Prop} [∀ a, St (S a)] {as : List α} (h : EvL H0 σ ts S as) (n : as.length ≤ 1000) : EvV (Same H0) σ (tTup ts) (isU S as) := fun H Q w k =>
  h H _ w fun vs H1 s1 w1 r => ⟨Nat.le_trans (by rw [r.1]; exact n) (by decide), fun p np => by
    have s2 : Same H1 (upd H1 p (.tup vs)) := Same.new np
    exact k _ _ (s1.trans s2) (w1.trans s2) ⟨p, vs, rfl, upd_same, Ls.up r s2⟩⟩
/-- tests -/
theorem ev_orB {p q : Bool} (h : EvB (Same H0) σ t p) (h2 : p = false → EvB (Same H0) σ u q) : EvB (Same H0) σ (tOr t u) (p || q) := fun H Q w k =>
  h H _ w fun H1 s1 w1 => by
    cases p with
    | true => exact iteT (k H1 s1 w1)
    | false => exact iteF (h2 rfl H1 _ w1 fun H2 s2 w2 => k H2 (s1.trans s2) w2)
theorem ev_andB {p q : Bool} (h : EvB (Same H0) σ t p) (h2 : p = true → EvB (Same H0) σ u q) : EvB (Same H0) σ (tAnd t u) (p && q) := fun H Q w k =>
  h H _ w fun H1 s1 w1 => by
    cases p with
    | false => exact iteF (k H1 s1 w1)
    | true => exact iteT (h2 rfl H1 _ w1 fun H2 s2 w2 => k H2 (s1.trans s2) w2)
theorem ev_notB {p : Bool} (h : EvB (Same H0) σ t p) : EvB (Same H0) σ (tNot t) (!p) := fun H Q w k => h H _ w k
theorem ev_valB {p : Bool} (h : EvV (Same H0) σ te (isBv p)) : EvB (Same H0) σ (tB te) p := fun H Q w k => h H _ w fun v H' s w' e => ⟨p, e, k H' s w'⟩
theorem ev_if {b : Bool} (c : EvB (Same H0) σ t b) (h1 : b = true → EvV (Same H0) σ ta R) (h2 : b = false → EvV (Same H0) σ tb R) : EvV (Same H0) σ (tIf t ta tb) R := fun H Q w k =>
  c H _ w fun H1 s1 w1 => by
    cases b with
    | true => exact iteT (h1 rfl H1 _ w1 fun v H2 s2 w2 r => k v H2 (s1.trans s2) w2 r)
    | false => exact iteF (h2 rfl H1 _ w1 fun v H2 s2 w2 r => k v H2 (s1.trans s2) w2 r)
/-- an if whose test is known -/
theorem if_f {c : TT} {t u : TS} {D : Ends} {H : Hp} (w : Same H0 H) (h : EvB (Same H0) σ c false) (k : ∀ H', Same H H' → u D σ H') : tIfS c t u D σ H := h H _ w fun H' s _ => iteF (k H' s)
theorem if_t {c : TT} {t u : TS} {D : Ends} {H : Hp} (w : Same H0 H) (h : EvB (Same H0) σ c true) (k : ∀ H', Same H H' → t D σ H') : tIfS c t u D σ H := h H _ w fun H' s _ => iteT (k H' s)
/-- what is walked: item by item something that stands for those of a list -/
def EvI {α : Type} (H0 : Hp) (σ : L2.St) (wi : TI) (as : List α) (S : α → V → Hp → Prop) : Prop := ∀ H (Rk : It → Hp → Prop), Same H0 H → (∀ J H1, Same H H1 → (∃ (G : Hp → Prop) (Y : Nat → Hp → V → Hp → Prop), Walk J as.length G Y ∧ (∀ H2, Same H1 H2 → G H2) ∧
  ∀ i H2 x H3, i < as.length → Same H1 H2 → Y i H2 x H3 → Same H2 H3 ∧ ∃ a, as[i]? = some a ∧ S a x H3) → Rk J H1) → wi σ H Rk
theorem evi_list {K : PySem.W.Frag} {α : Type} {S : α → V → Hp → Prop} [∀ a, St (S a)] {as : List α} (h : EvV (Same H0) σ te (isL S as)) : EvI H0 σ (iList K te) as S := fun H Rk w k =>
  h H _ w fun v H1 s1 w1 ⟨D, us, e, hD, l⟩ => ⟨D, e, ⟨us, SqL.of hD⟩, k (Itl K D) H1 s1 ⟨_, _, l.1 ▸ walk_list (K := K) (a := D) (xs := us), fun H2 s => SqL.of (s _ _ hD), fun i H2 x H3 hi s y => by
    obtain ⟨rfl, hx⟩ := y
    obtain ⟨a, ea, r⟩ := Ls.get l hx
    exact ⟨Same.refl _, a, ea, up s r⟩⟩⟩
theorem evi_tup {K : PySem.W.Frag} {α : Type} {S : α → V → Hp → Prop} [∀ a, St (S a)] {as : List α} (h : EvV (Same H0) σ te (fun v H => ∃ D us, v = .ref D ∧ (∀ H', Same H H' → SqT K H' D us) ∧ Ls (fun u a => S a u H) us as)) : EvI H0 σ (iTup K te) as S := fun H Rk w k =>
  h H _ w fun v H1 s1 w1 ⟨D, us, e, hD, l⟩ => ⟨D, e, ⟨us, hD _ (Same.refl _)⟩, k (Itt K D) H1 s1 ⟨_, _, l.1 ▸ walk_tup (K := K) (a := D) (xs := us), fun H2 s => hD _ s, fun i H2 x H3 hi s y => by
    obtain ⟨rfl, hx⟩ := y
    obtain ⟨a, ea, r⟩ := Ls.get l hx
    exact ⟨Same.refl _, a, ea, up s r⟩⟩⟩
/-- the whole numbers from lo on, so many -/
def rgI (lo : Int) (n : Nat) : List Int := (List.range n).map fun i => lo + (i : Nat)
theorem rgI_len {lo : Int} {n : Nat} : (rgI lo n).length = n := by simp [rgI]
theorem rgI_at {lo : Int} {n i : Nat} (h : i < n) : (rgI lo n)[i]? = some (lo + (i : Nat)) := by simp [rgI, h]
theorem evi_rng1 {n : Int} (n0 : 0 ≤ n) (h : EvV (Same H0) σ te (isIv n)) (n1 : n < 2 ^ 62) : EvI H0 σ (iRng1 (tCons te tNil)) (rgI 0 n.toNat) isIv := fun H Rk w k =>
  h H _ w fun v H1 s1 w1 e => by
    cases e
    refine ⟨n, rfl, by omega, n1, k _ H1 s1 ⟨_, _, by rw [rgI_len]; exact walk_range (lo := 0) (n := n.toNat), fun _ _ => trivial, fun i H2 x H3 hi s y => ?_⟩⟩
    obtain ⟨rfl, rfl⟩ := y
    rw [rgI_len] at hi
    exact ⟨Same.refl _, _, rgI_at hi, rfl⟩
/-- a new list of such things -/
def EvNL {α : Type} (H0 : Hp) (σ : L2.St) (te : TE) (S : α → V → Hp → Prop) (as : List α) : Prop := ∀ H Q, Same H0 H → (∀ D us H', H D = none → Same H H' → H' D = some (.lst us) → Ls (fun u a => S a u H') us as → Q (.ref D) H') → te σ H Q
theorem EvNL.ev {α : Type} {S : α → V → Hp → Prop} {as : List α} (h : EvNL H0 σ te S as) : EvV (Same H0) σ te (isL S as) := fun H Q w k => h H Q w fun D us H' _ s hD l => k _ H' s (w.trans s) ⟨D, us, rfl, hD, l⟩
theorem evn_lst {α : Type} {S : α → V → Hp → Prop} [∀ a, St (S a)] {as : List α} (h : EvL H0 σ ts S as) (n : as.length ≤ 1000) : EvNL H0 σ (tLst ts) S as := fun H Q w k =>
  h H _ w fun vs H1 s1 w1 r => ⟨Nat.le_trans (by rw [r.1]; exact n) (by decide), fun p np => by
    have s2 : Same H1 (upd H1 p (.lst vs)) := Same.new np
    exact k p vs _ (s1.free np) (s1.trans s2) upd_same (Ls.up r s2)⟩
/-- a list comprehension -/
theorem evn_lc {α β : Type} {wi : TI} {g : TG} {tt : TT} {vs : List Nat} {as : List α} {S : α → V → Hp → Prop} {S' : β → V → Hp → Prop} [∀ b, StL (S' b)] (p : α → Bool) (f : α → β) (hi : EvI H0 σ wi as S) (hn : as.length ≤ 1000)
    (hb : ∀ a ∈ as, ∀ x H, Same H0 H → S a x H → ∀ K2 : L2.St → Hp → Prop, (∀ σ2 H2, Same H H2 → wipe σ2 vs = wipe σ vs → EvB (Same H2) σ2 tt (p a) → (p a = true → EvV (Same H2) σ2 te (S' (f a))) → K2 σ2 H2) → g x (wipe σ vs) H K2) :
    EvNL H0 σ (tLc wi g tt te vs) S' ((as.filter p).map f) := fun H Q w k => by
  refine hi H _ w fun J H1 s1 ⟨G, Y, wk, hG, hY⟩ D nD => ?_
  refine lc_it wk (fun i Hh => Same H1 Hh ∧ ∃ acc, Hh D = some (.lst acc) ∧ Ls (fun u b => S' b u Hh) acc (((as.take i).filter p).map f)) ⟨Same.new nD, [], upd_same, Ls.nil⟩ (fun i Hh _ z => hG _ z.1) ?_ ?_
  · rintro i x Hh H' hi ⟨s2, acc, hD, ra⟩ y
    obtain ⟨s3, a, ea, rx⟩ := hY i Hh x H' hi s2 y
    have tk : as.take (i + 1) = as.take i ++ [a] := by
      rw [List.take_succ, ea]
      rfl
    have la : acc.length ≤ 1000 := by
      rw [ra.1, List.length_map]
      have z := List.length_filter_le p (as.take i)
      rw [List.length_take] at z
      omega
    refine hb a (List.mem_of_getElem? ea) x H' (w.trans (s1.trans (s2.trans s3))) rx _ fun σ2 H2 s4 ew et ee => ⟨ew, et H2 _ (Same.refl _) fun H3 s5 _ => ?_⟩
    have S5 := (s3.trans s4).trans s5
    cases e : p a with
    | false =>
      refine iteF ⟨s2.trans S5, acc, S5 _ _ hD, ?_⟩
      rw [tk, List.filter_append, List.map_append, List.filter_cons_of_neg (by rw [e]; exact Bool.false_ne_true), List.filter_nil, List.map_nil, List.append_nil]
      exact ra.up S5
    | true =>
      refine iteT (ee e H3 _ s5 fun v H4 s6 _ r => ?_)
      have S6 := S5.trans s6
      have hD4 := S6 _ _ hD
      have nD1 : H1 D = none := nD
      refine ⟨acc, hD4, Nat.lt_of_le_of_lt la (by decide), fun c o h => ?_, acc ++ [v], upd_same, ?_⟩
      · rw [upd_ne (ne_of_none h nD1)]
        exact (s2.trans S6) _ _ h
      · rw [tk, List.filter_append, List.map_append, List.filter_cons_of_pos e, List.filter_nil, List.map_cons, List.map_nil]
        exact Ls.push ((ra.up S6).upL (Keep.lst hD4)) (upL (Keep.lst hD4) r)
  · rintro Hh ⟨s2, acc, hD, ra⟩
    rw [List.take_length] at ra
    exact k D acc Hh (s1.free nD) (s1.trans s2) hD ra
theorem ev_lc {α β : Type} {wi : TI} {g : TG} {tt : TT} {vs : List Nat} {as : List α} {S : α → V → Hp → Prop} {S' : β → V → Hp → Prop} [∀ b, StL (S' b)] (p : α → Bool) (f : α → β) (hi : EvI H0 σ wi as S) (hn : as.length ≤ 1000)
    (hb : ∀ a ∈ as, ∀ x H, Same H0 H → S a x H → ∀ K2 : L2.St → Hp → Prop, (∀ σ2 H2, Same H H2 → wipe σ2 vs = wipe σ vs → EvB (Same H2) σ2 tt (p a) → (p a = true → EvV (Same H2) σ2 te (S' (f a))) → K2 σ2 H2) → g x (wipe σ vs) H K2) :
    EvV (Same H0) σ (tLc wi g tt te vs) (isL S' ((as.filter p).map f)) := (evn_lc p f hi hn hb).ev
end
end V3

set_option Elab.async false
set_option linter.all false
set_option maxRecDepth 100000
/-! == and != of plain data, by classes -/
namespace V3
open PySem L2 TL
/-- what a thing is as plain data -/
class Dt (K : PySem.W.Frag) {α : Type} (S : α → V → Hp → Prop) where
  d : α → PyData
  ok : α → Prop
  n : Nat
  dp : ∀ a v H, S a v H → Dp K H v (d a)
  lay : ∀ a, ok a → (d a).canLay0 = true
  dep : ∀ a, (d a).depth ≤ n
  inj : ∀ a b, ok a → ok b → (PyData.eqv (d a) (d b) = true ↔ a = b)
variable {K : PySem.W.Frag}
instance : Dt K isIv where
  d := .int
  ok := fun _ => True
  n := 0
  dp := fun a v H h => by cases h; exact .int a
  lay := fun a _ => by simp [PyData.canLay0]
  dep := fun a => by simp [PyData.depth]
  inj := fun a b _ _ => by simp [PyData.eqv]
instance : Dt K isBv where
  d := .bool
  ok := fun _ => True
  n := 0
  dp := fun a v H h => by cases h; exact .bl a
  lay := fun a _ => by simp [PyData.canLay0]
  dep := fun a => by simp [PyData.depth]
  inj := fun a b _ _ => by simp [PyData.eqv]
instance : Dt K isSv where
  d := .str
  ok := fun s => PyData.strOk s = true
  n := 0
  dp := fun a v H h => by cases h; exact .str a
  lay := fun a h => by simp [PyData.canLay0, h]
  dep := fun a => by simp [PyData.depth]
  inj := fun a b _ _ => by simp [PyData.eqv]
theorem eqvAll_map {α : Type} {d : α → PyData} : ∀ {as bs : List α}, (∀ a ∈ as, ∀ b ∈ bs, (PyData.eqv (d a) (d b) = true ↔ a = b)) → (PyData.eqvAll (as.map d) (bs.map d) = true ↔ as = bs)
  | [], [], _ => by simp [PyData.eqvAll]
  | [], _ :: _, _ => by simp [PyData.eqvAll]
  | _ :: _, [], _ => by simp [PyData.eqvAll]
  | a :: as, b :: bs, h => by
    have h1 := h a (by simp) b (by simp)
    have h2 := eqvAll_map (as := as) (bs := bs) fun x hx y hy => h x (by simp [hx]) y (by simp [hy])
    simp only [List.map_cons, PyData.eqvAll, Bool.and_eq_true, h1, h2, List.cons.injEq]
theorem lay_map {α : Type} {d : α → PyData} : ∀ {as : List α}, (∀ a ∈ as, (d a).canLay0 = true) → PyData.canLayAll0 (as.map d) = true
  | [], _ => by simp [PyData.canLayAll0]
  | a :: as, h => by
    have z := lay_map (as := as) fun x hx => h x (by simp [hx])
    simp [PyData.canLayAll0, h a (by simp), z]
theorem dep_map {α : Type} {d : α → PyData} {n : Nat} (h : ∀ a, (d a).depth ≤ n) : ∀ as : List α, PyData.depthAll (as.map d) ≤ n
  | [] => by simp [PyData.depthAll]
  | a :: as => by
    have z := dep_map h as
    have y := h a
    simp only [List.map_cons, PyData.depthAll]
    omega
theorem Ls.nil' {α : Type} {R : V → α → Prop} {us : List V} (h : Ls R us []) : us = [] := List.length_eq_zero_iff.mp h.1
theorem Ls.uncons {α : Type} {R : V → α → Prop} {us : List V} {a : α} {as : List α} (h : Ls R us (a :: as)) : ∃ u r, us = u :: r ∧ R u a ∧ Ls R r as := by
  cases us with
  | nil => cases h.1
  | cons u r =>
    obtain ⟨w, e, t⟩ := h.2 0 a rfl
    have e : u = w := by simpa using e
    subst e
    exact ⟨u, r, rfl, t, by simpa using h.1, fun i m hm => by simpa using h.2 (i + 1) m (by simpa using hm)⟩
theorem dpAll_map {α : Type} {S : α → V → Hp → Prop} {d : α → PyData} {H : Hp} (h : ∀ a v, S a v H → Dp K H v (d a)) : ∀ {as : List α} {us : List V}, Ls (fun u a => S a u H) us as → DpAll K H us (as.map d)
  | [], us, l => by
    rw [l.nil']
    exact .nil
  | a :: as, us, l => by
    obtain ⟨u, r, rfl, t, l2⟩ := l.uncons
    exact .cons (h a u t) (dpAll_map h l2)
instance {α : Type} {S : α → V → Hp → Prop} [i : Dt K S] : Dt K (isL S) where
  d := fun as => .list (as.map i.d)
  ok := fun as => ∀ a ∈ as, i.ok a
  n := i.n + 1
  dp := fun as v H ⟨D, us, e, hD, l⟩ => by
    subst e
    exact .lst (SqL.of hD) (dpAll_map (fun a v h => i.dp a v H h) l)
  lay := fun as h => by
    simp only [PyData.canLay0]
    exact lay_map fun a ha => i.lay a (h a ha)
  dep := fun as => by
    have z := dep_map i.dep as
    simp only [PyData.depth]
    omega
  inj := fun as bs ha hb => by
    simp only [PyData.eqv]
    rw [eqvAll_map fun a h1 b h2 => i.inj a b (ha a h1) (hb b h2)]
instance {α : Type} {S : α → V → Hp → Prop} [i : Dt K S] : Dt K (isU S) where
  d := fun as => .tuple (as.map i.d)
  ok := fun as => ∀ a ∈ as, i.ok a
  n := i.n + 1
  dp := fun as v H ⟨D, us, e, hD, l⟩ => by
    subst e
    exact .tup (SqT.of hD) (dpAll_map (fun a v h => i.dp a v H h) l)
  lay := fun as h => by
    simp only [PyData.canLay0]
    exact lay_map fun a ha => i.lay a (h a ha)
  dep := fun as => by
    have z := dep_map i.dep as
    simp only [PyData.depth]
    omega
  inj := fun as bs ha hb => by
    simp only [PyData.eqv]
    rw [eqvAll_map fun a h1 b h2 => i.inj a b (ha a h1) (hb b h2)]
/-- tuples of two, of three, of four -/
def isP2 {α β : Type} (S : α → V → Hp → Prop) (T : β → V → Hp → Prop) (p : α × β) : V → Hp → Prop := fun v H => ∃ D u w, v = .ref D ∧ H D = some (.tup [u, w]) ∧ S p.1 u H ∧ T p.2 w H
instance {α β : Type} {S : α → V → Hp → Prop} {T : β → V → Hp → Prop} [∀ a, St (S a)] [∀ a, St (T a)] {p : α × β} : St (isP2 S T p) := ⟨fun _ _ _ s ⟨D, u, w, e, h, a, b⟩ => ⟨D, u, w, e, s _ _ h, up s a, up s b⟩⟩
instance {α β : Type} {S : α → V → Hp → Prop} {T : β → V → Hp → Prop} [∀ a, StL (S a)] [∀ a, StL (T a)] {p : α × β} : StL (isP2 S T p) := ⟨fun _ _ _ s ⟨D, u, w, e, h, a, b⟩ => ⟨D, u, w, e, s _ _ (fun _ z => by cases z) h, upL s a, upL s b⟩⟩
instance {α β : Type} {S : α → V → Hp → Prop} {T : β → V → Hp → Prop} [i : Dt K S] [j : Dt K T] : Dt K (isP2 S T) where
  d := fun p => .tuple [i.d p.1, j.d p.2]
  ok := fun p => i.ok p.1 ∧ j.ok p.2
  n := max i.n j.n + 1
  dp := fun p v H ⟨D, u, w, e, h, a, b⟩ => by
    subst e
    exact .tup (SqT.of h) (.cons (i.dp _ _ _ a) (.cons (j.dp _ _ _ b) .nil))
  lay := fun p h => by simp [PyData.canLay0, PyData.canLayAll0, i.lay _ h.1, j.lay _ h.2]
  dep := fun p => by
    have a := i.dep p.1
    have b := j.dep p.2
    simp only [PyData.depth, PyData.depthAll]
    omega
  inj := fun p q hp hq => by
    obtain ⟨a, b⟩ := p
    obtain ⟨c, e⟩ := q
    simp only [PyData.eqv, PyData.eqvAll, Bool.and_eq_true, i.inj _ _ hp.1 hq.1, j.inj _ _ hp.2 hq.2, Prod.mk.injEq, and_true]
def isP3 {α β γ : Type} (S : α → V → Hp → Prop) (T : β → V → Hp → Prop) (U : γ → V → Hp → Prop) (p : α × β × γ) : V → Hp → Prop := fun v H => ∃ D u w x, v = .ref D ∧ H D = some (.tup [u, w, x]) ∧ S p.1 u H ∧ T p.2.1 w H ∧ U p.2.2 x H
instance {α β γ : Type} {S : α → V → Hp → Prop} {T : β → V → Hp → Prop} {U : γ → V → Hp → Prop} [∀ a, St (S a)] [∀ a, St (T a)] [∀ a, St (U a)] {p : α × β × γ} : St (isP3 S T U p) := ⟨fun _ _ _ s ⟨D, u, w, x, e, h, a, b, c⟩ => ⟨D, u, w, x, e, s _ _ h, up s a, up s b, up s c⟩⟩
instance {α β γ : Type} {S : α → V → Hp → Prop} {T : β → V → Hp → Prop} {U : γ → V → Hp → Prop} [∀ a, StL (S a)] [∀ a, StL (T a)] [∀ a, StL (U a)] {p : α × β × γ} : StL (isP3 S T U p) := ⟨fun _ _ _ s ⟨D, u, w, x, e, h, a, b, c⟩ => ⟨D, u, w, x, e, s _ _ (fun _ z => by cases z) h, upL s a, upL s b, upL s c⟩⟩
instance {α β γ : Type} {S : α → V → Hp → Prop} {T : β → V → Hp → Prop} {U : γ → V → Hp → Prop} [i : Dt K S] [j : Dt K T] [l : Dt K U] : Dt K (isP3 S T U) where
  d := fun p => .tuple [i.d p.1, j.d p.2.1, l.d p.2.2]
  ok := fun p => i.ok p.1 ∧ j.ok p.2.1 ∧ l.ok p.2.2
  n := max (max i.n j.n) l.n + 1
  dp := fun p v H ⟨D, u, w, x, e, h, a, b, c⟩ => by
    subst e
    exact .tup (SqT.of h) (.cons (i.dp _ _ _ a) (.cons (j.dp _ _ _ b) (.cons (l.dp _ _ _ c) .nil)))
  lay := fun p h => by simp [PyData.canLay0, PyData.canLayAll0, i.lay _ h.1, j.lay _ h.2.1, l.lay _ h.2.2]
  dep := fun p => by
    have a := i.dep p.1
    have b := j.dep p.2.1
    have c := l.dep p.2.2
    simp only [PyData.depth, PyData.depthAll]
    omega
  inj := fun p q hp hq => by
    obtain ⟨a, b, f⟩ := p
    obtain ⟨c, e, g⟩ := q
    simp only [PyData.eqv, PyData.eqvAll, Bool.and_eq_true, i.inj _ _ hp.1 hq.1, j.inj _ _ hp.2.1 hq.2.1, l.inj _ _ hp.2.2 hq.2.2, Prod.mk.injEq, and_true]
section
variable {σ : L2.St} {ta tb te : TE} {ts : TA} {H0 : Hp} {α β γ : Type} {S : α → V → Hp → Prop} {T : β → V → Hp → Prop} {U : γ → V → Hp → Prop} [∀ a, St (S a)] [∀ a, St (T a)] [∀ a, St (U a)] {a b : α} {c : β} {e : γ}
theorem shaped_dt [i : Dt K S] (n : i.n ≤ 64) (h : i.ok a) : SeqAt.shaped (i.d a) = true := by
  have z := i.dep a
  unfold SeqAt.shaped
  rw [i.lay a h, decide_eq_true (by omega)]
  rfl
theorem ev_neD [i : Dt K S] [Decidable (a = b)] (ha : EvV (Same H0) σ ta (S a)) (hb : EvV (Same H0) σ tb (S b)) (oa : i.ok a) (ob : i.ok b) (n : i.n ≤ 64 := by exact Nat.le_of_ble_eq_true rfl) : EvV (Same H0) σ (tOp (rNeD K) ta tb) (isBv (!decide (a = b))) :=
  ev_o ha hb fun x y H Q w hx hy k => ⟨_, _, i.dp _ _ _ hx, i.dp _ _ _ hy, shaped_dt n oa, shaped_dt n ob, k _ H (Same.refl H) (by
    have z := i.inj a b oa ob
    by_cases h : a = b
    · rw [z.mpr h, decide_eq_true h]
      rfl
    · rw [Bool.eq_false_iff.mpr fun q => h (z.mp q), decide_eq_false h]
      rfl)⟩
theorem ev_eqD [i : Dt K S] [Decidable (a = b)] (ha : EvV (Same H0) σ ta (S a)) (hb : EvV (Same H0) σ tb (S b)) (oa : i.ok a) (ob : i.ok b) (n : i.n ≤ 64 := by exact Nat.le_of_ble_eq_true rfl) : EvV (Same H0) σ (tOp (rEqD K) ta tb) (isBv (decide (a = b))) :=
  ev_o ha hb fun x y H Q w hx hy k => ⟨_, _, i.dp _ _ _ hx, i.dp _ _ _ hy, shaped_dt n oa, shaped_dt n ob, k _ H (Same.refl H) (by
    have z := i.inj a b oa ob
    by_cases h : a = b
    · rw [z.mpr h, decide_eq_true h]
      rfl
    · rw [Bool.eq_false_iff.mpr fun q => h (z.mp q), decide_eq_false h]
      rfl)⟩
theorem ev_p2 (ha : EvV (Same H0) σ ta (S a)) (hb : EvV (Same H0) σ tb (T c)) : EvV (Same H0) σ (tTup (tCons ta (tCons tb tNil))) (isP2 S T (a, c)) := fun H Q w k =>
  ha H _ w fun x H1 s1 w1 hx => hb H1 _ w1 fun y H2 s2 w2 hy => ⟨(by show 2 ≤ sizeLine; decide), fun p np => by
    have s3 : Same H2 (upd H2 p (.tup [x, y])) := Same.new np
    exact k _ _ ((s1.trans s2).trans s3) (w2.trans s3) ⟨p, x, y, rfl, upd_same, up (s2.trans s3) hx, up s3 hy⟩⟩
theorem ev_p3 (ha : EvV (Same H0) σ ta (S a)) (hb : EvV (Same H0) σ tb (T c)) (hc : EvV (Same H0) σ te (U e)) : EvV (Same H0) σ (tTup (tCons ta (tCons tb (tCons te tNil)))) (isP3 S T U (a, c, e)) := fun H Q w k =>
  ha H _ w fun x H1 s1 w1 hx => hb H1 _ w1 fun y H2 s2 w2 hy => hc H2 _ w2 fun z H3 s3 w3 hz => ⟨(by show 3 ≤ sizeLine; decide), fun p np => by
    have s4 : Same H3 (upd H3 p (.tup [x, y, z])) := Same.new np
    exact k _ _ (((s1.trans s2).trans s3).trans s4) (w3.trans s4) ⟨p, x, y, z, rfl, upd_same, up ((s2.trans s3).trans s4) hx, up (s3.trans s4) hy, up s4 hz⟩⟩
end
end V3

set_option Elab.async false
set_option linter.all false
set_option maxRecDepth 100000
/-! operators, answered -/
namespace V3
open PySem L2 TL
section
variable {K : PySem.W.Frag} {σ : L2.St} {ta tb te : TE} {t u : TT} {H0 : Hp} {R : V → Hp → Prop} {i j : Int} {b : Bool}
theorem ev_i0 {g : Int → Int → V} (ha : EvV (Same H0) σ ta (isIv i)) (hb : EvV (Same H0) σ tb (isIv j)) : EvV (Same H0) σ (tOp (rI0 g) ta tb) (isVv (g i j)) :=
  ev_o ha hb fun x y H Q w ex ey k => ⟨i, j, ex, ey, k _ H (Same.refl H) rfl⟩
theorem ev_i1 {C : Int → Int → Prop} {g : Int → Int → V} (c : C i j) (ha : EvV (Same H0) σ ta (isIv i)) (hb : EvV (Same H0) σ tb (isIv j)) : EvV (Same H0) σ (tOp (rI C g) ta tb) (isVv (g i j)) :=
  ev_o ha hb fun x y H Q w ex ey k => ⟨i, j, ex, ey, c, k _ H (Same.refl H) rfl⟩
theorem ev_ad (ha : EvV (Same H0) σ ta (isIv i)) (hb : EvV (Same H0) σ tb (isIv j)) : EvV (Same H0) σ (tOp (rI0 fun i j => .int (i + j)) ta tb) (isIv (i + j)) := ev_i0 (g := fun i j => .int (i + j)) ha hb
theorem ev_sb (ha : EvV (Same H0) σ ta (isIv i)) (hb : EvV (Same H0) σ tb (isIv j)) : EvV (Same H0) σ (tOp (rI0 fun i j => .int (i - j)) ta tb) (isIv (i - j)) := ev_i0 (g := fun i j => .int (i - j)) ha hb
theorem ev_lt (ha : EvV (Same H0) σ ta (isIv i)) (hb : EvV (Same H0) σ tb (isIv j)) : EvV (Same H0) σ (tOp (rI0 fun i j => .bl (decide (i < j))) ta tb) (isBv (decide (i < j))) := ev_i0 (g := fun i j => .bl (decide (i < j))) ha hb
theorem ev_le (ha : EvV (Same H0) σ ta (isIv i)) (hb : EvV (Same H0) σ tb (isIv j)) : EvV (Same H0) σ (tOp (rI0 fun i j => .bl (decide (i ≤ j))) ta tb) (isBv (decide (i ≤ j))) := ev_i0 (g := fun i j => .bl (decide (i ≤ j))) ha hb
theorem ev_gt (ha : EvV (Same H0) σ ta (isIv i)) (hb : EvV (Same H0) σ tb (isIv j)) : EvV (Same H0) σ (tOp (rI0 fun i j => .bl (decide (j < i))) ta tb) (isBv (decide (j < i))) := ev_i0 (g := fun i j => .bl (decide (j < i))) ha hb
theorem ev_ge (ha : EvV (Same H0) σ ta (isIv i)) (hb : EvV (Same H0) σ tb (isIv j)) : EvV (Same H0) σ (tOp (rI0 fun i j => .bl (decide (j ≤ i))) ta tb) (isBv (decide (j ≤ i))) := ev_i0 (g := fun i j => .bl (decide (j ≤ i))) ha hb
theorem ev_mod (c : 0 < j) (ha : EvV (Same H0) σ ta (isIv i)) (hb : EvV (Same H0) σ tb (isIv j)) : EvV (Same H0) σ (tOp (rI (fun _ j => 0 < j) fun i j => .int (i % j)) ta tb) (isIv (i % j)) := ev_i1 (g := fun i j => .int (i % j)) c ha hb
theorem ev_mul (c : CMul i j) (ha : EvV (Same H0) σ ta (isIv i)) (hb : EvV (Same H0) σ tb (isIv j)) : EvV (Same H0) σ (tOp (rI CMul fun i j => .int (i * j)) ta tb) (isIv (i * j)) := ev_i1 (g := fun i j => .int (i * j)) c ha hb
theorem ev_pow (c : CPow i j) (ha : EvV (Same H0) σ ta (isIv i)) (hb : EvV (Same H0) σ tb (isIv j)) : EvV (Same H0) σ (tOp (rI CPow fun i j => .int (i ^ j.toNat)) ta tb) (isIv (i ^ j.toNat)) := ev_i1 (g := fun i j => .int (i ^ j.toNat)) c ha hb
theorem ev_ng (ha : EvV (Same H0) σ ta (isIv i)) : EvV (Same H0) σ (tUn (rU fun i => .int (-i)) ta) (isIv (-i)) := fun H Q w k => ha H _ w fun v H' s w' e => ⟨i, e, k _ H' s w' rfl⟩
theorem ev_int1 (ha : EvV (Same H0) σ ta (isIv i)) : EvV (Same H0) σ (tCB (fun xs H Q => (∃ i, xs = [.int i] ∧ Q (.int i) H) ∨ ∃ k, xs = [.bl k] ∧ Q (.int (if k then 1 else 0)) H) (tCons ta tNil)) (isIv i) := fun H Q w k =>
  ha H _ w fun v H' s w' e => by
    cases e
    exact .inl ⟨i, rfl, k _ H' s w' rfl⟩
theorem ev_cat {x y : Str} (n : x.length + y.length ≤ 100000) (ha : EvV (Same H0) σ ta (isSv x)) (hb : EvV (Same H0) σ tb (isSv y)) : EvV (Same H0) σ (tOp (fun x y H Q => ∃ i j, x = .str i ∧ y = .str j ∧ i.length + j.length ≤ sizeLine ∧ Q (.str (i ++ j)) H) ta tb) (isSv (x ++ y)) :=
  ev_o ha hb fun _ _ H Q w ex ey k => ⟨x, y, ex, ey, Nat.le_trans n (by decide), k _ H (Same.refl H) rfl⟩
theorem ev_eqi (ha : EvV (Same H0) σ ta (isIv i)) (hb : EvV (Same H0) σ tb (isIv j)) : EvV (Same H0) σ (tOp rEq ta tb) (isBv (decide (i = j))) :=
  ev_o ha hb fun x y H Q w ex ey k => by
    cases ex
    cases ey
    refine ⟨rfl, k _ H (Same.refl H) ?_⟩
    have e : (V.int i = V.int j) ↔ (i = j) := ⟨fun z => by injection z, fun z => by rw [z]⟩
    show V.bl (decide (V.int i = V.int j)) = V.bl (decide (i = j))
    by_cases h : i = j
    · rw [decide_eq_true h, decide_eq_true (e.mpr h)]
    · rw [decide_eq_false h, decide_eq_false (fun z => h (e.mp z))]
theorem ev_is {b' : Bool} (h : EvV (Same H0) σ ta (isBv b)) (e : b = b') : EvV (Same H0) σ ta (isBv b') := e ▸ h
theorem ev_at (ha : EvV (Same H0) σ ta (isBv true)) (hb : EvV (Same H0) σ tb R) : EvV (Same H0) σ (tAndV ta tb) R := fun H Q w k => ha H _ w fun v H1 s1 w1 e => ⟨true, e, iteT (hb H1 _ w1 fun v H2 s2 w2 r => k v H2 (s1.trans s2) w2 r)⟩
theorem ev_af (ha : EvV (Same H0) σ ta (isBv false)) : EvV (Same H0) σ (tAndV ta tb) (isBv false) := fun H Q w k => ha H _ w fun v H1 s1 w1 e => ⟨false, e, iteF (k _ H1 s1 w1 rfl)⟩
theorem ev_av {p q : Bool} (ha : EvV (Same H0) σ ta (isBv p)) (hb : p = true → EvV (Same H0) σ tb (isBv q)) : EvV (Same H0) σ (tAndV ta tb) (isBv (p && q)) := by
  cases p with
  | true => exact ev_at ha (hb rfl)
  | false => exact ev_af ha
theorem ev_ov {p q : Bool} (ha : EvV (Same H0) σ ta (isBv p)) (hb : p = false → EvV (Same H0) σ tb (isBv q)) : EvV (Same H0) σ (tOrV ta tb) (isBv (p || q)) := fun H Q w k => ha H _ w fun v H1 s1 w1 e => by
  cases p with
  | true => exact ⟨true, e, iteT (k _ H1 s1 w1 rfl)⟩
  | false => exact ⟨false, e, iteF (hb rfl H1 _ w1 fun v H2 s2 w2 r => k v H2 (s1.trans s2) w2 r)⟩
theorem ev_nv {p : Bool} (ha : EvV (Same H0) σ ta (isBv p)) : EvV (Same H0) σ (tNotV ta) (isBv (!p)) := fun H Q w k => ha H _ w fun v H1 s1 w1 e => ⟨p, e, k _ H1 s1 w1 rfl⟩
/-- len of a list, of a tuple -/
theorem ev_lenL {α : Type} {S : α → V → Hp → Prop} {as : List α} (ha : EvV (Same H0) σ ta (isL S as)) : EvV (Same H0) σ (tCB (fun xs H Q => ∃ p ys, xs = [.ref p] ∧ (SqL K H p ys ∨ SqT K H p ys) ∧ Q (.int (ys.length : Int)) H) (tCons ta tNil)) (isIv (as.length : Int)) := fun H Q w k =>
  ha H _ w fun x H1 s1 w1 hx => by
    obtain ⟨D, us, rfl, hD, l⟩ := hx
    exact ⟨D, us, rfl, .inl (SqL.of hD), k _ H1 s1 w1 (by rw [l.1]; rfl)⟩
theorem ev_lenU {α : Type} {S : α → V → Hp → Prop} {as : List α} (ha : EvV (Same H0) σ ta (isU S as)) : EvV (Same H0) σ (tCB (fun xs H Q => ∃ p ys, xs = [.ref p] ∧ (SqL K H p ys ∨ SqT K H p ys) ∧ Q (.int (ys.length : Int)) H) (tCons ta tNil)) (isIv (as.length : Int)) := fun H Q w k =>
  ha H _ w fun x H1 s1 w1 hx => by
    obtain ⟨D, us, rfl, hD, l⟩ := hx
    exact ⟨D, us, rfl, .inr (SqT.of hD), k _ H1 s1 w1 (by rw [l.1]; rfl)⟩
theorem Ls.eqs {us ws : List V} {H : Hp} (h : Ls (fun u a => isVv a u H) us ws) : us = ws := by
  refine List.ext_getElem? fun i => ?_
  cases e : ws[i]? with
  | none =>
    have z : ws.length ≤ i := List.getElem?_eq_none_iff.mp e
    rw [List.getElem?_eq_none_iff, h.1]
    exact z
  | some m =>
    obtain ⟨v, ev, q⟩ := h.2 i m e
    have q : v = m := q
    rw [ev, q]
end
end V3

set_option Elab.async false
set_option linter.all false
set_option maxRecDepth 100000
/-! lists cut, joined, turned round; texts split and joined, answered -/
namespace V3
open PySem L2 TL
def cutA {α : Type} (xs : List α) (lo hi : Option Int) : List α := (xs.drop (HT.sIx xs.length 0 lo)).take (HT.sIx xs.length xs.length hi - HT.sIx xs.length 0 lo)
theorem cutA_all {α : Type} (xs : List α) : cutA xs none none = xs := by
  unfold cutA
  rw [HT.sIx_none, HT.sIx_none]
  simp
theorem cutA_from {α : Type} (xs : List α) (n : Nat) : cutA xs (some (n : Int)) none = xs.drop n := by
  unfold cutA
  rw [HT.sIx_nat, HT.sIx_none]
  by_cases h : n ≤ xs.length
  · rw [Nat.min_eq_left h]
    exact List.take_of_length_le (Nat.le_of_eq (List.length_drop ..))
  · rw [Nat.min_eq_right (by omega), List.drop_length, List.drop_eq_nil_of_le (by omega)]
    simp
theorem cutA_to {α : Type} (xs : List α) (n : Nat) : cutA xs none (some (n : Int)) = xs.take n := by
  unfold cutA
  rw [HT.sIx_nat, HT.sIx_none, List.drop_zero, Nat.sub_zero]
  by_cases h : n ≤ xs.length
  · rw [Nat.min_eq_left h]
  · rw [Nat.min_eq_right (by omega), List.take_length, List.take_of_length_le (by omega)]
theorem cutA_mid {α : Type} (xs : List α) (n m : Nat) : cutA xs (some (n : Int)) (some (m : Int)) = (xs.take m).drop n := by
  unfold cutA
  rw [HT.sIx_nat, HT.sIx_nat]
  by_cases h : n ≤ xs.length
  · rw [Nat.min_eq_left h, List.drop_take]
    by_cases k : m ≤ xs.length
    · rw [Nat.min_eq_left k]
    · rw [Nat.min_eq_right (by omega), List.take_of_length_le (Nat.le_of_eq (List.length_drop ..)), List.take_of_length_le (by rw [List.length_drop]; omega)]
  · rw [Nat.min_eq_right (a := n) (by omega), List.drop_length, List.drop_eq_nil_of_le (by rw [List.length_take]; omega)]
    simp
theorem Ls.drop {α : Type} {R : V → α → Prop} {us : List V} {as : List α} (l : Ls R us as) (n : Nat) : Ls R (us.drop n) (as.drop n) := ⟨by rw [List.length_drop, List.length_drop, l.1], fun i m h => by
  rw [List.getElem?_drop] at h ⊢
  exact l.2 _ _ h⟩
theorem Ls.take {α : Type} {R : V → α → Prop} {us : List V} {as : List α} (l : Ls R us as) (n : Nat) : Ls R (us.take n) (as.take n) := ⟨by rw [List.length_take, List.length_take, l.1], fun i m h => by
  rw [List.getElem?_take] at h ⊢
  by_cases c : i < n
  · rw [if_pos c] at h ⊢
    exact l.2 _ _ h
  · rw [if_neg c] at h
    cases h⟩
theorem Ls.app {α : Type} {R : V → α → Prop} {us vs : List V} {as bs : List α} (l : Ls R us as) (k : Ls R vs bs) : Ls R (us ++ vs) (as ++ bs) := ⟨by rw [List.length_append, List.length_append, l.1, k.1], fun i m h => by
  by_cases c : i < as.length
  · rw [List.getElem?_append_left c] at h
    rw [List.getElem?_append_left (by rw [l.1]; exact c)]
    exact l.2 _ _ h
  · rw [List.getElem?_append_right (by omega)] at h
    rw [List.getElem?_append_right (by rw [l.1]; omega), l.1]
    exact k.2 _ _ h⟩
theorem Ls.rev {α : Type} {R : V → α → Prop} {us : List V} {as : List α} (l : Ls R us as) : Ls R us.reverse as.reverse := ⟨by rw [List.length_reverse, List.length_reverse, l.1], fun i m h => by
  have lt : i < as.length := by
    have z := (List.getElem?_eq_some_iff.mp h).1
    rw [List.length_reverse] at z
    exact z
  rw [List.getElem?_reverse lt] at h
  rw [List.getElem?_reverse (by rw [l.1]; exact lt), l.1]
  exact l.2 _ _ h⟩
theorem Ls.put {α : Type} {R : V → α → Prop} {us : List V} {as : List α} {v : V} {a : α} (l : Ls R us as) (r : R v a) (j : Nat) : Ls R (us.set j v) (as.set j a) := ⟨by rw [List.length_set, List.length_set, l.1], fun i m h => by
  rw [List.getElem?_set] at h ⊢
  by_cases c : j = i
  · rw [if_pos c] at h ⊢
    by_cases q : j < as.length
    · rw [if_pos q] at h
      rw [if_pos (by rw [l.1]; exact q)]
      cases h
      exact ⟨v, rfl, r⟩
    · rw [if_neg q] at h
      cases h
  · rw [if_neg c] at h ⊢
    exact l.2 _ _ h⟩
theorem Ls.cut {α : Type} {R : V → α → Prop} {us : List V} {as : List α} (l : Ls R us as) (lo hi : Option Int) : Ls R (cutV us lo hi) (cutA as lo hi) := by
  unfold cutV cutA
  rw [l.1]
  exact (l.drop _).take _
theorem Ls.strs : ∀ {H : Hp} (as : List Str), Ls (fun u a => isSv a u H) (as.map V.str) as := fun as => ⟨by rw [List.length_map], fun i m h => ⟨.str m, by rw [List.getElem?_map, h]; rfl, rfl⟩⟩
theorem Ls.toStrs {H : Hp} {us : List V} {as : List Str} (l : Ls (fun u a => isSv a u H) us as) : us = as.map V.str := by
  refine List.ext_getElem? fun i => ?_
  cases e : as[i]? with
  | none =>
    have z : as.length ≤ i := List.getElem?_eq_none_iff.mp e
    rw [List.getElem?_map, e, List.getElem?_eq_none (by rw [l.1]; exact z)]
    rfl
  | some m =>
    obtain ⟨v, ev, q⟩ := l.2 i m e
    have q : v = .str m := q
    rw [ev, q, List.getElem?_map, e]
    rfl
section
variable {K : PySem.W.Frag} {σ : L2.St} {ta tb te : TE} {tl th : TO} {H0 : Hp} {α : Type} {S : α → V → Hp → Prop} {as bs : List α} {x y : Str}
theorem evn_cut [∀ a, St (S a)] {lo hi : Option Int} (ha : EvV (Same H0) σ ta (isL S as)) (hl : EvO (Same H0) σ tl lo) (hh : EvO (Same H0) σ th hi) : EvNL H0 σ (tSl (rSlL K) ta tl th) S (cutA as lo hi) := fun H Q w k =>
  ha H _ w fun v H1 s1 w1 hv => hl H1 _ w1 fun H2 s2 w2 => hh H2 _ w2 fun H3 s3 w3 => by
    obtain ⟨D, us, rfl, hD, l⟩ := up (s2.trans s3) hv
    refine ⟨D, us, rfl, SqL.of hD, fun p np => ?_⟩
    have s4 : Same H3 (upd H3 p (.lst (cutV us lo hi))) := Same.new np
    have S3 := (s1.trans s2).trans s3
    exact k p _ _ (S3.free np) (S3.trans s4) upd_same ((l.cut lo hi).up s4)
theorem evn_cat [∀ a, St (S a)] (ha : EvV (Same H0) σ ta (isL S as)) (hb : EvV (Same H0) σ tb (isL S bs)) (n : as.length + bs.length ≤ 1000) : EvNL H0 σ (tOp rCat ta tb) S (as ++ bs) := fun H Q w k =>
  ha H _ w fun v H1 s1 w1 hv => hb H1 _ w1 fun u H2 s2 w2 hu => by
    obtain ⟨D, us, rfl, hD, l⟩ := up s2 hv
    obtain ⟨B, vs, rfl, hB, m⟩ := hu
    refine ⟨D, B, us, vs, rfl, rfl, hD, hB, Nat.le_trans (by rw [l.1, m.1]; exact n) (by decide), fun p np => ?_⟩
    have s4 : Same H2 (upd H2 p (.lst (us ++ vs))) := Same.new np
    exact k p _ _ ((s1.trans s2).free np) ((s1.trans s2).trans s4) upd_same ((l.app m).up s4)
theorem evn_rev [∀ a, St (S a)] (ha : EvV (Same H0) σ ta (isL S as)) : EvNL H0 σ (tRevL K ta) S as.reverse := fun H Q w k =>
  ha H _ w fun v H1 s1 w1 hv => by
    obtain ⟨D, us, rfl, hD, l⟩ := hv
    refine ⟨D, us, rfl, SqL.of hD, fun p np => ?_⟩
    have s4 : Same H1 (upd H1 p (.lst us.reverse)) := Same.new np
    exact k p _ _ (s1.free np) (s1.trans s4) upd_same (l.rev.up s4)
/-- an item of a list, of a tuple, by its number -/
theorem ev_ixL [∀ a, St (S a)] {n : Nat} {a : α} (e : as[n]? = some a) (ha : EvV (Same H0) σ ta (isL S as)) (hb : EvV (Same H0) σ tb (isIv (n : Int))) : EvV (Same H0) σ (tOp (rIxL K) ta tb) (S a) :=
  ev_o ha hb fun v u H Q w hv hu k => by
    obtain ⟨D, us, rfl, hD, l⟩ := hv
    cases hu
    obtain ⟨z, ez, r⟩ := l.2 n a e
    have lt : n < us.length := (List.getElem?_eq_some_iff.mp ez).1
    refine ⟨D, us, (n : Int), z, rfl, rfl, SqL.of hD, ?_, k z H (Same.refl H) r⟩
    show (ixN us.length (n : Int)).bind (fun j => us[j]?) = _
    have ei : ixN us.length (n : Int) = some n := by
      unfold ixN
      rw [if_pos (by omega), if_pos (by omega)]
      rfl
    rw [ei]
    exact ez
theorem ev_ixU [∀ a, St (S a)] {n : Nat} {a : α} (e : as[n]? = some a) (ha : EvV (Same H0) σ ta (isU S as)) (hb : EvV (Same H0) σ tb (isIv (n : Int))) : EvV (Same H0) σ (tOp (rIxT K) ta tb) (S a) :=
  ev_o ha hb fun v u H Q w hv hu k => by
    obtain ⟨D, us, rfl, hD, l⟩ := hv
    cases hu
    obtain ⟨z, ez, r⟩ := l.2 n a e
    have lt : n < us.length := (List.getElem?_eq_some_iff.mp ez).1
    refine ⟨D, us, (n : Int), z, rfl, rfl, SqT.of hD, ?_, k z H (Same.refl H) r⟩
    show (ixN us.length (n : Int)).bind (fun j => us[j]?) = _
    have ei : ixN us.length (n : Int) = some n := by
      unfold ixN
      rw [if_pos (by omega), if_pos (by omega)]
      rfl
    rw [ei]
    exact ez
/-- text.split(sep) -/
theorem evn_split (n : x.length ≤ 100000) (hy : (y.length == 0) = false) (ha : EvV (Same H0) σ ta (isSv x)) (hb : EvV (Same H0) σ tb (isSv y)) :
    EvNL H0 σ (tM1 (fun x xs H Q => ∃ a b, x = .str a ∧ xs = [.str b] ∧ (b.length == 0) = false ∧ a.length + 2 ≤ sizeLine ∧ rNewStrs (Txt.split a b) H Q) ta tb) isSv (Txt.split x y) := fun H Q w k =>
  ha H _ w fun v H1 s1 w1 e => ⟨⟨x, e⟩, hb H1 _ w1 fun u H2 s2 w2 e2 => by
    cases e
    cases e2
    refine ⟨x, y, rfl, rfl, hy, Nat.le_trans (Nat.add_le_add_right n 2) (by decide), fun p np => ?_⟩
    have s4 : Same H2 (upd H2 p (.lst ((Txt.split x y).map V.str))) := Same.new np
    exact k p _ _ ((s1.trans s2).free np) ((s1.trans s2).trans s4) upd_same (Ls.strs _)⟩
/-- sep.join(texts) -/
theorem ev_joinLs {L : List Str} (hy : y.length ≤ 4) (n : (L.map (·.length)).sum + L.length ≤ 100000) (ha : EvV (Same H0) σ ta (isSv y)) (hb : EvV (Same H0) σ tb (isSs L)) : EvV (Same H0) σ (tM1 (rJoinK K) ta tb) (isSv (Str.join y L)) := fun H Q w k =>
  ha H _ w fun v H1 s1 w1 e => ⟨⟨y, e⟩, hb H1 _ w1 fun u H2 s2 w2 hu => by
    cases e
    obtain ⟨D, us, rfl, hD, l⟩ := hu
    have el := l.toStrs
    subst el
    refine ⟨y, D, L, rfl, rfl, .inl (SqL.of hD), ?_, k _ H2 (s1.trans s2) w2 (by rw [join_eq]; rfl)⟩
    have z : L.length * y.length ≤ L.length * 4 := Nat.mul_le_mul_left _ hy
    refine Nat.le_trans (m := 500000) ?_ (by decide)
    first | omega | (rw [Nat.mul_comm]; omega) | (simp only [List.length_map]; omega)⟩
theorem EvNL.isL {S : α → V → Hp → Prop} (h : EvNL H0 σ te S as) : EvV (Same H0) σ te (isL S as) := h.ev
end
end V3

set_option Elab.async false
set_option linter.all false
set_option maxRecDepth 100000
/-! in, str of a number, enumerate, != of scalars, answered; a class method within a try -/
namespace V3
open PySem L2 TL
theorem inV_strE {k : Str} {L : List Str} : inV (.str k) (L.map V.str) = decide (k ∈ L) := by
  induction L with
  | nil => rfl
  | cons a r ih =>
    have e : inV (.str k) ((a :: r).map V.str) = (a == k || inV (.str k) (r.map V.str)) := rfl
    rw [e, ih]
    by_cases q : k = a
    · subst q
      simp
    · have z : (a == k) = false := Bool.eq_false_iff.mpr fun w => q (eq_of_beq w).symm
      rw [z]
      simp [q]
theorem flat_strE (L : List Str) : (L.map V.str).all flatV = true := by
  induction L with
  | nil => rfl
  | cons a r ih => simpa [flatV] using ih
def negB (neg b : Bool) : Bool := if neg then !b else b
section
variable {K : PySem.W.Frag} {σ : L2.St} {ta tb te : TE} {ts : TA} {H0 : Hp} {R : V → Hp → Prop} {x : Str} {L : List Str} {i : Int} {neg : Bool} {u v : V}
theorem ev_inL (ha : EvV (Same H0) σ ta (isSv x)) (hb : EvV (Same H0) σ tb (isSs L)) : EvV (Same H0) σ (tOp (rIn K neg) ta tb) (isBv (negB neg (decide (x ∈ L)))) :=
  ev_o ha hb fun a b H Q w ea hb k => by
    cases ea
    obtain ⟨D, us, rfl, hD, l⟩ := hb
    have e := l.toStrs
    subst e
    exact ⟨D, _, rfl, .inl (SqL.of hD), rfl, flat_strE _, k _ H (Same.refl H) (by rw [inV_strE]; rfl)⟩
theorem ev_inT (ha : EvV (Same H0) σ ta (isSv x)) (hb : EvV (Same H0) σ tb (isU isSv L)) : EvV (Same H0) σ (tOp (rIn K neg) ta tb) (isBv (negB neg (decide (x ∈ L)))) :=
  ev_o ha hb fun a b H Q w ea hb k => by
    cases ea
    obtain ⟨D, us, rfl, hD, l⟩ := hb
    have e := l.toStrs
    subst e
    exact ⟨D, _, rfl, .inr (SqT.of hD), rfl, flat_strE _, k _ H (Same.refl H) (by rw [inV_strE]; rfl)⟩
theorem ev_num (am : i.natAbs.log2 < 1920) (ha : EvV (Same H0) σ ta (isIv i)) : EvV (Same H0) σ (tCB (fun xs H Q => ∃ i, xs = [.int i] ∧ i.natAbs.log2 < 1920 ∧ Q (.str (toString i)) H) (tCons ta tNil)) (isSv (toString i)) := fun H Q w k =>
  ha H _ w fun y H1 s1 w1 e => by
    cases e
    exact ⟨i, rfl, am, k _ H1 s1 w1 rfl⟩
theorem ev_neV (sc : scal u v = true) (ha : EvV (Same H0) σ ta (isVv u)) (hb : EvV (Same H0) σ tb (isVv v)) : EvV (Same H0) σ (tOp rNe ta tb) (isBv (!decide (u = v))) :=
  ev_o ha hb fun a b H Q w ea eb k => by
    cases ea
    cases eb
    exact ⟨sc, k _ H (Same.refl H) rfl⟩
theorem ev_eqV (sc : scal u v = true) (ha : EvV (Same H0) σ ta (isVv u)) (hb : EvV (Same H0) σ tb (isVv v)) : EvV (Same H0) σ (tOp rEq ta tb) (isBv (decide (u = v))) :=
  ev_o ha hb fun a b H Q w ea eb k => by
    cases ea
    cases eb
    exact ⟨sc, k _ H (Same.refl H) rfl⟩
theorem ev_isN (ha : EvV (Same H0) σ ta (isVv u)) : EvV (Same H0) σ (tOp (fun x y H Q => y = V.non ∧ Q (.bl (decide (x = .non))) H) ta (tC .non)) (isBv (decide (u = .non))) :=
  ev_o (Ra := isVv u) (Rb := isVv .non) ha ev_c fun a b H Q w ea eb k => by
    cases ea
    cases eb
    exact ⟨rfl, k _ H (Same.refl H) rfl⟩
/-- an if, either way -/
theorem if_b {c : TT} {t u : TS} {D : Ends} {H : Hp} {b : Bool} (w : Same H0 H) (h : EvB (Same H0) σ c b) (kt : b = true → ∀ H', Same H H' → t D σ H') (kf : b = false → ∀ H', Same H H' → u D σ H') : tIfS c t u D σ H := h H _ w fun H' s _ => by
  cases b with
  | true => exact iteT (kt rfl H' s)
  | false => exact iteF (kf rfl H' s)
theorem evi_tupU {α : Type} {S : α → V → Hp → Prop} [∀ a, St (S a)] {as : List α} (ha : EvV (Same H0) σ te (isU S as)) : EvI H0 σ (iTup K te) as S :=
  evi_tup (ev_to ha fun v H ⟨D, us, e, hD, l⟩ => ⟨D, us, e, fun H' s => SqT.of (s _ _ hD), l⟩)
theorem evn_lcY {α β : Type} {wi : TI} {i : Nat} {as : List α} {S : α → V → Hp → Prop} {S' : β → V → Hp → Prop} [∀ b, StL (S' b)] (f : α → β) (hi : EvI H0 σ wi as S) (hn : as.length ≤ 1000)
    (hb : ∀ a ∈ as, ∀ x H, Same H0 H → S a x H → EvV (Same H) ((wipe σ [i]).set i (some x)) te (S' (f a))) (hw : ∀ x : V, wipe ((wipe σ [i]).set i (some x)) [i] = wipe σ [i]) :
    EvNL H0 σ (tLc wi (gName i) tYes te [i]) S' (as.map f) := by
  have z := evn_lc (tt := tYes) (te := te) (vs := [i]) (g := gName i) (S' := S') (fun _ => true) f hi hn fun a ha x H w r K2 k => k _ _ (Same.refl H) (hw x) (fun H Q w k => k H (Same.refl H) w) fun _ => hb a ha x H w r
  rw [List.filter_eq_self.mpr fun _ _ => rfl] at z
  exact z
theorem ev_lcY {α β : Type} {wi : TI} {i : Nat} {as : List α} {S : α → V → Hp → Prop} {S' : β → V → Hp → Prop} [∀ b, StL (S' b)] (f : α → β) (hi : EvI H0 σ wi as S) (hn : as.length ≤ 1000)
    (hb : ∀ a ∈ as, ∀ x H, Same H0 H → S a x H → EvV (Same H) ((wipe σ [i]).set i (some x)) te (S' (f a))) (hw : ∀ x : V, wipe ((wipe σ [i]).set i (some x)) [i] = wipe σ [i]) :
    EvV (Same H0) σ (tLc wi (gName i) tYes te [i]) (isL S' (as.map f)) := (evn_lcY f hi hn hb hw).ev
/-- none of them passes the test -/
theorem ev_lcN {α β : Type} {wi : TI} {i : Nat} {as : List α} {S : α → V → Hp → Prop} {tt : TT} (S' : β → V → Hp → Prop) [∀ b, StL (S' b)] (f : α → β) (hi : EvI H0 σ wi as S) (hn : as.length ≤ 1000)
    (hb : ∀ a ∈ as, ∀ x H, Same H0 H → S a x H → EvB (Same H) ((wipe σ [i]).set i (some x)) tt false) (hw : ∀ x : V, wipe ((wipe σ [i]).set i (some x)) [i] = wipe σ [i]) :
    EvV (Same H0) σ (tLc wi (gName i) tt te [i]) (isL S' []) := by
  have z := ev_lc (tt := tt) (te := te) (vs := [i]) (g := gName i) (S' := S') (fun _ => false) f hi hn fun a ha x H w r K2 k => k _ _ (Same.refl H) (hw x) (hb a ha x H w r) fun e => by cases e
  rw [List.filter_eq_nil_iff.mpr fun _ _ => Bool.false_ne_true] at z
  exact z
/-- pairs of places and items -/
def enumF {α : Type} : Nat → List α → List (Nat × α)
  | _, [] => []
  | j, x :: r => (j, x) :: enumF (j + 1) r
theorem enumF_len {α : Type} : ∀ {L : List α} {j : Nat}, (enumF j L).length = L.length
  | [], _ => rfl
  | _ :: r, j => by
    show (enumF (j + 1) r).length + 1 = r.length + 1
    rw [enumF_len]
theorem enumF_get {α : Type} : ∀ {L : List α} {j i : Nat}, (enumF j L)[i]? = L[i]?.map fun x => (j + i, x)
  | [], _, _ => by simp [enumF]
  | x :: r, j, 0 => rfl
  | x :: r, j, i + 1 => by
    show (enumF (j + 1) r)[i]? = r[i]?.map fun x => (j + (i + 1), x)
    rw [enumF_get]
    congr 1
    funext x
    rw [show j + 1 + i = j + (i + 1) by omega]
def isEn {α : Type} (S : α → V → Hp → Prop) (p : Nat × α) : V → Hp → Prop := isP2 (fun n => isIv ((n : Nat) : Int)) S p
instance {α : Type} {S : α → V → Hp → Prop} [∀ a, StL (S a)] {p : Nat × α} : StL (isEn S p) := by unfold isEn; infer_instance
theorem evi_enum {α : Type} {S : α → V → Hp → Prop} [∀ a, St (S a)] {as : List α} (h : EvV (Same H0) σ te (isL S as)) : EvI H0 σ (iEnum K (tCons te tNil)) (enumF 0 as) (isEn S) := fun H Rk w k =>
  h H _ w fun v H1 s1 w1 hv => by
    obtain ⟨D, us, rfl, hD, l⟩ := hv
    refine ⟨D, us, rfl, SqL.of hD, k (Ite K D) H1 s1 ⟨_, _, by rw [enumF_len, ← l.1]; exact walk_enum (K := K) (a := D) (xs := us), fun H2 s => SqL.of (s _ _ hD), fun i H2 x H3 hi s y => ?_⟩⟩
    obtain ⟨T, a, b, rfl, nT, rfl, ea, eb⟩ := y
    obtain rfl := Option.some.inj ea
    obtain ⟨m, em, r⟩ := Ls.get l eb
    refine ⟨Same.new nT, (0 + i, m), by rw [enumF_get, em]; rfl, T, _, b, rfl, upd_same, ?_, up (s.trans (Same.new nT)) r⟩
    show V.int (i : Nat) = V.int ((0 + i : Nat) : Int)
    rw [Nat.zero_add]
end
section
variable {X : Cx} {CX : CXT} {k : Nat} {C p g : Addr} {fd : FuncData} {ps : List Str} {mc : Value} {sp : Sp} {E : L2.St → XK} {o e : Expr} {es : List Expr} {m : Str} {pos apos : Pos} {ta : TE} {t : TA} {pl : Sem Bool}
/-- C.m(..) of a classmethod, what it raises wished for at the slots -/
def tCMethA (C : Addr) (sp : Sp) (E : L2.St → XK) (ta : TE) (t : TA) : TE := fun σ H Q => ta σ H fun x H1 => x = .ref C ∧ t σ H1 fun vs H2 => sp (.ref C :: vs) H2 Q (E σ)
theorem pe_cmethA (he : PE X o ta) (r : ClX.CRead X.K C mc) (c : ClX.CMet X.K C mc m p g) (F : FnOk X.prog X.w X.K X.mg X.base CX k g fd ps sp) (bi : Binds X.K fd ps []) (hr : Room k X.A) (out : ∀ σ, PassesAt CX X σ (E σ)) (ha : PA X (e :: es) t)
    (hst : starEach (e :: es) X.env = (false, eval e X.env) :: starEach es X.env := by rfl) (hpl : (backTo pos (starEach es X.env)).any (·.1) = false := by rfl)
    (ht : eval (.Call (.Attribute o m apos) (e :: es) [] pos) X.env = (do
      let ov ← eval o X.env
      standAt apos.atName
      let (f, first) ← holding [ov] (getMethod ov m pl)
      callWith pos f first (backTo pos (starEach (e :: es) X.env)) (backToKw pos (keywordEach [] X.env))) := by rfl) :
    PE X (.Call (.Attribute o m apos) (e :: es) [] pos) (tCMethA C sp E ta t) := by
  refine ⟨fun pins s σ H Q I h => ?_⟩
  refine PySem.W.methodCall_KW (pl := pl) (thn (he.run pins s σ H _ I h) fun u s1 ⟨x, H1, I1, rx, ex, q⟩ => ?_) ht
  subst ex
  obtain rfl : u = Value.ref C := rx
  refine ClX.getmethcm_ok I1 r c fun s2 I2 => ?_
  refine ClX.callwith_cm I2 (ClX.base_none I1 (Nat.le_refl _)) c.fi (thn (ha.run pos _ s2 σ H1 _ I2 q) fun us s3 ⟨vs, H2, I3, rv, q2⟩ => ⟨⟨ClX.pin_at I3, I3.kIn⟩, ?_⟩) hst hpl
  have rr : Vals (V.ref C :: vs) (Value.ref C :: us) := .cons rfl rv
  have hl : (Value.ref C :: us).length = ps.length := by rw [← rr.length]; exact F.len _ _ _ _ q2
  have b := bi s3 (Value.ref C :: us) I3.kIn (by rw [List.append_nil]; exact hl)
  rw [List.append_nil] at b
  have ran := F.run X.A X.stack s3 H2 ⟨Value.ref C :: us, []⟩ (Value.ref C :: us) (V.ref C :: vs) Q (E σ) hr I3.env0 b rr q2
  refine thn (Q := EP X ((s1.heap.objs.size, PySem.W.methodObj (.ref g) (.ref C)) :: pins) σ Q) (wpAny_call (PySem.W.method_call (ClX.pin_at I3) (codeAny_mono ran fun r s' hq => ?_))) fun _ _ y => ClX.unpinE y
  cases r with
  | error err => exact out σ _ H2 s3 err s' I3 hq
  | ok fl =>
    cases fl with
    | ret w => exact I3.after hq
    | next => exact False.elim hq
    | brk => exact False.elim hq
    | cont => exact False.elim hq
end
end V3

set_option Elab.async false
set_option linter.all false
set_option maxRecDepth 100000
/-! what a comprehension of three clauses over three constant tuples makes -/
namespace V3
open PySem L2 TL
theorem pts_two {X : Cx} {c d : Expr} {t u : TT} (h : PT X c t) (k : PT X d u) : PTs X [c, d] (tAnd t u) := ⟨fun pins s σ H Q I hw => by
  simp only [List.forIn_cons, List.forIn_nil, if_true]
  refine wpAny_bind (wpAny_bind (wpAny_mono (h.run pins s σ H _ I hw) (fun b s1 z => wpAny_pure ?_) fun _ _ e => e))
  obtain ⟨H1, I1, q⟩ := z
  cases b with
  | false =>
    simp only [Bool.false_eq_true, if_false] at q ⊢
    exact wpAny_bind (wpAny_pure (wpAny_pure ⟨H1, I1, q⟩))
  | true =>
    simp only [if_true] at q ⊢
    exact wpAny_bind (wpAny_bind (wpAny_mono (k.run pins s1 σ H1 Q I1 q) (fun b s2 z => wpAny_pure (wpAny_pure z)) fun _ _ e => e))⟩
theorem loop_it {J : It} {n : Nat} {G : Hp → Prop} {Y : Nat → Hp → V → Hp → Prop} (wk : Walk J n G Y) {g : TG} {tt : TT} {vs : List Nat} {tb : L2.St → Hp → (Hp → Prop) → Prop} {σ : L2.St} {H : Hp} {Nx : Hp → Prop} (Pv : Nat → Hp → Prop) (h0 : Pv 0 H) (hG : ∀ i Hh, i ≤ n → Pv i Hh → G Hh)
    (hs : ∀ i x Hh H', i < n → Pv i Hh → Y i Hh x H' → g x (wipe σ vs) H' fun σ2 H2 => wipe σ2 vs = wipe σ vs ∧ tt σ2 H2 fun b H3 => if b = true then tb σ2 H3 (Pv (i + 1)) else Pv (i + 1) H3) (hd : ∀ Hh, Pv n Hh → Nx Hh) : LoopT J g tt vs tb σ H Nx := by
  refine ⟨fun i m Hh => m = n - i ∧ i ≤ n ∧ Pv i Hh, ⟨n, by simp, Nat.zero_le _, h0⟩, ?_⟩
  rintro i m Hh ⟨rfl, hi, p⟩
  have q := hG i Hh hi p
  by_cases lt : i < n
  · exact .inr ⟨wk.goes i Hh lt q, Pv (i + 1), fun H' p' => ⟨n - (i + 1), by omega, rfl, lt, p'⟩, fun x H' y => hs i x Hh H' lt p (wk.yields i Hh x H' lt q y)⟩
  · have e : i = n := by omega
    subst e
    exact .inl ⟨wk.stops Hh q, hd Hh p⟩
/-- the list at D so far -/
def AccP {β : Type} (S' : β → V → Hp → Prop) (H1 : Hp) (D : Addr) (l : List β) (Hh : Hp) : Prop := Same H1 Hh ∧ ∃ ys, Hh D = some (.lst ys) ∧ Ls (fun u b => S' b u Hh) ys l
section
variable {K : PySem.W.Frag} {β : Type} {S' : β → V → Hp → Prop} {H1 : Hp} {D A : Addr} {xs : List V} {i : Nat} {tt : TT} {vs : List Nat} {tb : L2.St → Hp → (Hp → Prop) → Prop} {σ : L2.St} {H : Hp} {Nx : Hp → Prop}
theorem loop_acc (hA : ∀ G, SqT K G A xs) (seg : V → List β) {l0 : List β} (h0 : AccP S' H1 D l0 H) (hw : ∀ x : V, wipe ((wipe σ vs).set i (some x)) vs = wipe σ vs)
    (step : ∀ x ∈ xs, ∀ l Hh N, l.length ≤ l0.length + (xs.flatMap seg).length → AccP S' H1 D l Hh → (∀ H', AccP S' H1 D (l ++ seg x) H' → N H') → tt ((wipe σ vs).set i (some x)) Hh fun b H3 => if b = true then tb ((wipe σ vs).set i (some x)) H3 N else N H3)
    (hd : ∀ H', AccP S' H1 D (l0 ++ xs.flatMap seg) H' → Nx H') : LoopT (Itt K A) (gName i) tt vs tb σ H Nx := by
  refine loop_it (walk_tup (K := K) (a := A) (xs := xs)) (fun k Hh => AccP S' H1 D (l0 ++ (xs.take k).flatMap seg) Hh) ?_ (fun k Hh _ _ => hA Hh) ?_ ?_
  · rw [List.take_zero]
    show AccP S' H1 D (l0 ++ []) H
    rw [List.append_nil]
    exact h0
  · rintro k x Hh H' lt p ⟨rfl, e⟩
    refine ⟨hw x, step x (List.mem_of_getElem? e) _ _ _ ?_ p fun H' z => ?_⟩
    · rw [List.length_append]
      have z : (xs.flatMap seg).length = ((xs.take k).flatMap seg).length + ((xs.drop k).flatMap seg).length := by
        rw [← List.length_append, ← List.flatMap_append, List.take_append_drop]
      omega
    · have tk : xs.take (k + 1) = xs.take k ++ [x] := by
        rw [List.take_succ, e]
        rfl
      rw [tk, List.flatMap_append, ← List.append_assoc]
      have e1 : [x].flatMap seg = seg x := by simp
      rw [e1]
      exact z
  · intro Hh p
    rw [List.take_length] at p
    exact hd Hh p
end
section
variable {K : PySem.W.Frag} {β : Type} {S' : β → V → Hp → Prop} [∀ b, StL (S' b)] {H0 : Hp} {A1 A2 A3 : Addr} {xs ys zs : List V} {i1 i2 i3 : Nat} {tt : TT} {vs vs1 vs2 : List Nat} {te : TE} {σ : L2.St}
abbrev slot3 (σ : L2.St) (vs vs1 vs2 : List Nat) (i1 i2 i3 : Nat) (x y z : V) : L2.St := (wipe ((wipe ((wipe σ vs).set i1 (some x)) vs1).set i2 (some y)) vs2).set i3 (some z)
theorem yes_go {tb : L2.St → Hp → (Hp → Prop) → Prop} {σ : L2.St} {H : Hp} {N : Hp → Prop} (h : tb σ H N) : tYes σ H fun b H3 => if b = true then tb σ H3 N else N H3 := by
  show if true = true then tb σ H N else N H
  exact iteT h
/-- all triples that pass -/
def tri {β : Type} (xs ys zs : List V) (pp : V → V → V → Bool) (f : V → V → V → β) : List β := xs.flatMap fun x => ys.flatMap fun y => zs.flatMap fun z => if pp x y z = true then [f x y z] else []
theorem evn_lc3 (pp : V → V → V → Bool) (f : V → V → V → β) (h1 : ∀ G, SqT K G A1 xs) (h2 : ∀ G, SqT K G A2 ys) (h3 : ∀ G, SqT K G A3 zs) (n : (tri xs ys zs pp f).length ≤ 300)
    (w1 : ∀ x : V, wipe ((wipe σ vs).set i1 (some x)) vs = wipe σ vs) (w2 : ∀ x y : V, wipe ((wipe ((wipe σ vs).set i1 (some x)) vs1).set i2 (some y)) vs1 = wipe ((wipe σ vs).set i1 (some x)) vs1)
    (w3 : ∀ x y z : V, wipe (slot3 σ vs vs1 vs2 i1 i2 i3 x y z) vs2 = wipe ((wipe ((wipe σ vs).set i1 (some x)) vs1).set i2 (some y)) vs2)
    (hb : ∀ x ∈ xs, ∀ y ∈ ys, ∀ z ∈ zs, ∀ H, Same H0 H → EvB (Same H) (slot3 σ vs vs1 vs2 i1 i2 i3 x y z) tt (pp x y z) ∧ (pp x y z = true → EvV (Same H) (slot3 σ vs vs1 vs2 i1 i2 i3 x y z) te (S' (f x y z)))) :
    EvNL H0 σ (tLc3 (iTup K (tC (.ref A1))) (gName i1) tYes (iTup K (tC (.ref A2))) (gName i2) tYes (iTup K (tC (.ref A3))) (gName i3) tt te vs vs1 vs2) S' (tri xs ys zs pp f) := fun H Q w k => by
  refine ⟨A1, rfl, ⟨xs, h1 H⟩, fun D nD => ?_⟩
  have a0 : AccP S' H D ([] : List β) (upd H D (.lst [])) := ⟨Same.new nD, [], upd_same, Ls.nil⟩
  refine loop_acc h1 (fun x => ys.flatMap fun y => zs.flatMap fun z => if pp x y z = true then [f x y z] else []) a0 w1 (fun x hx l1 Ha N1 n1 p1 k1 => ?_) fun H' ⟨s, us, hD, r⟩ => k D us H' nD s hD r
  refine yes_go ⟨A2, rfl, ⟨ys, h2 Ha⟩, loop_acc h2 (fun y => zs.flatMap fun z => if pp x y z = true then [f x y z] else []) p1 (w2 x) (fun y hy l2 Hb N2 n2 p2 k2 => ?_) k1⟩
  refine yes_go ⟨A3, rfl, ⟨zs, h3 Hb⟩, loop_acc h3 (fun z => if pp x y z = true then [f x y z] else []) p2 (w3 x y) (fun z hz l3 Hc N3 n3 p3 k3 => ?_) k2⟩
  obtain ⟨s3, us, hD, r⟩ := p3
  obtain ⟨et, ee⟩ := hb x hx y hy z hz Hc (w.trans s3)
  refine et Hc _ (Same.refl Hc) fun Hd s4 _ => ?_
  cases e : pp x y z with
  | false =>
    rw [e] at k3
    refine iteF (k3 Hd ⟨s3.trans s4, us, s4 _ _ hD, ?_⟩)
    show Ls _ us (l3 ++ [])
    rw [List.append_nil]
    exact r.up s4
  | true =>
    rw [e] at k3
    refine iteT (ee e Hd _ s4 fun v He s5 _ rv => ?_)
    have s6 := s4.trans s5
    have hD6 := s6 _ _ hD
    have m1 : l3.length ≤ 1000 := by
      have le : ∀ {γ : Type} {as : List γ} {F : γ → List β} {a : γ}, a ∈ as → (F a).length ≤ (as.flatMap F).length := fun {γ as F a} ha => by
        obtain ⟨u, v, rfl⟩ := List.append_of_mem ha
        rw [List.flatMap_append, List.flatMap_cons, List.length_append, List.length_append]
        omega
      have e1 := le (F := fun x => ys.flatMap fun y => zs.flatMap fun z => if pp x y z = true then [f x y z] else []) hx
      have e2 := le (F := fun y => zs.flatMap fun z => if pp x y z = true then [f x y z] else []) hy
      have e0 : ([] : List β).length = 0 := rfl
      have t0 : (xs.flatMap fun x => ys.flatMap fun y => zs.flatMap fun z => if pp x y z = true then [f x y z] else []).length ≤ 300 := n
      omega
    refine ⟨us, hD6, Nat.lt_of_le_of_lt (by rw [r.1]; exact m1) (by decide), k3 _ ⟨fun c o q => ?_, us ++ [v], upd_same, ?_⟩⟩
    · rw [upd_ne (ne_of_none q nD)]
      exact (s3.trans s6) _ _ q
    · exact Ls.push ((r.up s6).upL (Keep.lst hD6)) (upL (Keep.lst hD6) rv)
end
end V3

set_option Elab.async false
set_option linter.all false
set_option maxRecDepth 100000
/-! readings that draw: all but the box stays -/
namespace V3
open PySem L2 TL
theorem Pre.keep' {b : Addr} {H H' : Hp} (hb : ∃ u v, H b = some (V3.box u v)) (s : Pre b H H') : Keep H H' := by
  obtain ⟨u, v, hb⟩ := hb
  exact Keep.pre hb s.1
def isLb {α : Type} (b : Addr) (S : α → V → Hp → Prop) (as : List α) : V → Hp → Prop := fun v H => ∃ D us, v = .ref D ∧ D ≠ b ∧ H D = some (.lst us) ∧ Ls (fun u a => S a u H) us as
/-- stays where only the box at b changes -/
class StP (b : Addr) (R : V → Hp → Prop) : Prop where
  st : ∀ v H0 H H', Pre b H0 H → Pre b H H' → R v H → R v H'
theorem Pre.bx {b : Addr} {H H' : Hp} (s : Pre b H H') : ∃ u v, H' b = some (V3.box u v) := by
  obtain ⟨_, u, v, _, e⟩ := s
  exact ⟨u, v, e⟩
theorem Pre.same {b : Addr} {H0 H H' : Hp} (p : Pre b H0 H) (s : Same H H') : Pre b H H' := by
  obtain ⟨_, u, v, ok, e⟩ := p
  exact (Pre.start ok e).then s
theorem Pre.id {b : Addr} {H0 H : Hp} (p : Pre b H0 H) : Pre b H H := p.same (Same.refl H)
theorem Pre.ne {b D : Addr} {H0 H : Hp} (p : Pre b H0 H) (n : H D = none) : D ≠ b := fun e => by
  obtain ⟨u, v, hb⟩ := p.bx
  rw [e, hb] at n
  cases n
instance {b : Addr} {R : V → Hp → Prop} [i : StL R] : StP b R := ⟨fun v H0 H H' p s r => i.st v H H' (s.keep' p.bx) r⟩
instance {α : Type} {b : Addr} {S : α → V → Hp → Prop} {as : List α} [∀ a, StL (S a)] : StP b (isLb b S as) := ⟨fun v H0 H H' p s ⟨D, us, e, ne, h, l⟩ => ⟨D, us, e, ne, s.1 _ _ ne h, l.imp fun _ _ r => upL (s.keep' p.bx) r⟩⟩
theorem upP {b : Addr} {R : V → Hp → Prop} [i : StP b R] {v : V} {H0 H H' : Hp} (p : Pre b H0 H) (s : Pre b H H') (h : R v H) : R v H' := i.st v H0 H H' p s h
def EvP (b : Addr) (H0 : Hp) (σ : L2.St) (te : TE) (R : V → Hp → Prop) : Prop := ∀ H Q, Pre b H0 H → (∀ v H', Pre b H H' → R v H' → Q v H') → te σ H Q
/-- a number drawn -/
def isDr (m : Int) : V → Hp → Prop := fun v _ => ∃ d, v = .int d ∧ 0 ≤ d ∧ d < m
def isOne {α : Type} (S : α → V → Hp → Prop) (as : List α) : V → Hp → Prop := fun v H => ∃ a ∈ as, S a v H
instance {m : Int} : StL (isDr m) := ⟨fun _ _ _ _ h => h⟩
instance {α : Type} {S : α → V → Hp → Prop} {as : List α} [∀ a, StL (S a)] : StL (isOne S as) := ⟨fun _ _ _ s ⟨a, m, h⟩ => ⟨a, m, upL s h⟩⟩
section
variable {K : PySem.W.Frag} {σ : L2.St} {ta tb te tl : TE} {ts : TA} {H0 : Hp} {R Ra Rb : V → Hp → Prop} {b : Addr} {i : Nat} {m : Int}
theorem evp_pure (h : ∀ H, Pre b H0 H → EvV (Same H) σ te R) : EvP b H0 σ te R := fun H Q p k => h H p H Q (Same.refl H) fun v H' s _ r => k v H' (p.same s) r
theorem evp_choose (hi : σ[i]? = some (some (.ref b))) (m1 : 1 ≤ m) (m2 : m ≤ 10000000000000000000000000000000000000000) (hm : EvP b H0 σ te (isIv m)) : EvP b H0 σ (tCall spChoose [] E0 (tCons (tVar i) (tCons te tNil))) (isDr m) := fun H Q p k =>
  ⟨_, hi, hm H _ p fun v H1 p1 e => by
    cases e
    obtain ⟨_, u, w, ok, hb⟩ := id p1
    exact ⟨b, u, w, m, rfl, hb, ok, m1, m2, fun d u' v' d0 d1 ok' => k _ _ (p1.trans (Pre.box ok')) ⟨d, rfl, d0, d1⟩⟩⟩
theorem evp_one {α : Type} {S : α → V → Hp → Prop} [∀ a, StL (S a)] {as : List α} (hi : σ[i]? = some (some (.ref b))) (n1 : 1 ≤ as.length) (n2 : as.length ≤ 1000) (hl : EvP b H0 σ tl (isLb b S as)) : EvP b H0 σ (tCall (spOneOf K) [] E0 (tCons (tVar i) (tCons tl tNil))) (isOne S as) := fun H Q p k =>
  ⟨_, hi, hl H _ p fun v H1 p1 hv => by
    obtain ⟨D, us, rfl, ne, hD, l⟩ := hv
    obtain ⟨_, u, w, ok, hb⟩ := id p1
    refine ⟨b, D, u, w, us, rfl, hb, ok, ne, SqL.of hD, by rw [l.1]; exact n1, by rw [l.1]; exact n2, fun x u' v' hx ok' => ?_⟩
    have p2 : Pre b H1 (upd H1 b (box u' v')) := Pre.box ok'
    obtain ⟨j, hj⟩ := List.getElem?_of_mem hx
    obtain ⟨a, ea, r⟩ := Ls.get l hj
    exact k x _ (p1.trans p2) ⟨a, List.mem_of_getElem? ea, upL (p2.keep' p1.bx) r⟩⟩
/-- a list display -/
theorem evp_lst {α : Type} {S : α → V → Hp → Prop} [∀ a, St (S a)] {as : List α} (h : ∀ H, Pre b H0 H → EvL H σ ts S as) (n : as.length ≤ 1000) : EvP b H0 σ (tLst ts) (isLb b S as) := fun H Q p k =>
  evn_lst (h H p) n H Q (Same.refl H) fun D us H' nD s hD l => k _ H' (p.same s) ⟨D, us, rfl, Pre.ne p nD, hD, l⟩
theorem evp_nl {α : Type} {S : α → V → Hp → Prop} {as : List α} (h : ∀ H, Pre b H0 H → EvNL H σ te S as) : EvP b H0 σ te (isLb b S as) := fun H Q p k =>
  h H p H Q (Same.refl H) fun D us H' nD s hD l => k _ H' (p.same s) ⟨D, us, rfl, Pre.ne p nD, hD, l⟩
theorem evp_o {r : R2} [i : StP b Ra] (ha : EvP b H0 σ ta Ra) (hb : EvP b H0 σ tb Rb) (h : ∀ x y H Q, Pre b H0 H → Ra x H → Rb y H → (∀ v H', Pre b H H' → R v H' → Q v H') → r x y H Q) : EvP b H0 σ (tOp r ta tb) R := fun H Q p k =>
  ha H _ p fun x H1 p1 rx => hb H1 _ (p.trans p1) fun y H2 p2 ry => h x y H2 Q ((p.trans p1).trans p2) (upP p1 p2 rx) ry fun v H' p3 rv => k v H' ((p1.trans p2).trans p3) rv
theorem evp_to {R' : V → Hp → Prop} (h : EvP b H0 σ te R) (e : ∀ v H, R v H → R' v H) : EvP b H0 σ te R' := fun H Q p k => h H Q p fun v H' s r => k v H' s (e v H' r)
theorem isLb.L {α : Type} {S : α → V → Hp → Prop} {as : List α} {v : V} {H : Hp} (h : isLb b S as v H) : isL S as v H := by
  obtain ⟨D, us, e, _, hD, l⟩ := h
  exact ⟨D, us, e, hD, l⟩
end
end V3

set_option Elab.async false
set_option linter.all false
set_option maxRecDepth 100000
/-! numbers drawn, within bounds -/
namespace V3
open PySem L2 TL
def isWh (P : Int → Prop) : V → Hp → Prop := fun v _ => ∃ a, v = .int a ∧ P a
instance {P : Int → Prop} : StL (isWh P) := ⟨fun _ _ _ _ h => h⟩
/-- a test whose answer stays unknown -/
def EvPB (b : Addr) (H0 : Hp) (σ : L2.St) (t : TT) : Prop := ∀ H Q, Pre b H0 H → (∀ r H', Pre b H H' → Q r H') → t σ H Q
section
variable {K : PySem.W.Frag} {σ : L2.St} {ta tb te tl : TE} {t : TT} {H0 : Hp} {R : V → Hp → Prop} {b : Addr} {i : Nat} {m k : Int} {P P' : Int → Prop}
theorem evp_if (c : EvPB b H0 σ t) (h1 : EvP b H0 σ ta R) (h2 : EvP b H0 σ tb R) : EvP b H0 σ (tIf t ta tb) R := fun H Q p k => c H _ p fun r H' p1 => by
  cases r with
  | true => exact iteT (h1 H' Q (p.trans p1) fun v H2 p2 r => k v H2 (p1.trans p2) r)
  | false => exact iteF (h2 H' Q (p.trans p1) fun v H2 p2 r => k v H2 (p1.trans p2) r)
theorem evpb_eq (h : EvP b H0 σ te (isWh P)) : EvPB b H0 σ (tTest (tOp rEq te (tC (.int k)))) := fun H Q p kk => h H _ p fun v H1 p1 ⟨a, ev, _⟩ => by
  cases ev
  exact ⟨rfl, _, rfl, kk _ _ p1⟩
theorem evpb_lt (h : EvP b H0 σ te (isWh P)) : EvPB b H0 σ (tTest (tOp (rI0 fun i j => .bl (decide (i < j))) te (tC (.int k)))) := fun H Q p kk => h H _ p fun v H1 p1 ⟨a, ev, _⟩ => by
  cases ev
  exact ⟨_, _, rfl, rfl, _, rfl, kk _ _ p1⟩
theorem ev_notN {u : V} (ha : EvV (Same H0) σ ta (isVv u)) : EvV (Same H0) σ (tOp (fun x y H Q => y = V.non ∧ Q (.bl (!decide (x = .non))) H) ta (tC .non)) (isBv (!decide (u = .non))) :=
  ev_o (Ra := isVv u) (Rb := isVv .non) ha ev_c fun a b H Q w ea eb k => by
    cases ea
    cases eb
    exact ⟨rfl, k _ H (Same.refl H) rfl⟩
theorem evp_w (h : EvP b H0 σ te (isIv m)) (c : P m) : EvP b H0 σ te (isWh P) := evp_to h fun v H e => ⟨m, e, c⟩
theorem evp_imp (h : EvP b H0 σ te (isWh P)) (c : ∀ a, P a → P' a) : EvP b H0 σ te (isWh P') := evp_to h fun v H ⟨a, e, r⟩ => ⟨a, e, c a r⟩
theorem evp_chooseW (hi : σ[i]? = some (some (.ref b))) (m2 : m ≤ 10000000000000000000000000000000000000000) (hm : EvP b H0 σ te (isWh fun x => 1 ≤ x ∧ x ≤ m)) : EvP b H0 σ (tCall spChoose [] E0 (tCons (tVar i) (tCons te tNil))) (isWh fun d => 0 ≤ d ∧ d < m) := fun H Q p k =>
  ⟨_, hi, hm H _ p fun v H1 p1 e => by
    obtain ⟨x, rfl, x1, xm⟩ := e
    obtain ⟨_, u, w, ok, hb⟩ := id p1
    exact ⟨b, u, w, x, rfl, hb, ok, x1, (by omega), fun d u' v' d0 d1 ok' => k _ _ (p1.trans (Pre.box ok')) ⟨d, rfl, d0, by omega⟩⟩⟩
/-- 1 + a number drawn -/
theorem evp_succ (h : EvP b H0 σ te (isWh fun d => 0 ≤ d ∧ d < m)) : EvP b H0 σ (tOp (rI0 fun i j => .int (i + j)) (tC (.int 1)) te) (isWh fun a => 1 ≤ a ∧ a ≤ m) := fun H Q p k =>
  h H _ p fun v H1 p1 ⟨d, e, d0, d1⟩ => by
    cases e
    exact ⟨1, d, rfl, rfl, k _ _ p1 ⟨1 + d, rfl, by omega, by omega⟩⟩
theorem evp_tm2 {s : Str} (ha : EvP b H0 σ ta (isWh P)) : EvP b H0 σ (tTup (tCons (tC (.str s)) (tCons ta tNil))) (fun v H => ∃ a, P a ∧ ∃ p, v = .ref p ∧ H p = some (.tup [.str s, .int a])) := fun H Q p k =>
  ha H _ p fun v H1 p1 ⟨a, e, r⟩ => by
    cases e
    exact ⟨(by show 2 ≤ sizeLine; decide), fun D nD => k _ _ (p1.then (Same.new nD)) ⟨a, r, D, rfl, upd_same⟩⟩
theorem evp_tm3 {s : Str} (ha : EvP b H0 σ ta (isWh P)) (hb : EvP b H0 σ tb (isWh P')) : EvP b H0 σ (tTup (tCons (tC (.str s)) (tCons ta (tCons tb tNil)))) (fun v H => ∃ a c, P a ∧ P' c ∧ ∃ p, v = .ref p ∧ H p = some (.tup [.str s, .int a, .int c])) := fun H Q p k =>
  ha H _ p fun v H1 p1 ⟨a, e, r⟩ => hb H1 _ (p.trans p1) fun y H2 p2 ⟨c, e2, r2⟩ => by
    cases e
    cases e2
    exact ⟨(by show 3 ≤ sizeLine; decide), fun D nD => k _ _ ((p1.trans p2).then (Same.new nD)) ⟨a, c, r, r2, D, rfl, upd_same⟩⟩
end
end V3

set_option Elab.async false
set_option linter.all false
set_option maxRecDepth 100000
namespace V3
open PySem L2
abbrev sIsInt : Stmt := top 2
abbrev sIsNum : Stmt := top 3
theorem scIsInt : FnScope ["value"] ["value"] (defScope sIsInt) := ⟨rfl, rfl, rfl, by decide +kernel, rfl, by decide +kernel, by decide +kernel⟩
theorem scIsNum : FnScope ["value"] ["value"] (defScope sIsNum) := ⟨rfl, rfl, rfl, by decide +kernel, rfl, by decide +kernel, by decide +kernel⟩
end V3

set_option Elab.async false
set_option linter.all false
set_option maxRecDepth 100000
namespace V3
open PySem L2
-- no sIsAmt
-- no sImInit
-- no sBInit
-- no sBStr
-- no sTInit
-- no sTStr
-- no sRInit
-- no sRStr
/-- any value: none of it too great -/
inductive AV (H : Hp) : V → Prop where
  | non : AV H .non
  | bl (b : Bool) : AV H (.bl b)
  | int (i : Int) (h : i.natAbs ≤ 10000000000000000000000000000000000000000) : AV H (.int i)
  | str (z : Str) : AV H (.str z)
  | lst {a : Addr} {xs : List V} (h : H a = some (.lst xs)) : AV H (.ref a)
  | tup {a : Addr} {xs : List V} (h : H a = some (.tup xs)) : AV H (.ref a)
theorem AV.same {H H' : Hp} {v : V} (h : AV H v) (s : Same H H') : AV H' v := by
  cases h with
  | non => exact .non
  | bl b => exact .bl b
  | int i h => exact .int i h
  | str z => exact .str z
  | lst h => exact .lst (s _ _ h)
  | tup h => exact .tup (s _ _ h)
def isNum : V → Int → Bool
  | .int i, n => decide (n ≤ i)
  | _, _ => false
def isI : V → Bool
  | .int _ => true
  | .bl _ => true
  | _ => false
def isB : V → Bool
  | .bl _ => true
  | _ => false
theorem av_ty {K : PySem.W.Frag} {H : Hp} {v : V} (h : AV H v) : ∃ t, TyX K H v t ∧ PySem.W.kitOne K t (.type "int") = some (isI v) ∧ PySem.W.kitOne K t (.type "bool") = some (isB v) := by
  cases h with
  | non => exact ⟨_, .base .non, (show PySem.W.kitOne K (.type "NoneType") (.type "int") = some false from kit_ty (by decide +kernel)), (show PySem.W.kitOne K (.type "NoneType") (.type "bool") = some false from kit_ty (by decide +kernel))⟩
  | bl b => exact ⟨_, .base (.bl b), (show PySem.W.kitOne K (.type "bool") (.type "int") = some true from kit_ty (by decide +kernel)), (show PySem.W.kitOne K (.type "bool") (.type "bool") = some true from kit_ty (by decide +kernel))⟩
  | int i h => exact ⟨_, .base (.int i), (show PySem.W.kitOne K (.type "int") (.type "int") = some true from kit_ty (by decide +kernel)), (show PySem.W.kitOne K (.type "int") (.type "bool") = some false from kit_ty (by decide +kernel))⟩
  | str z => exact ⟨_, .base (.str z), (show PySem.W.kitOne K (.type "str") (.type "int") = some false from kit_ty (by decide +kernel)), (show PySem.W.kitOne K (.type "str") (.type "bool") = some false from kit_ty (by decide +kernel))⟩
  | lst h => exact ⟨_, .base (.lst h), (show PySem.W.kitOne K (.type "list") (.type "int") = some false from kit_ty (by decide +kernel)), (show PySem.W.kitOne K (.type "list") (.type "bool") = some false from kit_ty (by decide +kernel))⟩
  | tup h => exact ⟨_, .base (.tup h), (show PySem.W.kitOne K (.type "tuple") (.type "int") = some false from kit_ty (by decide +kernel)), (show PySem.W.kitOne K (.type "tuple") (.type "bool") = some false from kit_ty (by decide +kernel))⟩
theorem num_of {v : V} {n : Int} (h : isNum v n = true) : ∃ i : Int, v = .int i ∧ n ≤ i := by
  cases v with
  | int i => exact ⟨i, rfl, of_decide_eq_true h⟩
  | _ => cases h
structure BltB (mg : Str → Option Value) : Prop where
  isi : mg "isinstance" = none
  int : mg "int" = none
  bool : mg "bool" = none
def isIntV : V → Bool
  | .int _ => true
  | _ => false
def spInt : Sp := fun vs H Q _ => ∃ v, vs = [v] ∧ AV H v ∧ Q (.bl (isIntV v)) H
def spNum : Sp := fun vs H Q _ => ∃ v, vs = [v] ∧ AV H v ∧ Q (.bl (isNum v 0)) H
def spAmt : Sp := fun vs H Q _ => ∃ v, vs = [v] ∧ AV H v ∧ Q (.bl (isNum v 1)) H
section
variable {P : Program} {w : World} {K : PySem.W.Frag} {mg : Str → Option Value} {base : Heap}
theorem ok_isInt {f : Addr} {fd : FuncData} (F : Fun K "is_integer" "is_integer" sIsInt f fd) (T : BltB mg) : FnOk P w K mg base CX0 1 f fd ["value"] spInt := by
  refine F.ok scIsInt (fun vs H Q E h => ?_) (fun cdv A outer s H vs Q E hr h => ?_)
  · obtain ⟨v, rfl, _⟩ := h
    rfl
  · obtain ⟨v, rfl, av, q⟩ := h
    obtain ⟨t, ty, k1, k2⟩ := av_ty (K := K) av
    refine ⟨_, pss_one (ps_ret (pe_and (pe_callB call_isi (by rfl) T.isi (by decide +kernel) (pa_cons (pv 0) (pa_cons (pe_bltn (v := .ty "int") (by rfl) T.int (by decide +kernel) rfl) pa_nil)))
      (pe_one (pe_not (pe_callB call_isi (by rfl) T.isi (by decide +kernel) (pa_cons (pv 0) (pa_cons (pe_bltn (v := .ty "bool") (by rfl) T.bool (by decide +kernel) rfl) pa_nil))))))), ?_⟩
    refine ⟨_, rfl, _, _, t, _, _, rfl, .ty "int", ty, k1, _, rfl, ?_⟩
    cases v with
    | int i =>
      refine iteT ?_
      exact ⟨_, rfl, _, _, t, _, _, rfl, .ty "bool", ty, k2, _, rfl, q⟩
    | bl b =>
      refine iteT ?_
      exact ⟨_, rfl, _, _, t, _, _, rfl, .ty "bool", ty, k2, _, rfl, q⟩
    | non => exact iteF q
    | str z => exact iteF q
    | ref a => exact iteF q
    | byt z => exact iteF q
    | flt z => exact iteF q
    | ty z => exact iteF q
theorem ok_isNum {f : Addr} {fd : FuncData} (F : Fun K "is_number" "is_number" sIsNum f fd) (c : Cal P w K mg base CX0 "is_integer" 1 ["value"] spInt) : FnOk P w K mg base CX0 2 f fd ["value"] spNum := by
  obtain ⟨fI, fdI, GI, mI, kI, bI⟩ := c
  refine F.ok scIsNum (fun vs H Q E h => ?_) (fun cdv A outer s H vs Q E hr h => ?_)
  · obtain ⟨v, rfl, _⟩ := h
    rfl
  · obtain ⟨v, rfl, av, q⟩ := h
    refine ⟨_, pss_one (ps_ret (pe_and (pe_call GI hr rfl mI kI bI .nil pass0 (pa_cons (pv 0) pa_nil)) (pe_one (pe_cmpR op_ge (pv 0) pe_int (nomark _))))), ?_⟩
    refine ⟨_, rfl, v, rfl, av, _, rfl, ?_⟩
    cases v with
    | int i => exact iteT ⟨_, rfl, _, _, rfl, rfl, q⟩
    | bl b => exact iteF q
    | non => exact iteF q
    | str z => exact iteF q
    | ref a => exact iteF q
    | byt z => exact iteF q
    | flt z => exact iteF q
    | ty z => exact iteF q
end
end V3

set_option Elab.async false
set_option linter.all false
set_option maxRecDepth 100000
namespace V3
open PySem L2
/-! the error -/
def spIM (C : Addr) : Sp := fun vs H Q _ => ∃ (a : Addr) (y : V), vs = [.ref a, y] ∧ H a = some (exo a C none) ∧
  ∀ d, H d = none → d ≠ a → Q .non (upd (upd H d (exd d [("word", y)])) a (exo a C (some d)))
/-- what the module says of InvalidMove -/
structure ImTxt (P : Program) (w : World) (K : PySem.W.Frag) (mg : Str → Option Value) (base : Heap) (C : Addr) : Prop where
  g : mg "InvalidMove" = some (.ref C)
  o : OexC K C
  no : PySem.W.findIn K (.ref C) "word" = some none
  ini : ∃ (f : Addr) (fd : FuncData), FnOk P w K mg base CX0 1 f fd ["self", "word"] (spIM C) ∧ PySem.W.findIn K (.ref C) "__init__" = some (some (.ref f)) ∧ PySem.W.typeIn K (.ref f) = some (.type "function") ∧ Binds K fd ["self", "word"] []
/-- behind a raise: an error with the word, all else as it was -/
def Er (C : Addr) (H : Hp) (E : XK) (word : Str) : Prop := ∀ (d : Addr) (H' : Hp), Same H H' → H' d = some (.xd [("word", .str word)]) → E (.ref C) (some d) H'
section
variable {P : Program} {w : World} {K : PySem.W.Frag} {mg : Str → Option Value} {base : Heap}
theorem raise_same {H : Hp} {a d : Addr} {o1 o2 o3 o4 : HO} (na : H a = none) (nd : upd H a o1 d = none) (ne : d ≠ a) : Same H (upd (del (upd (upd (upd H a o1) d o2) a o3) a) d o4) := by
  intro b o e
  have ba : b ≠ a := fun z => by
    rw [z, na] at e
    cases e
  have hd : H d = none := by
    rw [upd_ne ne] at nd
    exact nd
  have bd : b ≠ d := fun z => by
    rw [z, hd] at e
    cases e
  rw [upd_ne bd, del_ne ba, upd_ne ba, upd_ne bd, upd_ne ba]
  exact e
/-- raise InvalidMove("..") in a def's own frame -/
theorem er_read {C : Addr} {H : Hp} {E : XK} {word : Str} (h : Er C H E word) : ∀ a, H a = none → spIM C (.ref a :: ([V.str word] ++ [])) (upd H a (exo a C none))
    (fun v H2 => v = .non ∧ ∃ (d : Addr) (fs : List (Str × V)), H2 a = some (exo a C (some d)) ∧ H2 d = some (exd d fs) ∧ H d = none ∧ E (.ref C) (some d) (upd (del H2 a) d (.xd fs))) (fun _ _ _ => False) := by
  intro a na
  refine ⟨a, _, rfl, upd_same, fun d nd ne => ⟨rfl, d, [("word", .str word)], upd_same, ?_, ?_, ?_⟩⟩
  · rw [upd_ne ne]
    exact upd_same
  · rw [upd_ne ne] at nd
    exact nd
  · exact h d _ (raise_same na nd ne) upd_same
/-! Begin -/
def spBegin (C CM : Addr) : Sp := fun vs H Q E => ∃ (x dx : Addr) (v : V), vs = [.ref x, v] ∧ H x = some (.ins C dx []) ∧ AV H v ∧
  (isNum v 1 = true → Q .non (upd H x (.ins C dx [("amount", v)]))) ∧ (isNum v 1 = false → Er CM H E "amount")
abbrev CalNum (P : Program) (w : World) (K : PySem.W.Frag) (mg : Str → Option Value) (base : Heap) : Prop := Cal P w K mg base CX0 "is_number" 2 ["value"] spNum
abbrev CalAmt (P : Program) (w : World) (K : PySem.W.Frag) (mg : Str → Option Value) (base : Heap) : Prop := Cal P w K mg base CX0 "is_amount" 3 ["value"] spAmt
/-! Take, Right -/
def two (a v : V) : List (Str × V) := [("at", a), ("amount", v)]
theorem ne_at : ¬ (("at" : Str) = "amount") := by decide +kernel
theorem put_two (a v : V) : putF "amount" v (putF "at" a []) = two a v := by
  show (if ("at" : Str) = "amount" then [(("at" : Str), v)] else (("at" : Str), a) :: putF "amount" v []) = two a v
  rw [if_neg ne_at]
  rfl
theorem two_at (a v : V) : (two a v).lookup ("at" : Str) = some a := by
  rw [← put_two, lookup_putF, if_neg ne_at, lookup_putF, if_pos rfl]
theorem two_am (a v : V) : (two a v).lookup ("amount" : Str) = some v := by
  rw [← put_two, lookup_putF, if_pos rfl]
def spTake (C CM : Addr) : Sp := fun vs H Q E => ∃ (x dx : Addr) (a v : V), vs = [.ref x, a, v] ∧ H x = some (.ins C dx []) ∧ AV H a ∧ AV H v ∧
  (isNum a 0 = true → (v = .non ∨ isNum v 1 = true) → Q .non (upd H x (.ins C dx (two a v)))) ∧ (isNum a 0 = false → Er CM H E "at") ∧
  (isNum a 0 = true → ¬ v = .non → isNum v 1 = false → Er CM H E "amount")
def spRight (C CM : Addr) : Sp := fun vs H Q E => ∃ (x dx : Addr) (a v : V), vs = [.ref x, a, v] ∧ H x = some (.ins C dx []) ∧ AV H a ∧ AV H v ∧
  (isNum a 0 = true → isNum v 1 = true → Q .non (upd H x (.ins C dx (two a v)))) ∧ (isNum a 0 = false → Er CM H E "at") ∧
  (isNum a 0 = true → isNum v 1 = false → Er CM H E "amount")
/-! the texts -/
def bText (i : Int) : Str := Str.empty ++ "begin " ++ num i
def tText (i : Int) : Str := Str.empty ++ "take " ++ num i
def tbText (i j : Int) : Str := Str.empty ++ "take " ++ num i ++ " by " ++ num j
def rText (i j : Int) : Str := Str.empty ++ "right " ++ num i ++ " to " ++ num j
def spBStr (C : Addr) : Sp := fun vs H Q _ => ∃ (x dx : Addr) (i : Int), vs = [.ref x] ∧ H x = some (.ins C dx [("amount", .int i)]) ∧ Am i ∧ Q (.str (bText i)) H
def spTStr (C : Addr) : Sp := fun vs H Q _ => ∃ (x dx : Addr) (i : Int) (v : V), vs = [.ref x] ∧ H x = some (.ins C dx (two (.int i) v)) ∧ Am i ∧
  ((v = .non ∧ Q (.str (tText i)) H) ∨ ∃ j, v = .int j ∧ Am j ∧ Q (.str (tbText i j)) H)
def spRStr (C : Addr) : Sp := fun vs H Q _ => ∃ (x dx : Addr) (i j : Int), vs = [.ref x] ∧ H x = some (.ins C dx (two (.int i) (.int j))) ∧ Am i ∧ Am j ∧ Q (.str (rText i j)) H
end
end V3

set_option Elab.async false
set_option linter.all false
set_option maxRecDepth 100000
namespace V3
open PySem L2 TL
/-! a move, its words, its text -/
inductive Mv where
  | beg (a : Int) | take (t : Int) | takeBy (t a : Int) | right (t a : Int) | shut
  deriving DecidableEq
def Idx (t : Int) : Prop := 0 ≤ t ∧ t ≤ 10000000000000000000000000000000000000000
def Amt (a : Int) : Prop := 1 ≤ a ∧ a ≤ 10000000000000000000000000000000000000000
def Mv.ok : Mv → Prop
  | .beg a => Amt a
  | .take t => Idx t
  | .takeBy t a => Idx t ∧ Amt a
  | .right t a => Idx t ∧ Amt a
  | .shut => True
def Mv.evens : Mv → List Str
  | .beg _ => ["begin"]
  | .take _ => ["take"]
  | .takeBy _ _ => ["take", "by"]
  | .right _ _ => ["right", "to"]
  | .shut => ["shut"]
def Mv.nums : Mv → List Int
  | .beg a => [a]
  | .take t => [t]
  | .takeBy t a => [t, a]
  | .right t a => [t, a]
  | .shut => []
def Mv.words : Mv → List Str
  | .beg a => ["begin", num a]
  | .take t => ["take", num t]
  | .takeBy t a => ["take", num t, "by", num a]
  | .right t a => ["right", num t, "to", num a]
  | .shut => ["shut"]
def Mv.text (m : Mv) : Str := Str.join sp1 m.words
theorem nums_ok {m : Mv} (h : m.ok) : ∀ n ∈ m.nums, Idx n := by
  intro n hn
  cases m with
  | shut => cases hn
  | _ =>
    simp only [Mv.nums, List.mem_cons, List.not_mem_nil, or_false] at hn
    simp only [Mv.ok, Amt, Idx] at h
    unfold Idx
    first
      | (subst hn; omega)
      | (rcases hn with rfl | rfl <;> omega)
theorem at_am {t : Int} (h : Idx t) : Am t := by
  unfold Idx at h
  unfold Am
  omega
/-- no blank in a word, no semicolon either -/
theorem words_free {m : Mv} (h : m.ok) : ∀ p ∈ m.words, 32 ∉ tl p ∧ 59 ∉ tl p := by
  have k : ∀ z : Int, 0 ≤ z → 32 ∉ tl (num z) ∧ 59 ∉ tl (num z) := fun z hz => ⟨num_free hz (by decide), num_free hz (by decide)⟩
  have e1 : 32 ∉ tl "begin" ∧ 59 ∉ tl "begin" := by decide +kernel
  have e2 : 32 ∉ tl "take" ∧ 59 ∉ tl "take" := by decide +kernel
  have e3 : 32 ∉ tl "by" ∧ 59 ∉ tl "by" := by decide +kernel
  have e4 : 32 ∉ tl "right" ∧ 59 ∉ tl "right" := by decide +kernel
  have e5 : 32 ∉ tl "to" ∧ 59 ∉ tl "to" := by decide +kernel
  have e6 : 32 ∉ tl "shut" ∧ 59 ∉ tl "shut" := by decide +kernel
  intro p hp
  cases m with
  | beg a =>
    have h' : Amt a := h
    unfold Amt at h'
    simp only [Mv.words, List.mem_cons, List.not_mem_nil, or_false] at hp
    rcases hp with rfl | rfl
    · exact e1
    · exact k a (by omega)
  | take t =>
    have h' : Idx t := h
    unfold Idx at h'
    simp only [Mv.words, List.mem_cons, List.not_mem_nil, or_false] at hp
    rcases hp with rfl | rfl
    · exact e2
    · exact k t (by omega)
  | takeBy t a =>
    have h' : Idx t ∧ Amt a := h
    unfold Idx Amt at h'
    simp only [Mv.words, List.mem_cons, List.not_mem_nil, or_false] at hp
    rcases hp with rfl | rfl | rfl | rfl
    · exact e2
    · exact k t (by omega)
    · exact e3
    · exact k a (by omega)
  | right t a =>
    have h' : Idx t ∧ Amt a := h
    unfold Idx Amt at h'
    simp only [Mv.words, List.mem_cons, List.not_mem_nil, or_false] at hp
    rcases hp with rfl | rfl | rfl | rfl
    · exact e4
    · exact k t (by omega)
    · exact e5
    · exact k a (by omega)
  | shut =>
    simp only [Mv.words, List.mem_cons, List.not_mem_nil, or_false] at hp
    subst hp
    exact e6
theorem words_ne (m : Mv) : m.words ≠ [] := by cases m <;> exact (fun z => nomatch z)
theorem split_text {m : Mv} (h : m.ok) : Txt.split m.text sp1 = m.words := by
  unfold Mv.text
  have z := split_join sp_tl (by decide +kernel) (words_ne m) fun p hp => (words_free h p hp).1
  rw [join_eq] at z
  exact z
/-- the texts that the program writes are these -/
theorem b_text (a : Int) : bText a = (Mv.beg a).text := ext_tl (by
  unfold bText Mv.text
  rw [tl_join]
  simp only [tl_append, Mv.words, List.map, joinL, sp_tl]
  have e : tl ("begin " : Str) = tl ("begin" : Str) ++ [32] := by decide +kernel
  rw [e]
  simp [Str.empty, tl])
end V3

set_option Elab.async false
set_option linter.all false
set_option maxRecDepth 100000
namespace V3
open PySem L2 TL
-- no sReadNumber
theorem digit_yes : ∀ c : Nat, c < 58 → 48 ≤ c → Unicode.isDigit c = true := by decide +kernel
theorem all_list (x : Str) (p : Nat → Bool) : x.cps.all p = (tl x).all p := by
  unfold tl
  rw [Array.all_toList]
theorem num_digit {t : Int} (h : 0 ≤ t) : Txt.isdigit (num t) = true := by
  unfold Txt.isdigit
  rw [all_list, tl_num' h]
  have l : (num t).length > 0 := by
    rw [len_tl, tl_num' h]
    exact List.length_pos_iff.mpr (numL_ne _)
  rw [decide_eq_true l, Bool.true_and]
  exact List.all_eq_true.mpr fun c hc => by
    obtain ⟨a, b⟩ := numL_digits _ c hc
    exact digit_yes c (by omega) a
theorem num_ascii {t : Int} (h : 0 ≤ t) : Txt.isascii (num t) = true := by
  unfold Txt.isascii
  rw [all_list, tl_num' h]
  exact List.all_eq_true.mpr fun c hc => by
    obtain ⟨a, b⟩ := numL_digits _ c hc
    exact decide_eq_true (by omega)
/-- the first digit of a number that is not 0 is not 0 -/
theorem head_digit : ∀ n : Nat, 0 < n → (numL n).take 1 ≠ [48] := by
  intro n
  induction n using Nat.strongRecOn with
  | _ n ih =>
    intro hn
    by_cases h : n < 10
    · rw [numL_lt h]
      intro z
      simp at z
      omega
    · rw [numL_step (by omega)]
      have k := ih (n / 10) (by omega) (by omega)
      have e : (numL (n / 10) ++ [48 + n % 10]).take 1 = (numL (n / 10)).take 1 := by
        cases q : numL (n / 10) with
        | nil => exact absurd q (numL_ne _)
        | cons a l => rfl
      rw [e]
      exact k
theorem num_starts {t : Int} (h : 0 ≤ t) (e : Txt.startswith (num t) "0" = true) : num t = "0" := by
  have z : tl ("0" : Str) = [48] := by decide +kernel
  have hA : PySem.StrLaws.At (num t) "0" (num t).length 0 := by
    unfold Txt.startswith at e
    obtain ⟨e1, e2⟩ := Bool.and_eq_true_iff.mp e
    exact ⟨of_decide_eq_true e1, e2⟩
  have p := (at_iff (by rw [z]; exact (fun q => nomatch q)) 0).mp hA
  rw [z, tl_num' h] at p
  have q : (numL t.toNat).take 1 = [48] := by
    have q2 : ((numL t.toNat).drop 0).take 1 == [48] := p
    simpa using q2
  by_cases n : 0 < t.toNat
  · exact absurd q (head_digit _ n)
  · refine ext_tl ?_
    rw [tl_num' h, z]
    have e0 : t.toNat = 0 := by omega
    rw [e0]
    exact numL_lt (by decide)
def spRN : Sp := fun vs H Q _ => ∃ t : Int, vs = [.str (num t)] ∧ V3.Idx t ∧ Q (.int t) H
section
variable {P : Program} {w : World} {K : PySem.W.Frag} {mg : Str → Option Value} {base : Heap}
end
end V3

set_option Elab.async false
set_option linter.all false
set_option maxRecDepth 100000
namespace V3
open PySem L2 TL
-- no sMoveOf
-- no sReadMove
-- no sReadMoves
-- no sHRead
/-- where the classes stand -/
structure Cl where
  B : Addr
  T : Addr
  R : Addr
  S : Addr
  Hi : Addr
def Mv.obj (c : Cl) (dx : Addr) : Mv → HO
  | .beg a => .ins c.B dx [("amount", .int a)]
  | .take t => .ins c.T dx (two (.int t) .non)
  | .takeBy t a => .ins c.T dx (two (.int t) (.int a))
  | .right t a => .ins c.R dx (two (.int t) (.int a))
  | .shut => .ins c.S dx []
def MvAt (c : Cl) (H : Hp) (v : V) (m : Mv) : Prop := ∃ x dx, v = .ref x ∧ H x = some (m.obj c dx)
theorem MvAt.same {c : Cl} {H H' : Hp} {v : V} {m : Mv} (h : MvAt c H v m) (s : Same H H') : MvAt c H' v m := by
  obtain ⟨x, dx, e, hx⟩ := h
  exact ⟨x, dx, e, s _ _ hx⟩
theorem num_yes {i n : Int} (h : n ≤ i) : isNum (.int i) n = true := decide_eq_true h
structure MkTxt (P : Program) (w : World) (K : PySem.W.Frag) (mg : Str → Option Value) (base : Heap) (name : Str) (ps : List Str) (C : Addr) (spI : Sp) (dv : List V) : Prop where
  g : mg name = some (.ref C)
  ini : ∃ (f : Addr) (fd : FuncData), FnOk P w K mg base (L2.CX P w) 4 f fd ps spI ∧ Mk K C f ∧ Binds K fd ps [] ∧ ∃ ds, Vals dv ds ∧ Binds K fd ps ds
/-- the program's moves, how they are made -/
structure MvTxt (P : Program) (w : World) (K : PySem.W.Frag) (mg : Str → Option Value) (base : Heap) (c : Cl) (CM : Addr) : Prop where
  B : MkTxt P w K mg base "Begin" ["self", "amount"] c.B (spBegin c.B CM) []
  T : MkTxt P w K mg base "Take" ["self", "at", "amount"] c.T (spTake c.T CM) [.non]
  R : MkTxt P w K mg base "Right" ["self", "at", "amount"] c.R (spRight c.R CM) []
  S : Mk0 K c.S
  gS : mg "Shut" = some (.ref c.S)
def spMO (c : Cl) : Sp := fun vs H Q _ => ∃ (w n : Addr) (m : Mv), vs = [.ref w, .ref n] ∧ H w = some (.lst (m.evens.map V.str)) ∧ H n = some (.lst (m.nums.map V.int)) ∧ m.ok ∧
  ∀ (x dx : Addr) (H' : Hp), Same H H' → H' x = some (m.obj c dx) → Q (.ref x) H'
section
variable {P : Program} {w : World} {K : PySem.W.Frag} {mg : Str → Option Value} {base : Heap}
/-- form == (..): a new tuple, the answer by the data -/
theorem form_eq {D : Ends} {σ : L2.St} {H : Hp} {q : Addr} {fs ls : List V} {ds es : List PyData} {t : TA} {b : Bool} {A B : TS}
    (hσ : σ[2]? = some (some (.ref q))) (hq : H q = some (.tup fs)) (hf : ∀ H', DpAll K H' fs ds) (ht : ∀ Q', Q' ls H → t σ H Q') (hl : ∀ H', DpAll K H' ls es) (hz : ls.length ≤ sizeLine)
    (s1 : SeqAt.shaped (.tuple ds) = true) (s2 : SeqAt.shaped (.tuple es) = true) (e : PyData.eqv (.tuple ds) (.tuple es) = b) (k : ∀ H', Same H H' → if b = true then A D σ H' else B D σ H') :
    tIfS (tTest (tOp (rEqD K) (tVar 2) (tTup t))) A B D σ H := by
  refine ⟨_, hσ, ht _ ⟨hz, fun p np => ?_⟩⟩
  have s3 : Same H (upd H p (.tup ls)) := Same.new np
  refine ⟨.tuple ds, .tuple es, .tup (SqT.of (s3 _ _ hq)) (hf _), .tup (SqT.of upd_same) (hl _), s1, s2, _, rfl, ?_⟩
  rw [e]
  exact k _ s3
end
end V3

set_option Elab.async false
set_option linter.all false
set_option maxRecDepth 100000
namespace V3
open PySem L2 TL
-- no sSStr
-- no sBEq
-- no sTEq
-- no sREq
-- no sSEq
section
variable {P : Program} {w : World} {K : PySem.W.Frag} {mg : Str → Option Value} {base : Heap}
end
/-! the text of any move, and == of moves -/
def Mv.kind : Mv → Nat
  | .beg _ => 0
  | .take _ => 1
  | .takeBy _ _ => 1
  | .right _ _ => 2
  | .shut => 3
def Cl.at (c : Cl) : Nat → Addr
  | 0 => c.B
  | 1 => c.T
  | 2 => c.R
  | _ => c.S
theorem t_text (i : Int) : tText i = (Mv.take i).text := ext_tl (by
  unfold tText Mv.text
  rw [tl_join]
  simp only [tl_append, Mv.words, List.map, joinL, sp_tl]
  have e : tl ("take " : Str) = tl ("take" : Str) ++ [32] := by decide +kernel
  rw [e]
  simp [Str.empty, tl])
theorem tb_text (i j : Int) : tbText i j = (Mv.takeBy i j).text := ext_tl (by
  unfold tbText Mv.text
  rw [tl_join]
  simp only [tl_append, Mv.words, List.map, joinL, sp_tl]
  have e : tl ("take " : Str) = tl ("take" : Str) ++ [32] := by decide +kernel
  have e2 : tl (" by " : Str) = [32] ++ tl ("by" : Str) ++ [32] := by decide +kernel
  rw [e, e2]
  simp [Str.empty, tl])
theorem r_text (i j : Int) : rText i j = (Mv.right i j).text := ext_tl (by
  unfold rText Mv.text
  rw [tl_join]
  simp only [tl_append, Mv.words, List.map, joinL, sp_tl]
  have e : tl ("right " : Str) = tl ("right" : Str) ++ [32] := by decide +kernel
  have e2 : tl (" to " : Str) = [32] ++ tl ("to" : Str) ++ [32] := by decide +kernel
  rw [e, e2]
  simp [Str.empty, tl])
theorem am_of {a : Int} (h : Amt a) : Am a := by
  unfold Amt at h
  unfold Am
  omega
/-- str of a move of a kind -/
def spMS (c : Cl) (k : Nat) : Sp := fun vs H Q _ => ∃ (x dx : Addr) (m : Mv), vs = [.ref x] ∧ H x = some (m.obj c dx) ∧ m.kind = k ∧ m.ok ∧ Q (.str m.text) H
section
variable {P : Program} {w : World} {K : PySem.W.Frag} {mg : Str → Option Value} {base : Heap}
theorem ms_b {f : Addr} {c : Cl} {fd : FuncData} (G : FnOk P w K mg base CX0 1 f fd ["self"] (spBStr c.B)) : FnOk P w K mg base CX0 1 f fd ["self"] (spMS c 0) := G.imp fun vs H Q E h => by
  obtain ⟨x, dx, m, rfl, hx, hk, ok, q⟩ := h
  cases m with
  | beg a =>
    rw [← b_text] at q
    exact ⟨x, dx, a, rfl, hx, am_of ok, q⟩
  | _ => cases hk
theorem ms_t {f : Addr} {c : Cl} {fd : FuncData} (G : FnOk P w K mg base CX0 1 f fd ["self"] (spTStr c.T)) : FnOk P w K mg base CX0 1 f fd ["self"] (spMS c 1) := G.imp fun vs H Q E h => by
  obtain ⟨x, dx, m, rfl, hx, hk, ok, q⟩ := h
  cases m with
  | take i =>
    rw [← t_text] at q
    exact ⟨x, dx, i, _, rfl, hx, at_am ok, .inl ⟨rfl, q⟩⟩
  | takeBy i j =>
    rw [← tb_text] at q
    exact ⟨x, dx, i, _, rfl, hx, at_am ok.1, .inr ⟨j, rfl, am_of ok.2, q⟩⟩
  | _ => cases hk
theorem ms_r {f : Addr} {c : Cl} {fd : FuncData} (G : FnOk P w K mg base CX0 1 f fd ["self"] (spRStr c.R)) : FnOk P w K mg base CX0 1 f fd ["self"] (spMS c 2) := G.imp fun vs H Q E h => by
  obtain ⟨x, dx, m, rfl, hx, hk, ok, q⟩ := h
  cases m with
  | right i j =>
    rw [← r_text] at q
    exact ⟨x, dx, i, j, rfl, hx, at_am ok.1, am_of ok.2, q⟩
  | _ => cases hk
end
theorem mv_at (c : Cl) (m : Mv) (dx : Addr) : ∃ fs, m.obj c dx = .ins (c.at m.kind) dx fs := by
  cases m <;> exact ⟨_, rfl⟩
theorem kind_lt (m : Mv) : m.kind < 4 := by
  cases m <;> (simp only [Mv.kind]; omega)
/-- how the classes of moves tell their text -/
structure StrTxt (P : Program) (w : World) (K : PySem.W.Frag) (mg : Str → Option Value) (base : Heap) (c : Cl) : Prop where
  s : ∀ k, k < 4 → ∃ (f : Addr) (fd : FuncData), FnOk P w K mg base CX0 1 f fd ["self"] (spMS c k) ∧ PySem.W.findIn K (.ref (c.at k)) "__str__" = some (some (.ref f)) ∧ PySem.W.isFn K (.ref f) = true ∧ Binds K fd ["self"] []
/-- str(x), x any move -/
def rStrM (c : Cl) : List V → Hp → VK → Prop := fun xs H Q => ∃ v m, xs = [v] ∧ MvAt c H v m ∧ m.ok ∧ Q (.str m.text) H
theorem call_strM {X : Cx} {c : Cl} (T : StrTxt X.prog X.w X.K X.mg X.base c) (room : Room 3 X.A) : CallR X (.type "str") (rStrM c) := by
  intro pins s σ H xs us Q I r h
  obtain ⟨v, m, rfl, ⟨x, dx, rfl, hx⟩, ok, q⟩ := h
  obtain ⟨f, fd, G, at_, isf, bi⟩ := T.s m.kind (kind_lt m)
  obtain ⟨fs, eo⟩ := mv_at c m dx
  refine call_strO (E := fun _ _ _ => False) G at_ isf bi pass0 room pins s σ H _ us Q I r ⟨x, dx, fs, rfl, by rw [hx, eo], x, dx, m, rfl, hx, rfl, ok, _, rfl, q⟩
/-- what of the classes of moves is == and isinstance -/
structure MvCls (K : PySem.W.Frag) (c : Cl) (MV : Addr) : Prop where
  cl : ∀ k, k < 4 → Cls K (c.at k) ∧ PySem.W.findIn K (.ref (c.at k)) "__class__" = some (some (.builtin "object.__class__")) ∧ PySem.W.mroIn K (c.at k) (.type "object") = some true ∧ PySem.W.kitOne K (.ref (c.at k)) (.ref MV) = some true
  gn : PySem.W.specialIn K (.builtin "object.__class__") "__get__" = some (some (.builtin "getset_descriptor.__get__"))
  tk : PySem.W.takesIn K (.builtin "object.__class__") = some true
  nf : ∀ k, k < 4 → ∀ j, j < 4 → PySem.W.notFirst K (c.at k) (.ref (c.at j)) = true
def spMEq (c : Cl) : Sp := fun vs H Q _ => ∃ (u v : V) (m n : Mv), vs = [u, v] ∧ MvAt c H u m ∧ MvAt c H v n ∧ m.ok ∧ n.ok ∧ Q (.bl (decide (m.text = n.text))) H
section
variable {P : Program} {w : World} {K : PySem.W.Frag} {mg : Str → Option Value} {base : Heap}
structure BltE (mg : Str → Option Value) : Prop where
  isi : mg "isinstance" = none
  str : mg "str" = none
theorem meq_run {c : Cl} {MV : Addr} {H : Hp} {u v : V} {m n : Mv} {Q : VK} (C : MvCls K c MV) (hu : MvAt c H u m) (hv : MvAt c H v n) (mo : m.ok) (no : n.ok) (q : Q (.bl (decide (m.text = n.text))) H) :
    tAndV (tCB (rIsi K) (tCons (tVar 1) (tCons (tC (.ref MV)) tNil))) (tOp rEq (tCB (rStrM c) (tCons (tVar 0) tNil)) (tCB (rStrM c) (tCons (tVar 1) tNil))) (start ["self", "other"] [u, v]) H Q := by
  obtain ⟨y, dy, rfl, hy⟩ := id hv
  obtain ⟨fs, eo⟩ := mv_at c n dy
  obtain ⟨cl, ca, mr, ki⟩ := C.cl n.kind (kind_lt n)
  refine ⟨_, rfl, _, _, _, _, _, rfl, .own MV, .base (.ins (by rw [hy, eo]) cl ca C.gn C.tk mr), ki, _, rfl, iteT ⟨_, rfl, u, m, rfl, hu, mo, _, rfl, _, n, rfl, hv, no, rfl, ?_⟩⟩
  have e : (V.str m.text = V.str n.text) ↔ (m.text = n.text) := ⟨fun z => by injection z, fun z => by rw [z]⟩
  have e2 : decide (V.str m.text = V.str n.text) = decide (m.text = n.text) := by
    by_cases h : m.text = n.text
    · rw [decide_eq_true h, decide_eq_true (e.mpr h)]
    · rw [decide_eq_false h, decide_eq_false (fun z => h (e.mp z))]
  rw [e2]
  exact q
end
end V3

set_option Elab.async false
set_option linter.all false
set_option maxRecDepth 100000
namespace V3
open PySem L2 TL
/-- the tuple that a move is drawn as -/
def Mv.tupV : Mv → List V
  | .beg a => [.str "begin", .int a]
  | .take t => [.str "take", .int t, .int 0]
  | .takeBy t a => [.str "take", .int t, .int a]
  | .right t a => [.str "right", .int t, .int a]
  | .shut => [.str "shut"]
def TupAt (H : Hp) (v : V) (m : Mv) : Prop := ∃ p, v = .ref p ∧ H p = some (.tup m.tupV)
theorem TupAt.same {H H' : Hp} {v : V} {m : Mv} (h : TupAt H v m) (s : Same H H') : TupAt H' v m := by
  obtain ⟨p, e, hp⟩ := h
  exact ⟨p, e, s _ _ hp⟩
def spText : Sp := fun vs H Q _ => ∃ (v : V) (m : Mv), vs = [v] ∧ TupAt H v m ∧ m.ok ∧ Q (.str m.text) H
end V3

set_option Elab.async false
set_option linter.all false
set_option maxRecDepth 100000
namespace V3
open PySem L2 TL
abbrev sIsRows : Stmt := top 21
abbrev sHasRow : Stmt := top 22
abbrev sHsInit : Stmt := inClass (top 19) 0
abbrev sHsLen : Stmt := inClass (top 19) 4
/-! houses -/
def checkL : List Str := ["left", "all"]
def depthL : List Str := ["depth 0", "depth 1", "depth 2", "depth 3", "depth 4"]
structure Hs where
  d : Int
  ch : Str
  rs : List Rw
  deriving DecidableEq
def Hs.ok (h : Hs) : Prop := 0 ≤ h.d ∧ h.d ≤ 4 ∧ h.ch ∈ checkL ∧ (∀ m ∈ h.rs, m.ok ∧ m.kind = 0) ∧ h.rs.length ≤ 100
def hsF (d ch q : V) : List (Str × V) := [("depth", d), ("check", ch), ("rows", q)]
theorem hs_put (d ch q : V) : putF "rows" q (putF "check" ch (putF "depth" d [])) = hsF d ch q := by
  have a1 : ("depth" : Str) ≠ "check" := by decide +kernel
  have a2 : ("depth" : Str) ≠ "rows" := by decide +kernel
  have a3 : ("check" : Str) ≠ "rows" := by decide +kernel
  show putF "rows" q (putF "check" ch [("depth", d)]) = _
  rw [putF_ne a1]
  show putF "rows" q [("depth", d), ("check", ch)] = _
  rw [putF_ne a2, putF_ne a3]
  rfl
theorem hs_d (d ch q : V) : (hsF d ch q).lookup ("depth" : Str) = some d := rfl
theorem hs_ch (d ch q : V) : (hsF d ch q).lookup ("check" : Str) = some ch := by
  unfold hsF
  rw [lk_ne (by decide +kernel)]
  rfl
theorem hs_rs (d ch q : V) : (hsF d ch q).lookup ("rows" : Str) = some q := by
  unfold hsF
  rw [lk_ne (by decide +kernel), lk_ne (by decide +kernel)]
  rfl
/-- objects of rows, one after another -/
def RwLs (c : Rc) (H : Hp) (us : List V) (ms : List Rw) : Prop := Ls (RwAt c H) us ms
theorem RwLs.keep {c : Rc} {H H' : Hp} {us : List V} {ms : List Rw} (d : RwLs c H us ms) (s : Keep H H') : RwLs c H' us ms := d.imp fun _ _ h => h.keep s
theorem RwLs.same {c : Rc} {H H' : Hp} {us : List V} {ms : List Rw} (d : RwLs c H us ms) (s : Same H H') : RwLs c H' us ms := d.keep (Keep.of s)
/-- a tuple, tracked or written -/
def TupK (K : PySem.W.Frag) (H : Hp) (q : Addr) (us : List V) : Prop := H q = some (.tup us) ∨ ∀ H', SqT K H' q us
theorem TupK.sq {K : PySem.W.Frag} {H : Hp} {q : Addr} {us : List V} (h : TupK K H q us) : SqT K H q us := h.elim SqT.of fun z => z H
theorem TupK.keep {K : PySem.W.Frag} {H H' : Hp} {q : Addr} {us : List V} (h : TupK K H q us) (s : Keep H H') : TupK K H' q us := h.elim (fun z => .inl (s _ _ (fun _ y => by cases y) z)) .inr
theorem TupK.same {K : PySem.W.Frag} {H H' : Hp} {q : Addr} {us : List V} (h : TupK K H q us) (s : Same H H') : TupK K H' q us := h.keep (Keep.of s)
def HsAt (K : PySem.W.Frag) (c : Rc) (C : Addr) (H : Hp) (v : V) (h : Hs) : Prop := ∃ x dx q us, v = .ref x ∧ H x = some (.ins C dx (hsF (.int h.d) (.str h.ch) (.ref q))) ∧ TupK K H q us ∧ RwLs c H us h.rs
theorem HsAt.keep {K : PySem.W.Frag} {c : Rc} {C : Addr} {H H' : Hp} {v : V} {h : Hs} (a : HsAt K c C H v h) (s : Keep H H') : HsAt K c C H' v h := by
  obtain ⟨x, dx, q, us, e, hx, hq, r⟩ := a
  exact ⟨x, dx, q, us, e, s _ _ (fun _ z => by cases z) hx, hq.keep s, r.keep s⟩
theorem HsAt.same {K : PySem.W.Frag} {c : Rc} {C : Addr} {H H' : Hp} {v : V} {h : Hs} (a : HsAt K c C H v h) (s : Same H H') : HsAt K c C H' v h := a.keep (Keep.of s)
structure BltK (mg : Str → Option Value) : Prop where
  isi : mg "isinstance" = none
  int : mg "int" = none
  bool : mg "bool" = none
  list : mg "list" = none
  tuple : mg "tuple" = none
  all : mg "all" = none
  len : mg "len" = none
  str : mg "str" = none
/-- the written tuples and lists of the module -/
structure HsT (K : PySem.W.Frag) (mg : Str → Option Value) (CA DA : Addr) : Prop where
  checks : mg "CHECKS" = some (.ref CA)
  depths : mg "DEPTH_LINES" = some (.ref DA)
  tC : ∀ H, SqT K H CA (checkL.map V.str)
  tD : ∀ H, SqT K H DA (depthL.map V.str)
/-- what House's class must have -/
structure HsC (K : PySem.W.Frag) (C : Addr) : Prop where
  cl : Cls K C
  d : NoAttr K C "depth"
  ch : NoAttr K C "check"
  rs : NoAttr K C "rows"
/-- what Let's class must be to isinstance -/
structure LetI (K : PySem.W.Frag) (c : Rc) : Prop where
  cl : Cls K c.L
  ca : PySem.W.findIn K (.ref c.L) "__class__" = some (some (.builtin "object.__class__"))
  mr : PySem.W.mroIn K c.L (.type "object") = some true
  gn : PySem.W.specialIn K (.builtin "object.__class__") "__get__" = some (some (.builtin "getset_descriptor.__get__"))
  tk : PySem.W.takesIn K (.builtin "object.__class__") = some true
  ki : PySem.W.kitOne K (.ref c.L) (.ref c.L) = some true
def spNumI : Sp := fun vs H Q _ => ∃ i : Int, vs = [.int i] ∧ Q (.bl (decide (0 ≤ i))) H
def spIsRows (c : Rc) : Sp := fun vs H Q _ => ∃ (a : Addr) (us : List V) (ms : List Rw), vs = [.ref a] ∧ H a = some (.lst us) ∧ RwLs c H us ms ∧ (∀ m ∈ ms, m.kind = 0) ∧ ms.length ≤ 1000 ∧ ∀ H', Same H H' → Q (.bl true) H'
def spHsInit (K : PySem.W.Frag) (c : Rc) (C : Addr) : Sp := fun vs H Q _ => ∃ (x dx l : Addr) (us : List V) (h : Hs), vs = [.ref x, .int h.d, .str h.ch, .ref l] ∧ H x = some (.ins C dx []) ∧ H l = some (.lst us) ∧ RwLs c H us h.rs ∧ h.ok ∧
  ∀ H', SameX x H H' → HsAt K c C H' (.ref x) h → Q .non H'
def spHsLen (K : PySem.W.Frag) (c : Rc) (C : Addr) : Sp := fun vs H Q _ => ∃ (v : V) (h : Hs), vs = [v] ∧ HsAt K c C H v h ∧ Q (.int (h.rs.length : Int)) H
/-- whether a whole number is the number of a row -/
def hasRow (h : Hs) (i : Int) : Bool := decide (0 ≤ i) && decide (i < (h.rs.length : Int))
def spHasRow (K : PySem.W.Frag) (c : Rc) (C : Addr) : Sp := fun vs H Q _ => ∃ (v : V) (h : Hs) (i : Int), vs = [v, .int i] ∧ HsAt K c C H v h ∧ Q (.bl (hasRow h i)) H
theorem kit_lt {K : PySem.W.Frag} : PySem.W.kitAny K (.type "list") [.type "list", .type "tuple"] = some true :=
  kitAny_cons (show PySem.W.kitOne K (.type "list") (.type "list") = some true from kit_ty (by decide +kernel)) (fun z => nomatch z) (fun z => rfl)
theorem repl_bl (n : Nat) : List.replicate n (V.bl true) = (List.replicate n true).map V.bl := by
  rw [List.map_replicate]
section
variable {P : Program} {w : World} {K : PySem.W.Frag} {mg : Str → Option Value} {base : Heap}
theorem scIsRows : FnScope ["value", "item"] ["value"] (defScope sIsRows) := ⟨rfl, rfl, rfl, by decide +kernel, rfl, by decide +kernel, by decide +kernel⟩
theorem scHasRow : FnScope ["house", "at"] ["house", "at"] (defScope sHasRow) := ⟨rfl, rfl, rfl, by decide +kernel, rfl, by decide +kernel, by decide +kernel⟩
theorem scHsInit : FnScope ["self", "depth", "check", "rows"] ["self", "depth", "check", "rows"] (defScope sHsInit) := ⟨rfl, rfl, rfl, by decide +kernel, rfl, by decide +kernel, by decide +kernel⟩
theorem scHsLen : FnScope ["self"] ["self"] (defScope sHsLen) := ⟨rfl, rfl, rfl, by decide +kernel, rfl, by decide +kernel, by decide +kernel⟩
theorem ok_intK {f : Addr} {fd : FuncData} (F : Fun K "is_integer" "is_integer" sIsInt f fd) (T : BltK mg) : FnOk P w K mg base CX0 1 f fd ["value"] spIntI := by
  refine F.ok scIsInt (fun vs H Q E h => ?_) (fun cdv A outer s H vs Q E hr h => ?_)
  · obtain ⟨v, rfl, _⟩ := h
    rfl
  · obtain ⟨i, rfl, q⟩ := h
    refine ⟨_, pss_one (ps_ret (pe_and (pe_callB call_isi (by rfl) T.isi (by decide +kernel) (pa_cons (pv 0) (pa_cons (pe_bltn (v := .ty "int") (by rfl) T.int (by decide +kernel) rfl) pa_nil)))
      (pe_one (pe_not (pe_callB call_isi (by rfl) T.isi (by decide +kernel) (pa_cons (pv 0) (pa_cons (pe_bltn (v := .ty "bool") (by rfl) T.bool (by decide +kernel) rfl) pa_nil))))))), ?_⟩
    refine ⟨_, rfl, _, _, _, _, _, rfl, .ty "int", .base (.int i), (show PySem.W.kitOne K (.type "int") (.type "int") = some true from kit_ty (by decide +kernel)), _, rfl, iteT ?_⟩
    exact ⟨_, rfl, _, _, _, _, _, rfl, .ty "bool", .base (.int i), (show PySem.W.kitOne K (.type "int") (.type "bool") = some false from kit_ty (by decide +kernel)), _, rfl, q⟩
theorem ok_numK {f : Addr} {fd : FuncData} (F : Fun K "is_number" "is_number" sIsNum f fd) (cI : Cal P w K mg base CX0 "is_integer" 1 ["value"] spIntI) : FnOk P w K mg base CX0 2 f fd ["value"] spNumI := by
  obtain ⟨fI, fdI, GI, mI, kI, bI⟩ := cI
  refine F.ok scIsNum (fun vs H Q E h => ?_) (fun cdv A outer s H vs Q E hr h => ?_)
  · obtain ⟨v, rfl, _⟩ := h
    rfl
  · obtain ⟨i, rfl, q⟩ := h
    refine ⟨_, pss_one (ps_ret (pe_and (pe_call GI hr rfl mI kI bI .nil pass0 (pa_cons (pv 0) pa_nil)) (pe_one (pe_cmpR op_ge (pv 0) pe_int (nomark _))))), ?_⟩
    exact ⟨_, rfl, i, rfl, _, rfl, iteT ⟨_, rfl, _, _, rfl, rfl, q⟩⟩
theorem ok_isRows {f : Addr} {c : Rc} {fd : FuncData} (F : Fun K "is_rows" "is_rows" sIsRows f fd) (T : BltK mg) (C : LetI K c) (gL : mg "Let" = some (.ref c.L)) : FnOk P w K mg base CX0 1 f fd ["value"] (spIsRows c) := by
  refine F.ok scIsRows (fun vs H Q E h => ?_) (fun cdv A outer s H vs Q E hr h => ?_)
  · obtain ⟨a, us, ms, rfl, _⟩ := h
    rfl
  · obtain ⟨a, us, ms, rfl, ha, rl, kd, n, k⟩ := h
    refine ⟨_, pss_one (ps_ret (pe_and (pe_callB call_isiT (by rfl) T.isi (by decide +kernel) (pa_cons (pv 0) (pa_cons (pe_tup (pa_cons (pe_bltn (v := .ty "list") (by rfl) T.list (by decide +kernel) rfl) (pa_cons (pe_bltn (v := .ty "tuple") (by rfl) T.tuple (by decide +kernel) rfl) pa_nil))) pa_nil)))
        (pe_one (pe_callB (cr_all rfl) (by rfl) T.all (by decide +kernel) (pa_cons (pe_lc (own := [("item", 1)]) (g := gName 1) (tt := tYes) (te := tCB (rIsi K) (tCons (tVar 1) (tCons (tC (.ref c.L)) tNil))) (by rfl) scIsRows.nd (pi_list (pv 0)) (blkOk_by (own := [("item", 1)]) (N := ["value", "item"]) (sc := defScope sIsRows) (by decide +kernel)) (fun _ _ _ _ _ => pg_name (i := 1) scIsRows.nd rfl (Or.inl rfl)) (fun _ _ _ _ _ => pts_nil)
          (fun _ _ _ _ _ => pe_callB call_isi (by rfl) T.isi (by decide +kernel) (pa_cons (pv 1) (pa_cons (pe_glob (v := .ref c.L) rfl gL rfl) pa_nil)))) pa_nil))))), ?_⟩
    refine ⟨_, rfl, (by show 2 ≤ sizeLine; decide), fun tp ntp => ?_⟩
    have s1 : Same H (upd H tp (.tup [.ty "list", .ty "tuple"])) := Same.new ntp
    have ht : upd H tp (.tup [.ty "list", .ty "tuple"]) tp = some (.tup [.ty "list", .ty "tuple"]) := upd_same
    generalize upd H tp (.tup [.ty "list", .ty "tuple"]) = H1 at s1 ht ⊢
    have ha1 := s1 _ _ ha
    have rl1 := rl.same s1
    have lx : us.length = ms.length := rl.1
    refine ⟨_, tp, _, _, _, _, rfl, ht, .cons (.ty "list") (.cons (.ty "tuple") .nil), .base (.lst ha1), kit_lt, _, rfl, iteT ?_⟩
    refine ⟨_, rfl, a, rfl, ⟨us, SqL.of ha1⟩, fun D nD => ?_⟩
    refine lc_list (K := K) (a := a) (xs := us) (fun i Hh => Same H1 Hh ∧ H1 D = none ∧ Hh D = some (.lst (List.replicate i (V.bl true)))) ⟨Same.new nD, nD, upd_same⟩ (fun i Hh _ p => SqL.of (p.1 _ _ ha1)) ?_ ?_
    · intro i z Hh hi p
      have il : i < us.length := (List.getElem?_eq_some_iff.mp hi).1
      obtain ⟨m, em, mz⟩ := Ls.get rl1 hi
      obtain ⟨y, dy, rfl, hy⟩ := mz.same p.1
      have km := kd m (List.mem_of_getElem? em)
      refine ⟨rfl, ?_⟩
      unfold tYes
      dsimp only
      have hy2 : Hh y = some (.ins c.L dy m.fs) := by
        rw [hy]
        show some (HO.ins (c.at m.kind) dy m.fs) = _
        rw [km]
        rfl
      refine iteT ⟨_, rfl, _, _, _, _, _, rfl, .own c.L, .base (.ins hy2 C.cl C.ca C.gn C.tk C.mr), C.ki, _, p.2.2, ?_, fun d o h => ?_, p.2.1, ?_⟩
      · rw [List.length_replicate]
        exact Nat.lt_of_lt_of_le (m := 1001) (by omega) (by decide)
      · rw [upd_ne (ne_of_none h p.2.1)]
        exact p.1 d o h
      · rw [upd_same, List.replicate_succ']
    · intro Hh p
      obtain ⟨s2, _, e⟩ := p
      refine ⟨D, List.replicate us.length true, rfl, SqL.of (by rw [e, repl_bl]), ?_⟩
      have z : (List.replicate us.length true).all id = true := by
        rw [List.all_eq_true]
        intro x hx
        rw [List.eq_of_mem_replicate hx]
        rfl
      rw [z]
      exact k _ (s1.trans s2)
theorem ok_hsInit {f CA DA C : Addr} {c : Rc} {fd : FuncData} {dvs : List V} (F : FunD K "__init__" "House.__init__" (defArgs sHsInit) (defBody sHsInit) (defScope sHsInit) dvs [] f fd) (T : BltK mg) (X : HsT K mg CA DA) (L : HsC K C)
    (cN : Cal P w K mg base CX0 "is_number" 2 ["value"] spNumI) (cR : Cal P w K mg base CX0 "is_rows" 1 ["value"] (spIsRows c)) : FnOk P w K mg base CX0 4 f fd ["self", "depth", "check", "rows"] (spHsInit K c C) := by
  obtain ⟨fN, fdN, GN, mN, kN, bN⟩ := cN
  obtain ⟨fR, fdR, GR, mR, kR, bR⟩ := cR
  refine F.ok scHsInit (fun vs H Q E h => ?_) (fun cdv A outer s H vs Q E hr h => ?_)
  · obtain ⟨x, dx, l, us, h, rfl, _⟩ := h
    rfl
  · obtain ⟨x, dx, l, us, h, rfl, hx, hl, rl, ok, q⟩ := h
    obtain ⟨d0, d4, hc, hm, hn⟩ := ok
    refine ⟨_, pss_cons (ps_if (pt_not (PW.pt (pw_and (pt_val (pe_call GN (hr.mono (by decide)) rfl mN kN bN .nil pass0 (pa_cons (pv 1) pa_nil))) (pw_and1 (pt_cmpR op_lt (pv 1) (pe_callB call_len_seq (by rfl) T.len PySem.boot_len (pa_cons (pe_glob (v := .ref DA) rfl X.depths rfl) pa_nil)) (nomark _)))))) (pss_one ps_never) pss_nil)
      (pss_cons (ps_if (pt_cmpR op_notIn_seq (pv 2) (pe_glob (v := .ref CA) rfl X.checks rfl) rfl) (pss_one ps_never) pss_nil)
      (pss_cons (ps_if (pt_not (pt_val (pe_call GR (hr.mono (by decide)) rfl mR kR bR .nil pass0 (pa_cons (pv 3) pa_nil)))) (pss_one ps_never) pss_nil)
      (pss_cons (ps_fld (pv 0) (pv 1) rfl)
      (pss_cons (ps_fld (pv 0) (pv 2) rfl)
      (pss_one (ps_fld (pv 0) (pe_callTy call_tuple_of (by rfl) T.tuple (by decide +kernel) (pa_cons (pv 3) pa_nil)) rfl)))))), ?_⟩
    refine ⟨_, rfl, h.d, rfl, _, rfl, ?_⟩
    rw [decide_eq_true d0]
    refine iteT ⟨_, rfl, DA, _, rfl, .inr (X.tD _), _, _, rfl, rfl, _, rfl, ?_⟩
    rw [decide_eq_true (show h.d < ((depthL.map V.str).length : Int) by show h.d < 5; omega)]
    refine iteF ⟨_, rfl, CA, _, rfl, .inr (X.tC _), rfl, flat_strs _, _, rfl, ?_⟩
    rw [inV_str, decide_eq_true hc]
    refine iteF ⟨_, rfl, l, us, h.rs, rfl, hl, rl, fun m z => (hm m z).2, by omega, fun H1 s1 => ⟨_, rfl, iteF ?_⟩⟩
    have hx1 := s1 _ _ hx
    have hl1 := s1 _ _ hl
    have nlx : l ≠ x := fun z => by rw [z, hx] at hl; cases hl
    refine ⟨_, rfl, _, rfl, x, C, dx, _, rfl, hx1, L.cl, L.d, (by show 0 < 1000; decide), ?_⟩
    refine ⟨_, rfl, _, rfl, x, C, dx, _, rfl, upd_same, L.cl, L.ch, (by show 1 < 1000; decide), ?_⟩
    rw [upd_upd]
    refine ⟨_, rfl, l, us, rfl, .inl ⟨SqL.of (by rw [upd_ne nlx]; exact hl1), fun t nt => ?_⟩⟩
    have ntx : x ≠ t := ne_of_none upd_same nt
    refine ⟨_, rfl, x, C, dx, _, rfl, (by rw [upd_ne ntx]; exact upd_same), L.cl, L.rs, (lt_put (n := 999) (lt_put (n := 998) (by show 0 < 998; decide))), ?_⟩
    rw [hs_put]
    have nt1 : H1 t = none := by
      rw [upd_ne (Ne.symm ntx)] at nt
      exact nt
    have sx : ∀ b o, b ≠ x → H b = some o → (upd (upd (upd H1 x (HO.ins C dx (putF "check" (V.str h.ch) (putF "depth" (V.int h.d) [])))) t (.tup us)) x (.ins C dx (hsF (.int h.d) (.str h.ch) (.ref t)))) b = some o := fun b o nb e => by
      rw [upd_ne nb, upd_ne (ne_of_none (s1 _ _ e) nt1), upd_ne nb]
      exact s1 _ _ e
    refine q _ (fun b o nb e => sx b o nb e) ⟨x, dx, t, us, rfl, upd_same, .inl (by rw [upd_ne (Ne.symm ntx)]; exact upd_same), ?_⟩
    refine Ls.imp rl fun v m a => ?_
    obtain ⟨y, dy, rfl, hy⟩ := a
    have nyx : y ≠ x := fun z => by
      rw [z, hx] at hy
      have e := Option.some.inj hy
      cases m <;> cases e
    exact ⟨y, dy, rfl, sx y _ nyx hy⟩
theorem ok_hsLen {f C : Addr} {c : Rc} {fd : FuncData} (F : Fun K "__len__" "House.__len__" sHsLen f fd) (T : BltK mg) (L : HsC K C) : FnOk P w K mg base CX0 1 f fd ["self"] (spHsLen K c C) := by
  refine F.ok scHsLen (fun vs H Q E h => ?_) (fun cdv A outer s H vs Q E hr h => ?_)
  · obtain ⟨v, h, rfl, _⟩ := h
    rfl
  · obtain ⟨v, h, rfl, ⟨x, dx, q, us, rfl, hx, hq, rl⟩, k⟩ := h
    refine ⟨_, pss_one (ps_ret (pe_callB call_len_seq (by rfl) T.len PySem.boot_len (pa_cons (pe_fld (pv 0) rfl) pa_nil))), ?_⟩
    rw [← rl.1] at k
    exact ⟨_, rfl, x, C, dx, _, _, rfl, hx, L.cl, L.rs, hs_rs .., q, us, rfl, .inr hq.sq, k⟩
theorem ok_hasRow {f C : Addr} {c : Rc} {fd : FuncData} (F : Fun K "has_row" "has_row" sHasRow f fd) (T : BltK mg) (L : HsC K C) : FnOk P w K mg base CX0 1 f fd ["house", "at"] (spHasRow K c C) := by
  refine F.ok scHasRow (fun vs H Q E h => ?_) (fun cdv A outer s H vs Q E hr h => ?_)
  · obtain ⟨v, h, i, rfl, _⟩ := h
    rfl
  · obtain ⟨v, h, i, rfl, ⟨x, dx, q, us, rfl, hx, hq, rl⟩, k⟩ := h
    refine ⟨_, pss_one (ps_ret (pe_chain op_le op_lt pe_int (pv 1) (pe_callB call_len_seq (by rfl) T.len PySem.boot_len (pa_cons (pe_fld (pv 0) rfl) pa_nil)))), ?_⟩
    refine ⟨_, rfl, _, _, rfl, rfl, _, rfl, ?_⟩
    by_cases i0 : 0 ≤ i
    · rw [decide_eq_true i0]
      refine iteT ⟨_, rfl, x, C, dx, _, _, rfl, hx, L.cl, L.rs, hs_rs .., q, us, rfl, .inr hq.sq, _, _, rfl, rfl, ?_⟩
      unfold hasRow at k
      rw [decide_eq_true i0, Bool.true_and, ← rl.1] at k
      exact k
    · rw [decide_eq_false i0]
      refine iteF ?_
      unfold hasRow at k
      rw [decide_eq_false i0, Bool.false_and] at k
      exact k
end
end V3

set_option Elab.async false
set_option linter.all false
set_option maxRecDepth 100000
namespace V3
open PySem L2 TL
abbrev sHsStr : Stmt := inClass (top 19) 11
abbrev sHsEq : Stmt := inClass (top 19) 10
abbrev sPlaced : Stmt := inClass (top 19) 2
/-! houses: their texts, ==, the place that a house tells -/
def nlS : Str := "\n"
def Hs.lines (h : Hs) : List Str := (Str.empty ++ "depth " ++ num h.d) :: (Str.empty ++ "check " ++ h.ch) :: h.rs.map Rw.text
def Hs.text (h : Hs) : Str := Str.join nlS h.lines
theorem lt_len {m : Rw} (ok : m.ok) (kd : m.kind = 0) : m.text.length ≤ 27 := by
  cases m with
  | ct k w o => cases kd
  | lt k s d p =>
    have l : ∀ z ∈ (Rw.lt k s d p).words, z.length ≤ 6 := fun z hz => (word_ok ok z hz).2
    simp only [Rw.words, List.mem_cons, List.not_mem_nil, or_false, forall_eq_or_imp, forall_eq] at l
    obtain ⟨l1, l2, l3, l4⟩ := l
    have l0 : (Str.empty).length = 0 := rfl
    have lb : (" " : Str).length = 1 := by decide +kernel
    rw [← let_text]
    simp only [app_len]
    omega
theorem num_dep {d : Int} (a : 0 ≤ d) (b : d ≤ 4) : (num d).length = 1 := by
  have h : d = 0 ∨ d = 1 ∨ d = 2 ∨ d = 3 ∨ d = 4 := by omega
  rcases h with rfl | rfl | rfl | rfl | rfl <;> decide +kernel
theorem ch_len {z : Str} (h : z ∈ checkL) : z.length ≤ 4 := by
  have q : ∀ z ∈ checkL, z.length ≤ 4 := by decide +kernel
  exact q z h
theorem sum_le {n : Nat} : ∀ l : List Str, (∀ z ∈ l, z.length ≤ n) → (l.map (·.length)).sum ≤ n * l.length
  | [], _ => by simp
  | a :: r, h => by
    have h1 := h a (by simp)
    have h2 := sum_le r fun z hz => h z (by simp [hz])
    simp only [List.map_cons, List.sum_cons, List.length_cons]
    have e : n * (r.length + 1) = n * r.length + n := by rw [Nat.mul_add, Nat.mul_one]
    omega
theorem lines_len {h : Hs} (ok : h.ok) : ∀ z ∈ h.lines, z.length ≤ 30 := by
  obtain ⟨d0, d4, hc, hm, hn⟩ := ok
  intro z hz
  have e1 : ("depth " : Str).length = 6 := by decide +kernel
  have e2 : ("check " : Str).length = 6 := by decide +kernel
  have l0 : (Str.empty).length = 0 := rfl
  simp only [Hs.lines, List.mem_cons, List.mem_map] at hz
  rcases hz with rfl | rfl | ⟨m, mm, rfl⟩
  · have := num_dep d0 d4
    simp only [app_len]
    omega
  · have := ch_len hc
    simp only [app_len]
    omega
  · have := lt_len (hm m mm).1 (hm m mm).2
    omega
theorem lines_n {h : Hs} (ok : h.ok) : h.lines.length ≤ 102 := by
  have := ok.2.2.2.2
  simp only [Hs.lines, List.length_cons, List.length_map]
  omega
def spHsStr (K : PySem.W.Frag) (c : Rc) (C : Addr) : Sp := fun vs H Q _ => ∃ (v : V) (h : Hs), vs = [v] ∧ HsAt K c C H v h ∧ h.ok ∧ ∀ H', Same H H' → Q (.str h.text) H'
structure StrH (P : Program) (w : World) (K : PySem.W.Frag) (mg : Str → Option Value) (base : Heap) (c : Rc) : Prop where
  s : ∃ (f : Addr) (fd : FuncData), FnOk P w K mg base CX0 1 f fd ["self"] (spRS c 0) ∧ PySem.W.findIn K (.ref c.L) "__str__" = some (some (.ref f)) ∧ PySem.W.isFn K (.ref f) = true ∧ Binds K fd ["self"] []
def rStrH (c : Rc) : List V → Hp → VK → Prop := fun xs H Q => ∃ v m, xs = [v] ∧ RwAt c H v m ∧ m.ok ∧ m.kind = 0 ∧ Q (.str m.text) H
theorem call_strH {X : Cx} {c : Rc} (T : StrH X.prog X.w X.K X.mg X.base c) (room : Room 3 X.A) : CallR X (.type "str") (rStrH c) := by
  intro pins s σ H xs us Q I r h
  obtain ⟨v, m, rfl, ⟨x, dx, rfl, hx⟩, ok, kd, q⟩ := h
  obtain ⟨f, fd, G, at_, isf, bi⟩ := T.s
  have hx2 : H x = some (.ins c.L dx m.fs) := by
    rw [hx]
    show some (HO.ins (c.at m.kind) dx m.fs) = _
    rw [kd]
    rfl
  refine call_strO (E := fun _ _ _ => False) G at_ isf bi pass0 room pins s σ H _ us Q I r ⟨x, dx, m.fs, rfl, hx2, x, dx, m, rfl, hx, kd, ok, _, rfl, q⟩
theorem take_nxt {α : Type} {l : List α} {i : Nat} {x : α} (h : l[i]? = some x) : l.take (i + 1) = l.take i ++ [x] := by
  rw [List.take_add_one, h]
  rfl
/-- the first fitting row's place -/
def placeIn (k s d : Str) : List Rw → Option Str
  | [] => none
  | .lt k' s' d' p :: r => if k' = k ∧ s' = s ∧ d' = d then some p else placeIn k s d r
  | .ct _ _ _ :: r => placeIn k s d r
def optV : Option Str → V
  | some p => .str p
  | none => .non
def spPlaced (K : PySem.W.Frag) (c : Rc) (C : Addr) : Sp := fun vs H Q _ => ∃ (v : V) (h : Hs) (k s d : Str), vs = [v, .str k, .str s, .str d] ∧ HsAt K c C H v h ∧ h.ok ∧ k ∈ kindL ∧ s ∈ stateL ∧ d ∈ deedL ∧ ∀ H', Same H H' → Q (optV (placeIn k s d h.rs)) H'
theorem word_lay : ∀ z ∈ kindL ++ stateL ++ deedL ++ placeL, PyData.canLay0 (.str z) = true := by decide +kernel
theorem lay_k {z : Str} (h : z ∈ kindL) : PyData.canLay0 (.str z) = true := word_lay z (by simp [h])
theorem lay_s {z : Str} (h : z ∈ stateL) : PyData.canLay0 (.str z) = true := word_lay z (by simp [h])
theorem lay_d {z : Str} (h : z ∈ deedL) : PyData.canLay0 (.str z) = true := word_lay z (by simp [h])
theorem tri_shaped {a b c : Str} (ha : a ∈ kindL) (hb : b ∈ stateL) (hc : c ∈ deedL) : SeqAt.shaped (.tuple [.str a, .str b, .str c]) = true := by
  have kt : ∀ xs : List PyData, PyData.canLay0 (.tuple xs) = PyData.canLayAll0 xs := fun xs => by simp [PyData.canLay0]
  simp [SeqAt.shaped, kt, PyData.canLayAll0, lay_k ha, lay_s hb, lay_d hc, PyData.depth, PyData.depthAll]
theorem str_beq (a b : Str) : (a == b) = decide (a = b) := by
  by_cases h : a = b
  · rw [decide_eq_true h, h]
    simp
  · rw [decide_eq_false h]
    simpa using h
theorem tri_eqv (a b c a' b' c' : Str) : PyData.eqv (.tuple [.str a, .str b, .str c]) (.tuple [.str a', .str b', .str c']) = decide (a = a' ∧ b = b' ∧ c = c') := by
  simp [PyData.eqv, PyData.eqvAll, str_beq, Bool.decide_and]
/-- the two notes of a House object's own str and == -/
structure HsStr (P : Program) (w : World) (K : PySem.W.Frag) (mg : Str → Option Value) (base : Heap) (c : Rc) (C : Addr) : Prop where
  s : ∃ (f : Addr) (fd : FuncData), FnOk P w K mg base CX0 4 f fd ["self"] (spHsStr K c C) ∧ PySem.W.findIn K (.ref C) "__str__" = some (some (.ref f)) ∧ PySem.W.isFn K (.ref f) = true ∧ Binds K fd ["self"] []
def rStrK (K : PySem.W.Frag) (c : Rc) (C : Addr) : List V → Hp → VK → Prop := fun xs H Q => ∃ v h, xs = [v] ∧ HsAt K c C H v h ∧ h.ok ∧ ∀ H', Same H H' → Q (.str h.text) H'
theorem call_strK {X : Cx} {c : Rc} {C : Addr} (T : HsStr X.prog X.w X.K X.mg X.base c C) (room : Room 6 X.A) : CallR X (.type "str") (rStrK X.K c C) := by
  intro pins s σ H xs us Q I r h
  obtain ⟨v, h, rfl, a, ok, q⟩ := h
  obtain ⟨f, fd, G, at_, isf, bi⟩ := T.s
  obtain ⟨x, dx, q1, us1, rfl, hx, hq, rl⟩ := id a
  exact call_strO (E := fun _ _ _ => False) G at_ isf bi pass0 room pins s σ H _ us Q I r ⟨x, dx, _, rfl, hx, _, h, rfl, a, ok, fun H' sm => ⟨_, rfl, q H' sm⟩⟩
/-- what House's class must be to isinstance -/
structure HsI (K : PySem.W.Frag) (C : Addr) : Prop where
  cl : Cls K C
  ca : PySem.W.findIn K (.ref C) "__class__" = some (some (.builtin "object.__class__"))
  mr : PySem.W.mroIn K C (.type "object") = some true
  gn : PySem.W.specialIn K (.builtin "object.__class__") "__get__" = some (some (.builtin "getset_descriptor.__get__"))
  tk : PySem.W.takesIn K (.builtin "object.__class__") = some true
  ki : PySem.W.kitOne K (.ref C) (.ref C) = some true
def spHsEq (K : PySem.W.Frag) (c : Rc) (C : Addr) : Sp := fun vs H Q _ => ∃ (u v : V) (h g : Hs), vs = [u, v] ∧ HsAt K c C H u h ∧ HsAt K c C H v g ∧ h.ok ∧ g.ok ∧ ∀ H', Same H H' → Q (.bl (decide (h.text = g.text))) H'
section
variable {P : Program} {w : World} {K : PySem.W.Frag} {mg : Str → Option Value} {base : Heap}
theorem scHsStr : FnScope ["self", "row"] ["self"] (defScope sHsStr) := ⟨rfl, rfl, rfl, by decide +kernel, rfl, by decide +kernel, by decide +kernel⟩
theorem scHsEq : FnScope ["self", "other"] ["self", "other"] (defScope sHsEq) := ⟨rfl, rfl, rfl, by decide +kernel, rfl, by decide +kernel, by decide +kernel⟩
theorem scPlaced : FnScope ["self", "kind", "state", "deed", "row"] ["self", "kind", "state", "deed"] (defScope sPlaced) := ⟨rfl, rfl, rfl, by decide +kernel, rfl, by decide +kernel, by decide +kernel⟩
theorem ok_hsStr {f C : Addr} {c : Rc} {fd : FuncData} (F : Fun K "__str__" "House.__str__" sHsStr f fd) (T : BltK mg) (S : StrH P w K mg base c) (L : HsC K C) : FnOk P w K mg base CX0 4 f fd ["self"] (spHsStr K c C) := by
  refine F.ok scHsStr (fun vs H Q E h => ?_) (fun cdv A outer s H vs Q E hr h => ?_)
  · obtain ⟨v, h, rfl, _⟩ := h
    rfl
  · obtain ⟨v, h, rfl, ⟨x, dx, q, us, rfl, hx, hq, rl⟩, ok, k⟩ := h
    have lall := lines_len ok
    have ln := lines_n ok
    obtain ⟨d0, d4, hc, hm, hn⟩ := id ok
    have e1 : ("depth " : Str).length = 6 := by decide +kernel
    have e2 : ("check " : Str).length = 6 := by decide +kernel
    have l0 : (Str.empty).length = 0 := rfl
    have l1 := num_dep d0 d4
    have l2 := ch_len hc
    refine ⟨_, pss_one (ps_ret (pe_joinK pe_str (pe_lst (pa_cons (pe_joined (.cons pe_str (.cons (pe_fmt (pe_fld (pv 0) rfl)) .nil))) (pa_cons (pe_joined (.cons pe_str (.cons (pe_fmt (pe_fld (pv 0) rfl)) .nil)))
      (StX.pa_star (pe_lc (own := [("row", 1)]) (g := gName 1) (tt := tYes) (te := tCB (rStrH c) (tCons (tVar 1) tNil)) (by rfl) scHsStr.nd (pi_tup (pe_fld (pv 0) rfl)) (blkOk_by (own := [("row", 1)]) (N := ["self", "row"]) (sc := defScope sHsStr) (by decide +kernel)) (fun _ _ _ _ _ => pg_name (i := 1) scHsStr.nd rfl (Or.inl rfl)) (fun _ _ _ _ _ => pts_nil)
          (fun _ _ _ _ _ => pe_callTy (call_strH S hr) (by rfl) T.str (by decide +kernel) (pa_cons (pv 1) pa_nil))) pa_nil)))))), ?_⟩
    have am : Am h.d := by
      have z : h.d = 0 ∨ h.d = 1 ∨ h.d = 2 ∨ h.d = 3 ∨ h.d = 4 := by omega
      rcases z with z | z | z | z | z <;> (rw [z]; unfold Am; decide)
    refine ⟨⟨_, rfl⟩, _, rfl, small (by rw [app_len]; omega), ?_⟩
    refine ⟨_, rfl, x, C, dx, _, _, rfl, hx, L.cl, L.d, hs_d .., .inr ⟨h.d, rfl, am_log am, num h.d, rfl, small (by simp only [app_len]; omega), ?_⟩⟩
    refine ⟨_, rfl, small (by rw [app_len]; omega), ?_⟩
    refine ⟨_, rfl, x, C, dx, _, _, rfl, hx, L.cl, L.ch, hs_ch .., .inl ⟨h.ch, rfl, small (by omega), _, rfl, small (by simp only [app_len]; omega), ?_⟩⟩
    refine ⟨_, rfl, x, C, dx, _, _, rfl, hx, L.cl, L.rs, hs_rs .., q, rfl, ⟨us, hq.sq⟩, fun D nD => ?_⟩
    have lx : us.length = h.rs.length := rl.1
    refine lc_tup (K := K) (a := q) (xs := us) (fun i Hh => Same H Hh ∧ H D = none ∧ Hh D = some (.lst (((h.rs.take i).map Rw.text).map V.str))) ⟨Same.new nD, nD, upd_same⟩ (fun i Hh _ p => (hq.same p.1).sq) ?_ ?_
    · intro i z Hh hi p
      have il : i < us.length := (List.getElem?_eq_some_iff.mp hi).1
      obtain ⟨m, em, mz⟩ := Ls.get rl hi
      obtain ⟨mo, mk⟩ := hm m (List.mem_of_getElem? em)
      refine ⟨rfl, ?_⟩
      unfold tYes
      dsimp only
      refine iteT ⟨_, rfl, z, m, rfl, mz.same p.1, mo, mk, _, p.2.2, ?_, fun d o e => ?_, p.2.1, ?_⟩
      · rw [List.length_map, List.length_map, List.length_take]
        exact Nat.lt_of_lt_of_le (m := 1001) (by omega) (by decide)
      · rw [upd_ne (ne_of_none e p.2.1)]
        exact p.1 d o e
      · rw [upd_same, take_nxt em, List.map_append, List.map_append]
        rfl
    · intro Hh p
      obtain ⟨s2, _, e⟩ := p
      rw [lx, List.take_length] at e
      refine ⟨D, _, rfl, .inr (SqL.of e), ?_, fun t nt => ?_⟩
      · simp only [List.append_nil, List.length_cons, List.length_map]
        exact Nat.le_trans (m := 1001) (by omega) (by decide)
      refine ⟨_, t, h.lines, rfl, rfl, .inl (SqL.of ?_), ?_, ?_⟩
      · rw [upd_same, List.append_nil]
        rfl
      · have z := sum_le h.lines lall
        have e3 : ("\n" : Str).length = 1 := by decide +kernel
        rw [e3]
        omega
      · rw [join_eq]
        exact k _ (s2.trans (Same.new nt))
theorem ok_hsEq {f C : Addr} {c : Rc} {fd : FuncData} (F : Fun K "__eq__" "House.__eq__" sHsEq f fd) (T : BltK mg) (S : HsStr P w K mg base c C) (I : HsI K C) (gH : mg "House" = some (.ref C)) : FnOk P w K mg base CX0 7 f fd ["self", "other"] (spHsEq K c C) := by
  refine F.ok scHsEq (fun vs H Q E h => ?_) (fun cdv A outer s H vs Q E hr h => ?_)
  · obtain ⟨u, v, h, g, rfl, _⟩ := h
    rfl
  · obtain ⟨u, v, h, g, rfl, hu, hv, ho, go, k⟩ := h
    obtain ⟨y, dy, q2, us2, rfl, hy, hq2, rl2⟩ := id hv
    refine ⟨_, pss_one (ps_ret (pe_and (pe_callB call_isi (by rfl) T.isi (by decide +kernel) (pa_cons (pv 1) (pa_cons (pe_glob (v := .ref C) rfl gH rfl) pa_nil)))
      (pe_one (pe_cmpR op_eq (pe_callTy (call_strK S hr) (by rfl) T.str (by decide +kernel) (pa_cons (pv 0) pa_nil)) (pe_callTy (call_strK S hr) (by rfl) T.str (by decide +kernel) (pa_cons (pv 1) pa_nil)) (nomark _))))), ?_⟩
    refine ⟨_, rfl, _, _, _, _, _, rfl, .own C, .base (.ins hy I.cl I.ca I.gn I.tk I.mr), I.ki, _, rfl, iteT ?_⟩
    refine ⟨_, rfl, u, h, rfl, hu, ho, fun H1 s1 => ⟨_, rfl, _, g, rfl, hv.same s1, go, fun H2 s2 => ⟨rfl, ?_⟩⟩⟩
    have e : decide (V.str h.text = V.str g.text) = decide (h.text = g.text) := by
      by_cases z : h.text = g.text
      · rw [z, decide_eq_true rfl, decide_eq_true rfl]
      · rw [decide_eq_false z, decide_eq_false (fun y => z (by injection y))]
    rw [e]
    exact k _ (s1.trans s2)
theorem ok_placed {f C : Addr} {c : Rc} {fd : FuncData} (F : Fun K "placed" "House.placed" sPlaced f fd) (L : HsC K C) (R : LetC K c) : FnOk P w K mg base CX0 2 f fd ["self", "kind", "state", "deed"] (spPlaced K c C) := by
  refine F.ok scPlaced (fun vs H Q E h => ?_) (fun cdv A outer s H vs Q E hr h => ?_)
  · obtain ⟨v, h, k, s, d, rfl, _⟩ := h
    rfl
  · obtain ⟨v, h, kd, st, de, rfl, ⟨x, dx, q, us, rfl, hx, hq, rl⟩, ok, hk, hs, hd, k⟩ := h
    obtain ⟨d0, d4, hc, hm, hn⟩ := id ok
    refine ⟨_, pss_cons (ps_for PassesOwn.never rfl (pi_tup (pe_fld (pv 0) rfl)) (pg_name (i := 4) scPlaced.nd rfl (Or.inl rfl))
      (pss_one (ps_if (pt_cmpR (op_eqD hr.units) (pe_tup (pa_cons (pe_fld (pv 4) rfl) (pa_cons (pe_fld (pv 4) rfl) (pa_cons (pe_fld (pv 4) rfl) pa_nil)))) (pe_tup (pa_cons (pv 1) (pa_cons (pv 2) (pa_cons (pv 3) pa_nil)))) (nomark _)) (pss_one (ps_ret (pe_fld (pv 4) rfl))) pss_nil)))
      (pss_one (ps_ret pe_non)), ?_⟩
    refine ⟨_, rfl, x, C, dx, _, _, rfl, hx, L.cl, L.rs, hs_rs .., q, rfl, ⟨us, hq.sq⟩, ?_⟩
    refine for_tup (K := K) (a := q) (xs := us) (fun i σ H' => (∃ o, σ = [some (.ref x), some (.str kd), some (.str st), some (.str de), o]) ∧ Same H H' ∧ placeIn kd st de h.rs = placeIn kd st de (h.rs.drop i)) ?_ ?_ ?_ ?_
    · exact ⟨⟨_, rfl⟩, Same.refl H, rfl⟩
    · rintro i σ H' _ ⟨_, s1, _⟩
      exact (hq.same s1).sq
    · rintro i z σ H' hi ⟨⟨o, rfl⟩, s1, pl⟩
      obtain ⟨m, em, mz⟩ := Ls.get rl hi
      obtain ⟨mo, mk⟩ := hm m (List.mem_of_getElem? em)
      have il : i < h.rs.length := (List.getElem?_eq_some_iff.mp em).1
      have dr : h.rs.drop i = m :: h.rs.drop (i + 1) := by
        rw [List.drop_eq_getElem_cons il]
        have z := (List.getElem?_eq_some_iff.mp em).2
        rw [z]
      cases m with
      | ct _ _ _ => cases mk
      | lt k' s' d' p' =>
        obtain ⟨y, dy, rfl, hy0⟩ := mz.same s1
        have hy : H' y = some (.ins c.L dy (letF (.str k') (.str s') (.str d') (.str p'))) := hy0
        obtain ⟨k1, k2, k3, k4, _⟩ := id mo
        refine ⟨_, rfl, y, c.L, dy, _, _, rfl, hy, R.cl, R.k, let_kind .., _, rfl, y, c.L, dy, _, _, rfl, hy, R.cl, R.s, let_state .., _, rfl, y, c.L, dy, _, _, rfl, hy, R.cl, R.d, let_deed .., (by show 3 ≤ sizeLine; decide), fun t1 n1 => ?_⟩
        have s2 : Same H' (upd H' t1 (.tup [.str k', .str s', .str d'])) := Same.new n1
        have ht1 : upd H' t1 (.tup [.str k', .str s', .str d']) t1 = some (.tup [.str k', .str s', .str d']) := upd_same
        dsimp only [tNil]
        generalize upd H' t1 (.tup [.str k', .str s', .str d']) = H1 at s2 ht1 ⊢
        refine ⟨_, rfl, _, rfl, _, rfl, (by show 3 ≤ sizeLine; decide), fun t2 n2 => ?_⟩
        have s3 : Same H1 (upd H1 t2 (.tup [.str kd, .str st, .str de])) := Same.new n2
        have ht2 : upd H1 t2 (.tup [.str kd, .str st, .str de]) t2 = some (.tup [.str kd, .str st, .str de]) := upd_same
        dsimp only [tNil]
        generalize upd H1 t2 (.tup [.str kd, .str st, .str de]) = H2 at s3 ht2 ⊢
        have S := (s1.trans s2).trans s3
        refine ⟨.tuple [.str k', .str s', .str d'], .tuple [.str kd, .str st, .str de], .tup (SqT.of (s3 _ _ ht1)) (.cons (.str _) (.cons (.str _) (.cons (.str _) .nil))), .tup (SqT.of ht2) (.cons (.str _) (.cons (.str _) (.cons (.str _) .nil))), tri_shaped k1 k2 k3, tri_shaped hk hs hd, _, rfl, ?_⟩
        rw [tri_eqv]
        rw [dr, show placeIn kd st de (Rw.lt k' s' d' p' :: h.rs.drop (i + 1)) = if k' = kd ∧ s' = st ∧ d' = de then some p' else placeIn kd st de (h.rs.drop (i + 1)) from rfl] at pl
        by_cases e : k' = kd ∧ s' = st ∧ d' = de
        · rw [decide_eq_true e]
          rw [if_pos e] at pl
          refine iteT ⟨_, rfl, y, c.L, dy, _, _, rfl, (s2.trans s3) _ _ hy, R.cl, R.p, let_place .., ?_⟩
          have z := k _ S
          have pl2 : placeIn kd st de h.rs = some p' := pl
          rw [pl2] at z
          exact z
        · rw [decide_eq_false e]
          rw [if_neg e] at pl
          exact iteF ⟨⟨_, rfl⟩, S, pl⟩
    · rintro σ H' ⟨⟨o, rfl⟩, s1, pl⟩
      have z := k _ s1
      rw [rl.1, List.drop_length] at pl
      rw [pl] at z
      exact z
end
end V3

set_option Elab.async false
set_option linter.all false
set_option maxRecDepth 100000
/-! books: what they are, what moves do to them -/
namespace V3
open PySem L2 TL
structure En where
  mo : Int
  am : Int
  ta : Option Nat
  ol : Option Nat
  deriving DecidableEq
structure Bk where
  es : List En
  m : Int
  deriving DecidableEq
def taAt (es : List En) (j : Nat) : Option Nat := (es[j]?).bind (·.ta)
def olAt (es : List En) (j : Nat) : Option Nat := (es[j]?).bind (·.ol)
def leftStep (es : List En) (ls : List Int) (j : Nat) : List Int := match taAt es j with
  | some t => ls.set t (ls.getD t 0 - ls.getD j 0)
  | none => ls
def leftsFrom (es : List En) : Nat → List Int → List Int
  | 0, ls => ls
  | k + 1, ls => leftsFrom es k (leftStep es ls k)
def lefts (es : List En) : List Int := leftsFrom es es.length (es.map (·.am))
def leftAt (es : List En) (j : Nat) : Int := (lefts es).getD j 0
theorem leftStep_len (es : List En) (ls : List Int) (j : Nat) : (leftStep es ls j).length = ls.length := by
  unfold leftStep
  split
  · rw [List.length_set]
  · rfl
theorem leftsFrom_len (es : List En) : ∀ (k : Nat) (ls : List Int), (leftsFrom es k ls).length = ls.length
  | 0, _ => rfl
  | k + 1, ls => by
    show (leftsFrom es k (leftStep es ls k)).length = _
    rw [leftsFrom_len, leftStep_len]
theorem lefts_len (es : List En) : (lefts es).length = es.length := by
  unfold lefts
  rw [leftsFrom_len, List.length_map]
/-- targets and olds are earlier ones; what has a target has no old; months are numbers, amounts amounts -/
structure Wf (b : Bk) : Prop where
  ta : ∀ j t, taAt b.es j = some t → t < j
  ol : ∀ j t, olAt b.es j = some t → t < j
  no : ∀ j t, taAt b.es j = some t → olAt b.es j = none
  mo : ∀ e ∈ b.es, 0 ≤ e.mo ∧ e.mo ≤ b.m
  m : 0 ≤ b.m
def depthF (es : List En) : Nat → Nat → Nat
  | 0, _ => 0
  | f + 1, j => match taAt es j with
    | some t => depthF es f t + 1
    | none => 0
def depth (es : List En) (j : Nat) : Nat := depthF es (j + 1) j
theorem depthF_eq {es : List En} (h : ∀ j t, taAt es j = some t → t < j) : ∀ (f g j : Nat), j < f → j < g → depthF es f j = depthF es g j
  | 0, _, j, a, _ => absurd a (Nat.not_lt_zero _)
  | _ + 1, 0, j, _, b => absurd b (Nat.not_lt_zero _)
  | f + 1, g + 1, j, a, b => by
    unfold depthF
    cases e : taAt es j with
    | none => rfl
    | some t =>
      have l := h j t e
      show depthF es f t + 1 = depthF es g t + 1
      rw [depthF_eq h f g t (by omega) (by omega)]
theorem depth_some {es : List En} (h : ∀ j t, taAt es j = some t → t < j) {j t : Nat} (e : taAt es j = some t) : depth es j = depth es t + 1 := by
  have l := h j t e
  unfold depth
  show (match taAt es j with
    | some t => depthF es j t + 1
    | none => 0) = _
  rw [e]
  show depthF es j t + 1 = depthF es (t + 1) t + 1
  rw [depthF_eq h j (t + 1) t l (by omega)]
theorem depth_none {es : List En} {j : Nat} (e : taAt es j = none) : depth es j = 0 := by
  unfold depth
  show (match taAt es j with
    | some t => depthF es j t + 1
    | none => 0) = _
  rw [e]
def topF (es : List En) : Nat → Nat → Nat
  | 0, j => j
  | f + 1, j => match taAt es j with
    | some t => topF es f t
    | none => j
def topOf (es : List En) (j : Nat) : Nat := topF es (j + 1) j
theorem topF_eq {es : List En} (h : ∀ j t, taAt es j = some t → t < j) : ∀ (f g j : Nat), j < f → j < g → topF es f j = topF es g j
  | 0, _, j, a, _ => absurd a (Nat.not_lt_zero _)
  | _ + 1, 0, j, _, b => absurd b (Nat.not_lt_zero _)
  | f + 1, g + 1, j, a, b => by
    unfold topF
    cases e : taAt es j with
    | none => rfl
    | some t =>
      have l := h j t e
      show topF es f t = topF es g t
      rw [topF_eq h f g t (by omega) (by omega)]
theorem top_some {es : List En} (h : ∀ j t, taAt es j = some t → t < j) {j t : Nat} (e : taAt es j = some t) : topOf es j = topOf es t := by
  have l := h j t e
  unfold topOf
  show (match taAt es j with
    | some t => topF es j t
    | none => j) = _
  rw [e]
  exact topF_eq h j (t + 1) t l (by omega)
theorem top_none {es : List En} {j : Nat} (e : taAt es j = none) : topOf es j = j := by
  unfold topOf
  show (match taAt es j with
    | some t => topF es j t
    | none => j) = _
  rw [e]
theorem top_le {es : List En} (h : ∀ j t, taAt es j = some t → t < j) : ∀ (n j : Nat), j < n → topOf es j ≤ j ∧ taAt es (topOf es j) = none
  | 0, j, a => absurd a (Nat.not_lt_zero _)
  | n + 1, j, a => by
    cases e : taAt es j with
    | none =>
      rw [top_none e]
      exact ⟨Nat.le_refl _, e⟩
    | some t =>
      have l := h j t e
      rw [top_some h e]
      have z := top_le h n t (by omega)
      exact ⟨by omega, z.2⟩
def deedF (es : List En) : Nat → Nat → Nat
  | 0, j => j
  | f + 1, j => match olAt es j with
    | some o => deedF es f (topOf es o)
    | none => j
/-- the deed of a top -/
def deedT (es : List En) (j : Nat) : Nat := deedF es (j + 1) j
def deedOf (es : List En) (j : Nat) : Nat := deedT es (topOf es j)
theorem deedF_eq {es : List En} (h : ∀ j t, taAt es j = some t → t < j) (ho : ∀ j t, olAt es j = some t → t < j) : ∀ (f g j : Nat), j < f → j < g → deedF es f j = deedF es g j
  | 0, _, j, a, _ => absurd a (Nat.not_lt_zero _)
  | _ + 1, 0, j, _, b => absurd b (Nat.not_lt_zero _)
  | f + 1, g + 1, j, a, b => by
    unfold deedF
    cases e : olAt es j with
    | none => rfl
    | some o =>
      have l := ho j o e
      have z := (top_le h (o + 1) o (by omega)).1
      show deedF es f (topOf es o) = deedF es g (topOf es o)
      rw [deedF_eq h ho f g _ (by omega) (by omega)]
theorem deed_some {es : List En} (h : ∀ j t, taAt es j = some t → t < j) (ho : ∀ j t, olAt es j = some t → t < j) {j o : Nat} (e : olAt es j = some o) : deedT es j = deedT es (topOf es o) := by
  have l := ho j o e
  have z := (top_le h (o + 1) o (by omega)).1
  unfold deedT
  show (match olAt es j with
    | some o => deedF es j (topOf es o)
    | none => j) = _
  rw [e]
  exact deedF_eq h ho j _ _ (by omega) (by omega)
theorem deed_none {es : List En} {j : Nat} (e : olAt es j = none) : deedT es j = j := by
  unfold deedT
  show (match olAt es j with
    | some o => deedF es j (topOf es o)
    | none => j) = _
  rw [e]
def kindAt (es : List En) (j : Nat) : Str := if (olAt es j).isSome then "new" else if (taAt es j).isNone then "first" else if depth es j % 2 = 1 then "minus" else "plus"
theorem kind_in (es : List En) (j : Nat) : kindAt es j ∈ kindL := by
  unfold kindAt
  split
  · decide +kernel
  · split
    · decide +kernel
    · split <;> decide +kernel
/-- by depths alone -/
theorem kind_depth {b : Bk} (w : Wf b) (j : Nat) : kindAt b.es j = if depth b.es j = 0 then (if (olAt b.es j).isNone then ("first" : Str) else ("new" : Str)) else if depth b.es j % 2 = 1 then ("minus" : Str) else ("plus" : Str) := by
  unfold kindAt
  cases e : taAt b.es j with
  | none =>
    rw [depth_none e, if_pos rfl]
    cases olAt b.es j <;> rfl
  | some t =>
    rw [depth_some w.ta e, if_neg (Nat.succ_ne_zero _), w.no j t e]
    rfl
def moAt (es : List En) (j : Nat) : Int := ((es[j]?).map (·.mo)).getD 0
def amAt (es : List En) (j : Nat) : Int := ((es[j]?).map (·.am)).getD 0
def stateAt (b : Bk) (j : Nat) : Str := if moAt b.es j = b.m then "open" else "shut"
theorem state_in (b : Bk) (j : Nat) : stateAt b j ∈ stateL := by
  unfold stateAt
  split <;> decide +kernel
/-- the month into which what a deed makes is put -/
def monthFor (h : Hs) (b : Bk) (j : Nat) (d : Str) : Option Int := (placeIn (kindAt b.es j) (stateAt b j) d h.rs).map fun p : Str => if p = ("now" : Str) then b.m else moAt b.es j
def overAll (es : List En) (j : Nat) (a : Int) : Bool := match (taAt es j).bind (taAt es) with
  | some t => decide (leftAt es t < a)
  | none => false
def takeB (h : Hs) (b : Bk) (j : Nat) (o : Option Int) : Option Bk :=
  if j < b.es.length then
    if (h.d ≤ (depth b.es j : Int)) ∨ leftAt b.es j ≤ 0 then none
    else match monthFor h b j (if o.isNone then "whole" else "part") with
      | none => none
      | some mo => if leftAt b.es j < o.getD (leftAt b.es j) then none
        else if h.ch = "all" ∧ overAll b.es j (o.getD (leftAt b.es j)) = true then none
        else some ⟨b.es ++ [⟨mo, o.getD (leftAt b.es j), some j, none⟩], b.m⟩
  else none
def rightB (h : Hs) (b : Bk) (j : Nat) (a : Int) : Option Bk :=
  if j < b.es.length then
    if h.d = 0 ∨ (∃ e ∈ b.es, e.ta = some j) then none
    else match monthFor h b j "right" with
      | none => none
      | some mo => some ⟨b.es ++ [⟨mo, amAt b.es j, some j, none⟩, ⟨mo, a, none, some j⟩], b.m⟩
  else none
def doB (h : Hs) (b : Bk) : Mv → Option Bk
  | .beg a => some ⟨b.es ++ [⟨b.m, a, none, none⟩], b.m⟩
  | .take t => takeB h b t.toNat none
  | .takeBy t a => takeB h b t.toNat (some a)
  | .right t a => rightB h b t.toNat a
  | .shut => some ⟨b.es, b.m + 1⟩
def b0 : Bk := ⟨[], 0⟩
/-- the book behind moves, or none -/
def playB (h : Hs) : Bk → List Mv → Option Bk
  | b, [] => some b
  | b, m :: r => match doB h b m with
    | none => none
    | some b' => playB h b' r
/-! they stay well formed -/
theorem taAt_app {es : List En} {e : En} (j : Nat) : taAt (es ++ [e]) j = if j < es.length then taAt es j else if j = es.length then e.ta else none := by
  unfold taAt
  by_cases h : j < es.length
  · rw [List.getElem?_append_left h, if_pos h]
  · rw [List.getElem?_append_right (by omega), if_neg h]
    by_cases k : j = es.length
    · subst k
      simp
    · rw [if_neg k, List.getElem?_eq_none (by simp; omega)]
      rfl
theorem olAt_app {es : List En} {e : En} (j : Nat) : olAt (es ++ [e]) j = if j < es.length then olAt es j else if j = es.length then e.ol else none := by
  unfold olAt
  by_cases h : j < es.length
  · rw [List.getElem?_append_left h, if_pos h]
  · rw [List.getElem?_append_right (by omega), if_neg h]
    by_cases k : j = es.length
    · subst k
      simp
    · rw [if_neg k, List.getElem?_eq_none (by simp; omega)]
      rfl
theorem Wf.push {b : Bk} {e : En} (w : Wf b) (ht : ∀ t, e.ta = some t → t < b.es.length) (ho : ∀ t, e.ol = some t → t < b.es.length) (hn : ∀ t, e.ta = some t → e.ol = none) (h0 : 0 ≤ e.mo) (h1 : e.mo ≤ b.m) : Wf ⟨b.es ++ [e], b.m⟩ := by
  refine ⟨fun j t q => ?_, fun j t q => ?_, fun j t q => ?_, fun x hx => ?_, w.m⟩
  · have q : taAt (b.es ++ [e]) j = some t := q
    rw [taAt_app] at q
    split at q
    · exact w.ta j t q
    · split at q
      · have := ht t q
        omega
      · cases q
  · have q : olAt (b.es ++ [e]) j = some t := q
    rw [olAt_app] at q
    split at q
    · exact w.ol j t q
    · split at q
      · have := ho t q
        omega
      · cases q
  · have q : taAt (b.es ++ [e]) j = some t := q
    show olAt (b.es ++ [e]) j = none
    rw [taAt_app] at q
    rw [olAt_app]
    split at q
    · rename_i hj
      rw [if_pos hj]
      exact w.no j t q
    · rename_i hj
      rw [if_neg hj]
      split at q
      · rename_i hk
        rw [if_pos hk]
        exact hn t q
      · cases q
  · rcases List.mem_append.mp hx with hx | hx
    · exact w.mo x hx
    · rw [List.mem_singleton.mp hx]
      exact ⟨h0, h1⟩
theorem moAt_ok {b : Bk} (w : Wf b) (j : Nat) : 0 ≤ moAt b.es j ∧ moAt b.es j ≤ b.m := by
  unfold moAt
  cases e : b.es[j]? with
  | none => exact ⟨Int.le_refl _, w.m⟩
  | some x => exact w.mo x (List.mem_of_getElem? e)
theorem month_ok {h : Hs} {b : Bk} (w : Wf b) {j : Nat} {d : Str} {mo : Int} (e : monthFor h b j d = some mo) : 0 ≤ mo ∧ mo ≤ b.m := by
  unfold monthFor at e
  obtain ⟨p, _, rfl⟩ := Option.map_eq_some_iff.mp e
  split
  · exact ⟨w.m, Int.le_refl _⟩
  · exact moAt_ok w j
theorem Wf.zero : Wf b0 := ⟨(fun j t e => by simp [taAt, b0] at e), (fun j t e => by simp [olAt, b0] at e), (fun j t e => by simp [taAt, b0] at e), (fun x hx => by cases hx), Int.le_refl _⟩
theorem Wf.do {h : Hs} {b b' : Bk} (w : Wf b) {mv : Mv} (e : doB h b mv = some b') : Wf b' := by
  have tk : ∀ (j : Nat) (o : Option Int), takeB h b j o = some b' → Wf b' := fun j o e => by
    unfold takeB at e
    split at e
    · rename_i hj
      split at e
      · cases e
      · split at e
        · cases e
        · rename_i mo em
          split at e
          · cases e
          · split at e
            · cases e
            · cases e
              have z := month_ok w em
              exact w.push (fun t q => by cases q; exact hj) (fun t q => by cases q) (fun _ _ => rfl) z.1 z.2
    · cases e
  cases mv with
  | beg a =>
    have e : some (Bk.mk (b.es ++ [⟨b.m, a, none, none⟩]) b.m) = some b' := e
    cases e
    exact w.push (fun t q => by cases q) (fun t q => by cases q) (fun t q => by cases q) w.m (Int.le_refl _)
  | take t => exact tk _ _ e
  | takeBy t a => exact tk _ _ e
  | shut =>
    have e : some (Bk.mk b.es (b.m + 1)) = some b' := e
    cases e
    exact ⟨w.ta, w.ol, w.no, fun x hx => by have z := w.mo x hx; exact ⟨z.1, by show x.mo ≤ b.m + 1; omega⟩, by show 0 ≤ b.m + 1; have := w.m; omega⟩
  | right t a =>
    have e : rightB h b t.toNat a = some b' := e
    unfold rightB at e
    split at e
    · rename_i hj
      split at e
      · cases e
      · split at e
        · cases e
        · rename_i mo em
          cases e
          have z := month_ok w em
          have w1 := w.push (e := ⟨mo, amAt b.es t.toNat, some t.toNat, none⟩) (fun t q => by cases q; exact hj) (fun t q => by cases q) (fun _ _ => rfl) z.1 z.2
          have w2 := w1.push (e := ⟨mo, a, none, some t.toNat⟩) (fun t q => by cases q) (fun t q => by cases q; show _ < (b.es ++ [_]).length; rw [List.length_append]; omega) (fun t q => by cases q) z.1 z.2
          rw [List.append_assoc] at w2
          exact w2
    · cases e
end V3

set_option Elab.async false
set_option linter.all false
set_option maxRecDepth 100000
namespace V3
open PySem PySem.Spec PyProof.Rows L2
/-! own exception classes over IndexError whose init is a def -/
abbrev ieTail : List Value := [.type "IndexError", .type "LookupError", .type "Exception", .type "BaseException", .type "object"]
/-- own classes, and then IndexError's line -/
def lineI : List Value → Bool
  | .ref _ :: r => lineI r
  | l => l == ieTail
theorem lineI_or (l : List Value) (e : lineI l = true) : (∃ c r, l = .ref c :: r ∧ lineI r = true) ∨ l = ieTail := by
  cases l with
  | nil => exact .inr (beq_iff_eq.mp e)
  | cons v r => cases v with
    | ref c => exact .inl ⟨c, r, rfl, e⟩
    | _ => exact .inr (beq_iff_eq.mp e)
theorem lineI_pass (me : Value) : ∀ l : List Value, lineI l = true → refuseLoop me "__setattr__" l = pure ()
  | [], e => absurd e (by decide)
  | v :: r, e => by
    rcases lineI_or (v :: r) e with ⟨c, r', q, h⟩ | q
    · obtain ⟨rfl, rfl⟩ := List.cons.inj q
      rw [refuseLoop_ref]
      exact lineI_pass me r h
    · rw [q]
      exact PySem.F.store_IndexError.passes me
theorem lineI_has (Y : String) : ∀ l : List Value, lineI l = true → l.contains (.type Y) = ieTail.contains (.type Y)
  | [], e => absurd e (by decide)
  | v :: r, e => by
    rcases lineI_or (v :: r) e with ⟨c, r', q, h⟩ | q
    · obtain ⟨rfl, rfl⟩ := List.cons.inj q
      rw [List.contains_cons, lineI_has Y r h]
      rfl
    · rw [q]
theorem lineI_ne {l : List Value} (e : lineI l = true) : l.isEmpty = false := by
  cases l with
  | nil => exact absurd e (by decide)
  | cons _ _ => rfl
section
open Builtin Builtin.ObjectAttr PySem.W PySem.Calls PySem.HandSPX
variable {prog : Program} {w : World} {A : Around} {E : Value → Shared → Prop} {R : Result → Shared → Prop} {hp : Heap} {g : Array GenState} {d : Drawn} {t : Nat} {os : OsState}
/-- a first field of an instance without a dict, by object's own way -/
theorem osaI {K : W.Frag} {n : Str} {tk : Tok} {v : Value} {x C : Addr} {fv : Array Value} {cd : ClassData} (Y : K.In hp) (gx : hp.get? x = some { cls := .ref C, data := .fields fv }) (gc : W.clsIn K C = some cd) (gm : lineI cd.mro = true) (gh : cd.hasDict = true) (ga : W.findIn K (.ref C) n = some none)
    (q : ∀ h' tk' dx, (∀ b o, b ≠ x → hp.get? b = some o → h'.get? b = some o) → hp.objs.size ≤ dx → dx ≠ x → h'.get? x = some { cls := .ref C, dict := some dx, data := .fields fv } → h'.Ns1 dx (fun y => if y = n then some v else none) → R (.ok (.ret .none)) ⟨h', g, d, tk', os⟩) :
    codeAny (model prog w) A (.call (.builtin "object.__setattr__") ⟨[.ref x, .str n tk, v], []⟩) R ⟨hp, g, d, t, os⟩ := by
  have J : W.InstAt hp x { cls := .ref C, data := .fields fv } C none := ⟨gx, rfl, rfl, trivial⟩
  have S := F.store_object
  have nem := lineI_ne gm
  have hasO : cd.mro.contains (.type "object") = true := (lineI_has "object" _ gm).trans (by decide +kernel)
  have xs : x ≠ hp.objs.size := Nat.ne_of_lt (Heap.lt_size gx)
  have sb : W.Looks (model prog w) hp (isInstance (.ref x) (.type "object")) true := J.type.andThen (W.looks_mroIn Y (by unfold W.mroIn; rw [gc, Option.bind_some, if_neg (by rw [nem]; decide), hasO]))
  refine codeAny_call_builtin S.slot.plain S.entry (@W.check_slot (model prog w) _ _ ⟨hp, g, d, t, os⟩ "object.__setattr__" "object" "__setattr__" (.ref x) [.str n tk, v] [] _ S.kind S.split sb (S.args (.ref x) (.str n tk) v) ?_)
  have lm : W.Looks (model prog w) hp (mroOf (.ref C)) cd.mro := (W.looks_clsIn Y gc).andThen .now
  have l3 : W.Looks (model prog w) hp (storeTaker? none) none := .now
  have lc : W.Looks (model prog w) hp (classData C) cd := W.looks_clsIn Y gc
  rw [W.osa_eq, refuse_eq]
  refine wpAny_bind (wpAny_bind (J.type.at (wpAny_bind (lm.at ?_))))
  rw [lineI_pass _ _ gm]
  refine wpAny_pure (wpAny_bind (J.type.at (wpAny_bind ((W.looks_findIn Y ga).at (wpAny_bind (l3.at ?_))))))
  show wpAny _ _ (storeInOwnDict (.ref x) (.ref C) (.str n tk) n v false) _ _ _
  obtain ⟨nm, bs, mro, ns, qn, hd, sn, sb', ab, col, del⟩ := cd
  dsimp only at gh
  subst gh
  unfold storeInOwnDict ownDictForStores
  repeat (first | with_reducible refine store_in_new ?_ ?_ | with_reducible refine wpAny_loadPart_at gx ?_ | with_reducible refine lc.at ?_ | wp_step)
  · exact ⟨_, #[], _, (Heap.get?_update_ne _ _ _ _ xs.symm).trans (Heap.get?_push_at rfl rfl), rfl, fun e he => absurd he (by simp), fun _ => rfl⟩
  · intro h' tk' hn' hs
    have gx1 : (hp.push { cls := .type "dict", data := .dict #[] }).get? x = some { cls := .ref C, data := .fields fv } := Heap.get?_push_of_some _ gx
    refine q h' tk' hp.objs.size (fun b o hb ho => ?_) (Nat.le_refl _) xs.symm ?_ hn'
    · exact (hs.2 b (Nat.ne_of_lt (Heap.lt_size ho))).trans ((Heap.get?_update_ne _ _ _ _ hb).trans (Heap.get?_push_of_some _ ho))
    · exact (hs.2 x xs).trans (Heap.get?_update_self _ gx1 rfl)
end
/-- what the written part says of such a class -/
structure OexI (K : PySem.W.Frag) (C : Addr) : Prop where
  cls : ∃ nm q N bs bm sn sub ab col dd k0 k1 k2 k3 k5, K.lookup C = some (excClassObj nm q C N bs bm true sn sub ab col dd k0 k1 k2 k3 k5 "IndexError.__new__") ∧ lineI bm = true
  sa : PySem.W.findIn K (.ref C) "__setattr__" = some (some (.builtin "object.__setattr__"))
  exC : PySem.W.subIn K (.ref C) (.type "BaseException") = some true
  tyC : PySem.W.typeIn K (.ref C) = some (.type "type")
  kC : PySem.W.keepIn K (.ref C) = true
section
variable {X : Cx} {pins : List (Addr × Obj)} {σ : L2.St} {H : Hp} {s : Shared} {a C dx : Addr} {f : Str} {y : V} {u : Value} {fs : List (Str × V)} {Q : Unit → Shared → Prop} {E : Value → Shared → Prop} {A : Around}
theorem ostI_new (T : OexI X.K C) (I : Inv X pins σ H s) (e : H a = some (exo a C none)) (no : PySem.W.findIn X.K (.ref C) f = some none) (ry : RelV y u)
    (k : ∀ dx s', H dx = none → dx ≠ a → Inv X pins σ (upd (upd H dx (exd dx [(f, y)])) a (exo a C (some dx))) s' → Q () s') : wpAny (model X.prog X.w) A (setAttr (.ref a) f u) Q E s := by
  obtain ⟨nm, q, N, bs, bm, sn, sub, ab, col, dd, k0, k1, k2, k3, k5, gC, gm⟩ := T.cls
  have gl : PySem.W.clsIn X.K C = some { name := nm, bases := bs, mro := .ref C :: bm, ns := N, qualname := q, hasDict := true, slotNames := sn, subclasses := sub, abstract := ab, collection := col, hasDel := false } := by
    unfold PySem.W.clsIn
    rw [gC] <;> rfl
  obtain ⟨t1, ho⟩ := exo_at I.hok e
  obtain ⟨hp, g, d, t, os⟩ := s
  refine PySem.W.set_plain I.kIn (ox := { cls := .ref C, dict := none, data := .fields #[.ref t1, .none, .none, .none, .bool false, .none] }) (od := none) ⟨ho, rfl, rfl, trivial⟩ T.sa ?_
  refine osaI I.kIn ho gl (show lineI (.ref C :: bm) = true from gm) rfl no (fun h' tk' dx kk dn dne hx hn => ?_)
  have fd : H dx = none := I.hok.fresh dn
  have nd : ∀ {b : Addr} {o : Obj}, hp.get? b = some o → b ≠ dx := fun {b o} z => Nat.ne_of_lt (Nat.lt_of_lt_of_le (Heap.lt_size z) dn)
  have na : ∀ {b : Addr}, H b = none → b ≠ a := fun {b} n z => by
    rw [z, e] at n
    cases n
  have U : Un X.fs [] H (upd (upd H dx (exd dx [(f, y)])) a (exo a C (some dx))) hp h' := {
    keep := fun b o z n _ _ => kk b o (na n) z
    slot := fun b o z n _ _ => ⟨o.slots, kk b o (na n) z⟩
    free := fun b o z n _ => by rw [upd_ne (na n), upd_ne (nd z)] <;> exact n
    there := fun b o z _ => by
      by_cases eb : b = a
      · exact ⟨_, by rw [eb] <;> exact hx⟩
      · exact ⟨o, kk b o eb z⟩
    tups := fun b xs z => by rw [upd_ne (at_ne e z exo_tup), upd_ne (ne_of_none z fd)] <;> exact z
    frzs := fun b o v z => by rw [upd_ne (at_ne e z exo_frz), upd_ne (ne_of_none z fd)] <;> exact z
    tbls := fun b ps z => ⟨#[], by rw [upd_ne (at_ne e z exo_tbl), upd_ne (ne_of_none z fd), z] <;> simp⟩ }
  refine k dx _ fd dne (I.un (t' := tk') U fun b o z => ?_)
  by_cases eb : b = a
  · subst eb
    rw [upd_same] at z
    cases z
    exact exo_ok hx
  · rw [upd_ne eb] at z
    by_cases ed : b = dx
    · subst ed
      rw [upd_same] at z
      cases z
      exact exd_ok hn (relO_put (f := f) (fs := []) ry fun _ => True.intro)
    · rw [upd_ne ed] at z
      refine (I.hok b o z).stay (fun c v hc y2 => ?_) (fun c hc => by rw [upd_ne (at_ne e hc exo_own), upd_ne (ne_of_none hc fd)] <;> exact hc) (fun c xs hc => by rw [upd_ne (at_ne e hc exo_tup), upd_ne (ne_of_none hc fd)] <;> exact hc)
      refine kk c v ?_ y2
      rcases hc with hc | hc
      · rw [hc]
        exact eb
      · exact at_ne e hc exo_own
end
/-- self.f = y, the first field of an instance that is being made -/
def tOstI (K : PySem.W.Frag) (f : Str) (to te : TE) : TS := fun D σ H => te σ H fun y H1 => to σ H1 fun x H2 => ∃ a C : Addr, x = .ref a ∧ OexI K C ∧ PySem.W.findIn K (.ref C) f = some none ∧
  H2 a = some (exo a C none) ∧ ∀ dx, H2 dx = none → dx ≠ a → D.nx σ (upd (upd H2 dx (exd dx [(f, y)])) a (exo a C (some dx)))
section
variable {X : Cx} {o e : Expr} {es : List Expr} {to te : TE} {ta : TA} {f : Str} {p p' pos : Pos}
theorem ps_ostI (ho : PE X o to) (he : PE X e te) (hs : swapsWith e (some (.Attribute o f p')) pos.line X.env = pure false := by rfl) : PS X (.Assign [.Attribute o f p'] e pos) (tOstI X.K f to te) := by
  refine ⟨fun pins s σ H D I h => ?_⟩
  refine plainObj_wpAny_Assign_Attribute (thn (he.run pins s σ H _ I h) fun v s1 ⟨y, H1, I1, r1, q1⟩ => thn (ho.run pins s1 σ H1 _ I1 q1) fun u s2 ⟨x, H2, I2, r2, a, C, ex, T, no, ea, q⟩ => ?_) hs
  subst ex
  obtain rfl : u = Value.ref a := r2
  exact ostI_new T I2 ea no r1 fun dx s' n ne J => ⟨σ, _, J, q dx n ne⟩
/-- C(e, ..) by its own init, C's line ending in IndexError's -/
theorem pmk_oexI {CX : CXT} {x : Str} {C fI : Addr} {k : Nat} {fd : FuncData} {ps : List Str} {sp : Sp} (T : OexI X.K C) (iC : PySem.W.findIn X.K (.ref C) "__init__" = some (some (.ref fI))) (tI : PySem.W.typeIn X.K (.ref fI) = some (.type "function"))
    (F1 : FnOk X.prog X.w X.K X.mg X.base CX k fI fd ps sp) (room : Room (k + 1) X.A) (bi : Binds X.K fd ps []) (ps' : Passes CX X (fun _ _ _ => False)) (hg : Gl X x) (hm : X.mg x = some (.ref C)) (ha : PA X (e :: es) ta)
    (nd : (x == ("__debug__" : Str)) = false := by decide) (st : starEach (e :: es) X.env = (false, eval e X.env) :: starEach es X.env := by rfl) (pl : (backTo pos (starEach es X.env)).any (·.1) = false := by rfl) :
    PMk X (.Call (.Name x p) (e :: es) [] pos) (tMkO C sp [] ta) := by
  intro pins s σ H Q I h
  obtain ⟨nm, q, N, bs, bm, sn, sub, ab, col, dd, k0, k1, k2, k3, k5, gC, gm⟩ := T.cls
  refine wpAny_Call_Name_kw (ld_glob I hg hm ?_ nd)
  refine PySem.W.callWith_K (h₀ := X.base) I.ok.mod.kin T.kC (thn (ha.run pos pins s σ H _ I h) fun us s1 ⟨vs, H1, I1, r1, hz, q1⟩ => ⟨I1.kIn, ?_⟩) st pl
  show wpAny _ _ (call (.ref C) us) _ _ _
  obtain ⟨hp, g, dr, tk, os⟩ := s1
  have sz : hp.objs.size ≤ hp.objs.size + 1 := Nat.le_succ _
  have fr : H1 (hp.objs.size + 1) = none := I1.hok.fresh sz
  have sp1 := q1 (hp.objs.size + 1) fr
  have keep2 : ∀ b o, hp.get? b = some o → ((hp.push (PySem.W.kdv_tup us)).push (PySem.HandSPX.excO C hp.objs.size)).get? b = some o := fun b o z => Heap.get?_push_of_some _ (Heap.get?_push_of_some _ z)
  have at2 : ((hp.push (PySem.W.kdv_tup us)).push (PySem.HandSPX.excO C hp.objs.size)).get? (hp.objs.size + 1) = some (PySem.HandSPX.excO C hp.objs.size) := by heap_get
  have J : Inv X pins σ (upd H1 (hp.objs.size + 1) (exo (hp.objs.size + 1) C none)) ⟨(hp.push (PySem.W.kdv_tup us)).push (PySem.HandSPX.excO C hp.objs.size), g, dr, tk, os⟩ :=
    I1.laid (t' := tk) (a := hp.objs.size + 1) (o := exo (hp.objs.size + 1) C none) (h' := (hp.push (PySem.W.kdv_tup us)).push (PySem.HandSPX.excO C hp.objs.size)) keep2 sz (exo_ok at2)
  rw [List.append_nil] at sp1
  have r2 : Vals (V.ref (hp.objs.size + 1) :: vs) (Value.ref (hp.objs.size + 1) :: us) := .cons rfl r1
  have len2 : (Value.ref (hp.objs.size + 1) :: us ++ []).length = ps.length := by
    have z := r2.length
    rw [F1.len _ _ _ _ sp1] at z
    rw [List.append_nil]
    exact z.symm
  have few : us.length ≤ sizeLine := by
    rw [← Paired.length r1, sizeLine_eq] <;> omega
  have b2 := bi _ (Value.ref (hp.objs.size + 1) :: us) J.kIn len2
  rw [List.append_nil] at b2
  refine wpAny_call (PySem.HandSPX.call_own PySem.F.excBase_IndexError (fun Y => lineI_has Y bm gm) (I1.kIn _ _ gC) (PySem.W.looks_findIn I1.kIn iC) (fun self => PySem.W.bind_fn I1.kIn self tI) few
    (codeAny_mono (F1.run _ X.stack _ _ ⟨Value.ref (hp.objs.size + 1) :: us, []⟩ (Value.ref (hp.objs.size + 1) :: us) _ _ (fun _ _ _ => False) (room.make C us []) (J.env0.make C us []) b2 r2 sp1) fun r s' z => ?_))
  cases r with
  | error er => exact ps' pins σ _ _ er s' J z
  | ok fl =>
    cases fl with
    | ret u =>
      obtain ⟨v, H2, os2, bare2, un2, ok2, rv, ev, d, fs, ea, ed, nd1, q2⟩ := z
      subst ev
      obtain ⟨h2, g2, d2, t2, os'⟩ := s'
      exact ⟨rv, mk_end (raises_own T.exC T.tyC) I1 sz keep2 un2 ok2 os2 bare2 ea ed nd1 q2⟩
    | next => exact z.elim
    | brk => exact z.elim
    | cont => exact z.elim
end
end V3

set_option Elab.async false
set_option linter.all false
set_option maxRecDepth 100000
namespace V3
open PySem L2 TL
abbrev sNrInit : Stmt := inClass (top 9) 0
/-! NoRow; a house without some rows -/
def spIX (C : Addr) : Sp := fun vs H Q _ => ∃ (a : Addr) (y : V), vs = [.ref a, y] ∧ H a = some (exo a C none) ∧
  ∀ d, H d = none → d ≠ a → Q .non (upd (upd H d (exd d [("at", y)])) a (exo a C (some d)))
structure NrTxt (P : Program) (w : World) (K : PySem.W.Frag) (mg : Str → Option Value) (base : Heap) (C : Addr) : Prop where
  g : mg "NoRow" = some (.ref C)
  o : OexI K C
  no : PySem.W.findIn K (.ref C) "at" = some none
  ini : ∃ (f : Addr) (fd : FuncData), FnOk P w K mg base CX0 1 f fd ["self", "at"] (spIX C) ∧ PySem.W.findIn K (.ref C) "__init__" = some (some (.ref f)) ∧ PySem.W.typeIn K (.ref f) = some (.type "function") ∧ Binds K fd ["self", "at"] []
/-- behind a raise: an error with the number, all else as it was -/
def ErI (C : Addr) (H : Hp) (E : XK) (i : Int) : Prop := ∀ (d : Addr) (H' : Hp), Same H H' → H' d = some (.xd [("at", .int i)]) → E (.ref C) (some d) H'
theorem raise_sameI {H : Hp} {a d : Addr} {o1 o2 o3 o4 : HO} (na : H a = none) (nd : upd H a o1 d = none) (ne : d ≠ a) : Same H (upd (del (upd (upd (upd H a o1) d o2) a o3) a) d o4) := by
  intro b o e
  have ba : b ≠ a := ne_of_none e na
  have hd : H d = none := by
    rw [upd_ne ne] at nd
    exact nd
  have bd : b ≠ d := ne_of_none e hd
  rw [upd_ne bd, del_ne ba, upd_ne ba, upd_ne bd, upd_ne ba]
  exact e
theorem er_readI {C : Addr} {H : Hp} {E : XK} {i : Int} (h : ErI C H E i) : ∀ a, H a = none → spIX C (.ref a :: ([V.int i] ++ [])) (upd H a (exo a C none))
    (fun v H2 => v = .non ∧ ∃ (d : Addr) (fs : List (Str × V)), H2 a = some (exo a C (some d)) ∧ H2 d = some (exd d fs) ∧ H d = none ∧ E (.ref C) (some d) (upd (del H2 a) d (.xd fs))) (fun _ _ _ => False) := by
  intro a na
  refine ⟨a, _, rfl, upd_same, fun d nd ne => ⟨rfl, d, [("at", .int i)], upd_same, ?_, ?_, ?_⟩⟩
  · rw [upd_ne ne]
    exact upd_same
  · rw [upd_ne ne] at nd
    exact nd
  · exact h d _ (raise_sameI na nd ne) upd_same
/-- walking a list or a tuple -/
def iSeq (K : PySem.W.Frag) (tl : TE) : TI := fun σ H R => tl σ H fun x H1 => ∃ a, x = .ref a ∧ (((∃ xs, SqL K H1 a xs) ∧ R (Itl K a) H1) ∨ ((∃ xs, SqT K H1 a xs) ∧ R (Itt K a) H1))
theorem pi_seq {X : Cx} {tg l : Expr} {tl : TE} (hl : PE X l tl) : PI X tg l (iSeq X.K tl) := by
  refine ⟨fun pins s σ H R J h => ?_⟩
  have nw : ∀ {s1 : Shared} {H1 : Hp} {o : Obj}, Inv X pins σ H1 s1 → Inv X pins σ H1 { s1 with heap := s1.heap.push o } := fun {s1 H1 o} I1 => I1.kept (t' := s1.toks) fun b o e => PySem.Heap.get?_push_of_some _ e
  refine thn (hl.run pins s σ H _ J h) fun v s1 ⟨x, H1, I1, r1, a, ea, q1⟩ => ?_
  subst ea
  cases r1
  have fp : ∀ b ∈ [s1.heap.objs.size], FpOk X pins H1 b := fun b hb => by
    rw [List.mem_singleton.mp hb]
    exact I1.fpOk (Nat.le_refl _) (I1.hok.fresh (Nat.le_refl _))
  rcases q1 with ⟨⟨xs, hq⟩, q⟩ | ⟨⟨xs, hq⟩, q⟩
  · obtain ⟨its, rv, p, hz⟩ := I1.list hq
    exact wpAny_pyIter_list p.isList ⟨s1.heap.objs.size, [s1.heap.objs.size], _, _, H1, rfl, nw I1, turn_list a _, ⟨_, PySem.Heap.get?_push_size _ rfl, rfl, rfl⟩, fp, q⟩
  · obtain ⟨its, rv, p, hz⟩ := I1.tuple hq
    exact wpAny_pyIter_tuple (show s1.heap.IsTuple a its.toArray from p) ⟨s1.heap.objs.size, [s1.heap.objs.size], _, _, H1, rfl, nw I1, turn_tuple a _, ⟨_, PySem.Heap.get?_push_size _ rfl, rfl, rfl⟩, fp, q⟩
theorem for_seq {K : PySem.W.Frag} {a : Addr} {xs : List V} {g : TG} {tb : TS} {D : Ends} {σ : L2.St} {H : Hp} (Pv : Nat → L2.St → Hp → Prop) (h : H a = some (.lst xs) ∨ H a = some (.tup xs)) (h0 : Pv 0 σ H) (hl : ∀ i σ H', Pv i σ H' → Same H H')
    (hs : ∀ i x σ H, xs[i]? = some x → Pv i σ H → g x σ H fun σ2 H2 => tb { D with nx := Pv (i + 1), ct := Pv (i + 1), bk := D.nx } σ2 H2) (hd : ∀ σ H, Pv xs.length σ H → D.nx σ H) :
    ((∃ xs, SqL K H a xs) ∧ ∃ W : Nat → Nat → L2.St → Hp → Prop, (∃ m, W 0 m σ H) ∧ ∀ i m σ H, W i m σ H →
      ((Itl K a).stop i H ∧ D.nx σ H) ∨ ((Itl K a).go i H ∧ ∃ N : L2.St → Hp → Prop, (∀ σ' H', N σ' H' → ∃ m', m' < m ∧ W (i + 1) m' σ' H') ∧ ∀ x H', (Itl K a).yld i H x H' → g x σ H' fun σ2 H2 => tb { D with nx := N, ct := N, bk := D.nx } σ2 H2)) ∨
    ((∃ xs, SqT K H a xs) ∧ ∃ W : Nat → Nat → L2.St → Hp → Prop, (∃ m, W 0 m σ H) ∧ ∀ i m σ H, W i m σ H →
      ((Itt K a).stop i H ∧ D.nx σ H) ∨ ((Itt K a).go i H ∧ ∃ N : L2.St → Hp → Prop, (∀ σ' H', N σ' H' → ∃ m', m' < m ∧ W (i + 1) m' σ' H') ∧ ∀ x H', (Itt K a).yld i H x H' → g x σ H' fun σ2 H2 => tb { D with nx := N, ct := N, bk := D.nx } σ2 H2)) := by
  rcases h with h | h
  · exact .inl ⟨⟨xs, SqL.of h⟩, for_list Pv h0 (fun i σ H' _ z => SqL.of (hl i σ H' z _ _ h)) hs hd⟩
  · exact .inr ⟨⟨xs, SqT.of h⟩, for_tup Pv h0 (fun i σ H' _ z => SqT.of (hl i σ H' z _ _ h)) hs hd⟩
/-- the rows whose numbers, from j on, are none of these -/
def keepFrom (ns : List Int) : Nat → List Rw → List Rw
  | _, [] => []
  | j, m :: r => if ((j : Nat) : Int) ∈ ns then keepFrom ns (j + 1) r else m :: keepFrom ns (j + 1) r
theorem keep_snoc (ns : List Int) (m : Rw) : ∀ (l : List Rw) (j : Nat), keepFrom ns j (l ++ [m]) = keepFrom ns j l ++ (if ((j + l.length : Nat) : Int) ∈ ns then [] else [m])
  | [], j => by
    show (if ((j : Nat) : Int) ∈ ns then keepFrom ns (j + 1) [] else m :: keepFrom ns (j + 1) []) = [] ++ (if ((j + 0 : Nat) : Int) ∈ ns then [] else [m])
    rfl
  | a :: l, j => by
    have ih := keep_snoc ns m l (j + 1)
    have e : j + 1 + l.length = j + (a :: l).length := by
      rw [List.length_cons]
      omega
    rw [e] at ih
    show (if ((j : Nat) : Int) ∈ ns then keepFrom ns (j + 1) (l ++ [m]) else a :: keepFrom ns (j + 1) (l ++ [m])) = (if ((j : Nat) : Int) ∈ ns then keepFrom ns (j + 1) l else a :: keepFrom ns (j + 1) l) ++ _
    by_cases h : ((j : Nat) : Int) ∈ ns
    · rw [if_pos h, if_pos h, ih]
    · rw [if_neg h, if_neg h, ih, List.cons_append]
theorem keep_sub (ns : List Int) : ∀ (l : List Rw) (j : Nat), (keepFrom ns j l).length ≤ l.length ∧ ∀ m ∈ keepFrom ns j l, m ∈ l
  | [], _ => ⟨Nat.le_refl _, fun m h => by cases h⟩
  | a :: l, j => by
    obtain ⟨h1, h2⟩ := keep_sub ns l (j + 1)
    show (if ((j : Nat) : Int) ∈ ns then keepFrom ns (j + 1) l else a :: keepFrom ns (j + 1) l).length ≤ _ ∧ ∀ m ∈ (if ((j : Nat) : Int) ∈ ns then keepFrom ns (j + 1) l else a :: keepFrom ns (j + 1) l), _
    by_cases h : ((j : Nat) : Int) ∈ ns
    · rw [if_pos h]
      exact ⟨by rw [List.length_cons]; omega, fun m z => List.mem_cons_of_mem _ (h2 m z)⟩
    · rw [if_neg h]
      refine ⟨by simp only [List.length_cons]; omega, fun m z => ?_⟩
      rcases List.mem_cons.mp z with z | z
      · rw [z]
        exact List.mem_cons_self
      · exact List.mem_cons_of_mem _ (h2 m z)
def Hs.less (h : Hs) (ns : List Int) : Hs := ⟨h.d, h.ch, keepFrom ns 0 h.rs⟩
theorem less_ok {h : Hs} (ok : h.ok) (ns : List Int) : (h.less ns).ok := by
  obtain ⟨d0, d4, hc, hm, hn⟩ := ok
  obtain ⟨h1, h2⟩ := keep_sub ns h.rs 0
  exact ⟨d0, d4, hc, fun m z => hm m (h2 m z), Nat.le_trans h1 hn⟩
def badRow (h : Hs) (ns : List Int) : Option Int := ns.find? fun i => !hasRow h i
def NumsAt (K : PySem.W.Frag) (H : Hp) (p : Addr) (ns : List Int) : Prop := SqL K H p (ns.map V.int) ∨ SqT K H p (ns.map V.int)
/-- a list or a tuple of whole numbers that stays -/
def NumsIn (H : Hp) (p : Addr) (ns : List Int) : Prop := H p = some (.lst (ns.map V.int)) ∨ H p = some (.tup (ns.map V.int))
theorem NumsIn.same {H H' : Hp} {p : Addr} {ns : List Int} (h : NumsIn H p ns) (s : Same H H') : NumsIn H' p ns := h.elim (fun z => .inl (s _ _ z)) (fun z => .inr (s _ _ z))
theorem NumsIn.sq {K : PySem.W.Frag} {H : Hp} {p : Addr} {ns : List Int} (h : NumsIn H p ns) : SqL K H p (ns.map V.int) ∨ SqT K H p (ns.map V.int) := h.elim (fun z => .inl (SqL.of z)) (fun z => .inr (SqT.of z))
def spWithout (K : PySem.W.Frag) (c : Rc) (C CN : Addr) : Sp := fun vs H Q E => ∃ (v : V) (p : Addr) (h : Hs) (ns : List Int), vs = [v, .ref p] ∧ HsAt K c C H v h ∧ h.ok ∧ NumsIn H p ns ∧
  (badRow h ns = none → ∀ w H', Same H H' → HsAt K c C H' w (h.less ns) → Q w H') ∧ ∀ i, badRow h ns = some i → ErI CN H E i
theorem flat_intsH (L : List Int) : (L.map V.int).all flatV = true := by
  induction L with
  | nil => rfl
  | cons a r ih => simpa [flatV] using ih
theorem inV_int {i : Int} {L : List Int} : inV (.int i) (L.map V.int) = decide (i ∈ L) := by
  induction L with
  | nil => rfl
  | cons a r ih =>
    have e : inV (.int i) ((a :: r).map V.int) = (a == i || inV (.int i) (r.map V.int)) := rfl
    rw [e, ih]
    by_cases q : i = a
    · subst q
      simp
    · have z : (a == i) = false := Bool.eq_false_iff.mpr fun w => q (eq_of_beq w).symm
      rw [z]
      simp [q]
/-- House, how it is made -/
structure MkH (P : Program) (w : World) (K : PySem.W.Frag) (mg : Str → Option Value) (base : Heap) (c : Rc) (C : Addr) : Prop where
  g : mg "House" = some (.ref C)
  ini : ∃ (f : Addr) (fd : FuncData), FnOk P w K mg base CX0 4 f fd ["self", "depth", "check", "rows"] (spHsInit K c C) ∧ Mk K C f ∧ Binds K fd ["self", "depth", "check", "rows"] []
theorem mk_house {K : PySem.W.Frag} {c : Rc} {C x dx l : Addr} {H : Hp} {us : List V} {h : Hs} {R : VK} {E : XK} (hl : H l = some (.lst us)) (rl : RwLs c H us h.rs) (ok : h.ok) (nx : H x = none) (ndx : H dx = none) (q : ∀ H', Same H H' → HsAt K c C H' (.ref x) h → R .non H') :
    spHsInit K c C [.ref x, .int h.d, .str h.ch, .ref l] (upd (upd H dx (.own x)) x (.ins C dx [])) R E := by
  have s0 : Same H (upd (upd H dx (.own x)) x (.ins C dx [])) := made_same nx ndx
  exact ⟨x, dx, l, us, h, rfl, upd_same, s0 _ _ hl, rl.same s0, ok, fun H' s' a => q H' (fun b o e => s' b o (ne_of_none e nx) (s0 b o e)) a⟩
section
variable {P : Program} {w : World} {K : PySem.W.Frag} {mg : Str → Option Value} {base : Heap}
theorem scNrInit : FnScope ["self", "at"] ["self", "at"] (defScope sNrInit) := ⟨rfl, rfl, rfl, by decide +kernel, rfl, by decide +kernel, by decide +kernel⟩
theorem ok_nrInit {f C : Addr} {fd : FuncData} (F : Fun K "__init__" "NoRow.__init__" sNrInit f fd) (o : OexI K C) (no : PySem.W.findIn K (.ref C) "at" = some none) : FnOk P w K mg base CX0 1 f fd ["self", "at"] (spIX C) := by
  refine F.ok scNrInit (fun vs H Q E h => ?_) (fun cdv A outer s H vs Q E hr h => ?_)
  · obtain ⟨a, y, rfl, _⟩ := h
    rfl
  · obtain ⟨a, y, rfl, ha, q⟩ := h
    exact ⟨_, pss_one (ps_ostI (pv 0) (pv 1)), _, rfl, _, rfl, a, C, rfl, o, no, ha, fun dx h1 h2 => q dx h1 h2⟩
end
end V3

set_option Elab.async false
set_option linter.all false
set_option maxRecDepth 100000
namespace V3
open PySem L2 TL
abbrev sHouse : Stmt := top 32
abbrev sHouseText : Stmt := top 33
/-! the law's own houses: depth, check, rows in a tuple -/
def HtAt (H : Hp) (v : V) (h : Hs) : Prop := ∃ p q us, v = .ref p ∧ H p = some (.tup [.int h.d, .str h.ch, .ref q]) ∧ H q = some (.tup us) ∧ RowLs 0 H us h.rs
theorem HtAt.keep {H H' : Hp} {v : V} {h : Hs} (a : HtAt H v h) (s : Keep H H') : HtAt H' v h := by
  obtain ⟨p, q, us, e, hp, hq, rl⟩ := a
  exact ⟨p, q, us, e, s _ _ (fun _ z => by cases z) hp, s _ _ (fun _ z => by cases z) hq, rl.keep s⟩
theorem HtAt.same {H H' : Hp} {v : V} {h : Hs} (a : HtAt H v h) (s : Same H H') : HtAt H' v h := a.keep (Keep.of s)
theorem Keep.preb {H H' : Hp} {b : Addr} {u v : Int} (hb : H b = some (box u v)) (s : Pre b H H') : Keep H H' := Keep.pre hb s.1
theorem emp_app (a : Str) : Str.empty ++ a = a := ext_tl (by
  rw [tl_append]
  simp [Str.empty, tl])
def spHouse : Sp := fun vs H Q _ => ∃ (b : Addr) (u v n : Int), vs = [.ref b, .int n] ∧ H b = some (box u v) ∧ BoxOk u v ∧ 1 ≤ n ∧ n ≤ 99 ∧ ∀ (x : V) (h : Hs) (H' : Hp), Pre b H H' → HtAt H' x h → h.ok → (h.rs.length : Int) ≤ n → Q x H'
def spHouseText : Sp := fun vs H Q _ => ∃ (v : V) (h : Hs), vs = [v] ∧ HtAt H v h ∧ h.ok ∧ ∀ H', Same H H' → Q (.str h.text) H'
def spPlace : Sp := fun vs H Q _ => ∃ (v : V) (h : Hs) (k s d : Str), vs = [v, .str k, .str s, .str d] ∧ HtAt H v h ∧ h.ok ∧ k ∈ kindL ∧ s ∈ stateL ∧ d ∈ deedL ∧ ∀ H', Same H H' → Q (.str ((placeIn k s d h.rs).getD Str.empty)) H'
def spHouseOf (K : PySem.W.Frag) (c : Rc) (C : Addr) : Sp := fun vs H Q _ => ∃ (v : V) (h : Hs), vs = [v] ∧ HtAt H v h ∧ h.ok ∧ ∀ (x : V) (H' : Hp), Same H H' → HsAt K c C H' x h → Q x H'
abbrev CalCho (P : Program) (w : World) (K : PySem.W.Frag) (mg : Str → Option Value) (base : Heap) : Prop := Cal P w K mg base CX0 "_law_choose" 1 ["_law_box", "_law_many"] spChoose
abbrev CalRws (P : Program) (w : World) (K : PySem.W.Frag) (mg : Str → Option Value) (base : Heap) : Prop := Cal P w K mg base CX0 "_law_rows" 3 ["_law_box", "_law_many"] spRows
section
variable {P : Program} {w : World} {K : PySem.W.Frag} {mg : Str → Option Value} {base : Heap}
theorem scHouse : FnScope ["_law_box", "_law_many", "_law_depth"] ["_law_box", "_law_many"] (defScope sHouse) := ⟨rfl, rfl, rfl, by decide +kernel, rfl, by decide +kernel, by decide +kernel⟩
theorem scHouseText : FnScope ["_law_house_here", "_law_lines", "_law_row"] ["_law_house_here"] (defScope sHouseText) := ⟨rfl, rfl, rfl, by decide +kernel, rfl, by decide +kernel, by decide +kernel⟩
theorem ok_house {f : Addr} {fd : FuncData} (F : Fun K "_law_house" "_law_house" sHouse f fd) (zt : mg "tuple" = none) (cO : CalOne P w K mg base) (cC : CalCho P w K mg base) (cR : CalRws P w K mg base) : FnOk P w K mg base CX0 4 f fd ["_law_box", "_law_many"] spHouse := by
  obtain ⟨fO, fdO, GO, mO, kO, bO⟩ := cO
  obtain ⟨fC, fdC, GC, mC, kC, bC⟩ := cC
  obtain ⟨fR, fdR, GR, mR, kR, bR⟩ := cR
  refine F.ok scHouse (fun vs H Q E h => ?_) (fun cdv A outer s H vs Q E hr h => ?_)
  · obtain ⟨b, u, v, n, rfl, _⟩ := h
    rfl
  · obtain ⟨b, u, v, n, rfl, hb, bk, n1, n2, k⟩ := h
    refine ⟨_, pss_cons (ps_set (i := 2) scHouse.nd rfl (Or.inl rfl) (pe_call GO (hr.mono (by decide)) rfl mO kO bO .nil pass0 (pa_cons (pv 0) (pa_cons (pe_lst (pa_cons pe_int (pa_cons pe_int (pa_cons pe_int (pa_cons pe_int (pa_cons pe_int (pa_cons pe_int pa_nil))))))) pa_nil))))
      (pss_one (ps_ret (pe_tup (pa_cons (pv 2) (pa_cons (pe_call GO (hr.mono (by decide)) rfl mO kO bO .nil pass0 (pa_cons (pv 0) (pa_cons (pe_lst (pa_cons pe_str (pa_cons pe_str (pa_cons pe_str pa_nil)))) pa_nil)))
        (pa_cons (pe_callTy call_tuple_of (by rfl) zt (by decide +kernel) (pa_cons (pe_call GR (hr.mono (by decide)) rfl mR kR bR .nil pass0 (pa_cons (pv 0) (pa_cons (pe_op op_add pe_int (pe_call GC (hr.mono (by decide)) rfl mC kC bC .nil pass0 (pa_cons (pv 0) (pa_cons (pv 1) pa_nil)))) pa_nil))) pa_nil)) pa_nil)))))), ?_⟩
    refine ⟨_, rfl, (by show 6 ≤ sizeLine; decide), fun l1 nl1 => oneOf_new hb bk nl1 (by decide) (by decide) fun x1 H1 i1 p1 => ?_⟩
    have hx1 : ∃ d : Int, x1 = .int d ∧ 0 ≤ d ∧ d ≤ 4 := by
      simp only [List.mem_cons, List.not_mem_nil, or_false] at i1
      rcases i1 with rfl | rfl | rfl | rfl | rfl | rfl <;> exact ⟨_, rfl, by decide, by decide⟩
    obtain ⟨d, rfl, d0, d4⟩ := hx1
    obtain ⟨_, u1, v1, bk1, hb1⟩ := id p1
    refine ⟨_, rfl, _, rfl, (by show 3 ≤ sizeLine; decide), fun l2 nl2 => ?_⟩
    dsimp only [tNil]
    refine oneOf_new hb1 bk1 nl2 (by decide) (by decide) fun x2 H2 i2 p2 => ?_
    have hx2 : ∃ z : Str, x2 = .str z ∧ z ∈ checkL := by
      simp only [List.mem_cons, List.not_mem_nil, or_false] at i2
      rcases i2 with rfl | rfl | rfl <;> exact ⟨_, rfl, by decide +kernel⟩
    obtain ⟨ch, rfl, hc⟩ := hx2
    obtain ⟨_, u2, v2, bk2, hb2⟩ := id p2
    refine ⟨_, rfl, _, rfl, _, rfl, b, u2, v2, n, rfl, hb2, bk2, n1, by omega, fun e u3 v3 e0 e1 bk3 => ?_⟩
    have p3 : Pre b H2 (upd H2 b (box u3 v3)) := Pre.box bk3
    have hb3 : upd H2 b (box u3 v3) b = some (box u3 v3) := upd_same
    dsimp only [tNil]
    generalize upd H2 b (box u3 v3) = H3 at p3 hb3 ⊢
    refine ⟨_, _, rfl, rfl, b, u3, v3, 1 + e, rfl, hb3, bk3, by omega, by omega, fun D xs ms H4 p4 hD nD hs rl lm => ?_⟩
    refine ⟨D, xs, rfl, .inl ⟨SqL.of hD, fun t nt => ?_⟩⟩
    obtain ⟨_, u4, v4, bk4, hb4⟩ := id p4
    have s5 : Same H4 (upd H4 t (.tup xs)) := Same.new nt
    have ht : upd H4 t (.tup xs) t = some (.tup xs) := upd_same
    generalize upd H4 t (.tup xs) = H5 at s5 ht ⊢
    refine ⟨(by show 3 ≤ sizeLine; decide), fun t2 nt2 => ?_⟩
    have s6 : Same H5 (upd H5 t2 (.tup [.int d, .str ch, .ref t])) := Same.new nt2
    refine k _ ⟨d, ch, ms⟩ _ (((((p1.trans p2).trans p3).trans p4).then s5).then s6) ⟨t2, t, xs, rfl, upd_same, s6 _ _ ht, (rl.keep (Keep.of s5)).keep (Keep.of s6)⟩ ⟨d0, d4, hc, fun m hm => ?_, by show ms.length ≤ 100; omega⟩ (by show (ms.length : Int) ≤ n; omega)
    obtain ⟨i, hi⟩ := List.getElem?_of_mem hm
    obtain ⟨_, _, z⟩ := rl.2 i m hi
    exact z.2
theorem ok_houseText {f : Addr} {fd : FuncData} (F : Fun K "_law_house_text" "_law_house_text" sHouseText f fd) (zs : mg "str" = none) : FnOk P w K mg base CX0 1 f fd ["_law_house_here"] spHouseText := by
  refine F.ok scHouseText (fun vs H Q E h => ?_) (fun cdv A outer s H vs Q E hr h => ?_)
  · obtain ⟨v, h, rfl, _⟩ := h
    rfl
  · obtain ⟨v, h, rfl, ⟨p, q, us, rfl, hp, hq, rl⟩, ok, k⟩ := h
    have lall := lines_len ok
    have ln := lines_n ok
    obtain ⟨d0, d4, hc, hm, hn⟩ := id ok
    refine ⟨_, pss_cons (ps_set (i := 1) scHouseText.nd rfl (Or.inl rfl) (pe_lst (pa_cons (pe_op op_add_str pe_str (pe_callTy call_str_int (by rfl) zs (by decide +kernel) (pa_cons (pe_ix ix_tup (pv 0) pe_int (fun _ _ => rfl)) pa_nil))) (pa_cons (pe_op op_add_str pe_str (pe_ix ix_tup (pv 0) pe_int (fun _ _ => rfl))) pa_nil))))
      (pss_one (ps_ret (pe_joinK pe_str (pe_op op_cat (pv 1) (pe_lc (own := [("_law_row", 2)]) (g := gName 2) (tt := tYes) (te := tM1 (rJoinK K) (tC (.str " ")) (tVar 2)) (by rfl) scHouseText.nd (pi_tup (pe_ix ix_tup (pv 0) pe_int (fun _ _ => rfl))) (blkOk_by (own := [("_law_row", 2)]) (N := ["_law_house_here", "_law_lines", "_law_row"]) (sc := defScope sHouseText) (by decide +kernel)) (fun _ _ _ _ _ => pg_name (i := 2) scHouseText.nd rfl (Or.inl rfl)) (fun _ _ _ _ _ => pts_nil)
          (fun _ _ _ _ _ => pe_joinK pe_str (pv 2))))))), ?_⟩
    have am : Am h.d := by
      have z : h.d = 0 ∨ h.d = 1 ∨ h.d = 2 ∨ h.d = 3 ∨ h.d = 4 := by omega
      rcases z with z | z | z | z | z <;> (rw [z]; unfold Am; decide)
    have e1 : ("depth " : Str).length = 6 := by decide +kernel
    have e2 : ("check " : Str).length = 6 := by decide +kernel
    have n1 := num_dep d0 d4
    have n2 := ch_len hc
    refine ⟨_, rfl, p, _, 0, _, rfl, rfl, SqT.of hp, rfl, h.d, rfl, am_log am, _, _, rfl, rfl, small ?_, ?_⟩
    · show ("depth " : Str).length + (num h.d).length ≤ 10000
      omega
    refine ⟨_, rfl, p, _, 1, _, rfl, rfl, SqT.of hp, rfl, _, _, rfl, rfl, small ?_, (by show 2 ≤ sizeLine; decide), fun l nl => ?_⟩
    · show ("check " : Str).length + h.ch.length ≤ 10000
      omega
    have s1 : Same H (upd H l (.lst [.str ("depth " ++ Str.ofString (toString h.d)), .str ("check " ++ h.ch)])) := Same.new nl
    have hl : upd H l (.lst [.str ("depth " ++ Str.ofString (toString h.d)), .str ("check " ++ h.ch)]) l = some (.lst [.str ("depth " ++ Str.ofString (toString h.d)), .str ("check " ++ h.ch)]) := upd_same
    dsimp only [gName]
    generalize upd H l (.lst [.str ("depth " ++ Str.ofString (toString h.d)), .str ("check " ++ h.ch)]) = H1 at s1 hl ⊢
    have hp1 := s1 _ _ hp
    have hq1 := s1 _ _ hq
    have rl1 : RowLs 0 H1 us h.rs := rl.keep (Keep.of s1)
    have lx : us.length = h.rs.length := rl.1
    refine ⟨⟨_, rfl⟩, _, rfl, _, rfl, p, _, 2, _, rfl, rfl, SqT.of hp1, rfl, q, rfl, ⟨us, SqT.of hq1⟩, fun D nD => ?_⟩
    refine lc_tup (K := K) (a := q) (xs := us) (fun i Hh => Same H1 Hh ∧ H1 D = none ∧ Hh D = some (.lst (((h.rs.take i).map Rw.text).map V.str))) ⟨Same.new nD, nD, upd_same⟩ (fun i Hh _ z => SqT.of (z.1 _ _ hq1)) ?_ ?_
    · rintro i z Hh hi ⟨s2, nD1, hD⟩
      have il : i < us.length := (List.getElem?_eq_some_iff.mp hi).1
      obtain ⟨m, em, tm, mo, mk⟩ := Ls.get rl1 hi
      obtain ⟨t, rfl, ht⟩ := tm.same s2
      have tl0 := lt_len mo mk
      refine ⟨rfl, ?_⟩
      unfold tYes
      dsimp only
      cases m with
      | ct _ _ _ => cases mk
      | lt k' s' d' p' =>
        have lw : ∀ z ∈ (Rw.lt k' s' d' p').words, z.length ≤ 6 := fun z hz => (word_ok mo z hz).2
        simp only [Rw.words, List.mem_cons, List.not_mem_nil, or_false, forall_eq_or_imp, forall_eq] at lw
        obtain ⟨l1, l2, l3, l4⟩ := lw
        have lb : (" " : Str).length = 1 := by decide +kernel
        refine iteT ⟨⟨_, rfl⟩, _, rfl, _, t, [k', s', d', p'], rfl, rfl, .inr (SqT.of ht), ?_, _, hD, ?_, fun b o e => ?_, nD1, ?_⟩
        · simp only [List.map, List.sum_cons, List.sum_nil, List.length_cons, List.length_nil, lb]
          omega
        · rw [List.length_map, List.length_map, List.length_take]
          exact Nat.lt_of_lt_of_le (m := 1001) (by omega) (by decide)
        · rw [upd_ne (ne_of_none e nD1)]
          exact s2 b o e
        · have e : Txt.join (" " : Str) [k', s', d', p'] = (Rw.lt k' s' d' p').text := join_eq _ _
          rw [upd_same, take_nxt em, List.map_append, List.map_append, e]
          rfl
    · rintro Hh ⟨s2, nD1, hD⟩
      rw [lx, List.take_length] at hD
      refine ⟨l, D, _, _, rfl, rfl, s2 _ _ hl, hD, ?_, fun t nt => ⟨_, t, h.lines, rfl, rfl, .inl (SqL.of ?_), ?_, ?_⟩⟩
      · simp only [List.length_map, List.length_cons, List.length_nil]
        exact Nat.le_trans (m := 1001) (by omega) (by decide)
      · rw [upd_same]
        unfold Hs.lines
        rw [emp_app, emp_app]
        rfl
      · have z := sum_le h.lines lall
        have e3 : ("\n" : Str).length = 1 := by decide +kernel
        rw [e3]
        omega
      · rw [join_eq]
        exact k _ ((s1.trans s2).trans (Same.new nt))
end
end V3

set_option Elab.async false
set_option linter.all false
set_option maxRecDepth 100000
namespace V3
open PySem L2 TL
abbrev sPlace : Stmt := top 34
section
variable {P : Program} {w : World} {K : PySem.W.Frag} {mg : Str → Option Value} {base : Heap}
theorem scPlace : FnScope ["_law_house_here", "_law_kind", "_law_state", "_law_deed", "_law_row"] ["_law_house_here", "_law_kind", "_law_state", "_law_deed"] (defScope sPlace) := ⟨rfl, rfl, rfl, by decide +kernel, rfl, by decide +kernel, by decide +kernel⟩
theorem ok_place {f : Addr} {fd : FuncData} (F : Fun K "_law_place" "_law_place" sPlace f fd) : FnOk P w K mg base CX0 2 f fd ["_law_house_here", "_law_kind", "_law_state", "_law_deed"] spPlace := by
  refine F.ok scPlace (fun vs H Q E h => ?_) (fun cdv A outer s H vs Q E hr h => ?_)
  · obtain ⟨v, h, k, s, d, rfl, _⟩ := h
    rfl
  · obtain ⟨v, h, kd, st, de, rfl, ⟨x, q, us, rfl, hx, hq, rl⟩, ok, hk, hs, hd, k⟩ := h
    obtain ⟨d0, d4, hc, hm, hn⟩ := id ok
    refine ⟨_, pss_cons (ps_for PassesOwn.never rfl (pi_tup (pe_ix ix_tup (pv 0) pe_int (fun _ _ => rfl))) (pg_name (i := 4) scPlace.nd rfl (Or.inl rfl))
      (pss_one (ps_if (pt_cmpR (op_eqD hr.units) (pe_slice sl_tup (pv 4) po_none (po_some pe_int)) (pe_tup (pa_cons (pv 1) (pa_cons (pv 2) (pa_cons (pv 3) pa_nil)))) (nomark _)) (pss_one (ps_ret (pe_ix ix_tup (pv 4) pe_int (fun _ _ => rfl)))) pss_nil)))
      (pss_one (ps_ret pe_str)), ?_⟩
    refine ⟨_, rfl, x, _, 2, _, rfl, rfl, SqT.of hx, rfl, q, rfl, ⟨us, SqT.of hq⟩, ?_⟩
    refine for_tup (K := K) (a := q) (xs := us) (fun i σ H' => (∃ o, σ = [some (.ref x), some (.str kd), some (.str st), some (.str de), o]) ∧ Same H H' ∧ placeIn kd st de h.rs = placeIn kd st de (h.rs.drop i)) ?_ ?_ ?_ ?_
    · exact ⟨⟨_, rfl⟩, Same.refl H, rfl⟩
    · rintro i σ H' _ ⟨_, s1, _⟩
      exact SqT.of (s1 _ _ hq)
    · rintro i z σ H' hi ⟨⟨o, rfl⟩, s1, pl⟩
      obtain ⟨m, em, tm, mo, mk⟩ := Ls.get rl hi
      have il : i < h.rs.length := (List.getElem?_eq_some_iff.mp em).1
      have dr : h.rs.drop i = m :: h.rs.drop (i + 1) := by
        rw [List.drop_eq_getElem_cons il]
        have z := (List.getElem?_eq_some_iff.mp em).2
        rw [z]
      cases m with
      | ct _ _ _ => cases mk
      | lt k' s' d' p' =>
        obtain ⟨y, rfl, hy0⟩ := tm.same s1
        have hy : H' y = some (.tup [.str k', .str s', .str d', .str p']) := hy0
        obtain ⟨k1, k2, k3, k4, _⟩ := id mo
        refine ⟨_, rfl, _, rfl, y, [V.str k', V.str s', V.str d', V.str p'], rfl, SqT.of hy, (by show ¬ (HT.sIx 4 0 none = 0 ∧ HT.sIx 4 4 (some 3) = 4); decide), fun t1 n1 => ?_⟩
        rw [show cutV [V.str k', V.str s', V.str d', V.str p'] none (some 3) = [V.str k', V.str s', V.str d'] from rfl]
        have s2 : Same H' (upd H' t1 (.tup [.str k', .str s', .str d'])) := Same.new n1
        have ht1 : upd H' t1 (.tup [.str k', .str s', .str d']) t1 = some (.tup [.str k', .str s', .str d']) := upd_same
        generalize upd H' t1 (.tup [.str k', .str s', .str d']) = H1 at s2 ht1 ⊢
        refine ⟨_, rfl, _, rfl, _, rfl, (by show 3 ≤ sizeLine; decide), fun t2 n2 => ?_⟩
        have s3 : Same H1 (upd H1 t2 (.tup [.str kd, .str st, .str de])) := Same.new n2
        have ht2 : upd H1 t2 (.tup [.str kd, .str st, .str de]) t2 = some (.tup [.str kd, .str st, .str de]) := upd_same
        dsimp only [tNil]
        generalize upd H1 t2 (.tup [.str kd, .str st, .str de]) = H2 at s3 ht2 ⊢
        have S := (s1.trans s2).trans s3
        refine ⟨.tuple [.str k', .str s', .str d'], .tuple [.str kd, .str st, .str de], .tup (SqT.of (s3 _ _ ht1)) (.cons (.str _) (.cons (.str _) (.cons (.str _) .nil))), .tup (SqT.of ht2) (.cons (.str _) (.cons (.str _) (.cons (.str _) .nil))), tri_shaped k1 k2 k3, tri_shaped hk hs hd, _, rfl, ?_⟩
        rw [tri_eqv]
        rw [dr, show placeIn kd st de (Rw.lt k' s' d' p' :: h.rs.drop (i + 1)) = if k' = kd ∧ s' = st ∧ d' = de then some p' else placeIn kd st de (h.rs.drop (i + 1)) from rfl] at pl
        by_cases e : k' = kd ∧ s' = st ∧ d' = de
        · rw [decide_eq_true e]
          rw [if_pos e] at pl
          refine iteT ⟨_, rfl, y, [V.str k', V.str s', V.str d', V.str p'], 3, _, rfl, rfl, SqT.of ((s2.trans s3) _ _ hy), rfl, ?_⟩
          have z := k _ S
          rw [pl] at z
          exact z
        · rw [decide_eq_false e]
          rw [if_neg e] at pl
          exact iteF ⟨⟨_, rfl⟩, S, pl⟩
    · rintro σ H' ⟨⟨o, rfl⟩, s1, pl⟩
      have z := k _ s1
      rw [rl.1, List.drop_length] at pl
      rw [pl] at z
      exact z
end
end V3

set_option Elab.async false
set_option linter.all false
set_option maxRecDepth 100000
/-! the law's own books -/
namespace V3
open PySem L2 TL
-- no sLefts
-- no sDepths
-- no sKindL
def oi : Option Nat → Int
  | some n => (n : Int)
  | none => -1
theorem oi_neg {o : Option Nat} : decide (oi o < 0) = o.isNone := by
  cases o with
  | none => rfl
  | some n => exact decide_eq_false (by show ¬ (n : Int) < 0; omega)
theorem oi_nn {o : Option Nat} : decide (0 ≤ oi o) = o.isSome := by
  cases o with
  | none => rfl
  | some n => exact decide_eq_true (by show 0 ≤ (n : Int); omega)
def LEn (e : En) : V → Hp → Prop := fun v H => ∃ p, v = .ref p ∧ H p = some (.tup [.int e.mo, .int e.am, .int (oi e.ta), .int (oi e.ol)])
instance {e : En} : StL (LEn e) := ⟨fun _ _ _ s ⟨p, e, h⟩ => ⟨p, e, s _ _ (fun _ z => by cases z) h⟩⟩
abbrev LEs (es : List En) : V → Hp → Prop := isU LEn es
def LBk (b : Bk) : V → Hp → Prop := isP2 LEs isIv (b.es, b.m)
instance {b : Bk} : StL (LBk b) := by unfold LBk; infer_instance
section
variable {K : PySem.W.Frag} {σ : L2.St} {ta tb tc te : TE} {H0 : Hp} {b : Bk} {e : En} {es : List En} {j : Nat} {i k : Int}
theorem ev_p2a {α β : Type} {S : α → V → Hp → Prop} {T : β → V → Hp → Prop} {p : α × β} (ha : EvV (Same H0) σ ta (isP2 S T p)) : EvV (Same H0) σ (tOp (rIxT K) ta (tC (.int 0))) (S p.1) := fun H Q w k =>
  ha H _ w fun v H1 s1 w1 ⟨D, u, x, ev, hD, hu, _⟩ => ⟨D, _, 0, u, ev, rfl, SqT.of hD, rfl, k u H1 s1 w1 hu⟩
theorem ev_p2b {α β : Type} {S : α → V → Hp → Prop} {T : β → V → Hp → Prop} {p : α × β} (ha : EvV (Same H0) σ ta (isP2 S T p)) : EvV (Same H0) σ (tOp (rIxT K) ta (tC (.int 1))) (T p.2) := fun H Q w k =>
  ha H _ w fun v H1 s1 w1 ⟨D, u, x, ev, hD, _, hx⟩ => ⟨D, _, 1, x, ev, rfl, SqT.of hD, rfl, k x H1 s1 w1 hx⟩
theorem ev_es (ha : EvV (Same H0) σ ta (LBk b)) : EvV (Same H0) σ (tOp (rIxT K) ta (tC (.int 0))) (LEs b.es) := ev_p2a ha
theorem ev_bm (ha : EvV (Same H0) σ ta (LBk b)) : EvV (Same H0) σ (tOp (rIxT K) ta (tC (.int 1))) (isIv b.m) := ev_p2b ha
theorem ev_e0 (ha : EvV (Same H0) σ ta (LEn e)) : EvV (Same H0) σ (tOp (rIxT K) ta (tC (.int 0))) (isIv e.mo) := fun H Q w k => ha H _ w fun v H1 s1 w1 ⟨p, ev, hp⟩ => ⟨p, _, 0, _, ev, rfl, SqT.of hp, rfl, k _ H1 s1 w1 rfl⟩
theorem ev_e1 (ha : EvV (Same H0) σ ta (LEn e)) : EvV (Same H0) σ (tOp (rIxT K) ta (tC (.int 1))) (isIv e.am) := fun H Q w k => ha H _ w fun v H1 s1 w1 ⟨p, ev, hp⟩ => ⟨p, _, 1, _, ev, rfl, SqT.of hp, rfl, k _ H1 s1 w1 rfl⟩
theorem ev_e2 (ha : EvV (Same H0) σ ta (LEn e)) : EvV (Same H0) σ (tOp (rIxT K) ta (tC (.int 2))) (isIv (oi e.ta)) := fun H Q w k => ha H _ w fun v H1 s1 w1 ⟨p, ev, hp⟩ => ⟨p, _, 2, _, ev, rfl, SqT.of hp, rfl, k _ H1 s1 w1 rfl⟩
theorem ev_e3 (ha : EvV (Same H0) σ ta (LEn e)) : EvV (Same H0) σ (tOp (rIxT K) ta (tC (.int 3))) (isIv (oi e.ol)) := fun H Q w k => ha H _ w fun v H1 s1 w1 ⟨p, ev, hp⟩ => ⟨p, _, 3, _, ev, rfl, SqT.of hp, rfl, k _ H1 s1 w1 rfl⟩
/-- an entry by its number -/
theorem ev_en (h : j < b.es.length) (ha : EvV (Same H0) σ ta (LBk b)) (hb : EvV (Same H0) σ tb (isIv (j : Int))) : EvV (Same H0) σ (tOp (rIxT K) (tOp (rIxT K) ta (tC (.int 0))) tb) (LEn b.es[j]) := ev_ixU (List.getElem?_eq_getElem h) (ev_es ha) hb
/-- 0 <= i < k -/
theorem ev_chain (ha : EvV (Same H0) σ ta (isIv 0)) (hb : EvV (Same H0) σ tb (isIv i)) (hc : EvV (Same H0) σ tc (isIv k)) : EvV (Same H0) σ (tChain (rI0 fun i j => .bl (decide (i ≤ j))) (rI0 fun i j => .bl (decide (i < j))) ta tb tc) (isBv (decide (0 ≤ i) && decide (i < k))) := fun H Q w kk =>
  ha H _ w fun x H1 s1 w1 e => hb H1 _ w1 fun y H2 s2 w2 e2 => by
    cases e
    cases e2
    refine ⟨0, i, rfl, rfl, _, rfl, ?_⟩
    by_cases h : (0 : Int) ≤ i
    · rw [decide_eq_true h] at kk ⊢
      exact iteT (hc H2 _ w2 fun z H3 s3 w3 e3 => by
        cases e3
        exact ⟨i, k, rfl, rfl, kk _ H3 ((s1.trans s2).trans s3) w3 rfl⟩)
    · rw [decide_eq_false h] at kk ⊢
      exact iteF (kk _ H2 (s1.trans s2) w2 rfl)
end
/-- a new list of whole numbers -/
def spNew {α : Type} (A : α → List V → Hp → Prop) (ok : α → Prop) (r : α → List Int) : Sp := fun vs H Q _ => ∃ a, A a vs H ∧ ok a ∧ ∀ D us H', H D = none → Same H H' → H' D = some (.lst us) → Ls (fun u i => isIv i u H') us (r a) → Q (.ref D) H'
def spLefts : Sp := fun vs H Q _ => ∃ (v : V) (b : Bk), vs = [v] ∧ LBk b v H ∧ Wf b ∧ b.es.length ≤ 900 ∧ ∀ D us H', H D = none → Same H H' → H' D = some (.lst us) → Ls (fun u i => isIv i u H') us (lefts b.es) → Q (.ref D) H'
def depthsB (es : List En) : List Int := (List.range es.length).map fun j => ((depth es j : Nat) : Int)
def spDepths : Sp := fun vs H Q _ => ∃ (v : V) (b : Bk), vs = [v] ∧ LBk b v H ∧ Wf b ∧ b.es.length ≤ 900 ∧ ∀ D us H', H D = none → Same H H' → H' D = some (.lst us) → Ls (fun u i => isIv i u H') us (depthsB b.es) → Q (.ref D) H'
def spKindL : Sp := fun vs H Q _ => ∃ (v d : V) (b : Bk) (j : Nat), vs = [v, d, .int (j : Int)] ∧ LBk b v H ∧ isIs (depthsB b.es) d H ∧ Wf b ∧ j < b.es.length ∧ ∀ H', Same H H' → Q (.str (kindAt b.es j)) H'
theorem depthsB_len {es : List En} : (depthsB es).length = es.length := by simp [depthsB]
theorem depthsB_at {es : List En} {j : Nat} (h : j < es.length) : (depthsB es)[j]? = some ((depth es j : Nat) : Int) := by simp [depthsB, h]
section
variable {K : PySem.W.Frag} {σ : L2.St} {ta tb te : TE} {H0 : Hp} {b : Bk} {j : Nat}
theorem evn_call1 {α : Type} {S : α → V → Hp → Prop} {as : List α} {R : V → Hp → Prop} {sp : Sp} (ha : EvV (Same H0) σ ta R) (h : ∀ v H Q, R v H → (∀ D us H', H D = none → Same H H' → H' D = some (.lst us) → Ls (fun u a => S a u H') us as → Q (.ref D) H') → sp [v] H Q E0) : EvNL H0 σ (tCall sp [] E0 (tCons ta tNil)) S as := fun H Q w k =>
  ha H _ w fun v H1 s1 w1 r => h v H1 Q r fun D us H' n s hD l => k D us H' (s1.free n) (s1.trans s) hD l
theorem evn_lefts (w : Wf b) (n : b.es.length ≤ 900) (ha : EvV (Same H0) σ ta (LBk b)) : EvNL H0 σ (tCall spLefts [] E0 (tCons ta tNil)) isIv (lefts b.es) := evn_call1 ha fun v H Q hv k => ⟨v, b, rfl, hv, w, n, k⟩
theorem evn_depths (w : Wf b) (n : b.es.length ≤ 900) (ha : EvV (Same H0) σ ta (LBk b)) : EvNL H0 σ (tCall spDepths [] E0 (tCons ta tNil)) isIv (depthsB b.es) := evn_call1 ha fun v H Q hv k => ⟨v, b, rfl, hv, w, n, k⟩
theorem ev_kindL (w : Wf b) (h : j < b.es.length) (ha : EvV (Same H0) σ ta (LBk b)) (hd : EvV (Same H0) σ tb (isIs (depthsB b.es))) (hj : EvV (Same H0) σ te (isIv (j : Int))) : EvV (Same H0) σ (tCall spKindL [] E0 (tCons ta (tCons tb (tCons te tNil)))) (isSv (kindAt b.es j)) :=
  ev_call (eva_cons ha (eva_cons hd (eva_cons hj eva_nil))) fun vs H Q _ r k => by
    obtain ⟨v, r, rfl, hv, d, r, rfl, hd, x, r, rfl, hx, rfl⟩ := r
    cases hx
    exact ⟨v, d, b, j, rfl, hv, hd, w, h, fun H' s => k _ H' s rfl⟩
end
theorem leftStep_some {es : List En} {ls : List Int} {j t : Nat} (e : taAt es j = some t) : leftStep es ls j = ls.set t (ls.getD t 0 - ls.getD j 0) := by
  unfold leftStep
  rw [e]
theorem leftStep_none {es : List En} {ls : List Int} {j : Nat} (e : taAt es j = none) : leftStep es ls j = ls := by
  unfold leftStep
  rw [e]
theorem taAt_get {es : List En} {j : Nat} (h : j < es.length) : taAt es j = es[j].ta := by
  unfold taAt
  rw [List.getElem?_eq_getElem h]
  rfl
theorem olAt_get {es : List En} {j : Nat} (h : j < es.length) : olAt es j = es[j].ol := by
  unfold olAt
  rw [List.getElem?_eq_getElem h]
  rfl
theorem getD_at {ls : List Int} {j : Nat} (h : j < ls.length) : ls[j]? = some (ls.getD j 0) := by
  rw [List.getD_eq_getElem?_getD, List.getElem?_eq_getElem h]
  rfl
section
variable {P : Program} {w : World} {K : PySem.W.Frag} {mg : Str → Option Value} {base : Heap}
structure BltV (mg : Str → Option Value) : Prop where
  len : mg "len" = none
  range : mg "range" = none
end
end V3

set_option Elab.async false
set_option linter.all false
set_option maxRecDepth 100000
namespace V3
open PySem PySem.Spec PyProof.Rows L2
/-! x[i] by an own subscript, within a try; House's own subscript -/
section
variable {X : Cx} {CX : CXT} {n : Nat} {f C : Addr} {fd : FuncData} {ps : List Str} {sp : Sp} {E : L2.St → XK}
/-- f called at a pair, somewhere below the running body; what it raises goes on -/
theorem run_ownA {A : Around} {pins : List (Addr × Obj)} {s : Shared} {σ : L2.St} {H : Hp} {x y : V} {u v : Value} {Q : VK} (sb : Sub X n A) (F : FnOk X.prog X.w X.K X.mg X.base CX n f fd ps sp) (bi : Binds X.K fd ps []) (out : PassesAt CX X σ (E σ))
    (J : L2.Inv X pins σ H s) (rx : L2.RelV x u) (ry : L2.RelV y v) (h : sp [x, y] H Q (E σ)) : wpAny (model X.prog X.w) A (call (.ref f) [u, v]) (EP X pins σ Q) X.xe s := by
  have e := J.env0
  have e0 : L2.Env0 X.prog X.w X.K X.mg X.base A X.stack s H := ⟨by rw [sb.fr] <;> exact e.frames, e.mod, e.bs, e.bsz, e.funs, e.frf, e.hok, e.bare⟩
  have len := F.len _ _ _ _ h
  have r2 : L2.Vals [x, y] [u, v] := .cons rx (.cons ry .nil)
  have b2 : BindsTo s fd ⟨[u, v], []⟩ (ps.zip [u, v]) := by
    have z := bi s [u, v] J.kIn (by simpa using len)
    simpa using z
  refine wpAny_call (codeAny_mono (F.run A X.stack s H ⟨[u, v], []⟩ [u, v] [x, y] _ (E σ) sb.room e0 b2 r2 h) fun r s' z => ?_)
  cases r with
  | error er => exact out pins H s er s' J z
  | ok fl =>
    cases fl with
    | ret w => exact J.after z
    | next => exact z.elim
    | brk => exact z.elim
    | cont => exact z.elim
/-- x[i] within a try: x of the class at C -/
def tIxA (C : Addr) (sp : Sp) (E : L2.St → XK) (ta tb : TE) : TE := fun σ H Q => ta σ H fun x H1 => tb σ H1 fun y H2 => ∃ (a dx : Addr) (fs : List (Str × V)), x = .ref a ∧ H2 a = some (.ins C dx fs) ∧ sp [x, y] H2 Q (E σ)
theorem pe_ixA {a b : Expr} {ta tb : TE} {pos : Pos} (F : FnOk X.prog X.w X.K X.mg X.base CX n f fd ps sp) (G : GetCls X.K C f) (bi : Binds X.K fd ps []) (out : ∀ σ, PassesAt CX X σ (E σ)) (room : Room (n + 1) X.A) (ha : PE X a ta) (hb : PE X b tb)
    (hsl : ∀ (o : Addr) (u : Value), subscripted b true (.ref o) u = runValue (.builtin "lifetime.subscript" ⟨[.ref o, u], []⟩) := by intro _ _; with_unfolding_all rfl) : PE X (.Subscript a b pos) (tIxA C sp E ta tb) := by
  refine ⟨fun pins s σ H Q J h => ?_⟩
  refine Subscript_ (binT (R := fun x y H2 => ∃ (a dx : Addr) (fs : List (Str × V)), x = .ref a ∧ H2 a = some (.ins C dx fs) ∧ sp [x, y] H2 Q (E σ)) ha hb J h fun v u s2 x y H2 I2 rx ry q => ?_)
  obtain ⟨o, dx, fs, rfl, ho, q⟩ := q
  cases rx
  obtain ⟨mA, O, _⟩ := ins_get I2.hok ho
  obtain ⟨od, O, _⟩ := O.look
  obtain ⟨m, fr⟩ := I2.fr
  refine PySem.W.sub_K fr I2.ok.mod.kin O G.at_ G.fi G.fn ?_ (hsl o _)
  exact run_ownA (x := .ref o) (y := y) (A := X.A.in1) ⟨room.in1, rfl⟩ F bi (out σ) I2 rfl ry q
end
end V3

set_option Elab.async false
set_option linter.all false
set_option maxRecDepth 100000
namespace V3
open PySem L2 TL
abbrev sHsGet : Stmt := inClass (top 19) 5
/-! House's own subscript -/
def spHsGet (K : PySem.W.Frag) (c : Rc) (C CN : Addr) : Sp := fun vs H Q E => ∃ (v : V) (h : Hs) (i : Int), vs = [v, .int i] ∧ HsAt K c C H v h ∧
  (∀ (m : Rw), 0 ≤ i → h.rs[i.toNat]? = some m → ∀ u, RwAt c H u m → Q u H) ∧ (hasRow h i = false → ErI CN H E i)
section
variable {P : Program} {w : World} {K : PySem.W.Frag} {mg : Str → Option Value} {base : Heap}
theorem scHsGet : FnScope ["self", "at"] ["self", "at"] (defScope sHsGet) := ⟨rfl, rfl, rfl, by decide +kernel, rfl, by decide +kernel, by decide +kernel⟩
theorem at_nat {us : List V} {i : Int} {u : V} (i0 : 0 ≤ i) (h : us[i.toNat]? = some u) : atI us i = some u := by
  have l := (List.getElem?_eq_some_iff.mp h).1
  show (ixN us.length i).bind (fun j => us[j]?) = _
  have e : ixN us.length i = some i.toNat := by
    unfold ixN
    rw [if_pos i0, if_pos (by show i < _; omega)]
  rw [e]
  exact h
theorem ok_hsGet {f C CN : Addr} {c : Rc} {fd : FuncData} (F : Fun K "__getitem__" "House.__getitem__" sHsGet f fd) (L : HsC K C) (N : NrTxt P w K mg base CN)
    (cR : Cal P w K mg base CX0 "has_row" 1 ["house", "at"] (spHasRow K c C)) : FnOk P w K mg base (L2.CX P w) 3 f fd ["self", "at"] (spHsGet K c C CN) := by
  obtain ⟨fR, fdR, GR, mR, kR, bR⟩ := cR
  obtain ⟨fI, fdI, GI, iI, tI, bI⟩ := N.ini
  refine F.okX scHsGet (fun vs H Q E h => ?_) (fun cdv A outer s H vs Q E hr h => ?_)
  · obtain ⟨v, h, i, rfl, _⟩ := h
    rfl
  · obtain ⟨v, h, i, rfl, hv, q1, q2⟩ := h
    obtain ⟨x, dx, q, us, rfl, hx, hq, rl⟩ := id hv
    refine ⟨_, pss_cons (ps_if (pt_not (pt_val (pe_call GR (hr.mono (by decide)) rfl mR kR bR .nil pass0 (pa_cons (pv 0) (pa_cons (pv 1) pa_nil))))) (pss_one (ps_raise rfl (takes_of rfl rfl rfl rfl) (pmk_oexI N.o iI tI GI hr bI pass0 rfl N.g (by exact (pa_cons (pv 1) pa_nil))))) pss_nil)
      (pss_one (ps_ret (pe_ix ix_tup (pe_fld (pv 0) rfl) (pv 1) (fun _ _ => rfl)))), ?_⟩
    refine ⟨_, rfl, _, rfl, .ref x, h, i, rfl, hv, _, rfl, ?_⟩
    cases e : hasRow h i with
    | false => exact iteT ⟨_, rfl, (by show 1 ≤ 1000; decide), er_readI (q2 e)⟩
    | true =>
      have z : 0 ≤ i ∧ i < (h.rs.length : Int) := by
        unfold hasRow at e
        exact ⟨of_decide_eq_true (Bool.and_eq_true_iff.mp e).1, of_decide_eq_true (Bool.and_eq_true_iff.mp e).2⟩
      have lx : us.length = h.rs.length := rl.1
      have lt : i.toNat < h.rs.length := by omega
      have em : h.rs[i.toNat]? = some h.rs[i.toNat] := List.getElem?_eq_getElem lt
      obtain ⟨u, eu, ru⟩ := rl.2 _ _ em
      refine iteF ⟨_, rfl, x, C, dx, _, _, rfl, hx, L.cl, L.rs, hs_rs .., _, rfl, q, us, i, u, rfl, rfl, hq.sq, at_nat z.1 eu, ?_⟩
      exact q1 _ z.1 em u ru
end
end V3

set_option Elab.async false
set_option linter.all false
set_option maxRecDepth 100000
namespace V3
open PySem L2 TL
/-! House of a tuple of rows, tracked or written -/
def TupW (K : PySem.W.Frag) (H : Hp) (q : Addr) (us : List V) : Prop := H q = some (.tup us) ∨ ((∃ o, K.lookup q = some o ∧ o.cls = .type "tuple") ∧ ∀ H', SqT K H' q us)
theorem TupW.k {K : PySem.W.Frag} {H : Hp} {q : Addr} {us : List V} (h : TupW K H q us) : TupK K H q us := h.elim .inl fun z => .inr z.2
theorem TupW.sq {K : PySem.W.Frag} {H : Hp} {q : Addr} {us : List V} (h : TupW K H q us) : SqT K H q us := h.k.sq
theorem TupW.ty {K : PySem.W.Frag} {H : Hp} {a : Addr} {us : List V} (h : TupW K H a us) : TyX K H (.ref a) (.type "tuple") := by
  rcases h with h | ⟨⟨o, e, c⟩, _⟩
  · exact .base (.tup h)
  · exact .kTuple e c
theorem TupW.same {K : PySem.W.Frag} {H H' : Hp} {q : Addr} {us : List V} (h : TupW K H q us) (s : Same H H') : TupW K H' q us := h.elim (fun z => .inl (s _ _ z)) .inr
def spIsRowsT (K : PySem.W.Frag) (c : Rc) : Sp := fun vs H Q _ => ∃ (a : Addr) (us : List V) (ms : List Rw), vs = [.ref a] ∧ TupW K H a us ∧ RwLs c H us ms ∧ (∀ m ∈ ms, m.kind = 0) ∧ ms.length ≤ 1000 ∧ ∀ H', Same H H' → Q (.bl true) H'
def spHsInitT (K : PySem.W.Frag) (c : Rc) (C : Addr) : Sp := fun vs H Q _ => ∃ (x dx l : Addr) (us : List V) (h : Hs), vs = [.ref x, .int h.d, .str h.ch, .ref l] ∧ H x = some (.ins C dx []) ∧ TupW K H l us ∧ RwLs c H us h.rs ∧ h.ok ∧
  ∀ H', SameX x H H' → HsAt K c C H' (.ref x) h → Q .non H'
theorem kit_tt {K : PySem.W.Frag} : PySem.W.kitAny K (.type "tuple") [.type "list", .type "tuple"] = some true := by
  refine kitAny_cons (b := false) (show PySem.W.kitOne K (.type "tuple") (.type "list") = some false from kit_ty (by decide +kernel)) (fun _ => ?_) (fun z => nomatch z)
  exact kitAny_cons (show PySem.W.kitOne K (.type "tuple") (.type "tuple") = some true from kit_ty (by decide +kernel)) (fun z => nomatch z) fun z => rfl
theorem mk_houseT {K : PySem.W.Frag} {c : Rc} {C x dx l : Addr} {H : Hp} {us : List V} {h : Hs} {R : VK} {E : XK} (hl : TupW K H l us) (rl : RwLs c H us h.rs) (ok : h.ok) (nx : H x = none) (ndx : H dx = none) (q : ∀ H', Same H H' → HsAt K c C H' (.ref x) h → R .non H') :
    spHsInitT K c C [.ref x, .int h.d, .str h.ch, .ref l] (upd (upd H dx (.own x)) x (.ins C dx [])) R E := by
  have s0 : Same H (upd (upd H dx (.own x)) x (.ins C dx [])) := made_same nx ndx
  exact ⟨x, dx, l, us, h, rfl, upd_same, hl.same s0, rl.same s0, ok, fun H' s' a => q H' (fun b o e => s' b o (ne_of_none e nx) (s0 b o e)) a⟩
section
variable {P : Program} {w : World} {K : PySem.W.Frag} {mg : Str → Option Value} {base : Heap}
theorem ok_isRowsT {f : Addr} {c : Rc} {fd : FuncData} (F : Fun K "is_rows" "is_rows" sIsRows f fd) (T : BltK mg) (C : LetI K c) (gL : mg "Let" = some (.ref c.L)) : FnOk P w K mg base CX0 1 f fd ["value"] (spIsRowsT K c) := by
  refine F.ok scIsRows (fun vs H Q E h => ?_) (fun cdv A outer s H vs Q E hr h => ?_)
  · obtain ⟨a, us, ms, rfl, _⟩ := h
    rfl
  · obtain ⟨a, us, ms, rfl, ha, rl, kd, n, k⟩ := h
    refine ⟨_, pss_one (ps_ret (pe_and (pe_callB call_isiT (by rfl) T.isi (by decide +kernel) (pa_cons (pv 0) (pa_cons (pe_tup (pa_cons (pe_bltn (v := .ty "list") (by rfl) T.list (by decide +kernel) rfl) (pa_cons (pe_bltn (v := .ty "tuple") (by rfl) T.tuple (by decide +kernel) rfl) pa_nil))) pa_nil)))
        (pe_one (pe_callB (cr_all rfl) (by rfl) T.all (by decide +kernel) (pa_cons (pe_lc (own := [("item", 1)]) (g := gName 1) (tt := tYes) (te := tCB (rIsi K) (tCons (tVar 1) (tCons (tC (.ref c.L)) tNil))) (by rfl) scIsRows.nd (pi_tup (pv 0)) (blkOk_by (own := [("item", 1)]) (N := ["value", "item"]) (sc := defScope sIsRows) (by decide +kernel)) (fun _ _ _ _ _ => pg_name (i := 1) scIsRows.nd rfl (Or.inl rfl)) (fun _ _ _ _ _ => pts_nil)
          (fun _ _ _ _ _ => pe_callB call_isi (by rfl) T.isi (by decide +kernel) (pa_cons (pv 1) (pa_cons (pe_glob (v := .ref c.L) rfl gL rfl) pa_nil)))) pa_nil))))), ?_⟩
    refine ⟨_, rfl, (by show 2 ≤ sizeLine; decide), fun tp ntp => ?_⟩
    have s1 : Same H (upd H tp (.tup [.ty "list", .ty "tuple"])) := Same.new ntp
    have ht : upd H tp (.tup [.ty "list", .ty "tuple"]) tp = some (.tup [.ty "list", .ty "tuple"]) := upd_same
    generalize upd H tp (.tup [.ty "list", .ty "tuple"]) = H1 at s1 ht ⊢
    have ha1 := ha.same s1
    have rl1 := rl.same s1
    have lx : us.length = ms.length := rl.1
    refine ⟨_, tp, _, _, _, _, rfl, ht, .cons (.ty "list") (.cons (.ty "tuple") .nil), ha1.ty, kit_tt, _, rfl, iteT ?_⟩
    refine ⟨_, rfl, a, rfl, ⟨us, ha1.sq⟩, fun D nD => ?_⟩
    refine lc_tup (K := K) (a := a) (xs := us) (fun i Hh => Same H1 Hh ∧ H1 D = none ∧ Hh D = some (.lst (List.replicate i (V.bl true)))) ⟨Same.new nD, nD, upd_same⟩ (fun i Hh _ p => (ha1.same p.1).sq) ?_ ?_
    · intro i z Hh hi p
      have il : i < us.length := (List.getElem?_eq_some_iff.mp hi).1
      obtain ⟨m, em, mz⟩ := Ls.get rl1 hi
      obtain ⟨y, dy, rfl, hy⟩ := mz.same p.1
      have km := kd m (List.mem_of_getElem? em)
      refine ⟨rfl, ?_⟩
      unfold tYes
      dsimp only
      have hy2 : Hh y = some (.ins c.L dy m.fs) := by
        rw [hy]
        show some (HO.ins (c.at m.kind) dy m.fs) = _
        rw [km]
        rfl
      refine iteT ⟨_, rfl, _, _, _, _, _, rfl, .own c.L, .base (.ins hy2 C.cl C.ca C.gn C.tk C.mr), C.ki, _, p.2.2, ?_, fun d o h => ?_, p.2.1, ?_⟩
      · rw [List.length_replicate]
        exact Nat.lt_of_lt_of_le (m := 1001) (by omega) (by decide)
      · rw [upd_ne (ne_of_none h p.2.1)]
        exact p.1 d o h
      · rw [upd_same, List.replicate_succ']
    · intro Hh p
      obtain ⟨s2, _, e⟩ := p
      refine ⟨D, List.replicate us.length true, rfl, SqL.of (by rw [e, repl_bl]), ?_⟩
      have z : (List.replicate us.length true).all id = true := by
        rw [List.all_eq_true]
        intro x hx
        rw [List.eq_of_mem_replicate hx]
        rfl
      rw [z]
      exact k _ (s1.trans s2)
theorem ok_hsInitT {f CA DA C : Addr} {c : Rc} {fd : FuncData} {dvs : List V} (F : FunD K "__init__" "House.__init__" (defArgs sHsInit) (defBody sHsInit) (defScope sHsInit) dvs [] f fd) (T : BltK mg) (X : HsT K mg CA DA) (L : HsC K C)
    (cN : Cal P w K mg base CX0 "is_number" 2 ["value"] spNumI) (cR : Cal P w K mg base CX0 "is_rows" 1 ["value"] (spIsRowsT K c)) : FnOk P w K mg base CX0 4 f fd ["self", "depth", "check", "rows"] (spHsInitT K c C) := by
  obtain ⟨fN, fdN, GN, mN, kN, bN⟩ := cN
  obtain ⟨fR, fdR, GR, mR, kR, bR⟩ := cR
  refine F.ok scHsInit (fun vs H Q E h => ?_) (fun cdv A outer s H vs Q E hr h => ?_)
  · obtain ⟨x, dx, l, us, h, rfl, _⟩ := h
    rfl
  · obtain ⟨x, dx, l, us, h, rfl, hx, hl, rl, ok, q⟩ := h
    obtain ⟨d0, d4, hc, hm, hn⟩ := ok
    refine ⟨_, pss_cons (ps_if (pt_not (PW.pt (pw_and (pt_val (pe_call GN (hr.mono (by decide)) rfl mN kN bN .nil pass0 (pa_cons (pv 1) pa_nil))) (pw_and1 (pt_cmpR op_lt (pv 1) (pe_callB call_len_seq (by rfl) T.len PySem.boot_len (pa_cons (pe_glob (v := .ref DA) rfl X.depths rfl) pa_nil)) (nomark _)))))) (pss_one ps_never) pss_nil)
      (pss_cons (ps_if (pt_cmpR op_notIn_seq (pv 2) (pe_glob (v := .ref CA) rfl X.checks rfl) rfl) (pss_one ps_never) pss_nil)
      (pss_cons (ps_if (pt_not (pt_val (pe_call GR (hr.mono (by decide)) rfl mR kR bR .nil pass0 (pa_cons (pv 3) pa_nil)))) (pss_one ps_never) pss_nil)
      (pss_cons (ps_fld (pv 0) (pv 1) rfl)
      (pss_cons (ps_fld (pv 0) (pv 2) rfl)
      (pss_one (ps_fld (pv 0) (pe_callTy call_tuple_of (by rfl) T.tuple (by decide +kernel) (pa_cons (pv 3) pa_nil)) rfl)))))), ?_⟩
    refine ⟨_, rfl, h.d, rfl, _, rfl, ?_⟩
    rw [decide_eq_true d0]
    refine iteT ⟨_, rfl, DA, _, rfl, .inr (X.tD _), _, _, rfl, rfl, _, rfl, ?_⟩
    rw [decide_eq_true (show h.d < ((depthL.map V.str).length : Int) by show h.d < 5; omega)]
    refine iteF ⟨_, rfl, CA, _, rfl, .inr (X.tC _), rfl, flat_strs _, _, rfl, ?_⟩
    rw [inV_str, decide_eq_true hc]
    refine iteF ⟨_, rfl, l, us, h.rs, rfl, hl, rl, fun m z => (hm m z).2, by omega, fun H1 s1 => ⟨_, rfl, iteF ?_⟩⟩
    have hx1 := s1 _ _ hx
    have hl1 := hl.same s1
    refine ⟨_, rfl, _, rfl, x, C, dx, _, rfl, hx1, L.cl, L.d, (by show 0 < 1000; decide), ?_⟩
    refine ⟨_, rfl, _, rfl, x, C, dx, _, rfl, upd_same, L.cl, L.ch, (by show 1 < 1000; decide), ?_⟩
    rw [upd_upd]
    have tx : ∀ o : HO, TupW K (upd H1 x o) l us := fun o => by
      rcases hl1 with z | z
      · exact .inl (by rw [upd_ne (fun e => by rw [e, hx1] at z; cases z)]; exact z)
      · exact .inr z
    refine ⟨_, rfl, l, us, rfl, .inr ⟨(tx _).sq, ?_⟩⟩
    refine ⟨_, rfl, x, C, dx, _, rfl, upd_same, L.cl, L.rs, (lt_put (n := 999) (lt_put (n := 998) (by show 0 < 998; decide))), ?_⟩
    rw [hs_put, upd_upd]
    have sx : ∀ b o, b ≠ x → H b = some o → upd H1 x (.ins C dx (hsF (.int h.d) (.str h.ch) (.ref l))) b = some o := fun b o nb e => by
      rw [upd_ne nb]
      exact s1 _ _ e
    refine q _ sx ⟨x, dx, l, us, rfl, upd_same, (tx _).k, ?_⟩
    refine Ls.imp rl fun v m a => ?_
    obtain ⟨y, dy, rfl, hy⟩ := a
    have nyx : y ≠ x := fun z => by
      rw [z, hx] at hy
      have e := Option.some.inj hy
      cases m <;> cases e
    exact ⟨y, dy, rfl, sx y _ nyx hy⟩
end
end V3

set_option Elab.async false
set_option linter.all false
set_option maxRecDepth 100000
namespace V3
open PySem PySem.Spec PyProof.Rows L2
structure BehindL (K : PySem.W.Frag) (C : Addr) : Prop where
  b : Behind K C
  l : PySem.W.subIn K (.ref C) (.type "list") = some false
inductive PlainL (H : Hp) : V → Prop where
  | str (z : Str) : PlainL H (.str z)
  | non : PlainL H .non
  | tup {b : Addr} {ys : List V} (h : H b = some (.tup ys)) : PlainL H (.ref b)
  | lst {b : Addr} {ys : List V} (h : H b = some (.lst ys)) : PlainL H (.ref b)
section
open PySem PySem.SeqAt
variable {prog : Program} {w : World} {A : Around} {E : Value → Shared → Prop} {s : Shared} {x : Addr} {o : Obj}
theorem lst_declines {K : PySem.W.Frag} {C p : Addr} {od : Option Obj} {items : Array Value} {n : Nat} {Q : Shared → Prop} (X : K.In s.heap) (I : PySem.W.InstAt s.heap x o C od) (hs : PySem.W.subIn K (.ref C) (.type "list") = some false) {d1 : Option Addr} {sl1 : Array (Option Value)} (hp : s.heap.get? p = some { cls := .type "list", dict := d1, data := .seq items n, slots := sl1 }) (hq : Q s) :
    wpAny (model prog w) A (call (.builtin "list.__eq__") [.ref p, .ref x]) (fun v s' => v = .notImplemented ∧ Q s') E s := by
  refine GQ.call_here F.slot_list_eq ⟨_, hp, rfl⟩ F.entry_list_eq (F.args_list_eq_2 _ _) ?_
  obtain ⟨hh, g, d, tk, os⟩ := s
  wp_walk
  refine wpAny_loadPart I.at_ (wpAny_pure ?_)
  rw [I.cls]
  refine (PySem.W.looks_subIn X hs).here ?_
  wp_walk
  exact ⟨rfl, hq⟩
end
section
variable {X : Cx} {n : Nat}
/-- x in (..), x of an own class, no item equal to it -/
def rInL (K : PySem.W.Frag) (FF : Addr → Sp → XK → Prop) : R2 := fun x y H Q => ∃ (a p C dx : Addr) (fs : List (Str × V)) (xs : List V) (sp : Sp) (E : XK), x = .ref a ∧ y = .ref p ∧ H a = some (.ins C dx fs) ∧ H p = some (.tup xs) ∧
  (∀ z ∈ xs, PlainL H z) ∧ BehindL K C ∧ FF C sp E ∧ (∀ z ∈ xs, sp [.ref a, z] H (fun v H' => v = .bl false ∧ H' = H) E) ∧ Q (.bl false) H
theorem op_inL {FF : Addr → Sp → XK → Prop} (hF : ∀ C sp E, FF C sp E → ∃ (CX : CXT) (f : Addr) (fd : FuncData) (ps : List Str), FnOk X.prog X.w X.K X.mg X.base CX n f fd ps sp ∧ EqCls X.K C f ∧ Binds X.K fd ps [] ∧ Passes CX X E) (hr : Room (n + 1) X.A) :
    OpR X (compareOp .In) (rInL X.K FF) := by
  intro pins s σ H x y v u Q I rx ry hq
  obtain ⟨a, p, C, dx, fs, xs, sp, E, rfl, rfl, ha, hp, pl, bh, ff, hsp, q⟩ := hq
  obtain ⟨CX, f, fd, ps, F, ec, bi, hx⟩ := hF C sp E ff
  cases rx
  cases ry
  obtain ⟨its, rv, ht, hz⟩ := I.tuple (SqT.of hp)
  obtain ⟨⟨c0, dd, da, sl⟩, ho, hc, m, hd⟩ := id ht
  simp only at hc hd
  subst hc hd
  show wpAny (model X.prog X.w) X.A (do return .bool (← contains (.ref p) (.ref a))) (EP X pins σ Q) X.xe s
  refine wpAny_bind (wpAny_contains_slot ⟨_, ho, rfl⟩ PySem.F.slot_tuple_contains (wpAny_mono (GQ.call_here (Q := fun v s' => v = .bool false ∧ Inv X pins σ H s') PySem.F.slot_tuple_contains ⟨_, ho, rfl⟩ PySem.F.entry_tuple_contains (PySem.F.args_tuple_contains_2 _ _)
    (tuple_none p its.toArray m dd sl (.ref a) (fun _ s' => Inv X pins σ H s') ?_ (fun s' J => ⟨rfl, J⟩) ho I)) (fun v s' hv => ?_) fun _ _ e => e))
  · intro i hi s' J
    have hi2 : i < its.length := by simpa using hi
    have hi3 : i < xs.length := by rw [rv.length]; exact hi2
    obtain ⟨u, hu, ru⟩ := rv.get (List.getElem?_eq_getElem hi3)
    have eu : its.toArray[i] = u := by
      rw [List.getElem?_eq_getElem hi2] at hu
      simpa using Option.some.inj hu
    rw [eu]
    have mem : xs[i] ∈ xs := List.getElem_mem hi3
    have pz := pl _ mem
    have own := hsp _ mem
    generalize xs[i] = z at ru pz own
    obtain ⟨mA, O, _⟩ := ins_get J.hok ha
    obtain ⟨od, IA, _⟩ := O.look
    obtain ⟨mm, hFr⟩ := J.fr
    have run : wpAny (model X.prog X.w) X.A.in1 (call (.ref f) [.ref a, u]) (fun v s2 => ∃ r, v = .bool r ∧ r = false ∧ Inv X pins σ H s2) X.xe s' :=
      wpAny_mono (run_own (x := .ref a) (y := z) ⟨hr.in1, rfl⟩ F bi hx J rfl ru own) (fun w s2 k => by
        obtain ⟨z2, H', J2, rz, ez, eH⟩ := k
        subst ez
        subst eH
        cases rz
        exact ⟨false, rfl, rfl, J2⟩) fun _ _ e => e
    have hu1 : X.A.in1.units < cLine := hr.in1.units0
    cases pz with
    | str zz =>
      obtain ⟨t, rfl⟩ := ru
      refine eqB_str (turned_K (T := "str") hu1 hFr J.ok.mod.kin IA (typeIs_str _ _ _) PySem.F.slot_str_eq rfl bh.b.s (fun k => str_declines IA.at_ rfl k) ec.eq ec.fn (wpAny_mono run (fun v s2 k => ?_) fun _ _ e => e))
      obtain ⟨r, rfl, e, J2⟩ := k
      exact ⟨r, rfl, r, rfl, e, J2⟩
    | non =>
      cases ru
      refine eqB_non (turned_K (T := "NoneType") hu1 hFr J.ok.mod.kin IA (typeIs_none _) PySem.F.slot_NoneType_eq rfl bh.b.n (fun k => none_declines k) ec.eq ec.fn (wpAny_mono run (fun v s2 k => ?_) fun _ _ e => e))
      obtain ⟨r, rfl, e, J2⟩ := k
      exact ⟨r, rfl, r, rfl, e, J2⟩
    | @tup b ys hb =>
      cases ru
      obtain ⟨its2, r2, ht2, hz2⟩ := J.tuple (SqT.of hb)
      have ne : b ≠ a := by
        intro e
        subst e
        rw [ha] at hb
        cases hb
      obtain ⟨o2, ho2, hc2, _⟩ := id ht2
      refine GQ.eqBool_refG ne (turned_K (T := "tuple") hu1 hFr J.ok.mod.kin IA ⟨o2, ho2, hc2⟩ PySem.F.slot_tuple_eq (by first | rfl | simp [oneThing_ref]) bh.b.t (fun k => tup_declines J.kIn IA bh.b.t ht2 k) ec.eq ec.fn (wpAny_mono run (fun v s2 k => ?_) fun _ _ e => e))
      obtain ⟨r, rfl, e, J2⟩ := k
      exact ⟨r, rfl, r, rfl, e, J2⟩
    | @lst b ys hb =>
      cases ru
      obtain ⟨its2, r2, ht2, hz2⟩ := J.list (SqL.of hb)
      have ne : b ≠ a := by
        intro e
        subst e
        rw [ha] at hb
        cases hb
      obtain ⟨⟨c1, d1, da, sl1⟩, n2, g2, hc2, hdc, hd2⟩ := id ht2
      simp only at hc2 hd2
      subst hc2 hd2
      refine GQ.eqBool_refG ne (turned_K (T := "list") hu1 hFr J.ok.mod.kin IA ⟨_, g2, rfl⟩ PySem.F.slot_list_eq (by first | rfl | simp [oneThing_ref]) bh.l (fun k => lst_declines J.kIn IA bh.l g2 k) ec.eq ec.fn (wpAny_mono run (fun v s2 k => ?_) fun _ _ e => e))
      obtain ⟨r, rfl, e, J2⟩ := k
      exact ⟨r, rfl, r, rfl, e, J2⟩
  · obtain ⟨rfl, J⟩ := hv
    exact wpAny_truthy_bool (wpAny_pure ⟨.bl false, H, J, rfl, q⟩)
end
end V3

set_option Elab.async false
set_option linter.all false
set_option maxRecDepth 100000
namespace V3
open PySem L2 TL
/-! houses made of a list: their rows tracked, object by object -/
def HsX (K : PySem.W.Frag) (c : Rc) (C : Addr) (us : List V) (h : Hs) : V → Hp → Prop := fun v H => ∃ x dx q, v = .ref x ∧ H x = some (.ins C dx (hsF (.int h.d) (.str h.ch) (.ref q))) ∧ H q = some (.tup us) ∧ RwLs c H us h.rs
theorem HsX.at {K : PySem.W.Frag} {c : Rc} {C : Addr} {us : List V} {h : Hs} {v : V} {H : Hp} (a : HsX K c C us h v H) : HsAt K c C H v h := by
  obtain ⟨x, dx, q, e, hx, hq, rl⟩ := a
  exact ⟨x, dx, q, us, e, hx, .inl hq, rl⟩
def HsA (K : PySem.W.Frag) (c : Rc) (C : Addr) (h : Hs) : V → Hp → Prop := fun v H => HsAt K c C H v h
def HtA (h : Hs) : V → Hp → Prop := fun v H => HtAt H v h
def RwA (c : Rc) (m : Rw) : V → Hp → Prop := fun v H => RwAt c H v m
instance {K : PySem.W.Frag} {c : Rc} {C : Addr} {us : List V} {h : Hs} : StL (HsX K c C us h) := ⟨fun _ _ _ s ⟨x, dx, q, e, hx, hq, rl⟩ => ⟨x, dx, q, e, s _ _ (fun _ z => by cases z) hx, s _ _ (fun _ z => by cases z) hq, rl.keep s⟩⟩
instance {K : PySem.W.Frag} {c : Rc} {C : Addr} {h : Hs} : StL (HsA K c C h) := ⟨fun _ _ _ s a => HsAt.keep a s⟩
instance {h : Hs} : StL (HtA h) := ⟨fun _ _ _ s a => HtAt.keep a s⟩
instance {c : Rc} {m : Rw} : StL (RwA c m) := ⟨fun _ _ _ s a => RwAt.keep a s⟩
def spHsInitX (K : PySem.W.Frag) (c : Rc) (C : Addr) : Sp := fun vs H Q _ => ∃ (x dx l : Addr) (us : List V) (h : Hs), vs = [.ref x, .int h.d, .str h.ch, .ref l] ∧ H x = some (.ins C dx []) ∧ H l = some (.lst us) ∧ RwLs c H us h.rs ∧ h.ok ∧
  ∀ H', SameX x H H' → HsX K c C us h (.ref x) H' → Q .non H'
def spHsGetX (K : PySem.W.Frag) (c : Rc) (C CN : Addr) : Sp := fun vs H Q E => ∃ (v : V) (us : List V) (h : Hs) (i : Int), vs = [v, .int i] ∧ HsX K c C us h v H ∧
  (∀ (u : V), 0 ≤ i → us[i.toNat]? = some u → Q u H) ∧ (hasRow h i = false → ErI CN H E i)
/-- == with what is none -/
def spHsNe : Sp := fun vs H Q _ => ∃ (u z : V), vs = [u, z] ∧ PlainL H z ∧ Q (.bl false) H
structure HsNot (K : PySem.W.Frag) (C : Addr) : Prop where
  s : PySem.W.kitOne K (.type "str") (.ref C) = some false
  n : PySem.W.kitOne K (.type "NoneType") (.ref C) = some false
  t : PySem.W.kitOne K (.type "tuple") (.ref C) = some false
  l : PySem.W.kitOne K (.type "list") (.ref C) = some false
section
variable {P : Program} {w : World} {K : PySem.W.Frag} {mg : Str → Option Value} {base : Heap}
theorem ok_hsInitX {f CA DA C : Addr} {c : Rc} {fd : FuncData} {dvs : List V} (F : FunD K "__init__" "House.__init__" (defArgs sHsInit) (defBody sHsInit) (defScope sHsInit) dvs [] f fd) (T : BltK mg) (X : HsT K mg CA DA) (L : HsC K C)
    (cN : Cal P w K mg base CX0 "is_number" 2 ["value"] spNumI) (cR : Cal P w K mg base CX0 "is_rows" 1 ["value"] (spIsRows c)) : FnOk P w K mg base CX0 4 f fd ["self", "depth", "check", "rows"] (spHsInitX K c C) := by
  obtain ⟨fN, fdN, GN, mN, kN, bN⟩ := cN
  obtain ⟨fR, fdR, GR, mR, kR, bR⟩ := cR
  refine F.ok scHsInit (fun vs H Q E h => ?_) (fun cdv A outer s H vs Q E hr h => ?_)
  · obtain ⟨x, dx, l, us, h, rfl, _⟩ := h
    rfl
  · obtain ⟨x, dx, l, us, h, rfl, hx, hl, rl, ok, q⟩ := h
    obtain ⟨d0, d4, hc, hm, hn⟩ := ok
    refine ⟨_, pss_cons (ps_if (pt_not (PW.pt (pw_and (pt_val (pe_call GN (hr.mono (by decide)) rfl mN kN bN .nil pass0 (pa_cons (pv 1) pa_nil))) (pw_and1 (pt_cmpR op_lt (pv 1) (pe_callB call_len_seq (by rfl) T.len PySem.boot_len (pa_cons (pe_glob (v := .ref DA) rfl X.depths rfl) pa_nil)) (nomark _)))))) (pss_one ps_never) pss_nil)
      (pss_cons (ps_if (pt_cmpR op_notIn_seq (pv 2) (pe_glob (v := .ref CA) rfl X.checks rfl) rfl) (pss_one ps_never) pss_nil)
      (pss_cons (ps_if (pt_not (pt_val (pe_call GR (hr.mono (by decide)) rfl mR kR bR .nil pass0 (pa_cons (pv 3) pa_nil)))) (pss_one ps_never) pss_nil)
      (pss_cons (ps_fld (pv 0) (pv 1) rfl)
      (pss_cons (ps_fld (pv 0) (pv 2) rfl)
      (pss_one (ps_fld (pv 0) (pe_callTy call_tuple_of (by rfl) T.tuple (by decide +kernel) (pa_cons (pv 3) pa_nil)) rfl)))))), ?_⟩
    refine ⟨_, rfl, h.d, rfl, _, rfl, ?_⟩
    rw [decide_eq_true d0]
    refine iteT ⟨_, rfl, DA, _, rfl, .inr (X.tD _), _, _, rfl, rfl, _, rfl, ?_⟩
    rw [decide_eq_true (show h.d < ((depthL.map V.str).length : Int) by show h.d < 5; omega)]
    refine iteF ⟨_, rfl, CA, _, rfl, .inr (X.tC _), rfl, flat_strs _, _, rfl, ?_⟩
    rw [inV_str, decide_eq_true hc]
    refine iteF ⟨_, rfl, l, us, h.rs, rfl, hl, rl, fun m z => (hm m z).2, by omega, fun H1 s1 => ⟨_, rfl, iteF ?_⟩⟩
    have hx1 := s1 _ _ hx
    have hl1 := s1 _ _ hl
    have nlx : l ≠ x := fun z => by rw [z, hx] at hl; cases hl
    refine ⟨_, rfl, _, rfl, x, C, dx, _, rfl, hx1, L.cl, L.d, (by show 0 < 1000; decide), ?_⟩
    refine ⟨_, rfl, _, rfl, x, C, dx, _, rfl, upd_same, L.cl, L.ch, (by show 1 < 1000; decide), ?_⟩
    rw [upd_upd]
    refine ⟨_, rfl, l, us, rfl, .inl ⟨SqL.of (by rw [upd_ne nlx]; exact hl1), fun t nt => ?_⟩⟩
    have ntx : x ≠ t := ne_of_none upd_same nt
    refine ⟨_, rfl, x, C, dx, _, rfl, (by rw [upd_ne ntx]; exact upd_same), L.cl, L.rs, (lt_put (n := 999) (lt_put (n := 998) (by show 0 < 998; decide))), ?_⟩
    rw [hs_put]
    have nt1 : H1 t = none := by
      rw [upd_ne (Ne.symm ntx)] at nt
      exact nt
    have sx : ∀ b o, b ≠ x → H b = some o → (upd (upd (upd H1 x (HO.ins C dx (putF "check" (V.str h.ch) (putF "depth" (V.int h.d) [])))) t (.tup us)) x (.ins C dx (hsF (.int h.d) (.str h.ch) (.ref t)))) b = some o := fun b o nb e => by
      rw [upd_ne nb, upd_ne (ne_of_none (s1 _ _ e) nt1), upd_ne nb]
      exact s1 _ _ e
    refine q _ (fun b o nb e => sx b o nb e) ⟨x, dx, t, rfl, upd_same, (by rw [upd_ne (Ne.symm ntx)]; exact upd_same), ?_⟩
    refine Ls.imp rl fun v m a => ?_
    obtain ⟨y, dy, rfl, hy⟩ := a
    have nyx : y ≠ x := fun z => by
      rw [z, hx] at hy
      have e := Option.some.inj hy
      cases m <;> cases e
    exact ⟨y, dy, rfl, sx y _ nyx hy⟩
theorem ok_hsGetX {f C CN : Addr} {c : Rc} {fd : FuncData} (F : Fun K "__getitem__" "House.__getitem__" sHsGet f fd) (L : HsC K C) (N : NrTxt P w K mg base CN)
    (cR : Cal P w K mg base CX0 "has_row" 1 ["house", "at"] (spHasRow K c C)) : FnOk P w K mg base (L2.CX P w) 3 f fd ["self", "at"] (spHsGetX K c C CN) := by
  obtain ⟨fR, fdR, GR, mR, kR, bR⟩ := cR
  obtain ⟨fI, fdI, GI, iI, tI, bI⟩ := N.ini
  refine F.okX scHsGet (fun vs H Q E h => ?_) (fun cdv A outer s H vs Q E hr h => ?_)
  · obtain ⟨v, us, h, i, rfl, _⟩ := h
    rfl
  · obtain ⟨v, us, h, i, rfl, hv, q1, q2⟩ := h
    obtain ⟨x, dx, q, rfl, hx, hq, rl⟩ := id hv
    refine ⟨_, pss_cons (ps_if (pt_not (pt_val (pe_call GR (hr.mono (by decide)) rfl mR kR bR .nil pass0 (pa_cons (pv 0) (pa_cons (pv 1) pa_nil))))) (pss_one (ps_raise rfl (takes_of rfl rfl rfl rfl) (pmk_oexI N.o iI tI GI hr bI pass0 rfl N.g (by exact (pa_cons (pv 1) pa_nil))))) pss_nil)
      (pss_one (ps_ret (pe_ix ix_tup (pe_fld (pv 0) rfl) (pv 1) (fun _ _ => rfl)))), ?_⟩
    refine ⟨_, rfl, _, rfl, .ref x, h, i, rfl, hv.at, _, rfl, ?_⟩
    cases e : hasRow h i with
    | false => exact iteT ⟨_, rfl, (by show 1 ≤ 1000; decide), er_readI (q2 e)⟩
    | true =>
      have z : 0 ≤ i ∧ i < (h.rs.length : Int) := by
        unfold hasRow at e
        exact ⟨of_decide_eq_true (Bool.and_eq_true_iff.mp e).1, of_decide_eq_true (Bool.and_eq_true_iff.mp e).2⟩
      have lx : us.length = h.rs.length := rl.1
      have lt : i.toNat < h.rs.length := by omega
      have em : h.rs[i.toNat]? = some h.rs[i.toNat] := List.getElem?_eq_getElem lt
      obtain ⟨u, eu, ru⟩ := rl.2 _ _ em
      refine iteF ⟨_, rfl, x, C, dx, _, _, rfl, hx, L.cl, L.rs, hs_rs .., _, rfl, q, us, i, u, rfl, rfl, SqT.of hq, at_nat z.1 eu, ?_⟩
      exact q1 u z.1 eu
end
/-! texts -/
theorem strOk_tl {x : Str} (h : ∀ c ∈ tl x, c < 1114112) : PyData.strOk x = true := by
  unfold PyData.strOk
  rw [Array.all_eq_true_iff_forall_mem]
  intro c hc
  exact decide_eq_true (h c (by simpa [tl] using hc))
theorem strOk_lt {x : Str} (h : PyData.strOk x = true) : ∀ c ∈ tl x, c < 1114112 := by
  unfold PyData.strOk at h
  rw [Array.all_eq_true_iff_forall_mem] at h
  intro c hc
  exact of_decide_eq_true (h c (by simpa [tl] using hc))
theorem strOk_app {x y : Str} (h : PyData.strOk x = true) (k : PyData.strOk y = true) : PyData.strOk (x ++ y) = true := strOk_tl fun c hc => by
  rw [tl_append] at hc
  exact (List.mem_append.mp hc).elim (strOk_lt h c) (strOk_lt k c)
theorem words_ok : ∀ p ∈ kindL ++ stateL ++ deedL ++ placeL ++ whoseL ++ [num (-1), num 0, num 1], PyData.strOk p = true := by decide +kernel
theorem rw_strOk {m : Rw} (h : m.ok) (kk : m.kind = 0) : PyData.strOk m.text = true := by
  cases m with
  | ct _ _ _ => cases kk
  | lt k s d p =>
    obtain ⟨a, b, c, e, _⟩ := h
    rw [← let_text]
    have w := words_ok
    have sp : PyData.strOk " " = true := by decide +kernel
    have em : PyData.strOk Str.empty = true := by decide +kernel
    exact strOk_app (strOk_app (strOk_app (strOk_app (strOk_app (strOk_app (strOk_app em (w k (by simp [a]))) sp) (w s (by simp [b]))) sp) (w d (by simp [c]))) sp) (w p (by simp [e]))
theorem joinL_snoc (s : List Nat) (z : List Nat) : ∀ (a : List Nat) (r : List (List Nat)), joinL s ((a :: r) ++ [z]) = joinL s (a :: r) ++ (s ++ z)
  | a, [] => by simp [joinL]
  | a, b :: r => by
    have ih := joinL_snoc s z b r
    simp only [List.cons_append, joinL] at ih ⊢
    rw [ih]
    simp
/-- a row more -/
theorem text_more (h : Hs) (m : Rw) : (Hs.mk h.d h.ch (h.rs ++ [m])).text = h.text ++ (nlS ++ m.text) := ext_tl (by
  unfold Hs.text
  rw [tl_append, tl_append, tl_join, tl_join]
  have e : (Hs.mk h.d h.ch (h.rs ++ [m])).lines = h.lines ++ [m.text] := by simp [Hs.lines]
  rw [e, List.map_append]
  exact joinL_snoc _ _ _ _)
theorem text_head (h : Hs) : ∃ r, tl h.text = tl ("depth " : Str) ++ (tl (num h.d) ++ (10 :: r)) := by
  unfold Hs.text
  rw [tl_join]
  have e : tl nlS = [10] := by decide +kernel
  have e0 : tl Str.empty = [] := rfl
  rw [e]
  simp only [Hs.lines, List.map_cons, joinL]
  refine ⟨joinL [10] (tl (Str.empty ++ Str.ofString "check " ++ h.ch) :: List.map tl (List.map Rw.text h.rs)), ?_⟩
  simp only [tl_append, e0]
  simp
theorem text_depth {h g : Hs} (ho : h.ok) (go : g.ok) (e : h.text = g.text) : h.d = g.d := by
  obtain ⟨r, eh⟩ := text_head h
  obtain ⟨r', eg⟩ := text_head g
  rw [e, eg] at eh
  have z := List.append_cancel_left eh
  have l1 : (tl (num h.d)).length = 1 := by
    exact (show (tl (num h.d)).length = (num h.d).length from by simp [tl, Str.length]).trans (num_dep ho.1 ho.2.1)
  have l2 : (tl (num g.d)).length = 1 := by
    exact (show (tl (num g.d)).length = (num g.d).length from by simp [tl, Str.length]).trans (num_dep go.1 go.2.1)
  have z2 := (List.append_inj z (by rw [l1, l2])).1
  have z3 : num g.d = num h.d := ext_tl z2
  have q : ∀ a ∈ [(0 : Int), 1, 2, 3, 4], ∀ b ∈ [(0 : Int), 1, 2, 3, 4], num a = num b → a = b := by decide +kernel
  have m : ∀ d : Int, 0 ≤ d → d ≤ 4 → d ∈ [(0 : Int), 1, 2, 3, 4] := fun d a b => by
    have : d = 0 ∨ d = 1 ∨ d = 2 ∨ d = 3 ∨ d = 4 := by omega
    simpa using this
  exact (q _ (m _ go.1 go.2.1) _ (m _ ho.1 ho.2.1) z3).symm
theorem text_long (h : Hs) : h.text ≠ "depth" := fun e => by
  obtain ⟨r, eh⟩ := text_head h
  rw [e] at eh
  have z := congrArg List.length eh
  have e1 : (tl ("depth" : Str)).length = 5 := by decide +kernel
  have e2 : (tl ("depth " : Str)).length = 6 := by decide +kernel
  rw [e1, List.length_append, e2] at z
  omega
end V3

set_option Elab.async false
set_option linter.all false
set_option maxRecDepth 100000
/-! != of lists whose items are equal by an == of their own -/
namespace V3
open PySem PySem.SeqAt
open AutoSeq1 (wpAny_loadPart')
open MeetsSeq MeetsSeq2 MeetsSeq3 SeqRoads2
section
variable {prog : Program} {w : World} {A : Around} {R : Result → Shared → Prop}
theorem ne_loopL (l b : Addr) (N : Nat) (I : Nat → Shared → Prop) (hl : GQ.ListI prog w A (fun e s' => R (.error e) s') l b N I) (fin : ∀ s, I N s → R (.ok (.ret (.bool false))) s) (k : Nat) :
    ∀ i : Nat, N - i = k → i ≤ N → ∀ s, I i s → wpAny (model prog w) A.in1 (Builtin.«list.__eq__.loop» ⟨[.ref l, .ref b, rawInt i, rawInt 3], []⟩) (GQ.FinOf prog w A R) (fun e s' => R (.error e) s') s := by
  induction k with
  | zero =>
    intro i hk hi s h
    obtain ⟨xs, ys, n, n2, gl, gb, z1, z2, _⟩ := hl _ _ h
    have ei : i = N := by omega
    have done : R (.ok (.ret (.bool false))) s := fin s (ei ▸ h)
    obtain ⟨hp, g, d, tk, os⟩ := s
    wp_walk using wpAny_loadPart' gl, wpAny_loadPart' gb
    have g1 : xs[((i : Nat) : Int).toNat]? = none := by
      simp
      omega
    have g2 : ys[((i : Nat) : Int).toNat]? = none := by
      simp
      omega
    rw [g1, g2]
    wp_walk using wpAny_loadPart' gl, wpAny_loadPart' gb
    show R (.ok (.ret (.bool (xs.size != ys.size)))) _
    rw [z1, z2]
    simpa using done
  | succ k ih =>
    intro i hk hi s h
    obtain ⟨xs, ys, n, n2, gl, gb, z1, z2, turn⟩ := hl _ _ h
    have l1 : i < xs.size := by omega
    have l2 : i < ys.size := by omega
    have one := turn l1 l2
    obtain ⟨hp, g, d, tk, os⟩ := s
    wp_walk using wpAny_loadPart' gl, wpAny_loadPart' gb
    have g1 : xs[((i : Nat) : Int).toNat]? = some xs[i] := by simp [l1]
    have g2 : ys[((i : Nat) : Int).toNat]? = some ys[i] := by simp [l2]
    have e1 : ((i : Int) + 1) = ((i + 1 : Nat) : Int) := by omega
    rw [g1, g2]
    refine wpAny_bind (wpAny_mono one (fun r s2 q => ?_) fun _ _ x => x)
    obtain ⟨er, q⟩ := q
    subst er
    have rec1 := ih (i + 1) (by omega) (by omega) s2 q
    obtain ⟨hp2, g2', d2, tk2, os2⟩ := s2
    wp_walk
    rw [e1]
    exact ⟨plainId_quiet plain_eq_loop _, codeAny_builtin entry_eq_loop (by
      rw [Around.under_plainId plain_eq_loop _]
      exact rec1)⟩
theorem list_neL (l b : Addr) (N : Nat) (I : Nat → Shared → Prop) (hl : GQ.ListI prog w A (fun e s' => R (.error e) s') l b N I) (fin : ∀ s, I N s → R (.ok (.ret (.bool false))) s) {s : Shared} (h : I 0 s) :
    wpAny (model prog w) A.in1 (Builtin.«list.__ne__» ⟨[.ref l, .ref b], []⟩) (GQ.FinOf prog w A R) (fun e s' => R (.error e) s') s := by
  obtain ⟨xs, ys, n, n2, gl, gb, z1, z2, _⟩ := hl _ _ h
  have rec0 := ne_loopL (A := A) (R := R) l b N I hl fin _ 0 rfl (Nat.zero_le _) s h
  obtain ⟨hp, g, d, tk, os⟩ := s
  have sb := AutoSeq1.sub_list_list
  have nz : ¬ (xs.size != ys.size) = true := by simp [z1, z2]
  wp_walk using wpAny_loadPart' gl, wpAny_loadPart' gb
  exact ⟨plainId_quiet plain_eq_loop _, codeAny_builtin entry_eq_loop (by
    rw [Around.under_plainId plain_eq_loop _]
    exact rec0)⟩
end
section
variable {prog : Program} {w : World} {A : Around} {E : Value → Shared → Prop} {s : Shared}
theorem rc_listNe {l b : Addr} {N : Nat} {Q : Value → Shared → Prop} (hu : A.units < cLine) (I : Nat → Shared → Prop) (hl : GQ.ListI prog w A E l b N I) (fin : ∀ s, I N s → Q (.bool false) s) (h : I 0 s) : wpAny (model prog w) A (richCompare .NotEq (.ref l) (.ref b)) Q E s := by
  obtain ⟨xs, ys, n, n2, gl, gb, _, _, _⟩ := hl _ _ h
  refine wpAny_richCompare_same_room (op := .NotEq) ⟨_, gl, rfl⟩ ⟨_, gb, rfl⟩ F.slot_list_ne (GQ.call_here F.slot_list_ne ⟨_, gl, rfl⟩ F.entry_list_ne (F.args_list_ne_2 _ _) ?_) hu
  exact list_neL (R := wants (fun v s' => v ≠ .notImplemented ∧ Q v s') E) l b N I hl (fun s' q => ⟨(fun x => nomatch x), fin s' q⟩) h
end
end V3
namespace V3
open PySem PySem.Spec PyProof.Rows L2
/-- the very same object -/
def DSame : Eqv := fun x y _ => ∃ a, x = .ref a ∧ y = .ref a
theorem mon_same : Mon DSame := fun _ _ _ _ _ d => d
def rNeL (D : Eqv) : R2 := fun x y H Q => DList D x y H ∧ ∀ H', Ext H H' → Q (.bl false) H'
theorem op_neL {X : Cx} {n : Nat} {D : Eqv} (hD : Mon D) (h : EqG X n D) (hr : Room (n + 1) X.A) : OpR X (compareOp .NotEq) (rNeL D) := by
  intro pins s σ H x y v u Q J rx ry hq
  obtain ⟨⟨a, b, xs, ys, rfl, rfl, ha, hb, p⟩, q⟩ := hq
  cases rx
  cases ry
  show wpAny (model X.prog X.w) X.A (richCompare .NotEq (.ref a) (.ref b)) (EP X pins σ Q) X.xe s
  refine rc_listNe (N := xs.length) hr.units0 (fun _ s' => LoopI X pins σ H s') (fun i s' z => ?_) (fun s' z => ?_) ⟨H, J, Ext.rfl'⟩
  · obtain ⟨H1, I1, e1⟩ := id z
    obtain ⟨z0, its, k, r, e⟩ := I1.hok a _ (e1 _ _ ha)
    obtain ⟨z2, its2, k2, r2, e2⟩ := I1.hok b _ (e1 _ _ hb)
    exact ⟨its.toArray, its2.toArray, k, k2, e, e2, by rw [List.size_toArray, ← r.length], by rw [List.size_toArray, ← r2.length, ← p.1], fun h1 h2 => turnG hD h ⟨hr, rfl⟩ p r r2 i h1 h2 s' z⟩
  · obtain ⟨H1, I1, e1⟩ := z
    exact ⟨.bl false, H1, I1, rfl, q H1 e1⟩
theorem eqG_same {X : Cx} : EqG X 0 DSame := fun A pins s σ H x y u v sb J rx ry d => by
  obtain ⟨a, rfl, rfl⟩ := d
  cases rx
  cases ry
  exact PySem.SeqAt.EqAt.same (A := A) (s := s) (.ref a) X.prog X.w X.xe _ ⟨rfl, H, J, Ext.rfl'⟩
end V3

set_option Elab.async false
set_option linter.all false
set_option maxRecDepth 100000
/-! what is done with houses, answered -/
namespace V3
open PySem L2 TL
structure HsOps (P : Program) (w : World) (K : PySem.W.Frag) (mg : Str → Option Value) (base : Heap) (c : Rc) (C CN : Addr) : Prop where
  g : mg "House" = some (.ref C)
  hc : HsC K C
  mkX : ∃ (f : Addr) (fd : FuncData), FnOk P w K mg base CX0 4 f fd ["self", "depth", "check", "rows"] (spHsInitX K c C) ∧ Mk K C f ∧ Binds K fd ["self", "depth", "check", "rows"] []
  mkT : ∃ (f : Addr) (fd : FuncData), FnOk P w K mg base CX0 4 f fd ["self", "depth", "check", "rows"] (spHsInitT K c C) ∧ Mk K C f ∧ Binds K fd ["self", "depth", "check", "rows"] []
  mk0 : ∃ (f : Addr) (fd : FuncData) (e : Addr) (ds : List Value), FnOk P w K mg base CX0 4 f fd ["self", "depth", "check", "rows"] (spHsInitT K c C) ∧ Mk K C f ∧ Vals [.ref e] ds ∧ Binds K fd ["self", "depth", "check", "rows"] ds ∧ (∃ o, K.lookup e = some o ∧ o.cls = .type "tuple") ∧ ∀ H, SqT K H e []
  sk : HsStr P w K mg base c C
  len : ∃ (f : Addr) (fd : FuncData), FnOk P w K mg base CX0 1 f fd ["self"] (spHsLen K c C) ∧ PySem.W.findIn K (.ref C) "__len__" = some (some (.ref f)) ∧ PySem.W.isFn K (.ref f) = true ∧ Binds K fd ["self"] []
  eq : ∃ (f : Addr) (fd : FuncData), FnOk P w K mg base CX0 7 f fd ["self", "other"] (spHsEq K c C) ∧ EqCls K C f ∧ Binds K fd ["self", "other"] []
  ne : ∃ (f : Addr) (fd : FuncData), FnOk P w K mg base CX0 7 f fd ["self", "other"] spHsNe ∧ EqCls K C f ∧ Binds K fd ["self", "other"] []
  get : ∃ (f : Addr) (fd : FuncData), FnOk P w K mg base (L2.CX P w) 3 f fd ["self", "at"] (spHsGetX K c C CN) ∧ GetCls K C f ∧ Binds K fd ["self", "at"] []
  nf : PySem.W.notFirst K C (.ref C) = true
  bh : BehindL K C
def FFe (K : PySem.W.Frag) (c : Rc) (C : Addr) : Addr → Sp → XK → Prop := fun D sp _ => D = C ∧ sp = spHsEq K c C
def FFn (C : Addr) : Addr → Sp → XK → Prop := fun D sp _ => D = C ∧ sp = spHsNe
def FFg (K : PySem.W.Frag) (c : Rc) (C CN : Addr) : Addr → Sp → XK → Prop := fun D sp E => D = C ∧ sp = spHsGetX K c C CN ∧ E = E0
section
variable {X : Cx} {c : Rc} {C CN : Addr}
theorem own_e (T : HsOps X.prog X.w X.K X.mg X.base c C CN) : ∀ D sp E, FFe X.K c C D sp E → ∃ (CX : CXT) (f : Addr) (fd : FuncData) (ps : List Str), FnOk X.prog X.w X.K X.mg X.base CX 7 f fd ps sp ∧ EqCls X.K D f ∧ Binds X.K fd ps [] ∧ Passes CX X E := fun D sp E h => by
  obtain ⟨rfl, rfl⟩ := h
  obtain ⟨f, fd, F, ec, bi⟩ := T.eq
  exact ⟨CX0, f, fd, _, F, ec, bi, fun _ _ _ _ _ _ _ h => h.elim⟩
theorem op_neH (T : HsOps X.prog X.w X.K X.mg X.base c C CN) (hr : Room 8 X.A) : OpR X (compareOp .NotEq) (rEqO X.K 7 (FFe X.K c C) true) := op_neO (own_e T) hr
theorem op_eqH (T : HsOps X.prog X.w X.K X.mg X.base c C CN) (hr : Room 7 X.A) : OpR X (compareOp .Eq) (rEqO X.K 7 (FFe X.K c C) false) := op_eqO (own_e T) hr
theorem op_inH (T : HsOps X.prog X.w X.K X.mg X.base c C CN) (hr : Room 8 X.A) : OpR X (compareOp .In) (rInL X.K (FFn C)) := op_inL (fun D sp E h => by
  obtain ⟨rfl, rfl⟩ := h
  obtain ⟨f, fd, F, ec, bi⟩ := T.ne
  exact ⟨CX0, f, fd, _, F, ec, bi, fun _ _ _ _ _ _ _ h => h.elim⟩) hr
theorem get_H (T : HsOps X.prog X.w X.K X.mg X.base c C CN) : ∀ D sp E, FFg X.K c C CN D sp E → ∃ (CX : CXT) (f : Addr) (fd : FuncData) (ps : List Str), FnOk X.prog X.w X.K X.mg X.base CX 3 f fd ps sp ∧ GetCls X.K D f ∧ Binds X.K fd ps [] ∧ Passes CX X E := fun D sp E h => by
  obtain ⟨rfl, rfl, rfl⟩ := h
  obtain ⟨f, fd, F, ec, bi⟩ := T.get
  exact ⟨_, f, fd, _, F, ec, bi, passL⟩
def rLenK (K : PySem.W.Frag) (c : Rc) (C : Addr) : List V → Hp → VK → Prop := fun xs H Q => ∃ v h, xs = [v] ∧ HsAt K c C H v h ∧ h.ok ∧ Q (.int (h.rs.length : Int)) H
theorem call_lenK (T : HsOps X.prog X.w X.K X.mg X.base c C CN) (room : Room 2 X.A) : CallR X (.builtin "len") (rLenK X.K c C) := by
  intro pins s σ H xs us Q I r h
  obtain ⟨v, h, rfl, a, ok, q⟩ := h
  obtain ⟨f, fd, G, at_, isf, bi⟩ := T.len
  obtain ⟨x, dx, t, ys, rfl, hx, ht, mv⟩ := id a
  have n := ok.2.2.2.2
  refine call_lenO (E := fun _ _ _ => False) G at_ isf bi pass0 room pins s σ H _ us Q I r ⟨x, dx, _, rfl, hx, _, h, rfl, a, _, rfl, ⟨by omega, ?_⟩, q⟩
  exact Int.lt_of_le_of_lt (b := 1000) (by omega) (by decide)
end
section
variable {P : Program} {w : World} {K : PySem.W.Frag} {mg : Str → Option Value} {base : Heap}
theorem ok_hsNe {f C : Addr} {c : Rc} {fd : FuncData} (F : Fun K "__eq__" "House.__eq__" sHsEq f fd) (T : BltK mg) (S : HsStr P w K mg base c C) (N : HsNot K C) (gH : mg "House" = some (.ref C)) : FnOk P w K mg base CX0 7 f fd ["self", "other"] spHsNe := by
  refine F.ok scHsEq (fun vs H Q E h => ?_) (fun cdv A outer s H vs Q E hr h => ?_)
  · obtain ⟨u, z, rfl, _⟩ := h
    rfl
  · obtain ⟨u, z, rfl, pl, k⟩ := h
    refine ⟨_, pss_one (ps_ret (pe_and (pe_callB call_isi (by rfl) T.isi (by decide +kernel) (pa_cons (pv 1) (pa_cons (pe_glob (v := .ref C) rfl gH rfl) pa_nil)))
      (pe_one (pe_cmpR op_eq (pe_callTy (call_strK S hr) (by rfl) T.str (by decide +kernel) (pa_cons (pv 0) pa_nil)) (pe_callTy (call_strK S hr) (by rfl) T.str (by decide +kernel) (pa_cons (pv 1) pa_nil)) (nomark _))))), ?_⟩
    cases pl with
    | str x => exact ⟨_, rfl, _, _, _, _, _, rfl, .own C, .base (.str x), N.s, _, rfl, iteF k⟩
    | non => exact ⟨_, rfl, _, _, _, _, _, rfl, .own C, .base .non, N.n, _, rfl, iteF k⟩
    | tup h => exact ⟨_, rfl, _, _, _, _, _, rfl, .own C, .base (.tup h), N.t, _, rfl, iteF k⟩
    | lst h => exact ⟨_, rfl, _, _, _, _, _, rfl, .own C, .base (.lst h), N.l, _, rfl, iteF k⟩
end
/-- a drawn row's tuple -/
def TrA (m : Rw) : V → Hp → Prop := fun v H => TpAt H v m ∧ m.ok ∧ m.kind = 0
instance {m : Rw} : StL (TrA m) := ⟨fun _ _ _ s a => ⟨a.1.keep s, a.2⟩⟩
section
variable {K : PySem.W.Frag} {c : Rc} {C CN : Addr} {σ : L2.St} {ta tb td tc tl te : TE} {H0 : Hp} {h g : Hs} {us : List V} {m : Rw} {R : V → Hp → Prop}
theorem ev_X (ha : EvV (Same H0) σ ta (HsX K c C us h)) : EvV (Same H0) σ ta (HsA K c C h) := ev_to ha fun _ _ a => a.at
theorem ev_strK (ok : h.ok) (ha : EvV (Same H0) σ ta (HsA K c C h)) : EvV (Same H0) σ (tCB (rStrK K c C) (tCons ta tNil)) (isSv h.text) :=
  ev_cb (eva_cons ha eva_nil) fun vs H Q w r k => by
    obtain ⟨v, r, rfl, hv, rfl⟩ := r
    exact ⟨v, h, rfl, hv, ok, fun H' s => k _ H' s rfl⟩
theorem ev_lenK (ok : h.ok) (ha : EvV (Same H0) σ ta (HsA K c C h)) : EvV (Same H0) σ (tCB (rLenK K c C) (tCons ta tNil)) (isIv (h.rs.length : Int)) :=
  ev_cb (eva_cons ha eva_nil) fun vs H Q w r k => by
    obtain ⟨v, r, rfl, hv, rfl⟩ := r
    exact ⟨v, h, rfl, hv, ok, k _ H (Same.refl H) rfl⟩
theorem ev_eqK {neg : Bool} (nf : PySem.W.notFirst K C (.ref C) = true) (ho : h.ok) (go : g.ok) (ha : EvV (Same H0) σ ta (HsA K c C h)) (hb : EvV (Same H0) σ tb (HsA K c C g)) : EvV (Same H0) σ (tOp (rEqO K 7 (FFe K c C) neg) ta tb) (isBv (decide (h.text = g.text) != neg)) :=
  ev_o ha hb fun x y H Q w a1 a2 k => by
    obtain ⟨x, dx, q, us, rfl, hx, hq, rl⟩ := id a1
    obtain ⟨y, dy, q2, us2, rfl, hy, hq2, rl2⟩ := id a2
    exact ⟨x, C, dx, _, y, C, dy, _, spHsEq K c C, E0, rfl, rfl, hx, hy, ⟨rfl, rfl⟩, nf, _, _, h, g, rfl, a1, a2, ho, go, fun H' s => ⟨_, rfl, k _ H' s rfl⟩⟩
theorem ev_ixK {i : Int} {u : V} (hu : us[i.toNat]? = some u) (i0 : 0 ≤ i) (hi : hasRow h i = true) (ha : EvV (Same H0) σ ta (HsX K c C us h)) (hb : EvV (Same H0) σ tb (isIv i)) : EvV (Same H0) σ (tOp (rIxO (FFg K c C CN)) ta tb) (isVv u) :=
  ev_o ha hb fun x y H Q w a1 a2 k => by
    cases a2
    obtain ⟨x, dx, q, rfl, hx, hq, rl⟩ := id a1
    exact ⟨x, C, dx, _, spHsGetX K c C CN, E0, rfl, hx, ⟨rfl, rfl, rfl⟩, _, us, h, i, rfl, a1, fun u2 _ e => by
      rw [hu] at e
      cases e
      exact k _ H (Same.refl H) rfl, fun e => by rw [hi] at e; cases e⟩
/-- a list of these very objects, rows of a house -/
def isLo (c : Rc) (us : List V) (ms : List Rw) : V → Hp → Prop := fun v H => ∃ l, v = .ref l ∧ H l = some (.lst us) ∧ RwLs c H us ms
instance {ms : List Rw} : St (isLo c us ms) := ⟨fun _ _ _ s ⟨l, e, hl, rl⟩ => ⟨l, e, s _ _ hl, rl.same s⟩⟩
def isTo (c : Rc) (us : List V) (ms : List Rw) : V → Hp → Prop := fun v H => ∃ l, v = .ref l ∧ H l = some (.tup us) ∧ RwLs c H us ms
instance {ms : List Rw} : StL (isTo c us ms) := ⟨fun _ _ _ s ⟨l, e, hl, rl⟩ => ⟨l, e, s _ _ (fun _ z => by cases z) hl, rl.keep s⟩⟩
theorem mk_houseX {C x dx l : Addr} {H : Hp} {R : VK} {E : XK} (hl : H l = some (.lst us)) (rl : RwLs c H us h.rs) (ok : h.ok) (nx : H x = none) (ndx : H dx = none) (q : ∀ H', Same H H' → HsX K c C us h (.ref x) H' → R .non H') :
    spHsInitX K c C [.ref x, .int h.d, .str h.ch, .ref l] (upd (upd H dx (.own x)) x (.ins C dx [])) R E := by
  have s0 : Same H (upd (upd H dx (.own x)) x (.ins C dx [])) := made_same nx ndx
  exact ⟨x, dx, l, us, h, rfl, upd_same, s0 _ _ hl, rl.same s0, ok, fun H' s' a => q H' (fun b o e => s' b o (ne_of_none e nx) (s0 b o e)) a⟩
theorem ev_mkX (ok : h.ok) (hd : EvV (Same H0) σ td (isIv h.d)) (hc : EvV (Same H0) σ tc (isSv h.ch)) (hl : EvV (Same H0) σ tl (isLo c us h.rs)) : EvV (Same H0) σ (tMake C (spHsInitX K c C) [] E0 (tCons td (tCons tc (tCons tl tNil)))) (HsX K c C us h) :=
  ev_make (eva_cons hd (eva_cons hc (eva_cons hl eva_nil))) fun vs H x dx Q w r nx ndx ne k => by
    obtain ⟨v1, r, rfl, e1, v2, r, rfl, e2, v3, r, rfl, ⟨l, rfl, hl, rl⟩, rfl⟩ := r
    cases e1
    cases e2
    exact mk_houseX hl rl ok nx ndx k
theorem ev_mkT (ok : h.ok) (hd : EvV (Same H0) σ td (isIv h.d)) (hc : EvV (Same H0) σ tc (isSv h.ch)) (hl : EvV (Same H0) σ tl (isTo c us h.rs)) : EvV (Same H0) σ (tMake C (spHsInitT K c C) [] E0 (tCons td (tCons tc (tCons tl tNil)))) (HsA K c C h) :=
  ev_make (eva_cons hd (eva_cons hc (eva_cons hl eva_nil))) fun vs H x dx Q w r nx ndx ne k => by
    obtain ⟨v1, r, rfl, e1, v2, r, rfl, e2, v3, r, rfl, ⟨l, rfl, hl, rl⟩, rfl⟩ := r
    cases e1
    cases e2
    exact mk_houseT (.inl hl) rl ok nx ndx k
theorem ev_mk0 {d : Int} {ch : Str} {e : Addr} (ok : (Hs.mk d ch []).ok) (he : (∃ o, K.lookup e = some o ∧ o.cls = .type "tuple") ∧ ∀ H, SqT K H e []) (hd : EvV (Same H0) σ td (isIv d)) (hc : EvV (Same H0) σ tc (isSv ch)) : EvV (Same H0) σ (tMake C (spHsInitT K c C) [.ref e] E0 (tCons td (tCons tc tNil))) (HsA K c C ⟨d, ch, []⟩) :=
  ev_make (eva_cons hd (eva_cons hc eva_nil)) fun vs H x dx Q w r nx ndx ne k => by
    obtain ⟨v1, r, rfl, e1, v2, r, rfl, e2, rfl⟩ := r
    cases e1
    cases e2
    exact mk_houseT (h := ⟨d, ch, []⟩) (us := []) (.inr he) Ls.nil ok nx ndx k
theorem ev_houseOf (ok : h.ok) (ha : EvV (Same H0) σ ta (HtA h)) : EvV (Same H0) σ (tCall (spHouseOf K c C) [] E0 (tCons ta tNil)) (HsA K c C h) :=
  ev_call (eva_cons ha eva_nil) fun vs H Q w r k => by
    obtain ⟨v, r, rfl, hv, rfl⟩ := r
    exact ⟨v, h, rfl, hv, ok, fun x H' s a => k x H' s a⟩
theorem ev_houseText (ok : h.ok) (ha : EvV (Same H0) σ ta (HtA h)) : EvV (Same H0) σ (tCall spHouseText [] E0 (tCons ta tNil)) (isSv h.text) :=
  ev_call (eva_cons ha eva_nil) fun vs H Q w r k => by
    obtain ⟨v, r, rfl, hv, rfl⟩ := r
    exact ⟨v, h, rfl, hv, ok, fun H' s => k _ H' s rfl⟩
theorem ev_letOf (ha : EvV (Same H0) σ ta (TrA m)) : EvV (Same H0) σ (tCall (spLetOf c) [] E0 (tCons ta tNil)) (RwA c m) :=
  ev_call (eva_cons ha eva_nil) fun vs H Q w r k => by
    obtain ⟨v, r, rfl, hv, rfl⟩ := r
    exact ⟨v, m, rfl, hv.1, hv.2.1, hv.2.2, fun x H' s a => k x H' s a⟩
theorem ev_mkLet {k s d p : Str} {t1 t2 t3 t4 : TE} (ok : (Rw.lt k s d p).ok) (h1 : EvV (Same H0) σ t1 (isSv k)) (h2 : EvV (Same H0) σ t2 (isSv s)) (h3 : EvV (Same H0) σ t3 (isSv d)) (h4 : EvV (Same H0) σ t4 (isSv p)) :
    EvV (Same H0) σ (tMake c.L (spLInit c) [] E0 (tCons t1 (tCons t2 (tCons t3 (tCons t4 tNil))))) (RwA c (.lt k s d p)) :=
  ev_make (eva_cons h1 (eva_cons h2 (eva_cons h3 (eva_cons h4 eva_nil)))) fun vs H x dx Q w r nx ndx ne q => by
    obtain ⟨v1, r, rfl, e1, v2, r, rfl, e2, v3, r, rfl, e3, v4, r, rfl, e4, rfl⟩ := r
    cases e1
    cases e2
    cases e3
    cases e4
    exact mk_let ok nx ndx q
theorem ev_strL (ok : m.ok) (kd : m.kind = 0) (ha : EvV (Same H0) σ ta (RwA c m)) : EvV (Same H0) σ (tCB (rStrH c) (tCons ta tNil)) (isSv m.text) :=
  ev_cb (eva_cons ha eva_nil) fun vs H Q w r k => by
    obtain ⟨v, r, rfl, hv, rfl⟩ := r
    exact ⟨v, m, rfl, hv, ok, kd, k _ H (Same.refl H) rfl⟩
theorem ev_rowsX (L : HsC K C) (ha : EvV (Same H0) σ ta (HsX K c C us h)) : EvV (Same H0) σ (tFld K ta "rows") (isTo c us h.rs) :=
  ev_fld ha fun x H w hx => by
    obtain ⟨x, dx, q, rfl, hx, hq, rl⟩ := hx
    exact ⟨x, C, dx, _, _, rfl, hx, L.cl, L.rs, hs_rs .., q, rfl, hq, rl⟩
theorem ev_depth (L : HsC K C) (ha : EvV (Same H0) σ ta (HsA K c C h)) : EvV (Same H0) σ (tFld K ta "depth") (isIv h.d) :=
  ev_fld ha fun x H w hx => by
    obtain ⟨x, dx, q, us, rfl, hx, hq, rl⟩ := hx
    exact ⟨x, C, dx, _, _, rfl, hx, L.cl, L.d, hs_d .., rfl⟩
theorem ev_check (L : HsC K C) (ha : EvV (Same H0) σ ta (HsA K c C h)) : EvV (Same H0) σ (tFld K ta "check") (isSv h.ch) :=
  ev_fld ha fun x H w hx => by
    obtain ⟨x, dx, q, us, rfl, hx, hq, rl⟩ := hx
    exact ⟨x, C, dx, _, _, rfl, hx, L.cl, L.ch, hs_ch .., rfl⟩
theorem ev_ht0 (ha : EvV (Same H0) σ ta (HtA h)) : EvV (Same H0) σ (tOp (rIxT K) ta (tC (.int 0))) (isIv h.d) :=
  ev_o (Rb := isIv 0) ha ev_int fun x y H Q w hx hy k => by
    cases hy
    obtain ⟨p, q, us, rfl, hp, hq, rl⟩ := hx
    exact ⟨p, _, 0, _, rfl, rfl, SqT.of hp, rfl, k _ H (Same.refl H) rfl⟩
theorem ev_ht1 (ha : EvV (Same H0) σ ta (HtA h)) : EvV (Same H0) σ (tOp (rIxT K) ta (tC (.int 1))) (isSv h.ch) :=
  ev_o (Rb := isIv 1) ha ev_int fun x y H Q w hx hy k => by
    cases hy
    obtain ⟨p, q, us, rfl, hp, hq, rl⟩ := hx
    exact ⟨p, _, 1, _, rfl, rfl, SqT.of hp, rfl, k _ H (Same.refl H) rfl⟩
theorem ev_ht2 (ha : EvV (Same H0) σ ta (HtA h)) : EvV (Same H0) σ (tOp (rIxT K) ta (tC (.int 2))) (isU TrA h.rs) :=
  ev_o (Rb := isIv 2) ha ev_int fun x y H Q w hx hy k => by
    cases hy
    obtain ⟨p, q, us, rfl, hp, hq, rl⟩ := hx
    exact ⟨p, _, 2, _, rfl, rfl, SqT.of hp, rfl, k _ H (Same.refl H) ⟨q, us, rfl, hq, rl⟩⟩
theorem ev_ht01 (ha : EvV (Same H0) σ ta (HtA h)) : EvV (Same H0) σ (tSl (rSlT K) ta tNoPart (tPart (tC (.int 2)))) (isP2 isIv isSv (h.d, h.ch)) := fun H Q w k =>
  ha H _ w fun x H1 s1 w1 hx => by
    obtain ⟨p, q, us, rfl, hp, hq, rl⟩ := hx
    refine ⟨2, rfl, p, _, rfl, SqT.of hp, fun z => absurd z.2 (by show ¬ HT.sIx 3 3 (some 2) = 3; decide), fun t nt => ?_⟩
    have s2 : Same H1 (upd H1 t (.tup [.int h.d, .str h.ch])) := Same.new nt
    exact k _ _ (s1.trans s2) (w1.trans s2) ⟨t, _, _, rfl, upd_same, rfl, rfl⟩
theorem ev_isTo {ms : List Rw} (ha : EvV (Same H0) σ ta (isTo c us ms)) : EvV (Same H0) σ (tCB (rIsi K) (tCons ta (tCons (tC (.ty "tuple")) tNil))) (isBv true) := fun H Q w k =>
  ha H _ w fun x H1 s1 w1 hx => by
    obtain ⟨q, rfl, hq, rl⟩ := hx
    exact ⟨_, _, _, _, _, rfl, .ty "tuple", .base (.tup hq), kit_ty (by decide +kernel), k _ H1 s1 w1 rfl⟩
theorem evi_tupo {ms : List Rw} (ha : EvV (Same H0) σ te (isTo c us ms)) : EvI H0 σ (iTup K te) ms (RwA c) :=
  evi_tup (ev_to ha fun v H ⟨D, e, hD, l⟩ => ⟨D, us, e, fun H' s => SqT.of (s _ _ hD), l⟩)
theorem ev_joinT (ha : EvV (Same H0) σ ta (TrA m)) : EvV (Same H0) σ (tM1 (rJoinK K) (tC (.str " ")) ta) (isSv m.text) := fun H Q w k =>
  ⟨⟨_, rfl⟩, ha H _ w fun x H1 s1 w1 hx => by
    obtain ⟨⟨t, rfl, ht⟩, mo, mk⟩ := hx
    cases m with
    | ct _ _ _ => cases mk
    | lt k' s' d' p' =>
      have lw : ∀ z ∈ (Rw.lt k' s' d' p').words, z.length ≤ 6 := fun z hz => (word_ok mo z hz).2
      simp only [Rw.words, List.mem_cons, List.not_mem_nil, or_false, forall_eq_or_imp, forall_eq] at lw
      obtain ⟨l1, l2, l3, l4⟩ := lw
      have lb : (" " : Str).length = 1 := by decide +kernel
      have e : Txt.join (" " : Str) [k', s', d', p'] = (Rw.lt k' s' d' p').text := join_eq _ _
      refine ⟨_, t, [k', s', d', p'], rfl, rfl, .inr (SqT.of ht), ?_, k _ H1 s1 w1 (by rw [e]; rfl)⟩
      simp only [List.map, List.sum_cons, List.sum_nil, List.length_cons, List.length_nil, lb]
      omega⟩
end
end V3

set_option Elab.async false
set_option linter.all false
set_option maxRecDepth 100000
namespace V3
open PySem L2 TL
-- no sMonthL
def oM : Option Int → Int
  | some m => m
  | none => -1
def spMonthL : Sp := fun vs H Q _ => ∃ (hv v : V) (h : Hs) (b : Bk) (j : Nat) (d : Str), vs = [hv, v, .int (j : Int), .str d] ∧ HtA h hv H ∧ LBk b v H ∧ h.ok ∧ Wf b ∧ b.es.length ≤ 900 ∧ j < b.es.length ∧ d ∈ deedL ∧ ∀ H', Same H H' → Q (.int (oM (monthFor h b j d))) H'
theorem place_in {k s d p : Str} : ∀ {rs : List Rw}, (∀ m ∈ rs, m.ok ∧ m.kind = 0) → placeIn k s d rs = some p → p ∈ placeL
  | [], _, e => by cases e
  | .ct a w o :: r, h, e => place_in (rs := r) (fun m hm => h m (List.mem_cons_of_mem _ hm)) e
  | .lt k' s' d' p' :: r, h, e => by
    have e : (if k' = k ∧ s' = s ∧ d' = d then some p' else placeIn k s d r) = some p := e
    split at e
    · cases e
      exact (h _ (List.mem_cons_self ..)).1.2.2.2.1
    · exact place_in (rs := r) (fun m hm => h m (List.mem_cons_of_mem _ hm)) e
section
variable {K : PySem.W.Frag} {σ : L2.St} {ta tb tc td te : TE} {H0 : Hp} {h : Hs} {b : Bk} {j : Nat} {k s d : Str}
theorem ev_place (ok : h.ok) (hk : k ∈ kindL) (hs : s ∈ stateL) (hd : d ∈ deedL) (h1 : EvV (Same H0) σ ta (HtA h)) (h2 : EvV (Same H0) σ tb (isSv k)) (h3 : EvV (Same H0) σ tc (isSv s)) (h4 : EvV (Same H0) σ td (isSv d)) : EvV (Same H0) σ (tCall spPlace [] E0 (tCons ta (tCons tb (tCons tc (tCons td tNil))))) (isSv ((placeIn k s d h.rs).getD Str.empty)) :=
  ev_call (eva_cons h1 (eva_cons h2 (eva_cons h3 (eva_cons h4 eva_nil)))) fun vs H Q _ r kk => by
    obtain ⟨v, r, rfl, hv, x, r, rfl, e1, y, r, rfl, e2, z, r, rfl, e3, rfl⟩ := r
    cases e1
    cases e2
    cases e3
    exact ⟨v, h, k, s, d, rfl, hv, ok, hk, hs, hd, fun H' s' => kk _ H' s' rfl⟩
theorem ev_monthL (ok : h.ok) (w : Wf b) (n : b.es.length ≤ 900) (hj : j < b.es.length) (hd : d ∈ deedL) (h1 : EvV (Same H0) σ ta (HtA h)) (h2 : EvV (Same H0) σ tb (LBk b)) (h3 : EvV (Same H0) σ tc (isIv (j : Int))) (h4 : EvV (Same H0) σ td (isSv d)) : EvV (Same H0) σ (tCall spMonthL [] E0 (tCons ta (tCons tb (tCons tc (tCons td tNil))))) (isIv (oM (monthFor h b j d))) :=
  ev_call (eva_cons h1 (eva_cons h2 (eva_cons h3 (eva_cons h4 eva_nil)))) fun vs H Q _ r kk => by
    obtain ⟨v, r, rfl, hv, x, r, rfl, hx, y, r, rfl, e2, z, r, rfl, e3, rfl⟩ := r
    cases e2
    cases e3
    exact ⟨v, x, h, b, j, d, rfl, hv, hx, ok, w, n, hj, hd, fun H' s' => kk _ H' s' rfl⟩
end
section
variable {P : Program} {w : World} {K : PySem.W.Frag} {mg : Str → Option Value} {base : Heap}
end
end V3

set_option Elab.async false
set_option linter.all false
set_option maxRecDepth 100000
namespace V3
open PySem L2 TL
-- no sTakeL
-- no sRightL
-- no sDoL
/-- something, or None -/
def isO {α : Type} (S : α → V → Hp → Prop) : Option α → V → Hp → Prop
  | some a => S a
  | none => fun v _ => v = .non
instance {α : Type} {S : α → V → Hp → Prop} [i : ∀ a, StL (S a)] {o : Option α} : StL (isO S o) := ⟨fun v H H' s r => by
  cases o with
  | none => exact r
  | some a => exact (i a).st v H H' s r⟩
abbrev OBk : Option Bk → V → Hp → Prop := isO LBk
def amtO (a : Int) : Option Int := if 0 < a then some a else none
/-- what is too little up the line -/
def cbF (es : List En) (all : Bool) (size : Int) : Nat → Option Nat → Nat → Bool
  | 0, _, _ => false
  | _ + 1, none, _ => false
  | f + 1, some x, t => (decide (t % 2 = 0) && ((decide (t = 0) || all) && decide (leftAt es x < size))) || cbF es all size f (taAt es x) (t + 1)
def cb (es : List En) (all : Bool) (size : Int) (o : Option Nat) (t : Nat) : Bool := match o with
  | some x => cbF es all size (x + 1) (some x) t
  | none => false
theorem cbF_none {es : List En} {all : Bool} {size : Int} : ∀ (f t : Nat), cbF es all size f none t = false
  | 0, _ => rfl
  | _ + 1, _ => rfl
theorem cbF_eq {es : List En} {all : Bool} {size : Int} (h : ∀ j t, taAt es j = some t → t < j) : ∀ (f g x t : Nat), x < f → x < g → cbF es all size f (some x) t = cbF es all size g (some x) t
  | 0, _, x, _, a, _ => absurd a (Nat.not_lt_zero _)
  | _ + 1, 0, x, _, _, b => absurd b (Nat.not_lt_zero _)
  | f + 1, g + 1, x, t, a, b => by
    unfold cbF
    cases e : taAt es x with
    | none => rw [cbF_none, cbF_none]
    | some y =>
      have l := h x y e
      rw [cbF_eq h f g y (t + 1) (by omega) (by omega)]
theorem cb_step {es : List En} {all : Bool} {size : Int} (h : ∀ j t, taAt es j = some t → t < j) (x t : Nat) : cb es all size (some x) t = ((decide (t % 2 = 0) && ((decide (t = 0) || all) && decide (leftAt es x < size))) || cb es all size (taAt es x) (t + 1)) := by
  show cbF es all size (x + 1) (some x) t = _
  unfold cbF
  cases e : taAt es x with
  | none => rw [cbF_none]; rfl
  | some y =>
    have l := h x y e
    show _ = (_ || cbF es all size (y + 1) (some y) (t + 1))
    rw [cbF_eq h x (y + 1) y (t + 1) l (by omega)]
/-- no deeper than three: the entry itself, and the one two targets above -/
theorem cb_three {es : List En} {all : Bool} {size : Int} (h : ∀ j t, taAt es j = some t → t < j) {j : Nat} (d : depth es j ≤ 3) : cb es all size (some j) 0 = (decide (leftAt es j < size) || (all && overAll es j size)) := by
  rw [cb_step h j 0]
  have e0 : (decide (0 % 2 = 0) && ((decide (0 = 0) || all) && decide (leftAt es j < size))) = decide (leftAt es j < size) := by simp
  rw [e0]
  congr 1
  unfold overAll
  cases e1 : taAt es j with
  | none => simp [cb]
  | some t1 =>
    rw [depth_some h e1] at d
    rw [cb_step h t1 1]
    show (false || cb es all size (taAt es t1) (1 + 1)) = (all && match (taAt es t1) with
      | some t => decide (leftAt es t < size)
      | none => false)
    rw [Bool.false_or]
    cases e2 : taAt es t1 with
    | none => simp [cb]
    | some t2 =>
      rw [depth_some h e2] at d
      rw [cb_step h t2 2]
      have e4 : cb es all size (taAt es t2) (2 + 1) = false := by
        cases e3 : taAt es t2 with
        | none => rfl
        | some t3 =>
          rw [depth_some h e3] at d
          rw [cb_step h t3 3]
          have e5 : cb es all size (taAt es t3) (3 + 1) = false := by
            cases e6 : taAt es t3 with
            | none => rfl
            | some t4 =>
              rw [depth_some h e6] at d
              omega
          rw [e5]
          rfl
      rw [e4]
      simp
def spTakeL : Sp := fun vs H Q _ => ∃ (hv v : V) (h : Hs) (b : Bk) (j : Nat) (a : Int), vs = [hv, v, .int (j : Int), .int a] ∧ HtA h hv H ∧ LBk b v H ∧ h.ok ∧ Wf b ∧ b.es.length ≤ 900 ∧ 0 ≤ a ∧ ∀ u H', Same H H' → OBk (takeB h b j (amtO a)) u H' → Q u H'
def spRightL : Sp := fun vs H Q _ => ∃ (hv v : V) (h : Hs) (b : Bk) (j : Nat) (a : Int), vs = [hv, v, .int (j : Int), .int a] ∧ HtA h hv H ∧ LBk b v H ∧ h.ok ∧ Wf b ∧ b.es.length ≤ 900 ∧ ∀ u H', Same H H' → OBk (rightB h b j a) u H' → Q u H'
def spDoL : Sp := fun vs H Q _ => ∃ (hv v m : V) (h : Hs) (b : Bk) (mv : Mv), vs = [hv, v, m] ∧ HtA h hv H ∧ LBk b v H ∧ TupAt H m mv ∧ h.ok ∧ Wf b ∧ b.es.length ≤ 900 ∧ mv.ok ∧ ∀ u H', Same H H' → OBk (doB h b mv) u H' → Q u H'
section
variable {K : PySem.W.Frag} {σ : L2.St} {ta tb tc td te : TE} {H0 : Hp} {h : Hs} {b : Bk} {j : Nat} {es fs : List En} {mo am : Int} {o1 o2 : Option Nat}
/-- a tuple of entries more behind -/
theorem ev_catEs (hf : fs ≠ []) (n : es.length + fs.length ≤ 1000) (ha : EvV (Same H0) σ ta (LEs es)) (hb : EvV (Same H0) σ tb (LEs fs)) : EvV (Same H0) σ (tOp (rCatA K) ta tb) (LEs (es ++ fs)) :=
  ev_o ha hb fun x y H Q w hx hy k => by
    obtain ⟨A, us, rfl, hA, l⟩ := hx
    obtain ⟨B, vs, rfl, hB, m⟩ := hy
    have vne : vs ≠ [] := fun e => hf (List.length_eq_zero_iff.mp (by rw [← m.1, e]; rfl))
    refine ⟨A, B, us, vs, rfl, rfl, SqT.of hA, SqT.of hB, Nat.le_trans (by rw [l.1, m.1]; exact n) (by decide), fun e => ?_, fun _ e => absurd e vne, fun _ _ p np => ?_⟩
    · have z : es = [] := List.length_eq_zero_iff.mp (by rw [← l.1, e]; rfl)
      refine k _ H (Same.refl H) ⟨B, vs, rfl, hB, ?_⟩
      rw [z]
      exact m
    · have s4 : Same H (upd H p (.tup (us ++ vs))) := Same.new np
      exact k _ _ s4 ⟨p, _, rfl, upd_same, (l.app m).up s4⟩
/-- an entry, written -/
theorem ev_mkEn (h1 : EvV (Same H0) σ ta (isIv mo)) (h2 : EvV (Same H0) σ tb (isIv am)) (h3 : EvV (Same H0) σ tc (isIv (oi o1))) (h4 : EvV (Same H0) σ td (isIv (oi o2))) : EvV (Same H0) σ (tTup (tCons ta (tCons tb (tCons tc (tCons td tNil))))) (LEn ⟨mo, am, o1, o2⟩) := fun H Q w k =>
  h1 H _ w fun x1 H1 s1 w1 e1 => h2 H1 _ w1 fun x2 H2 s2 w2 e2 => h3 H2 _ w2 fun x3 H3 s3 w3 e3 => h4 H3 _ w3 fun x4 H4 s4 w4 e4 => ⟨(by show 4 ≤ sizeLine; decide), fun p np => by
    cases e1
    cases e2
    cases e3
    cases e4
    have s5 : Same H4 (upd H4 p (.tup [.int mo, .int am, .int (oi o1), .int (oi o2)])) := Same.new np
    exact k _ _ ((((s1.trans s2).trans s3).trans s4).trans s5) (w4.trans s5) ⟨p, rfl, upd_same⟩⟩
theorem ev_mkBk {m : Int} (h1 : EvV (Same H0) σ ta (LEs es)) (h2 : EvV (Same H0) σ tb (isIv m)) : EvV (Same H0) σ (tTup (tCons ta (tCons tb tNil))) (LBk ⟨es, m⟩) := ev_p2 h1 h2
end
/-- a list of entries, or none of them -/
theorem ev_neLe {K : PySem.W.Frag} {σ : L2.St} {ta : TE} {H0 : Hp} {fs : List En} (ha : EvV (Same H0) σ ta (isL LEn fs)) : EvV (Same H0) σ (tOp (rNeD K) ta (tLst tNil)) (isBv (!decide (fs = []))) := fun H Q w k =>
  ha H _ w fun x H1 s1 w1 hx => by
    obtain ⟨D, us, rfl, hD, l⟩ := hx
    refine ⟨(by show (0 : Nat) ≤ sizeLine; exact Nat.zero_le _), fun p np => ?_⟩
    have s2 : Same H1 (upd H1 p (.lst [])) := Same.new np
    have dp : ∀ {fs : List En} {us : List V}, Ls (fun u a => LEn a u H1) us fs → DpAll K (upd H1 p (.lst [])) us (fs.map fun e => PyData.tuple [.int e.mo, .int e.am, .int (oi e.ta), .int (oi e.ol)]) := fun {fs} => by
      induction fs with
      | nil => intro us l; rw [l.nil']; exact .nil
      | cons e r ih =>
        intro us l
        obtain ⟨u, r2, rfl, ⟨q, rfl, hq⟩, l2⟩ := l.uncons
        exact .cons (.tup (SqT.of (s2 _ _ hq)) (.cons (.int _) (.cons (.int _) (.cons (.int _) (.cons (.int _) .nil))))) (ih l2)
    have lay : ∀ fs : List En, PyData.canLayAll0 (fs.map fun e => PyData.tuple [.int e.mo, .int e.am, .int (oi e.ta), .int (oi e.ol)]) = true := fun fs => lay_map fun e _ => by simp [PyData.canLay0, PyData.canLayAll0]
    have dep : ∀ fs : List En, PyData.depthAll (fs.map fun e => PyData.tuple [.int e.mo, .int e.am, .int (oi e.ta), .int (oi e.ol)]) ≤ 1 := fun fs => dep_map (fun e => by simp [PyData.depth, PyData.depthAll]) fs
    refine ⟨_, .list [], .lst (SqL.of (s2 _ _ hD)) (dp l), .lst (SqL.of upd_same) .nil, ?_, by decide +kernel, k _ _ (s1.trans s2) (w1.trans s2) ?_⟩
    · unfold SeqAt.shaped
      have z : (PyData.list (fs.map fun e => PyData.tuple [.int e.mo, .int e.am, .int (oi e.ta), .int (oi e.ol)])).canLay0 = true := by
        simp only [PyData.canLay0]
        exact lay fs
      have y : (PyData.list (fs.map fun e => PyData.tuple [.int e.mo, .int e.am, .int (oi e.ta), .int (oi e.ol)])).depth ≤ 64 := by
        have := dep fs
        simp only [PyData.depth]
        omega
      rw [z, decide_eq_true y]
      rfl
    · cases fs with
      | nil => rfl
      | cons e r => rfl
theorem ch_dec {z : Str} : decide (z = ("all" : Str)) = decide (z = "all") := rfl
section
variable {P : Program} {w : World} {K : PySem.W.Frag} {mg : Str → Option Value} {base : Heap}
end
end V3

set_option Elab.async false
set_option linter.all false
set_option maxRecDepth 100000
namespace V3
open PySem L2 TL
/-! read_move -/
theorem text_len {m : Mv} (h : m.ok) : m.text.length ≤ 5000 := by
  have e0 : (Str.empty).length = 0 := rfl
  have e1 : ("begin " : Str).length = 6 := by decide +kernel
  have e2 : ("take " : Str).length = 5 := by decide +kernel
  have e3 : (" by " : Str).length = 4 := by decide +kernel
  have e4 : ("right " : Str).length = 6 := by decide +kernel
  have e5 : (" to " : Str).length = 4 := by decide +kernel
  cases m with
  | beg a =>
    rw [← b_text]
    have l := num_len (am_of h)
    unfold bText
    rw [app_len, app_len, e0, e1]
    omega
  | take t =>
    rw [← t_text]
    have l := num_len (at_am h)
    unfold tText
    rw [app_len, app_len, e0, e2]
    omega
  | takeBy t a =>
    rw [← tb_text]
    have l := num_len (at_am h.1)
    have l2 := num_len (am_of h.2)
    unfold tbText
    rw [app_len, app_len, app_len, app_len, e0, e2, e3]
    omega
  | right t a =>
    rw [← r_text]
    have l := num_len (at_am h.1)
    have l2 := num_len (am_of h.2)
    unfold rText
    rw [app_len, app_len, app_len, app_len, e0, e4, e5]
    omega
  | shut =>
    have e : Mv.shut.text.length = 4 := by decide +kernel
    rw [e]
    decide
theorem st12 : sliceRange (sliceBounds (some 1) none (some 2) 2).1 (sliceBounds (some 1) none (some 2) 2).2.1 (sliceBounds (some 1) none (some 2) 2).2.2 = [1] := by decide +kernel
theorem st14 : sliceRange (sliceBounds (some 1) none (some 2) 4).1 (sliceBounds (some 1) none (some 2) 4).2.1 (sliceBounds (some 1) none (some 2) 4).2.2 = [1, 3] := by decide +kernel
theorem st11 : sliceRange (sliceBounds (some 1) none (some 2) 1).1 (sliceBounds (some 1) none (some 2) 1).2.1 (sliceBounds (some 1) none (some 2) 1).2.2 = [] := by decide +kernel
theorem st02 : sliceRange (sliceBounds none none (some 2) 2).1 (sliceBounds none none (some 2) 2).2.1 (sliceBounds none none (some 2) 2).2.2 = [0] := by decide +kernel
theorem st04 : sliceRange (sliceBounds none none (some 2) 4).1 (sliceBounds none none (some 2) 4).2.1 (sliceBounds none none (some 2) 4).2.2 = [0, 2] := by decide +kernel
theorem st01 : sliceRange (sliceBounds none none (some 2) 1).1 (sliceBounds none none (some 2) 1).2.1 (sliceBounds none none (some 2) 1).2.2 = [0] := by decide +kernel
theorem step_of {xs : List V} {lo hi st : Option Int} {n : Nat} {l : List Nat} (hn : xs.length = n) (h : sliceRange (sliceBounds lo hi st n).1 (sliceBounds lo hi st n).2.1 (sliceBounds lo hi st n).2.2 = l) : stepV xs lo hi st = l.filterMap (fun i => xs[i]?) := by
  unfold stepV
  rw [hn, h]
theorem step_nums (m : Mv) : stepV (m.words.map V.str) (some 1) none (some 2) = (m.nums.map num).map V.str := by
  cases m with
  | beg a => exact step_of (n := 2) rfl st12
  | take t => exact step_of (n := 2) rfl st12
  | takeBy t a => exact step_of (n := 4) rfl st14
  | right t a => exact step_of (n := 4) rfl st14
  | shut => exact step_of (n := 1) rfl st11
theorem step_evens (m : Mv) : stepV (m.words.map V.str) none none (some 2) = m.evens.map V.str := by
  cases m with
  | beg a => exact step_of (n := 2) rfl st02
  | take t => exact step_of (n := 2) rfl st02
  | takeBy t a => exact step_of (n := 4) rfl st04
  | right t a => exact step_of (n := 4) rfl st04
  | shut => exact step_of (n := 1) rfl st01
theorem nums_len (m : Mv) : m.nums.length ≤ 2 := by cases m <;> (simp only [Mv.nums, List.length_cons, List.length_nil]; omega)
theorem evens_len (m : Mv) : m.evens.length ≤ 2 := by cases m <;> (simp only [Mv.evens, List.length_cons, List.length_nil]; omega)
theorem none_in (l : List Int) : inV .non (l.map V.int) = false := by
  induction l with
  | nil => rfl
  | cons a l ih => exact ih
theorem flat_ints (l : List Int) : (l.map V.int).all flatV = true := by
  induction l with
  | nil => rfl
  | cons a l ih => exact ih
theorem get_num {l : List Int} {i : Nat} {z : V} (h : (List.map V.str (List.map num l))[i]? = some z) : ∃ t, l[i]? = some t ∧ z = .str (num t) := by
  rw [List.getElem?_map, List.getElem?_map] at h
  cases e : l[i]? with
  | none => rw [e] at h; cases h
  | some t =>
    rw [e] at h
    exact ⟨t, rfl, (Option.some.inj h).symm⟩
theorem take_next' {α : Type} : ∀ {l : List α} {i : Nat} {x : α}, l[i]? = some x → l.take (i + 1) = l.take i ++ [x]
  | [], i, x, h => by simp at h
  | a :: l, 0, x, h => by
    have e : a = x := Option.some.inj h
    subst e
    rfl
  | a :: l, i + 1, x, h => by
    have ih := take_next' (l := l) (i := i) (x := x) h
    show a :: l.take (i + 1) = a :: l.take i ++ [x]
    rw [ih]
    rfl
def spRM (c : Cl) : Sp := fun vs H Q _ => ∃ m : Mv, vs = [.str m.text] ∧ m.ok ∧ ∀ (x dx : Addr) (H' : Hp), Same H H' → H' x = some (m.obj c dx) → Q (.ref x) H'
section
variable {P : Program} {w : World} {K : PySem.W.Frag} {mg : Str → Option Value} {base : Heap}
abbrev CalReadNumber (P : Program) (w : World) (K : PySem.W.Frag) (mg : Str → Option Value) (base : Heap) : Prop := Cal P w K mg base CX0 "read_number" 1 ["text"] spRN
abbrev CalMoveOf (P : Program) (w : World) (K : PySem.W.Frag) (mg : Str → Option Value) (base : Heap) (c : Cl) : Prop := Cal P w K mg base CX0 "move_of" 6 ["words", "numbers"] (spMO c)
end
end V3

set_option Elab.async false
set_option linter.all false
set_option maxRecDepth 100000
namespace V3
open PySem L2 TL
/-! read_moves -/
def MvsAt (c : Cl) (H : Hp) : List V → List Mv → Prop
  | [], [] => True
  | x :: xs, m :: ms => MvAt c H x m ∧ MvsAt c H xs ms
  | _, _ => False
theorem MvsAt.same {c : Cl} {H H' : Hp} (s : Same H H') : ∀ {xs : List V} {ms : List Mv}, MvsAt c H xs ms → MvsAt c H' xs ms
  | [], [], _ => trivial
  | _ :: _, _ :: _, h => ⟨h.1.same s, MvsAt.same s h.2⟩
  | [], _ :: _, h => h.elim
  | _ :: _, [], h => h.elim
theorem MvsAt.snoc {c : Cl} {H : Hp} {x : V} {m : Mv} (hx : MvAt c H x m) : ∀ {xs : List V} {ms : List Mv}, MvsAt c H xs ms → MvsAt c H (xs ++ [x]) (ms ++ [m])
  | [], [], _ => ⟨hx, trivial⟩
  | _ :: _, _ :: _, h => ⟨h.1, MvsAt.snoc hx h.2⟩
  | [], _ :: _, h => h.elim
  | _ :: _, [], h => h.elim
theorem MvsAt.len {c : Cl} {H : Hp} : ∀ {xs : List V} {ms : List Mv}, MvsAt c H xs ms → xs.length = ms.length
  | [], [], _ => rfl
  | _ :: xs, _ :: ms, h => by rw [List.length_cons, List.length_cons, MvsAt.len h.2]
  | [], _ :: _, h => h.elim
  | _ :: _, [], h => h.elim
theorem MvAt.upd_lst {c : Cl} {H : Hp} {D : Addr} {o : HO} {ys : List V} {v : V} {m : Mv} (hD : H D = some (.lst ys)) (h : MvAt c H v m) : MvAt c (upd H D o) v m := by
  obtain ⟨x, dx, rfl, hx⟩ := h
  refine ⟨x, dx, rfl, ?_⟩
  have ne : x ≠ D := by
    intro e
    subst e
    rw [hx] at hD
    obtain ⟨fs, eo⟩ := mv_at c m dx
    rw [eo] at hD
    cases hD
  rw [upd_ne ne]
  exact hx
theorem MvsAt.upd_lst {c : Cl} {H : Hp} {D : Addr} {o : HO} {ys : List V} (hD : H D = some (.lst ys)) : ∀ {xs : List V} {ms : List Mv}, MvsAt c H xs ms → MvsAt c (upd H D o) xs ms
  | [], [], _ => trivial
  | _ :: _, _ :: _, h => ⟨h.1.upd_lst hD, MvsAt.upd_lst hD h.2⟩
  | [], _ :: _, h => h.elim
  | _ :: _, [], h => h.elim
def semi : Str := "; "
theorem semi_tl : tl semi = [59, 32] := by decide +kernel
def hText (ms : List Mv) : Str := Str.join semi (ms.map Mv.text)
theorem join_free {y : List Nat} {s : Nat} (hy : s ∉ y) : ∀ {l : List (List Nat)}, (∀ p ∈ l, s ∉ p) → s ∉ joinL y l
  | [], _ => fun z => nomatch z
  | [a], h => h a (List.mem_cons_self ..)
  | a :: b :: l, h => by
    have e : joinL y (a :: b :: l) = a ++ y ++ joinL y (b :: l) := by first | rfl | simp [joinL]
    rw [e]
    intro z
    rcases List.mem_append.mp z with z | z
    · rcases List.mem_append.mp z with z | z
      · exact h a (List.mem_cons_self ..) z
      · exact hy z
    · exact join_free hy (fun p hp => h p (List.mem_cons_of_mem _ hp)) z
theorem text_free {m : Mv} (h : m.ok) : 59 ∉ tl m.text := by
  unfold Mv.text
  rw [tl_join]
  refine join_free (by rw [sp_tl]; decide) fun p hp => ?_
  obtain ⟨z, hz, rfl⟩ := List.mem_map.mp hp
  exact (words_free h z hz).2
theorem split_texts {ms : List Mv} (hne : ms ≠ []) (h : ∀ m ∈ ms, m.ok) : Txt.split (hText ms) semi = ms.map Mv.text := by
  unfold hText
  have z := split_join semi_tl (by decide +kernel) (parts := ms.map Mv.text) (fun e => hne (List.map_eq_nil_iff.mp e)) fun p hp => by
    obtain ⟨m, hm, rfl⟩ := List.mem_map.mp hp
    exact text_free (h m hm)
  rw [join_eq] at z
  exact z
theorem joinL_len {y : List Nat} {k : Nat} : ∀ {l : List (List Nat)}, (∀ p ∈ l, p.length ≤ k) → (joinL y l).length ≤ l.length * (k + y.length)
  | [], _ => by simp [joinL]
  | [a], h => by
    have z := h a (List.mem_cons_self ..)
    have e : joinL y [a] = a := by first | rfl | simp [joinL]
    rw [e, List.length_singleton]
    omega
  | a :: b :: l, h => by
    have e : joinL y (a :: b :: l) = a ++ y ++ joinL y (b :: l) := by first | rfl | simp [joinL]
    have z := h a (List.mem_cons_self ..)
    have ih := joinL_len (y := y) (k := k) (l := b :: l) fun p hp => h p (List.mem_cons_of_mem _ hp)
    rw [e, List.length_append, List.length_append, List.length_cons, Nat.succ_mul]
    omega
theorem hText_len {ms : List Mv} (h : ∀ m ∈ ms, m.ok) (n : ms.length ≤ 1000) : (hText ms).length ≤ 5002000 := by
  unfold hText
  rw [len_tl, tl_join]
  have z := joinL_len (y := tl semi) (k := 5000) (l := (ms.map Mv.text).map tl) fun p hp => by
    obtain ⟨q, hq, rfl⟩ := List.mem_map.mp hp
    obtain ⟨m, hm, rfl⟩ := List.mem_map.mp hq
    rw [← len_tl]
    exact text_len (h m hm)
  have e : (tl semi).length = 2 := by rw [semi_tl]; rfl
  rw [e, List.length_map, List.length_map] at z
  exact Nat.le_trans z (by omega)
theorem text_pos {m : Mv} : 0 < m.text.length := by
  rw [len_tl]
  unfold Mv.text
  rw [tl_join]
  have k : ∀ (a : List Nat) (l : List (List Nat)), a.length ≤ (joinL (tl sp1) (a :: l)).length := fun a l => by
    cases l with
    | nil => exact Nat.le_of_eq (by first | rfl | simp [joinL])
    | cons b l =>
      have e : joinL (tl sp1) (a :: b :: l) = a ++ tl sp1 ++ joinL (tl sp1) (b :: l) := by first | rfl | simp [joinL]
      rw [e, List.length_append, List.length_append]
      omega
  have e1 : 0 < (tl "begin").length := by decide +kernel
  have e2 : 0 < (tl "take").length := by decide +kernel
  have e3 : 0 < (tl "right").length := by decide +kernel
  have e4 : 0 < (tl "shut").length := by decide +kernel
  cases m with
  | beg a => exact Nat.lt_of_lt_of_le e1 (k _ _)
  | take t => exact Nat.lt_of_lt_of_le e2 (k _ _)
  | takeBy t a => exact Nat.lt_of_lt_of_le e2 (k _ _)
  | right t a => exact Nat.lt_of_lt_of_le e3 (k _ _)
  | shut => exact Nat.lt_of_lt_of_le e4 (k _ _)
theorem hText_pos {ms : List Mv} (hne : ms ≠ []) : (hText ms).length ≠ 0 := by
  cases ms with
  | nil => exact absurd rfl hne
  | cons m l =>
    have z := @text_pos m
    rw [len_tl] at z
    unfold hText
    rw [len_tl, tl_join]
    cases l with
    | nil =>
      have e : joinL (tl semi) ([Mv.text m].map tl) = tl m.text := by first | rfl | simp [joinL]
      show (joinL (tl semi) ([Mv.text m].map tl)).length ≠ 0
      rw [e]
      omega
    | cons b l =>
      have e : joinL (tl semi) (((m :: b :: l).map Mv.text).map tl) = tl m.text ++ tl semi ++ joinL (tl semi) (((b :: l).map Mv.text).map tl) := by first | rfl | simp [joinL]
      rw [e, List.length_append, List.length_append]
      omega
def spRMs (c : Cl) : Sp := fun vs H Q _ => ∃ ms : List Mv, vs = [.str (hText ms)] ∧ (∀ m ∈ ms, m.ok) ∧ ms.length ≤ 1000 ∧ ∀ (D : Addr) (xs : List V) (H' : Hp), Same H H' → H' D = some (.lst xs) → MvsAt c H' xs ms → Q (.ref D) H'
theorem set_ne' {σ : L2.St} {i j : Nat} {v : Option V} (h : i ≠ j) : (σ.set i v)[j]? = σ[j]? := List.getElem?_set_ne h
theorem set_eq' {σ : L2.St} {i : Nat} {v : Option V} (h : i < σ.length) : (σ.set i v)[i]? = some v := by
  rw [List.getElem?_set_self h]
section
variable {P : Program} {w : World} {K : PySem.W.Frag} {mg : Str → Option Value} {base : Heap}
abbrev CalReadMove (P : Program) (w : World) (K : PySem.W.Frag) (mg : Str → Option Value) (base : Heap) (c : Cl) : Prop := Cal P w K mg base CX0 "read_move" 7 ["text"] (spRM c)
/-- what the loop keeps -/
def RdI (c : Cl) (H : Hp) (ms : List Mv) (D p : Addr) (i : Nat) (σ : L2.St) (Hh : Hp) : Prop := σ.length = 6 ∧ σ[1]? = some (some (.ref D)) ∧ Same H Hh ∧ H D = none ∧ p ≠ D ∧ Hh p = some (.lst ((ms.map Mv.text).map V.str)) ∧ ∃ xs, Hh D = some (.lst xs) ∧ MvsAt c Hh xs (ms.take i)
theorem read_loop {c : Cl} {ms : List Mv} {H H2 : Hp} {D p : Addr} {σ : L2.St} {Q : VK} {nx : L2.St → Hp → Prop} (l6 : σ.length = 6) (hd : σ[1]? = some (some (.ref D))) (hp2 : σ[2]? = some (some (.ref p))) (S : Same H H2) (nD : H D = none) (pD : p ≠ D)
    (hp : H2 p = some (.lst ((ms.map Mv.text).map V.str))) (hD : H2 D = some (.lst [])) (ok : ∀ m ∈ ms, m.ok) (n : ms.length ≤ 1000)
    (k : ∀ (D : Addr) (xs : List V) (H' : Hp), Same H H' → H' D = some (HO.lst xs) → MvsAt c H' xs ms → Q (V.ref D) H') :
    tSeq (tFor (iEnum K (tCons (tVar 2) tNil)) (gTup K 2 (gCons (gName 3) (gCons (gName 4) gNil)))
        (tSeq (tAsg (tCall (spRM c) [] (fun _ _ _ => False) (tCons (tVar 4) tNil)) (gName 5))
          (tSeq (tIfS (tTest (tOp (fun x y H Q => y = V.non ∧ Q (V.bl (decide (x = V.non))) H) (tVar 5) (tC V.non))) tNever tNext)
            (tDrop (tBM K "list" rAppend (tVar 1) (tCons (tVar 5) tNil))))))
      (tRet (tVar 1)) { nx := nx, rt := Q } σ H2 := by
  have lp : ((ms.map Mv.text).map V.str).length = ms.length := by rw [List.length_map, List.length_map]
  refine ⟨_, hp2, p, _, rfl, SqL.of hp, ?_⟩
  refine for_it (walk_enum (K := K) (a := p) (xs := (ms.map Mv.text).map V.str)) (RdI c H ms D p) ⟨l6, hd, S, nD, pD, hp, [], hD, trivial⟩ (fun i σ Hh _ q => SqL.of q.2.2.2.2.2.1) ?_ ?_
  · rintro i v σ1 Hh Hh' hi ⟨l6, hd, S, nD, pD, hp, xs, hD, mv⟩ ⟨T, x, y, rfl, nT, rfl, ex, ey⟩
    have ex := (Option.some.inj ex).symm
    subst ex
    rw [lp] at hi
    have hm : ms[i]? = some ms[i] := List.getElem?_eq_getElem hi
    have ey2 : y = .str (ms[i]).text := by
      dsimp only at ey
      rw [List.getElem?_map, List.getElem?_map, hm] at ey
      exact (Option.some.inj ey).symm
    subst ey2
    have okm : (ms[i]).ok := ok _ (List.getElem_mem hi)
    refine ⟨T, _, rfl, SqT.of upd_same, rfl, _, _, rfl, ⟨_, _, rfl, rfl, ?_⟩⟩
    have sT : Same Hh (upd Hh T (.tup [.int (i : Nat), .str (ms[i]).text])) := Same.new nT
    generalize upd Hh T (.tup [.int (i : Nat), .str (ms[i]).text]) = H3 at sT ⊢
    refine ⟨_, set_eq' (by rw [List.length_set]; omega), ms[i], rfl, okm, fun z dz H4 s4 hz => ?_⟩
    have S4 : Same Hh H4 := sT.trans s4
    refine ⟨_, set_eq' (by rw [List.length_set, List.length_set]; omega), rfl, _, rfl, ?_⟩
    rw [decide_eq_false (fun e => nomatch e)]
    refine iteF ?_
    have l1 : (((σ1.set 3 (some (V.int (i : Nat)))).set 4 (some (V.str (ms[i]).text))).set 5 (some (V.ref z)))[1]? = some (some (V.ref D)) := by
      rw [set_ne' (by decide), set_ne' (by decide), set_ne' (by decide)]
      exact hd
    have l5 : (((σ1.set 3 (some (V.int (i : Nat)))).set 4 (some (V.str (ms[i]).text))).set 5 (some (V.ref z)))[5]? = some (some (V.ref z)) := set_eq' (by rw [List.length_set, List.length_set]; omega)
    have ll : (((σ1.set 3 (some (V.int (i : Nat)))).set 4 (some (V.str (ms[i]).text))).set 5 (some (V.ref z))).length = 6 := by
      rw [List.length_set, List.length_set, List.length_set]
      exact l6
    have hD4 := S4 _ _ hD
    have mz : MvAt c H4 (.ref z) ms[i] := ⟨z, dz, rfl, hz⟩
    have le := mv.len
    rw [List.length_take] at le
    refine ⟨_, l1, .inl ⟨rfl, _, SqL.of hD4⟩, _, l5, D, xs, _, rfl, rfl, hD4, Nat.lt_of_le_of_lt (m := 1000) (by omega) (by decide), ?_⟩
    refine ⟨ll, l1, ?_, nD, pD, ?_, xs ++ [.ref z], upd_same, ?_⟩
    · intro a o e
      rw [upd_ne (ne_of_none e nD)]
      exact S4 _ _ (S _ _ e)
    · rw [upd_ne pD]
      exact S4 _ _ hp
    · rw [take_next' hm]
      exact MvsAt.snoc (mz.upd_lst hD4) ((mv.same S4).upd_lst hD4)
  · rintro σ1 Hh ⟨l6, hd, S, nD, pD, hp, xs, hD, mv⟩
    rw [lp, List.take_length] at mv
    exact ⟨_, hd, k D xs Hh S hD mv⟩
end
end V3

set_option Elab.async false
set_option linter.all false
set_option maxRecDepth 100000
namespace V3
open PySem L2 TL
-- no sIsMoves
-- no sHInit
-- no sHEq
-- no sHStr
/-! histories -/
def hist (C dx q : Addr) : HO := .ins C dx [("moves", .ref q)]
def HiAt (c : Cl) (H : Hp) (v : V) (ms : List Mv) : Prop := ∃ x dx q xs, v = .ref x ∧ H x = some (hist c.Hi dx q) ∧ H q = some (.tup xs) ∧ MvsAt c H xs ms
theorem HiAt.same {c : Cl} {H H' : Hp} {v : V} {ms : List Mv} (h : HiAt c H v ms) (s : Same H H') : HiAt c H' v ms := by
  obtain ⟨x, dx, q, xs, e, hx, hq, mv⟩ := h
  exact ⟨x, dx, q, xs, e, s _ _ hx, s _ _ hq, mv.same s⟩
theorem MvsAt.at {c : Cl} {H : Hp} : ∀ {xs : List V} {ms : List Mv} {i : Nat} {x : V}, MvsAt c H xs ms → xs[i]? = some x → ∃ m, ms[i]? = some m ∧ MvAt c H x m
  | [], _, i, x, _, e => by simp at e
  | _ :: _, [], _, _, h, _ => h.elim
  | y :: ys, m :: ms, 0, x, h, e => ⟨m, rfl, by
    have e2 : y = x := Option.some.inj e
    subst e2
    exact h.1⟩
  | y :: ys, m :: ms, i + 1, x, h, e => MvsAt.at (xs := ys) (ms := ms) (i := i) h.2 e
structure BltH (mg : Str → Option Value) : Prop where
  isi : mg "isinstance" = none
  list : mg "list" = none
  tuple : mg "tuple" = none
  all : mg "all" = none
  str : mg "str" = none
def spIsMM (c : Cl) : Sp := fun vs H Q _ => ∃ (a : Addr) (xs : List V) (ms : List Mv), vs = [.ref a] ∧ H a = some (.lst xs) ∧ MvsAt c H xs ms ∧ ms.length ≤ 1000 ∧ ∀ H', Same H H' → Q (.bl true) H'
def spHIM (c : Cl) : Sp := fun vs H Q _ => ∃ (x dx a : Addr) (xs : List V) (ms : List Mv), vs = [.ref x, .ref a] ∧ H x = some (.ins c.Hi dx []) ∧ H a = some (.lst xs) ∧ MvsAt c H xs ms ∧ ms.length ≤ 1000 ∧
  ∀ (q : Addr) (H' : Hp), (∀ d o, d ≠ x → H d = some o → H' d = some o) → H' x = some (hist c.Hi dx q) → H' q = some (.tup xs) → Q .non H'
theorem all_tt : ∀ n : Nat, (List.replicate n (V.bl true)).all (fun v => v == .bl true) = true := by
  intro n
  induction n with
  | zero => rfl
  | succ n ih => rw [List.replicate_succ, List.all_cons, ih]; rfl
theorem rep_bl (n : Nat) : List.replicate n (V.bl true) = (List.replicate n true).map V.bl := by
  rw [List.map_replicate]
section
variable {P : Program} {w : World} {K : PySem.W.Frag} {mg : Str → Option Value} {base : Heap}
theorem kitAny_lt {K : PySem.W.Frag} : PySem.W.kitAny K (.type "list") [.type "list", .type "tuple"] = some true := by
  refine kitAny_cons (show PySem.W.kitOne K (.type "list") (.type "list") = some true from kit_ty (by decide +kernel)) (fun z => by cases z) (fun z => rfl)
abbrev CalIsMM (P : Program) (w : World) (K : PySem.W.Frag) (mg : Str → Option Value) (base : Heap) (c : Cl) : Prop := Cal P w K mg base CX0 "is_moves" 1 ["value"] (spIsMM c)
end
end V3

set_option Elab.async false
set_option linter.all false
set_option maxRecDepth 100000
namespace V3
open PySem L2 TL
def spRead (c : Cl) : Sp := fun vs H Q _ => ∃ ms : List Mv, vs = [.ref c.Hi, .str (hText ms)] ∧ (∀ m ∈ ms, m.ok) ∧ ms.length ≤ 1000 ∧ ∀ v H', Same H H' → HiAt c H' v ms → Q v H'
def spHStr (c : Cl) : Sp := fun vs H Q _ => ∃ v ms, vs = [v] ∧ HiAt c H v ms ∧ (∀ m ∈ ms, m.ok) ∧ ms.length ≤ 1000 ∧ ∀ H', Same H H' → Q (.str (hText ms)) H'
def spHEq (c : Cl) : Sp := fun vs H Q _ => ∃ u v ms, vs = [u, v] ∧ HiAt c H u ms ∧ HiAt c H v ms ∧ (∀ m ∈ ms, m.ok) ∧ ∀ H', Same H H' → Q (.bl true) H'
/-- the two moves are the same -/
def DMv (c : Cl) : Eqv := fun x y H => ∃ m : Mv, MvAt c H x m ∧ MvAt c H y m ∧ m.ok
theorem mon_mv {c : Cl} : Mon (DMv c) := fun x y H H' e d => by
  obtain ⟨m, hx, hy, ok⟩ := d
  exact ⟨m, hx.same e, hy.same e, ok⟩
theorem prs_mv {c : Cl} {H : Hp} : ∀ {xs ys : List V} {ms : List Mv}, MvsAt c H xs ms → MvsAt c H ys ms → (∀ m ∈ ms, m.ok) → Prs (DMv c) xs ys H
  | [], [], [], _, _, _ => Prs.nil
  | x :: xs, y :: ys, m :: ms, h, h2, ok => Prs.cons ⟨m, h.1, h2.1, ok m (List.mem_cons_self ..)⟩ (prs_mv h.2 h2.2 fun m hm => ok m (List.mem_cons_of_mem _ hm))
  | [], _, _ :: _, h, _, _ => h.elim
  | _ :: _, _, [], h, _, _ => h.elim
  | _, [], _ :: _, _, h, _ => h.elim
  | _, _ :: _, [], _, h, _ => h.elim
structure EqTxt (P : Program) (w : World) (K : PySem.W.Frag) (mg : Str → Option Value) (base : Heap) (c : Cl) : Prop where
  e : ∀ k, k < 4 → ∃ (f : Addr) (fd : FuncData), FnOk P w K mg base CX0 4 f fd ["self", "other"] (spMEq c) ∧ EqCls K (c.at k) f ∧ Binds K fd ["self", "other"] []
section
variable {X : Cx} {c : Cl}
theorem rcG_mv (T : EqTxt X.prog X.w X.K X.mg X.base c) : RcG X 4 (DMv c) := by
  intro A pins s σ H x y u v sb I rx ry d
  obtain ⟨m, ⟨a, dx, rfl, ha⟩, ⟨b, dy, rfl, hb⟩, ok⟩ := d
  obtain ⟨f, fd, F, ec, bi⟩ := T.e m.kind (kind_lt m)
  obtain ⟨fs, eo⟩ := mv_at c m dx
  obtain ⟨gs, eo2⟩ := mv_at c m dy
  cases rx
  cases ry
  obtain ⟨mA, J, _⟩ := ins_get I.hok (ha.trans (congrArg some eo))
  obtain ⟨mB, J', _⟩ := ins_get I.hok (hb.trans (congrArg some eo2))
  obtain ⟨od, J, _⟩ := J.look
  obtain ⟨od', J', _⟩ := J'.look
  obtain ⟨mm, hF⟩ := I.fr
  refine PySem.W.cmp_K (op := .Eq) (tb := .ref (c.at m.kind)) sb.room.units0 hF I.ok.mod.kin J J'.type (by simp [PySem.W.notFirst]) ec.eq ec.fn ?_
  refine wpAny_mono (run_own (x := .ref a) (y := .ref b) (E := fun _ _ _ => False) (Q := fun v H' => v = .bl true ∧ H' = H) sb F bi pass0 I rfl rfl ⟨_, _, m, m, rfl, ⟨a, dx, rfl, ha⟩, ⟨b, dy, rfl, hb⟩, ok, ok, by rw [decide_eq_true rfl], rfl⟩) (fun w s' q => ?_) fun _ _ e => e
  obtain ⟨z, H', I', rz, ez, eH⟩ := q
  subst ez
  subst eH
  cases rz
  exact ⟨rfl, H', I', Ext.rfl'⟩
theorem eqG_mv (T : EqTxt X.prog X.w X.K X.mg X.base c) : EqG X 4 (DMv c) := (rcG_mv T).eqG fun _ _ _ d => by
  obtain ⟨m, ⟨a, dx, rfl, ha⟩, ⟨b, dy, rfl, hb⟩, ok⟩ := d
  exact ⟨a, b, rfl, rfl⟩
end
structure HiCls (K : PySem.W.Frag) (c : Cl) : Prop where
  cl : Cls K c.Hi
  nM : NoAttr K c.Hi "moves"
  ca : PySem.W.findIn K (.ref c.Hi) "__class__" = some (some (.builtin "object.__class__"))
  gn : PySem.W.specialIn K (.builtin "object.__class__") "__get__" = some (some (.builtin "getset_descriptor.__get__"))
  tk : PySem.W.takesIn K (.builtin "object.__class__") = some true
  mr : PySem.W.mroIn K c.Hi (.type "object") = some true
  ki : PySem.W.kitOne K (.ref c.Hi) (.ref c.Hi) = some true
section
variable {P : Program} {w : World} {K : PySem.W.Frag} {mg : Str → Option Value} {base : Heap}
theorem sum_texts : ∀ {ms : List Mv}, (∀ m ∈ ms, m.ok) → ((ms.map Mv.text).map (·.length)).sum ≤ ms.length * 5000
  | [], _ => Nat.le_refl _
  | m :: ms, h => by
    have ih := sum_texts (ms := ms) fun z hz => h z (List.mem_cons_of_mem _ hz)
    have z := text_len (h m (List.mem_cons_self ..))
    rw [List.map_cons, List.map_cons, List.sum_cons, List.length_cons, Nat.succ_mul]
    omega
abbrev CalReadMoves (P : Program) (w : World) (K : PySem.W.Frag) (mg : Str → Option Value) (base : Heap) (c : Cl) : Prop := Cal P w K mg base CX0 "read_moves" 8 ["text"] (spRMs c)
/-- History's making -/
structure HiTxt (P : Program) (w : World) (K : PySem.W.Frag) (mg : Str → Option Value) (base : Heap) (c : Cl) : Prop where
  g : mg "History" = some (.ref c.Hi)
  ini : ∃ (f : Addr) (fd : FuncData), FnOk P w K mg base CX0 3 f fd ["self", "moves"] (spHIM c) ∧ Mk K c.Hi f ∧ Binds K fd ["self", "moves"] []
theorem hi_made {c : Cl} {H H' : Hp} {x dx q : Addr} {xs : List V} {ms : List Mv} (nx : H x = none) (ndx : H dx = none) (mv : MvsAt c H xs ms) (s : ∀ d o, d ≠ x → upd (upd H dx (.own x)) x (.ins c.Hi dx []) d = some o → H' d = some o)
    (hx : H' x = some (hist c.Hi dx q)) (hq : H' q = some (.tup xs)) : Same H H' ∧ HiAt c H' (.ref x) ms := by
  have S : Same H H' := fun d o e => by
    have n1 := ne_of_none e nx
    refine s d o n1 ?_
    rw [upd_ne n1, upd_ne (ne_of_none e ndx)]
    exact e
  exact ⟨S, x, dx, q, xs, rfl, hx, hq, mv.same S⟩
end
end V3

set_option Elab.async false
set_option linter.all false
set_option maxRecDepth 100000
namespace V3
open PySem L2 TL
-- no sEmpty
-- no sBooksL
-- no sLawText
/-- a drawn move -/
def TmA (m : Mv) : V → Hp → Prop := fun v H => TupAt H v m
instance {m : Mv} : StL (TmA m) := ⟨fun _ _ _ s ⟨p, e, h⟩ => ⟨p, e, s _ _ (fun _ z => by cases z) h⟩⟩
def spEmpty : Sp := fun vs H Q _ => vs = [] ∧ ∀ u H', Same H H' → LBk b0 u H' → Q u H'
/-- the books ahead of moves and behind each that is let -/
def booksB (h : Hs) : Bk → List Mv → List Bk
  | b, [] => [b]
  | b, m :: r => b :: (match doB h b m with
    | some b' => booksB h b' r
    | none => [])
def spBooksL : Sp := fun vs H Q _ => ∃ (hv lv : V) (h : Hs) (ms : List Mv), vs = [hv, lv] ∧ HtA h hv H ∧ isL TmA ms lv H ∧ h.ok ∧ (∀ m ∈ ms, m.ok) ∧ ms.length ≤ 200 ∧ ∀ D us H', H D = none → Same H H' → H' D = some (.lst us) → Ls (fun u b => LBk b u H') us (booksB h b0 ms) → Q (.ref D) H'
def spTexts : Sp := fun vs H Q _ => ∃ (lv : V) (ms : List Mv), vs = [lv] ∧ isL TmA ms lv H ∧ (∀ m ∈ ms, m.ok) ∧ ms.length ≤ 200 ∧ ∀ H', Same H H' → Q (.str (hText ms)) H'
theorem do_len {h : Hs} {b b' : Bk} {m : Mv} (e : doB h b m = some b') : b'.es.length ≤ b.es.length + 2 := by
  have tk : ∀ (j : Nat) (o : Option Int), takeB h b j o = some b' → b'.es.length ≤ b.es.length + 2 := fun j o e => by
    unfold takeB at e
    split at e
    · split at e
      · cases e
      · split at e
        · cases e
        · split at e
          · cases e
          · split at e
            · cases e
            · cases e
              simp
    · cases e
  cases m with
  | beg a => cases (show some (Bk.mk _ _) = some b' from e); simp
  | take t => exact tk _ _ e
  | takeBy t a => exact tk _ _ e
  | shut => cases (show some (Bk.mk _ _) = some b' from e); simp
  | right t a =>
    have e : rightB h b t.toNat a = some b' := e
    unfold rightB at e
    split at e
    · split at e
      · cases e
      · split at e
        · cases e
        · cases e
          simp
    · cases e
theorem Wf.play {h : Hs} : ∀ {ms : List Mv} {b b' : Bk}, Wf b → playB h b ms = some b' → Wf b' ∧ b'.es.length ≤ b.es.length + 2 * ms.length
  | [], b, b', w, e => by
    cases (show some b = some b' from e)
    exact ⟨w, by simp⟩
  | m :: r, b, b', w, e => by
    have e : (match doB h b m with
      | none => none
      | some b' => playB h b' r) = some b' := e
    cases d : doB h b m with
    | none => rw [d] at e; cases e
    | some b1 =>
      rw [d] at e
      have z := Wf.play (w.do d) e
      have l := do_len d
      refine ⟨z.1, ?_⟩
      have := z.2
      simp only [List.length_cons]
      omega
theorem play_snoc {h : Hs} {m : Mv} : ∀ {ms : List Mv} {b : Bk}, playB h b (ms ++ [m]) = (playB h b ms).bind fun b' => doB h b' m
  | [], b => by
    show (match doB h b m with
      | none => none
      | some b' => some b') = doB h b m
    cases doB h b m <;> rfl
  | x :: r, b => by
    show (match doB h b x with
      | none => none
      | some b' => playB h b' (r ++ [m])) = (match doB h b x with
      | none => none
      | some b' => playB h b' r).bind _
    cases doB h b x with
    | none => rfl
    | some b1 => exact play_snoc
theorem books_cut {h : Hs} : ∀ {ms : List Mv} {b : Bk} {i : Nat} {b' : Bk}, i ≤ ms.length → playB h b (ms.take i) = some b' → ∃ bs : List Bk, bs.length = i ∧ booksB h b ms = bs ++ booksB h b' (ms.drop i) ∧ ∀ k, k < i → playB h b (ms.take k) = bs[k]?
  | ms, b, 0, b', _, e => by
    rw [List.take_zero] at e
    cases (show some b = some b' from e)
    exact ⟨[], rfl, by simp, fun k hk => absurd hk (Nat.not_lt_zero _)⟩
  | [], _, i + 1, _, h, _ => absurd h (by simp)
  | m :: r, b, i + 1, b', hl, e => by
    have e : (match doB h b m with
      | none => none
      | some b' => playB h b' (r.take i)) = some b' := e
    cases d : doB h b m with
    | none => rw [d] at e; cases e
    | some b1 =>
      rw [d] at e
      obtain ⟨bs, l, q, z⟩ := books_cut (ms := r) (i := i) (by simpa using hl) e
      refine ⟨b :: bs, by simp [l], ?_, fun k hk => ?_⟩
      · show b :: (match doB h b m with
          | some b' => booksB h b' r
          | none => []) = _
        rw [d]
        show b :: booksB h b1 r = b :: (bs ++ booksB h b' (r.drop i))
        rw [q]
      · cases k with
        | zero => rfl
        | succ k =>
          show (match doB h b m with
            | none => none
            | some b' => playB h b' (r.take k)) = _
          rw [d]
          exact z k (by omega)
theorem sum_texts' : ∀ {l : List Mv}, (∀ m ∈ l, m.ok) → ((l.map Mv.text).map (·.length)).sum ≤ 5000 * l.length
  | [], _ => by simp
  | m :: l, h => by
    have a := text_len (h m (List.mem_cons_self ..))
    have b := sum_texts' (l := l) fun x hx => h x (List.mem_cons_of_mem _ hx)
    simp only [List.map_cons, List.sum_cons, List.length_cons]
    omega
section
variable {K : PySem.W.Frag} {σ : L2.St} {ta tb te : TE} {H0 : Hp} {b : Bk} {j : Nat} {h : Hs} {ms : List Mv}
theorem ev_texts (ok : ∀ m ∈ ms, m.ok) (n : ms.length ≤ 200) (ha : EvV (Same H0) σ ta (isL TmA ms)) : EvV (Same H0) σ (tCall spTexts [] E0 (tCons ta tNil)) (isSv (hText ms)) :=
  ev_call (eva_cons ha eva_nil) fun vs H Q _ r k => by
    obtain ⟨v, r, rfl, hv, rfl⟩ := r
    exact ⟨v, ms, rfl, hv, ok, n, fun H' s => k _ H' s rfl⟩
theorem ev_mvText {m : Mv} (ok : m.ok) (ha : EvV (Same H0) σ ta (TmA m)) : EvV (Same H0) σ (tCall spText [] E0 (tCons ta tNil)) (isSv m.text) :=
  ev_call (eva_cons ha eva_nil) fun vs H Q _ r k => by
    obtain ⟨v, r, rfl, hv, rfl⟩ := r
    exact ⟨v, m, rfl, hv, ok, k _ H (Same.refl H) rfl⟩
theorem ev_empty : EvV (Same H0) σ (tCall spEmpty [] E0 tNil) (LBk b0) := fun H Q w k => ⟨rfl, fun u H' s e => k u H' s (w.trans s) e⟩
end
section
variable {P : Program} {w : World} {K : PySem.W.Frag} {mg : Str → Option Value} {base : Heap}
end
end V3

set_option Elab.async false
set_option linter.all false
set_option maxRecDepth 100000
/-! drawn histories that a house lets; how great amounts become -/
namespace V3
open PySem L2 TL
-- no sDrawn
-- no sHistory
def sN (es : List En) : Nat := (es.map fun e => e.am.natAbs).sum
def absN (ls : List Int) : Nat := (ls.map Int.natAbs).sum
theorem abs_set {x : Int} : ∀ {ls : List Int} {t : Nat}, t < ls.length → absN (ls.set t x) + (ls.getD t 0).natAbs = absN ls + x.natAbs
  | [], t, h => absurd h (Nat.not_lt_zero _)
  | a :: r, 0, _ => by
    show (x :: r).map Int.natAbs |>.sum |> (· + a.natAbs) |> (· = _)
    simp only [absN, List.map_cons, List.sum_cons]
    omega
  | a :: r, t + 1, h => by
    have z := abs_set (x := x) (ls := r) (t := t) (by simpa using h)
    have g : (a :: r).getD (t + 1) 0 = r.getD t 0 := by simp
    rw [g]
    simp only [List.set_cons_succ, absN, List.map_cons, List.sum_cons]
    simp only [absN] at z
    omega
theorem abs_take {ls : List Int} {k : Nat} (h : k < ls.length) : absN (ls.take (k + 1)) = absN (ls.take k) + (ls.getD k 0).natAbs := by
  rw [List.take_succ, getD_at h]
  simp [absN]
theorem left_from {es : List En} (w : ∀ j t, taAt es j = some t → t < j) : ∀ (k : Nat) (ls : List Int), k ≤ ls.length → (∀ j, j < k → ((leftsFrom es k ls).getD j 0).natAbs ≤ absN (ls.take k)) ∧ ∀ j, k ≤ j → (leftsFrom es k ls).getD j 0 = ls.getD j 0
  | 0, ls, _ => ⟨fun j h => absurd h (Nat.not_lt_zero _), fun _ _ => rfl⟩
  | k + 1, ls, hk => by
    obtain ⟨a, c⟩ := left_from w k (leftStep es ls k) (by rw [leftStep_len]; omega)
    have hs : (leftStep es ls k).getD k 0 = ls.getD k 0 ∧ (∀ j, k < j → (leftStep es ls k).getD j 0 = ls.getD j 0) ∧ absN ((leftStep es ls k).take k) ≤ absN (ls.take k) + (ls.getD k 0).natAbs := by
      cases e : taAt es k with
      | none =>
        rw [leftStep_none e]
        exact ⟨rfl, fun _ _ => rfl, Nat.le_add_right _ _⟩
      | some t =>
        have tk := w k t e
        rw [leftStep_some e]
        refine ⟨?_, fun j hj => ?_, ?_⟩
        · simp only [List.getD_eq_getElem?_getD]
          rw [List.getElem?_set_ne (by omega)]
        · simp only [List.getD_eq_getElem?_getD]
          rw [List.getElem?_set_ne (by omega)]
        · rw [List.take_set]
          have z := abs_set (x := ls.getD t 0 - ls.getD k 0) (ls := ls.take k) (t := t) (by rw [List.length_take]; omega)
          have g : (ls.take k).getD t 0 = ls.getD t 0 := by
            simp only [List.getD_eq_getElem?_getD]
            rw [List.getElem?_take_of_lt tk]
          rw [g] at z
          omega
    obtain ⟨e1, e2, e3⟩ := hs
    rw [abs_take (by omega)]
    refine ⟨fun j hj => ?_, fun j hj => ?_⟩
    · show ((leftsFrom es k (leftStep es ls k)).getD j 0).natAbs ≤ _
      by_cases q : j < k
      · have := a j q
        omega
      · have : j = k := by omega
        subst this
        rw [c _ (Nat.le_refl _), e1]
        omega
    · show (leftsFrom es k (leftStep es ls k)).getD j 0 = _
      rw [c j (by omega), e2 j (by omega)]
theorem left_le {b : Bk} (w : Wf b) (j : Nat) : (leftAt b.es j).natAbs ≤ sN b.es := by
  obtain ⟨a, c⟩ := left_from w.ta b.es.length (b.es.map (·.am)) (by rw [List.length_map]; exact Nat.le_refl _)
  have e : absN ((b.es.map (·.am)).take b.es.length) = sN b.es := by
    rw [List.take_of_length_le (by rw [List.length_map]; exact Nat.le_refl _)]
    unfold absN sN
    rw [List.map_map]
    rfl
  by_cases q : j < b.es.length
  · have z := a j q
    rw [e] at z
    exact z
  · have z : leftAt b.es j = (b.es.map (·.am)).getD j 0 := c j (by omega)
    rw [z, List.getD_eq_getElem?_getD, List.getElem?_eq_none (by rw [List.length_map]; omega)]
    exact Nat.zero_le _
theorem am_le {es : List En} (j : Nat) : (amAt es j).natAbs ≤ sN es := by
  unfold amAt
  cases e : es[j]? with
  | none => exact Nat.zero_le _
  | some x =>
    have hx := List.mem_of_getElem? e
    clear e
    induction es with
    | nil => cases hx
    | cons a r ih =>
      have z : sN (a :: r) = a.am.natAbs + sN r := by simp [sN]
      rcases List.mem_cons.mp hx with rfl | hx
      · show x.am.natAbs ≤ _
        omega
      · have := ih hx
        omega
/-- no greater than what is there lets -/
def Small (b : Bk) : Mv → Prop
  | .beg a => a ≤ 1000000
  | .takeBy _ a => a ≤ (sN b.es : Int) + 1
  | .right _ a => a ≤ 9
  | _ => True
theorem sN_app {es fs : List En} : sN (es ++ fs) = sN es + sN fs := by simp [sN]
theorem sN_one {e : En} : sN [e] = e.am.natAbs := by simp [sN]
theorem do_sum {h : Hs} {b b' : Bk} {m : Mv} (w : Wf b) (ok : m.ok) (s : Small b m) (e : doB h b m = some b') : sN b'.es ≤ 2 * sN b.es + 1000000 := by
  have tk : ∀ (j : Nat) (o : Option Int), (∀ a, o = some a → 1 ≤ a ∧ a ≤ (sN b.es : Int) + 1) → takeB h b j o = some b' → sN b'.es ≤ 2 * sN b.es + 1000000 := fun j o so e => by
    unfold takeB at e
    split at e
    · split at e
      · cases e
      · split at e
        · cases e
        · split at e
          · cases e
          · split at e
            · cases e
            · cases e
              show sN (b.es ++ [_]) ≤ _
              rw [sN_app, sN_one]
              show _ + (o.getD (leftAt b.es j)).natAbs ≤ _
              have l := left_le w j
              cases o with
              | none =>
                show _ + (leftAt b.es j).natAbs ≤ _
                omega
              | some a =>
                have z := so a rfl
                show _ + a.natAbs ≤ _
                omega
    · cases e
  cases m with
  | beg a =>
    cases (show some (Bk.mk _ _) = some b' from e)
    have s : a ≤ 1000000 := s
    have ok : V3.Amt a := ok
    show sN (b.es ++ [_]) ≤ _
    rw [sN_app, sN_one]
    show _ + a.natAbs ≤ _
    have := ok.1
    omega
  | take t => exact tk _ _ (fun a q => by cases q) e
  | takeBy t a => exact tk _ _ (fun a' q => by cases q; exact ⟨ok.2.1, s⟩) e
  | shut =>
    cases (show some (Bk.mk _ _) = some b' from e)
    show sN b.es ≤ _
    omega
  | right t a =>
    have e : rightB h b t.toNat a = some b' := e
    have s : a ≤ 9 := s
    have o1 := ok.2.1
    unfold rightB at e
    split at e
    · split at e
      · cases e
      · split at e
        · cases e
        · cases e
          show sN (b.es ++ [_, _]) ≤ _
          rw [sN_app]
          have l := am_le (es := b.es) t.toNat
          have z : ∀ x y : En, sN [x, y] = x.am.natAbs + y.am.natAbs := fun x y => by simp [sN]
          rw [z]
          show _ + ((amAt b.es t.toNat).natAbs + a.natAbs) ≤ _
          omega
    · cases e
def spMoveD : Sp := fun vs H Q _ => ∃ (b : Addr) (bv : V) (u v : Int) (bk : Bk), vs = [.ref b, bv] ∧ H b = some (box u v) ∧ BoxOk u v ∧ LBk bk bv H ∧ Wf bk ∧ bk.es.length ≤ 900 ∧ sN bk.es ≤ 1000000000000000000000000000000000000 ∧
  ∀ m x H', Pre b H H' → Mv.ok m → Small bk m → TmA m x H' → Q x H'
def spHist : Sp := fun vs H Q _ => ∃ (b : Addr) (hv : V) (u v n : Int) (h : Hs), vs = [.ref b, hv, .int n] ∧ H b = some (box u v) ∧ BoxOk u v ∧ HtA h hv H ∧ h.ok ∧ 0 ≤ n ∧ n ≤ 60 ∧
  ∀ D us ms b' H', H D = none → Pre b H H' → H' D = some (.lst us) → Ls (fun u m => TmA m u H') us ms → (∀ m ∈ ms, Mv.ok m) → (ms.length : Int) ≤ n → playB h b0 ms = some b' → sN b'.es ≤ 1000000 * 2 ^ ms.length → Q (.ref D) H'
section
variable {P : Program} {w : World} {K : PySem.W.Frag} {mg : Str → Option Value} {base : Heap}
end
end V3

set_option Elab.async false
set_option linter.all false
set_option maxRecDepth 100000
/-! entries and books of the program: how they are made -/
namespace V3
open PySem L2 TL
-- no sEnInit
-- no sBkInit
-- no sLeftsOf
def oV : Option Nat → V
  | some n => .int (n : Int)
  | none => .non
theorem oV_non {o : Option Nat} : (!decide (oV o = .non)) = o.isSome := by
  cases o with
  | none => rfl
  | some n => exact congrArg (! ·) (decide_eq_false (fun z => by cases z))
theorem oV_is {o : Option Nat} : decide (oV o = .non) = o.isNone := by
  cases o with
  | none => rfl
  | some n => exact decide_eq_false (fun z => by cases z)
def enF (mo am ta ol : V) : List (Str × V) := [("month", mo), ("amount", am), ("target", ta), ("old", ol)]
def bkF (q mo p : V) : List (Str × V) := [("entries", q), ("month", mo), ("lefts", p)]
theorem en_put (mo am ta ol : V) : putF "old" ol (putF "target" ta (putF "amount" am (putF "month" mo []))) = enF mo am ta ol := by
  have a1 : ("month" : Str) ≠ "amount" := by decide +kernel
  have a2 : ("month" : Str) ≠ "target" := by decide +kernel
  have a3 : ("month" : Str) ≠ "old" := by decide +kernel
  have a4 : ("amount" : Str) ≠ "target" := by decide +kernel
  have a5 : ("amount" : Str) ≠ "old" := by decide +kernel
  have a6 : ("target" : Str) ≠ "old" := by decide +kernel
  show putF "old" ol (putF "target" ta (putF "amount" am [("month", mo)])) = _
  rw [putF_ne a1]
  show putF "old" ol (putF "target" ta [("month", mo), ("amount", am)]) = _
  rw [putF_ne a2, putF_ne a4]
  show putF "old" ol [("month", mo), ("amount", am), ("target", ta)] = _
  rw [putF_ne a3, putF_ne a5, putF_ne a6]
  rfl
theorem bk_put1 (q : V) : putF "entries" q [] = ([("entries", q)] : List (Str × V)) := rfl
theorem bk_put2 (q mo : V) : putF "month" mo ([("entries", q)] : List (Str × V)) = ([("entries", q), ("month", mo)] : List (Str × V)) := by
  have a1 : ("entries" : Str) ≠ "month" := by decide +kernel
  rw [putF_ne a1]
  rfl
theorem bk_put3 (q mo p : V) : putF "lefts" p ([("entries", q), ("month", mo)] : List (Str × V)) = bkF q mo p := by
  have a1 : ("entries" : Str) ≠ "lefts" := by decide +kernel
  have a2 : ("month" : Str) ≠ "lefts" := by decide +kernel
  rw [putF_ne a1, putF_ne a2]
  rfl
theorem en_mo (mo am ta ol : V) : (enF mo am ta ol).lookup ("month" : Str) = some mo := rfl
theorem en_am (mo am ta ol : V) : (enF mo am ta ol).lookup ("amount" : Str) = some am := by
  unfold enF
  rw [lk_ne (by decide +kernel)]
  rfl
theorem en_ta (mo am ta ol : V) : (enF mo am ta ol).lookup ("target" : Str) = some ta := by
  unfold enF
  rw [lk_ne (by decide +kernel), lk_ne (by decide +kernel)]
  rfl
theorem en_ol (mo am ta ol : V) : (enF mo am ta ol).lookup ("old" : Str) = some ol := by
  unfold enF
  rw [lk_ne (by decide +kernel), lk_ne (by decide +kernel), lk_ne (by decide +kernel)]
  rfl
theorem bk_es (q mo p : V) : (bkF q mo p).lookup ("entries" : Str) = some q := rfl
theorem bk_mo (q mo p : V) : (bkF q mo p).lookup ("month" : Str) = some mo := by
  unfold bkF
  rw [lk_ne (by decide +kernel)]
  rfl
theorem bk_lf (q mo p : V) : (bkF q mo p).lookup ("lefts" : Str) = some p := by
  unfold bkF
  rw [lk_ne (by decide +kernel), lk_ne (by decide +kernel)]
  rfl
structure EnC (K : PySem.W.Frag) (C : Addr) : Prop where
  cl : Cls K C
  mo : NoAttr K C "month"
  am : NoAttr K C "amount"
  ta : NoAttr K C "target"
  ol : NoAttr K C "old"
structure BkC (K : PySem.W.Frag) (C : Addr) : Prop where
  cl : Cls K C
  es : NoAttr K C "entries"
  mo : NoAttr K C "month"
  lf : NoAttr K C "lefts"
/-- an Entry -/
def EnA (CE : Addr) (e : En) : V → Hp → Prop := fun v H => ∃ x dx, v = .ref x ∧ H x = some (.ins CE dx (enF (.int e.mo) (.int e.am) (oV e.ta) (oV e.ol)))
instance {CE : Addr} {e : En} : StL (EnA CE e) := ⟨fun _ _ _ s ⟨x, dx, e, h⟩ => ⟨x, dx, e, s _ _ (fun _ z => by cases z) h⟩⟩
/-- a Book -/
def BkA (CE CB : Addr) (b : Bk) : V → Hp → Prop := fun v H => ∃ x dx q p, v = .ref x ∧ H x = some (.ins CB dx (bkF q (.int b.m) p)) ∧ isU (EnA CE) b.es q H ∧ isU isIv (lefts b.es) p H
instance {CE CB : Addr} {b : Bk} : StL (BkA CE CB b) := ⟨fun _ _ _ s ⟨x, dx, q, p, e, h, a, c⟩ => ⟨x, dx, q, p, e, s _ _ (fun _ z => by cases z) h, upL s a, upL s c⟩⟩
/-- while an object without fields is filled, entries stay -/
theorem EnA.off {CE C x dx : Addr} {e : En} {H H' : Hp} {v : V} (hx : H x = some (.ins C dx [])) (s : SameX x H H') (h : EnA CE e v H) : EnA CE e v H' := by
  obtain ⟨y, dy, rfl, hy⟩ := h
  refine ⟨y, dy, rfl, s _ _ (fun z => ?_) hy⟩
  rw [z, hx] at hy
  cases hy
theorem isU.off {CE C x dx : Addr} {es : List En} {H H' : Hp} {v : V} (hx : H x = some (.ins C dx [])) (s : SameX x H H') (h : isU (EnA CE) es v H) : isU (EnA CE) es v H' := by
  obtain ⟨D, us, rfl, hD, l⟩ := h
  refine ⟨D, us, rfl, s _ _ (fun z => ?_) hD, l.imp fun _ _ r => r.off hx s⟩
  rw [z, hx] at hD
  cases hD
def spEnInit (CE : Addr) : Sp := fun vs H Q _ => ∃ (x dx : Addr) (e : En), vs = [.ref x, .int e.mo, .int e.am, oV e.ta, oV e.ol] ∧ H x = some (.ins CE dx []) ∧ ∀ H', SameX x H H' → EnA CE e (.ref x) H' → Q .non H'
def spLeftsOf (CE : Addr) : Sp := fun vs H Q _ => ∃ (q : V) (es : List En), vs = [q] ∧ isU (EnA CE) es q H ∧ (∀ j t, taAt es j = some t → t < j) ∧ es.length ≤ 900 ∧ ∀ p H', Same H H' → isU isIv (lefts es) p H' → Q p H'
def spBkInit (CE CB : Addr) : Sp := fun vs H Q _ => ∃ (x dx : Addr) (q : V) (b : Bk), vs = [.ref x, q, .int b.m] ∧ H x = some (.ins CB dx []) ∧ isU (EnA CE) b.es q H ∧ Wf b ∧ b.es.length ≤ 900 ∧ ∀ H', SameX x H H' → BkA CE CB b (.ref x) H' → Q .non H'
section
variable {K : PySem.W.Frag} {σ : L2.St} {ta tb tc td te : TE} {H0 : Hp} {b : Bk} {e : En} {es : List En} {j : Nat} {CE CB : Addr}
theorem ev_enMo (L : EnC K CE) (ha : EvV (Same H0) σ ta (EnA CE e)) : EvV (Same H0) σ (tFld K ta "month") (isIv e.mo) := ev_fld ha fun x H w ⟨x, dx, ex, hx⟩ => ⟨x, CE, dx, _, _, ex, hx, L.cl, L.mo, en_mo .., rfl⟩
theorem ev_enAm (L : EnC K CE) (ha : EvV (Same H0) σ ta (EnA CE e)) : EvV (Same H0) σ (tFld K ta "amount") (isIv e.am) := ev_fld ha fun x H w ⟨x, dx, ex, hx⟩ => ⟨x, CE, dx, _, _, ex, hx, L.cl, L.am, en_am .., rfl⟩
theorem ev_enTa (L : EnC K CE) (ha : EvV (Same H0) σ ta (EnA CE e)) : EvV (Same H0) σ (tFld K ta "target") (isVv (oV e.ta)) := ev_fld ha fun x H w ⟨x, dx, ex, hx⟩ => ⟨x, CE, dx, _, _, ex, hx, L.cl, L.ta, en_ta .., rfl⟩
theorem ev_enOl (L : EnC K CE) (ha : EvV (Same H0) σ ta (EnA CE e)) : EvV (Same H0) σ (tFld K ta "old") (isVv (oV e.ol)) := ev_fld ha fun x H w ⟨x, dx, ex, hx⟩ => ⟨x, CE, dx, _, _, ex, hx, L.cl, L.ol, en_ol .., rfl⟩
theorem ev_bkEs (L : BkC K CB) (ha : EvV (Same H0) σ ta (BkA CE CB b)) : EvV (Same H0) σ (tFld K ta "entries") (isU (EnA CE) b.es) := ev_fld ha fun x H w ⟨x, dx, q, p, ex, hx, hq, hp⟩ => ⟨x, CB, dx, _, _, ex, hx, L.cl, L.es, bk_es .., hq⟩
theorem ev_bkMo (L : BkC K CB) (ha : EvV (Same H0) σ ta (BkA CE CB b)) : EvV (Same H0) σ (tFld K ta "month") (isIv b.m) := ev_fld ha fun x H w ⟨x, dx, q, p, ex, hx, hq, hp⟩ => ⟨x, CB, dx, _, _, ex, hx, L.cl, L.mo, bk_mo .., rfl⟩
theorem ev_bkLf (L : BkC K CB) (ha : EvV (Same H0) σ ta (BkA CE CB b)) : EvV (Same H0) σ (tFld K ta "lefts") (isU isIv (lefts b.es)) := ev_fld ha fun x H w ⟨x, dx, q, p, ex, hx, hq, hp⟩ => ⟨x, CB, dx, _, _, ex, hx, L.cl, L.lf, bk_lf .., hp⟩
/-- an entry of a tuple of entries by its number -/
theorem ev_esAt (h : j < es.length) (ha : EvV (Same H0) σ ta (isU (EnA CE) es)) (hb : EvV (Same H0) σ tb (isIv (j : Int))) : EvV (Same H0) σ (tOp (rIxT K) ta tb) (EnA CE es[j]) := ev_ixU (List.getElem?_eq_getElem h) ha hb
theorem ev_mkEnA (h1 : EvV (Same H0) σ ta (isIv e.mo)) (h2 : EvV (Same H0) σ tb (isIv e.am)) (h3 : EvV (Same H0) σ tc (isVv (oV e.ta))) (h4 : EvV (Same H0) σ td (isVv (oV e.ol))) : EvV (Same H0) σ (tMake CE (spEnInit CE) [] E0 (tCons ta (tCons tb (tCons tc (tCons td tNil))))) (EnA CE e) :=
  ev_make (eva_cons h1 (eva_cons h2 (eva_cons h3 (eva_cons h4 eva_nil)))) fun vs H x dx Q w r nx ndx ne k => by
    obtain ⟨v1, r, rfl, e1, v2, r, rfl, e2, v3, r, rfl, e3, v4, r, rfl, e4, rfl⟩ := r
    cases e1
    cases e2
    cases e3
    cases e4
    exact ⟨x, dx, e, rfl, upd_same, fun H' s' a => k H' (fun c o q => s' c o (ne_of_none q nx) (made_same nx ndx c o q)) a⟩
theorem ev_mkBkA (wf : Wf b) (n : b.es.length ≤ 900) (h1 : EvV (Same H0) σ ta (isU (EnA CE) b.es)) (h2 : EvV (Same H0) σ tb (isIv b.m)) : EvV (Same H0) σ (tMake CB (spBkInit CE CB) [] E0 (tCons ta (tCons tb tNil))) (BkA CE CB b) :=
  ev_make (eva_cons h1 (eva_cons h2 eva_nil)) fun vs H x dx Q w r nx ndx ne k => by
    obtain ⟨v1, r, rfl, e1, v2, r, rfl, e2, rfl⟩ := r
    cases e2
    have s0 : Same H (upd (upd H dx (.own x)) x (.ins CB dx [])) := made_same nx ndx
    exact ⟨x, dx, v1, b, rfl, upd_same, up s0 e1, wf, n, fun H' s' a => k H' (fun c o q => s' c o (ne_of_none q nx) (s0 c o q)) a⟩
end
structure BltBk (mg : Str → Option Value) : Prop where
  len : mg "len" = none
  range : mg "range" = none
  tuple : mg "tuple" = none
  isi : mg "isinstance" = none
  enumerate : mg "enumerate" = none
section
variable {P : Program} {w : World} {K : PySem.W.Frag} {mg : Str → Option Value} {base : Heap}
end
end V3

set_option Elab.async false
set_option linter.all false
set_option maxRecDepth 100000
/-! what a book is asked about an entry -/
namespace V3
open PySem L2 TL
-- no sBkReq
-- no sBkLeft
-- no sBkDepth
-- no sBkKind
-- no sBkLen
-- no sBkGet
/-- asked at a number of an entry, a scalar answered -/
def spAtB (CE CB : Addr) (f : Bk → Nat → V) : Sp := fun vs H Q _ => ∃ (v : V) (b : Bk) (j : Nat), vs = [v, .int (j : Int)] ∧ BkA CE CB b v H ∧ Wf b ∧ j < b.es.length ∧ ∀ H', Same H H' → Q (f b j) H'
def fReq : Bk → Nat → V := fun _ _ => .non
def fLeft : Bk → Nat → V := fun b j => .int (leftAt b.es j)
def fDepth : Bk → Nat → V := fun b j => .int ((depth b.es j : Nat) : Int)
def fKind : Bk → Nat → V := fun b j => .str (kindAt b.es j)
def fTop : Bk → Nat → V := fun b j => .int ((topOf b.es j : Nat) : Int)
def fDeed : Bk → Nat → V := fun b j => .int ((deedOf b.es j : Nat) : Int)
def spBkGet (CE CB : Addr) : Sp := fun vs H Q _ => ∃ (v : V) (b : Bk) (j : Nat) (e : En), vs = [v, .int (j : Int)] ∧ BkA CE CB b v H ∧ Wf b ∧ b.es[j]? = some e ∧ ∀ u H', Same H H' → EnA CE e u H' → Q u H'
def spBkLen (CE CB : Addr) : Sp := fun vs H Q _ => ∃ (v : V) (b : Bk), vs = [v] ∧ BkA CE CB b v H ∧ ∀ H', Same H H' → Q (.int (b.es.length : Int)) H'
def BkM (P : Program) (w : World) (K : PySem.W.Frag) (mg : Str → Option Value) (base : Heap) (CB : Addr) (m : Str) (k : Nat) (sp : Sp) : Prop :=
  ∃ (f : Addr) (fd : FuncData), FnOk P w K mg base CX0 k f fd ["self", "at"] sp ∧ Meth K CB m f ∧ Binds K fd ["self", "at"] []
theorem bk_no {m : Str} (h : m ≠ "entries" ∧ m ≠ "month" ∧ m ≠ "lefts") (q mo p : V) : (bkF q mo p).lookup m = none := by
  unfold bkF
  rw [lk_ne (by simpa using h.1), lk_ne (by simpa using h.2.1), lk_ne (by simpa using h.2.2)]
  rfl
section
variable {K : PySem.W.Frag} {σ : L2.St} {ta tb te : TE} {H0 : Hp} {b : Bk} {j : Nat} {CE CB : Addr} {m : Str} {f : Bk → Nat → V}
theorem ev_atB (h : m ≠ "entries" ∧ m ≠ "month" ∧ m ≠ "lefts") (wf : Wf b) (hj : j < b.es.length) (ha : EvV (Same H0) σ ta (BkA CE CB b)) (hb : EvV (Same H0) σ te (isIv (j : Int))) : EvV (Same H0) σ (tMeth CB m (spAtB CE CB f) [] E0 ta (tCons te tNil)) (isVv (f b j)) :=
  ev_meth ha (fun x H ⟨a, dx, q, p, ex, hx, _, _⟩ => ⟨a, dx, _, ex, hx, bk_no h ..⟩) (eva_cons hb eva_nil) fun x vs H Q w rx r k => by
    obtain ⟨v, r, rfl, hv, rfl⟩ := r
    cases hv
    exact ⟨x, b, j, rfl, rx, wf, hj, fun H' s => k _ H' s rfl⟩
end
section
variable {P : Program} {w : World} {K : PySem.W.Frag} {mg : Str → Option Value} {base : Heap}
end
end V3

set_option Elab.async false
set_option linter.all false
set_option maxRecDepth 100000
/-! what the program does with books: months, moves by their fields -/
namespace V3
open PySem L2 TL
-- no sMonthFor
-- no sOverAll
def oI : Option Int → V
  | some n => .int n
  | none => .non
theorem oI_is {o : Option Int} : decide (oI o = .non) = o.isNone := by
  cases o with
  | none => rfl
  | some n => exact decide_eq_false (fun z => by cases z)
theorem oI_non {o : Option Int} : (!decide (oI o = .non)) = o.isSome := by
  rw [oI_is]
  cases o <;> rfl
theorem optV_is {o : Option Str} : decide (optV o = .non) = o.isNone := by
  cases o with
  | none => rfl
  | some n => exact decide_eq_false (fun z => by cases z)
/-- what is done with books and houses -/
structure BkOps (P : Program) (w : World) (K : PySem.W.Frag) (mg : Str → Option Value) (base : Heap) (c : Rc) (CH CE CB : Addr) : Prop where
  L : BkC K CB
  N : EnC K CE
  hc : HsC K CH
  pl : ∃ (f : Addr) (fd : FuncData), FnOk P w K mg base CX0 2 f fd ["self", "kind", "state", "deed"] (spPlaced K c CH) ∧ Meth K CH "placed" f ∧ Binds K fd ["self", "kind", "state", "deed"] []
  get : ∃ (f : Addr) (fd : FuncData), FnOk P w K mg base CX0 2 f fd ["self", "at"] (spBkGet CE CB) ∧ GetCls K CB f ∧ Binds K fd ["self", "at"] []
  len : ∃ (f : Addr) (fd : FuncData), FnOk P w K mg base CX0 1 f fd ["self"] (spBkLen CE CB) ∧ PySem.W.findIn K (.ref CB) "__len__" = some (some (.ref f)) ∧ PySem.W.isFn K (.ref f) = true ∧ Binds K fd ["self"] []
  left : BkM P w K mg base CB "left_of" 2 (spAtB CE CB fLeft)
  dep : BkM P w K mg base CB "depth_of" 2 (spAtB CE CB fDepth)
  kind : BkM P w K mg base CB "kind_of" 3 (spAtB CE CB fKind)
  gE : mg "Entry" = some (.ref CE)
  gB : mg "Book" = some (.ref CB)
  mkE : ∃ (f : Addr) (fd : FuncData), FnOk P w K mg base CX0 1 f fd ["self", "month", "amount", "target", "old"] (spEnInit CE) ∧ Mk K CE f ∧ Binds K fd ["self", "month", "amount", "target", "old"] []
  mkB : ∃ (f : Addr) (fd : FuncData), FnOk P w K mg base CX0 2 f fd ["self", "entries", "month"] (spBkInit CE CB) ∧ Mk K CB f ∧ Binds K fd ["self", "entries", "month"] []
def FFb (CE CB : Addr) : Addr → Sp → XK → Prop := fun D sp E => D = CB ∧ sp = spBkGet CE CB ∧ E = E0
theorem get_B {X : Cx} {c : Rc} {CH CE CB : Addr} (T : BkOps X.prog X.w X.K X.mg X.base c CH CE CB) : ∀ D sp E, FFb CE CB D sp E → ∃ (CX : CXT) (f : Addr) (fd : FuncData) (ps : List Str), FnOk X.prog X.w X.K X.mg X.base CX 2 f fd ps sp ∧ GetCls X.K D f ∧ Binds X.K fd ps [] ∧ Passes CX X E := fun D sp E h => by
  obtain ⟨rfl, rfl, rfl⟩ := h
  obtain ⟨f, fd, F, ec, bi⟩ := T.get
  exact ⟨CX0, f, fd, _, F, ec, bi, fun _ _ _ _ _ _ _ h => h.elim⟩
def rLenB (CE CB : Addr) : List V → Hp → VK → Prop := fun xs H Q => ∃ v b, xs = [v] ∧ BkA CE CB b v H ∧ b.es.length ≤ 1000 ∧ ∀ H', Same H H' → Q (.int (b.es.length : Int)) H'
theorem call_lenB {X : Cx} {c : Rc} {CH CE CB : Addr} (T : BkOps X.prog X.w X.K X.mg X.base c CH CE CB) (room : Room 2 X.A) : CallR X (.builtin "len") (rLenB CE CB) := by
  intro pins s σ H xs us Q I r h
  obtain ⟨v, b, rfl, a, n, q⟩ := h
  obtain ⟨f, fd, G, at_, isf, bi⟩ := T.len
  obtain ⟨x, dx, t, p, rfl, hx, ht, hp⟩ := id a
  refine call_lenO (E := fun _ _ _ => False) G at_ isf bi pass0 room pins s σ H _ us Q I r ⟨x, dx, _, rfl, hx, _, b, rfl, a, fun H' s' => ⟨_, rfl, ⟨by omega, ?_⟩, q H' s'⟩⟩
  exact Int.lt_of_le_of_lt (b := 1000) (by omega) (by decide)
def spMonthFor (K : PySem.W.Frag) (c : Rc) (CH CE CB : Addr) : Sp := fun vs H Q _ => ∃ (hv v : V) (h : Hs) (b : Bk) (j : Nat) (d : Str), vs = [hv, v, .int (j : Int), .str d] ∧ HsA K c CH h hv H ∧ BkA CE CB b v H ∧ h.ok ∧ Wf b ∧ j < b.es.length ∧ d ∈ deedL ∧ ∀ H', Same H H' → Q (oI (monthFor h b j d)) H'
def spOverAll (CE CB : Addr) : Sp := fun vs H Q _ => ∃ (v : V) (b : Bk) (j : Nat) (a : Int), vs = [v, .int (j : Int), .int a] ∧ BkA CE CB b v H ∧ Wf b ∧ j < b.es.length ∧ ∀ H', Same H H' → Q (.bl (overAll b.es j a)) H'
section
variable {K : PySem.W.Frag} {c : Rc} {CH CE CB : Addr} {σ : L2.St} {ta tb td tc te : TE} {H0 : Hp} {h : Hs} {b : Bk} {j : Nat} {k s d : Str}
theorem ev_placed (ok : h.ok) (hk : k ∈ kindL) (hs : s ∈ stateL) (hd : d ∈ deedL) (ha : EvV (Same H0) σ ta (HsA K c CH h)) (h1 : EvV (Same H0) σ tb (isSv k)) (h2 : EvV (Same H0) σ tc (isSv s)) (h3 : EvV (Same H0) σ td (isSv d)) :
    EvV (Same H0) σ (tMeth CH "placed" (spPlaced K c CH) [] E0 ta (tCons tb (tCons tc (tCons td tNil)))) (isVv (optV (placeIn k s d h.rs))) :=
  ev_meth ha (fun x H a => by
    obtain ⟨x, dx, q, us, rfl, hx, _⟩ := a
    exact ⟨x, dx, _, rfl, hx, by
      unfold hsF
      rw [lk_ne (by decide +kernel), lk_ne (by decide +kernel), lk_ne (by decide +kernel)]
      rfl⟩) (eva_cons h1 (eva_cons h2 (eva_cons h3 eva_nil))) fun x vs H Q w rx r kk => by
    obtain ⟨v1, r, rfl, e1, v2, r, rfl, e2, v3, r, rfl, e3, rfl⟩ := r
    cases e1
    cases e2
    cases e3
    exact ⟨x, h, k, s, d, rfl, rx, ok, hk, hs, hd, fun H' s' => kk _ H' s' rfl⟩
theorem ev_ixB {e : En} (wf : Wf b) (he : b.es[j]? = some e) (ha : EvV (Same H0) σ ta (BkA CE CB b)) (hb : EvV (Same H0) σ tb (isIv (j : Int))) : EvV (Same H0) σ (tOp (rIxO (FFb CE CB)) ta tb) (EnA CE e) :=
  ev_o ha hb fun x y H Q w a1 a2 k => by
    cases a2
    obtain ⟨x, dx, q, p, rfl, hx, hq, hp⟩ := id a1
    exact ⟨x, CB, dx, _, spBkGet CE CB, E0, rfl, hx, ⟨rfl, rfl, rfl⟩, _, b, j, e, rfl, a1, wf, he, fun u H' s ee => k u H' s ee⟩
theorem ev_lenB (n : b.es.length ≤ 1000) (ha : EvV (Same H0) σ ta (BkA CE CB b)) : EvV (Same H0) σ (tCB (rLenB CE CB) (tCons ta tNil)) (isIv (b.es.length : Int)) :=
  ev_cb (eva_cons ha eva_nil) fun vs H Q w r k => by
    obtain ⟨v, r, rfl, hv, rfl⟩ := r
    exact ⟨v, b, rfl, hv, n, fun H' s' => k _ H' s' rfl⟩
theorem moAt_get (hj : j < b.es.length) : moAt b.es j = b.es[j].mo := by
  unfold moAt
  rw [List.getElem?_eq_getElem hj]
  rfl
theorem amAt_get (hj : j < b.es.length) : amAt b.es j = b.es[j].am := by
  unfold amAt
  rw [List.getElem?_eq_getElem hj]
  rfl
theorem ev_monthFor (ok : h.ok) (wf : Wf b) (hj : j < b.es.length) (hd : d ∈ deedL) (h1 : EvV (Same H0) σ ta (HsA K c CH h)) (h2 : EvV (Same H0) σ tb (BkA CE CB b)) (h3 : EvV (Same H0) σ tc (isIv (j : Int))) (h4 : EvV (Same H0) σ td (isSv d)) :
    EvV (Same H0) σ (tCall (spMonthFor K c CH CE CB) [] E0 (tCons ta (tCons tb (tCons tc (tCons td tNil))))) (isVv (oI (monthFor h b j d))) :=
  ev_call (eva_cons h1 (eva_cons h2 (eva_cons h3 (eva_cons h4 eva_nil)))) fun vs H Q _ r k => by
    obtain ⟨v1, r, rfl, e1, v2, r, rfl, e2, v3, r, rfl, e3, v4, r, rfl, e4, rfl⟩ := r
    cases e3
    cases e4
    exact ⟨v1, v2, h, b, j, d, rfl, e1, e2, ok, wf, hj, hd, fun H' s => k _ H' s rfl⟩
theorem ev_overAll {a : Int} (wf : Wf b) (hj : j < b.es.length) (h2 : EvV (Same H0) σ tb (BkA CE CB b)) (h3 : EvV (Same H0) σ tc (isIv (j : Int))) (h4 : EvV (Same H0) σ td (isIv a)) :
    EvV (Same H0) σ (tCall (spOverAll CE CB) [] E0 (tCons tb (tCons tc (tCons td tNil)))) (isBv (overAll b.es j a)) :=
  ev_call (eva_cons h2 (eva_cons h3 (eva_cons h4 eva_nil))) fun vs H Q _ r k => by
    obtain ⟨v2, r, rfl, e2, v3, r, rfl, e3, v4, r, rfl, e4, rfl⟩ := r
    cases e3
    cases e4
    exact ⟨v2, b, j, a, rfl, e2, wf, hj, fun H' s => k _ H' s rfl⟩
end
section
variable {P : Program} {w : World} {K : PySem.W.Frag} {mg : Str → Option Value} {base : Heap}
end
end V3

set_option Elab.async false
set_option linter.all false
set_option maxRecDepth 100000
/-! <= and >= of objects of our own classes, by their own methods -/
namespace V3
open PySem PySem.Spec PyProof.Rows L2
/-- a class with an own method for the comparison at f -/
structure CmpCls (K : PySem.W.Frag) (C f : Addr) (op : CmpOp) : Prop where
  at_ : PySem.W.findIn K (.ref C) (cmpInfo op).2.1 = some (some (.ref f))
  fn : PySem.W.isFn K (.ref f) = true
section
variable {X : Cx} {n : Nat}
theorem rc_own {op : CmpOp} {FF : Addr → Sp → XK → Prop} (hF : ∀ C sp E, FF C sp E → ∃ (CX : CXT) (f : Addr) (fd : FuncData) (ps : List Str), FnOk X.prog X.w X.K X.mg X.base CX n f fd ps sp ∧ CmpCls X.K C f op ∧ Binds X.K fd ps [] ∧ Passes CX X E) (hr : Room n X.A) : OpR X (richCompare op) (rEqO X.K n FF false) := by
  intro pins s σ H x y v u Q I rx ry hq
  obtain ⟨a, C, dx, fs, b, D, dy, gs, sp, E, rfl, rfl, ha, hb, ff, hn, hsp⟩ := hq
  obtain ⟨CX, f, fd, ps, F, ec, bi, hx⟩ := hF C sp E ff
  cases rx
  cases ry
  obtain ⟨mA, J, _⟩ := ins_get I.hok ha
  obtain ⟨mB, J', _⟩ := ins_get I.hok hb
  obtain ⟨od, J, _⟩ := J.look
  obtain ⟨od', J', _⟩ := J'.look
  obtain ⟨m, hF⟩ := I.fr
  refine PySem.W.cmp_K (op := op) (tb := .ref D) hr.units0 hF I.ok.mod.kin J J'.type hn ec.at_ ec.fn ?_
  refine wpAny_mono (run_own (x := .ref a) (y := .ref b) ⟨hr, rfl⟩ F bi hx I rfl rfl hsp) (fun w s' q => ?_) fun _ _ e => e
  obtain ⟨z, H', I', rz, r, ez, q⟩ := q
  subst ez
  cases rz
  refine ⟨.bl r, H', I', rfl, ?_⟩
  have e : (r != false) = r := by cases r <;> rfl
  rw [e] at q
  exact q
theorem op_leO {FF : Addr → Sp → XK → Prop} (hF : ∀ C sp E, FF C sp E → ∃ (CX : CXT) (f : Addr) (fd : FuncData) (ps : List Str), FnOk X.prog X.w X.K X.mg X.base CX n f fd ps sp ∧ CmpCls X.K C f .LtE ∧ Binds X.K fd ps [] ∧ Passes CX X E) (hr : Room n X.A) : OpR X (compareOp .LtE) (rEqO X.K n FF false) := rc_own hF hr
theorem op_geO {FF : Addr → Sp → XK → Prop} (hF : ∀ C sp E, FF C sp E → ∃ (CX : CXT) (f : Addr) (fd : FuncData) (ps : List Str), FnOk X.prog X.w X.K X.mg X.base CX n f fd ps sp ∧ CmpCls X.K C f .GtE ∧ Binds X.K fd ps [] ∧ Passes CX X E) (hr : Room n X.A) : OpR X (compareOp .GtE) (rEqO X.K n FF false) := rc_own hF hr
end
end V3

set_option Elab.async false
set_option linter.all false
set_option maxRecDepth 100000
/-! houses put together: &, <=, >= -/
namespace V3
open PySem L2 TL
abbrev sShared : Stmt := top 25
abbrev sNoMore : Stmt := top 26
abbrev sAnd : Stmt := inClass (top 19) 7
abbrev sLe : Stmt := inClass (top 19) 8
abbrev sGe : Stmt := inClass (top 19) 9
def svS : V → Str
  | .str s => s
  | _ => ""
def shP (p q : Hs) (x y z : V) : Bool := (placeIn (svS x) (svS y) (svS z) p.rs).isSome && decide (placeIn (svS x) (svS y) (svS z) p.rs = placeIn (svS x) (svS y) (svS z) q.rs)
def shF (p : Hs) (x y z : V) : Rw := .lt (svS x) (svS y) (svS z) ((placeIn (svS x) (svS y) (svS z) p.rs).getD "")
/-- the rows that both have -/
def sharedR (p q : Hs) : List Rw := tri (kindL.map V.str) (stateL.map V.str) (deedL.map V.str) (shP p q) (shF p)
def andH (p q : Hs) : Hs := ⟨if p.d ≤ q.d then p.d else q.d, if decide (("all" : Str) ∈ [p.ch, q.ch]) = true then "all" else "left", sharedR p q⟩
def placeOf (r : Rw) (h : Hs) : Option Str := match r with
  | .lt k s d _ => placeIn k s d h.rs
  | _ => none
/-- p lets no more than q -/
def noMore (p q : Hs) : Bool := !(decide (q.d < p.d) || (decide (p.ch = ("left" : Str)) && decide (q.ch = ("all" : Str)))) && (p.rs.map fun r => decide (placeOf r q = placeOf r p)).all id
theorem placeIn_mem {k s d pl : Str} : ∀ {rs : List Rw}, placeIn k s d rs = some pl → Rw.lt k s d pl ∈ rs
  | [], h => by cases h
  | .lt k' s' d' p' :: r, h => by
    have h2 : (if k' = k ∧ s' = s ∧ d' = d then some p' else placeIn k s d r) = some pl := h
    by_cases e : k' = k ∧ s' = s ∧ d' = d
    · rw [if_pos e] at h2
      rw [← e.1, ← e.2.1, ← e.2.2, ← Option.some.inj h2]
      exact List.mem_cons_self
    · rw [if_neg e] at h2
      exact List.mem_cons_of_mem _ (placeIn_mem h2)
  | .ct _ _ _ :: r, h => List.mem_cons_of_mem _ (placeIn_mem (rs := r) h)
theorem flat_len {α β : Type} {F : α → List β} {n : Nat} : ∀ {xs : List α}, (∀ x ∈ xs, (F x).length ≤ n) → (xs.flatMap F).length ≤ xs.length * n
  | [], _ => by simp
  | x :: r, h => by
    have ih := flat_len (xs := r) fun y hy => h y (List.mem_cons_of_mem _ hy)
    have hx := h x List.mem_cons_self
    rw [List.flatMap_cons, List.length_append, List.length_cons, Nat.succ_mul]
    omega
theorem tri_len {β : Type} {xs ys zs : List V} {pp : V → V → V → Bool} {f : V → V → V → β} : (tri xs ys zs pp f).length ≤ xs.length * (ys.length * (zs.length * 1)) :=
  flat_len fun x _ => flat_len fun y _ => flat_len fun z _ => by split <;> simp
theorem shared_len (p q : Hs) : (sharedR p q).length ≤ 24 := tri_len
theorem shared_row {p q : Hs} {m : Rw} (h : m ∈ sharedR p q) : m ∈ p.rs := by
  unfold sharedR tri at h
  obtain ⟨x, _, h⟩ := List.mem_flatMap.mp h
  obtain ⟨y, _, h⟩ := List.mem_flatMap.mp h
  obtain ⟨z, _, h⟩ := List.mem_flatMap.mp h
  split at h
  · rename_i e
    have h := List.mem_singleton.mp h
    subst h
    unfold shP at e
    have e := (Bool.and_eq_true_iff.mp e).1
    obtain ⟨pl, hp⟩ := Option.isSome_iff_exists.mp e
    unfold shF
    rw [hp]
    exact placeIn_mem hp
  · cases h
theorem andH_ok {p q : Hs} (hp : p.ok) (hq : q.ok) : (andH p q).ok := by
  have a1 : ("all" : Str) ∈ checkL := by decide +kernel
  have a2 : ("left" : Str) ∈ checkL := by decide +kernel
  refine ⟨?_, ?_, ?_, fun m hm => hp.2.2.2.1 m (shared_row hm), Nat.le_trans (shared_len p q) (by decide)⟩
  · show 0 ≤ if p.d ≤ q.d then p.d else q.d
    have := hp.1
    have := hq.1
    split <;> omega
  · show (if p.d ≤ q.d then p.d else q.d) ≤ 4
    have := hp.2.1
    have := hq.2.1
    split <;> omega
  · show (if decide (("all" : Str) ∈ [p.ch, q.ch]) = true then ("all" : Str) else "left") ∈ checkL
    split
    · exact a1
    · exact a2
theorem optV_inj {a b : Option Str} : decide (optV a = optV b) = decide (a = b) := by
  have z : optV a = optV b ↔ a = b := ⟨fun e => by
    cases a with
    | none => cases b with
      | none => rfl
      | some y => cases (show V.non = V.str y from e)
    | some x => cases b with
      | none => cases (show V.str x = V.non from e)
      | some y =>
        have e : V.str x = V.str y := e
        injection e with e
        rw [e], fun e => by rw [e]⟩
  by_cases h : a = b
  · rw [decide_eq_true h, decide_eq_true (z.mpr h)]
  · rw [decide_eq_false h, decide_eq_false fun e => h (z.mp e)]
theorem optV_non {a : Option Str} : (!decide (optV a = .non)) = a.isSome := by
  cases a with
  | none => rfl
  | some x => rfl
theorem optV_scal (a b : Option Str) : scal (optV a) (optV b) = true := by
  cases a <;> cases b <;> rfl
section
variable {K : PySem.W.Frag} {σ : L2.St} {ta tb tc td : TE} {H0 : Hp} {c : Rc} {C : Addr} {p q : Hs} {k s d pl : Str}
theorem ev_let (ok : (Rw.lt k s d pl).ok) (h1 : EvV (Same H0) σ ta (isSv k)) (h2 : EvV (Same H0) σ tb (isSv s)) (h3 : EvV (Same H0) σ tc (isSv d)) (h4 : EvV (Same H0) σ td (isSv pl)) : EvV (Same H0) σ (tMake c.L (spLInit c) [] E0 (tCons ta (tCons tb (tCons tc (tCons td tNil))))) (RwA c (.lt k s d pl)) := fun H Q w kk =>
  h1 H _ w fun v1 H1 s1 w1 e1 => h2 H1 _ w1 fun v2 H2 s2 w2 e2 => h3 H2 _ w2 fun v3 H3 s3 w3 e3 => h4 H3 _ w3 fun v4 H4 s4 w4 e4 => by
    cases e1
    cases e2
    cases e3
    cases e4
    exact fun y dy ny ndy _ => mk_let ok ny ndy fun H' s' a => ⟨rfl, kk _ H' ((((s1.trans s2).trans s3).trans s4).trans s') (w4.trans s') a⟩
theorem ev_hsD (L : HsC K C) (ha : EvV (Same H0) σ ta (HsA K c C p)) : EvV (Same H0) σ (tFld K ta "depth") (isIv p.d) := ev_fld ha fun x H w ⟨x, dx, q, us, e, hx, _⟩ => ⟨x, C, dx, _, _, e, hx, L.cl, L.d, hs_d .., rfl⟩
theorem ev_hsCh (L : HsC K C) (ha : EvV (Same H0) σ ta (HsA K c C p)) : EvV (Same H0) σ (tFld K ta "check") (isSv p.ch) := ev_fld ha fun x H w ⟨x, dx, q, us, e, hx, _⟩ => ⟨x, C, dx, _, _, e, hx, L.cl, L.ch, hs_ch .., rfl⟩
theorem evi_hsRs (L : HsC K C) (ha : EvV (Same H0) σ ta (HsA K c C p)) : EvI H0 σ (iTup K (tFld K ta "rows")) p.rs (RwA c) :=
  evi_tup (ev_fld ha fun x H w ⟨x, dx, q, us, e, hx, hq, rl⟩ => ⟨x, C, dx, _, _, e, hx, L.cl, L.rs, hs_rs .., q, us, rfl, fun H' s' => (hq.same s').sq, rl⟩)
theorem ev_rwK (R : LetC K c) (ha : EvV (Same H0) σ ta (RwA c (.lt k s d pl))) : EvV (Same H0) σ (tFld K ta "kind") (isSv k) := ev_fld ha fun x H w ⟨y, dy, e, hy⟩ => ⟨y, c.L, dy, _, _, e, hy, R.cl, R.k, let_kind .., rfl⟩
theorem ev_rwS (R : LetC K c) (ha : EvV (Same H0) σ ta (RwA c (.lt k s d pl))) : EvV (Same H0) σ (tFld K ta "state") (isSv s) := ev_fld ha fun x H w ⟨y, dy, e, hy⟩ => ⟨y, c.L, dy, _, _, e, hy, R.cl, R.s, let_state .., rfl⟩
theorem ev_rwD (R : LetC K c) (ha : EvV (Same H0) σ ta (RwA c (.lt k s d pl))) : EvV (Same H0) σ (tFld K ta "deed") (isSv d) := ev_fld ha fun x H w ⟨y, dy, e, hy⟩ => ⟨y, c.L, dy, _, _, e, hy, R.cl, R.d, let_deed .., rfl⟩
theorem ev_isHs (O : HsI K C) (ha : EvV (Same H0) σ ta (HsA K c C p)) : EvV (Same H0) σ (tCB (rIsi K) (tCons ta (tCons (tC (.ref C)) tNil))) (isBv true) := fun H Q w kk =>
  ha H _ w fun x H1 s1 w1 hx => by
    obtain ⟨a, dx, q, us, rfl, ex, _⟩ := hx
    exact ⟨_, _, _, _, _, rfl, .own C, .base (.ins ex O.cl O.ca O.gn O.tk O.mr), O.ki, kk _ H1 s1 w1 rfl⟩
theorem ls_bools {H : Hp} {us : List V} {bs : List Bool} (l : Ls (fun u b => isBv b u H) us bs) : us = bs.map V.bl := List.ext_getElem (by rw [l.1, List.length_map]) fun i h1 h2 => by
  obtain ⟨b, eb, rb⟩ := Ls.get l (List.getElem?_eq_getElem h1)
  rw [List.getElem_map]
  have e : bs[i]'(by rw [List.length_map] at h2; exact h2) = b := by
    have := List.getElem?_eq_some_iff.mp eb
    exact this.2
  rw [e]
  exact rb
theorem ev_all {bs : List Bool} (ha : EvV (Same H0) σ ta (isL isBv bs)) : EvV (Same H0) σ (tCB (rAll K) (tCons ta tNil)) (isBv (bs.all id)) :=
  ev_cb1 ha fun x H Q w ⟨D, us, e, hD, l⟩ kk => ⟨D, bs, by rw [e], SqL.of (by rw [hD, ls_bools l]), kk _ H (Same.refl H) w rfl⟩
end
def spShared (K : PySem.W.Frag) (c : Rc) (C : Addr) : Sp := fun vs H Q _ => ∃ (u v : V) (p q : Hs), vs = [u, v] ∧ HsA K c C p u H ∧ HsA K c C q v H ∧ p.ok ∧ q.ok ∧ ∀ D us H', H D = none → Same H H' → H' D = some (.lst us) → Ls (fun x m => RwA c m x H') us (sharedR p q) → Q (.ref D) H'
def spNoMore (K : PySem.W.Frag) (c : Rc) (C : Addr) : Sp := fun vs H Q _ => ∃ (u v : V) (p q : Hs), vs = [u, v] ∧ HsA K c C p u H ∧ HsA K c C q v H ∧ p.ok ∧ q.ok ∧ ∀ H', Same H H' → Q (.bl (noMore p q)) H'
def spMoreNo (K : PySem.W.Frag) (c : Rc) (C : Addr) : Sp := fun vs H Q _ => ∃ (u v : V) (p q : Hs), vs = [u, v] ∧ HsA K c C p u H ∧ HsA K c C q v H ∧ p.ok ∧ q.ok ∧ ∀ H', Same H H' → Q (.bl (noMore q p)) H'
def spAnd (K : PySem.W.Frag) (c : Rc) (C : Addr) : Sp := fun vs H Q _ => ∃ (u v : V) (p q : Hs), vs = [u, v] ∧ HsA K c C p u H ∧ HsA K c C q v H ∧ p.ok ∧ q.ok ∧ ∀ x H', Same H H' → HsA K c C (andH p q) x H' → Q x H'
section
variable {P : Program} {w : World} {K : PySem.W.Frag} {mg : Str → Option Value} {base : Heap} {KA SA DA PA : Addr}
theorem scShared : FnScope ["p", "q", "kind", "state", "deed"] ["p", "q"] (defScope sShared) := ⟨rfl, rfl, rfl, by decide +kernel, rfl, by decide +kernel, by decide +kernel⟩
theorem scNoMore : FnScope ["p", "q", "row"] ["p", "q"] (defScope sNoMore) := ⟨rfl, rfl, rfl, by decide +kernel, rfl, by decide +kernel, by decide +kernel⟩
theorem scAnd : FnScope ["self", "other", "depth", "check"] ["self", "other"] (defScope sAnd) := ⟨rfl, rfl, rfl, by decide +kernel, rfl, by decide +kernel, by decide +kernel⟩
theorem scLe : FnScope ["self", "other"] ["self", "other"] (defScope sLe) := ⟨rfl, rfl, rfl, by decide +kernel, rfl, by decide +kernel, by decide +kernel⟩
theorem scGe : FnScope ["self", "other"] ["self", "other"] (defScope sGe) := ⟨rfl, rfl, rfl, by decide +kernel, rfl, by decide +kernel, by decide +kernel⟩
theorem ok_shared {f C : Addr} {c : Rc} {fd : FuncData} (F : Fun K "shared_rows" "shared_rows" sShared f fd) (R : RowH K mg KA SA DA PA) (L : HsC K C) (PL : ∃ (f : Addr) (fd : FuncData), FnOk P w K mg base CX0 2 f fd ["self", "kind", "state", "deed"] (spPlaced K c C) ∧ Meth K C "placed" f ∧ Binds K fd ["self", "kind", "state", "deed"] [])
    (M : MkR P w K mg base "Let" ["self", "kind", "state", "deed", "place"] c.L 2 (spLInit c)) : FnOk P w K mg base CX0 4 f fd ["p", "q"] (spShared K c C) := by
  obtain ⟨fP, fdP, GP, mP, bP⟩ := PL
  obtain ⟨fL, fdL, GL, ML, bL⟩ := M.ini
  refine F.ok scShared (fun vs H Q E h => ?_) (fun cdv A outer s H vs Q E hr h => ?_)
  · obtain ⟨u, v, p, q, rfl, _⟩ := h
    rfl
  · obtain ⟨u, v, p, q, rfl, hp, hq, okp, okq, k⟩ := h
    have hr2 : Room 2 _ := hr.mono (by decide)
    refine ⟨_, (pss_one (ps_ret (pe_lc3 (wi := iTup K (tC (.ref KA))) (wi1 := iTup K (tC (.ref SA))) (wi2 := iTup K (tC (.ref DA))) (own := [("kind", 2), ("state", 3), ("deed", 4)]) (vs1 := [3, 4]) (vs2 := [4]) (g := gName 2) (g1 := gName 3) (g2 := gName 4) (tt := tYes) (tt1 := tYes)
      (tt2 := tAnd (tTest (tOp (fun x y H Q => y = V.non ∧ Q (.bl (!decide (x = .non))) H) (tMeth C "placed" (spPlaced K c C) [] E0 (tVar 0) (tCons (tVar 2) (tCons (tVar 3) (tCons (tVar 4) tNil)))) (tC .non))) (tTest (tOp rEq (tMeth C "placed" (spPlaced K c C) [] E0 (tVar 0) (tCons (tVar 2) (tCons (tVar 3) (tCons (tVar 4) tNil)))) (tMeth C "placed" (spPlaced K c C) [] E0 (tVar 1) (tCons (tVar 2) (tCons (tVar 3) (tCons (tVar 4) tNil)))))))
      (te := tMake c.L (spLInit c) [] E0 (tCons (tVar 2) (tCons (tVar 3) (tCons (tVar 4) (tCons (tMeth C "placed" (spPlaced K c C) [] E0 (tVar 0) (tCons (tVar 2) (tCons (tVar 3) (tCons (tVar 4) tNil)))) tNil)))))
      rfl scShared.nd (pi_tup (pe_glob (v := .ref KA) rfl R.kinds rfl)) (blkOk_by (own := [("kind", 2), ("state", 3), ("deed", 4)]) (N := ["p", "q", "kind", "state", "deed"]) (sc := defScope sShared) (by decide +kernel)) (by decide) (by decide)
      (fun _ _ _ _ _ => pg_name (i := 2) scShared.nd rfl (Or.inl rfl)) (fun _ _ _ _ _ => pts_nil) (fun _ _ _ _ _ => by exact pi_tup (pe_glob (v := .ref SA) rfl R.states rfl)) (fun _ _ _ _ _ => pg_name (i := 3) scShared.nd rfl (Or.inl rfl)) (fun _ _ _ _ _ => pts_nil)
      (fun _ _ _ _ _ => by exact pi_tup (pe_glob (v := .ref DA) rfl R.deeds rfl)) (fun _ _ _ _ _ => pg_name (i := 4) scShared.nd rfl (Or.inl rfl))
      (fun _ _ _ _ _ => pts_two (pt_cmpR op_notN (pe_meth (E := E0) (pv 0) L.cl mP GP hr2 bP .nil pass0 (pa_cons (pv 2) (pa_cons (pv 3) (pa_cons (pv 4) pa_nil)))) pe_non (nomark _)) (pt_cmpR op_eq (pe_meth (E := E0) (pv 0) L.cl mP GP hr2 bP .nil pass0 (pa_cons (pv 2) (pa_cons (pv 3) (pa_cons (pv 4) pa_nil)))) (pe_meth (E := E0) (pv 1) L.cl mP GP hr2 bP .nil pass0 (pa_cons (pv 2) (pa_cons (pv 3) (pa_cons (pv 4) pa_nil)))) (nomark _)))
      (fun _ _ _ _ _ => pe_make (E := E0) ML GL hr rfl M.g bL .nil pass0 (pa_cons (pv 2) (pa_cons (pv 3) (pa_cons (pv 4) (pa_cons (pe_meth (E := E0) (pv 0) L.cl mP GP hr2 bP .nil pass0 (pa_cons (pv 2) (pa_cons (pv 3) (pa_cons (pv 4) pa_nil)))) pa_nil)))))))), ?_⟩
    try dsimp only [gName, tSeq, tAsg, tNext]
    refine evn_lc3 (K := K) (σ := [some u, some v, none, none, none]) (S' := RwA c) (shP p q) (shF p) R.tK R.tS R.tD (Nat.le_trans (shared_len p q) (by decide)) (fun _ => rfl) (fun _ _ => rfl) (fun _ _ _ => rfl) (fun x hx y hy z hz H1 s1 => ?_) H _ (Same.refl H) fun D us H' nD s' hD l => k D us H' nD s' hD l
    obtain ⟨kd, hk, rfl⟩ := List.mem_map.mp hx
    obtain ⟨st, hs, rfl⟩ := List.mem_map.mp hy
    obtain ⟨de, hd, rfl⟩ := List.mem_map.mp hz
    have hp1 := up s1 hp
    have hq1 := up s1 hq
    have e1 : ∀ {G : Hp}, Same H1 G → EvV (Same G) [some u, some v, some (.str kd), some (.str st), some (.str de)] (tMeth C "placed" (spPlaced K c C) [] E0 (tVar 0) (tCons (tVar 2) (tCons (tVar 3) (tCons (tVar 4) tNil)))) (isVv (optV (placeIn kd st de p.rs))) := fun g => ev_placed okp hk hs hd (ev_v rfl (up g hp1)) (ev_v rfl rfl) (ev_v rfl rfl) (ev_v rfl rfl)
    have e2 : ∀ {G : Hp}, Same H1 G → EvV (Same G) [some u, some v, some (.str kd), some (.str st), some (.str de)] (tMeth C "placed" (spPlaced K c C) [] E0 (tVar 1) (tCons (tVar 2) (tCons (tVar 3) (tCons (tVar 4) tNil)))) (isVv (optV (placeIn kd st de q.rs))) := fun g => ev_placed okq hk hs hd (ev_v rfl (up g hq1)) (ev_v rfl rfl) (ev_v rfl rfl) (ev_v rfl rfl)
    refine ⟨ev_bool (ev_andB (ev_test (ev_notN (e1 (Same.refl _)))) fun _ => ev_test (ev_eqV (optV_scal _ _) (e1 (Same.refl _)) (e2 (Same.refl _)))) ?_, fun e => ?_⟩
    · rw [optV_non, optV_inj]
      rfl
    · have e : ((placeIn kd st de p.rs).isSome && decide (placeIn kd st de p.rs = placeIn kd st de q.rs)) = true := e
      obtain ⟨pl, hpl⟩ := Option.isSome_iff_exists.mp (Bool.and_eq_true_iff.mp e).1
      have fe : shF p (.str kd) (.str st) (.str de) = .lt kd st de pl := by
        show Rw.lt kd st de ((placeIn kd st de p.rs).getD "") = _
        rw [hpl]
        rfl
      rw [fe]
      have z := e1 (Same.refl H1)
      rw [hpl] at z
      exact ev_let (okp.2.2.2.1 _ (placeIn_mem hpl)).1 (ev_v rfl rfl) (ev_v rfl rfl) (ev_v rfl rfl) z
theorem ok_noMore {f C : Addr} {c : Rc} {fd : FuncData} (F : Fun K "lets_no_more" "lets_no_more" sNoMore f fd) (za : mg "all" = none) (R : LetC K c) (L : HsC K C) (PL : ∃ (f : Addr) (fd : FuncData), FnOk P w K mg base CX0 2 f fd ["self", "kind", "state", "deed"] (spPlaced K c C) ∧ Meth K C "placed" f ∧ Binds K fd ["self", "kind", "state", "deed"] []) : FnOk P w K mg base CX0 3 f fd ["p", "q"] (spNoMore K c C) := by
  obtain ⟨fP, fdP, GP, mP, bP⟩ := PL
  refine F.ok scNoMore (fun vs H Q E h => ?_) (fun cdv A outer s H vs Q E hr h => ?_)
  · obtain ⟨u, v, p, q, rfl, _⟩ := h
    rfl
  · obtain ⟨u, v, p, q, rfl, hp, hq, okp, okq, k⟩ := h
    refine ⟨_, (pss_cons (ps_if (PW.pt (pw_or (pt_cmpR op_gt (pe_fld (pv 0) rfl) (pe_fld (pv 1) rfl) (nomark _)) (pw_or1 (PW.pt (pw_and (pt_cmpR op_eq (pe_fld (pv 0) rfl) pe_str (nomark _)) (pw_and1 (pt_cmpR op_eq (pe_fld (pv 1) rfl) pe_str (nomark _)))))))) (pss_one (ps_ret pe_bl)) pss_nil)
  (pss_one (ps_ret (pe_callB (cr_all rfl) (by rfl) za (by decide +kernel) (pa_cons (pe_lc (own := [("row", 2)]) (g := gName 2) (tt := tYes) (te := tOp rEq (tMeth C "placed" (spPlaced K c C) [] E0 (tVar 1) (tCons (tFld K (tVar 2) "kind") (tCons (tFld K (tVar 2) "state") (tCons (tFld K (tVar 2) "deed") tNil)))) (tMeth C "placed" (spPlaced K c C) [] E0 (tVar 0) (tCons (tFld K (tVar 2) "kind") (tCons (tFld K (tVar 2) "state") (tCons (tFld K (tVar 2) "deed") tNil))))) (by rfl) scNoMore.nd (pi_tup (pe_fld (pv 0) rfl)) (blkOk_by (own := [("row", 2)]) (N := ["p", "q", "row"]) (sc := defScope sNoMore) (by decide +kernel)) (fun _ _ _ _ _ => (pg_name (i := 2) scNoMore.nd rfl (Or.inl rfl))) (fun _ _ _ _ _ => pts_nil) (fun _ _ _ _ _ => (pe_cmpR op_eq (pe_meth (E := E0) (pv 1) L.cl mP GP hr bP .nil pass0 (pa_cons (pe_fld (pv 2) rfl) (pa_cons (pe_fld (pv 2) rfl) (pa_cons (pe_fld (pv 2) rfl) pa_nil)))) (pe_meth (E := E0) (pv 0) L.cl mP GP hr bP .nil pass0 (pa_cons (pe_fld (pv 2) rfl) (pa_cons (pe_fld (pv 2) rfl) (pa_cons (pe_fld (pv 2) rfl) pa_nil)))) (nomark _)))) pa_nil))))), ?_⟩
    try dsimp only [gName, tSeq, tAsg, tNext]
    refine if_b (H0 := H) (Same.refl _) (ev_orB (ev_test (ev_gt (ev_hsD L (ev_v rfl hp)) (ev_hsD L (ev_v rfl hq)))) fun _ => ev_andB (ev_test (ev_eqS (ev_hsCh L (ev_v rfl hp)) ev_str)) fun _ => ev_test (ev_eqS (ev_hsCh L (ev_v rfl hq)) ev_str)) (fun e H1 s1 => ?_) (fun e H1 s1 => ?_)
    · have z : noMore p q = false := by
        unfold noMore
        rw [e]
        rfl
      rw [z] at k
      exact k H1 s1
    · have hp1 := up s1 hp
      have hq1 := up s1 hq
      have z : noMore p q = (p.rs.map fun r => decide (placeOf r q = placeOf r p)).all id := by
        unfold noMore
        rw [e]
        rfl
      rw [z] at k
      try dsimp only [gName, tSeq, tAsg, tNext]
      refine ev_all (H0 := H1) (K := K) (ev_lcY (as := p.rs) (S := RwA c) (S' := isBv) (fun r => decide (placeOf r q = placeOf r p)) (evi_hsRs L (ev_v rfl hp1)) (Nat.le_trans okp.2.2.2.2 (by decide)) (fun r hr v2 H2 s2 e2 => ?_) fun _ => rfl) H1 _ (Same.refl _) fun v3 H3 s3 _ e3 => ?_
      · obtain ⟨ro, rk⟩ := okp.2.2.2.1 r hr
        cases r with
        | ct _ _ _ => cases rk
        | lt kd st de pl =>
          obtain ⟨k1, k2, k3, _, _⟩ := id ro
          have hp2 := up s2 hp1
          have hq2 := up s2 hq1
          have er : ∀ {G : Hp}, Same H2 G → EvV (Same G) [some u, some v, some v2] (tVar 2) (RwA c (.lt kd st de pl)) := fun g => ev_v rfl (up g e2)
          exact ev_is (ev_eqV (optV_scal _ _) (ev_placed okq k1 k2 k3 (ev_v rfl hq2) (ev_rwK R (er (Same.refl _))) (ev_rwS R (er (Same.refl _))) (ev_rwD R (er (Same.refl _)))) (ev_placed okp k1 k2 k3 (ev_v rfl hp2) (ev_rwK R (er (Same.refl _))) (ev_rwS R (er (Same.refl _))) (ev_rwD R (er (Same.refl _))))) optV_inj
      · cases e3
        exact k H3 (s1.trans s3)
theorem ok_hsAnd {f C : Addr} {c : Rc} {fd : FuncData} (F : Fun K "__and__" "House.__and__" sAnd f fd) (zi : mg "isinstance" = none) (L : HsC K C) (O : HsI K C) (M : MkH P w K mg base c C) (cS : Cal P w K mg base CX0 "shared_rows" 4 ["p", "q"] (spShared K c C)) : FnOk P w K mg base CX0 6 f fd ["self", "other"] (spAnd K c C) := by
  obtain ⟨fS, fdS, GS, mS, kS, bS⟩ := cS
  obtain ⟨fH, fdH, GH, MH, bH⟩ := M.ini
  refine F.ok scAnd (fun vs H Q E h => ?_) (fun cdv A outer s H vs Q E hr h => ?_)
  · obtain ⟨u, v, p, q, rfl, _⟩ := h
    rfl
  · obtain ⟨u, v, p, q, rfl, hp, hq, okp, okq, k⟩ := h
    have hr4 : Room 4 _ := hr.mono (by decide)
    refine ⟨_, (pss_cons (ps_if (pt_not (pt_val (pe_callB call_isi (by rfl) zi (by decide +kernel) (pa_cons (pv 1) (pa_cons (pe_glob (v := .ref C) rfl M.g rfl) pa_nil))))) (pss_one ps_never) pss_nil)
  (pss_cons (ps_set (i := 2) scAnd.nd rfl (Or.inl rfl) (pe_ifExp (pt_cmpR op_le (pe_fld (pv 0) rfl) (pe_fld (pv 1) rfl) (nomark _)) (pe_fld (pv 0) rfl) (pe_fld (pv 1) rfl)))
  (pss_cons (ps_set (i := 3) scAnd.nd rfl (Or.inl rfl) (pe_ifExp (pt_cmpR op_in_seq pe_str (pe_tup (pa_cons (pe_fld (pv 0) rfl) (pa_cons (pe_fld (pv 1) rfl) pa_nil))) rfl) pe_str pe_str))
  (pss_one (ps_ret (pe_make (E := E0) MH GH (hr.mono (by decide)) rfl M.g bH .nil pass0 (pa_cons (pv 2) (pa_cons (pv 3) (pa_cons (pe_call GS hr4 rfl mS kS bS .nil pass0 (pa_cons (pv 0) (pa_cons (pv 1) pa_nil))) pa_nil))))))))), ?_⟩
    try dsimp only [gName, tSeq, tAsg, tNext]
    refine if_f (H0 := H) (Same.refl _) (ev_notB (ev_valB (ev_isHs O (ev_v rfl hq)))) fun H1 s1 => ?_
    have hp1 := up s1 hp
    have hq1 := up s1 hq
    try dsimp only [gName, tSeq, tAsg, tNext]
    refine ev_if (H0 := H1) (R := isIv (if p.d ≤ q.d then p.d else q.d)) (b := decide (p.d ≤ q.d)) (ev_test (ev_le (ev_hsD L (ev_v rfl hp1)) (ev_hsD L (ev_v rfl hq1)))) (fun e => ?_) (fun e => ?_) H1 _ (Same.refl _) fun x2 H2 s2 _ e2 => ?_
    · rw [if_pos (of_decide_eq_true e)]
      exact ev_hsD L (ev_v rfl hp1)
    · rw [if_neg (of_decide_eq_false e)]
      exact ev_hsD L (ev_v rfl hq1)
    cases e2
    have hp2 := up s2 hp1
    have hq2 := up s2 hq1
    try dsimp only [gName, tSeq, tAsg, tNext]
    refine ev_if (H0 := H2) (R := isSv (if decide (("all" : Str) ∈ [p.ch, q.ch]) = true then "all" else "left")) (b := decide (("all" : Str) ∈ [p.ch, q.ch])) (ev_test (ev_inT (x := "all") (L := [p.ch, q.ch]) ev_str (ev_tupU (S := isSv) (evl_cons (ev_hsCh L (ev_v rfl hp2)) (evl_cons (ev_hsCh L (ev_v rfl hq2)) evl_nil)) (by show 2 ≤ 1000; decide)))) (fun e => ?_) (fun e => ?_) H2 _ (Same.refl _) fun x3 H3 s3 _ e3 => ?_
    · rw [if_pos e]
      exact ev_str
    · have z : (if decide (("all" : Str) ∈ [p.ch, q.ch]) = true then ("all" : Str) else "left") = "left" := if_neg (by rw [e]; exact Bool.false_ne_true)
      rw [z]
      exact ev_str
    cases e3
    have hp3 := up s3 hp2
    have hq3 := up s3 hq2
    try dsimp only [gName, tSeq, tAsg, tNext]
    refine ⟨_, rfl, _, rfl, _, rfl, _, rfl, u, v, p, q, rfl, hp3, hq3, okp, okq, fun D us H4 nD s4 hD l => ?_⟩
    exact fun y dy ny ndy _ => mk_house (h := andH p q) hD l (andH_ok okp okq) ny ndy fun H' s' a => ⟨rfl, k _ H' ((((s1.trans s2).trans s3).trans s4).trans s') a⟩
theorem ok_hsLe {f C : Addr} {c : Rc} {fd : FuncData} (F : Fun K "__le__" "House.__le__" sLe f fd) (zi : mg "isinstance" = none) (gH : mg "House" = some (.ref C)) (O : HsI K C) (cN : Cal P w K mg base CX0 "lets_no_more" 3 ["p", "q"] (spNoMore K c C)) : FnOk P w K mg base CX0 4 f fd ["self", "other"] (spNoMore K c C) := by
  obtain ⟨fN, fdN, GN, mN, kN, bN⟩ := cN
  refine F.ok scLe (fun vs H Q E h => ?_) (fun cdv A outer s H vs Q E hr h => ?_)
  · obtain ⟨u, v, p, q, rfl, _⟩ := h
    rfl
  · obtain ⟨u, v, p, q, rfl, hp, hq, okp, okq, k⟩ := h
    refine ⟨_, (pss_cons (ps_if (pt_not (pt_val (pe_callB call_isi (by rfl) zi (by decide +kernel) (pa_cons (pv 1) (pa_cons (pe_glob (v := .ref C) rfl gH rfl) pa_nil))))) (pss_one ps_never) pss_nil)
  (pss_one (ps_ret (pe_call GN hr rfl mN kN bN .nil pass0 (pa_cons (pv 0) (pa_cons (pv 1) pa_nil)))))), ?_⟩
    try dsimp only [gName, tSeq, tAsg, tNext]
    refine if_f (H0 := H) (Same.refl _) (ev_notB (ev_valB (ev_isHs O (ev_v rfl hq)))) fun H1 s1 => ?_
    try dsimp only [gName, tSeq, tAsg, tNext]
    exact ⟨_, rfl, _, rfl, u, v, p, q, rfl, up s1 hp, up s1 hq, okp, okq, fun H' s' => k H' (s1.trans s')⟩
theorem ok_hsGe {f C : Addr} {c : Rc} {fd : FuncData} (F : Fun K "__ge__" "House.__ge__" sGe f fd) (zi : mg "isinstance" = none) (gH : mg "House" = some (.ref C)) (O : HsI K C) (cN : Cal P w K mg base CX0 "lets_no_more" 3 ["p", "q"] (spNoMore K c C)) : FnOk P w K mg base CX0 4 f fd ["self", "other"] (spMoreNo K c C) := by
  obtain ⟨fN, fdN, GN, mN, kN, bN⟩ := cN
  refine F.ok scGe (fun vs H Q E h => ?_) (fun cdv A outer s H vs Q E hr h => ?_)
  · obtain ⟨u, v, p, q, rfl, _⟩ := h
    rfl
  · obtain ⟨u, v, p, q, rfl, hp, hq, okp, okq, k⟩ := h
    refine ⟨_, (pss_cons (ps_if (pt_not (pt_val (pe_callB call_isi (by rfl) zi (by decide +kernel) (pa_cons (pv 1) (pa_cons (pe_glob (v := .ref C) rfl gH rfl) pa_nil))))) (pss_one ps_never) pss_nil)
  (pss_one (ps_ret (pe_call GN hr rfl mN kN bN .nil pass0 (pa_cons (pv 1) (pa_cons (pv 0) pa_nil)))))), ?_⟩
    try dsimp only [gName, tSeq, tAsg, tNext]
    refine if_f (H0 := H) (Same.refl _) (ev_notB (ev_valB (ev_isHs O (ev_v rfl hq)))) fun H1 s1 => ?_
    try dsimp only [gName, tSeq, tAsg, tNext]
    exact ⟨_, rfl, _, rfl, v, u, q, p, rfl, up s1 hq, up s1 hp, okq, okp, fun H' s' => k H' (s1.trans s')⟩
end
end V3

set_option Elab.async false
set_option linter.all false
set_option maxRecDepth 100000
/-! houses that let more: what is played in one is played in the other -/
namespace V3
open PySem L2 TL
structure More (h g : Hs) : Prop where
  d : h.d ≤ g.d
  ch : g.ch = ("all" : Str) → h.ch = ("all" : Str)
  pl : ∀ k s d x, placeIn k s d h.rs = some x → placeIn k s d g.rs = some x
theorem More.refl (h : Hs) : More h h := ⟨Int.le_refl _, fun e => e, fun _ _ _ _ e => e⟩
theorem month_more {h g : Hs} (m : More h g) {b : Bk} {j : Nat} {d : Str} {mo : Int} (e : monthFor h b j d = some mo) : monthFor g b j d = some mo := by
  unfold monthFor at e ⊢
  obtain ⟨x, hx, rfl⟩ := Option.map_eq_some_iff.mp e
  rw [m.pl _ _ _ _ hx]
  rfl
theorem do_more {h g : Hs} (m : More h g) (d0 : 0 ≤ h.d) {b b' : Bk} {mv : Mv} (e : doB h b mv = some b') : doB g b mv = some b' := by
  have tk : ∀ (j : Nat) (o : Option Int), takeB h b j o = some b' → takeB g b j o = some b' := fun j o e => by
    unfold takeB at e ⊢
    by_cases q1 : j < b.es.length
    · rw [if_pos q1] at e ⊢
      by_cases q2 : (h.d ≤ (depth b.es j : Int)) ∨ leftAt b.es j ≤ 0
      · rw [if_pos q2] at e
        cases e
      · rw [if_neg q2] at e
        have z : ¬ ((g.d ≤ (depth b.es j : Int)) ∨ leftAt b.es j ≤ 0) := fun y => q2 (y.imp (fun y => Int.le_trans m.d y) id)
        rw [if_neg z]
        cases q3 : monthFor h b j (if o.isNone then "whole" else "part") with
        | none => rw [q3] at e; cases e
        | some mo =>
          rw [q3] at e
          rw [month_more m q3]
          have e : (if leftAt b.es j < o.getD (leftAt b.es j) then none
            else if h.ch = ("all" : Str) ∧ overAll b.es j (o.getD (leftAt b.es j)) = true then none
            else some (Bk.mk (b.es ++ [⟨mo, o.getD (leftAt b.es j), some j, none⟩]) b.m)) = some b' := e
          show (if leftAt b.es j < o.getD (leftAt b.es j) then none
            else if g.ch = ("all" : Str) ∧ overAll b.es j (o.getD (leftAt b.es j)) = true then none
            else some (Bk.mk (b.es ++ [⟨mo, o.getD (leftAt b.es j), some j, none⟩]) b.m)) = some b'
          by_cases q4 : leftAt b.es j < o.getD (leftAt b.es j)
          · rw [if_pos q4] at e
            cases e
          · rw [if_neg q4] at e ⊢
            by_cases q5 : h.ch = ("all" : Str) ∧ overAll b.es j (o.getD (leftAt b.es j)) = true
            · rw [if_pos q5] at e
              cases e
            · rw [if_neg q5] at e
              rw [if_neg fun y => q5 ⟨m.ch y.1, y.2⟩]
              exact e
    · rw [if_neg q1] at e
      cases e
  cases mv with
  | beg a => exact e
  | shut => exact e
  | take t => exact tk _ none e
  | takeBy t a => exact tk _ (some a) e
  | right t a =>
    have e : rightB h b t.toNat a = some b' := e
    show rightB g b t.toNat a = some b'
    unfold rightB at e ⊢
    by_cases q1 : t.toNat < b.es.length
    · rw [if_pos q1] at e ⊢
      by_cases q2 : h.d = 0 ∨ (∃ x ∈ b.es, x.ta = some t.toNat)
      · rw [if_pos q2] at e
        cases e
      · rw [if_neg q2] at e
        have md := m.d
        have z : ¬ (g.d = 0 ∨ (∃ x ∈ b.es, x.ta = some t.toNat)) := fun y => q2 (y.imp (fun y => by omega) id)
        rw [if_neg z]
        cases q3 : monthFor h b t.toNat "right" with
        | none => rw [q3] at e; cases e
        | some mo =>
          rw [q3] at e
          rw [month_more m q3]
          exact e
    · rw [if_neg q1] at e
      cases e
theorem play_more {h g : Hs} (m : More h g) (d0 : 0 ≤ h.d) : ∀ {ms : List Mv} {b b' : Bk}, playB h b ms = some b' → playB g b ms = some b'
  | [], _, _, e => e
  | mv :: r, b, b', e => by
    have e : (match doB h b mv with
      | none => none
      | some b1 => playB h b1 r) = some b' := e
    show (match doB g b mv with
      | none => none
      | some b1 => playB g b1 r) = some b'
    cases q : doB h b mv with
    | none => rw [q] at e; cases e
    | some b1 =>
      rw [q] at e
      rw [do_more m d0 q]
      exact play_more m d0 (ms := r) e
theorem place_app {k s d : Str} {ys : List Rw} : ∀ {xs : List Rw}, placeIn k s d (xs ++ ys) = match placeIn k s d xs with
    | some x => some x
    | none => placeIn k s d ys
  | [] => rfl
  | .lt k' s' d' p' :: r => by
    show (if k' = k ∧ s' = s ∧ d' = d then some p' else placeIn k s d (r ++ ys)) = match (if k' = k ∧ s' = s ∧ d' = d then some p' else placeIn k s d r) with
      | some x => some x
      | none => placeIn k s d ys
    by_cases e : k' = k ∧ s' = s ∧ d' = d
    · rw [if_pos e, if_pos e]
    · rw [if_neg e, if_neg e]
      exact place_app (xs := r)
  | .ct _ _ _ :: r => place_app (xs := r)
theorem place_mem {k s d x : Str} : ∀ {rs : List Rw}, Rw.lt k s d x ∈ rs → ∃ y, placeIn k s d rs = some y
  | [], h => by cases h
  | .lt k' s' d' p' :: r, h => by
    by_cases e : k' = k ∧ s' = s ∧ d' = d
    · exact ⟨p', if_pos e⟩
    · rcases List.mem_cons.mp h with h | h
      · injection h with h1 h2 h3 h4
        exact absurd ⟨h1.symm, h2.symm, h3.symm⟩ e
      · obtain ⟨y, hy⟩ := place_mem h
        exact ⟨y, (if_neg e).trans hy⟩
  | .ct _ _ _ :: r, h => by
    rcases List.mem_cons.mp h with h | h
    · cases h
    · exact place_mem (rs := r) h
theorem more_app {h : Hs} {d2 : Int} {c2 : Str} {ys : List Rw} (hd : h.d ≤ d2) (hc : c2 = ("all" : Str) → h.ch = ("all" : Str)) : More h ⟨d2, c2, h.rs ++ ys⟩ := ⟨hd, hc, fun k s d x e => by
  show placeIn k s d (h.rs ++ ys) = some x
  rw [place_app, e]⟩
theorem more_twice {h : Hs} : More ⟨h.d, h.ch, h.rs ++ h.rs⟩ h := ⟨Int.le_refl _, fun e => e, fun k s d x e => by
  have e : placeIn k s d (h.rs ++ h.rs) = some x := e
  rw [place_app] at e
  cases q : placeIn k s d h.rs with
  | some y => rw [q] at e; exact e
  | none => rw [q] at e; exact e⟩
theorem shared_mem {p q : Hs} {k s d x : Str} (hp : p.ok) : Rw.lt k s d x ∈ sharedR p q ↔ placeIn k s d p.rs = some x ∧ placeIn k s d q.rs = some x := by
  constructor
  · intro h
    unfold sharedR tri at h
    obtain ⟨a, _, h⟩ := List.mem_flatMap.mp h
    obtain ⟨b, _, h⟩ := List.mem_flatMap.mp h
    obtain ⟨c, _, h⟩ := List.mem_flatMap.mp h
    split at h
    · rename_i e
      have h := List.mem_singleton.mp h
      unfold shF at h
      injection h with h1 h2 h3 h4
      unfold shP at e
      rw [← h1, ← h2, ← h3] at e h4
      obtain ⟨e1, e2⟩ := Bool.and_eq_true_iff.mp e
      obtain ⟨y, hy⟩ := Option.isSome_iff_exists.mp e1
      have e2 := of_decide_eq_true e2
      rw [hy] at h4
      have h4 : x = y := h4
      subst h4
      exact ⟨hy, by rw [← e2]; exact hy⟩
    · cases h
  · rintro ⟨h1, h2⟩
    obtain ⟨k1, k2, k3, _, _⟩ := (hp.2.2.2.1 _ (placeIn_mem h1)).1
    unfold sharedR tri
    refine List.mem_flatMap.mpr ⟨.str k, List.mem_map.mpr ⟨k, k1, rfl⟩, List.mem_flatMap.mpr ⟨.str s, List.mem_map.mpr ⟨s, k2, rfl⟩, List.mem_flatMap.mpr ⟨.str d, List.mem_map.mpr ⟨d, k3, rfl⟩, ?_⟩⟩⟩
    have e : shP p q (.str k) (.str s) (.str d) = true := by
      show ((placeIn k s d p.rs).isSome && decide (placeIn k s d p.rs = placeIn k s d q.rs)) = true
      rw [h1, h2, decide_eq_true rfl]
      rfl
    rw [if_pos e]
    have f : shF p (.str k) (.str s) (.str d) = .lt k s d x := by
      show Rw.lt k s d ((placeIn k s d p.rs).getD "") = _
      rw [h1]
      rfl
    rw [f]
    exact List.mem_cons_self
theorem shared_at {p q : Hs} {k s d x : Str} (hp : p.ok) : placeIn k s d (sharedR p q) = some x ↔ placeIn k s d p.rs = some x ∧ placeIn k s d q.rs = some x := by
  constructor
  · intro h
    exact (shared_mem hp).mp (placeIn_mem h)
  · intro h
    obtain ⟨y, hy⟩ := place_mem ((shared_mem hp).mpr h)
    have z := (shared_mem hp).mp (placeIn_mem hy)
    rw [h.1] at z
    rw [hy, Option.some.inj z.1]
theorem more_and {p q : Hs} (m : More p q) (hp : p.ok) : More p (andH p q) ∧ More (andH p q) q := by
  have ed : (andH p q).d = p.d := if_pos m.d
  have ec : (andH p q).ch = (if decide (("all" : Str) ∈ [p.ch, q.ch]) = true then ("all" : Str) else "left") := rfl
  have n1 : ("left" : Str) ≠ "all" := by decide +kernel
  refine ⟨⟨by rw [ed]; exact Int.le_refl _, fun e => ?_, fun k s d x e => (shared_at hp).mpr ⟨e, m.pl _ _ _ _ e⟩⟩, ⟨by rw [ed]; exact m.d, fun e => ?_, fun k s d x e => ((shared_at hp).mp e).2⟩⟩
  · rw [ec] at e
    split at e
    · rename_i z
      have z := of_decide_eq_true z
      rcases List.mem_cons.mp z with z | z
      · exact z.symm
      · exact m.ch (List.mem_singleton.mp z).symm
    · exact absurd e n1
  · rw [ec]
    exact if_pos (decide_eq_true (by rw [e]; simp))
theorem more_noMore {p q : Hs} (m : More p q) (hp : p.ok) : noMore p q = true := by
  unfold noMore
  have n1 : ("left" : Str) ≠ "all" := by decide +kernel
  have z1 : decide (q.d < p.d) = false := decide_eq_false (by have := m.d; omega)
  have z2 : (decide (p.ch = ("left" : Str)) && decide (q.ch = ("all" : Str))) = false := by
    cases e : decide (q.ch = ("all" : Str)) with
    | false => rw [Bool.and_false]
    | true =>
      have := m.ch (of_decide_eq_true e)
      rw [decide_eq_false (by rw [this]; exact Ne.symm n1)]
      rfl
  rw [z1, z2]
  show (true && _) = true
  rw [Bool.true_and, List.all_eq_true]
  intro b hb
  obtain ⟨r, hr, rfl⟩ := List.mem_map.mp hb
  refine decide_eq_true ?_
  cases r with
  | ct _ _ _ => rfl
  | lt k s d x =>
    obtain ⟨y, hy⟩ := place_mem hr
    show placeIn k s d q.rs = placeIn k s d p.rs
    rw [hy, m.pl _ _ _ _ hy]
end V3

set_option Elab.async false
set_option linter.all false
set_option maxRecDepth 100000
/-! the places of a house, and what two houses share of them (for k15) -/
namespace V3
open PySem L2 TL
/-- the law's list of places: what a house shares with itself -/
abbrev placesR (h : Hs) : List Rw := sharedR h h
theorem places_mem {h : Hs} {k s d x : Str} (ok : h.ok) : Rw.lt k s d x ∈ placesR h ↔ placeIn k s d h.rs = some x := by
  rw [shared_mem ok]
  exact ⟨fun e => e.1, fun e => ⟨e, e⟩⟩
theorem flat_filter {α β : Type} {P : β → Bool} {F : α → List β} : ∀ {xs : List α}, (xs.flatMap F).filter P = xs.flatMap fun x => (F x).filter P
  | [] => rfl
  | x :: r => by rw [List.flatMap_cons, List.flatMap_cons, List.filter_append, flat_filter]
theorem flat_eq {α β : Type} {F G : α → List β} : ∀ {xs : List α}, (∀ x ∈ xs, F x = G x) → xs.flatMap F = xs.flatMap G
  | [], _ => rfl
  | x :: r, h => by rw [List.flatMap_cons, List.flatMap_cons, h x List.mem_cons_self, flat_eq fun y hy => h y (List.mem_cons_of_mem _ hy)]
/-- the places of p that q has too -/
theorem places_both {p q : Hs} (hq : q.ok) : (placesR p).filter (fun r => decide (r ∈ placesR q)) = sharedR p q := by
  obtain ⟨P, hP⟩ : ∃ P : Rw → Bool, ∀ r, P r = decide (r ∈ placesR q) := ⟨_, fun _ => rfl⟩
  rw [show (fun r => decide (r ∈ placesR q)) = P from funext fun r => (hP r).symm]
  unfold placesR sharedR tri
  rw [flat_filter]
  refine flat_eq fun x _ => ?_
  rw [flat_filter]
  refine flat_eq fun y _ => ?_
  rw [flat_filter]
  refine flat_eq fun z _ => ?_
  have e1 : shP p p x y z = (placeIn (svS x) (svS y) (svS z) p.rs).isSome := by
    unfold shP
    rw [decide_eq_true rfl, Bool.and_true]
  cases e : placeIn (svS x) (svS y) (svS z) p.rs with
  | none =>
    have a : shP p p x y z = false := by rw [e1, e]; rfl
    have b : shP p q x y z = false := by unfold shP; rw [e]; rfl
    rw [a, b]
    rfl
  | some pl =>
    have a : shP p p x y z = true := by rw [e1, e]; rfl
    have f : shF p x y z = .lt (svS x) (svS y) (svS z) pl := by unfold shF; rw [e]; rfl
    have b : shP p q x y z = decide (placeIn (svS x) (svS y) (svS z) q.rs = some pl) := by
      unfold shP
      rw [e]
      show (true && decide (some pl = placeIn (svS x) (svS y) (svS z) q.rs)) = _
      rw [Bool.true_and]
      by_cases w : placeIn (svS x) (svS y) (svS z) q.rs = some pl
      · rw [decide_eq_true w, decide_eq_true w.symm]
      · rw [decide_eq_false w, decide_eq_false (Ne.symm w)]
    rw [a, f]
    show [Rw.lt (svS x) (svS y) (svS z) pl].filter _ = if shP p q x y z = true then _ else []
    rw [b]
    by_cases w : placeIn (svS x) (svS y) (svS z) q.rs = some pl
    · rw [if_pos (decide_eq_true w), List.filter_cons_of_pos (by rw [hP]; exact decide_eq_true ((places_mem hq).mpr w)), List.filter_nil]
    · rw [if_neg (by rw [decide_eq_false w]; exact Bool.false_ne_true), List.filter_cons_of_neg (by rw [hP, decide_eq_false fun z => w ((places_mem hq).mp z)]; exact Bool.false_ne_true), List.filter_nil]
/-- no place of p that q lacks: the same as the program's comparison row by row -/
theorem places_within {p q : Hs} (hp : p.ok) (hq : q.ok) : ((placesR p).filter (fun r => !decide (r ∈ placesR q))).isEmpty = (p.rs.map fun r => decide (placeOf r q = placeOf r p)).all id := by
  by_cases h : ∀ k s d x, placeIn k s d p.rs = some x → placeIn k s d q.rs = some x
  · have a : (p.rs.map fun r => decide (placeOf r q = placeOf r p)).all id = true := by
      rw [List.all_eq_true]
      intro b hb
      obtain ⟨r, hr, rfl⟩ := List.mem_map.mp hb
      refine decide_eq_true ?_
      cases r with
      | ct _ _ _ => rfl
      | lt k s d x =>
        obtain ⟨y, hy⟩ := place_mem hr
        show placeIn k s d q.rs = placeIn k s d p.rs
        rw [hy, h _ _ _ _ hy]
    rw [a, List.isEmpty_iff, List.filter_eq_nil_iff]
    intro r hr
    have hm := hp.2.2.2.1 r (shared_row hr)
    cases r with
    | ct _ _ _ => cases hm.2
    | lt k s d x =>
      rw [decide_eq_true ((places_mem hq).mpr (h _ _ _ _ ((places_mem hp).mp hr)))]
      exact Bool.false_ne_true
  · have a : (p.rs.map fun r => decide (placeOf r q = placeOf r p)).all id = false := by
      cases e : (p.rs.map fun r => decide (placeOf r q = placeOf r p)).all id with
      | false => rfl
      | true =>
        refine absurd (fun k s d x hx => ?_) h
        rw [List.all_eq_true] at e
        have z := e _ (List.mem_map.mpr ⟨_, placeIn_mem hx, rfl⟩)
        have z : decide (placeIn k s d q.rs = placeIn k s d p.rs) = true := z
        rw [of_decide_eq_true z]
        exact hx
    rw [a]
    cases e : ((placesR p).filter (fun r => !decide (r ∈ placesR q))).isEmpty with
    | false => rfl
    | true =>
      refine absurd (fun k s d x hx => ?_) h
      rw [List.isEmpty_iff, List.filter_eq_nil_iff] at e
      have z := e _ ((places_mem hp).mpr hx)
      by_cases w : Rw.lt k s d x ∈ placesR q
      · exact (places_mem hq).mp w
      · exact absurd (by rw [decide_eq_false w]; rfl) z
end V3

set_option Elab.async false
set_option linter.all false
set_option maxRecDepth 100000
/-! x + y of two classes, x += y -/
namespace V3
open PySem PySem.Spec PyProof.Rows L2
/-- no class up the line of D has one of these names -/
def Silent (K : PySem.W.Frag) (D : Addr) (ns : List Str) : Prop := ∃ (oc : Value) (od : Option Addr) (cd : ClassData) (sl : Array (Option Value)), K.lookup D = some ⟨oc, od, .cls cd, sl⟩ ∧ ∀ c ∈ cd.mro, ∀ n ∈ ns, PySem.W.findIn K c n = some none
section
variable {M : Model} {h : Heap} {K : PySem.W.Frag} {D : Addr}
theorem anyM_off {f : Value → Sem Bool} : ∀ {l : List Value}, (∀ c ∈ l, PySem.W.Looks M h (f c) false) → PySem.W.Looks M h (l.anyM f) false
  | [], _ => .now
  | c :: r, e => (e c (List.mem_cons_self ..)).andThen (anyM_off (l := r) fun d hd => e d (List.mem_cons_of_mem _ hd))
theorem cls_mro {oc : Value} {od : Option Addr} {cd : ClassData} {sl : Array (Option Value)} (X : K.In h) (e : K.lookup D = some ⟨oc, od, .cls cd, sl⟩) : PySem.W.Looks M h (mroOf (.ref D)) cd.mro := by
  have z : PySem.W.clsIn K D = some cd := by
    unfold PySem.W.clsIn
    rw [e]
  exact (PySem.W.looks_clsIn X z).andThen (f := fun cd => pure cd.mro) .now
theorem silent_fills {nm : String} (X : K.In h) (s : Silent K D [dunder nm, dunderR nm]) : PySem.W.Looks M h (fillsNumberSlot (.ref D) nm) false := by
  obtain ⟨oc, od, cd, sl, e, al⟩ := s
  unfold fillsNumberSlot
  refine (cls_mro X e).andThen (anyM_off fun c hc => ?_)
  have h1 := PySem.W.looks_findIn (M := M) X (al c hc (dunder nm) (by simp))
  have h2 := PySem.W.looks_findIn (M := M) X (al c hc (dunderR nm) (by simp))
  cases c with
  | type n => exact h1.andThen (h2.andThen .now)
  | ref a => exact (h1.andThen (b := false) .now).andThen ((h2.andThen (b := false) .now).andThen .now)
  | _ => exact absurd (al _ hc (dunder nm) (by simp)) (by simp [PySem.W.findIn])
theorem silent_inp {nm : String} {add : Bool} (X : K.In h) (s : Silent K D [dunderI nm]) : PySem.W.Looks M h (fillsInplaceSlot (.ref D) nm add) false := by
  obtain ⟨oc, od, cd, sl, e, al⟩ := s
  unfold fillsInplaceSlot
  refine (cls_mro X e).andThen (anyM_off fun c hc => ?_)
  have h1 := PySem.W.looks_findIn (M := M) X (al c hc (dunderI nm) (by simp))
  exact h1.andThen .now
end
section
variable {prog : Program} {w : World} {A : Around} {E : Value → Shared → Prop} {s : Shared} {K : PySem.W.Frag} {x C D f : Addr} {ox : Obj} {od : Option Obj}
theorem bin1_same {nm : String} {b : Value} {Q : Value → Shared → Prop} (X : K.In s.heap) (I : PySem.W.InstAt s.heap x ox C od) (hb : PySem.W.Looks (model prog w) s.heap (typeOf b) (.ref C)) (hc : PySem.W.selfFirst K C = true)
    (hs : PySem.W.findIn K (.ref C) (dunder nm) = some (some (.ref f))) (hf : PySem.W.isFn K (.ref f) = true)
    (h : wpAny (model prog w) A (call (.ref f) [.ref x, b]) (PySem.W.CmpBack Q) E s) : wpAny (model prog w) A (binaryOp1 nm (.ref x) b) (fun r s' => ∃ v, r = some v ∧ Q v s') E s := by
  obtain ⟨cd, rest, hcd, hm⟩ := PySem.W.ksp_first hc
  have one := PySem.W.ksp_try X I hs hf h
  unfold binaryOp1
  refine wpAny_bind (I.type.here (wpAny_bind (hb.here (wpAny_bind ((PySem.W.fills_K X hcd hm hs).here ?_)))))
  simp only [beq_self_eq_true, if_true]
  refine wpAny_bind (wpAny_pure ?_)
  simp only [Bool.and_false, Bool.false_eq_true, if_false, Bool.false_and]
  refine wpAny_bind (wpAny_pure ?_)
  simp only [Bool.false_eq_true, if_false]
  refine wpAny_bind (wpAny_mono one (fun r s' z => ?_) fun _ _ e => e)
  obtain ⟨v, rfl, q⟩ := z
  exact wpAny_pure ⟨v, rfl, q⟩
theorem bin1_mix {nm : String} {b : Value} {Q : Value → Shared → Prop} (X : K.In s.heap) (I : PySem.W.InstAt s.heap x ox C od) (hb : PySem.W.Looks (model prog w) s.heap (typeOf b) (.ref D)) (hne : C ≠ D) (hc : PySem.W.selfFirst K C = true)
    (hs : PySem.W.findIn K (.ref C) (dunder nm) = some (some (.ref f))) (hf : PySem.W.isFn K (.ref f) = true) (sil : Silent K D [dunder nm, dunderR nm])
    (h : wpAny (model prog w) A (call (.ref f) [.ref x, b]) (PySem.W.CmpBack Q) E s) : wpAny (model prog w) A (binaryOp1 nm (.ref x) b) (fun r s' => ∃ v, r = some v ∧ Q v s') E s := by
  obtain ⟨cd, rest, hcd, hm⟩ := PySem.W.ksp_first hc
  have one := PySem.W.ksp_try X I hs hf h
  have ne : (Value.ref C == Value.ref D) = false := Bool.eq_false_iff.mpr fun q => hne (by
    have z := beq_iff_eq.mp q
    injection z)
  unfold binaryOp1
  refine wpAny_bind (I.type.here (wpAny_bind (hb.here (wpAny_bind ((PySem.W.fills_K X hcd hm hs).here ?_)))))
  simp only [ne, Bool.false_eq_true, if_false]
  refine wpAny_bind ((silent_fills X sil).here ?_)
  simp only [Bool.and_false, Bool.false_eq_true, if_false, Bool.false_and]
  refine wpAny_bind (wpAny_pure ?_)
  simp only [Bool.false_eq_true, if_false]
  refine wpAny_bind (wpAny_mono one (fun r s' z => ?_) fun _ _ e => e)
  obtain ⟨v, rfl, q⟩ := z
  exact wpAny_pure ⟨v, rfl, q⟩
end
section
variable {X : Cx} {n : Nat}
/-- the classes of x and y, at x op y -/
def BinTwo (K : PySem.W.Frag) (C D : Addr) (op : Operator) : Prop := C = D ∨ (C ≠ D ∧ Silent K D [dunder op.info.2, dunderR op.info.2])
def rBinD (K : PySem.W.Frag) (op : Operator) (inp : Bool) (FF : Addr → Sp → XK → Prop) : R2 := fun x y H Q => ∃ (a C dx : Addr) (fs : List (Str × V)) (b D dy : Addr) (gs : List (Str × V)) (sp : Sp) (E : XK), x = .ref a ∧ y = .ref b ∧ H a = some (.ins C dx fs) ∧ H b = some (.ins D dy gs) ∧
  BinTwo K C D op ∧ (inp = true → Silent K C [dunderI op.info.2]) ∧ FF C sp E ∧ sp [x, y] H Q E
abbrev OpF (X : Cx) (n : Nat) (op : Operator) (FF : Addr → Sp → XK → Prop) : Prop := ∀ C sp E, FF C sp E → ∃ (CX : CXT) (f : Addr) (fd : FuncData) (ps : List Str), FnOk X.prog X.w X.K X.mg X.base CX n f fd ps sp ∧ BinCls X.K C f op ∧ Binds X.K fd ps [] ∧ Passes CX X E
theorem bin_run {op : Operator} {inp : Bool} {FF : Addr → Sp → XK → Prop} (hF : OpF X n op FF) (hr : Room n X.A) {pins : List (Addr × Obj)} {s : Shared} {σ : L2.St} {H : Hp} {x y : V} {v u : Value} {Q : VK} (I : Inv X pins σ H s) (rx : RelV x v) (ry : RelV y u)
    (hq : rBinD X.K op inp FF x y H Q) : ∃ (a C : Addr) (ox : Obj) (od : Option Obj), v = .ref a ∧ PySem.W.InstAt s.heap a ox C od ∧ (inp = true → Silent X.K C [dunderI op.info.2]) ∧ wpAny (model X.prog X.w) X.A (binaryOp1 op.info.2 v u) (fun r s' => ∃ z, r = some z ∧ EP X pins σ Q z s') X.xe s := by
  obtain ⟨a, C, dx, fs, b, D, dy, gs, sp, E, rfl, rfl, ha, hb, two, no, ff, hsp⟩ := hq
  obtain ⟨CX, f, fd, ps, F, ec, bi, hx⟩ := hF C sp E ff
  cases rx
  cases ry
  obtain ⟨mA, J, _⟩ := ins_get I.hok ha
  obtain ⟨mB, J', _⟩ := ins_get I.hok hb
  obtain ⟨od, J, _⟩ := J.look
  obtain ⟨od', J', _⟩ := J'.look
  have go : wpAny (model X.prog X.w) X.A (call (.ref f) [.ref a, .ref b]) (PySem.W.CmpBack (EP X pins σ Q)) X.xe s := by
    refine wpAny_mono (run_own (x := .ref a) (y := .ref b) ⟨hr, rfl⟩ F bi hx I rfl rfl hsp) (fun w s' q => ?_) fun _ _ e => e
    obtain ⟨z, H', I', rz, q⟩ := q
    exact vals_back rz ⟨z, H', I', rz, q⟩
  refine ⟨a, C, _, _, rfl, J, no, ?_⟩
  rcases two with rfl | ⟨ne, sil⟩
  · exact bin1_same I.kIn J J'.type ec.sf ec.at_ ec.fn go
  · exact bin1_mix I.kIn J J'.type ne ec.sf ec.at_ ec.fn sil go
theorem op_binD {op : Operator} {FF : Addr → Sp → XK → Prop} (hF : OpF X n op FF) (hr : Room n X.A) : OpR X (binaryOp op) (rBinD X.K op false FF) := by
  intro pins s σ H x y v u Q I rx ry hq
  obtain ⟨a, C, ox, od, rfl, J, no, go⟩ := bin_run hF hr I rx ry hq
  unfold binaryOp
  refine wpAny_holding (wpAny_bind (wpAny_mono go (fun r s' z => ?_) fun _ _ e => e))
  obtain ⟨v, rfl, q⟩ := z
  exact wpAny_pure q
theorem ip_own {op : Operator} {FF : Addr → Sp → XK → Prop} (hF : OpF X n op FF) (hr : Room n X.A) : PIp X op (rBinD X.K op true FF) := by
  intro pins s σ H x y v u Q I rx ry hq
  obtain ⟨a, C, ox, od, rfl, J, no, go⟩ := bin_run hF hr I rx ry hq
  unfold inplaceOp
  refine wpAny_holding (wpAny_bind (J.type.here (wpAny_bind ((silent_inp I.kIn (no rfl)).here ?_))))
  simp only [Bool.false_eq_true, if_false]
  refine wpAny_bind (wpAny_mono go (fun r s' z => ?_) fun _ _ e => e)
  obtain ⟨v, rfl, q⟩ := z
  exact wpAny_pure q
end
end V3

set_option Elab.async false
set_option linter.all false
set_option maxRecDepth 100000
/-! houses compared, put together; house tuples made -/
namespace V3
open PySem L2 TL
/-- what is done with two houses -/
structure HsAB (P : Program) (w : World) (K : PySem.W.Frag) (mg : Str → Option Value) (base : Heap) (c : Rc) (C : Addr) : Prop where
  le : ∃ (f : Addr) (fd : FuncData), FnOk P w K mg base CX0 4 f fd ["self", "other"] (spNoMore K c C) ∧ CmpCls K C f .LtE ∧ Binds K fd ["self", "other"] []
  ge : ∃ (f : Addr) (fd : FuncData), FnOk P w K mg base CX0 4 f fd ["self", "other"] (spMoreNo K c C) ∧ CmpCls K C f .GtE ∧ Binds K fd ["self", "other"] []
  an : ∃ (f : Addr) (fd : FuncData), FnOk P w K mg base CX0 6 f fd ["self", "other"] (spAnd K c C) ∧ BinCls K C f .BitAnd ∧ Binds K fd ["self", "other"] []
  nf : PySem.W.notFirst K C (.ref C) = true
def FFle (K : PySem.W.Frag) (c : Rc) (C : Addr) : Addr → Sp → XK → Prop := fun D sp E => D = C ∧ sp = spNoMore K c C ∧ E = E0
def FFge (K : PySem.W.Frag) (c : Rc) (C : Addr) : Addr → Sp → XK → Prop := fun D sp E => D = C ∧ sp = spMoreNo K c C ∧ E = E0
def FFan (K : PySem.W.Frag) (c : Rc) (C : Addr) : Addr → Sp → XK → Prop := fun D sp E => D = C ∧ sp = spAnd K c C ∧ E = E0
section
variable {X : Cx} {c : Rc} {C : Addr}
theorem op_leH (T : HsAB X.prog X.w X.K X.mg X.base c C) (hr : Room 4 X.A) : OpR X (compareOp .LtE) (rEqO X.K 4 (FFle X.K c C) false) := op_leO (fun D sp E h => by
  obtain ⟨rfl, rfl, rfl⟩ := h
  obtain ⟨f, fd, F, ec, bi⟩ := T.le
  exact ⟨CX0, f, fd, _, F, ec, bi, fun _ _ _ _ _ _ _ h => h.elim⟩) hr
theorem op_geH (T : HsAB X.prog X.w X.K X.mg X.base c C) (hr : Room 4 X.A) : OpR X (compareOp .GtE) (rEqO X.K 4 (FFge X.K c C) false) := op_geO (fun D sp E h => by
  obtain ⟨rfl, rfl, rfl⟩ := h
  obtain ⟨f, fd, F, ec, bi⟩ := T.ge
  exact ⟨CX0, f, fd, _, F, ec, bi, fun _ _ _ _ _ _ _ h => h.elim⟩) hr
theorem op_anH (T : HsAB X.prog X.w X.K X.mg X.base c C) (hr : Room 6 X.A) : OpR X (binaryOp .BitAnd) (rBinD X.K .BitAnd false (FFan X.K c C)) := op_binD (fun D sp E h => by
  obtain ⟨rfl, rfl, rfl⟩ := h
  obtain ⟨f, fd, F, ec, bi⟩ := T.an
  exact ⟨CX0, f, fd, _, F, ec, bi, fun _ _ _ _ _ _ _ h => h.elim⟩) hr
end
section
variable {K : PySem.W.Frag} {σ : L2.St} {ta tb tc : TE} {H0 : Hp} {c : Rc} {C : Addr} {p q h : Hs} {b : Addr} {cm : Cl}
theorem ev_leH (nf : PySem.W.notFirst K C (.ref C) = true) (okp : p.ok) (okq : q.ok) (ha : EvV (Same H0) σ ta (HsA K c C p)) (hb : EvV (Same H0) σ tb (HsA K c C q)) : EvV (Same H0) σ (tOp (rEqO K 4 (FFle K c C) false) ta tb) (isBv (noMore p q)) :=
  ev_o ha hb fun x y H Q w a1 a2 k => by
    obtain ⟨x, dx, q1, u1, rfl, hx, _⟩ := id a1
    obtain ⟨y, dy, q2, u2, rfl, hy, _⟩ := id a2
    exact ⟨x, C, dx, _, y, C, dy, _, spNoMore K c C, E0, rfl, rfl, hx, hy, ⟨rfl, rfl, rfl⟩, nf, _, _, p, q, rfl, a1, a2, okp, okq, fun H' s => ⟨_, rfl, k _ H' s (by cases noMore p q <;> rfl)⟩⟩
theorem ev_geH (nf : PySem.W.notFirst K C (.ref C) = true) (okp : p.ok) (okq : q.ok) (ha : EvV (Same H0) σ ta (HsA K c C p)) (hb : EvV (Same H0) σ tb (HsA K c C q)) : EvV (Same H0) σ (tOp (rEqO K 4 (FFge K c C) false) ta tb) (isBv (noMore q p)) :=
  ev_o ha hb fun x y H Q w a1 a2 k => by
    obtain ⟨x, dx, q1, u1, rfl, hx, _⟩ := id a1
    obtain ⟨y, dy, q2, u2, rfl, hy, _⟩ := id a2
    exact ⟨x, C, dx, _, y, C, dy, _, spMoreNo K c C, E0, rfl, rfl, hx, hy, ⟨rfl, rfl, rfl⟩, nf, _, _, p, q, rfl, a1, a2, okp, okq, fun H' s => ⟨_, rfl, k _ H' s (by cases noMore q p <;> rfl)⟩⟩
theorem ev_anH (okp : p.ok) (okq : q.ok) (ha : EvV (Same H0) σ ta (HsA K c C p)) (hb : EvV (Same H0) σ tb (HsA K c C q)) : EvV (Same H0) σ (tOp (rBinD K .BitAnd false (FFan K c C)) ta tb) (HsA K c C (andH p q)) :=
  ev_o ha hb fun x y H Q w a1 a2 k => by
    obtain ⟨x, dx, q1, u1, rfl, hx, _⟩ := id a1
    obtain ⟨y, dy, q2, u2, rfl, hy, _⟩ := id a2
    exact ⟨x, C, dx, _, y, C, dy, _, spAnd K c C, E0, rfl, rfl, hx, hy, .inl rfl, (fun z => nomatch z), ⟨rfl, rfl, rfl⟩, _, _, p, q, rfl, a1, a2, okp, okq, fun z H' s a => k z H' s a⟩
theorem ev_htMk {d : Int} {ch : Str} {rs : List Rw} (h1 : EvV (Same H0) σ ta (isIv d)) (h2 : EvV (Same H0) σ tb (isSv ch)) (h3 : EvV (Same H0) σ tc (isU TrA rs)) : EvV (Same H0) σ (tTup (tCons ta (tCons tb (tCons tc tNil)))) (HtA ⟨d, ch, rs⟩) := fun H Q w k =>
  h1 H _ w fun v1 H1 s1 w1 e1 => h2 H1 _ w1 fun v2 H2 s2 w2 e2 => h3 H2 _ w2 fun v3 H3 s3 w3 ⟨q, us, e3, hq, l⟩ => by
    cases e1
    cases e2
    subst e3
    refine ⟨(by show 3 ≤ sizeLine; decide), fun t nt => ?_⟩
    have sT : Same H3 (upd H3 t (.tup [.int d, .str ch, .ref q])) := Same.new nt
    exact k _ _ (((s1.trans s2).trans s3).trans sT) (w3.trans sT) ⟨t, q, us, rfl, upd_same, sT _ _ hq, (show RowLs 0 H3 us rs from l).keep (Keep.of sT)⟩
theorem cat_go {as bs : List Rw} {x y : V} {H : Hp} {Q : VK} (n : as.length + bs.length ≤ 1000) (hx : isU TrA as x H) (hy : isU TrA bs y H) (k : ∀ z H', Same H H' → isU TrA (as ++ bs) z H' → Q z H') : rCatA K x y H Q := by
  obtain ⟨p, us, rfl, hp, l1⟩ := hx
  obtain ⟨q, vs, rfl, hq, l2⟩ := hy
  refine ⟨p, q, us, vs, rfl, rfl, SqT.of hp, SqT.of hq, Nat.le_trans (m := 1000) (by rw [l1.1, l2.1]; exact n) (by decide), fun e => ?_, fun _ e => ?_, fun _ _ t nt => ?_⟩
  · subst e
    have z : as = [] := List.length_eq_zero_iff.mp l1.1.symm
    subst z
    exact k _ H (Same.refl H) ⟨q, vs, rfl, hq, l2⟩
  · subst e
    have z : bs = [] := List.length_eq_zero_iff.mp l2.1.symm
    subst z
    rw [List.append_nil] at k
    exact k _ H (Same.refl H) ⟨p, us, rfl, hp, l1⟩
  · have sT : Same H (upd H t (.tup (us ++ vs))) := Same.new nt
    exact k _ _ sT ⟨t, _, rfl, upd_same, Ls.up (l1.app l2) sT⟩
theorem ev_catU {as bs : List Rw} (n : as.length + bs.length ≤ 1000) (ha : EvV (Same H0) σ ta (isU TrA as)) (hb : EvV (Same H0) σ tb (isU TrA bs)) : EvV (Same H0) σ (tOp (rCatA K) ta tb) (isU TrA (as ++ bs)) :=
  ev_o ha hb fun x y H Q w a1 a2 k => cat_go n a1 a2 k
/-- t[::-1] -/
theorem ev_revU {as : List Rw} (n : as.length ≤ 1000) (ha : EvV (Same H0) σ ta (isU TrA as)) : EvV (Same H0) σ (tStepT K ta tNoPart tNoPart (tPart (tUn (rU fun i => .int (-i)) (tC (.int 1))))) (isU TrA as.reverse) := fun H Q w k =>
  ha H _ w fun v H1 s1 w1 r1 => (evo_none (W := Same H0)) H1 _ w1 fun Ha sa wa => (evo_none (W := Same H0)) Ha _ wa fun Hb sb wb => (evo_some (W := Same H0) (ev_ng (i := 1) ev_int)) Hb _ wb fun H2 s2' w2 => by
    have s2 : Same H1 H2 := (sa.trans sb).trans s2'
    obtain ⟨p, us, rfl, hp, l⟩ := up s2 r1
    have lu : us.length = as.length := l.1
    refine ⟨p, us, rfl, SqT.of hp, (by simp), ?_, fun hr => ?_, fun t nt => ?_⟩
    · rw [step_back, List.length_reverse, lu]
      exact Nat.le_trans n (by decide)
    · have e : stepL us none none (some (-1)) = us := by
        unfold stepL
        rw [hr]
        exact pick_self us
      rw [step_back] at e
      have l2 := l.rev
      rw [e] at l2
      exact k _ H2 (s1.trans s2) w2 ⟨p, us, rfl, hp, l2⟩
    · rw [step_back]
      have sT : Same H2 (upd H2 t (.tup us.reverse)) := Same.new nt
      exact k _ _ ((s1.trans s2).trans sT) (w2.trans sT) ⟨t, _, rfl, upd_same, Ls.up l.rev sT⟩
end
end V3

set_option Elab.async false
set_option linter.all false
set_option maxRecDepth 100000
/-! k15: the law's own list of places -/
namespace V3
open PySem L2 TL
abbrev sPlacesL : Stmt := top 38
def spPlacesL : Sp := fun vs H Q _ => ∃ (hv : V) (h : Hs), vs = [hv] ∧ HtA h hv H ∧ h.ok ∧ ∀ D us H', H D = none → Same H H' → H' D = some (.lst us) → Ls (fun u m => TrA m u H') us (placesR h) → Q (.ref D) H'
/-- the list at D so far, all else as it was -/
def AccL (H : Hp) (D : Addr) (l : List Rw) (H' : Hp) : Prop := Same H H' ∧ ∃ us, H' D = some (.lst us) ∧ Ls (fun u m => TrA m u H') us l
theorem AccL.same {H H' G : Hp} {D : Addr} {l : List Rw} (a : AccL H D l H') (s : Same H' G) : AccL H D l G := ⟨a.1.trans s, let ⟨us, hD, r⟩ := a.2; ⟨us, s _ _ hD, Ls.up r s⟩⟩
theorem AccL.push {H H' : Hp} {D : Addr} {l : List Rw} {us : List V} {m : Rw} {v : V} (nD : H D = none) (s : Same H H') (hD : H' D = some (.lst us)) (r : Ls (fun u m => TrA m u H') us l) (hv : TrA m v H') : AccL H D (l ++ [m]) (upd H' D (.lst (us ++ [v]))) := by
  have kl : Keep H' (upd H' D (.lst (us ++ [v]))) := Keep.lst hD
  exact ⟨fun c o e => by rw [upd_ne (ne_of_none e nD)]; exact s _ _ e, _, upd_same, Ls.push (r.upL kl) (upL kl hv)⟩
theorem take_flat {α β : Type} {F : α → List β} {xs : List α} {i : Nat} {x : α} (e : xs[i]? = some x) : (xs.take (i + 1)).flatMap F = (xs.take i).flatMap F ++ F x := by
  have tk : xs.take (i + 1) = xs.take i ++ [x] := by
    rw [List.take_succ, e]
    rfl
  rw [tk, List.flatMap_append]
  simp
section
variable {P : Program} {w : World} {K : PySem.W.Frag} {mg : Str → Option Value} {base : Heap}
theorem scPlacesL : FnScope ["_law_house_here", "_law_found", "_law_kind", "_law_state", "_law_deed", "_law_place_here"] ["_law_house_here"] (defScope sPlacesL) := ⟨rfl, rfl, rfl, by decide +kernel, rfl, by decide +kernel, by decide +kernel⟩
theorem ok_placesL {f : Addr} {fd : FuncData} {ps : List Str} (F : Fun K "_law_places" "_law_places" sPlacesL f fd) (cP : ∃ (f : Addr) (fd : FuncData), FnOk P w K mg base CX0 2 f fd ps spPlace ∧ mg "_law_place" = some (.ref f) ∧ PySem.W.keepIn K (.ref f) = true ∧ Binds K fd ps []) : FnOk P w K mg base CX0 3 f fd ["_law_house_here"] spPlacesL := by
  obtain ⟨fP, fdP, GP, mP, kP, bP⟩ := cP
  refine F.ok scPlacesL (fun vs H Q E h => ?_) (fun cdv A outer s H vs Q E hr h => ?_)
  · obtain ⟨hv, h, rfl, _⟩ := h
    rfl
  · obtain ⟨hv, h, rfl, hh, ok, k⟩ := h
    refine ⟨_, (pss_cons (ps_set (i := 1) scPlacesL.nd rfl (Or.inl rfl) (pe_lst pa_nil))
  (pss_cons (ps_for PassesOwn.never rfl (pi_tup (pe_tup (pa_cons pe_str (pa_cons pe_str (pa_cons pe_str (pa_cons pe_str pa_nil)))))) (pg_name (i := 2) scPlacesL.nd rfl (Or.inl rfl))
  (pss_one (ps_for PassesOwn.never rfl (pi_tup (pe_tup (pa_cons pe_str (pa_cons pe_str pa_nil)))) (pg_name (i := 3) scPlacesL.nd rfl (Or.inl rfl))
  (pss_one (ps_for PassesOwn.never rfl (pi_tup (pe_tup (pa_cons pe_str (pa_cons pe_str (pa_cons pe_str pa_nil))))) (pg_name (i := 4) scPlacesL.nd rfl (Or.inl rfl))
  (pss_cons (ps_set (i := 5) scPlacesL.nd rfl (Or.inl rfl) (pe_call GP hr rfl mP kP bP .nil pass0 (pa_cons (pv 0) (pa_cons (pv 2) (pa_cons (pv 3) (pa_cons (pv 4) pa_nil))))))
  (pss_one (ps_if (pt_cmpR op_ne (pv 5) pe_str (nomark _)) (pss_one (ps_expr (pe_bm PySem.F.plainAttrs_list PySem.F.slot_list_append PySem.F.type_list_append mt_append (pv 1) (pa_cons (pe_tup (pa_cons (pv 2) (pa_cons (pv 3) (pa_cons (pv 4) (pa_cons (pv 5) pa_nil))))) pa_nil)))) pss_nil))))))))
  (pss_one (ps_ret (pv 1))))), ?_⟩
    try dsimp only [gName, tSeq, tAsg, tNext]
    refine ⟨(by show 0 ≤ sizeLine; decide), fun D nD => ?_⟩
    have a0 : AccL H D [] (upd H D (.lst [])) := ⟨Same.new nD, [], upd_same, Ls.nil⟩
    generalize upd H D (.lst []) = Hd at a0
    try dsimp only [gName, tSeq, tAsg, tNext]
    refine ⟨(by show 4 ≤ sizeLine; decide), fun t1 n1 => ⟨t1, rfl, ⟨_, SqT.of upd_same⟩, ?_⟩⟩
    have s1 : Same Hd (upd Hd t1 (.tup [.str "first", .str "new", .str "minus", .str "plus"])) := Same.new n1
    have h1 : upd Hd t1 (.tup [.str "first", .str "new", .str "minus", .str "plus"]) t1 = some (.tup (kindL.map V.str)) := upd_same
    have a1 := a0.same s1
    generalize upd Hd t1 (.tup [.str "first", .str "new", .str "minus", .str "plus"]) = H1 at h1 a1 ⊢
    clear s1 a0
    refine for_tup (K := K) (a := t1) (xs := kindL.map V.str) (fun i σ H' => (∃ o2 o3 o4 o5 : Option V, σ = [some hv, some (.ref D), o2, o3, o4, o5]) ∧ Keep H1 H' ∧ AccL H D (((kindL.map V.str).take i).flatMap fun x => (stateL.map V.str).flatMap fun y => (deedL.map V.str).flatMap fun z => if shP h h x y z = true then [shF h x y z] else []) H') ?_ (fun _ _ _ _ z => SqT.of (z.2.1 _ _ (fun _ e => by cases e) h1)) ?_ ?_
    · exact ⟨⟨_, _, _, _, rfl⟩, Keep.of (Same.refl H1), a1⟩
    · rintro i x σ H2 hi ⟨⟨o2, o3, o4, o5, rfl⟩, k2, a2⟩
      rw [take_flat hi]
      have hi' := hi
      rw [List.getElem?_map] at hi
      obtain ⟨kd, hk, rfl⟩ := Option.map_eq_some_iff.mp hi
      have hk' := List.mem_of_getElem? hk
      have b0 : (((kindL.map V.str).take i).flatMap (fun x => (stateL.map V.str).flatMap fun y => (deedL.map V.str).flatMap fun z => if shP h h x y z = true then [shF h x y z] else [])).length ≤ 24 := Nat.le_trans (flat_len (n := 6) fun x _ => Nat.le_trans (flat_len (n := 3) fun y _ => Nat.le_trans (flat_len (n := 1) fun z _ => by split <;> simp) (by decide)) (by decide)) (by rw [List.length_take]; show min i 4 * 6 ≤ 24; omega)
      generalize ((kindL.map V.str).take i).flatMap (fun x => (stateL.map V.str).flatMap fun y => (deedL.map V.str).flatMap fun z => if shP h h x y z = true then [shF h x y z] else []) = l0 at a2 b0 ⊢
      refine ⟨(by show 2 ≤ sizeLine; decide), fun t2 n2 => ⟨t2, rfl, ⟨_, SqT.of upd_same⟩, ?_⟩⟩
      have s3 : Same H2 (upd H2 t2 (.tup [.str "open", .str "shut"])) := Same.new n2
      have h3 : upd H2 t2 (.tup [.str "open", .str "shut"]) t2 = some (.tup (stateL.map V.str)) := upd_same
      have a3 := a2.same s3
      have k3 : Keep H1 (upd H2 t2 (.tup [.str "open", .str "shut"])) := fun c o n e => (Keep.of s3) _ _ n (k2 _ _ n e)
      generalize upd H2 t2 (.tup [.str "open", .str "shut"]) = H3 at h3 a3 k3 ⊢
      clear s3 a2
      refine for_tup (K := K) (a := t2) (xs := stateL.map V.str) (fun i2 σ H' => (∃ o3 o4 o5 : Option V, σ = [some hv, some (.ref D), some (.str kd), o3, o4, o5]) ∧ Keep H3 H' ∧ AccL H D (l0 ++ ((stateL.map V.str).take i2).flatMap fun y => (deedL.map V.str).flatMap fun z => if shP h h (.str kd) y z = true then [shF h (.str kd) y z] else []) H') ?_ (fun _ _ _ _ z => SqT.of (z.2.1 _ _ (fun _ e => by cases e) h3)) ?_ ?_
      · exact ⟨⟨_, _, _, rfl⟩, Keep.of (Same.refl H3), by rw [List.take_zero]; show AccL H D (l0 ++ []) H3; rw [List.append_nil]; exact a3⟩
      · rintro i2 y σ H4 hi2 ⟨⟨o3, o4, o5, rfl⟩, k4, a4⟩
        rw [take_flat hi2, ← List.append_assoc]
        rw [List.getElem?_map] at hi2
        obtain ⟨st, hs, rfl⟩ := Option.map_eq_some_iff.mp hi2
        have hs' := List.mem_of_getElem? hs
        have b1 : (l0 ++ ((stateL.map V.str).take i2).flatMap (fun y => (deedL.map V.str).flatMap fun z => if shP h h (.str kd) y z = true then [shF h (.str kd) y z] else [])).length ≤ 30 := by
          rw [List.length_append]
          have := flat_len (n := 3) (F := fun y => (deedL.map V.str).flatMap fun z => if shP h h (.str kd) y z = true then [shF h (.str kd) y z] else []) (xs := (stateL.map V.str).take i2) fun y _ => Nat.le_trans (flat_len (n := 1) fun z _ => by split <;> simp) (by decide)
          have l : ((stateL.map V.str).take i2).length ≤ 2 := by rw [List.length_take]; show min i2 2 ≤ 2; omega
          omega
        generalize l0 ++ ((stateL.map V.str).take i2).flatMap (fun y => (deedL.map V.str).flatMap fun z => if shP h h (.str kd) y z = true then [shF h (.str kd) y z] else []) = l1 at a4 b1 ⊢
        refine ⟨(by show 3 ≤ sizeLine; decide), fun t3 n3 => ⟨t3, rfl, ⟨_, SqT.of upd_same⟩, ?_⟩⟩
        have s5 : Same H4 (upd H4 t3 (.tup [.str "whole", .str "part", .str "right"])) := Same.new n3
        have h5 : upd H4 t3 (.tup [.str "whole", .str "part", .str "right"]) t3 = some (.tup (deedL.map V.str)) := upd_same
        have a5 := a4.same s5
        have k5 : Keep H3 (upd H4 t3 (.tup [.str "whole", .str "part", .str "right"])) := fun c o n e => (Keep.of s5) _ _ n (k4 _ _ n e)
        generalize upd H4 t3 (.tup [.str "whole", .str "part", .str "right"]) = H5 at h5 a5 k5 ⊢
        clear s5 a4
        refine for_tup (K := K) (a := t3) (xs := deedL.map V.str) (fun i3 σ H' => (∃ o4 o5 : Option V, σ = [some hv, some (.ref D), some (.str kd), some (.str st), o4, o5]) ∧ Keep H5 H' ∧ AccL H D (l1 ++ ((deedL.map V.str).take i3).flatMap fun z => if shP h h (.str kd) (.str st) z = true then [shF h (.str kd) (.str st) z] else []) H') ?_ (fun _ _ _ _ z => SqT.of (z.2.1 _ _ (fun _ e => by cases e) h5)) ?_ ?_
        · exact ⟨⟨_, _, rfl⟩, Keep.of (Same.refl H5), by rw [List.take_zero]; show AccL H D (l1 ++ []) H5; rw [List.append_nil]; exact a5⟩
        · rintro i3 z σ H6 hi3 ⟨⟨o4, o5, rfl⟩, k6, a6⟩
          rw [take_flat hi3, ← List.append_assoc]
          rw [List.getElem?_map] at hi3
          obtain ⟨de, hd, rfl⟩ := Option.map_eq_some_iff.mp hi3
          have hd' := List.mem_of_getElem? hd
          have b2 : (l1 ++ ((deedL.map V.str).take i3).flatMap (fun z => if shP h h (.str kd) (.str st) z = true then [shF h (.str kd) (.str st) z] else [])).length ≤ 33 := by
            rw [List.length_append]
            have := flat_len (n := 1) (F := fun z => if shP h h (.str kd) (.str st) z = true then [shF h (.str kd) (.str st) z] else []) (xs := (deedL.map V.str).take i3) fun z _ => by split <;> simp
            have l : ((deedL.map V.str).take i3).length ≤ 3 := by rw [List.length_take]; show min i3 3 ≤ 3; omega
            omega
          generalize l1 ++ ((deedL.map V.str).take i3).flatMap (fun z => if shP h h (.str kd) (.str st) z = true then [shF h (.str kd) (.str st) z] else []) = l2 at a6 b2 ⊢
          have npl : ∀ x ∈ placeL, x ≠ ("" : Str) := by decide +kernel
          try dsimp only [gName, tSeq, tAsg, tNext]
          refine ev_place (H0 := H6) ok hk' hs' hd' (ev_v rfl (up a6.1 hh)) (ev_v rfl rfl) (ev_v rfl rfl) (ev_v rfl rfl) H6 _ (Same.refl _) fun x7 H7 s7 _ e7 => ?_
          have k7 : Keep H5 H7 := fun c o n e => (Keep.of s7) _ _ n (k6 _ _ n e)
          have a7 := a6.same s7
          try dsimp only [gName, tSeq, tAsg, tNext]
          cases q : placeIn kd st de h.rs with
          | none =>
            rw [q] at e7
            cases e7
            have z : shP h h (.str kd) (.str st) (.str de) = false := by
              show ((placeIn kd st de h.rs).isSome && decide (placeIn kd st de h.rs = placeIn kd st de h.rs)) = false
              rw [q]
              rfl
            rw [z]
            refine if_f (H0 := H7) (Same.refl _) (ev_bool (ev_test (ev_neS (i := Str.empty) (j := "") (ev_v rfl rfl) ev_str)) (by rw [decide_eq_true (show (Str.empty : Str) = "" from rfl)]; rfl)) fun H8 s8 => ?_
            refine ⟨⟨_, _, rfl⟩, fun c o n e => (Keep.of s8) _ _ n (k7 _ _ n e), ?_⟩
            show AccL H D (l2 ++ []) H8
            rw [List.append_nil]
            exact a7.same s8
          | some pl =>
            rw [q] at e7
            have e7 : x7 = .str pl := e7
            subst e7
            have z : shP h h (.str kd) (.str st) (.str de) = true := by
              show ((placeIn kd st de h.rs).isSome && decide (placeIn kd st de h.rs = placeIn kd st de h.rs)) = true
              rw [q, decide_eq_true rfl]
              rfl
            have fz : shF h (.str kd) (.str st) (.str de) = .lt kd st de pl := by
              show Rw.lt kd st de ((placeIn kd st de h.rs).getD "") = _
              rw [q]
              rfl
            rw [z, if_pos rfl, fz]
            have mok := ok.2.2.2.1 _ (placeIn_mem q)
            refine if_t (H0 := H7) (Same.refl _) (ev_bool (ev_test (ev_neS (i := pl) (j := "") (ev_v rfl rfl) ev_str)) (by rw [decide_eq_false (npl _ mok.1.2.2.2.1)]; rfl)) fun H8 s8 => ?_
            have k8 : Keep H5 H8 := fun c o n e => (Keep.of s8) _ _ n (k7 _ _ n e)
            obtain ⟨s9, us, hD, r⟩ := a7.same s8
            try dsimp only [gName, tSeq, tAsg, tNext]
            refine ⟨_, rfl, .inl ⟨rfl, _, SqL.of hD⟩, _, rfl, _, rfl, _, rfl, _, rfl, (by show 4 ≤ sizeLine; decide), fun t9 n9 => ?_⟩
            have sT : Same H8 (upd H8 t9 (.tup [.str kd, .str st, .str de, .str pl])) := Same.new n9
            have hv9 : TrA (.lt kd st de pl) (.ref t9) (upd H8 t9 (.tup [.str kd, .str st, .str de, .str pl])) := ⟨⟨t9, rfl, upd_same⟩, mok⟩
            have k9 : Keep H5 (upd H8 t9 (.tup [.str kd, .str st, .str de, .str pl])) := fun c o n e => (Keep.of sT) _ _ n (k8 _ _ n e)
            have s10 := s9.trans sT
            have hD9 := sT _ _ hD
            have r9 := Ls.up r sT
            generalize upd H8 t9 (.tup [.str kd, .str st, .str de, .str pl]) = H9 at hv9 k9 s10 hD9 r9 ⊢
            refine ⟨D, us, _, rfl, rfl, hD9, small1000 (by rw [r.1]; omega), ⟨_, _, rfl⟩, fun c o n e => (Keep.lst hD9) _ _ n (k9 _ _ n e), AccL.push nD s10 hD9 r9 hv9⟩
        · rintro σ H6 ⟨⟨o4, o5, rfl⟩, k6, a6⟩
          rw [List.take_of_length_le (Nat.le_refl _)] at a6
          exact ⟨⟨_, _, _, rfl⟩, fun c o n e => k6 _ _ n (k5 _ _ n e), a6⟩
      · rintro σ H4 ⟨⟨o3, o4, o5, rfl⟩, k4, a4⟩
        rw [List.take_of_length_le (Nat.le_refl _)] at a4
        exact ⟨⟨_, _, _, _, rfl⟩, fun c o n e => k4 _ _ n (k3 _ _ n e), a4⟩
    · rintro σ H2 ⟨⟨o2, o3, o4, o5, rfl⟩, k2, a2⟩
      rw [List.take_of_length_le (Nat.le_refl _)] at a2
      obtain ⟨s2, us, hD, r⟩ := a2
      try dsimp only [gName, tSeq, tAsg, tNext]
      exact ⟨_, rfl, k D us H2 nD s2 hD r⟩
end
end V3

set_option Elab.async false
set_option linter.all false
set_option maxRecDepth 100000
/-! k15: rows in a list of rows; what two houses share, as the law says it -/
namespace V3
open PySem L2 TL
abbrev sBothL : Stmt := top 39
abbrev sWithinL : Stmt := top 40
def trD : Rw → PyData
  | .lt k s d p => .tuple [.str k, .str s, .str d, .str p]
  | .ct _ _ _ => .none
section
variable {K : PySem.W.Frag} {σ : L2.St} {ta tb tc : TE} {H0 : Hp} {m : Rw} {as : List Rw}
theorem dp_tr {v : V} {H : Hp} (h : TrA m v H) : Dp K H v (trD m) := by
  obtain ⟨h, _, hk⟩ := h
  cases m with
  | ct _ _ _ => cases hk
  | lt k s d p =>
    obtain ⟨t, rfl, ht⟩ := h
    exact .tup (SqT.of ht) (.cons (.str _) (.cons (.str _) (.cons (.str _) (.cons (.str _) .nil))))
theorem lay_tr (h : m.ok ∧ m.kind = 0) : PyData.canLay0 (trD m) = true := by
  obtain ⟨ho, hk⟩ := h
  cases m with
  | ct _ _ _ => cases hk
  | lt k s d p =>
    obtain ⟨k1, k2, k3, k4, _⟩ := ho
    have l4 : PyData.canLay0 (.str p) = true := word_lay p (by simp [k4])
    have kt : ∀ xs : List PyData, PyData.canLay0 (.tuple xs) = PyData.canLayAll0 xs := fun xs => by simp [PyData.canLay0]
    simp [trD, kt, PyData.canLayAll0, lay_k k1, lay_s k2, lay_d k3, l4]
theorem dep_tr (m : Rw) : (trD m).depth ≤ 1 := by
  cases m <;> simp [trD, PyData.depth, PyData.depthAll]
theorem eqv_tr {n : Rw} (hm : m.kind = 0) (hn : n.kind = 0) : PyData.eqv (trD m) (trD n) = decide (m = n) := by
  cases m with
  | ct _ _ _ => cases hm
  | lt k s d p => cases n with
    | ct _ _ _ => cases hn
    | lt k' s' d' p' =>
      by_cases e : Rw.lt k s d p = Rw.lt k' s' d' p'
      · injection e with e1 e2 e3 e4
        subst e1 e2 e3 e4
        rw [decide_eq_true rfl]
        simp [trD, PyData.eqv, PyData.eqvAll]
      · rw [decide_eq_false e]
        cases q : PyData.eqv (trD (.lt k s d p)) (trD (.lt k' s' d' p')) with
        | false => rfl
        | true =>
          refine absurd ?_ e
          simp [trD, PyData.eqv, PyData.eqvAll] at q
          obtain ⟨e1, e2, e3, e4⟩ := q
          rw [e1, e2, e3, e4]
theorem any_tr (hm : m.kind = 0) : ∀ {as : List Rw}, (∀ r ∈ as, r.kind = 0) → ((as.map trD).any fun z => PyData.eqv z (trD m)) = decide (m ∈ as)
  | [], _ => by simp
  | a :: r, h => by
    have ih := any_tr hm (as := r) fun x hx => h x (List.mem_cons_of_mem _ hx)
    rw [List.map_cons, List.any_cons, ih, eqv_tr (h a List.mem_cons_self) hm]
    by_cases e : a = m
    · subst e
      simp
    · rw [decide_eq_false e, Bool.false_or]
      have e2 : ¬ m = a := Ne.symm e
      simp [List.mem_cons, e2]
theorem ls_kind {D : Addr} {us : List V} {H : Hp} (l : Ls (fun u m => TrA m u H) us as) : ∀ r ∈ as, r.ok ∧ r.kind = 0 := fun r hr => by
  obtain ⟨i, hi⟩ := List.getElem?_of_mem hr
  obtain ⟨_, _, z⟩ := l.2 i r hi
  exact z.2
theorem shaped_tr (h : m.ok ∧ m.kind = 0) : SeqAt.shaped (trD m) = true := by
  have a := lay_tr h
  have b := dep_tr m
  simp only [SeqAt.shaped, a, Bool.true_and, decide_eq_true_eq]
  omega
theorem shaped_trs (h : ∀ r ∈ as, r.ok ∧ r.kind = 0) : SeqAt.shaped (.list (as.map trD)) = true := by
  have a : PyData.canLay0 (.list (as.map trD)) = true := by
    simp only [PyData.canLay0]
    exact lay_map fun r hr => lay_tr (h r hr)
  have c : (PyData.list (as.map trD)).depth ≤ 2 := by
    have z := dep_map dep_tr as
    simp only [PyData.depth]
    omega
  simp only [SeqAt.shaped, a, Bool.true_and, decide_eq_true_eq]
  omega
theorem ev_inTr (ha : EvV (Same H0) σ ta (TrA m)) (hb : EvV (Same H0) σ tb (isL TrA as)) : EvV (Same H0) σ (tOp (rInD K) ta tb) (isBv (decide (m ∈ as))) :=
  ev_o ha hb fun x y H Q w a1 a2 k => by
    obtain ⟨D, us, rfl, hD, l⟩ := a2
    have lk := ls_kind (D := D) l
    refine ⟨trD m, as.map trD, dp_tr a1, .lst (SqL.of hD) (dpAll_map (S := TrA) (fun a v h => dp_tr h) l), shaped_tr a1.2, shaped_trs lk, ?_⟩
    rw [any_tr a1.2.2 fun r hr => (lk r hr).2]
    exact k _ H (Same.refl H) rfl
theorem ev_notInTr (ha : EvV (Same H0) σ ta (TrA m)) (hb : EvV (Same H0) σ tb (isL TrA as)) : EvV (Same H0) σ (tOp (rNotInD K) ta tb) (isBv (!decide (m ∈ as))) :=
  ev_o ha hb fun x y H Q w a1 a2 k => by
    obtain ⟨D, us, rfl, hD, l⟩ := a2
    have lk := ls_kind (D := D) l
    refine ⟨trD m, as.map trD, dp_tr a1, .lst (SqL.of hD) (dpAll_map (S := TrA) (fun a v h => dp_tr h) l), shaped_tr a1.2, shaped_trs lk, ?_⟩
    rw [any_tr a1.2.2 fun r hr => (lk r hr).2]
    exact k _ H (Same.refl H) rfl
theorem evn_placesL {h : Hs} (ok : h.ok) (ha : EvV (Same H0) σ ta (HtA h)) : EvNL H0 σ (tCall spPlacesL [] E0 (tCons ta tNil)) TrA (placesR h) := evn_call1 ha fun v H Q hv k => ⟨v, h, rfl, hv, ok, fun D us H' nD s hD l => k D us H' nD s hD l⟩
end
def spBothL : Sp := fun vs H Q _ => ∃ (pv qv : V) (p q : Hs), vs = [pv, qv] ∧ HtA p pv H ∧ HtA q qv H ∧ p.ok ∧ q.ok ∧ ∀ z H', Same H H' → HtA (andH p q) z H' → Q z H'
def spWithinL : Sp := fun vs H Q _ => ∃ (pv qv : V) (p q : Hs), vs = [pv, qv] ∧ HtA p pv H ∧ HtA q qv H ∧ p.ok ∧ q.ok ∧ ∀ H', Same H H' → Q (.bl (noMore p q)) H'
section
variable {P : Program} {w : World} {K : PySem.W.Frag} {mg : Str → Option Value} {base : Heap}
abbrev NBth : List Str := ["_law_p", "_law_q", "_law_depth", "_law_other", "_law_rows_here", "_law_row"]
theorem scBothL : FnScope NBth ["_law_p", "_law_q"] (defScope sBothL) := ⟨rfl, rfl, rfl, by decide +kernel, rfl, by decide +kernel, by decide +kernel⟩
theorem ok_bothL {f : Addr} {fd : FuncData} (F : Fun K "_law_both" "_law_both" sBothL f fd) (zt : mg "tuple" = none) (cL : Cal P w K mg base CX0 "_law_places" 3 ["_law_house_here"] spPlacesL) : FnOk P w K mg base CX0 4 f fd ["_law_p", "_law_q"] spBothL := by
  obtain ⟨fL, fdL, GL, mL, kL, bL⟩ := cL
  refine F.ok scBothL (fun vs H Q E h => ?_) (fun cdv A outer s H vs Q E hr h => ?_)
  · obtain ⟨pv', qv', p, q, rfl, _⟩ := h
    rfl
  · obtain ⟨xp, xq, p, q, rfl, hp, hq, okp, okq, k⟩ := h
    have u65 := Nat.lt_of_le_of_lt (Nat.add_le_add (Nat.le_add_right _ _) (by decide : 65 ≤ 200)) hr.un
    refine ⟨_, (pss_cons (ps_set (i := 2) scBothL.nd rfl (Or.inl rfl) (pe_ifExp (pt_cmpR op_lt (pe_ix ix_tup (pv 0) pe_int (fun _ _ => rfl)) (pe_ix ix_tup (pv 1) pe_int (fun _ _ => rfl)) (nomark _)) (pe_ix ix_tup (pv 0) pe_int (fun _ _ => rfl)) (pe_ix ix_tup (pv 1) pe_int (fun _ _ => rfl))))
  (pss_cons (ps_set (i := 3) scBothL.nd rfl (Or.inr rfl) (pe_call GL hr rfl mL kL bL .nil pass0 (pa_cons (pv 1) pa_nil)))
  (pss_cons (ps_set (i := 4) scBothL.nd rfl (Or.inl rfl) (pe_callTy call_tuple_of (by rfl) zt (by decide +kernel) (pa_cons (pe_lc (own := [("_law_row", 5)]) (g := gName 5) (tt := tTest (tOp (rInD K) (tVar 5) (tVar 3))) (te := tVar 5) (by rfl) scBothL.nd (pi_list (pe_call GL hr rfl mL kL bL .nil pass0 (pa_cons (pv 0) pa_nil))) (blkOk_by (own := [("_law_row", 5)]) (N := NBth) (sc := defScope sBothL) (by decide +kernel)) (fun _ _ _ _ _ => (pg_name (i := 5) scBothL.nd rfl (Or.inl rfl))) (fun _ _ _ _ _ => pts_one (pt_cmpR (op_inD (by exact u65)) (pv 5) (pv 3) (by first | exact nomark _ | rfl))) (fun _ _ _ _ _ => (pv 5))) pa_nil)))
  (pss_one (ps_ret (pe_tup (pa_cons (pv 2) (pa_cons (pe_ifExp (pt_cmpR op_in_seq pe_str (pe_tup (pa_cons (pe_ix ix_tup (pv 0) pe_int (fun _ _ => rfl)) (pa_cons (pe_ix ix_tup (pv 1) pe_int (fun _ _ => rfl)) pa_nil))) rfl) pe_str pe_str) (pa_cons (pv 4) pa_nil))))))))), ?_⟩
    try dsimp only [gName, tSeq, tAsg, tNext]
    refine ev_if (H0 := H) (R := isIv (if p.d ≤ q.d then p.d else q.d)) (b := decide (p.d < q.d)) (ev_test (ev_lt (ev_ht0 (ev_v rfl hp)) (ev_ht0 (ev_v rfl hq)))) (fun e => ?_) (fun e => ?_) H _ (Same.refl _) fun x2 H2 s2 _ e2 => ?_
    · have := of_decide_eq_true e
      rw [if_pos (by omega)]
      exact ev_ht0 (ev_v rfl hp)
    · have := of_decide_eq_false e
      by_cases z : p.d ≤ q.d
      · have z2 : p.d = q.d := by omega
        rw [if_pos z, z2]
        exact ev_ht0 (ev_v rfl hq)
      · rw [if_neg z]
        exact ev_ht0 (ev_v rfl hq)
    cases e2
    have hp2 := up s2 hp
    have hq2 := up s2 hq
    try dsimp only [gName, tSeq, tAsg, tNext]
    refine evn_placesL (H0 := H2) okq (ev_v rfl hq2) H2 _ (Same.refl _) fun D us H3 nD s3 hD l => ?_
    have hp3 := up s3 hp2
    have hq3 := up s3 hq2
    have hL3 : isL TrA (placesR q) (.ref D) H3 := ⟨D, us, rfl, hD, l⟩
    try dsimp only [gName, tSeq, tAsg, tNext]
    have lc : EvV (Same H3) [some xp, some xq, some (.int (if p.d ≤ q.d then p.d else q.d)), some (.ref D), none, none] (tLc (iList K (tCall spPlacesL [] E0 (tCons (tVar 0) tNil))) (gName 5) (tTest (tOp (rInD K) (tVar 5) (tVar 3))) (tVar 5) [5]) (isL TrA (sharedR p q)) := by
      have z := ev_lc (H0 := H3) (σ := [some xp, some xq, some (.int (if p.d ≤ q.d then p.d else q.d)), some (.ref D), none, none]) (g := gName 5) (tt := tTest (tOp (rInD K) (tVar 5) (tVar 3))) (te := tVar 5) (vs := [5]) (as := placesR p) (S := TrA) (S' := TrA) (fun r => decide (r ∈ placesR q)) (fun r => r) (evi_list (K := K) (evn_placesL okp (ev_v (i := 0) rfl hp3)).ev) (Nat.le_trans (shared_len p p) (by decide)) (fun r hr v G sg rv K2 kk => kk _ _ (Same.refl G) rfl (ev_test (ev_inTr (K := K) (ev_v (i := 5) rfl rv) (ev_v (i := 3) rfl (up sg hL3)))) fun _ => ev_v (i := 5) rfl rv)
      rw [List.map_id', places_both okq] at z
      exact z
    refine ev_cb1 (W := Same H3) (Ra := isL TrA (sharedR p q)) (R := isU TrA (sharedR p q)) lc (fun x G Q w ⟨D4, us4, e, hD4, l4⟩ kk => ⟨D4, us4, by rw [e], .inl ⟨SqL.of hD4, fun t nt => kk _ _ (Same.new nt) (w.trans (Same.new nt)) ⟨t, us4, rfl, upd_same, Ls.up l4 (Same.new nt)⟩⟩⟩) H3 _ (Same.refl _) fun x4 H5 s5 _ ht5 => ?_
    have S5 := s3.trans s5
    have hp5 := up S5 hp2
    have hq5 := up S5 hq2
    try dsimp only [gName, tSeq, tAsg, tNext]
    refine ev_htMk (H0 := H5) (d := if p.d ≤ q.d then p.d else q.d) (ch := if decide (("all" : Str) ∈ [p.ch, q.ch]) = true then "all" else "left") (rs := sharedR p q) (ev_v rfl rfl) (ev_if (b := decide (("all" : Str) ∈ [p.ch, q.ch])) (ev_test (ev_inT (x := "all") (L := [p.ch, q.ch]) ev_str (ev_tupU (S := isSv) (evl_cons (ev_ht1 (ev_v rfl hp5)) (evl_cons (ev_ht1 (ev_v rfl hq5)) evl_nil)) (by show 2 ≤ 1000; decide)))) (fun e => ?_) fun e => ?_) (ev_v rfl ht5) H5 _ (Same.refl _) fun z H6 s6 _ hz => ?_
    · rw [if_pos e]
      exact ev_str
    · have z : (if decide (("all" : Str) ∈ [p.ch, q.ch]) = true then ("all" : Str) else "left") = "left" := if_neg (by rw [e]; exact Bool.false_ne_true)
      rw [z]
      exact ev_str
    · exact k z H6 ((s2.trans S5).trans s6) hz
theorem ev_eqNilT {σ : L2.St} {ta : TE} {H0 : Hp} {as : List Rw} (ha : EvV (Same H0) σ ta (isL TrA as)) : EvV (Same H0) σ (tOp (rEqD K) ta (tLst tNil)) (isBv as.isEmpty) := fun H Q w k =>
  ha H _ w fun x H1 s1 w1 hx => by
    obtain ⟨D, us, rfl, hD, l⟩ := hx
    have lk := ls_kind (D := D) l
    refine ⟨(by show (0 : Nat) ≤ sizeLine; exact Nat.zero_le _), fun p np => ?_⟩
    have s2 : Same H1 (upd H1 p (.lst [])) := Same.new np
    have h2 : upd H1 p (.lst []) p = some (.lst []) := upd_same
    have hD2 := s2 _ _ hD
    have l2 := Ls.up l s2
    refine ⟨.list (as.map trD), .list [], .lst (SqL.of hD2) (dpAll_map (S := TrA) (fun a v h => dp_tr h) l2), .lst (SqL.of h2) .nil, shaped_trs lk, by simp [SeqAt.shaped, PyData.canLay0, PyData.canLayAll0, PyData.depth, PyData.depthAll], k _ _ (s1.trans s2) (w1.trans s2) ?_⟩
    cases as with
    | nil => simp [PyData.eqv, PyData.eqvAll, isBv]
    | cons a r => simp [PyData.eqv, PyData.eqvAll, isBv]
abbrev NWth : List Str := ["_law_p", "_law_q", "_law_other", "_law_row"]
theorem scWithinL : FnScope NWth ["_law_p", "_law_q"] (defScope sWithinL) := ⟨rfl, rfl, rfl, by decide +kernel, rfl, by decide +kernel, by decide +kernel⟩
theorem ok_withinL {f : Addr} {fd : FuncData} (F : Fun K "_law_is_within" "_law_is_within" sWithinL f fd) (cL : Cal P w K mg base CX0 "_law_places" 3 ["_law_house_here"] spPlacesL) : FnOk P w K mg base CX0 4 f fd ["_law_p", "_law_q"] spWithinL := by
  obtain ⟨fL, fdL, GL, mL, kL, bL⟩ := cL
  refine F.ok scWithinL (fun vs H Q E h => ?_) (fun cdv A outer s H vs Q E hr h => ?_)
  · obtain ⟨pv', qv', p, q, rfl, _⟩ := h
    rfl
  · obtain ⟨xp, xq, p, q, rfl, hp, hq, okp, okq, k⟩ := h
    have u65 := Nat.lt_of_le_of_lt (Nat.add_le_add (Nat.le_add_right _ _) (by decide : 65 ≤ 200)) hr.un
    refine ⟨_, (pss_cons (ps_if (PW.pt (pw_or (pt_cmpR op_gt (pe_ix ix_tup (pv 0) pe_int (fun _ _ => rfl)) (pe_ix ix_tup (pv 1) pe_int (fun _ _ => rfl)) (nomark _)) (pw_or1 (PW.pt (pw_and (pt_cmpR op_eq (pe_ix ix_tup (pv 1) pe_int (fun _ _ => rfl)) pe_str (nomark _)) (pw_and1 (pt_cmpR op_eq (pe_ix ix_tup (pv 0) pe_int (fun _ _ => rfl)) pe_str (nomark _)))))))) (pss_one (ps_ret pe_bl)) pss_nil)
  (pss_cons (ps_set (i := 2) scWithinL.nd rfl (Or.inr rfl) (pe_call GL hr rfl mL kL bL .nil pass0 (pa_cons (pv 1) pa_nil)))
  (pss_one (ps_ret (pe_cmpR (op_eqD hr.units) (pe_lc (own := [("_law_row", 3)]) (g := gName 3) (tt := tTest (tOp (rNotInD K) (tVar 3) (tVar 2))) (te := tVar 3) (by rfl) scWithinL.nd (pi_list (pe_call GL hr rfl mL kL bL .nil pass0 (pa_cons (pv 0) pa_nil))) (blkOk_by (own := [("_law_row", 3)]) (N := NWth) (sc := defScope sWithinL) (by decide +kernel)) (fun _ _ _ _ _ => (pg_name (i := 3) scWithinL.nd rfl (Or.inl rfl))) (fun _ _ _ _ _ => pts_one (pt_cmpR (op_notInD (by exact u65)) (pv 3) (pv 2) (by first | exact nomark _ | rfl))) (fun _ _ _ _ _ => (pv 3))) (pe_lst pa_nil) (nomark _)))))), ?_⟩
    try dsimp only [gName, tSeq, tAsg, tNext]
    refine if_b (H0 := H) (Same.refl _) (ev_orB (ev_test (ev_gt (ev_ht0 (ev_v rfl hp)) (ev_ht0 (ev_v rfl hq)))) fun _ => ev_andB (ev_test (ev_eqS (ev_ht1 (ev_v rfl hq)) ev_str)) fun _ => ev_test (ev_eqS (ev_ht1 (ev_v rfl hp)) ev_str)) (fun e H1 s1 => ?_) (fun e H1 s1 => ?_)
    · have z : noMore p q = false := by
        unfold noMore
        rw [Bool.and_comm (decide (p.ch = ("left" : Str))), e]
        rfl
      rw [z] at k
      exact k H1 s1
    · have hp1 := up s1 hp
      have hq1 := up s1 hq
      have z : noMore p q = ((placesR p).filter fun r => !decide (r ∈ placesR q)).isEmpty := by
        rw [places_within okp okq]
        unfold noMore
        rw [Bool.and_comm (decide (p.ch = ("left" : Str))), e]
        rfl
      rw [z] at k
      try dsimp only [gName, tSeq, tAsg, tNext]
      refine evn_placesL (H0 := H1) okq (ev_v rfl hq1) H1 _ (Same.refl _) fun D us H3 nD s3 hD l => ?_
      have hp3 := up s3 hp1
      have hL3 : isL TrA (placesR q) (.ref D) H3 := ⟨D, us, rfl, hD, l⟩
      have lc : EvV (Same H3) [some xp, some xq, some (.ref D), none] (tLc (iList K (tCall spPlacesL [] E0 (tCons (tVar 0) tNil))) (gName 3) (tTest (tOp (rNotInD K) (tVar 3) (tVar 2))) (tVar 3) [3]) (isL TrA ((placesR p).filter fun r => !decide (r ∈ placesR q))) := by
        have z := ev_lc (H0 := H3) (σ := [some xp, some xq, some (.ref D), none]) (g := gName 3) (tt := tTest (tOp (rNotInD K) (tVar 3) (tVar 2))) (te := tVar 3) (vs := [3]) (as := placesR p) (S := TrA) (S' := TrA) (fun r => !decide (r ∈ placesR q)) (fun r => r) (evi_list (K := K) (evn_placesL okp (ev_v (i := 0) rfl hp3)).ev) (Nat.le_trans (shared_len p p) (by decide)) (fun r hr v G sg rv K2 kk => kk _ _ (Same.refl G) rfl (ev_test (ev_notInTr (K := K) (ev_v (i := 3) rfl rv) (ev_v (i := 2) rfl (up sg hL3)))) fun _ => ev_v (i := 3) rfl rv)
        rw [List.map_id'] at z
        exact z
      try dsimp only [gName, tSeq, tAsg, tNext]
      refine ev_eqNilT (K := K) lc H3 _ (Same.refl _) fun x5 H5 s5 _ e5 => ?_
      cases e5
      exact k H5 ((s1.trans s3).trans s5)
end
end V3

set_option Elab.async false
set_option linter.all false
set_option maxRecDepth 100000
/-! k15: a house near another one -/
namespace V3
open PySem L2 TL
abbrev sNearL : Stmt := top 37
def spNear : Sp := fun vs H Q _ => ∃ (b : Addr) (hv : V) (h : Hs) (u v : Int), vs = [.ref b, hv] ∧ H b = some (box u v) ∧ BoxOk u v ∧ HtA h hv H ∧ h.ok ∧ h.rs.length ≤ 20 ∧ ∀ z g H', Pre b H H' → HtA g z H' → g.ok → g.rs.length ≤ 50 → Q z H'
theorem Pre.updN {b D : Addr} {H Hh : Hp} {o : HO} (p : Pre b H Hh) (nD : H D = none) (nb : b ≠ D) : Pre b H (upd Hh D o) := by
  obtain ⟨s, u, v, ok, hb⟩ := p
  exact ⟨fun c o' n e => by rw [upd_ne (ne_of_none e nD)]; exact s c o' n e, u, v, ok, by rw [upd_ne nb]; exact hb⟩
theorem cutA_mem {α : Type} {xs : List α} {lo hi : Option Int} {x : α} (h : x ∈ cutA xs lo hi) : x ∈ xs := List.mem_of_mem_drop (List.mem_of_mem_take h)
theorem cutA_le {α : Type} {xs : List α} {lo hi : Option Int} : (cutA xs lo hi).length ≤ xs.length := by
  unfold cutA
  rw [List.length_take, List.length_drop]
  omega
theorem isU_kind {rs : List Rw} {v : V} {H : Hp} (h : isU TrA rs v H) : ∀ r ∈ rs, r.ok ∧ r.kind = 0 := by
  obtain ⟨D, us, _, _, l⟩ := h
  exact ls_kind (D := D) l
section
variable {K : PySem.W.Frag} {σ : L2.St} {ta tb : TE} {tl th : TO} {H0 : Hp}
/-- a slice of a tuple, the whole or not -/
theorem ev_cutY {α : Type} {S : α → V → Hp → Prop} {as : List α} [∀ a, St (S a)] {lo hi : Option Int} (ha : EvV (Same H0) σ ta (isU S as)) (hl : EvO (Same H0) σ tl lo) (hh : EvO (Same H0) σ th hi) : EvV (Same H0) σ (tSl (rSlA K) ta tl th) (isU S (cutA as lo hi)) := fun H Q w k =>
  ha H _ w fun v H1 s1 w1 r1 => hl H1 _ w1 fun H2 s2 w2 => hh H2 _ w2 fun H3 s3 w3 => by
    obtain ⟨D, us, rfl, hD, l⟩ := up (s2.trans s3) r1
    refine ⟨D, us, rfl, SqT.of hD, fun z => ?_, fun _ p np => ?_⟩
    · have e : cutA as lo hi = as := by
        unfold cutA
        rw [← l.1, z.1, z.2, List.drop_zero, Nat.sub_zero, l.1, List.take_length]
      rw [e] at k
      exact k _ _ ((s1.trans s2).trans s3) w3 ⟨D, us, rfl, hD, l⟩
    · have s4 : Same H3 (upd H3 p (.tup (cutV us lo hi))) := Same.new np
      exact k _ _ (((s1.trans s2).trans s3).trans s4) (w3.trans s4) ⟨p, _, rfl, upd_same, Ls.up (l.cut lo hi) s4⟩
def atR : Rw → Str → Rw
  | .lt k s d _, p => .lt k s d p
  | m, _ => m
theorem atR_ok {m : Rw} {p : Str} (h : m.ok ∧ m.kind = 0) (hp : p ∈ placeL) : (atR m p).ok ∧ (atR m p).kind = 0 := by
  obtain ⟨ho, hk⟩ := h
  cases m with
  | ct _ _ _ => cases hk
  | lt k s d q =>
    obtain ⟨a1, a2, a3, _, a5⟩ := ho
    exact ⟨⟨a1, a2, a3, hp, a5⟩, rfl⟩
def triR (m : Rw) : V → Hp → Prop := fun v H => ∃ t k s d p, m = .lt k s d p ∧ v = .ref t ∧ H t = some (.tup [.str k, .str s, .str d])
instance {m : Rw} : StL (triR m) := ⟨fun _ _ _ s h => by
  obtain ⟨t, k, e, d, p, rfl, rfl, ht⟩ := h
  exact ⟨t, k, e, d, p, rfl, rfl, s _ _ (fun _ e => by cases e) ht⟩⟩
theorem ht_new {d : Int} {ch : Str} {rs : List Rw} {v : V} {H : Hp} {t : Addr} (nt : H t = none) (h : isU TrA rs v H) : HtA ⟨d, ch, rs⟩ (.ref t) (upd H t (.tup [.int d, .str ch, v])) := by
  obtain ⟨q, us, rfl, hq, l⟩ := h
  have sT : Same H (upd H t (.tup [.int d, .str ch, .ref q])) := Same.new nt
  exact ⟨t, q, us, rfl, upd_same, sT _ _ hq, (show RowLs 0 H us rs from l).keep (Keep.of sT)⟩
theorem ev_tri3 {m : Rw} (ha : EvV (Same H0) σ ta (TrA m)) : EvV (Same H0) σ (tSl (rSlT K) ta tNoPart (tPart (tC (.int 3)))) (triR m) := fun H Q w k =>
  ha H _ w fun v H1 s1 w1 r1 => by
    obtain ⟨h, _, hk⟩ := r1
    cases m with
    | ct _ _ _ => cases hk
    | lt kd st de pl =>
      obtain ⟨y, rfl, hy⟩ := h
      refine ⟨_, rfl, y, [V.str kd, V.str st, V.str de, V.str pl], rfl, SqT.of hy, (by show ¬ (HT.sIx 4 0 none = 0 ∧ HT.sIx 4 4 (some 3) = 4); decide), fun t1 n1 => ?_⟩
      rw [show cutV [V.str kd, V.str st, V.str de, V.str pl] none (some 3) = [V.str kd, V.str st, V.str de] from rfl]
      exact k _ _ (s1.trans (Same.new n1)) (w1.trans (Same.new n1)) ⟨t1, _, _, _, pl, rfl, rfl, upd_same⟩
theorem atcat_go {m : Rw} {x : V} {t2 : Addr} {p : Str} {H : Hp} {Q : VK} (mk : m.ok ∧ m.kind = 0) (hp : p ∈ placeL) (h1 : triR m x H) (h2 : H t2 = some (.tup [.str p])) (k : ∀ z H', Same H H' → TrA (atR m p) z H' → Q z H') : rCatA K x (.ref t2) H Q := by
  obtain ⟨t1, kd, st, de, pl, rfl, rfl, h1⟩ := h1
  exact ⟨t1, t2, [V.str kd, V.str st, V.str de], [V.str p], rfl, rfl, SqT.of h1, SqT.of h2, (by show 4 ≤ sizeLine; decide), (fun e => by cases e), (fun _ e => by cases e), fun _ _ t nt => k _ _ (Same.new nt) ⟨⟨t, rfl, upd_same⟩, atR_ok mk hp⟩⟩
end
section
variable {P : Program} {w : World} {K : PySem.W.Frag} {mg : Str → Option Value} {base : Heap}
abbrev NNr : List Str := ["_law_box", "_law_house_here", "_law_depth", "_law_check", "_law_rows_here", "_law_form", "_law_at", "_law_row"]
theorem scNear : FnScope NNr ["_law_box", "_law_house_here"] (defScope sNearL) := ⟨rfl, rfl, rfl, by decide +kernel, rfl, by decide +kernel, by decide +kernel⟩
theorem ok_near {f : Addr} {fd : FuncData} (F : Fun K "_law_near" "_law_near" sNearL f fd) (zl : mg "len" = none) (zt : mg "tuple" = none) (cC : CalCho P w K mg base) (cO : CalOne P w K mg base) (cR : CalRws P w K mg base) : FnOk P w K mg base CX0 4 f fd ["_law_box", "_law_house_here"] spNear := by
  obtain ⟨fC, fdC, GC, mC, kC, bC⟩ := cC
  obtain ⟨fO, fdO, GO, mO, kO, bO⟩ := cO
  obtain ⟨fR, fdR, GR, mR, kR, bR⟩ := cR
  refine F.ok scNear (fun vs H Q E h => ?_) (fun cdv A outer s H vs Q E hr h => ?_)
  · obtain ⟨b, hv, h, u, v, rfl, _⟩ := h
    rfl
  · obtain ⟨b, hv, h, u, v, rfl, hb, bok, hh, hok, hl, k⟩ := h
    have hr1 : Room 1 _ := hr.mono (by decide)
    have hr2 : Room 2 _ := hr.mono (by decide)
    refine ⟨_, (pss_cons (ps_asg (pv 1) (pg_tup rfl (pgs_cons (pg_name (i := 2) scNear.nd rfl (Or.inl rfl)) (pgs_cons (pg_name (i := 3) scNear.nd rfl (Or.inl rfl)) (pgs_cons (pg_name (i := 4) scNear.nd rfl (Or.inl rfl)) pgs_nil)))))
  (pss_cons (ps_par (i := 5) (j := 6) rfl scNear.nd rfl rfl (by decide) rfl rfl (pa_cons (pe_call GC hr1 rfl mC kC bC .nil pass0 (pa_cons (pv 0) (pa_cons pe_int pa_nil))) (pa_cons (pe_call GC hr1 rfl mC kC bC .nil pass0 (pa_cons (pv 0) (pa_cons (pe_op op_add (pe_callB call_len_seq (by rfl) zl PySem.boot_len (pa_cons (pv 4) pa_nil)) pe_int) pa_nil))) pa_nil)) (by rfl))
  (pss_cons (ps_if (pt_cmpR op_eq (pv 5) pe_int (nomark _)) (pss_one (ps_ret (pe_tup (pa_cons (pv 2) (pa_cons (pv 3) (pa_cons (pe_op op_catA (pe_slice sl_tupA (pv 4) (po_some (pv 6)) po_none) (pe_callTy call_tuple_of (by rfl) zt (by decide +kernel) (pa_cons (pe_lc (own := [("_law_row", 7)]) (g := gName 7) (tt := tYes) (te := tOp (rCatA K) (tSl (rSlT K) (tVar 7) tNoPart (tPart (tC (.int 3)))) (tTup (tCons (tCall (spOneOf K) [] E0 (tCons (tVar 0) (tCons (tLst (tCons (tC (.str "now")) (tCons (tC (.str "there")) tNil))) tNil))) tNil))) (by rfl) scNear.nd (pi_tup (pv 4)) (blkOk_by (own := [("_law_row", 7)]) (N := NNr) (sc := defScope sNearL) (by decide +kernel)) (fun _ _ _ _ _ => (pg_name (i := 7) scNear.nd rfl (Or.inl rfl))) (fun _ _ _ _ _ => pts_nil) (fun _ _ _ _ _ => (pe_op op_catA (pe_slice sl_tup (pv 7) po_none (po_some pe_int)) (pe_tup (pa_cons (pe_call GO hr2 rfl mO kO bO .nil pass0 (pa_cons (pv 0) (pa_cons (pe_lst (pa_cons pe_str (pa_cons pe_str pa_nil))) pa_nil))) pa_nil))))) pa_nil))) pa_nil)))))) pss_nil)
  (pss_cons (ps_if (pt_cmpR op_eq (pv 5) pe_int (nomark _)) (pss_one (ps_ret (pe_tup (pa_cons (pe_call GC hr1 rfl mC kC bC .nil pass0 (pa_cons (pv 0) (pa_cons pe_int pa_nil))) (pa_cons (pv 3) (pa_cons (pv 4) pa_nil)))))) pss_nil)
  (pss_cons (ps_if (pt_cmpR op_eq (pv 5) pe_int (nomark _)) (pss_one (ps_ret (pe_tup (pa_cons (pv 2) (pa_cons (pe_ifExp (pt_cmpR op_eq (pv 3) pe_str (nomark _)) pe_str pe_str) (pa_cons (pv 4) pa_nil)))))) pss_nil)
  (pss_cons (ps_if (pt_cmpR op_eq (pv 5) pe_int (nomark _)) (pss_one (ps_ret (pe_tup (pa_cons (pv 2) (pa_cons (pv 3) (pa_cons (pe_op op_catA (pe_slice sl_tupA (pv 4) po_none (po_some (pv 6))) (pe_slice sl_tupA (pv 4) (po_some (pe_op op_add (pv 6) pe_int)) po_none)) pa_nil)))))) pss_nil)
  (pss_cons (ps_if (PW.pt (pw_and (pt_cmpR op_eq (pv 5) pe_int (nomark _)) (pw_and1 (pt_cmpR op_lt (pv 6) (pe_callB call_len_seq (by rfl) zl PySem.boot_len (pa_cons (pv 4) pa_nil)) (nomark _))))) (pss_one (ps_ret (pe_tup (pa_cons (pv 2) (pa_cons (pv 3) (pa_cons (pe_op op_catA (pe_op op_catA (pe_slice sl_tupA (pv 4) po_none (po_some (pv 6))) (pe_tup (pa_cons (pe_op op_catA (pe_slice sl_tup (pe_ix ix_tup (pv 4) (pv 6) (fun _ _ => rfl)) po_none (po_some pe_int)) (pe_tup (pa_cons pe_str pa_nil))) pa_nil))) (pe_slice sl_tupA (pv 4) (po_some (pe_op op_add (pv 6) pe_int)) po_none)) pa_nil)))))) pss_nil)
  (pss_cons (ps_if (pt_cmpR op_eq (pv 5) pe_int (nomark _)) (pss_one (ps_ret (pe_tup (pa_cons (pv 2) (pa_cons (pv 3) (pa_cons (pe_stepT (pv 4) po_none po_none (po_some (pe_un un_neg pe_int))) pa_nil)))))) pss_nil)
  (pss_one (ps_ret (pe_tup (pa_cons (pv 2) (pa_cons (pv 3) (pa_cons (pe_op op_catA (pe_op op_catA (pe_slice sl_tupA (pv 4) po_none (po_some (pv 6))) (pe_callTy call_tuple_of (by rfl) zt (by decide +kernel) (pa_cons (pe_call GR hr rfl mR kR bR .nil pass0 (pa_cons (pv 0) (pa_cons pe_int pa_nil))) pa_nil))) (pe_slice sl_tupA (pv 4) (po_some (pv 6)) po_none)) pa_nil)))))))))))))), ?_⟩
    obtain ⟨d0, d4, hc, hrs, hn⟩ := id hok
    obtain ⟨hp, hq, us, rfl, hpt, hqt, lr⟩ := id hh
    try dsimp only [gName, tSeq, tAsg, tNext]
    refine ⟨_, rfl, hp, _, rfl, SqT.of hpt, rfl, ?_⟩
    try dsimp only [gName, gCons, gNil, tSeq, tAsg, tNext]
    refine ⟨_, _, rfl, _, _, rfl, _, _, rfl, rfl, ?_⟩
    have p0 : Pre b H H := Pre.start bok hb
    have hx : isU TrA h.rs (.ref hq) H := ⟨hq, us, rfl, hqt, lr⟩
    refine evp_chooseW (H0 := H) (b := b) (i := 0) (m := 7) rfl (by decide) (evp_w (m := 7) (evp_pure fun _ _ => ev_int) ⟨by decide, by decide⟩) H _ p0 fun x5 H5 p5 ⟨n5, e5, n50, n51⟩ => ?_
    cases e5
    have hx5 := upP p0 p5 hx
    refine evp_chooseW (H0 := H5) (b := b) (i := 0) (m := (h.rs.length : Int) + 1) rfl (by omega) (evp_w (m := (h.rs.length : Int) + 1) (evp_pure fun G pg => ev_ad (i := (h.rs.length : Int)) (j := 1) (ev_lenU (K := K) (S := TrA) (as := h.rs) (ev_v rfl (upP p5.id pg hx5))) ev_int) ⟨by omega, by omega⟩) H5 _ p5.id fun x6 H6 p6 ⟨n6, e6, n60, n61⟩ => ?_
    cases e6
    obtain ⟨n, rfl⟩ : ∃ n : Nat, n6 = (n : Int) := ⟨n6.toNat, by omega⟩
    have P6 := p5.trans p6
    have hx6 := upP p5.id p6 hx5
    clear hx hx5
    refine ⟨_, _, rfl, ?_⟩
    try dsimp only [gName, tSeq, tAsg, tNext]
    have cm : ∀ lo hi, ∀ m ∈ cutA h.rs lo hi, m.ok ∧ m.kind = 0 := fun lo hi m hm => hrs m (cutA_mem hm)
    have cl : ∀ lo hi, (cutA h.rs lo hi).length ≤ 20 := fun lo hi => Nat.le_trans cutA_le hl
    have there : ("there" : Str) ∈ placeL := by decide +kernel
    refine if_b (H0 := H6) (Same.refl _) (ev_test (ev_eqi (ev_v rfl rfl) ev_int)) (fun e H7 s7 => ?_) (fun e H7 s7 => ?_)
    · clear e
      have P7 := P6.then s7
      have hx7 := up s7 hx6
      try dsimp only [gName, tSeq, tAsg, tNext]
      refine ⟨_, rfl, _, rfl, ?_⟩
      refine ev_cutY (H0 := H7) (K := K) (S := TrA) (as := h.rs) (lo := some (n : Int)) (hi := none) (ev_v rfl hx7) (evo_some (ev_v rfl rfl)) evo_none H7 _ (Same.refl _) fun xa Ha sa _ hxa => ?_
      have Pa := P7.then sa
      obtain ⟨_, ua, wa, oka, hba⟩ := id Pa
      obtain ⟨q', us', eq', hqa, la⟩ := up sa hx7
      cases eq'
      have nbq : hq ≠ b := fun e => by
        subst e
        rw [hba] at hqa
        cases hqa
      refine ⟨_, rfl, hq, rfl, ⟨us', SqT.of hqa⟩, fun D nD => ?_⟩
      have nbD : b ≠ D := ne_of_none hba nD
      refine lc_tup (K := K) (a := hq) (xs := us') (fun i Hh => Pre b Ha Hh ∧ ∃ acc ms, Hh D = some (.lst acc) ∧ RowLs 0 Hh acc ms ∧ ms.length = i) ⟨Pa.id.updN nD nbD, [], [], upd_same, Ls.nil, rfl⟩ (fun i Hh _ z => SqT.of (z.1.1 _ _ nbq hqa)) ?_ ?_
      · rintro i x Hh hi ⟨pz, acc, ms, hD, ra, lm⟩
        refine ⟨rfl, ?_⟩
        unfold tYes
        dsimp only
        refine iteT ?_
        obtain ⟨m, em, tm⟩ := Ls.get la hi
        have htm := upP Pa.id pz tm
        refine ev_tri3 (H0 := Hh) (K := K) (m := m) (ev_v rfl htm) Hh _ (Same.refl _) fun xt Ht st _ ht => ?_
        have pt := pz.then st
        obtain ⟨_, ub, wb, okb, hbb⟩ := id pt
        refine ⟨_, rfl, (by show 2 ≤ sizeLine; decide), fun l nl => ?_⟩
        try dsimp only [tNil]
        refine oneOf_new hbb okb nl (by show 1 ≤ 2; decide) (by show 2 ≤ 1000; decide) fun x8 H8 i8 p8 => ?_
        obtain ⟨s, rfl, hs⟩ : ∃ s, x8 = .str s ∧ s ∈ placeL := by
          simp only [List.mem_cons, List.not_mem_nil, or_false] at i8
          rcases i8 with rfl | rfl <;> exact ⟨_, rfl, by decide +kernel⟩
        have ht8 := upP pt.id p8 ht
        refine ⟨(by show 1 ≤ sizeLine; decide), fun t2 n2 => ?_⟩
        have s9 : Same H8 (upd H8 t2 (.tup [.str s])) := Same.new n2
        refine atcat_go (m := m) (p := s) htm.2 hs (up s9 ht8) upd_same fun z Hz sz hz => ?_
        have P9 := ((pt.trans p8).then s9).then sz
        have pw : Pre b Hh Hz := (((pz.id.then st).trans p8).then s9).then sz
        have hD9 := pw.1 D _ (Ne.symm nbD) hD
        have mi : ms.length < us'.length := by rw [lm]; exact (List.getElem?_eq_some_iff.mp hi).1
        have lus : us'.length = h.rs.length := la.1
        refine ⟨acc, hD9, small1000 (by rw [ra.1]; omega), P9.updN nD nbD, acc ++ [z], ms ++ [atR m s], upd_same, ?_, by rw [List.length_append, List.length_singleton, lm]⟩
        exact Ls.push (RowLs.keep (RowLs.keep ra (Keep.preb (by exact (id pz).2.choose_spec.choose_spec.2) pw)) (Keep.lst hD9)) (upL (Keep.lst hD9) hz)
      · rintro Hh ⟨pz, acc, ms, hD, ra, lm⟩
        refine ⟨D, acc, rfl, .inl ⟨SqL.of hD, fun t nt => ?_⟩⟩
        have s8 : Same Hh (upd Hh t (.tup acc)) := Same.new nt
        have hy : isU TrA ms (.ref t) (upd Hh t (.tup acc)) := ⟨t, acc, rfl, upd_same, ra.keep (Keep.of s8)⟩
        have hxb := up s8 (upP Pa.id pz hxa)
        have lus : us'.length = h.rs.length := la.1
        have c1 := cl (some (n : Int)) none
        refine cat_go (as := cutA h.rs (some (n : Int)) none) (bs := ms) (by omega) hxb hy fun z Hz sz hz => ?_
        refine ⟨(by show 3 ≤ sizeLine; decide), fun t3 n3 => ?_⟩
        exact k _ _ _ ((((Pa.trans pz).then s8).then sz).then (Same.new n3)) (ht_new n3 hz) ⟨d0, d4, hc, isU_kind hz, (by show (cutA h.rs (some (n : Int)) none ++ ms).length ≤ 100; rw [List.length_append]; omega)⟩ (by show (cutA h.rs (some (n : Int)) none ++ ms).length ≤ 50; rw [List.length_append]; omega)
    clear e
    have P7 := P6.then s7
    have hx7 := up s7 hx6
    clear P6 hx6
    try dsimp only [gName, tSeq, tAsg, tNext]
    refine if_b (H0 := H7) (Same.refl _) (ev_test (ev_eqi (ev_v rfl rfl) ev_int)) (fun e H8 s8 => ?_) (fun e H8 s8 => ?_)
    · have P8 := P7.then s8
      have hx8 := up s8 hx7
      try dsimp only [gName, tSeq, tAsg, tNext]
      refine evp_chooseW (H0 := H8) (b := b) (i := 0) (m := 5) rfl (by decide) (evp_w (m := 5) (evp_pure fun _ _ => ev_int) ⟨by decide, by decide⟩) H8 _ P8.id fun x9 H9 p9 ⟨n9, e9, n90, n91⟩ => ?_
      cases e9
      refine ⟨_, rfl, _, rfl, (by show 3 ≤ sizeLine; decide), fun t3 n3 => ?_⟩
      exact k _ ⟨n9, h.ch, h.rs⟩ _ ((P8.trans p9).then (Same.new n3)) (ht_new n3 (upP P8.id p9 hx8)) ⟨n90, (by show n9 ≤ 4; omega), hc, hrs, hn⟩ (by show h.rs.length ≤ 50; omega)
    clear e
    have P8 := P7.then s8
    have hx8 := up s8 hx7
    clear P7 hx7
    try dsimp only [gName, tSeq, tAsg, tNext]
    refine if_b (H0 := H8) (Same.refl _) (ev_test (ev_eqi (ev_v rfl rfl) ev_int)) (fun e H9 s9 => ?_) (fun e H9 s9 => ?_)
    · have P9 := P8.then s9
      have hx9 := up s9 hx8
      have lck : ("left" : Str) ∈ checkL := by decide +kernel
      have ack : ("all" : Str) ∈ checkL := by decide +kernel
      try dsimp only [gName, tSeq, tAsg, tNext]
      refine ev_htMk (H0 := H9) (d := h.d) (ch := if decide (h.ch = ("all" : Str)) = true then "left" else "all") (rs := h.rs) (ev_v rfl rfl) (ev_if (b := decide (h.ch = ("all" : Str))) (ev_test (ev_eqS (ev_v rfl rfl) ev_str)) (fun e => by rw [if_pos e]; exact ev_str) (fun e => by rw [if_neg (by rw [e]; exact Bool.false_ne_true)]; exact ev_str)) (ev_v rfl hx9) H9 _ (Same.refl _) fun z Hz sz _ hz => ?_
      exact k z _ Hz (P9.then sz) hz ⟨d0, d4, (by show (if decide (h.ch = ("all" : Str)) = true then ("left" : Str) else "all") ∈ checkL; split <;> assumption), hrs, hn⟩ (by show h.rs.length ≤ 50; omega)
    clear e
    have P9 := P8.then s9
    have hx9 := up s9 hx8
    clear P8 hx8
    try dsimp only [gName, tSeq, tAsg, tNext]
    have aft : ∀ {G : Hp} {σ : L2.St}, σ[6]? = some (some (.int (n : Int))) → EvV (Same G) σ (tOp (rI0 fun i j => .int (i + j)) (tVar 6) (tC (.int 1))) (isIv ((n : Int) + 1)) := fun e => ev_ad (ev_v e rfl) ev_int
    refine if_b (H0 := H9) (Same.refl _) (ev_test (ev_eqi (ev_v rfl rfl) ev_int)) (fun e Ha sa => ?_) (fun e Ha sa => ?_)
    · have Pa := P9.then sa
      have hxa := up sa hx9
      have c1 := cl none (some (n : Int))
      have c2 := cl (some ((n : Int) + 1)) none
      try dsimp only [gName, tSeq, tAsg, tNext]
      refine ev_htMk (H0 := Ha) (d := h.d) (ch := h.ch) (rs := cutA h.rs none (some (n : Int)) ++ cutA h.rs (some ((n : Int) + 1)) none) (ev_v rfl rfl) (ev_v rfl rfl) (ev_catU (by omega) (ev_cutY (ev_v rfl hxa) evo_none (evo_some (ev_v rfl rfl))) (ev_cutY (ev_v rfl hxa) (evo_some (aft rfl)) evo_none)) Ha _ (Same.refl _) fun z Hz sz _ hz => ?_
      exact k z _ Hz (Pa.then sz) hz ⟨d0, d4, hc, (fun m hm => (List.mem_append.mp hm).elim (cm _ _ m) (cm _ _ m)), (by show (cutA h.rs none (some (n : Int)) ++ cutA h.rs (some ((n : Int) + 1)) none).length ≤ 100; rw [List.length_append]; omega)⟩ (by show (cutA h.rs none (some (n : Int)) ++ cutA h.rs (some ((n : Int) + 1)) none).length ≤ 50; rw [List.length_append]; omega)
    clear e
    have Pa := P9.then sa
    have hxa := up sa hx9
    clear P9 hx9
    try dsimp only [gName, tSeq, tAsg, tNext]
    refine if_b (H0 := Ha) (Same.refl _) (ev_andB (ev_test (ev_eqi (ev_v rfl rfl) ev_int)) fun _ => ev_test (ev_lt (i := (n : Int)) (j := (h.rs.length : Int)) (ev_v rfl rfl) (ev_lenU (K := K) (S := TrA) (as := h.rs) (ev_v rfl hxa)))) (fun e Hb sb => ?_) (fun e Hb sb => ?_)
    · have Pb := Pa.then sb
      have hxb := up sb hxa
      have nl : n < h.rs.length := by
        have := of_decide_eq_true (Bool.and_eq_true_iff.mp e).2
        omega
      have c1 := cl none (some (n : Int))
      have c2 := cl (some ((n : Int) + 1)) none
      have hm := List.getElem?_eq_getElem nl
      generalize h.rs[n] = m at hm
      have mok := hrs m (List.mem_of_getElem? hm)
      try dsimp only [gName, tSeq, tAsg, tNext]
      refine ⟨_, rfl, _, rfl, ?_⟩
      refine ev_cutY (H0 := Hb) (K := K) (S := TrA) (as := h.rs) (lo := none) (hi := some (n : Int)) (ev_v rfl hxb) evo_none (evo_some (ev_v rfl rfl)) Hb _ (Same.refl _) fun x1 H1 s1 _ hx1 => ?_
      refine ev_tri3 (H0 := H1) (K := K) (m := m) (ev_ixU (S := TrA) (as := h.rs) (n := n) hm (ev_v rfl (up s1 hxb)) (ev_v rfl rfl)) H1 _ (Same.refl _) fun x2 H2 s2 _ hx2 => ?_
      refine ⟨(by show 1 ≤ sizeLine; decide), fun t3 n3 => ?_⟩
      have s3 : Same H2 (upd H2 t3 (.tup [.str "there"])) := Same.new n3
      refine atcat_go (m := m) (p := "there") mok there (up s3 hx2) upd_same fun x4 H4 s4 hx4 => ?_
      refine ⟨(by show 1 ≤ sizeLine; decide), fun t5 n5' => ?_⟩
      have s5 : Same H4 (upd H4 t5 (.tup [x4])) := Same.new n5'
      have hx5 : isU TrA [atR m "there"] (.ref t5) (upd H4 t5 (.tup [x4])) := ⟨t5, [x4], rfl, upd_same, Ls.push Ls.nil (up s5 hx4)⟩
      have S1 : Same H1 (upd H4 t5 (.tup [x4])) := ((s2.trans s3).trans s4).trans s5
      try dsimp only [tNil]
      refine cat_go (as := cutA h.rs none (some (n : Int))) (bs := [atR m "there"]) (by show (cutA h.rs none (some (n : Int))).length + 1 ≤ 1000; omega) (up S1 hx1) hx5 fun x6 H6 s6 hx6 => ?_
      have S6 := (s1.trans S1).trans s6
      refine ev_cutY (H0 := H6) (K := K) (S := TrA) (as := h.rs) (lo := some ((n : Int) + 1)) (hi := none) (ev_v rfl (up S6 hxb)) (evo_some (aft rfl)) evo_none H6 _ (Same.refl _) fun x7 H7 s7 _ hx7 => ?_
      refine cat_go (as := cutA h.rs none (some (n : Int)) ++ [atR m "there"]) (bs := cutA h.rs (some ((n : Int) + 1)) none) (by rw [List.length_append]; show (cutA h.rs none (some (n : Int))).length + 1 + _ ≤ 1000; omega) (up s7 hx6) hx7 fun x8 H8 s8 hx8 => ?_
      refine ⟨(by show 3 ≤ sizeLine; decide), fun t9 n9 => ?_⟩
      have ln : ((cutA h.rs none (some (n : Int)) ++ [atR m "there"]) ++ cutA h.rs (some ((n : Int) + 1)) none).length ≤ 50 := by
        rw [List.length_append, List.length_append, List.length_singleton]
        omega
      exact k _ _ _ ((((Pb.then S6).then s7).then s8).then (Same.new n9)) (ht_new n9 hx8) ⟨d0, d4, hc, isU_kind hx8, Nat.le_trans ln (by decide)⟩ ln
    clear e
    have Pb := Pa.then sb
    have hxb := up sb hxa
    clear Pa hxa
    try dsimp only [gName, tSeq, tAsg, tNext]
    refine if_b (H0 := Hb) (Same.refl _) (ev_test (ev_eqi (ev_v rfl rfl) ev_int)) (fun e Hc sc => ?_) (fun e Hc sc => ?_)
    · have Pc := Pb.then sc
      have hxc := up sc hxb
      try dsimp only [gName, tSeq, tAsg, tNext]
      refine ev_htMk (H0 := Hc) (d := h.d) (ch := h.ch) (rs := h.rs.reverse) (ev_v rfl rfl) (ev_v rfl rfl) (ev_revU (by omega) (ev_v rfl hxc)) Hc _ (Same.refl _) fun z Hz sz _ hz => ?_
      exact k z _ Hz (Pc.then sz) hz ⟨d0, d4, hc, (fun m hm => hrs m (List.mem_reverse.mp hm)), (by show h.rs.reverse.length ≤ 100; rw [List.length_reverse]; omega)⟩ (by show h.rs.reverse.length ≤ 50; rw [List.length_reverse]; omega)
    clear e
    have Pc := Pb.then sc
    have hxc := up sc hxb
    clear Pb hxb
    have c1 := cl none (some (n : Int))
    have c2 := cl (some (n : Int)) none
    try dsimp only [gName, tSeq, tAsg, tNext]
    refine ⟨_, rfl, _, rfl, ?_⟩
    refine ev_cutY (H0 := Hc) (K := K) (S := TrA) (as := h.rs) (lo := none) (hi := some (n : Int)) (ev_v rfl hxc) evo_none (evo_some (ev_v rfl rfl)) Hc _ (Same.refl _) fun x1 H1 s1 _ hx1 => ?_
    have P1 := Pc.then s1
    obtain ⟨_, u1, w1, ok1, hb1⟩ := id P1
    refine ⟨_, rfl, b, u1, w1, 1, rfl, hb1, ok1, by decide, by decide, fun D xs ms H2 p2 hD nDb nfr rl ln => ?_⟩
    have hx2 := upP P1.id p2 hx1
    have hy2 := upP P1.id p2 (up s1 hxc)
    refine ⟨D, xs, rfl, .inl ⟨SqL.of hD, fun t3 n3 => ?_⟩⟩
    have s3 : Same H2 (upd H2 t3 (.tup xs)) := Same.new n3
    have hx3 : isU TrA ms (.ref t3) (upd H2 t3 (.tup xs)) := ⟨t3, xs, rfl, upd_same, (show RowLs 0 H2 xs ms from rl).keep (Keep.of s3)⟩
    refine cat_go (as := cutA h.rs none (some (n : Int))) (bs := ms) (by omega) (up s3 hx2) hx3 fun x4 H4 s4 hx4 => ?_
    refine ev_cutY (H0 := H4) (K := K) (S := TrA) (as := h.rs) (lo := some (n : Int)) (hi := none) (ev_v rfl (up (s3.trans s4) hy2)) (evo_some (ev_v rfl rfl)) evo_none H4 _ (Same.refl _) fun x5 H5 s5 _ hx5 => ?_
    refine cat_go (as := cutA h.rs none (some (n : Int)) ++ ms) (bs := cutA h.rs (some (n : Int)) none) (by rw [List.length_append]; omega) (up s5 hx4) hx5 fun x6 H6 s6 hx6 => ?_
    refine ⟨(by show 3 ≤ sizeLine; decide), fun t7 n7 => ?_⟩
    have ln2 : ((cutA h.rs none (some (n : Int)) ++ ms) ++ cutA h.rs (some (n : Int)) none).length ≤ 50 := by
      rw [List.length_append, List.length_append]
      omega
    exact k _ _ _ (((((P1.trans p2).then s3).then s4).then s5).then s6 |>.then (Same.new n7)) (ht_new n7 hx6) ⟨d0, d4, hc, isU_kind hx6, Nat.le_trans ln2 (by decide)⟩ ln2
end
end V3

set_option Elab.async false
set_option linter.all false
set_option maxRecDepth 100000
/-! House over a tuple of rows -/
namespace V3
open PySem L2 TL
theorem sqT_ty {K : PySem.W.Frag} {H : Hp} {a : Addr} {us : List V} (h : SqT K H a us) : TyX K H (.ref a) (.type "tuple") := by
  rcases h with (h | ⟨od, h⟩) | ⟨o, its, n, h1, h2, _⟩
  · exact .base (.tup h)
  · exact .fTuple h
  · exact .kTuple h1 h2
theorem kitAny_ttH {K : PySem.W.Frag} : PySem.W.kitAny K (.type "tuple") [.type "list", .type "tuple"] = some true := by
  refine kitAny_cons (b := false) (show PySem.W.kitOne K (.type "tuple") (.type "list") = some false from kit_ty (by decide +kernel)) (fun _ => ?_) (fun z => by cases z)
  exact kitAny_cons (show PySem.W.kitOne K (.type "tuple") (.type "tuple") = some true from kit_ty (by decide +kernel)) (fun z => by cases z) fun z => rfl
def spIsRowsK (K : PySem.W.Frag) (c : Rc) : Sp := fun vs H Q _ => ∃ (a : Addr) (us : List V) (ms : List Rw), vs = [.ref a] ∧ TupK K H a us ∧ RwLs c H us ms ∧ (∀ m ∈ ms, m.kind = 0) ∧ ms.length ≤ 1000 ∧ ∀ H', Same H H' → Q (.bl true) H'
def spHsInitK (K : PySem.W.Frag) (c : Rc) (C : Addr) : Sp := fun vs H Q _ => ∃ (x dx l : Addr) (us : List V) (h : Hs), vs = [.ref x, .int h.d, .str h.ch, .ref l] ∧ H x = some (.ins C dx []) ∧ TupK K H l us ∧ RwLs c H us h.rs ∧ h.ok ∧
  ∀ H', SameX x H H' → HsAt K c C H' (.ref x) h → Q .non H'
structure MkHK (P : Program) (w : World) (K : PySem.W.Frag) (mg : Str → Option Value) (base : Heap) (c : Rc) (C : Addr) : Prop where
  g : mg "House" = some (.ref C)
  ini : ∃ (f : Addr) (fd : FuncData), FnOk P w K mg base CX0 4 f fd ["self", "depth", "check", "rows"] (spHsInitK K c C) ∧ Mk K C f ∧ Binds K fd ["self", "depth", "check", "rows"] []
theorem mk_houseK {K : PySem.W.Frag} {c : Rc} {C x dx l : Addr} {H : Hp} {us : List V} {h : Hs} {R : VK} {E : XK} (hl : TupK K H l us) (rl : RwLs c H us h.rs) (ok : h.ok) (nx : H x = none) (ndx : H dx = none) (q : ∀ H', Same H H' → HsAt K c C H' (.ref x) h → R .non H') :
    spHsInitK K c C [.ref x, .int h.d, .str h.ch, .ref l] (upd (upd H dx (.own x)) x (.ins C dx [])) R E := by
  have s0 : Same H (upd (upd H dx (.own x)) x (.ins C dx [])) := made_same nx ndx
  exact ⟨x, dx, l, us, h, rfl, upd_same, hl.same s0, rl.same s0, ok, fun H' s' a => q H' (fun b o e => s' b o (ne_of_none e nx) (s0 b o e)) a⟩
section
variable {P : Program} {w : World} {K : PySem.W.Frag} {mg : Str → Option Value} {base : Heap}
theorem ok_isRowsK {f : Addr} {c : Rc} {fd : FuncData} (F : Fun K "is_rows" "is_rows" sIsRows f fd) (T : BltK mg) (C : LetI K c) (gL : mg "Let" = some (.ref c.L)) : FnOk P w K mg base CX0 1 f fd ["value"] (spIsRowsK K c) := by
  refine F.ok scIsRows (fun vs H Q E h => ?_) (fun cdv A outer s H vs Q E hr h => ?_)
  · obtain ⟨a, us, ms, rfl, _⟩ := h
    rfl
  · obtain ⟨a, us, ms, rfl, ha, rl, kd, n, k⟩ := h
    refine ⟨_, pss_one (ps_ret (pe_and (pe_callB call_isiT (by rfl) T.isi (by decide +kernel) (pa_cons (pv 0) (pa_cons (pe_tup (pa_cons (pe_bltn (v := .ty "list") (by rfl) T.list (by decide +kernel) rfl) (pa_cons (pe_bltn (v := .ty "tuple") (by rfl) T.tuple (by decide +kernel) rfl) pa_nil))) pa_nil)))
        (pe_one (pe_callB (cr_all rfl) (by rfl) T.all (by decide +kernel) (pa_cons (pe_lc (own := [("item", 1)]) (g := gName 1) (tt := tYes) (te := tCB (rIsi K) (tCons (tVar 1) (tCons (tC (.ref c.L)) tNil))) (by rfl) scIsRows.nd (pi_tup (pv 0)) (blkOk_by (own := [("item", 1)]) (N := ["value", "item"]) (sc := defScope sIsRows) (by decide +kernel)) (fun _ _ _ _ _ => pg_name (i := 1) scIsRows.nd rfl (Or.inl rfl)) (fun _ _ _ _ _ => pts_nil)
          (fun _ _ _ _ _ => pe_callB call_isi (by rfl) T.isi (by decide +kernel) (pa_cons (pv 1) (pa_cons (pe_glob (v := .ref c.L) rfl gL rfl) pa_nil)))) pa_nil))))), ?_⟩
    refine ⟨_, rfl, (by show 2 ≤ sizeLine; decide), fun tp ntp => ?_⟩
    have s1 : Same H (upd H tp (.tup [.ty "list", .ty "tuple"])) := Same.new ntp
    have ht : upd H tp (.tup [.ty "list", .ty "tuple"]) tp = some (.tup [.ty "list", .ty "tuple"]) := upd_same
    generalize upd H tp (.tup [.ty "list", .ty "tuple"]) = H1 at s1 ht ⊢
    have ha1 := ha.same s1
    have rl1 := rl.same s1
    have lx : us.length = ms.length := rl.1
    refine ⟨_, tp, _, _, _, _, rfl, ht, .cons (.ty "list") (.cons (.ty "tuple") .nil), sqT_ty ha1.sq, kitAny_ttH, _, rfl, iteT ?_⟩
    refine ⟨_, rfl, a, rfl, ⟨us, ha1.sq⟩, fun D nD => ?_⟩
    refine lc_tup (K := K) (a := a) (xs := us) (fun i Hh => Same H1 Hh ∧ H1 D = none ∧ Hh D = some (.lst (List.replicate i (V.bl true)))) ⟨Same.new nD, nD, upd_same⟩ (fun i Hh _ p => (ha1.same p.1).sq) ?_ ?_
    · intro i z Hh hi p
      have il : i < us.length := (List.getElem?_eq_some_iff.mp hi).1
      obtain ⟨m, em, mz⟩ := Ls.get rl1 hi
      obtain ⟨y, dy, rfl, hy⟩ := mz.same p.1
      have km := kd m (List.mem_of_getElem? em)
      refine ⟨rfl, ?_⟩
      unfold tYes
      dsimp only
      have hy2 : Hh y = some (.ins c.L dy m.fs) := by
        rw [hy]
        show some (HO.ins (c.at m.kind) dy m.fs) = _
        rw [km]
        rfl
      refine iteT ⟨_, rfl, _, _, _, _, _, rfl, .own c.L, .base (.ins hy2 C.cl C.ca C.gn C.tk C.mr), C.ki, _, p.2.2, ?_, fun d o h => ?_, p.2.1, ?_⟩
      · rw [List.length_replicate]
        exact Nat.lt_of_lt_of_le (m := 1001) (by omega) (by decide)
      · rw [upd_ne (ne_of_none h p.2.1)]
        exact p.1 d o h
      · rw [upd_same, List.replicate_succ']
    · intro Hh p
      obtain ⟨s2, _, e⟩ := p
      refine ⟨D, List.replicate us.length true, rfl, SqL.of (by rw [e, repl_bl]), ?_⟩
      have z : (List.replicate us.length true).all id = true := by
        rw [List.all_eq_true]
        intro x hx
        rw [List.eq_of_mem_replicate hx]
        rfl
      rw [z]
      exact k _ (s1.trans s2)
theorem ok_hsInitK {f CA DA C : Addr} {c : Rc} {fd : FuncData} {dvs : List V} (F : FunD K "__init__" "House.__init__" (defArgs sHsInit) (defBody sHsInit) (defScope sHsInit) dvs [] f fd) (T : BltK mg) (X : HsT K mg CA DA) (L : HsC K C)
    (cN : Cal P w K mg base CX0 "is_number" 2 ["value"] spNumI) (cR : Cal P w K mg base CX0 "is_rows" 1 ["value"] (spIsRowsK K c)) : FnOk P w K mg base CX0 4 f fd ["self", "depth", "check", "rows"] (spHsInitK K c C) := by
  obtain ⟨fN, fdN, GN, mN, kN, bN⟩ := cN
  obtain ⟨fR, fdR, GR, mR, kR, bR⟩ := cR
  refine F.ok scHsInit (fun vs H Q E h => ?_) (fun cdv A outer s H vs Q E hr h => ?_)
  · obtain ⟨x, dx, l, us, h, rfl, _⟩ := h
    rfl
  · obtain ⟨x, dx, l, us, h, rfl, hx, hl, rl, ok, q⟩ := h
    obtain ⟨d0, d4, hc, hm, hn⟩ := ok
    refine ⟨_, pss_cons (ps_if (pt_not (PW.pt (pw_and (pt_val (pe_call GN (hr.mono (by decide)) rfl mN kN bN .nil pass0 (pa_cons (pv 1) pa_nil))) (pw_and1 (pt_cmpR op_lt (pv 1) (pe_callB call_len_seq (by rfl) T.len PySem.boot_len (pa_cons (pe_glob (v := .ref DA) rfl X.depths rfl) pa_nil)) (nomark _)))))) (pss_one ps_never) pss_nil)
      (pss_cons (ps_if (pt_cmpR op_notIn_seq (pv 2) (pe_glob (v := .ref CA) rfl X.checks rfl) rfl) (pss_one ps_never) pss_nil)
      (pss_cons (ps_if (pt_not (pt_val (pe_call GR (hr.mono (by decide)) rfl mR kR bR .nil pass0 (pa_cons (pv 3) pa_nil)))) (pss_one ps_never) pss_nil)
      (pss_cons (ps_fld (pv 0) (pv 1) rfl)
      (pss_cons (ps_fld (pv 0) (pv 2) rfl)
      (pss_one (ps_fld (pv 0) (pe_callTy call_tuple_of (by rfl) T.tuple (by decide +kernel) (pa_cons (pv 3) pa_nil)) rfl)))))), ?_⟩
    refine ⟨_, rfl, h.d, rfl, _, rfl, ?_⟩
    rw [decide_eq_true d0]
    refine iteT ⟨_, rfl, DA, _, rfl, .inr (X.tD _), _, _, rfl, rfl, _, rfl, ?_⟩
    rw [decide_eq_true (show h.d < ((depthL.map V.str).length : Int) by show h.d < 5; omega)]
    refine iteF ⟨_, rfl, CA, _, rfl, .inr (X.tC _), rfl, flat_strs _, _, rfl, ?_⟩
    rw [inV_str, decide_eq_true hc]
    refine iteF ⟨_, rfl, l, us, h.rs, rfl, hl, rl, fun m z => (hm m z).2, by omega, fun H1 s1 => ⟨_, rfl, iteF ?_⟩⟩
    have hx1 := s1 _ _ hx
    have hl1 := hl.same s1
    refine ⟨_, rfl, _, rfl, x, C, dx, _, rfl, hx1, L.cl, L.d, (by show 0 < 1000; decide), ?_⟩
    refine ⟨_, rfl, _, rfl, x, C, dx, _, rfl, upd_same, L.cl, L.ch, (by show 1 < 1000; decide), ?_⟩
    rw [upd_upd]
    have hl2 : TupK K (upd H1 x (HO.ins C dx (putF "check" (V.str h.ch) (putF "depth" (V.int h.d) [])))) l us := hl1.imp (fun z => by
      rw [upd_ne (fun e => by rw [e, hx1] at z; cases z)]
      exact z) fun z => z
    refine ⟨_, rfl, l, us, rfl, .inr ⟨hl2.sq, _, rfl, x, C, dx, _, rfl, upd_same, L.cl, L.rs, (lt_put (n := 999) (lt_put (n := 998) (by show 0 < 998; decide))), ?_⟩⟩
    rw [hs_put, upd_upd]
    have sx : ∀ b o, b ≠ x → H b = some o → (upd H1 x (HO.ins C dx (hsF (.int h.d) (.str h.ch) (.ref l)))) b = some o := fun b o nb e => by
      rw [upd_ne nb]
      exact s1 _ _ e
    refine q _ (fun b o nb e => sx b o nb e) ⟨x, dx, l, us, rfl, upd_same, ?_, ?_⟩
    · exact hl1.imp (fun z => by
        rw [upd_ne (fun e => by rw [e, hx1] at z; cases z)]
        exact z) fun z => z
    refine Ls.imp rl fun v m a => ?_
    obtain ⟨y, dy, rfl, hy⟩ := a
    have nyx : y ≠ x := fun z => by
      rw [z, hx] at hy
      have e := Option.some.inj hy
      cases m <;> cases e
    exact ⟨y, dy, rfl, sx y _ nyx hy⟩
end
end V3

set_option Elab.async false
set_option linter.all false
set_option maxRecDepth 100000
namespace V3
open PySem L2 TL
abbrev sHouseOf : Stmt := top 36
abbrev sLetOf : Stmt := top 35
section
variable {P : Program} {w : World} {K : PySem.W.Frag} {mg : Str → Option Value} {base : Heap}
theorem scLetOf : FnScope ["_law_row"] ["_law_row"] (defScope sLetOf) := ⟨rfl, rfl, rfl, by decide +kernel, rfl, by decide +kernel, by decide +kernel⟩
theorem ok_letOf {f : Addr} {c : Rc} {fd : FuncData} (F : Fun K "_law_let_of" "_law_let_of" sLetOf f fd) (ML : MkR P w K mg base "Let" ["self", "kind", "state", "deed", "place"] c.L 3 (spLInit c)) : FnOk P w K mg base CX0 5 f fd ["_law_row"] (spLetOf c) := by
  obtain ⟨f1, fd1, G1, M1, b1⟩ := ML.ini
  refine F.ok scLetOf (fun vs H Q E h => ?_) (fun cdv A outer s H vs Q E hr h => ?_)
  · obtain ⟨v, m, rfl, _⟩ := h
    rfl
  · obtain ⟨v, m, rfl, ⟨p, rfl, hp⟩, ok, ek, q⟩ := h
    cases m with
    | ct _ _ _ => cases ek
    | lt k s d pl =>
      refine ⟨_, pss_one (ps_ret (pe_make (E := fun _ _ _ => False) M1 G1 hr rfl ML.g b1 .nil pass0 (pa_cons (pe_ix ix_tup (pv 0) pe_int (fun _ _ => rfl)) (pa_cons (pe_ix ix_tup (pv 0) pe_int (fun _ _ => rfl)) (pa_cons (pe_ix ix_tup (pv 0) pe_int (fun _ _ => rfl)) (pa_cons (pe_ix ix_tup (pv 0) pe_int (fun _ _ => rfl)) pa_nil)))))), ?_⟩
      refine ⟨_, rfl, p, _, 0, .str k, rfl, rfl, SqT.of hp, rfl, _, rfl, p, _, 1, .str s, rfl, rfl, SqT.of hp, rfl, _, rfl, p, _, 2, .str d, rfl, rfl, SqT.of hp, rfl, _, rfl, p, _, 3, .str pl, rfl, rfl, SqT.of hp, rfl, ?_⟩
      exact fun x dx nx ndx _ => mk_let ok nx ndx fun H' s' a => ⟨rfl, q _ _ s' a⟩
theorem scHouseOf : FnScope ["_law_house_here", "_law_row"] ["_law_house_here"] (defScope sHouseOf) := ⟨rfl, rfl, rfl, by decide +kernel, rfl, by decide +kernel, by decide +kernel⟩
theorem ok_houseOf {f C : Addr} {c : Rc} {fd : FuncData} (F : Fun K "_law_house_of" "_law_house_of" sHouseOf f fd) (M : MkH P w K mg base c C) (cL : Cal P w K mg base CX0 "_law_let_of" 5 ["_law_row"] (spLetOf c)) : FnOk P w K mg base CX0 6 f fd ["_law_house_here"] (spHouseOf K c C) := by
  obtain ⟨fL, fdL, GL, mL, kL, bL⟩ := cL
  obtain ⟨fH, fdH, GH, MH, bH⟩ := M.ini
  refine F.ok scHouseOf (fun vs H Q E h => ?_) (fun cdv A outer s H vs Q E hr h => ?_)
  · obtain ⟨v, h, rfl, _⟩ := h
    rfl
  · obtain ⟨v, h, rfl, ⟨x, q, us, rfl, hx, hq, rl⟩, ok, k⟩ := h
    obtain ⟨d0, d4, hc, hm, hn⟩ := id ok
    refine ⟨_, pss_one (ps_ret (pe_make (E := fun _ _ _ => False) MH GH hr rfl M.g bH .nil pass0 (pa_cons (pe_ix ix_tup (pv 0) pe_int (fun _ _ => rfl)) (pa_cons (pe_ix ix_tup (pv 0) pe_int (fun _ _ => rfl)) (pa_cons
      (pe_lc (own := [("_law_row", 1)]) (g := gName 1) (tt := tYes) (te := tCall (spLetOf c) [] E0 (tCons (tVar 1) tNil)) (by rfl) scHouseOf.nd (pi_tup (pe_ix ix_tup (pv 0) pe_int (fun _ _ => rfl))) (blkOk_by (own := [("_law_row", 1)]) (N := ["_law_house_here", "_law_row"]) (sc := defScope sHouseOf) (by decide +kernel)) (fun _ _ _ _ _ => pg_name (i := 1) scHouseOf.nd rfl (Or.inl rfl)) (fun _ _ _ _ _ => pts_nil)
          (fun _ _ _ _ _ => pe_call GL hr rfl mL kL bL .nil pass0 (pa_cons (pv 1) pa_nil))) pa_nil))))), ?_⟩
    refine ⟨_, rfl, x, _, 0, _, rfl, rfl, SqT.of hx, rfl, _, rfl, x, _, 1, _, rfl, rfl, SqT.of hx, rfl, _, rfl, x, _, 2, _, rfl, rfl, SqT.of hx, rfl, q, rfl, ⟨us, SqT.of hq⟩, fun D nD => ?_⟩
    have lx : us.length = h.rs.length := rl.1
    refine lc_tup (K := K) (a := q) (xs := us) (fun i Hh => Same H Hh ∧ H D = none ∧ ∃ acc, Hh D = some (.lst acc) ∧ RwLs c Hh acc (h.rs.take i)) ⟨Same.new nD, nD, [], upd_same, Ls.nil⟩ (fun i Hh _ z => SqT.of (z.1 _ _ hq)) ?_ ?_
    · rintro i z Hh hi ⟨s2, nD1, acc, hD, ra⟩
      obtain ⟨m, em, tm, mo, mk⟩ := Ls.get rl hi
      refine ⟨rfl, ?_⟩
      unfold tYes
      dsimp only
      refine iteT ⟨_, rfl, z, m, rfl, tm.same s2, mo, mk, fun y H' s3 ry => ⟨acc, s3 _ _ hD, ?_, ?_, nD1, _, upd_same, ?_⟩⟩
      · have z1 : acc.length = (h.rs.take i).length := ra.1
        rw [List.length_take] at z1
        exact Nat.lt_of_lt_of_le (m := 101) (by omega) (by decide)
      · intro b o e
        rw [upd_ne (ne_of_none e nD1)]
        exact s3 b o (s2 b o e)
      · rw [take_nxt em]
        have kl : Keep H' (upd H' D (.lst (acc ++ [y]))) := Keep.lst (s3 _ _ hD)
        exact ((ra.same s3).keep kl).push (ry.keep kl)
    · rintro Hh ⟨s2, nD1, acc, hD, ra⟩
      rw [lx, List.take_length] at ra
      exact fun y dy ny ndy _ => mk_house (h := h) hD ra ok ny ndy fun H' s' a => ⟨rfl, k _ _ (s2.trans s') a⟩
end
end V3

set_option Elab.async false
set_option linter.all false
set_option maxRecDepth 100000
/-! the law of k15 -/
namespace V3
open PySem L2 TL
abbrev sLaw : Stmt := top 41
abbrev NL : List Str := ["_law_script", "_law_k", "_law_box", "_law_turn", "_law_p", "_law_q", "_law_one", "_law_other", "_law_found", "_law_due", "_law_held"]
theorem scLaw : FnScope NL ["_law_script"] (defScope sLaw) := ⟨rfl, rfl, rfl, by decide +kernel, rfl, by decide +kernel, by decide +kernel⟩
def spLaw (K : PySem.W.Frag) : Sp := fun vs H Q _ => ∃ (a : Addr) (ns : List Int), vs = [.ref a] ∧ SqL K H a (ns.map V.int) ∧ ns.length ≤ 63 ∧ ∀ H', Q (.bl true) H'
structure BltK15 (mg : Str → Option Value) : Prop where
  len : mg "len" = none
  range : mg "range" = none
  max : mg "max" = none
  min : mg "min" = none
  str : mg "str" = none
  repr : mg "repr" = none
structure HsEI (P : Program) (w : World) (K : PySem.W.Frag) (mg : Str → Option Value) (base : Heap) (c : Rc) (C : Addr) : Prop where
  eq : ∃ (f : Addr) (fd : FuncData), FnOk P w K mg base CX0 7 f fd ["self", "other"] (spHsEq K c C) ∧ EqCls K C f ∧ Binds K fd ["self", "other"] []
  si : Silent K C [dunderI (Operator.BitAnd).info.2]
section
variable {X : Cx} {c : Rc} {C : Addr}
theorem op_neI (T : HsEI X.prog X.w X.K X.mg X.base c C) (hr : Room 8 X.A) : OpR X (compareOp .NotEq) (rEqO X.K 7 (FFe X.K c C) true) := op_neO (fun D sp E h => by
  obtain ⟨rfl, rfl⟩ := h
  obtain ⟨f, fd, F, ec, bi⟩ := T.eq
  exact ⟨CX0, f, fd, _, F, ec, bi, fun _ _ _ _ _ _ _ h => h.elim⟩) hr
theorem ip_anI (T : HsAB X.prog X.w X.K X.mg X.base c C) (hr : Room 6 X.A) : PIp X .BitAnd (rBinD X.K .BitAnd true (FFan X.K c C)) := ip_own (fun D sp E h => by
  obtain ⟨rfl, rfl, rfl⟩ := h
  obtain ⟨f, fd, F, ec, bi⟩ := T.an
  exact ⟨CX0, f, fd, _, F, ec, bi, fun _ _ _ _ _ _ _ h => h.elim⟩) hr
end
theorem ip_go {K : PySem.W.Frag} {c : Rc} {C : Addr} {p q : Hs} {x y : V} {H : Hp} {Q : VK} (si : Silent K C [dunderI (Operator.BitAnd).info.2]) (okp : p.ok) (okq : q.ok) (a1 : HsA K c C p x H) (a2 : HsA K c C q y H) (k : ∀ z H', Same H H' → HsA K c C (andH p q) z H' → Q z H') : rBinD K .BitAnd true (FFan K c C) x y H Q := by
  obtain ⟨x, dx, q1, u1, rfl, hx, _⟩ := id a1
  obtain ⟨y, dy, q2, u2, rfl, hy, _⟩ := id a2
  exact ⟨x, C, dx, _, y, C, dy, _, spAnd K c C, E0, rfl, rfl, hx, hy, .inl rfl, (fun _ => si), ⟨rfl, rfl, rfl⟩, _, _, p, q, rfl, a1, a2, okp, okq, fun z H' s a => k z H' s a⟩
/-! four answers, shown -/
def bD (bs : List Bool) : List PyData := bs.map PyData.bool
theorem dp_bools {K : PySem.W.Frag} {H : Hp} : ∀ bs : List Bool, DpAll K H (bs.map V.bl) (bD bs)
  | [] => .nil
  | b :: r => .cons (.bl b) (dp_bools r)
theorem rep4 (p q r s : Bool) : PyData.showable (.list (bD [p, q, r, s])) = true ∧ PyData.hasDict (.list (bD [p, q, r, s])) = false ∧ (PyData.list (bD [p, q, r, s])).depth ≤ 1 ∧ (PyData.shown (.list (bD [p, q, r, s]))).length ≤ sizeLine := by
  have sb : ∀ b : Bool, (PyData.shown (.bool b)).length ≤ 5 := fun b => by
    cases b <;> simp [PyData.shown] <;> decide +kernel
  refine ⟨?_, ?_, ?_, ?_⟩
  · simp [bD, PyData.showable, PyData.showableAll]
  · simp [bD, PyData.hasDict, PyData.hasDictAll]
  · simp [bD, PyData.depth, PyData.depthAll]
  · have e : PyData.shown (.list (bD [p, q, r, s])) = listText [PyData.shown (.bool p), PyData.shown (.bool q), PyData.shown (.bool r), PyData.shown (.bool s)] := by simp [bD, PyData.shown, PyData.shownAll]
    rw [e]
    have l1 := sb p
    have l2 := sb q
    have l3 := sb r
    have l4 := sb s
    refine small (Nat.le_trans (listText_len_le _) ?_)
    simp only [List.map, List.sum_cons, List.sum_nil, List.length_cons, List.length_nil]
    omega
section
variable {K : PySem.W.Frag} {σ : L2.St} {ta tb te : TE} {H0 : Hp} {A : Around} {p q : Hs} {b : Addr} {xp : V}
theorem ev_rep4 (un : A.units + 64 < cLine) {p q r s : Bool} (ha : EvV (Same H0) σ ta (isL isBv [p, q, r, s])) : EvV (Same H0) σ (tCB (rReprD K A) (tCons ta tNil)) (isSv (PyData.shown (.list (bD [p, q, r, s])))) :=
  ev_cb (eva_cons ha eva_nil) fun vs H Q w rr k => by
    obtain ⟨v, rr, rfl, ⟨D, us, rfl, hD, l⟩, rfl⟩ := rr
    have z := ls_bools l
    subst z
    obtain ⟨d1, d2, d3, d4⟩ := rep4 p q r s
    exact ⟨D, _, rfl, .lst (SqL.of hD) (dp_bools [p, q, r, s]), d1, d2, by omega, d4, k _ H (Same.refl H) rfl⟩
theorem ev_both (okp : p.ok) (okq : q.ok) (ha : EvV (Same H0) σ ta (HtA p)) (hb : EvV (Same H0) σ tb (HtA q)) : EvV (Same H0) σ (tCall spBothL [] E0 (tCons ta (tCons tb tNil))) (HtA (andH p q)) :=
  ev_call (eva_cons ha (eva_cons hb eva_nil)) fun vs H Q _ r k => by
    obtain ⟨v1, r, rfl, e1, v2, r, rfl, e2, rfl⟩ := r
    exact ⟨v1, v2, p, q, rfl, e1, e2, okp, okq, fun z H' s hz => k z H' s hz⟩
theorem ev_within (okp : p.ok) (okq : q.ok) (ha : EvV (Same H0) σ ta (HtA p)) (hb : EvV (Same H0) σ tb (HtA q)) : EvV (Same H0) σ (tCall spWithinL [] E0 (tCons ta (tCons tb tNil))) (isBv (noMore p q)) :=
  ev_call (eva_cons ha (eva_cons hb eva_nil)) fun vs H Q _ r k => by
    obtain ⟨v1, r, rfl, e1, v2, r, rfl, e2, rfl⟩ := r
    exact ⟨v1, v2, p, q, rfl, e1, e2, okp, okq, fun H' s => k _ H' s rfl⟩
/-- a house drawn, near or not -/
def HtQ : V → Hp → Prop := fun v H => ∃ q : Hs, HtA q v H ∧ q.ok ∧ q.rs.length ≤ 50
theorem evpb_gt {P : Int → Prop} {k : Int} (h : EvP b H0 σ te (isWh P)) : EvPB b H0 σ (tTest (tOp (rI0 fun i j => .bl (decide (j < i))) te (tC (.int k)))) := fun H Q p kk => h H _ p fun v H1 p1 ⟨a, ev, _⟩ => by
  cases ev
  exact ⟨_, _, rfl, rfl, _, rfl, kk _ _ p1⟩
theorem evp_near (i2 : σ[2]? = some (some (.ref b))) (i4 : σ[4]? = some (some xp)) (p0 : Pre b H0 H0) (hp : HtA p xp H0) (ok : p.ok) (n : p.rs.length ≤ 20) : EvP b H0 σ (tCall spNear [] E0 (tCons (tVar 2) (tCons (tVar 4) tNil))) HtQ := fun H Q pr k => by
  obtain ⟨_, u, w, bk, hb⟩ := id pr
  exact ⟨_, i2, _, i4, b, xp, p, u, w, rfl, hb, bk, upP p0 pr hp, ok, n, fun z g H' pz hz gok gl => k z H' pz ⟨g, hz, gok, gl⟩⟩
theorem evp_house7 (i2 : σ[2]? = some (some (.ref b))) : EvP b H0 σ (tCall spHouse [] E0 (tCons (tVar 2) (tCons (tC (.int 7)) tNil))) HtQ := fun H Q pr k => by
  obtain ⟨_, u, w, bk, hb⟩ := id pr
  exact ⟨_, i2, b, u, w, 7, rfl, hb, bk, by decide, by decide, fun x h H' p' hx ok l => k x H' p' ⟨h, hx, ok, by omega⟩⟩
end
theorem and_less {p q : Hs} (hp : p.ok) (hq : q.ok) : More (andH p q) p ∧ More (andH p q) q := by
  have n : ("left" : Str) ≠ "all" := by decide +kernel
  refine ⟨⟨?_, fun e => ?_, fun k s d x e => ((shared_at hp).mp e).1⟩, ⟨?_, fun e => ?_, fun k s d x e => ((shared_at hp).mp e).2⟩⟩
  · show (if p.d ≤ q.d then p.d else q.d) ≤ p.d
    split <;> omega
  · show (if decide (("all" : Str) ∈ [p.ch, q.ch]) = true then ("all" : Str) else "left") = "all"
    rw [if_pos (by rw [e]; exact decide_eq_true List.mem_cons_self)]
  · show (if p.d ≤ q.d then p.d else q.d) ≤ q.d
    split <;> omega
  · show (if decide (("all" : Str) ∈ [p.ch, q.ch]) = true then ("all" : Str) else "left") = "all"
    rw [if_pos (by rw [e]; exact decide_eq_true (List.mem_cons_of_mem _ List.mem_cons_self))]
theorem and_twice {p q : Hs} (hp : p.ok) : andH (andH p q) (andH p q) = andH p q := by
  have n : ("left" : Str) ≠ "all" := by decide +kernel
  have n2 : ("all" : Str) ≠ "left" := by decide +kernel
  have e1 : ∀ x y z, shP (andH p q) (andH p q) x y z = shP p q x y z := fun x y z => by
    unfold shP
    rw [decide_eq_true rfl, Bool.and_true]
    show (placeIn (svS x) (svS y) (svS z) (sharedR p q)).isSome = _
    cases e : placeIn (svS x) (svS y) (svS z) (sharedR p q) with
    | some v =>
      obtain ⟨a1, a2⟩ := (shared_at hp).mp e
      rw [a1, a2, decide_eq_true rfl]
      rfl
    | none =>
      cases e2 : placeIn (svS x) (svS y) (svS z) p.rs with
      | none => rfl
      | some v =>
        by_cases e3 : some v = placeIn (svS x) (svS y) (svS z) q.rs
        · have := (shared_at hp).mpr ⟨e2, e3.symm⟩
          rw [e] at this
          cases this
        · rw [decide_eq_false e3]
          rfl
  have e2 : ∀ x y z, shP p q x y z = true → shF (andH p q) x y z = shF p x y z := fun x y z e => by
    unfold shP at e
    obtain ⟨a1, a2⟩ := Bool.and_eq_true_iff.mp e
    have a2 := of_decide_eq_true a2
    obtain ⟨v, hv⟩ := Option.isSome_iff_exists.mp a1
    unfold shF
    have := (shared_at hp).mpr ⟨hv, a2 ▸ hv⟩
    show Rw.lt _ _ _ ((placeIn (svS x) (svS y) (svS z) (sharedR p q)).getD "") = _
    rw [this, hv]
  have e3 : sharedR (andH p q) (andH p q) = sharedR p q := by
    unfold sharedR tri
    refine flat_eq fun x _ => flat_eq fun y _ => flat_eq fun z _ => ?_
    rw [e1]
    by_cases c : shP p q x y z = true
    · rw [if_pos c, if_pos c, e2 x y z c]
    · rw [if_neg c, if_neg c]
  show Hs.mk _ _ _ = Hs.mk _ _ _
  rw [e3]
  have d : (if (andH p q).d ≤ (andH p q).d then (andH p q).d else (andH p q).d) = (andH p q).d := ite_self _
  rw [d]
  have ch : (if decide (("all" : Str) ∈ [(andH p q).ch, (andH p q).ch]) = true then ("all" : Str) else "left") = (andH p q).ch := by
    by_cases c : decide (("all" : Str) ∈ [p.ch, q.ch]) = true
    · have z : (andH p q).ch = "all" := if_pos c
      rw [z, if_pos (decide_eq_true List.mem_cons_self)]
    · have z : (andH p q).ch = "left" := if_neg c
      rw [z, if_neg (by simp [n2])]
  rw [ch]
  rfl
section
variable {P : Program} {w : World} {K : PySem.W.Frag} {mg : Str → Option Value} {base : Heap}
theorem ok_law {f C : Addr} {c : Rc} {fd : FuncData} (F : Fun K "law" "law" sLaw f fd) (T : BltK15 mg) (AB : HsAB P w K mg base c C) (EQ : HsEI P w K mg base c C) (ST : HsStr P w K mg base c C)
    (cS : Cal P w K mg base CX0 "_law_seed" 1 ["_law_script", "_law_k"] (spSeed K)) (cC : CalCho P w K mg base) (cH : Cal P w K mg base CX0 "_law_house" 4 ["_law_box", "_law_many"] spHouse) (cT : Cal P w K mg base CX0 "_law_house_text" 1 ["_law_house_here"] spHouseText)
    (cN : Cal P w K mg base CX0 "_law_near" 4 ["_law_box", "_law_house_here"] spNear) (cO : Cal P w K mg base CX0 "_law_house_of" 6 ["_law_house_here"] (spHouseOf K c C)) (cB : Cal P w K mg base CX0 "_law_both" 4 ["_law_p", "_law_q"] spBothL) (cW : Cal P w K mg base CX0 "_law_is_within" 4 ["_law_p", "_law_q"] spWithinL) :
    FnG P w K mg base CX0 10 f fd ["_law_script"] (spLaw K) := by
  obtain ⟨fS, fdS, GS, mS, kS, bS⟩ := cS
  obtain ⟨fC, fdC, GC, mC, kC, bC⟩ := cC
  obtain ⟨fH, fdH, GH, mH, kH, bH⟩ := cH
  obtain ⟨fT, fdT, GT, mT, kT, bT⟩ := cT
  obtain ⟨fN, fdN, GN, mN, kN, bN⟩ := cN
  obtain ⟨fO, fdO, GO, mO, kO, bO⟩ := cO
  obtain ⟨fB, fdB, GB, mB, kB, bB⟩ := cB
  obtain ⟨fW, fdW, GW, mW, kW, bW⟩ := cW
  refine fnG F scLaw (fun vs H Q E h => ?_) (fun cdv A outer s H vs Q E g hr h => ?_)
  · obtain ⟨a, ns, rfl, _⟩ := h
    rfl
  · obtain ⟨a, ns, rfl, hS, hl, k⟩ := h
    have hr1 : Room 1 _ := hr.mono (by decide)
    have hr4 : Room 4 _ := hr.mono (by decide)
    have hr6 : Room 6 _ := hr.mono (by decide)
    have hr8 : Room 8 _ := hr.mono (by decide)
    have un := Nat.lt_of_le_of_lt (Nat.add_le_add (Nat.le_add_right _ _) (by decide : 64 ≤ 200)) hr.un
    refine ⟨_, PSs.nox (pss_cons (ps_for PassesOwn.never rfl (pi_range1 (by rfl) T.range (pa_cons (pe_callB (call_max2 rfl) (by rfl) T.max (by decide +kernel) (pa_cons pe_int (pa_cons (pe_callB (call_min2 rfl) (by rfl) T.min (by decide +kernel) (pa_cons pe_int (pa_cons (pe_callB call_len_seq (by rfl) T.len PySem.boot_len (pa_cons (pv 0) pa_nil)) pa_nil))) pa_nil))) pa_nil)) (pg_name (i := 1) scLaw.nd rfl (Or.inl rfl))
  (pss_cons (ps_set (i := 2) scLaw.nd rfl (Or.inl rfl) (pe_call GS hr1 rfl mS kS bS .nil pass0 (pa_cons (pv 0) (pa_cons (pv 1) pa_nil))))
  (pss_one (ps_for PassesOwn.never rfl (pi_range1 (by rfl) T.range (pa_cons pe_int pa_nil)) (pg_name (i := 3) scLaw.nd rfl (Or.inl rfl))
  (pss_cons (ps_set (i := 4) scLaw.nd rfl (Or.inl rfl) (pe_call GH hr4 rfl mH kH bH .nil pass0 (pa_cons (pv 2) (pa_cons pe_int pa_nil))))
  (pss_cons (ps_set (i := 5) scLaw.nd rfl (Or.inl rfl) (pe_ifExp (pt_cmpR op_gt (pe_call GC hr1 rfl mC kC bC .nil pass0 (pa_cons (pv 2) (pa_cons pe_int pa_nil))) pe_int (nomark _)) (pe_call GN hr4 rfl mN kN bN .nil pass0 (pa_cons (pv 2) (pa_cons (pv 4) pa_nil))) (pe_call GH hr4 rfl mH kH bH .nil pass0 (pa_cons (pv 2) (pa_cons pe_int pa_nil)))))
  (pss_cons (ps_par (i := 6) (j := 7) rfl scLaw.nd rfl rfl (by decide) rfl rfl (pa_cons (pe_call GO hr6 rfl mO kO bO .nil pass0 (pa_cons (pv 4) pa_nil)) (pa_cons (pe_call GO hr6 rfl mO kO bO .nil pass0 (pa_cons (pv 5) pa_nil)) pa_nil)) (by rfl))
  (pss_cons (ps_if (pt_cmpR op_ne (pe_callTy (call_strK ST hr6) (by rfl) T.str (by decide +kernel) (pa_cons (pe_op (op_anH AB hr6) (pv 6) (pv 7)) pa_nil)) (pe_call GT hr1 rfl mT kT bT .nil pass0 (pa_cons (pe_call GB hr4 rfl mB kB bB .nil pass0 (pa_cons (pv 4) (pa_cons (pv 5) pa_nil))) pa_nil)) (nomark _)) (pss_one (ps_ret pe_bl)) pss_nil)
  (pss_cons (ps_par (i := 8) (j := 9) rfl scLaw.nd rfl rfl (by decide) rfl rfl (pa_cons (pe_lst (pa_cons (pe_cmpR (op_leH AB hr4) (pv 6) (pv 7) (nomark _)) (pa_cons (pe_cmpR (op_leH AB hr4) (pv 7) (pv 6) (nomark _)) (pa_cons (pe_cmpR (op_geH AB hr4) (pv 6) (pv 7) (nomark _)) pa_nil)))) (pa_cons (pe_lst (pa_cons (pe_call GW hr4 rfl mW kW bW .nil pass0 (pa_cons (pv 4) (pa_cons (pv 5) pa_nil))) (pa_cons (pe_call GW hr4 rfl mW kW bW .nil pass0 (pa_cons (pv 5) (pa_cons (pv 4) pa_nil))) pa_nil))) pa_nil)) (by rfl))
  (pss_cons (ps_if (pt_cmpR op_ne (pe_callB (call_reprD g) (by rfl) T.repr (by decide +kernel) (pa_cons (pe_op op_cat (pv 8) (pe_lst (pa_cons (pe_cmpR (op_geH AB hr4) (pv 6) (pv 6) (nomark _)) pa_nil))) pa_nil)) (pe_callB (call_reprD g) (by rfl) T.repr (by decide +kernel) (pa_cons (pe_op op_cat (pe_op op_cat (pv 9) (pe_slice sl_list (pv 9) (po_some pe_int) po_none)) (pe_lst (pa_cons pe_bl pa_nil))) pa_nil)) (nomark _)) (pss_one (ps_ret pe_bl)) pss_nil)
  (pss_cons (ps_set (i := 10) scLaw.nd rfl (Or.inl rfl) (pv 6))
  (pss_cons (ps_aug (i := 10) scLaw.nd rfl (Or.inl rfl) (pv 7) (ip_anI AB hr6))
  (pss_cons (ps_if (PW.pt (pw_or (pt_cmpR (op_neI EQ hr8) (pv 10) (pe_op (op_anH AB hr6) (pv 6) (pv 7)) (nomark _)) (pw_or (pt_cmpR op_ne (pe_callTy (call_strK ST hr6) (by rfl) T.str (by decide +kernel) (pa_cons (pv 6) pa_nil)) (pe_call GT hr1 rfl mT kT bT .nil pass0 (pa_cons (pv 4) pa_nil)) (nomark _)) (pw_or1 (pt_cmpR op_ne (pe_callTy (call_strK ST hr6) (by rfl) T.str (by decide +kernel) (pa_cons (pv 7) pa_nil)) (pe_call GT hr1 rfl mT kT bT .nil pass0 (pa_cons (pv 5) pa_nil)) (nomark _)))))) (pss_one (ps_ret pe_bl)) pss_nil)
  (pss_one (ps_if (PW.pt (pw_or (pt_not (pt_cmpR (op_leH AB hr4) (pv 10) (pv 6) (nomark _))) (pw_or (pt_not (pt_cmpR (op_geH AB hr4) (pv 7) (pv 10) (nomark _))) (pw_or1 (pt_cmpR (op_neI EQ hr8) (pe_op (op_anH AB hr6) (pv 10) (pv 10)) (pv 10) (nomark _)))))) (pss_one (ps_ret pe_bl)) pss_nil)))))))))))))))
  (pss_one (ps_ret pe_bl))), ?_⟩
    refine ⟨_, rfl, a, _, rfl, .inl hS, _, _, rfl, _, _, rfl, ?_⟩
    rw [List.length_map]
    have hn : (if (if (ns.length : Int) < 5 then (ns.length : Int) else 5) > 2 then (if (ns.length : Int) < 5 then (ns.length : Int) else 5) else 2) ≤ 5 ∧ 1 ≤ (if (if (ns.length : Int) < 5 then (ns.length : Int) else 5) > 2 then (if (ns.length : Int) < 5 then (ns.length : Int) else 5) else 2) := by
      constructor <;> (split <;> (try split) <;> omega)
    generalize (if (if (ns.length : Int) < 5 then (ns.length : Int) else 5) > 2 then (if (ns.length : Int) < 5 then (ns.length : Int) else 5) else 2) = n at hn
    refine ⟨n, rfl, by omega, by omega, for_range (lo := 0) (n := n.toNat) (fun i σ H' => (∃ o1 o2 o3 o4 o5 o6 o7 o8 o9 o10 : Option V, σ = [some (.ref a), o1, o2, o3, o4, o5, o6, o7, o8, o9, o10]) ∧ Same H H') ⟨⟨_, _, _, _, _, _, _, _, _, _, rfl⟩, Same.refl H⟩ ?_ ?_⟩
    · rintro i σ H0 hi ⟨⟨o1, o2, o3, o4, o5, o6, o7, o8, o9, o10, rfl⟩, s0⟩
      refine ⟨_, rfl, _, rfl, a, ns, _, rfl, s0.seq hS, hl, by omega, by omega, fun b u v nb ok => ?_⟩
      have s1 : Same H (upd H0 b (box u v)) := fun c o e => by
        rw [upd_ne (ne_of_none (s0 c o e) nb)]
        exact s0 c o e
      have hb0 : H b = none := s0.free nb
      have hb1 : upd H0 b (box u v) b = some (box u v) := upd_same
      generalize upd H0 b (box u v) = H1 at s1 hb1
      have p0 : Pre b H1 H1 := Pre.start ok hb1
      try dsimp only [gName, tSeq, tAsg, tNext]
      refine ⟨4, rfl, by decide, by decide, for_range (lo := 0) (n := 4) (fun j σ H' => (∃ o3 o4 o5 o6 o7 o8 o9 o10 : Option V, σ = [some (.ref a), some (.int (0 + (i : Nat))), some (.ref b), o3, o4, o5, o6, o7, o8, o9, o10]) ∧ Pre b H1 H') ⟨⟨_, _, _, _, _, _, _, _, rfl⟩, p0⟩ ?_ ?_⟩
      · rintro j σ HA hj ⟨⟨o3, o4, o5, o6, o7, o8, o9, o10, rfl⟩, pA⟩
        obtain ⟨_, uA, wA, okA, hbA⟩ := id pA
        try dsimp only [gName, tSeq, tAsg, tNext]
        refine ⟨_, rfl, b, uA, wA, 7, rfl, hbA, okA, by decide, by decide, fun xp p HB pB htp hokp lp => ?_⟩
        have htp : HtA p xp HB := htp
        have PB := pA.trans pB
        try dsimp only [gName, tSeq, tAsg, tNext]
        refine evp_if (H0 := HB) (b := b) (R := HtQ) (evpb_gt (evp_chooseW (i := 2) (m := 3) rfl (by decide) (evp_w (m := 3) (evp_pure fun _ _ => ev_int) ⟨by decide, by decide⟩))) (evp_near rfl rfl PB.id htp hokp (by omega)) (evp_house7 rfl) HB _ PB.id fun xq HC pC hqC => ?_
        obtain ⟨q, htq, hokq, lq⟩ := hqC
        have PC := PB.trans pC
        have htpC := upP PB.id pC htp
        try dsimp only [gName, tSeq, tAsg, tNext]
        refine ev_houseOf (H0 := HC) (K := K) (c := c) (C := C) hokp (ev_v rfl htpC) HC _ (Same.refl _) fun xo HD sD _ hoD => ?_
        refine ev_houseOf (H0 := HD) (K := K) (c := c) (C := C) hokq (ev_v rfl (up sD htq)) HD _ (Same.refl _) fun xr HE sE _ hrE => ?_
        have SE := sD.trans sE
        have PE := PC.then SE
        have htpE := up SE htpC
        have htqE := up SE htq
        have hoE := up sE hoD
        refine ⟨_, _, rfl, ?_⟩
        have okH := andH_ok hokp hokq
        try dsimp only [gName, tSeq, tAsg, tNext]
        refine if_f (H0 := HE) (Same.refl _) (ev_bool (ev_test (ev_neS (i := (andH p q).text) (j := (andH p q).text) (ev_strK okH (ev_anH hokp hokq (ev_v (i := 6) rfl hoE) (ev_v (i := 7) rfl hrE))) (ev_houseText okH (ev_both hokp hokq (ev_v (i := 4) rfl htpE) (ev_v (i := 5) rfl htqE))))) (by rw [decide_eq_true rfl]; rfl)) fun HF sF => ?_
        have PF := PE.then sF
        have htpF := up sF htpE
        have htqF := up sF htqE
        have hoF := up sF hoE
        have hrF := up sF hrE
        clear htpE htqE hoE hrE htpC hoD PC PB
        try dsimp only [gName, tSeq, tAsg, tNext]
        unfold tPar
        unfold tCons
        refine ev_lst (H0 := HF) (σ := [some (.ref a), some (.int (0 + (i : Nat))), some (.ref b), some (.int (0 + (j : Nat))), some xp, some xq, some xo, some xr, o8, o9, o10]) (S := isBv) (as := [noMore p q, noMore q p, noMore q p]) (evl_cons (ev_leH AB.nf hokp hokq (ev_v (i := 6) rfl hoF) (ev_v (i := 7) rfl hrF)) (evl_cons (ev_leH AB.nf hokq hokp (ev_v (i := 7) rfl hrF) (ev_v (i := 6) rfl hoF)) (evl_cons (ev_geH AB.nf hokp hokq (ev_v (i := 6) rfl hoF) (ev_v (i := 7) rfl hrF)) evl_nil))) (by show 3 ≤ 1000; decide) HF _ (Same.refl _) fun xf HG sG _ hfG => ?_
        refine ev_lst (H0 := HG) (σ := [some (.ref a), some (.int (0 + (i : Nat))), some (.ref b), some (.int (0 + (j : Nat))), some xp, some xq, some xo, some xr, o8, o9, o10]) (S := isBv) (as := [noMore p q, noMore q p]) (evl_cons (ev_within hokp hokq (ev_v (i := 4) rfl (up sG htpF)) (ev_v (i := 5) rfl (up sG htqF))) (evl_cons (ev_within hokq hokp (ev_v (i := 5) rfl (up sG htqF)) (ev_v (i := 4) rfl (up sG htpF))) evl_nil)) (by show 2 ≤ 1000; decide) HG _ (Same.refl _) fun xd HH sH _ hdH => ?_
        have SH := sG.trans sH
        have PH := PF.then SH
        have htpH := up SH htpF
        have htqH := up SH htqF
        have hoH := up SH hoF
        have hrH := up SH hrF
        have hfH := up sH hfG
        clear htpF htqF hoF hrF hfG PF
        refine ⟨_, _, rfl, ?_⟩
        have pp : noMore p p = true := more_noMore (More.refl p) hokp
        try dsimp only [gName, tSeq, tAsg, tNext]
        have c1 : cutA [noMore p q, noMore q p] (some 1) none = [noMore q p] := by exact cutA_from [noMore p q, noMore q p] 1
        have ebt : ∀ (σ : L2.St), EvV (Same HH) σ (tC (.bl true)) (isBv true) := fun σ H Q w k => k _ H (Same.refl H) w rfl
        have lc1 : EvV (Same HH) [some (.ref a), some (.int (0 + (i : Nat))), some (.ref b), some (.int (0 + (j : Nat))), some xp, some xq, some xo, some xr, some xf, some xd, o10] (tSl (rSlL K) (tVar 9) (tPart (tC (.int 1))) tNoPart) (isL isBv [noMore q p]) := by
          have z := (evn_cut (K := K) (H0 := HH) (σ := [some (.ref a), some (.int (0 + (i : Nat))), some (.ref b), some (.int (0 + (j : Nat))), some xp, some xq, some xo, some xr, some xf, some xd, o10]) (S := isBv) (as := [noMore p q, noMore q p]) (ev_v (i := 9) rfl hdH) (evo_some (i := 1) ev_int) evo_none).ev
          rw [c1] at z
          exact z
        have lge : EvV (Same HH) [some (.ref a), some (.int (0 + (i : Nat))), some (.ref b), some (.int (0 + (j : Nat))), some xp, some xq, some xo, some xr, some xf, some xd, o10] (tOp (rEqO K 4 (FFge K c C) false) (tVar 6) (tVar 6)) (isBv true) := by
          have z := ev_geH (K := K) (H0 := HH) (σ := [some (.ref a), some (.int (0 + (i : Nat))), some (.ref b), some (.int (0 + (j : Nat))), some xp, some xq, some xo, some xr, some xf, some xd, o10]) AB.nf hokp hokp (ev_v (i := 6) rfl hoH) (ev_v (i := 6) rfl hoH)
          rw [pp] at z
          exact z
        have lf : EvV (Same HH) [some (.ref a), some (.int (0 + (i : Nat))), some (.ref b), some (.int (0 + (j : Nat))), some xp, some xq, some xo, some xr, some xf, some xd, o10] (tOp rCat (tVar 8) (tLst (tCons (tOp (rEqO K 4 (FFge K c C) false) (tVar 6) (tVar 6)) tNil))) (isL isBv [noMore p q, noMore q p, noMore q p, true]) :=
          (evn_cat (S := isBv) (as := [noMore p q, noMore q p, noMore q p]) (bs := [true]) (ev_v (i := 8) rfl hfH) (ev_lst (S := isBv) (as := [true]) (evl_cons lge evl_nil) (by show 1 ≤ 1000; decide)) (by show 4 ≤ 1000; decide)).ev
        have ld : EvV (Same HH) [some (.ref a), some (.int (0 + (i : Nat))), some (.ref b), some (.int (0 + (j : Nat))), some xp, some xq, some xo, some xr, some xf, some xd, o10] (tOp rCat (tOp rCat (tVar 9) (tSl (rSlL K) (tVar 9) (tPart (tC (.int 1))) tNoPart)) (tLst (tCons (tC (.bl true)) tNil))) (isL isBv [noMore p q, noMore q p, noMore q p, true]) :=
          (evn_cat (S := isBv) (as := [noMore p q, noMore q p, noMore q p]) (bs := [true]) (evn_cat (S := isBv) (as := [noMore p q, noMore q p]) (bs := [noMore q p]) (ev_v (i := 9) rfl hdH) lc1 (by show 3 ≤ 1000; decide)).ev (ev_lst (S := isBv) (as := [true]) (evl_cons (ebt _) evl_nil) (by show 1 ≤ 1000; decide)) (by show 4 ≤ 1000; decide)).ev
        refine if_f (H0 := HH) (Same.refl _) (ev_bool (ev_test (ev_neS (i := PyData.shown (.list (bD [noMore p q, noMore q p, noMore q p, true]))) (j := PyData.shown (.list (bD [noMore p q, noMore q p, noMore q p, true]))) (ev_rep4 un lf) (ev_rep4 un ld))) (by rw [decide_eq_true rfl]; rfl)) fun HI sI => ?_
        have PI := PH.then sI
        have htpI := up sI htpH
        have htqI := up sI htqH
        have hoI := up sI hoH
        have hrI := up sI hrH
        clear htpH htqH hoH hrH hfH hdH PH
        try dsimp only [gName, tSeq, tAsg, tNext]
        refine ⟨_, rfl, ?_⟩
        try dsimp only [gName, tSeq, tAsg, tNext]
        refine ⟨_, rfl, _, rfl, ?_⟩
        refine ip_go EQ.si hokp hokq hoI hrI fun xh HJ sJ hhJ => ?_
        have PJ := PI.then sJ
        have htpJ := up sJ htpI
        have htqJ := up sJ htqI
        have hoJ := up sJ hoI
        have hrJ := up sJ hrI
        try dsimp only [gName, tSeq, tAsg, tNext]
        have neT : ∀ t : Str, (decide (t = t) != true) = false := fun t => by rw [decide_eq_true rfl]; rfl
        refine if_f (H0 := HJ) (Same.refl _) (ev_orB (p := false) (q := false) (ev_bool (ev_test (ev_eqK (neg := true) AB.nf okH okH (ev_v (i := 10) rfl hhJ) (ev_anH hokp hokq (ev_v (i := 6) rfl hoJ) (ev_v (i := 7) rfl hrJ)))) (neT _)) fun _ => ev_orB (p := false) (q := false) (ev_bool (ev_test (ev_neS (i := p.text) (j := p.text) (ev_strK hokp (ev_v (i := 6) rfl hoJ)) (ev_houseText hokp (ev_v (i := 4) rfl htpJ)))) (by rw [decide_eq_true rfl]; rfl)) fun _ => ev_bool (ev_test (ev_neS (i := q.text) (j := q.text) (ev_strK hokq (ev_v (i := 7) rfl hrJ)) (ev_houseText hokq (ev_v (i := 5) rfl htqJ)))) (by rw [decide_eq_true rfl]; rfl)) fun HK sK => ?_
        have PK := PJ.then sK
        have hoK := up sK hoJ
        have hrK := up sK hrJ
        have hhK := up sK hhJ
        have less := and_less hokp hokq
        try dsimp only [gName, tSeq, tAsg, tNext]
        refine if_f (H0 := HK) (Same.refl _) (ev_orB (p := false) (q := false) (ev_bool (ev_notB (ev_test (ev_leH AB.nf okH hokp (ev_v (i := 10) rfl hhK) (ev_v (i := 6) rfl hoK)))) (by rw [more_noMore less.1 okH]; rfl)) fun _ => ev_orB (p := false) (q := false) (ev_bool (ev_notB (ev_test (ev_geH AB.nf hokq okH (ev_v (i := 7) rfl hrK) (ev_v (i := 10) rfl hhK)))) (by rw [more_noMore less.2 okH]; rfl)) fun _ => ev_bool (ev_test (ev_eqK (neg := true) AB.nf (andH_ok okH okH) okH (ev_anH okH okH (ev_v (i := 10) rfl hhK) (ev_v (i := 10) rfl hhK)) (ev_v (i := 10) rfl hhK))) (by rw [and_twice hokp]; exact neT _)) fun HL sL => ?_
        exact ⟨⟨_, _, _, _, _, _, _, _, rfl⟩, PK.then sL⟩
      · rintro σ HA ⟨⟨o3, o4, o5, o6, o7, o8, o9, o10, rfl⟩, pA⟩
        exact ⟨⟨_, _, _, _, _, _, _, _, _, _, rfl⟩, fun c o e => pA.1 _ _ (ne_of_none e hb0) (s1 c o e)⟩
    · rintro σ H0 ⟨⟨o1, o2, o3, o4, o5, o6, o7, o8, o9, o10, rfl⟩, s0⟩
      exact k _
end
end V3

set_option Elab.async false
set_option linter.all false
set_option maxRecDepth 100000
namespace V3
open PySem L2 TL
-- no sMvText
section
variable {P : Program} {w : World} {K : PySem.W.Frag} {mg : Str → Option Value} {base : Heap}
/-- the law's own text of a move -/
theorem app0 (x : Str) : x ++ Str.empty = x := ext_tl (by
  rw [tl_append]
  simp [Str.empty, tl])
theorem empty_app (x : Str) : Str.empty ++ x = x := ext_tl (by
  rw [tl_append]
  simp [Str.empty, tl])
end
end V3

set_option Elab.async false
set_option maxHeartbeats 4000000
set_option linter.all false
set_option maxRecDepth 100000
namespace V3
open PySem L2
theorem kit_ref {K : PySem.W.Frag} {t C : Addr} {b : Bool} (h1 : PySem.W.isClsIn K C = true) (h2 : PySem.W.typeIn K (.ref C) = some (.type "type")) (h3 : PySem.W.subIn K (.ref t) (.ref C) = some b) (h4 : PySem.W.subIn K (.ref t) (.ref t) = some true) :
    PySem.W.kitOne K (.ref t) (.ref C) = some b := by
  unfold PySem.W.kitOne
  by_cases e : t = C
  · subst e
    rw [h4] at h3
    injection h3 with h3
    subst h3
    rw [if_pos (by simp)]
  · have n : (Value.ref t == Value.ref C) = false := by
      refine Bool.eq_false_iff.mpr fun q => e ?_
      exact Value.ref.inj (beq_iff_eq.mp q)
    rw [n, if_neg Bool.false_ne_true]
    have q : ((PySem.W.clsIn K C).isSome && PySem.W.typeIn K (.ref C) == some (.type "type")) = true := by
      have z : (PySem.W.clsIn K C).isSome = true := h1
      rw [z, h2] <;> rfl
    show (if ((PySem.W.clsIn K C).isSome && PySem.W.typeIn K (.ref C) == some (.type "type")) = true then PySem.W.subIn K (.ref t) (.ref C) else none) = some b
    rw [if_pos q]
    exact h3
theorem kit_base {K : PySem.W.Frag} {t : String} {C : Addr} {b : Bool} (h1 : PySem.W.isClsIn K C = true) (h2 : PySem.W.typeIn K (.ref C) = some (.type "type")) (h3 : PySem.W.subIn K (.type t) (.ref C) = some b) :
    PySem.W.kitOne K (.type t) (.ref C) = some b := by
  unfold PySem.W.kitOne
  have n : (Value.type t == Value.ref C) = false := by
    refine Bool.eq_false_iff.mpr fun q => ?_
    cases beq_iff_eq.mp q
  rw [n, if_neg Bool.false_ne_true]
  have q : ((PySem.W.clsIn K C).isSome && PySem.W.typeIn K (.ref C) == some (.type "type")) = true := by
    have z : (PySem.W.clsIn K C).isSome = true := h1
    rw [z, h2] <;> rfl
  show (if ((PySem.W.clsIn K C).isSome && PySem.W.typeIn K (.ref C) == some (.type "type")) = true then PySem.W.subIn K (.type t) (.ref C) else none) = some b
  rw [if_pos q]
  exact h3
theorem kit_rt {K : PySem.W.Frag} {T : String} {C : Addr} {b : Bool} (hm : PySem.W.kitMeta T = true) (h3 : PySem.W.subIn K (.ref C) (.type T) = some b) : PySem.W.kitOne K (.ref C) (.type T) = some b := by
  unfold PySem.W.kitOne
  rw [if_neg (by intro z; cases (beq_iff_eq.mp z))]
  show (if PySem.W.kitMeta T = true then PySem.W.subIn K (.ref C) (.type T) else none) = some b
  rw [if_pos hm]
  exact h3
theorem nf_same {K : PySem.W.Frag} {C : Addr} : PySem.W.notFirst K C (.ref C) = true := by simp [PySem.W.notFirst]
theorem nf_other {K : PySem.W.Frag} {C D : Addr} (h : PySem.W.subIn K (.ref D) (.ref C) = some false) : PySem.W.notFirst K C (.ref D) = true := by
  unfold PySem.W.notFirst
  rw [h]
  simp
theorem nf_type {K : PySem.W.Frag} {C : Addr} {t : String} (h : PySem.W.subIn K (.type t) (.ref C) = some false) : PySem.W.notFirst K C (.type t) = true := by
  unfold PySem.W.notFirst
  rw [h]
  simp
theorem silent2 {K : PySem.W.Frag} {D : Addr} {oc : Value} {od : Option Addr} {cd : ClassData} {sl : Array (Option Value)} {a b : Value} {n : Str} (lk : K.lookup D = some ⟨oc, od, .cls cd, sl⟩) (mr : cd.mro = [a, b]) (h1 : PySem.W.findIn K a n = some none) (h2 : PySem.W.findIn K b n = some none) : Silent K D [n] :=
  ⟨oc, od, cd, sl, lk, by
    rw [mr]
    intro c hc m hm
    simp only [List.mem_cons, List.not_mem_nil, or_false] at hc hm
    subst hm
    rcases hc with rfl | rfl
    · exact h1
    · exact h2⟩
theorem silent3 {K : PySem.W.Frag} {D : Addr} {oc : Value} {od : Option Addr} {cd : ClassData} {sl : Array (Option Value)} {a b d : Value} {n n' : Str} (lk : K.lookup D = some ⟨oc, od, .cls cd, sl⟩) (mr : cd.mro = [a, b, d])
    (h1 : PySem.W.findIn K a n = some none) (h1' : PySem.W.findIn K a n' = some none) (h2 : PySem.W.findIn K b n = some none) (h2' : PySem.W.findIn K b n' = some none) (h3 : PySem.W.findIn K d n = some none) (h3' : PySem.W.findIn K d n' = some none) : Silent K D [n, n'] :=
  ⟨oc, od, cd, sl, lk, by
    rw [mr]
    intro c hc m hm
    simp only [List.mem_cons, List.not_mem_nil, or_false] at hc hm
    rcases hc with rfl | rfl | rfl <;> rcases hm with rfl | rfl
    · exact h1
    · exact h1'
    · exact h2
    · exact h2'
    · exact h3
    · exact h3'⟩
theorem all_mk {l : PySem.W.OpenLaw} {w : World} {K : PySem.W.Frag} {h : Heap} {mg : Str → Option Value} {fa f_int f_num f_ww f_isr f_seed f_choose f_one f_rows f_ho f_ht f_lo f_hf f_sh f_nm f_pc f_nr2 f_pp f_bo f_wi f_law LC HC f_li f_ls f_hi e_hi f_he f_hs f_pl f_an f_le f_ge KA SA DA PA KK DL : Addr} (X : K.In h) (G : h.Ns mainGlobals mg) (hfa : mg "law" = some (.ref fa))
    {od_f_int an_f_int : Option Addr} {sl_f_int : Array (Option Value)} {oc_f_int kV_f_int dc_f_int pm_f_int cd_f_int ct_f_int : Value}
    {od_f_num an_f_num : Option Addr} {sl_f_num : Array (Option Value)} {oc_f_num kV_f_num dc_f_num pm_f_num cd_f_num ct_f_num : Value}
    {od_f_ww an_f_ww : Option Addr} {sl_f_ww : Array (Option Value)} {oc_f_ww kV_f_ww dc_f_ww pm_f_ww cd_f_ww ct_f_ww : Value}
    {od_f_isr an_f_isr : Option Addr} {sl_f_isr : Array (Option Value)} {oc_f_isr kV_f_isr dc_f_isr pm_f_isr cd_f_isr ct_f_isr : Value}
    {od_f_seed an_f_seed : Option Addr} {sl_f_seed : Array (Option Value)} {oc_f_seed kV_f_seed dc_f_seed pm_f_seed cd_f_seed ct_f_seed : Value}
    {od_f_choose an_f_choose : Option Addr} {sl_f_choose : Array (Option Value)} {oc_f_choose kV_f_choose dc_f_choose pm_f_choose cd_f_choose ct_f_choose : Value}
    {od_f_one an_f_one : Option Addr} {sl_f_one : Array (Option Value)} {oc_f_one kV_f_one dc_f_one pm_f_one cd_f_one ct_f_one : Value}
    {od_f_rows an_f_rows : Option Addr} {sl_f_rows : Array (Option Value)} {oc_f_rows kV_f_rows dc_f_rows pm_f_rows cd_f_rows ct_f_rows : Value}
    {od_f_ho an_f_ho : Option Addr} {sl_f_ho : Array (Option Value)} {oc_f_ho kV_f_ho dc_f_ho pm_f_ho cd_f_ho ct_f_ho : Value}
    {od_f_ht an_f_ht : Option Addr} {sl_f_ht : Array (Option Value)} {oc_f_ht kV_f_ht dc_f_ht pm_f_ht cd_f_ht ct_f_ht : Value}
    {od_f_lo an_f_lo : Option Addr} {sl_f_lo : Array (Option Value)} {oc_f_lo kV_f_lo dc_f_lo pm_f_lo cd_f_lo ct_f_lo : Value}
    {od_f_hf an_f_hf : Option Addr} {sl_f_hf : Array (Option Value)} {oc_f_hf kV_f_hf dc_f_hf pm_f_hf cd_f_hf ct_f_hf : Value}
    {od_f_sh an_f_sh : Option Addr} {sl_f_sh : Array (Option Value)} {oc_f_sh kV_f_sh dc_f_sh pm_f_sh cd_f_sh ct_f_sh : Value}
    {od_f_nm an_f_nm : Option Addr} {sl_f_nm : Array (Option Value)} {oc_f_nm kV_f_nm dc_f_nm pm_f_nm cd_f_nm ct_f_nm : Value}
    {od_f_pc an_f_pc : Option Addr} {sl_f_pc : Array (Option Value)} {oc_f_pc kV_f_pc dc_f_pc pm_f_pc cd_f_pc ct_f_pc : Value}
    {od_f_nr2 an_f_nr2 : Option Addr} {sl_f_nr2 : Array (Option Value)} {oc_f_nr2 kV_f_nr2 dc_f_nr2 pm_f_nr2 cd_f_nr2 ct_f_nr2 : Value}
    {od_f_pp an_f_pp : Option Addr} {sl_f_pp : Array (Option Value)} {oc_f_pp kV_f_pp dc_f_pp pm_f_pp cd_f_pp ct_f_pp : Value}
    {od_f_bo an_f_bo : Option Addr} {sl_f_bo : Array (Option Value)} {oc_f_bo kV_f_bo dc_f_bo pm_f_bo cd_f_bo ct_f_bo : Value}
    {od_f_wi an_f_wi : Option Addr} {sl_f_wi : Array (Option Value)} {oc_f_wi kV_f_wi dc_f_wi pm_f_wi cd_f_wi ct_f_wi : Value}
    {od_f_law an_f_law : Option Addr} {sl_f_law : Array (Option Value)} {oc_f_law kV_f_law dc_f_law pm_f_law cd_f_law ct_f_law : Value}
    {od_f_li an_f_li : Option Addr} {sl_f_li : Array (Option Value)} {oc_f_li kV_f_li dc_f_li pm_f_li cd_f_li ct_f_li : Value}
    {od_f_ls an_f_ls : Option Addr} {sl_f_ls : Array (Option Value)} {oc_f_ls kV_f_ls dc_f_ls pm_f_ls cd_f_ls ct_f_ls : Value}
    {od_f_hi an_f_hi dd_f_hi : Option Addr} {sl_f_hi ds_f_hi : Array (Option Value)} {oc_f_hi kV_f_hi dc_f_hi pm_f_hi cd_f_hi ct_f_hi : Value} {T_f_hi : Addr} {n_f_hi : Nat}
    {dd_e : Option Addr} {n_e : Nat} {ds_e : Array (Option Value)}
    {od_f_he an_f_he : Option Addr} {sl_f_he : Array (Option Value)} {oc_f_he kV_f_he dc_f_he pm_f_he cd_f_he ct_f_he : Value}
    {od_f_hs an_f_hs : Option Addr} {sl_f_hs : Array (Option Value)} {oc_f_hs kV_f_hs dc_f_hs pm_f_hs cd_f_hs ct_f_hs : Value}
    {od_f_pl an_f_pl : Option Addr} {sl_f_pl : Array (Option Value)} {oc_f_pl kV_f_pl dc_f_pl pm_f_pl cd_f_pl ct_f_pl : Value}
    {od_f_an an_f_an : Option Addr} {sl_f_an : Array (Option Value)} {oc_f_an kV_f_an dc_f_an pm_f_an cd_f_an ct_f_an : Value}
    {od_f_le an_f_le : Option Addr} {sl_f_le : Array (Option Value)} {oc_f_le kV_f_le dc_f_le pm_f_le cd_f_le ct_f_le : Value}
    {od_f_ge an_f_ge : Option Addr} {sl_f_ge : Array (Option Value)} {oc_f_ge kV_f_ge dc_f_ge pm_f_ge cd_f_ge ct_f_ge : Value}
    {t0_KA t1_KA t2_KA t3_KA : Tok} {dd_KA : Option Addr} {n_KA : Nat} {ds_KA : Array (Option Value)}
    {t0_SA t1_SA : Tok} {dd_SA : Option Addr} {n_SA : Nat} {ds_SA : Array (Option Value)}
    {t0_DA t1_DA t2_DA : Tok} {dd_DA : Option Addr} {n_DA : Nat} {ds_DA : Array (Option Value)}
    {t0_PA t1_PA : Tok} {dd_PA : Option Addr} {n_PA : Nat} {ds_PA : Array (Option Value)}
    {t0_KK t1_KK : Tok} {dd_KK : Option Addr} {n_KK : Nat} {ds_KK : Array (Option Value)}
    {t0_DL t1_DL t2_DL t3_DL t4_DL : Tok} {dd_DL : Option Addr} {n_DL : Nat} {ds_DL : Array (Option Value)}
    {oc_HC : Value} {od_HC : Option Addr} {cd_HC : ClassData} {sl_HC : Array (Option Value)}
    (g_f_int : PySem.W.nsIn K mainGlobals "is_integer" = some (some (.ref f_int)))
    (l_f_int : K.lookup f_int = some ⟨oc_f_int, od_f_int, .func (PySem.W.fnOf "is_integer" "is_integer" (defArgs sIsInt) (defBody sIsInt) (defScope sIsInt) .none kV_f_int dc_f_int pm_f_int an_f_int cd_f_int ct_f_int), sl_f_int⟩)
    (c_f_int : PySem.W.codeIn K cd_f_int "is_integer" = true)
    (k_f_int : PySem.W.keepIn K (.ref f_int) = true)
    (g_f_num : PySem.W.nsIn K mainGlobals "is_number" = some (some (.ref f_num)))
    (l_f_num : K.lookup f_num = some ⟨oc_f_num, od_f_num, .func (PySem.W.fnOf "is_number" "is_number" (defArgs sIsNum) (defBody sIsNum) (defScope sIsNum) .none kV_f_num dc_f_num pm_f_num an_f_num cd_f_num ct_f_num), sl_f_num⟩)
    (c_f_num : PySem.W.codeIn K cd_f_num "is_number" = true)
    (k_f_num : PySem.W.keepIn K (.ref f_num) = true)
    (g_f_ww : PySem.W.nsIn K mainGlobals "wrong_word" = some (some (.ref f_ww)))
    (l_f_ww : K.lookup f_ww = some ⟨oc_f_ww, od_f_ww, .func (PySem.W.fnOf "wrong_word" "wrong_word" (defArgs sWrongWord) (defBody sWrongWord) (defScope sWrongWord) .none kV_f_ww dc_f_ww pm_f_ww an_f_ww cd_f_ww ct_f_ww), sl_f_ww⟩)
    (c_f_ww : PySem.W.codeIn K cd_f_ww "wrong_word" = true)
    (k_f_ww : PySem.W.keepIn K (.ref f_ww) = true)
    (g_f_isr : PySem.W.nsIn K mainGlobals "is_rows" = some (some (.ref f_isr)))
    (l_f_isr : K.lookup f_isr = some ⟨oc_f_isr, od_f_isr, .func (PySem.W.fnOf "is_rows" "is_rows" (defArgs sIsRows) (defBody sIsRows) (defScope sIsRows) .none kV_f_isr dc_f_isr pm_f_isr an_f_isr cd_f_isr ct_f_isr), sl_f_isr⟩)
    (c_f_isr : PySem.W.codeIn K cd_f_isr "is_rows" = true)
    (k_f_isr : PySem.W.keepIn K (.ref f_isr) = true)
    (g_f_seed : PySem.W.nsIn K mainGlobals "_law_seed" = some (some (.ref f_seed)))
    (l_f_seed : K.lookup f_seed = some ⟨oc_f_seed, od_f_seed, .func (PySem.W.fnOf "_law_seed" "_law_seed" (defArgs sSeed) (defBody sSeed) (defScope sSeed) .none kV_f_seed dc_f_seed pm_f_seed an_f_seed cd_f_seed ct_f_seed), sl_f_seed⟩)
    (c_f_seed : PySem.W.codeIn K cd_f_seed "_law_seed" = true)
    (k_f_seed : PySem.W.keepIn K (.ref f_seed) = true)
    (g_f_choose : PySem.W.nsIn K mainGlobals "_law_choose" = some (some (.ref f_choose)))
    (l_f_choose : K.lookup f_choose = some ⟨oc_f_choose, od_f_choose, .func (PySem.W.fnOf "_law_choose" "_law_choose" (defArgs sChoose) (defBody sChoose) (defScope sChoose) .none kV_f_choose dc_f_choose pm_f_choose an_f_choose cd_f_choose ct_f_choose), sl_f_choose⟩)
    (c_f_choose : PySem.W.codeIn K cd_f_choose "_law_choose" = true)
    (k_f_choose : PySem.W.keepIn K (.ref f_choose) = true)
    (g_f_one : PySem.W.nsIn K mainGlobals "_law_one_of" = some (some (.ref f_one)))
    (l_f_one : K.lookup f_one = some ⟨oc_f_one, od_f_one, .func (PySem.W.fnOf "_law_one_of" "_law_one_of" (defArgs sOneOf) (defBody sOneOf) (defScope sOneOf) .none kV_f_one dc_f_one pm_f_one an_f_one cd_f_one ct_f_one), sl_f_one⟩)
    (c_f_one : PySem.W.codeIn K cd_f_one "_law_one_of" = true)
    (k_f_one : PySem.W.keepIn K (.ref f_one) = true)
    (g_f_rows : PySem.W.nsIn K mainGlobals "_law_rows" = some (some (.ref f_rows)))
    (l_f_rows : K.lookup f_rows = some ⟨oc_f_rows, od_f_rows, .func (PySem.W.fnOf "_law_rows" "_law_rows" (defArgs sRows) (defBody sRows) (defScope sRows) .none kV_f_rows dc_f_rows pm_f_rows an_f_rows cd_f_rows ct_f_rows), sl_f_rows⟩)
    (c_f_rows : PySem.W.codeIn K cd_f_rows "_law_rows" = true)
    (k_f_rows : PySem.W.keepIn K (.ref f_rows) = true)
    (g_f_ho : PySem.W.nsIn K mainGlobals "_law_house" = some (some (.ref f_ho)))
    (l_f_ho : K.lookup f_ho = some ⟨oc_f_ho, od_f_ho, .func (PySem.W.fnOf "_law_house" "_law_house" (defArgs sHouse) (defBody sHouse) (defScope sHouse) .none kV_f_ho dc_f_ho pm_f_ho an_f_ho cd_f_ho ct_f_ho), sl_f_ho⟩)
    (c_f_ho : PySem.W.codeIn K cd_f_ho "_law_house" = true)
    (k_f_ho : PySem.W.keepIn K (.ref f_ho) = true)
    (g_f_ht : PySem.W.nsIn K mainGlobals "_law_house_text" = some (some (.ref f_ht)))
    (l_f_ht : K.lookup f_ht = some ⟨oc_f_ht, od_f_ht, .func (PySem.W.fnOf "_law_house_text" "_law_house_text" (defArgs sHouseText) (defBody sHouseText) (defScope sHouseText) .none kV_f_ht dc_f_ht pm_f_ht an_f_ht cd_f_ht ct_f_ht), sl_f_ht⟩)
    (c_f_ht : PySem.W.codeIn K cd_f_ht "_law_house_text" = true)
    (k_f_ht : PySem.W.keepIn K (.ref f_ht) = true)
    (g_f_lo : PySem.W.nsIn K mainGlobals "_law_let_of" = some (some (.ref f_lo)))
    (l_f_lo : K.lookup f_lo = some ⟨oc_f_lo, od_f_lo, .func (PySem.W.fnOf "_law_let_of" "_law_let_of" (defArgs sLetOf) (defBody sLetOf) (defScope sLetOf) .none kV_f_lo dc_f_lo pm_f_lo an_f_lo cd_f_lo ct_f_lo), sl_f_lo⟩)
    (c_f_lo : PySem.W.codeIn K cd_f_lo "_law_let_of" = true)
    (k_f_lo : PySem.W.keepIn K (.ref f_lo) = true)
    (g_f_hf : PySem.W.nsIn K mainGlobals "_law_house_of" = some (some (.ref f_hf)))
    (l_f_hf : K.lookup f_hf = some ⟨oc_f_hf, od_f_hf, .func (PySem.W.fnOf "_law_house_of" "_law_house_of" (defArgs sHouseOf) (defBody sHouseOf) (defScope sHouseOf) .none kV_f_hf dc_f_hf pm_f_hf an_f_hf cd_f_hf ct_f_hf), sl_f_hf⟩)
    (c_f_hf : PySem.W.codeIn K cd_f_hf "_law_house_of" = true)
    (k_f_hf : PySem.W.keepIn K (.ref f_hf) = true)
    (g_f_sh : PySem.W.nsIn K mainGlobals "shared_rows" = some (some (.ref f_sh)))
    (l_f_sh : K.lookup f_sh = some ⟨oc_f_sh, od_f_sh, .func (PySem.W.fnOf "shared_rows" "shared_rows" (defArgs sShared) (defBody sShared) (defScope sShared) .none kV_f_sh dc_f_sh pm_f_sh an_f_sh cd_f_sh ct_f_sh), sl_f_sh⟩)
    (c_f_sh : PySem.W.codeIn K cd_f_sh "shared_rows" = true)
    (k_f_sh : PySem.W.keepIn K (.ref f_sh) = true)
    (g_f_nm : PySem.W.nsIn K mainGlobals "lets_no_more" = some (some (.ref f_nm)))
    (l_f_nm : K.lookup f_nm = some ⟨oc_f_nm, od_f_nm, .func (PySem.W.fnOf "lets_no_more" "lets_no_more" (defArgs sNoMore) (defBody sNoMore) (defScope sNoMore) .none kV_f_nm dc_f_nm pm_f_nm an_f_nm cd_f_nm ct_f_nm), sl_f_nm⟩)
    (c_f_nm : PySem.W.codeIn K cd_f_nm "lets_no_more" = true)
    (k_f_nm : PySem.W.keepIn K (.ref f_nm) = true)
    (g_f_pc : PySem.W.nsIn K mainGlobals "_law_place" = some (some (.ref f_pc)))
    (l_f_pc : K.lookup f_pc = some ⟨oc_f_pc, od_f_pc, .func (PySem.W.fnOf "_law_place" "_law_place" (defArgs sPlace) (defBody sPlace) (defScope sPlace) .none kV_f_pc dc_f_pc pm_f_pc an_f_pc cd_f_pc ct_f_pc), sl_f_pc⟩)
    (c_f_pc : PySem.W.codeIn K cd_f_pc "_law_place" = true)
    (k_f_pc : PySem.W.keepIn K (.ref f_pc) = true)
    (g_f_nr2 : PySem.W.nsIn K mainGlobals "_law_near" = some (some (.ref f_nr2)))
    (l_f_nr2 : K.lookup f_nr2 = some ⟨oc_f_nr2, od_f_nr2, .func (PySem.W.fnOf "_law_near" "_law_near" (defArgs sNearL) (defBody sNearL) (defScope sNearL) .none kV_f_nr2 dc_f_nr2 pm_f_nr2 an_f_nr2 cd_f_nr2 ct_f_nr2), sl_f_nr2⟩)
    (c_f_nr2 : PySem.W.codeIn K cd_f_nr2 "_law_near" = true)
    (k_f_nr2 : PySem.W.keepIn K (.ref f_nr2) = true)
    (g_f_pp : PySem.W.nsIn K mainGlobals "_law_places" = some (some (.ref f_pp)))
    (l_f_pp : K.lookup f_pp = some ⟨oc_f_pp, od_f_pp, .func (PySem.W.fnOf "_law_places" "_law_places" (defArgs sPlacesL) (defBody sPlacesL) (defScope sPlacesL) .none kV_f_pp dc_f_pp pm_f_pp an_f_pp cd_f_pp ct_f_pp), sl_f_pp⟩)
    (c_f_pp : PySem.W.codeIn K cd_f_pp "_law_places" = true)
    (k_f_pp : PySem.W.keepIn K (.ref f_pp) = true)
    (g_f_bo : PySem.W.nsIn K mainGlobals "_law_both" = some (some (.ref f_bo)))
    (l_f_bo : K.lookup f_bo = some ⟨oc_f_bo, od_f_bo, .func (PySem.W.fnOf "_law_both" "_law_both" (defArgs sBothL) (defBody sBothL) (defScope sBothL) .none kV_f_bo dc_f_bo pm_f_bo an_f_bo cd_f_bo ct_f_bo), sl_f_bo⟩)
    (c_f_bo : PySem.W.codeIn K cd_f_bo "_law_both" = true)
    (k_f_bo : PySem.W.keepIn K (.ref f_bo) = true)
    (g_f_wi : PySem.W.nsIn K mainGlobals "_law_is_within" = some (some (.ref f_wi)))
    (l_f_wi : K.lookup f_wi = some ⟨oc_f_wi, od_f_wi, .func (PySem.W.fnOf "_law_is_within" "_law_is_within" (defArgs sWithinL) (defBody sWithinL) (defScope sWithinL) .none kV_f_wi dc_f_wi pm_f_wi an_f_wi cd_f_wi ct_f_wi), sl_f_wi⟩)
    (c_f_wi : PySem.W.codeIn K cd_f_wi "_law_is_within" = true)
    (k_f_wi : PySem.W.keepIn K (.ref f_wi) = true)
    (g_f_law : PySem.W.nsIn K mainGlobals "law" = some (some (.ref f_law)))
    (l_f_law : K.lookup f_law = some ⟨oc_f_law, od_f_law, .func (PySem.W.fnOf "law" "law" (defArgs sLaw) (defBody sLaw) (defScope sLaw) .none kV_f_law dc_f_law pm_f_law an_f_law cd_f_law ct_f_law), sl_f_law⟩)
    (c_f_law : PySem.W.codeIn K cd_f_law "law" = true)
    (k_f_law : PySem.W.keepIn K (.ref f_law) = true)
    (g_LC : PySem.W.nsIn K mainGlobals "Let" = some (some (.ref LC)))
    (g_HC : PySem.W.nsIn K mainGlobals "House" = some (some (.ref HC)))
    (gn : PySem.W.specialIn K (.builtin "object.__class__") "__get__" = some (some (.builtin "getset_descriptor.__get__")))
    (tk : PySem.W.takesIn K (.builtin "object.__class__") = some true)
    (pg_LC : PySem.W.plainGet K LC Str.empty = true)
    (hd_LC : PySem.W.hasDictIn K LC = true)
    (po_LC : PySem.W.plainOver K LC = true)
    (sa_LC : PySem.W.findIn K (.ref LC) "__setattr__" = some (some (.builtin "object.__setattr__")))
    (mk_LC : PySem.W.makesIn K LC = true)
    (kc_LC : PySem.W.keepIn K (.ref LC) = true)
    (ca_LC : PySem.W.findIn K (.ref LC) "__class__" = some (some (.builtin "object.__class__")))
    (mo_LC : PySem.W.mroIn K LC (.type "object") = some true)
    (ss_LC : PySem.W.subIn K (.ref LC) (.ref LC) = some true)
    (ic_LC : PySem.W.isClsIn K LC = true)
    (tc_LC : PySem.W.typeIn K (.ref LC) = some (.type "type"))
    (pg_HC : PySem.W.plainGet K HC Str.empty = true)
    (hd_HC : PySem.W.hasDictIn K HC = true)
    (po_HC : PySem.W.plainOver K HC = true)
    (sa_HC : PySem.W.findIn K (.ref HC) "__setattr__" = some (some (.builtin "object.__setattr__")))
    (mk_HC : PySem.W.makesIn K HC = true)
    (kc_HC : PySem.W.keepIn K (.ref HC) = true)
    (ca_HC : PySem.W.findIn K (.ref HC) "__class__" = some (some (.builtin "object.__class__")))
    (mo_HC : PySem.W.mroIn K HC (.type "object") = some true)
    (ss_HC : PySem.W.subIn K (.ref HC) (.ref HC) = some true)
    (ic_HC : PySem.W.isClsIn K HC = true)
    (tc_HC : PySem.W.typeIn K (.ref HC) = some (.type "type"))
    (ne_HC : PySem.W.findIn K (.ref HC) "__ne__" = some (some (.builtin "object.__ne__")))
    (ob_HC : PySem.W.subIn K (.ref HC) (.type "object") = some true)
    (no_LC_kind : PySem.W.findIn K (.ref LC) "kind" = some none)
    (no_LC_state : PySem.W.findIn K (.ref LC) "state" = some none)
    (no_LC_deed : PySem.W.findIn K (.ref LC) "deed" = some none)
    (no_LC_place : PySem.W.findIn K (.ref LC) "place" = some none)
    (no_HC_depth : PySem.W.findIn K (.ref HC) "depth" = some none)
    (no_HC_check : PySem.W.findIn K (.ref HC) "check" = some none)
    (no_HC_rows : PySem.W.findIn K (.ref HC) "rows" = some none)
    (a_f_li : PySem.W.findIn K (.ref LC) "__init__" = some (some (.ref f_li)))
    (i_f_li : PySem.W.isFn K (.ref f_li) = true)
    (l_f_li : K.lookup f_li = some ⟨oc_f_li, od_f_li, .func (PySem.W.fnOf "__init__" "Let.__init__" (defArgs sLInit) (defBody sLInit) (defScope sLInit) .none kV_f_li dc_f_li pm_f_li an_f_li cd_f_li ct_f_li), sl_f_li⟩)
    (c_f_li : PySem.W.codeIn K cd_f_li "Let.__init__" = true)
    (k_f_li : PySem.W.keepIn K (.ref f_li) = true)
    (a_f_ls : PySem.W.findIn K (.ref LC) "__str__" = some (some (.ref f_ls)))
    (i_f_ls : PySem.W.isFn K (.ref f_ls) = true)
    (l_f_ls : K.lookup f_ls = some ⟨oc_f_ls, od_f_ls, .func (PySem.W.fnOf "__str__" "Let.__str__" (defArgs sLStr) (defBody sLStr) (defScope sLStr) .none kV_f_ls dc_f_ls pm_f_ls an_f_ls cd_f_ls ct_f_ls), sl_f_ls⟩)
    (c_f_ls : PySem.W.codeIn K cd_f_ls "Let.__str__" = true)
    (k_f_ls : PySem.W.keepIn K (.ref f_ls) = true)
    (a_f_hi : PySem.W.findIn K (.ref HC) "__init__" = some (some (.ref f_hi)))
    (i_f_hi : PySem.W.isFn K (.ref f_hi) = true)
    (l_f_hi : K.lookup f_hi = some ⟨oc_f_hi, od_f_hi, .func (PySem.W.fnOf "__init__" "House.__init__" (defArgs sHsInit) (defBody sHsInit) (defScope sHsInit) (.ref T_f_hi) kV_f_hi dc_f_hi pm_f_hi an_f_hi cd_f_hi ct_f_hi), sl_f_hi⟩)
    (c_f_hi : PySem.W.codeIn K cd_f_hi "House.__init__" = true)
    (k_f_hi : PySem.W.keepIn K (.ref f_hi) = true)
    (t_f_hi : K.lookup T_f_hi = some ⟨.type "tuple", dd_f_hi, .seq #[.ref e_hi] n_f_hi, ds_f_hi⟩)
    (q_e : K.lookup e_hi = some ⟨.type "tuple", dd_e, .seq #[] n_e, ds_e⟩)
    (a_f_he : PySem.W.findIn K (.ref HC) "__eq__" = some (some (.ref f_he)))
    (i_f_he : PySem.W.isFn K (.ref f_he) = true)
    (l_f_he : K.lookup f_he = some ⟨oc_f_he, od_f_he, .func (PySem.W.fnOf "__eq__" "House.__eq__" (defArgs sHsEq) (defBody sHsEq) (defScope sHsEq) .none kV_f_he dc_f_he pm_f_he an_f_he cd_f_he ct_f_he), sl_f_he⟩)
    (c_f_he : PySem.W.codeIn K cd_f_he "House.__eq__" = true)
    (k_f_he : PySem.W.keepIn K (.ref f_he) = true)
    (a_f_hs : PySem.W.findIn K (.ref HC) "__str__" = some (some (.ref f_hs)))
    (i_f_hs : PySem.W.isFn K (.ref f_hs) = true)
    (l_f_hs : K.lookup f_hs = some ⟨oc_f_hs, od_f_hs, .func (PySem.W.fnOf "__str__" "House.__str__" (defArgs sHsStr) (defBody sHsStr) (defScope sHsStr) .none kV_f_hs dc_f_hs pm_f_hs an_f_hs cd_f_hs ct_f_hs), sl_f_hs⟩)
    (c_f_hs : PySem.W.codeIn K cd_f_hs "House.__str__" = true)
    (k_f_hs : PySem.W.keepIn K (.ref f_hs) = true)
    (a_f_pl : PySem.W.findIn K (.ref HC) "placed" = some (some (.ref f_pl)))
    (i_f_pl : PySem.W.isFn K (.ref f_pl) = true)
    (l_f_pl : K.lookup f_pl = some ⟨oc_f_pl, od_f_pl, .func (PySem.W.fnOf "placed" "House.placed" (defArgs sPlaced) (defBody sPlaced) (defScope sPlaced) .none kV_f_pl dc_f_pl pm_f_pl an_f_pl cd_f_pl ct_f_pl), sl_f_pl⟩)
    (c_f_pl : PySem.W.codeIn K cd_f_pl "House.placed" = true)
    (k_f_pl : PySem.W.keepIn K (.ref f_pl) = true)
    (a_f_an : PySem.W.findIn K (.ref HC) "__and__" = some (some (.ref f_an)))
    (i_f_an : PySem.W.isFn K (.ref f_an) = true)
    (l_f_an : K.lookup f_an = some ⟨oc_f_an, od_f_an, .func (PySem.W.fnOf "__and__" "House.__and__" (defArgs sAnd) (defBody sAnd) (defScope sAnd) .none kV_f_an dc_f_an pm_f_an an_f_an cd_f_an ct_f_an), sl_f_an⟩)
    (c_f_an : PySem.W.codeIn K cd_f_an "House.__and__" = true)
    (k_f_an : PySem.W.keepIn K (.ref f_an) = true)
    (a_f_le : PySem.W.findIn K (.ref HC) "__le__" = some (some (.ref f_le)))
    (i_f_le : PySem.W.isFn K (.ref f_le) = true)
    (l_f_le : K.lookup f_le = some ⟨oc_f_le, od_f_le, .func (PySem.W.fnOf "__le__" "House.__le__" (defArgs sLe) (defBody sLe) (defScope sLe) .none kV_f_le dc_f_le pm_f_le an_f_le cd_f_le ct_f_le), sl_f_le⟩)
    (c_f_le : PySem.W.codeIn K cd_f_le "House.__le__" = true)
    (k_f_le : PySem.W.keepIn K (.ref f_le) = true)
    (a_f_ge : PySem.W.findIn K (.ref HC) "__ge__" = some (some (.ref f_ge)))
    (i_f_ge : PySem.W.isFn K (.ref f_ge) = true)
    (l_f_ge : K.lookup f_ge = some ⟨oc_f_ge, od_f_ge, .func (PySem.W.fnOf "__ge__" "House.__ge__" (defArgs sGe) (defBody sGe) (defScope sGe) .none kV_f_ge dc_f_ge pm_f_ge an_f_ge cd_f_ge ct_f_ge), sl_f_ge⟩)
    (c_f_ge : PySem.W.codeIn K cd_f_ge "House.__ge__" = true)
    (k_f_ge : PySem.W.keepIn K (.ref f_ge) = true)
    (g_KA : PySem.W.nsIn K mainGlobals "KINDS" = some (some (.ref KA)))
    (q_KA : K.lookup KA = some ⟨.type "tuple", dd_KA, .seq #[.str "first" t0_KA, .str "new" t1_KA, .str "minus" t2_KA, .str "plus" t3_KA] n_KA, ds_KA⟩)
    (g_SA : PySem.W.nsIn K mainGlobals "STATES" = some (some (.ref SA)))
    (q_SA : K.lookup SA = some ⟨.type "tuple", dd_SA, .seq #[.str "open" t0_SA, .str "shut" t1_SA] n_SA, ds_SA⟩)
    (g_DA : PySem.W.nsIn K mainGlobals "DEEDS" = some (some (.ref DA)))
    (q_DA : K.lookup DA = some ⟨.type "tuple", dd_DA, .seq #[.str "whole" t0_DA, .str "part" t1_DA, .str "right" t2_DA] n_DA, ds_DA⟩)
    (g_PA : PySem.W.nsIn K mainGlobals "PLACES" = some (some (.ref PA)))
    (q_PA : K.lookup PA = some ⟨.type "tuple", dd_PA, .seq #[.str "now" t0_PA, .str "there" t1_PA] n_PA, ds_PA⟩)
    (g_KK : PySem.W.nsIn K mainGlobals "CHECKS" = some (some (.ref KK)))
    (q_KK : K.lookup KK = some ⟨.type "tuple", dd_KK, .seq #[.str "left" t0_KK, .str "all" t1_KK] n_KK, ds_KK⟩)
    (g_DL : PySem.W.nsIn K mainGlobals "DEPTH_LINES" = some (some (.ref DL)))
    (q_DL : K.lookup DL = some ⟨.type "tuple", dd_DL, .seq #[.str "depth 0" t0_DL, .str "depth 1" t1_DL, .str "depth 2" t2_DL, .str "depth 3" t3_DL, .str "depth 4" t4_DL] n_DL, ds_DL⟩)
    (sf_HC : PySem.W.selfFirst K HC = true)
    (lk_HC : K.lookup HC = some ⟨oc_HC, od_HC, .cls cd_HC, sl_HC⟩)
    (mr_HC : cd_HC.mro = [.ref HC, .type "object"])
    (niand_HC : PySem.W.findIn K (.ref HC) "__iand__" = some none)
    (niand_ob : PySem.W.findIn K (.type "object") "__iand__" = some none)
    (z_len : PySem.W.nsIn K mainGlobals "len" = some none)
    (z_abs : PySem.W.nsIn K mainGlobals "abs" = some none)
    (z_int : PySem.W.nsIn K mainGlobals "int" = some none)
    (z_isinstance : PySem.W.nsIn K mainGlobals "isinstance" = some none)
    (z_bool : PySem.W.nsIn K mainGlobals "bool" = some none)
    (z_range : PySem.W.nsIn K mainGlobals "range" = some none)
    (z_max : PySem.W.nsIn K mainGlobals "max" = some none)
    (z_min : PySem.W.nsIn K mainGlobals "min" = some none)
    (z_str : PySem.W.nsIn K mainGlobals "str" = some none)
    (z_list : PySem.W.nsIn K mainGlobals "list" = some none)
    (z_tuple : PySem.W.nsIn K mainGlobals "tuple" = some none)
    (z_all : PySem.W.nsIn K mainGlobals "all" = some none)
    (z_repr : PySem.W.nsIn K mainGlobals "repr" = some none)
    : ∃ fd : FuncData, (∀ (s : Shared) (v : Value), BindsTo s fd ⟨[v], []⟩ [("_law_script", v)]) ∧ ∀ base : Heap, K.In base → base.Ns mainGlobals mg → FnG l.prog w K mg base CX0 10 fa fd ["_law_script"] (spLaw K) := by
  have e := hfa.symm.trans (PySem.W.mg_of X G g_f_law)
  cases e
  have F_f_int := fun_mk (st := sIsInt) l_f_int c_f_int k_f_int
  have b_f_int := F_f_int.binds (ps := ["value"]) fun _ _ _ _ _ _ us hl => match us, hl with | [_], _ => rfl
  have F_f_num := fun_mk (st := sIsNum) l_f_num c_f_num k_f_num
  have b_f_num := F_f_num.binds (ps := ["value"]) fun _ _ _ _ _ _ us hl => match us, hl with | [_], _ => rfl
  have F_f_ww := fun_mk (st := sWrongWord) l_f_ww c_f_ww k_f_ww
  have b_f_ww := F_f_ww.binds (ps := ["kind", "state", "deed", "place"]) fun _ _ _ _ _ _ us hl => match us, hl with | [_, _, _, _], _ => rfl
  have F_f_isr := fun_mk (st := sIsRows) l_f_isr c_f_isr k_f_isr
  have b_f_isr := F_f_isr.binds (ps := ["value"]) fun _ _ _ _ _ _ us hl => match us, hl with | [_], _ => rfl
  have F_f_seed := fun_mk (st := sSeed) l_f_seed c_f_seed k_f_seed
  have b_f_seed := F_f_seed.binds (ps := ["_law_script", "_law_k"]) fun _ _ _ _ _ _ us hl => match us, hl with | [_, _], _ => rfl
  have F_f_choose := fun_mk (st := sChoose) l_f_choose c_f_choose k_f_choose
  have b_f_choose := F_f_choose.binds (ps := ["_law_box", "_law_many"]) fun _ _ _ _ _ _ us hl => match us, hl with | [_, _], _ => rfl
  have F_f_one := fun_mk (st := sOneOf) l_f_one c_f_one k_f_one
  have b_f_one := F_f_one.binds (ps := ["_law_box", "_law_some"]) fun _ _ _ _ _ _ us hl => match us, hl with | [_, _], _ => rfl
  have F_f_rows := fun_mk (st := sRows) l_f_rows c_f_rows k_f_rows
  have b_f_rows := F_f_rows.binds (ps := ["_law_box", "_law_many"]) fun _ _ _ _ _ _ us hl => match us, hl with | [_, _], _ => rfl
  have F_f_ho := fun_mk (st := sHouse) l_f_ho c_f_ho k_f_ho
  have b_f_ho := F_f_ho.binds (ps := ["_law_box", "_law_many"]) fun _ _ _ _ _ _ us hl => match us, hl with | [_, _], _ => rfl
  have F_f_ht := fun_mk (st := sHouseText) l_f_ht c_f_ht k_f_ht
  have b_f_ht := F_f_ht.binds (ps := ["_law_house_here"]) fun _ _ _ _ _ _ us hl => match us, hl with | [_], _ => rfl
  have F_f_lo := fun_mk (st := sLetOf) l_f_lo c_f_lo k_f_lo
  have b_f_lo := F_f_lo.binds (ps := ["_law_row"]) fun _ _ _ _ _ _ us hl => match us, hl with | [_], _ => rfl
  have F_f_hf := fun_mk (st := sHouseOf) l_f_hf c_f_hf k_f_hf
  have b_f_hf := F_f_hf.binds (ps := ["_law_house_here"]) fun _ _ _ _ _ _ us hl => match us, hl with | [_], _ => rfl
  have F_f_sh := fun_mk (st := sShared) l_f_sh c_f_sh k_f_sh
  have b_f_sh := F_f_sh.binds (ps := ["p", "q"]) fun _ _ _ _ _ _ us hl => match us, hl with | [_, _], _ => rfl
  have F_f_nm := fun_mk (st := sNoMore) l_f_nm c_f_nm k_f_nm
  have b_f_nm := F_f_nm.binds (ps := ["p", "q"]) fun _ _ _ _ _ _ us hl => match us, hl with | [_, _], _ => rfl
  have F_f_pc := fun_mk (st := sPlace) l_f_pc c_f_pc k_f_pc
  have b_f_pc := F_f_pc.binds (ps := ["_law_house_here", "_law_kind", "_law_state", "_law_deed"]) fun _ _ _ _ _ _ us hl => match us, hl with | [_, _, _, _], _ => rfl
  have F_f_nr2 := fun_mk (st := sNearL) l_f_nr2 c_f_nr2 k_f_nr2
  have b_f_nr2 := F_f_nr2.binds (ps := ["_law_box", "_law_house_here"]) fun _ _ _ _ _ _ us hl => match us, hl with | [_, _], _ => rfl
  have F_f_pp := fun_mk (st := sPlacesL) l_f_pp c_f_pp k_f_pp
  have b_f_pp := F_f_pp.binds (ps := ["_law_house_here"]) fun _ _ _ _ _ _ us hl => match us, hl with | [_], _ => rfl
  have F_f_bo := fun_mk (st := sBothL) l_f_bo c_f_bo k_f_bo
  have b_f_bo := F_f_bo.binds (ps := ["_law_p", "_law_q"]) fun _ _ _ _ _ _ us hl => match us, hl with | [_, _], _ => rfl
  have F_f_wi := fun_mk (st := sWithinL) l_f_wi c_f_wi k_f_wi
  have b_f_wi := F_f_wi.binds (ps := ["_law_p", "_law_q"]) fun _ _ _ _ _ _ us hl => match us, hl with | [_, _], _ => rfl
  have F_f_law := fun_mk (st := sLaw) l_f_law c_f_law k_f_law
  have b_f_law := F_f_law.binds (ps := ["_law_script"]) fun _ _ _ _ _ _ us hl => match us, hl with | [_], _ => rfl
  have cl_LC : Cls K LC := ⟨pg_LC, hd_LC, po_LC, sa_LC⟩
  have cl_HC : Cls K HC := ⟨pg_HC, hd_HC, po_HC, sa_HC⟩
  have F_f_li := fun_mk (st := sLInit) l_f_li c_f_li k_f_li
  have b_f_li := F_f_li.binds (ps := ["self", "kind", "state", "deed", "place"]) fun _ _ _ _ _ _ us hl => match us, hl with | [_, _, _, _, _], _ => rfl
  have F_f_ls := fun_mk (st := sLStr) l_f_ls c_f_ls k_f_ls
  have b_f_ls := F_f_ls.binds (ps := ["self"]) fun _ _ _ _ _ _ us hl => match us, hl with | [_], _ => rfl
  have F_f_hi : FunD K "__init__" "House.__init__" (defArgs sHsInit) (defBody sHsInit) (defScope sHsInit) [.ref e_hi] [] f_hi _ := ⟨⟨_, _, _, _, _, _, _, _, _, _, rfl, l_f_hi, c_f_hi, .inr ⟨by simp, T_f_hi, _, [.ref e_hi], n_f_hi, rfl, t_f_hi, rfl, .cons rfl .nil⟩, .inl rfl⟩, k_f_hi⟩
  obtain ⟨ds_, vds_, b_f_hi⟩ := F_f_hi.binds1 (ps := ["self", "depth", "check", "rows"]) 4 1 (by simp) rfl (fun _ _ _ _ _ _ _ us its hu hi => by
    match us, its, hu, hi with
    | [_, _, _, _], [_], _, _ => exact ⟨_, rfl, rfl⟩)
  cases vds_
  obtain ⟨es_f_hi, ve_f_hi, cb_f_hi⟩ := F_f_hi.binds1 (ps := ["self", "depth", "check", "rows"]) 3 0 (by simp) rfl (fun _ _ _ _ _ _ _ us its hu hi => by
    match us, its, hu, hi with
    | [_, _, _], [_], _, _ => exact ⟨_, rfl, rfl⟩)
  have F_f_he := fun_mk (st := sHsEq) l_f_he c_f_he k_f_he
  have b_f_he := F_f_he.binds (ps := ["self", "other"]) fun _ _ _ _ _ _ us hl => match us, hl with | [_, _], _ => rfl
  have F_f_hs := fun_mk (st := sHsStr) l_f_hs c_f_hs k_f_hs
  have b_f_hs := F_f_hs.binds (ps := ["self"]) fun _ _ _ _ _ _ us hl => match us, hl with | [_], _ => rfl
  have F_f_pl := fun_mk (st := sPlaced) l_f_pl c_f_pl k_f_pl
  have b_f_pl := F_f_pl.binds (ps := ["self", "kind", "state", "deed"]) fun _ _ _ _ _ _ us hl => match us, hl with | [_, _, _, _], _ => rfl
  have F_f_an := fun_mk (st := sAnd) l_f_an c_f_an k_f_an
  have b_f_an := F_f_an.binds (ps := ["self", "other"]) fun _ _ _ _ _ _ us hl => match us, hl with | [_, _], _ => rfl
  have F_f_le := fun_mk (st := sLe) l_f_le c_f_le k_f_le
  have b_f_le := F_f_le.binds (ps := ["self", "other"]) fun _ _ _ _ _ _ us hl => match us, hl with | [_, _], _ => rfl
  have F_f_ge := fun_mk (st := sGe) l_f_ge c_f_ge k_f_ge
  have b_f_ge := F_f_ge.binds (ps := ["self", "other"]) fun _ _ _ _ _ _ us hl => match us, hl with | [_, _], _ => rfl
  have TA : Blt mg := ⟨PySem.W.mg_none_of X G z_len, PySem.W.mg_none_of X G z_abs, PySem.W.mg_none_of X G z_int⟩
  have TK : BltK mg := ⟨PySem.W.mg_none_of X G z_isinstance, PySem.W.mg_none_of X G z_int, PySem.W.mg_none_of X G z_bool, PySem.W.mg_none_of X G z_list, PySem.W.mg_none_of X G z_tuple, PySem.W.mg_none_of X G z_all, PySem.W.mg_none_of X G z_len, PySem.W.mg_none_of X G z_str⟩
  have TG : BltG mg := ⟨PySem.W.mg_none_of X G z_range, PySem.W.mg_none_of X G z_str⟩
  have RT : RowH K mg KA SA DA PA := ⟨PySem.W.mg_of X G g_KA, PySem.W.mg_of X G g_SA, PySem.W.mg_of X G g_DA, PySem.W.mg_of X G g_PA, fun _ => .inr ⟨_, _, _, q_KA, rfl, rfl, by show 4 ≤ sizeLine; decide, (.cons ⟨_, rfl⟩ (.cons ⟨_, rfl⟩ (.cons ⟨_, rfl⟩ (.cons ⟨_, rfl⟩ .nil))))⟩, fun _ => .inr ⟨_, _, _, q_SA, rfl, rfl, by show 2 ≤ sizeLine; decide, (.cons ⟨_, rfl⟩ (.cons ⟨_, rfl⟩ .nil))⟩, fun _ => .inr ⟨_, _, _, q_DA, rfl, rfl, by show 3 ≤ sizeLine; decide, (.cons ⟨_, rfl⟩ (.cons ⟨_, rfl⟩ (.cons ⟨_, rfl⟩ .nil)))⟩, fun _ => .inr ⟨_, _, _, q_PA, rfl, rfl, by show 2 ≤ sizeLine; decide, (.cons ⟨_, rfl⟩ (.cons ⟨_, rfl⟩ .nil))⟩⟩
  have XT : HsT K mg KK DL := ⟨PySem.W.mg_of X G g_KK, PySem.W.mg_of X G g_DL, fun _ => .inr ⟨_, _, _, q_KK, rfl, rfl, by show 2 ≤ sizeLine; decide, (.cons ⟨_, rfl⟩ (.cons ⟨_, rfl⟩ .nil))⟩, fun _ => .inr ⟨_, _, _, q_DL, rfl, rfl, by show 5 ≤ sizeLine; decide, (.cons ⟨_, rfl⟩ (.cons ⟨_, rfl⟩ (.cons ⟨_, rfl⟩ (.cons ⟨_, rfl⟩ (.cons ⟨_, rfl⟩ .nil)))))⟩⟩
  have FL : LetC K ⟨LC, LC⟩ := ⟨cl_LC, no_LC_kind, no_LC_state, no_LC_deed, no_LC_place⟩
  have LI : LetI K ⟨LC, LC⟩ := ⟨cl_LC, ca_LC, mo_LC, gn, tk, kit_ref ic_LC tc_LC ss_LC ss_LC⟩
  have FH : HsC K HC := ⟨cl_HC, no_HC_depth, no_HC_check, no_HC_rows⟩
  have HI : HsI K HC := ⟨cl_HC, ca_HC, mo_HC, gn, tk, kit_ref ic_HC tc_HC ss_HC ss_HC⟩
  have TE0 : (∃ o, K.lookup e_hi = some o ∧ o.cls = .type "tuple") ∧ ∀ H, SqT K H e_hi [] := ⟨⟨_, q_e, rfl⟩, fun _ => .inr ⟨_, _, _, q_e, rfl, rfl, by show 0 ≤ sizeLine; decide, .nil⟩⟩
  refine ⟨PySem.W.fnOf "law" "law" (defArgs sLaw) (defBody sLaw) (defScope sLaw) .none kV_f_law dc_f_law pm_f_law an_f_law cd_f_law ct_f_law, fun s v => .of_eq rfl, fun base _ _ => ?_⟩
  have q_f_int : Cal l.prog w K mg base CX0 "is_integer" 1 ["value"] spIntI := ⟨f_int, _, ok_intK F_f_int TK, PySem.W.mg_of X G g_f_int, k_f_int, b_f_int⟩
  have q_f_num : Cal l.prog w K mg base CX0 "is_number" 2 ["value"] spNumI := ⟨f_num, _, ok_numK F_f_num q_f_int, PySem.W.mg_of X G g_f_num, k_f_num, b_f_num⟩
  have q_f_ww : Cal l.prog w K mg base CX0 "wrong_word" 1 ["kind", "state", "deed", "place"] spWord := ⟨f_ww, _, ok_word F_f_ww RT, PySem.W.mg_of X G g_f_ww, k_f_ww, b_f_ww⟩
  have q_f_isr : Cal l.prog w K mg base CX0 "is_rows" 1 ["value"] (spIsRows ⟨LC, LC⟩) := ⟨f_isr, _, ok_isRows F_f_isr TK LI (PySem.W.mg_of X G g_LC), PySem.W.mg_of X G g_f_isr, k_f_isr, b_f_isr⟩
  have qT_f_isr : Cal l.prog w K mg base CX0 "is_rows" 1 ["value"] (spIsRowsT K ⟨LC, LC⟩) := ⟨f_isr, _, ok_isRowsT F_f_isr TK LI (PySem.W.mg_of X G g_LC), PySem.W.mg_of X G g_f_isr, k_f_isr, b_f_isr⟩
  have q_f_choose : Cal l.prog w K mg base CX0 "_law_choose" 1 ["_law_box", "_law_many"] spChoose := ⟨f_choose, _, ok_choose F_f_choose TA, PySem.W.mg_of X G g_f_choose, k_f_choose, b_f_choose⟩
  have q_f_seed : Cal l.prog w K mg base CX0 "_law_seed" 1 ["_law_script", "_law_k"] (spSeed K) := ⟨f_seed, _, ok_seed F_f_seed TA, PySem.W.mg_of X G g_f_seed, k_f_seed, b_f_seed⟩
  have q_f_one : Cal l.prog w K mg base CX0 "_law_one_of" 2 ["_law_box", "_law_some"] (spOneOf K) := ⟨f_one, _, ok_oneOf F_f_one TA q_f_choose, PySem.W.mg_of X G g_f_one, k_f_one, b_f_one⟩
  have ML : MkR l.prog w K mg base "Let" ["self", "kind", "state", "deed", "place"] LC 3 (spLInit ⟨LC, LC⟩) := ⟨PySem.W.mg_of X G g_LC, f_li, _, (ok_lInit F_f_li FL q_f_ww).mono (by decide), ⟨mk_LC, a_f_li, i_f_li, kc_LC⟩, b_f_li⟩
  have MH : MkH l.prog w K mg base ⟨LC, LC⟩ HC := ⟨PySem.W.mg_of X G g_HC, f_hi, _, ok_hsInit F_f_hi TK XT FH q_f_num q_f_isr, ⟨mk_HC, a_f_hi, i_f_hi, kc_HC⟩, b_f_hi⟩
  have SL : StrH l.prog w K mg base ⟨LC, LC⟩ := ⟨⟨f_ls, _, ok_lStr F_f_ls FL, a_f_ls, i_f_ls, b_f_ls⟩⟩
  have SK : HsStr l.prog w K mg base ⟨LC, LC⟩ HC := ⟨⟨f_hs, _, ok_hsStr F_f_hs TK SL FH, a_f_hs, i_f_hs, b_f_hs⟩⟩
  have q_f_rows : Cal l.prog w K mg base CX0 "_law_rows" 3 ["_law_box", "_law_many"] spRows := ⟨f_rows, _, ok_rows F_f_rows TG q_f_one, PySem.W.mg_of X G g_f_rows, k_f_rows, b_f_rows⟩
  have q_f_ho : Cal l.prog w K mg base CX0 "_law_house" 4 ["_law_box", "_law_many"] spHouse := ⟨f_ho, _, ok_house F_f_ho (PySem.W.mg_none_of X G z_tuple) q_f_one q_f_choose q_f_rows, PySem.W.mg_of X G g_f_ho, k_f_ho, b_f_ho⟩
  have q_f_ht : Cal l.prog w K mg base CX0 "_law_house_text" 1 ["_law_house_here"] spHouseText := ⟨f_ht, _, ok_houseText F_f_ht (PySem.W.mg_none_of X G z_str), PySem.W.mg_of X G g_f_ht, k_f_ht, b_f_ht⟩
  have q_f_lo : Cal l.prog w K mg base CX0 "_law_let_of" 5 ["_law_row"] (spLetOf ⟨LC, LC⟩) := ⟨f_lo, _, ok_letOf F_f_lo ML, PySem.W.mg_of X G g_f_lo, k_f_lo, b_f_lo⟩
  have q_f_hf : Cal l.prog w K mg base CX0 "_law_house_of" 6 ["_law_house_here"] (spHouseOf K ⟨LC, LC⟩ HC) := ⟨f_hf, _, ok_houseOf F_f_hf MH q_f_lo, PySem.W.mg_of X G g_f_hf, k_f_hf, b_f_hf⟩
  have TZ : BltK15 mg := ⟨PySem.W.mg_none_of X G z_len, PySem.W.mg_none_of X G z_range, PySem.W.mg_none_of X G z_max, PySem.W.mg_none_of X G z_min, PySem.W.mg_none_of X G z_str, PySem.W.mg_none_of X G z_repr⟩
  have ML2 : MkR l.prog w K mg base "Let" ["self", "kind", "state", "deed", "place"] LC 2 (spLInit ⟨LC, LC⟩) := ⟨PySem.W.mg_of X G g_LC, f_li, _, ok_lInit F_f_li FL q_f_ww, ⟨mk_LC, a_f_li, i_f_li, kc_LC⟩, b_f_li⟩
  have q_f_sh : Cal l.prog w K mg base CX0 "shared_rows" 4 ["p", "q"] (spShared K ⟨LC, LC⟩ HC) := ⟨f_sh, _, ok_shared F_f_sh RT FH ⟨f_pl, _, ok_placed F_f_pl FH FL, ⟨a_f_pl, i_f_pl, k_f_pl⟩, b_f_pl⟩ ML2, PySem.W.mg_of X G g_f_sh, k_f_sh, b_f_sh⟩
  have q_f_nm : Cal l.prog w K mg base CX0 "lets_no_more" 3 ["p", "q"] (spNoMore K ⟨LC, LC⟩ HC) := ⟨f_nm, _, ok_noMore F_f_nm (PySem.W.mg_none_of X G z_all) FL FH ⟨f_pl, _, ok_placed F_f_pl FH FL, ⟨a_f_pl, i_f_pl, k_f_pl⟩, b_f_pl⟩, PySem.W.mg_of X G g_f_nm, k_f_nm, b_f_nm⟩
  have AB : HsAB l.prog w K mg base ⟨LC, LC⟩ HC := ⟨⟨f_le, _, ok_hsLe F_f_le (PySem.W.mg_none_of X G z_isinstance) (PySem.W.mg_of X G g_HC) HI q_f_nm, ⟨a_f_le, i_f_le⟩, b_f_le⟩, ⟨f_ge, _, ok_hsGe F_f_ge (PySem.W.mg_none_of X G z_isinstance) (PySem.W.mg_of X G g_HC) HI q_f_nm, ⟨a_f_ge, i_f_ge⟩, b_f_ge⟩, ⟨f_an, _, ok_hsAnd F_f_an (PySem.W.mg_none_of X G z_isinstance) FH HI MH q_f_sh, ⟨sf_HC, a_f_an, i_f_an⟩, b_f_an⟩, nf_same⟩
  have EQ : HsEI l.prog w K mg base ⟨LC, LC⟩ HC := ⟨⟨f_he, _, ok_hsEq F_f_he TK SK HI (PySem.W.mg_of X G g_HC), ⟨a_f_he, i_f_he, ne_HC, ob_HC⟩, b_f_he⟩, silent2 lk_HC mr_HC niand_HC niand_ob⟩
  have q_f_pc : Cal l.prog w K mg base CX0 "_law_place" 2 ["_law_house_here", "_law_kind", "_law_state", "_law_deed"] spPlace := ⟨f_pc, _, ok_place F_f_pc, PySem.W.mg_of X G g_f_pc, k_f_pc, b_f_pc⟩
  have q_f_pp : Cal l.prog w K mg base CX0 "_law_places" 3 ["_law_house_here"] spPlacesL := ⟨f_pp, _, ok_placesL F_f_pp q_f_pc, PySem.W.mg_of X G g_f_pp, k_f_pp, b_f_pp⟩
  have q_f_bo : Cal l.prog w K mg base CX0 "_law_both" 4 ["_law_p", "_law_q"] spBothL := ⟨f_bo, _, ok_bothL F_f_bo (PySem.W.mg_none_of X G z_tuple) q_f_pp, PySem.W.mg_of X G g_f_bo, k_f_bo, b_f_bo⟩
  have q_f_wi : Cal l.prog w K mg base CX0 "_law_is_within" 4 ["_law_p", "_law_q"] spWithinL := ⟨f_wi, _, ok_withinL F_f_wi q_f_pp, PySem.W.mg_of X G g_f_wi, k_f_wi, b_f_wi⟩
  have q_f_nr2 : Cal l.prog w K mg base CX0 "_law_near" 4 ["_law_box", "_law_house_here"] spNear := ⟨f_nr2, _, ok_near F_f_nr2 (PySem.W.mg_none_of X G z_len) (PySem.W.mg_none_of X G z_tuple) q_f_choose q_f_one q_f_rows, PySem.W.mg_of X G g_f_nr2, k_f_nr2, b_f_nr2⟩
  exact ok_law F_f_law TZ AB EQ SK q_f_seed q_f_choose q_f_ho q_f_ht q_f_nr2 q_f_hf q_f_bo q_f_wi
theorem walk {l : PySem.W.OpenLaw} {q : Program} {loose : List Str} {XP : (Str → Option Value) → Heap → Prop} {YP : World → Heap → Prop} {d : DefRec} {K : Params → PySem.W.Frag} (hn : l.most = some 63) (hdf : d.params.defaults = [])
    (hY : ∀ (w : World) (h : Heap), YP w h → (K w.params).In h)
    (F : ∀ (w : World) (mg : Str → Option Value) (fa : Addr) (h : Heap), (K w.params).In h → h.Ns mainGlobals mg → mg d.name = some (.ref fa) →
      ∃ fd : FuncData, (∀ (s : Shared) (u : Value), BindsTo s fd ⟨[u], []⟩ [("_law_script", u)]) ∧ ∀ base : Heap, (K w.params).In base → base.Ns mainGlobals mg → FnG l.prog w (K w.params) mg base CX0 10 fa fd ["_law_script"] (spLaw (K w.params))) :
    PySem.W.WalkO q loose XP YP l.row.toRowW d [] (fun f vs => PySem.call f vs) :=
  walk_ofG (n := 63) (k := 10) (x := "_law_script") (sp := fun w => spLaw (K w.params)) hn (by decide) hdf ⟨rfl, by decide, by decide⟩ hY F (fun _ _ a ns hl _ hS => ⟨a, ns, rfl, hS, hl, fun _ => rfl⟩)
end V3

set_option Elab.async false
set_option linter.all false
set_option maxRecDepth 100000
set_option maxHeartbeats 0
/-! the head; its trees get no twins: the names stand already -/
def PySem.W.Fast.tw14426715341205410848 : Nat := 0
def PySem.W.Fast.tw15713200653472955041 : Nat := 0
def PySem.W.Fast.tw6554210930403057037 : Nat := 0
def PySem.W.Fast.tw9251005622828420719 : Nat := 0
def PySem.W.Fast.tw3853558941398826004 : Nat := 0
def PySem.W.Fast.tw6736770281925814580 : Nat := 0
def PySem.W.Fast.tw15009715566412695253 : Nat := 0
def PySem.W.Fast.tw6879087710142554837 : Nat := 0
def PySem.W.Fast.tw4476463789231919639 : Nat := 0
def PySem.W.Fast.tw6904744411999997815 : Nat := 0
def PySem.W.Fast.tw6512995162404429561 : Nat := 0
def PySem.W.Fast.tw15832847064183133658 : Nat := 0
def PySem.W.Fast.tw1672307365302337211 : Nat := 0
def PySem.W.Fast.tw12771589878784054751 : Nat := 0
open PySem PySem.W PyProof.Rows in
open_top V3.hd for PySem.Challenge.rw_contrabooks_k15_houses_put_together

open PySem PySem.W PyProof.Rows in
set_option maxRecDepth 100000 in
set_option maxHeartbeats 0 in
theorem PySem.Challenge.cw_contrabooks_k15_houses_put_together_holds : PySem.Challenge.rw_contrabooks_k15_houses_put_together.Holds := by
  refine V3.hd ?_
  k_fill
  refine V3.walk (l := PySem.Challenge.rw_contrabooks_k15_houses_put_together) rfl rfl (fun w h Y => PySem.W.kIn_of Y) ?F
  case F =>
    intro w mg fa h KX G hmg
    refine' V3.all_mk KX G hmg ?g_f_int ?l_f_int ?c_f_int ?k_f_int ?g_f_num ?l_f_num ?c_f_num ?k_f_num ?g_f_ww ?l_f_ww ?c_f_ww ?k_f_ww ?g_f_isr ?l_f_isr ?c_f_isr ?k_f_isr ?g_f_seed ?l_f_seed ?c_f_seed ?k_f_seed ?g_f_choose ?l_f_choose ?c_f_choose ?k_f_choose ?g_f_one ?l_f_one ?c_f_one ?k_f_one ?g_f_rows ?l_f_rows ?c_f_rows ?k_f_rows ?g_f_ho ?l_f_ho ?c_f_ho ?k_f_ho ?g_f_ht ?l_f_ht ?c_f_ht ?k_f_ht ?g_f_lo ?l_f_lo ?c_f_lo ?k_f_lo ?g_f_hf ?l_f_hf ?c_f_hf ?k_f_hf ?g_f_sh ?l_f_sh ?c_f_sh ?k_f_sh ?g_f_nm ?l_f_nm ?c_f_nm ?k_f_nm ?g_f_pc ?l_f_pc ?c_f_pc ?k_f_pc ?g_f_nr2 ?l_f_nr2 ?c_f_nr2 ?k_f_nr2 ?g_f_pp ?l_f_pp ?c_f_pp ?k_f_pp ?g_f_bo ?l_f_bo ?c_f_bo ?k_f_bo ?g_f_wi ?l_f_wi ?c_f_wi ?k_f_wi ?g_f_law ?l_f_law ?c_f_law ?k_f_law ?g_LC ?g_HC ?gn ?tk ?pg_LC ?hd_LC ?po_LC ?sa_LC ?mk_LC ?kc_LC ?ca_LC ?mo_LC ?ss_LC ?ic_LC ?tc_LC ?pg_HC ?hd_HC ?po_HC ?sa_HC ?mk_HC ?kc_HC ?ca_HC ?mo_HC ?ss_HC ?ic_HC ?tc_HC ?ne_HC ?ob_HC ?no_LC_kind ?no_LC_state ?no_LC_deed ?no_LC_place ?no_HC_depth ?no_HC_check ?no_HC_rows ?a_f_li ?i_f_li ?l_f_li ?c_f_li ?k_f_li ?a_f_ls ?i_f_ls ?l_f_ls ?c_f_ls ?k_f_ls ?a_f_hi ?i_f_hi ?l_f_hi ?c_f_hi ?k_f_hi ?t_f_hi ?q_e ?a_f_he ?i_f_he ?l_f_he ?c_f_he ?k_f_he ?a_f_hs ?i_f_hs ?l_f_hs ?c_f_hs ?k_f_hs ?a_f_pl ?i_f_pl ?l_f_pl ?c_f_pl ?k_f_pl ?a_f_an ?i_f_an ?l_f_an ?c_f_an ?k_f_an ?a_f_le ?i_f_le ?l_f_le ?c_f_le ?k_f_le ?a_f_ge ?i_f_ge ?l_f_ge ?c_f_ge ?k_f_ge ?g_KA ?q_KA ?g_SA ?q_SA ?g_DA ?q_DA ?g_PA ?q_PA ?g_KK ?q_KK ?g_DL ?q_DL ?sf_HC ?lk_HC ?mr_HC ?niand_HC ?niand_ob ?z_len ?z_abs ?z_int ?z_isinstance ?z_bool ?z_range ?z_max ?z_min ?z_str ?z_list ?z_tuple ?z_all ?z_repr
    (case g_f_int => k_is)
    (case l_f_int => k_is)
    (case c_f_int => k_is)
    (case k_f_int => k_is)
    (case g_f_num => k_is)
    (case l_f_num => k_is)
    (case c_f_num => k_is)
    (case k_f_num => k_is)
    (case g_f_ww => k_is)
    (case l_f_ww => k_is)
    (case c_f_ww => k_is)
    (case k_f_ww => k_is)
    (case g_f_isr => k_is)
    (case l_f_isr => k_is)
    (case c_f_isr => k_is)
    (case k_f_isr => k_is)
    (case g_f_seed => k_is)
    (case l_f_seed => k_is)
    (case c_f_seed => k_is)
    (case k_f_seed => k_is)
    (case g_f_choose => k_is)
    (case l_f_choose => k_is)
    (case c_f_choose => k_is)
    (case k_f_choose => k_is)
    (case g_f_one => k_is)
    (case l_f_one => k_is)
    (case c_f_one => k_is)
    (case k_f_one => k_is)
    (case g_f_rows => k_is)
    (case l_f_rows => k_is)
    (case c_f_rows => k_is)
    (case k_f_rows => k_is)
    (case g_f_ho => k_is)
    (case l_f_ho => k_is)
    (case c_f_ho => k_is)
    (case k_f_ho => k_is)
    (case g_f_ht => k_is)
    (case l_f_ht => k_is)
    (case c_f_ht => k_is)
    (case k_f_ht => k_is)
    (case g_f_lo => k_is)
    (case l_f_lo => k_is)
    (case c_f_lo => k_is)
    (case k_f_lo => k_is)
    (case g_f_hf => k_is)
    (case l_f_hf => k_is)
    (case c_f_hf => k_is)
    (case k_f_hf => k_is)
    (case g_f_sh => k_is)
    (case l_f_sh => k_is)
    (case c_f_sh => k_is)
    (case k_f_sh => k_is)
    (case g_f_nm => k_is)
    (case l_f_nm => k_is)
    (case c_f_nm => k_is)
    (case k_f_nm => k_is)
    (case g_f_pc => k_is)
    (case l_f_pc => k_is)
    (case c_f_pc => k_is)
    (case k_f_pc => k_is)
    (case g_f_nr2 => k_is)
    (case l_f_nr2 => k_is)
    (case c_f_nr2 => k_is)
    (case k_f_nr2 => k_is)
    (case g_f_pp => k_is)
    (case l_f_pp => k_is)
    (case c_f_pp => k_is)
    (case k_f_pp => k_is)
    (case g_f_bo => k_is)
    (case l_f_bo => k_is)
    (case c_f_bo => k_is)
    (case k_f_bo => k_is)
    (case g_f_wi => k_is)
    (case l_f_wi => k_is)
    (case c_f_wi => k_is)
    (case k_f_wi => k_is)
    (case g_f_law => k_is)
    (case l_f_law => k_is)
    (case c_f_law => k_is)
    (case k_f_law => k_is)
    (case g_LC => k_is)
    (case g_HC => k_is)
    (case gn => k_is)
    (case tk => k_is)
    (case pg_LC => k_is)
    (case hd_LC => k_is)
    (case po_LC => k_is)
    (case sa_LC => k_is)
    (case mk_LC => k_is)
    (case kc_LC => k_is)
    (case ca_LC => k_is)
    (case mo_LC => k_is)
    (case ss_LC => first | rfl | k_is)
    (case ic_LC => k_is)
    (case tc_LC => k_is)
    (case pg_HC => k_is)
    (case hd_HC => k_is)
    (case po_HC => k_is)
    (case sa_HC => k_is)
    (case mk_HC => k_is)
    (case kc_HC => k_is)
    (case ca_HC => k_is)
    (case mo_HC => k_is)
    (case ss_HC => first | rfl | k_is)
    (case ic_HC => k_is)
    (case tc_HC => k_is)
    (case ne_HC => k_is)
    (case ob_HC => k_is)
    (case no_LC_kind => k_is)
    (case no_LC_state => k_is)
    (case no_LC_deed => k_is)
    (case no_LC_place => k_is)
    (case no_HC_depth => k_is)
    (case no_HC_check => k_is)
    (case no_HC_rows => k_is)
    (case a_f_li => k_is)
    (case i_f_li => k_is)
    (case l_f_li => k_is)
    (case c_f_li => k_is)
    (case k_f_li => k_is)
    (case a_f_ls => k_is)
    (case i_f_ls => k_is)
    (case l_f_ls => k_is)
    (case c_f_ls => k_is)
    (case k_f_ls => k_is)
    (case a_f_hi => k_is)
    (case i_f_hi => k_is)
    (case l_f_hi => k_is)
    (case c_f_hi => k_is)
    (case k_f_hi => k_is)
    (case t_f_hi => k_is)
    (case q_e => k_is)
    (case a_f_he => k_is)
    (case i_f_he => k_is)
    (case l_f_he => k_is)
    (case c_f_he => k_is)
    (case k_f_he => k_is)
    (case a_f_hs => k_is)
    (case i_f_hs => k_is)
    (case l_f_hs => k_is)
    (case c_f_hs => k_is)
    (case k_f_hs => k_is)
    (case a_f_pl => k_is)
    (case i_f_pl => k_is)
    (case l_f_pl => k_is)
    (case c_f_pl => k_is)
    (case k_f_pl => k_is)
    (case a_f_an => k_is)
    (case i_f_an => k_is)
    (case l_f_an => k_is)
    (case c_f_an => k_is)
    (case k_f_an => k_is)
    (case a_f_le => k_is)
    (case i_f_le => k_is)
    (case l_f_le => k_is)
    (case c_f_le => k_is)
    (case k_f_le => k_is)
    (case a_f_ge => k_is)
    (case i_f_ge => k_is)
    (case l_f_ge => k_is)
    (case c_f_ge => k_is)
    (case k_f_ge => k_is)
    (case g_KA => k_is)
    (case q_KA => k_is)
    (case g_SA => k_is)
    (case q_SA => k_is)
    (case g_DA => k_is)
    (case q_DA => k_is)
    (case g_PA => k_is)
    (case q_PA => k_is)
    (case g_KK => k_is)
    (case q_KK => k_is)
    (case g_DL => k_is)
    (case q_DL => k_is)
    (case sf_HC => k_is)
    (case lk_HC => k_is)
    (case mr_HC => rfl)
    (case niand_HC => k_is)
    (case niand_ob => first | k_is | rfl | decide +kernel)
    (case z_len => k_is)
    (case z_abs => k_is)
    (case z_int => k_is)
    (case z_isinstance => k_is)
    (case z_bool => k_is)
    (case z_range => k_is)
    (case z_max => k_is)
    (case z_min => k_is)
    (case z_str => k_is)
    (case z_list => k_is)
    (case z_tuple => k_is)
    (case z_all => k_is)
    (case z_repr => k_is)
#print axioms PySem.Challenge.cw_contrabooks_k15_houses_put_together_holds
