import PyProof.Rows.All
import Wide.All
import OpenK.AllK
import Wide.FinOn
import HandS.ForExc
import HandS.Comp
import HandS.Dict
import HandS.Iter
import HandS.Text
import HandS.Wide
import HandS.FStr
import HandS.IsInst
import HandS.ExcInit
import HandS.ExcField
import HandS.ExcIs
import HandS.OwnEq
import KE.KCallOwn
import KE.KExcIs
import PyProof.NeKinds
import HandS.RaiseMore
import HandS.Star
import HandS.ClsMeth
import HandS.StrMore
import PyProof.InstEq
import HandS.TupAny
import OpenK.KMeth
import HandS.Base
import HandS.Call
import HandS.List
import KE.KOpsOwn
import PyProof.Rows.NestShow
import HandS.Ends
import HandS.Defaults
import HandS.Walk
import HandS.MakeKw
import HandS.MakeKwOnly
import HandS.Zip
import HandS.TryOnly
import PySem.Challenge.RW_contrabooks_k04_histories_made
set_option Elab.async false
set_option linter.all false
set_option maxRecDepth 100000
namespace V3
open PySem L2
def top (i : Nat) : Stmt := PySem.Challenge.pw_contrabooks_k04_histories_made.main.body.getD i (.Pass ⟨0, 0, 0, 0⟩)
abbrev sSeed : Stmt := top 21
abbrev sChoose : Stmt := top 22
abbrev sOneOf : Stmt := top 23
/-- the box of draws: two numbers -/
def BoxOk (u v : Int) : Prop := 0 ≤ u ∧ 1 ≤ v ∧ v ≤ 2147483629
def box (u v : Int) : HO := .lst [.int u, .int v]
def BoxAt (H : Hp) (b : Addr) : Prop := ∃ u v, BoxOk u v ∧ H b = some (box u v)
def spSeed (K : PySem.W.Frag) : Sp := fun vs H Q _ => ∃ (a : Addr) (ns : List Int) (k : Int), vs = [.ref a, .int k] ∧ SqL K H a (ns.map V.int) ∧ ns.length ≤ 63 ∧ 0 ≤ k ∧ k ≤ 100 ∧
  ∀ (p : Addr) (u v : Int), H p = none → BoxOk u v → Q (.ref p) (upd H p (box u v))
def spChoose : Sp := fun vs H Q _ => ∃ (b : Addr) (u v m : Int), vs = [.ref b, .int m] ∧ H b = some (box u v) ∧ BoxOk u v ∧ 1 ≤ m ∧ m ≤ 1000000000000 ∧
  ∀ d u' v' : Int, 0 ≤ d → d < m → BoxOk u' v' → Q (.int d) (upd H b (box u' v'))
def spOneOf (K : PySem.W.Frag) : Sp := fun vs H Q _ => ∃ (b l : Addr) (u v : Int) (xs : List V), vs = [.ref b, .ref l] ∧ H b = some (box u v) ∧ BoxOk u v ∧ l ≠ b ∧ SqL K H l xs ∧ 1 ≤ xs.length ∧ xs.length ≤ 1000 ∧
  ∀ (x : V) (u' v' : Int), x ∈ xs → BoxOk u' v' → Q x (upd H b (box u' v'))
structure Blt (mg : Str → Option Value) : Prop where
  len : mg "len" = none
  abs : mg "abs" = none
  int : mg "int" = none
/-- a def that stands at a name of the module -/
def Cal (P : Program) (w : World) (K : PySem.W.Frag) (mg : Str → Option Value) (base : Heap) (CX : CXT) (name : Str) (k : Nat) (ps : List Str) (sp : Sp) : Prop :=
  ∃ (f : Addr) (fd : FuncData), FnOk P w K mg base CX k f fd ps sp ∧ mg name = some (.ref f) ∧ PySem.W.keepIn K (.ref f) = true ∧ Binds K fd ps []
theorem seqL_ne {K : PySem.W.Frag} {H : Hp} {l b : Addr} {o : HO} {xs : List V} (ne : l ≠ b) (h : SqL K H l xs) : SqL K (upd H b o) l xs := by
  rcases h with (h | ⟨o, h⟩) | h
  · exact .inl (.inl (by rw [upd_ne ne]; exact h))
  · exact .inl (.inr ⟨o, by rw [upd_ne ne]; exact h⟩)
  · exact .inr h
theorem atI_ints {ns : List Int} {i : Int} (h0 : 0 ≤ i) (hj : i.toNat < ns.length) : atI (ns.map V.int) i = some (.int ns[i.toNat]) := by
  have e : ixN (ns.map V.int).length i = some i.toNat := by
    unfold ixN
    rw [if_pos h0, if_pos (by rw [List.length_map]; omega)]
  show (ixN (ns.map V.int).length i).bind (fun j => (ns.map V.int)[j]?) = some (.int ns[i.toNat])
  rw [e]
  show (ns.map V.int)[i.toNat]? = some (.int ns[i.toNat])
  rw [List.getElem?_map, List.getElem?_eq_getElem hj]
  rfl
section
variable {P : Program} {w : World} {K : PySem.W.Frag} {mg : Str → Option Value} {base : Heap}
theorem scSeed : FnScope ["_law_script", "_law_k", "_law_cell"] ["_law_script", "_law_k"] (defScope sSeed) := ⟨rfl, rfl, rfl, by decide +kernel, rfl, by decide +kernel, by decide +kernel⟩
theorem scChoose : FnScope ["_law_box", "_law_many", "_law_digit", "_law_first"] ["_law_box", "_law_many"] (defScope sChoose) := ⟨rfl, rfl, rfl, by decide +kernel, rfl, by decide +kernel, by decide +kernel⟩
theorem scOneOf : FnScope ["_law_box", "_law_some"] ["_law_box", "_law_some"] (defScope sOneOf) := ⟨rfl, rfl, rfl, by decide +kernel, rfl, by decide +kernel, by decide +kernel⟩
theorem ok_choose {f : Addr} {fd : FuncData} (F : Fun K "_law_choose" "_law_choose" sChoose f fd) (T : Blt mg) : FnOk P w K mg base CX0 1 f fd ["_law_box", "_law_many"] spChoose := by
  refine F.ok scChoose (fun vs H Q E h => ?_) (fun cdv A outer s H vs Q E hr h => ?_)
  · obtain ⟨b, u, v, m, rfl, _⟩ := h
    rfl
  · obtain ⟨b, u, v, m, rfl, hb, ok, m1, m2, k⟩ := h
    refine ⟨_, pss_cons (ps_if (pt_cmpR op_gt (pe_ix ix_list (pv 0) pe_int (fun _ _ => rfl)) pe_int (nomark _))
        (pss_cons (ps_set (i := 2) scChoose.nd rfl (Or.inl rfl) (pe_op op_mod (pe_callTy call_int1 (by rfl) T.int (by decide +kernel) (pa_cons (pe_ix ix_list (pv 0) pe_int (fun _ _ => rfl)) pa_nil)) (pv 1)))
        (pss_cons (ps_asg (pe_op op_fdivW (pe_ix ix_list (pv 0) pe_int (fun _ _ => rfl)) (pv 1)) (pg_sub (pv 0) pe_int set_list))
        (pss_one (ps_ret (pv 2))))) pss_nil)
      (pss_cons (ps_set (i := 3) scChoose.nd rfl (Or.inl rfl) (pe_op op_mod (pe_callTy call_int1 (by rfl) T.int (by decide +kernel) (pa_cons (pe_op op_add (pe_op op_mul (pe_ix ix_list (pv 0) pe_int (fun _ _ => rfl)) pe_int) pe_int) pa_nil)) pe_int))
      (pss_cons (ps_asg (pe_op op_add (pe_op op_mod (pe_callTy call_int1 (by rfl) T.int (by decide +kernel) (pa_cons (pe_op op_add (pe_op op_mul (pv 3) pe_int) pe_int) pa_nil)) pe_int) pe_int) (pg_sub (pv 0) pe_int set_list))
      (pss_one (ps_ret (pe_op op_mod (pe_callTy call_int1 (by rfl) T.int (by decide +kernel) (pa_cons (pe_op op_fdivW (pe_op op_add (pe_op op_mul (pv 3) pe_int) (pe_ix ix_list (pv 0) pe_int (fun _ _ => rfl))) pe_int) pa_nil)) (pv 1)))))), ?_⟩
    obtain ⟨u0, v1, v2⟩ := ok
    have hm : (0 : Int) < m := by omega
    have hw : m.natAbs < 2 ^ 40 := by
      have : (2 : Nat) ^ 40 = 1099511627776 := by decide
      omega
    refine ⟨_, rfl, b, _, 0, _, rfl, rfl, SqL.of hb, rfl, _, _, rfl, rfl, _, rfl, ?_⟩
    refine ite2 (fun c => ?_) (fun c => ?_)
    · refine ⟨_, rfl, b, _, 0, _, rfl, rfl, SqL.of hb, rfl, .inl ⟨_, rfl, _, rfl, _, _, rfl, rfl, hm, ?_⟩⟩
      refine ⟨_, rfl, b, _, 0, _, rfl, rfl, SqL.of hb, rfl, _, rfl, _, _, rfl, rfl, wide_div hm hw (by decide) (by decide), ?_⟩
      refine ⟨_, rfl, b, _, 0, 0, rfl, rfl, hb, rfl, _, rfl, ?_⟩
      exact k _ _ _ (Int.emod_nonneg _ (by omega)) (Int.emod_lt_of_pos _ hm) ⟨Int.ediv_nonneg u0 (by omega), v1, v2⟩
    · refine ⟨_, rfl, b, _, 1, _, rfl, rfl, SqL.of hb, rfl, _, _, rfl, rfl, .inl (by constructor <;> omega), _, _, rfl, rfl, .inl ⟨_, rfl, _, _, rfl, rfl, (by show (0 : Int) < 2147483563; decide), ?_⟩⟩
      have a1 := Int.emod_nonneg (v * 40014 + 11) (by decide : (2147483563 : Int) ≠ 0)
      have a2 := Int.emod_lt_of_pos (v * 40014 + 11) (by decide : (0 : Int) < 2147483563)
      refine ⟨_, rfl, _, _, rfl, rfl, .inl (by constructor <;> omega), _, _, rfl, rfl, .inl ⟨_, rfl, _, _, rfl, rfl, (by show (0 : Int) < 2147483629; decide), _, _, rfl, rfl, ?_⟩⟩
      refine ⟨_, rfl, b, _, 1, 1, rfl, rfl, hb, rfl, ?_⟩
      have b1 := Int.emod_nonneg ((v * 40014 + 11) % 2147483563 * 40692 + 2903) (by decide : (2147483629 : Int) ≠ 0)
      have b2 := Int.emod_lt_of_pos ((v * 40014 + 11) % 2147483563 * 40692 + 2903) (by decide : (0 : Int) < 2147483629)
      refine ⟨_, rfl, _, _, rfl, rfl, .inl (by constructor <;> omega), _, rfl, b, _, 1, _, rfl, rfl, SqL.of upd_same, rfl, _, _, rfl, rfl, _, _, rfl, rfl, wide_div (b := 14) (by decide) (by decide) (by decide) (by decide), .inl ⟨_, rfl, _, rfl, _, _, rfl, rfl, hm, ?_⟩⟩
      exact k _ _ _ (Int.emod_nonneg _ (by omega)) (Int.emod_lt_of_pos _ hm) ⟨u0, by omega, by omega⟩
theorem ok_oneOf {f : Addr} {fd : FuncData} (F : Fun K "_law_one_of" "_law_one_of" sOneOf f fd) (T : Blt mg) (c : Cal P w K mg base CX0 "_law_choose" 1 ["_law_box", "_law_many"] spChoose) : FnOk P w K mg base CX0 2 f fd ["_law_box", "_law_some"] (spOneOf K) := by
  obtain ⟨fC, fdC, GC, mC, kC, bC⟩ := c
  refine F.ok scOneOf (fun vs H Q E h => ?_) (fun cdv A outer s H vs Q E hr h => ?_)
  · obtain ⟨b, l, u, v, xs, rfl, _⟩ := h
    rfl
  · obtain ⟨b, l, u, v, xs, rfl, hb, ok, ne, hS, x1, x2, k⟩ := h
    refine ⟨_, pss_one (ps_ret (pe_ix ix_list (pv 1) (pe_call GC hr rfl mC kC bC .nil pass0 (pa_cons (pv 0) (pa_cons (pe_callB call_len_seq (by rfl) T.len PySem.boot_len (pa_cons (pv 1) pa_nil)) pa_nil))) (fun _ _ => rfl))), ?_⟩
    refine ⟨_, rfl, _, rfl, _, rfl, l, _, rfl, .inl hS, b, u, v, _, rfl, hb, ok, (by omega), (by omega), fun d u' v' d0 d1 ok' => ?_⟩
    have hj : d.toNat < xs.length := by omega
    refine ⟨l, xs, d, xs[d.toNat], rfl, rfl, ?_, ?_, k _ _ _ (List.getElem_mem hj) ok'⟩
    · exact seqL_ne ne hS
    · have e : ixN xs.length d = some d.toNat := by
        unfold ixN
        rw [if_pos d0, if_pos (by omega)]
      show (ixN xs.length d).bind (fun j => xs[j]?) = some xs[d.toNat]
      rw [e]
      exact List.getElem?_eq_getElem hj
theorem ok_seed {f : Addr} {fd : FuncData} (F : Fun K "_law_seed" "_law_seed" sSeed f fd) (T : Blt mg) : FnOk P w K mg base CX0 1 f fd ["_law_script", "_law_k"] (spSeed K) := by
  refine F.ok scSeed (fun vs H Q E h => ?_) (fun cdv A outer s H vs Q E hr h => ?_)
  · obtain ⟨a, ns, k, rfl, _⟩ := h
    rfl
  · obtain ⟨a, ns, k, rfl, hS, hl, k0, k1, go⟩ := h
    refine ⟨_, pss_cons (ps_set (i := 2) scSeed.nd rfl (Or.inl rfl) (pe_op op_add (pe_op op_mul pe_int (pv 1)) pe_int))
      (pss_cons (ps_if (pt_cmpR op_lt (pv 1) (pe_callB call_len_seq (by rfl) T.len PySem.boot_len (pa_cons (pv 0) pa_nil)) (nomark _))
        (pss_one (ps_set (i := 2) scSeed.nd rfl (Or.inl rfl) (pe_callB call_abs (by rfl) T.abs (by decide +kernel) (pa_cons (pe_ix ix_list (pv 0) (pv 1) (fun _ _ => rfl)) pa_nil))))
        (pss_one (ps_if (pt_cmpR op_gt (pe_callB call_len_seq (by rfl) T.len PySem.boot_len (pa_cons (pv 0) pa_nil)) pe_int (nomark _))
          (pss_one (ps_set (i := 2) scSeed.nd rfl (Or.inl rfl) (pe_op op_add (pv 2) (pe_op op_mul (pe_op op_mod (pe_callTy call_int1 (by rfl) T.int (by decide +kernel) (pa_cons (pe_callB call_abs (by rfl) T.abs (by decide +kernel) (pa_cons (pe_ix ix_list (pv 0) (pe_op op_mod (pe_callTy call_int1 (by rfl) T.int (by decide +kernel) (pa_cons (pv 1) pa_nil)) (pe_callB call_len_seq (by rfl) T.len PySem.boot_len (pa_cons (pv 0) pa_nil))) (fun _ _ => rfl)) pa_nil)) pa_nil)) pe_int) pe_int))))
          pss_nil)))
      (pss_one (ps_ret (pe_lst (pa_cons (pe_ifExp (pt_cmpR op_ge (pv 2) (pe_op op_pow pe_int pe_int) (nomark _)) (pv 2) pe_int)
        (pa_cons (pe_op op_add (pe_op op_mod (pe_callTy call_int1 (by rfl) T.int (by decide +kernel) (pa_cons (pe_op op_add (pe_op op_mul (pe_op op_mod (pe_callTy call_int1 (by rfl) T.int (by decide +kernel) (pa_cons (pv 2) pa_nil)) pe_int) pe_int) (pe_op op_mul pe_int (pv 1))) pa_nil)) pe_int) pe_int) pa_nil)))))), ?_⟩
    have hk1 : -(2 ^ 64) < (7411 : Int) ∧ (7411 : Int) < 2 ^ 64 := by constructor <;> decide
    refine ⟨_, rfl, _, _, rfl, rfl, .inl hk1, _, _, rfl, rfl, ?_⟩
    refine ⟨_, rfl, _, rfl, a, _, rfl, .inl hS, _, _, rfl, rfl, _, rfl, ?_⟩
    rw [List.length_map]
    refine ite2 (fun c => ?wayA) (fun c => ?wayB)
    case' wayA =>
      have c' : k < (ns.length : Int) := of_decide_eq_true c
      have hj : k.toNat < ns.length := by omega
      refine ⟨_, rfl, _, rfl, a, _, k, .int ns[k.toNat], rfl, rfl, hS, atI_ints k0 hj, _, rfl, ?_⟩
      have hc : 0 ≤ (if ns[k.toNat] < 0 then -ns[k.toNat] else ns[k.toNat]) := by split <;> omega
      generalize (if ns[k.toNat] < 0 then -ns[k.toNat] else ns[k.toNat]) = cell at hc
    case' wayB =>
      refine ⟨_, rfl, a, _, rfl, .inl hS, _, _, rfl, rfl, _, rfl, ?_⟩
      rw [List.length_map]
      refine ite2 (fun c2 => ?wayC) (fun c2 => ?wayD)
    case' wayC =>
      have c' : (0 : Int) < (ns.length : Int) := of_decide_eq_true c2
      have r0 := Int.emod_nonneg k (show (ns.length : Int) ≠ 0 by omega)
      have r1 := Int.emod_lt_of_pos k c'
      have hj : (k % (ns.length : Int)).toNat < ns.length := by omega
      refine ⟨_, rfl, _, rfl, _, rfl, .inl ⟨_, rfl, _, rfl, a, _, rfl, .inl hS, _, _, rfl, rfl, (by rw [List.length_map]; exact c'), ?_⟩⟩
      rw [List.length_map]
      refine ⟨a, _, k % (ns.length : Int), .int ns[(k % (ns.length : Int)).toNat], rfl, rfl, hS, atI_ints r0 hj, _, rfl, .inl ⟨_, rfl, _, _, rfl, rfl, (by show (0 : Int) < 2147483629; decide), _, _, rfl, rfl, .inr (by constructor <;> decide), _, _, rfl, rfl, ?_⟩⟩
      generalize (if ns[(k % (ns.length : Int)).toNat] < 0 then -ns[(k % (ns.length : Int)).toNat] else ns[(k % (ns.length : Int)).toNat]) = z
      have z0 := Int.emod_nonneg z (by decide : (2147483629 : Int) ≠ 0)
      have hc : 0 ≤ 7411 * k + 29 + z % 2147483629 * 40093 := by omega
      generalize 7411 * k + 29 + z % 2147483629 * 40093 = cell at hc
    case' wayD =>
      have hc : 0 ≤ 7411 * k + 29 := by omega
      generalize 7411 * k + 29 = cell at hc
    all_goals (
      refine ⟨_, rfl, _, _, rfl, rfl, ⟨by decide, by decide, by decide⟩, _, _, rfl, rfl, _, rfl, ?_⟩
      have e1 := Int.emod_nonneg cell (by decide : (2147483629 : Int) ≠ 0)
      have e2 := Int.emod_lt_of_pos cell (by decide : (0 : Int) < 2147483629)
      have f1 := Int.emod_nonneg (cell % 2147483629 * 48271 + 20021 * k) (by decide : (2147483629 : Int) ≠ 0)
      have f2 := Int.emod_lt_of_pos (cell % 2147483629 * 48271 + 20021 * k) (by decide : (0 : Int) < 2147483629)
      refine ite2 (fun _ => ⟨_, rfl, ?_⟩) (fun _ => ?_)
      all_goals (
        refine ⟨_, rfl, .inl ⟨_, rfl, _, _, rfl, rfl, (by show (0 : Int) < 2147483629; decide), _, _, rfl, rfl, .inl (by constructor <;> omega), _, rfl, _, _, rfl, rfl, .inl (by constructor <;> decide), _, _, rfl, rfl, .inl ⟨_, rfl, _, _, rfl, rfl, (by show (0 : Int) < 2147483629; decide), _, _, rfl, rfl, (by show 2 ≤ sizeLine; decide), fun p hp => ?_⟩⟩⟩
        exact go p _ _ hp ⟨by omega, by omega, by omega⟩))
end
end V3

set_option Elab.async false
set_option linter.all false
set_option maxRecDepth 100000
/-! Rules of our own over the hand layer: an object made whose making may raise, within a try; str(o) by its own def; isinstance of a caught error with fields. -/
namespace V3
open PySem L2 PyProof.Rows
section
variable {X : Cx} {CX : CXT} {k : Nat} {f C : Addr} {fd : FuncData} {ps : List Str} {sp : Sp} {E : L2.St → XK} {x : Str} {p pos : Pos} {e : Expr} {es : List Expr} {t : TA} {dvs : List V} {ds : List Value}
theorem make_at {pins : List (Addr × Obj)} {σ : L2.St} {H : Hp} {s : Shared} {Q : VK}
    {us : List Value} {vs : List V} (M : Mk X.K C f)
    (F : FnOk X.prog X.w X.K X.mg X.base CX k f fd ps sp)
    (room : Room (k + 1) X.A) (bi : Binds X.K fd ps ds) (va : Vals dvs ds)
    (out : PassesAt CX X σ (E σ)) (I : Inv X pins σ H s) (r : Vals vs us)
    (h : ∀ y dy, H y = none → H dy = none → dy ≠ y →
      sp (.ref y :: (vs ++ dvs)) (upd (upd H dy (.own y)) y (.ins C dy []))
        (fun v H2 => v = .non ∧ Q (.ref y) H2) (E σ)) :
    wpAny (model X.prog X.w) X.A (call (.ref C) us) (EP X pins σ Q) X.xe s := by
  have want := h (s.heap.objs.size + 1) s.heap.objs.size
    (I.hok.fresh (Nat.le_succ _)) (I.hok.fresh (Nat.le_refl _))
    (Nat.ne_of_lt (Nat.lt_succ_self _))
  have J := Inv.made (C := C) I
  have rr : Vals (V.ref (s.heap.objs.size + 1) :: (vs ++ dvs))
      (Value.ref (s.heap.objs.size + 1) :: (us ++ ds)) := .cons rfl (r.append va)
  have len : (Value.ref (s.heap.objs.size + 1) :: us ++ ds).length = ps.length := by
    have q := rr.length
    rw [F.len _ _ _ _ want] at q
    exact q.symm
  have bound := bi _ (Value.ref (s.heap.objs.size + 1) :: us) J.kIn len
  have ran := F.run _ X.stack _ _ ⟨Value.ref (s.heap.objs.size + 1) :: us, []⟩
    (Value.ref (s.heap.objs.size + 1) :: (us ++ ds)) _ _ (E σ)
    (room.make C us []) (J.env0.make C us []) bound rr want
  refine wpAny_call (make_map (f := f) I.kIn M.makes M.init
    (beq_iff_eq.mp M.fn) (codeAny_mono ran fun res s' hq => ?_))
  match res, hq with
  | .error err, hq => exact out pins _ _ err s' J hq
  | .ok (.ret u), hq =>
    obtain ⟨v, H', I3, rv, ev, q3⟩ := J.after hq
    subst ev
    exact ⟨rv, ⟨V.ref (s.heap.objs.size + 1), H', I3, rfl, q3⟩⟩
  | .ok .next, hq => exact hq.elim
  | .ok .brk, hq => exact hq.elim
  | .ok .cont, hq => exact hq.elim
/-- C(e, ..) where what its making raises is wished for at the slots -/
def tMakeS (C : Addr) (sp : Sp) (dvs : List V) (E : L2.St → XK) (t : TA) : TE :=
  fun σ H Q => t σ H fun vs H1 => ∀ y dy, H1 y = none → H1 dy = none → dy ≠ y →
    sp (.ref y :: (vs ++ dvs)) (upd (upd H1 dy (.own y)) y (.ins C dy []))
      (fun v H2 => v = .non ∧ Q (.ref y) H2) (E σ)
theorem pe_makeS (M : Mk X.K C f) (F : FnOk X.prog X.w X.K X.mg X.base CX k f fd ps sp)
    (room : Room (k + 1) X.A) (hg : Gl X x) (hm : X.mg x = some (.ref C))
    (bi : Binds X.K fd ps ds) (va : Vals dvs ds) (out : ∀ σ, PassesAt CX X σ (E σ))
    (ha : PA X (e :: es) t) (hdb : (x == ("__debug__" : Str)) = false := by decide)
    (he : starEach (e :: es) X.env = (false, eval e X.env) :: starEach es X.env := by rfl)
    (hpl : (backTo pos (starEach es X.env)).any (·.1) = false := by rfl) :
    PE X (.Call (.Name x p) (e :: es) [] pos) (tMakeS C sp dvs E t) := by
  refine ⟨fun pins s σ H Q I h => wpAny_Call_Name_kw (ld_glob I hg hm ?_ hdb)⟩
  refine PySem.W.callWith_K (h₀ := X.base) I.ok.mod.kin M.kp ?_ he hpl
  exact thn (ha.run pos pins s σ H _ I h) fun us s1 ⟨vs, H1, I1, r, q⟩ =>
    ⟨I1.kIn, make_at M F room bi va (out σ) I1 r q⟩
end
/-! str(o), o of an own class with its own __str__ -/
section
variable {X : Cx} {CX : CXT} {n : Nat} {f C : Addr} {fd : FuncData} {ps : List Str} {sp : Sp} {E : XK}
theorem room2 {A : Around} (r : Room (n + 2) A) : Room n A.in1.in1 := Room.in1 (k := n) (Room.in1 (k := n + 1) r)
def rStrO (C : Addr) (sp : Sp) (E : XK) : List V → Hp → VK → Prop := fun xs H Q =>
  ∃ a dx fs, xs = [.ref a] ∧ H a = some (.ins C dx fs) ∧
    sp [.ref a] H (fun v H' => ∃ y : Str, v = .str y ∧ Q (.str y) H') E
theorem call_strO (F : FnOk X.prog X.w X.K X.mg X.base CX n f fd ps sp)
    (at_ : PySem.W.findIn X.K (.ref C) "__str__" = some (some (.ref f)))
    (isf : PySem.W.isFn X.K (.ref f) = true) (bi : Binds X.K fd ps [])
    (out : Passes CX X E) (room : Room (n + 2) X.A) : CallR X (.type "str") (rStrO C sp E) := by
  intro pins s σ H xs us Q I r h
  obtain ⟨a, dx, fs, rfl, ha, want⟩ := h
  cases r with
  | cons r1 rn =>
    cases rn
    cases r1
    obtain ⟨mA, O, _⟩ := ins_get I.hok ha
    obtain ⟨od, J, _⟩ := O.look
    have rr := room2 room
    refine PySem.W.kso_call rr.units0 I.kIn J at_ isf ?_
    have e0 : Env0 X.prog X.w X.K X.mg X.base X.A.in1.in1 X.stack s H := I.env0.in1.in1
    have len := F.len _ _ _ _ want
    have bound : BindsTo s fd ⟨[.ref a], []⟩ (ps.zip [Value.ref a]) := by
      have b := bi s [.ref a] I.kIn (by simpa using len)
      simpa using b
    have ran := F.run X.A.in1.in1 X.stack s H ⟨[.ref a], []⟩ [.ref a] [.ref a] _ E rr e0 bound (.cons rfl .nil) want
    refine wpAny_call (codeAny_mono ran fun res s' hq => ?_)
    match res, hq with
    | .error err, hq => exact out pins σ H s err s' I hq
    | .ok (.ret u), hq =>
      obtain ⟨v, H', I', rv, y, ev, q⟩ := I.after hq
      subst ev
      obtain ⟨t, rfl⟩ := rv
      exact ⟨.str y, H', I', ⟨t, rfl⟩, q⟩
    | .ok .next, hq => exact hq.elim
    | .ok .brk, hq => exact hq.elim
    | .ok .cont, hq => exact hq.elim
end
/-! isinstance(e, c), isinstance(e, (c, ..)), e the error that the suite holds -/
structure XClass (K : PySem.W.Frag) (D : Addr) : Prop where
  is : (PySem.W.clsIn K D).isSome = true
  ga : PySem.W.findIn K (.ref D) "__getattribute__" = some (some (.builtin "BaseException.__getattribute__"))
  gt : PySem.W.findIn K (.ref D) "__getattr__" = some none
  sb : PySem.W.subIn K (.ref D) (.type "BaseException") = some true
  ca : PySem.W.findIn K (.ref D) "__class__" = some (some (.builtin "object.__class__"))
  gn : PySem.W.specialIn K (.builtin "object.__class__") "__get__" = some (some (.builtin "getset_descriptor.__get__"))
  tk : PySem.W.takesIn K (.builtin "object.__class__") = some true
  mo : PySem.W.mroIn K D (.type "object") = some true
section
variable {X : Cx} {a D : Addr} {oe : Obj} {pn : List (Addr × Obj)} {d : Option Addr}
theorem held_at {pins : List (Addr × Obj)} {σ : L2.St} {H : Hp} {s : Shared} {dd : Addr} {fs : List (Str × V)}
    (hz : Zc (.ref D) (some dd) oe) (hf : ∃ vs, oe.data = .fields vs)
    (I : Inv (X.suite a ((a, oe) :: pn)) pins σ H s) (hd : H dd = some (.xd fs)) :
    ∃ od : Obj, PySem.W.InstAt s.heap a oe D (some od) := by
  obtain ⟨ha, _⟩ := I.pin (a, oe) (List.mem_append_left _ List.mem_cons_self)
  obtain ⟨vs, hv⟩ := hf
  have hx : ObjOk X.prog X.w H s.heap dd (.xd fs) := I.hok dd _ hd
  obtain ⟨mA, hns, _⟩ := hx
  obtain ⟨od, ho, _⟩ := lookIn_ns hns
  exact ⟨od, ha, hz.1, by unfold PySem.W.notCls; rw [hv] <;> rfl, by rw [hz.2]; exact ho⟩
def rIsX (K : PySem.W.Frag) (D a : Addr) (cls : Value) (d : Option Addr) : List V → Hp → VK → Prop := fun xs H Q =>
  ∃ (dd : Addr) (fs : List (Str × V)) (c : V) (u : Value) (b : Bool), cls = .ref D ∧ d = some dd ∧ H dd = some (.xd fs) ∧
    xs = [.ref a, c] ∧ ClsV c u ∧ PySem.W.kitOne K (.ref D) u = some b ∧ Q (.bl b) H
theorem call_isX {cls : Value} (T : XClass X.K D) (hz : Zc cls d oe) (hf : ∃ vs, oe.data = .fields vs) :
    CallR (X.suite a ((a, oe) :: pn)) (.builtin "isinstance") (rIsX X.K D a cls d) := by
  intro pins s σ H xs us Q I r h
  obtain ⟨dd, fs, c, u, b, rfl, rfl, hd, rfl, k, e, q⟩ := h
  obtain ⟨u1, u2, rfl, r1, r2⟩ := vals2 r
  cases (show u1 = Value.ref a from r1)
  have e2 := k.eq r2
  subst e2
  obtain ⟨od, J⟩ := held_at hz hf I hd
  exact PySem.W.kia_one (PySem.W.kitx_exc T.is T.ga T.gt T.sb T.ca T.gn T.tk T.mo) I.kIn J e (fun z => nomatch z)
    fun tk => ⟨.bl b, H, I.tok tk, rfl, q⟩
def rIsXT (K : PySem.W.Frag) (D a : Addr) (cls : Value) (d : Option Addr) : List V → Hp → VK → Prop := fun xs H Q =>
  ∃ (dd : Addr) (fs : List (Str × V)) (tp : Addr) (cs : List V) (us : List Value) (b : Bool), cls = .ref D ∧ d = some dd ∧ H dd = some (.xd fs) ∧
    xs = [.ref a, .ref tp] ∧ H tp = some (.tup cs) ∧ Paired ClsV cs us ∧ PySem.W.kitAny K (.ref D) us = some b ∧ Q (.bl b) H
theorem call_isXT {cls : Value} (T : XClass X.K D) (hz : Zc cls d oe) (hf : ∃ vs, oe.data = .fields vs) :
    CallR (X.suite a ((a, oe) :: pn)) (.builtin "isinstance") (rIsXT X.K D a cls d) := by
  intro pins s σ H xs us Q I r h
  obtain ⟨dd, fs, tp, cs, ws, b, rfl, rfl, hd, rfl, hT, k, e, q⟩ := h
  obtain ⟨u1, u2, rfl, r1, r2⟩ := vals2 r
  cases (show u1 = Value.ref a from r1)
  cases (show u2 = Value.ref tp from r2)
  obtain ⟨od, J⟩ := held_at hz hf I hd
  have okT : ObjOk X.prog X.w H s.heap tp (.tup cs) := I.hok tp _ hT
  obtain ⟨_, items, vals, ob, got, isT, m, dat⟩ := okT
  have same := ClsV.all k vals
  subst same
  obtain ⟨c0, d0, dt0, s0⟩ := ob
  simp only at isT dat
  subst isT dat
  exact PySem.W.kia_tup (PySem.W.kitx_exc T.is T.ga T.gt T.sb T.ca T.gn T.tk T.mo) I.kIn J got e (fun z => nomatch z)
    fun tk => ⟨.bl b, H, I.tok tk, rfl, q⟩
end
end V3

set_option Elab.async false
set_option linter.all false
set_option maxRecDepth 100000
/-! Further rules of our own: C() without an own __init__, len(o) by an own __len__, repr of small values, a list against the empty one. -/
namespace V3
open PySem L2 PyProof.Rows
section
variable {X : Cx} {C : Addr} {x : Str} {p pos : Pos}
/-- what a class without an own __init__ must have to be made -/
structure Mk0 (K : PySem.W.Frag) (C : Addr) : Prop where
  makes : PySem.W.makesIn K C = true
  ini : PySem.W.findIn K (.ref C) "__init__" = some (some (.builtin "object.__init__"))
  kp : PySem.W.keepIn K (.ref C) = true
def tNew (C : Addr) : TE := fun σ H Q => ∀ y dy, H y = none → H dy = none → dy ≠ y → Q (.ref y) (upd (upd H dy (.own y)) y (.ins C dy []))
theorem pe_new0 (M : Mk0 X.K C) (hg : Gl X x) (hm : X.mg x = some (.ref C)) (hdb : (x == ("__debug__" : Str)) = false := by decide) :
    PE X (.Call (.Name x p) [] [] pos) (tNew C) := by
  refine ⟨fun pins s σ H Q I h => wpAny_Call_Name_kw (ld_glob I hg hm ?_ hdb)⟩
  refine PySem.W.callWith_K0 I.kIn M.kp ?_
  have J := Inv.made (C := C) I
  have want := h (s.heap.objs.size + 1) s.heap.objs.size (I.hok.fresh (Nat.le_succ _)) (I.hok.fresh (Nat.le_refl _)) (Nat.ne_of_lt (Nat.lt_succ_self _))
  show wpAny _ _ (call (.ref C) []) _ _ _
  have KX := I.kIn
  refine wpAny_call (make_map0 KX M.makes M.ini (fun self => PySem.W.Looks.of_pure (PySem.W.oi_bind self)) ?_)
  have Y := PySem.W.makes_of (M := model X.prog X.w) KX M.makes
  obtain ⟨hh, g, d, t, os⟩ := s
  have own : ((hh.push PySem.W.emptyDict).push (PySem.W.instObj C hh.objs.size)).get? (hh.objs.size + 1) = some (PySem.W.instObj C hh.objs.size) := by heap_get
  have ty : PySem.W.Looks (model X.prog X.w) ((hh.push PySem.W.emptyDict).push (PySem.W.instObj C hh.objs.size)) (typeOf (.ref (hh.objs.size + 1))) (.ref C) :=
    (PySem.W.Looks.ld own).andThen .now
  have sub : PySem.W.Looks (model X.prog X.w) ((hh.push PySem.W.emptyDict).push (PySem.W.instObj C hh.objs.size)) (isInstance (.ref (hh.objs.size + 1)) (.type "object")) true := ty.andThen (Y.top.keeps fun b o e => Heap.get?_push_of_some _ (Heap.get?_push_of_some _ e))
  refine codeAny_call_builtin PySem.W.oi_plain PySem.W.entry_oi
    (@PySem.W.check_slot (model X.prog X.w) _ _ _ "object.__init__" "object" "__init__" (.ref (hh.objs.size + 1)) [] [] _
      PySem.W.oi_kind PySem.W.oi_split sub (PySem.W.oi_args (.ref (hh.objs.size + 1))) ?_)
  rw [PySem.W.oi_run]
  exact wpAny_pure (And.intro rfl ⟨V.ref (hh.objs.size + 1), _, J, rfl, want⟩)
end
section
variable {X : Cx} {CX : CXT} {n : Nat} {f C : Addr} {fd : FuncData} {ps : List Str} {sp : Sp} {E : XK}
/-- len(o), o of a class with its own __len__ -/
def rLenO (C : Addr) (sp : Sp) (E : XK) : List V → Hp → VK → Prop := fun xs H Q =>
  ∃ a dx fs, xs = [.ref a] ∧ H a = some (.ins C dx fs) ∧ sp [.ref a] H (fun v H' => ∃ i : Int, v = .int i ∧ (0 ≤ i ∧ i < 2 ^ 63) ∧ Q (.int i) H') E
theorem call_lenO (F : FnOk X.prog X.w X.K X.mg X.base CX n f fd ps sp) (at_ : PySem.W.findIn X.K (.ref C) "__len__" = some (some (.ref f)))
    (isf : PySem.W.isFn X.K (.ref f) = true) (bi : Binds X.K fd ps []) (out : Passes CX X E) (room : Room (n + 1) X.A) : CallR X (.builtin "len") (rLenO C sp E) := by
  intro pins s σ H xs us Q I r h
  obtain ⟨a, dx, fs, rfl, ha, want⟩ := h
  cases r with
  | cons r1 rn =>
    cases rn
    cases r1
    obtain ⟨mA, O, _⟩ := ins_get I.hok ha
    obtain ⟨od, J, _⟩ := O.look
    obtain ⟨m, hF⟩ := I.fr
    have rr : Room n X.A.in1 := Room.in1 (k := n) room
    refine PySem.W.len_K hF I.ok.mod.kin J at_ isf ?_
    have e0 : Env0 X.prog X.w X.K X.mg X.base X.A.in1 X.stack s H := I.env0.in1
    have len := F.len _ _ _ _ want
    have bound : BindsTo s fd ⟨[.ref a], []⟩ (ps.zip [Value.ref a]) := by
      have b := bi s [.ref a] I.kIn (by simpa using len)
      simpa using b
    have ran := F.run X.A.in1 X.stack s H ⟨[.ref a], []⟩ [.ref a] [.ref a] _ E rr e0 bound (.cons rfl .nil) want
    refine wpAny_call (codeAny_mono ran fun res s' hq => ?_)
    match res, hq with
    | .error err, hq => exact out pins σ H s err s' I hq
    | .ok (.ret u), hq =>
      obtain ⟨v, H', I', rv, i, ev, hi, q⟩ := I.after hq
      subst ev
      obtain ⟨t, rfl⟩ := rv
      exact ⟨hi, .int i, H', I'.tok _, ⟨_, rfl⟩, q⟩
    | .ok .next, hq => exact hq.elim
    | .ok .brk, hq => exact hq.elim
    | .ok .cont, hq => exact hq.elim
end
section
variable {X : Cx}
theorem call_repr_str : CallR X (.builtin "repr") (fun xs H Q => ∃ z : Str, xs = [.str z] ∧ (reprText z).length ≤ sizeLine ∧ Q (.str (reprText z)) H) := by
  intro pins s σ H xs us Q I r h
  obtain ⟨z, rfl, hz, q⟩ := h
  obtain ⟨u, rfl, t, rfl⟩ := vals1 r
  exact PySem.P.repr_of_str ⟨.str _, H, I.tok _, ⟨_, rfl⟩, q⟩ hz
/-- an int or a text -/
def rRepr : List V → Hp → VK → Prop := fun xs H Q => (∃ i : Int, xs = [.int i] ∧ i.natAbs.log2 < 1920 ∧ Q (.str (toString i)) H) ∨
  (∃ z : Str, xs = [.str z] ∧ (reprText z).length ≤ sizeLine ∧ Q (.str (reprText z)) H)
theorem call_reprIS : CallR X (.builtin "repr") rRepr := by
  intro pins s σ H xs us Q I r h
  rcases h with h | h
  · exact SkE.call_repr_int pins s σ H xs us Q I r h
  · exact call_repr_str pins s σ H xs us Q I r h
/-- xs != [] -/
def rNeE : R2 := fun x y H Q => ∃ l b xs, x = .ref l ∧ y = .ref b ∧ H l = some (.lst xs) ∧ H b = some (.lst []) ∧ Q (.bl (!xs.isEmpty)) H
theorem op_neE (hu : X.A.units < cLine) : OpR X (compareOp .NotEq) rNeE := by
  intro pins s σ H x y v u Q I rx ry h
  obtain ⟨l, b, xs, rfl, rfl, hl, hb, q⟩ := h
  cases rx
  cases ry
  obtain ⟨z, its, k, r, e⟩ := I.hok l _ hl
  obtain ⟨z2, its2, k2, r2, e2⟩ := I.hok b _ hb
  cases r2
  have L1 : s.heap.IsList l its.toArray := ⟨_, e, rfl, k, rfl⟩
  have L2' : s.heap.IsList b ([] : List Value).toArray := ⟨_, e2, rfl, k2, rfl⟩
  refine PySem.W.cmp_ofNotEq ?_
  cases r with
  | nil =>
    have c := PySem.SeqAt.RcNeAt.lists (e := fun _ => true) L1 L2' rfl hu (fun j h1 _ => absurd h1 (Nat.not_lt_zero _))
    exact c X.prog X.w X.xe _ ⟨.bl false, H, I, rfl, q⟩
  | @cons x0 u0 xs0 us0 r0 rr =>
    have c := PySem.SeqAt.RcNeAt.lists_lengths L1 L2' (by simp) hu
    exact c X.prog X.w X.xe _ ⟨.bl true, H, I, rfl, q⟩
end
end V3

set_option Elab.async false
set_option linter.all false
set_option maxRecDepth 100000
/-! Further rules of our own: xs[a:b:k]; a class that stands in a local name, called. -/
namespace V3
open PySem PySem.Spec PyProof.Rows L2
/-- the items of xs[lo:hi:st] -/
def stepV (xs : List V) (lo hi st : Option Int) : List V :=
  (sliceRange (sliceBounds lo hi st xs.length).1 (sliceBounds lo hi st xs.length).2.1 (sliceBounds lo hi st xs.length).2.2).filterMap (fun i => xs[i]?)
theorem vals_pick {xs : List V} {us : List Value} (r : Vals xs us) : ∀ idx : List Nat, Vals (idx.filterMap (fun i => xs[i]?)) (idx.filterMap (fun i => us.toArray[i]?))
  | [] => .nil
  | i :: idx => by
    have ih := vals_pick r idx
    rw [List.filterMap_cons, List.filterMap_cons]
    cases e : xs[i]? with
    | none =>
      have e2 : us.toArray[i]? = none := by
        rw [List.getElem?_toArray]
        exact r.none_of e
      rw [e2]
      exact ih
    | some x =>
      obtain ⟨u, hu, ru⟩ := r.get e
      have e2 : us.toArray[i]? = some u := by
        rw [List.getElem?_toArray]
        exact hu
      rw [e2]
      exact .cons ru ih
section
variable {X : Cx} {e : Expr} {te : TE} {lo hi st : Option Expr} {tl th ts : TO} {p2 pos : Pos}
def tStep (K : PySem.W.Frag) (te : TE) (tl th ts : TO) : TE := fun σ H Q => te σ H fun x H1 => tl σ H1 fun l H2 => th σ H2 fun u H3 => ts σ H3 fun k H4 =>
  ∃ a xs, x = .ref a ∧ SqL K H4 a xs ∧ k ≠ some 0 ∧ (stepV xs l u k).length ≤ sizeLine ∧ ∀ p, H4 p = none → Q (.ref p) (upd H4 p (.lst (stepV xs l u k)))
theorem pe_step (he : PE X e te) (hl : PO X lo tl) (hu : PO X hi th) (hk : PO X st ts)
    (hop : ∀ (o : Value) (n : Addr), subscripted (.Slice lo hi st p2) false o (.ref n) = operate [o, .ref n] (getItem o (.ref n)) := by intro _ _; with_unfolding_all rfl) :
    PE X (.Subscript e (.Slice lo hi st p2) pos) (tStep X.K te tl th ts) := by
  refine ⟨fun pins s σ H Q I h => ?_⟩
  refine Subscript_ (thn (he.run pins s σ H _ I h) fun v s1 ⟨x, H1, I1, r1, q1⟩ => ?_)
  refine wpAny_Slice (thn (hl.run pins s1 σ H1 _ I1 q1) fun vl s2 ⟨l, H2, I2, pl, q2⟩ =>
    thn (hu.run pins s2 σ H2 _ I2 q2) fun vu s3 ⟨u, H3, I3, pu, q3⟩ =>
    thn (hk.run pins s3 σ H3 _ I3 q3) fun vk s4 ⟨k, H4, I4, pk, q4⟩ => ?_)
  obtain ⟨a, xs, rfl, hx, hk0, hsz, q⟩ := q4
  have J : Inv X pins σ H4 { s4 with heap := s4.heap.push { cls := .type "slice", data := .fields #[vl, vu, vk] } } := I4.kept (t' := s4.toks) fun b ob q => Heap.get?_push_of_some _ q
  cases r1
  obtain ⟨its, r, ht, hz⟩ := J.list hx
  have hlen := r.length
  have got : wpAny (model X.prog X.w) X.A (getItem (.ref a) (.ref s4.heap.objs.size)) (EP X pins σ Q) X.xe { s4 with heap := s4.heap.push { cls := .type "slice", data := .fields #[vl, vu, vk] } } := by
    refine wpAny_getItem_list_slice ht.isList (Heap.IsSliceOf.new ..) pl pu pk hk0 ?_ (by rw [List.size_toArray] <;> omega)
    have e : slicePick its.toArray l u k = ((sliceRange (sliceBounds l u k xs.length).1 (sliceBounds l u k xs.length).2.1 (sliceBounds l u k xs.length).2.2).filterMap (fun i => its.toArray[i]?)).toArray := by
      unfold slicePick
      rw [List.size_toArray, ← hlen]
    rw [e]
    refine ⟨.ref (s4.heap.push _).objs.size, _, J.laid (t' := s4.toks) (o := .lst (stepV xs l u k)) (fun b ob q => Heap.get?_push_of_some _ q) (Nat.le_refl _) ?_, rfl, q _ (J.hok.fresh (Nat.le_refl _))⟩
    exact ⟨hsz, _, 0, vals_pick r _, Heap.get?_push_size _ rfl⟩
  show wpAny (model X.prog X.w) X.A (subscriptTail e (.Slice lo hi st p2) (.ref a) (.ref s4.heap.objs.size)) (EP X pins σ Q) X.xe { s4 with heap := s4.heap.push { cls := .type "slice", data := .fields #[vl, vu, vk] } }
  exact tail_any (ops := [.ref a, .ref s4.heap.objs.size]) ht.isList.typeIs slot_list_getitem.lookup got (hop _ _)
end
section
variable {X : Cx} {CX : CXT} {k i : Nat} {f C : Addr} {fd : FuncData} {ps : List Str} {sp : Sp} {E : XK} {x : Str} {p pos : Pos} {e : Expr} {es : List Expr} {t : TA} {dvs : List V} {ds : List Value}
/-- c(e, ..), c a local name that holds the class at C -/
def tMakeL (i : Nat) (C : Addr) (sp : Sp) (dvs : List V) (E : XK) (t : TA) : TE := fun σ H Q => σ[i]? = some (some (.ref C)) ∧ tMake C sp dvs E t σ H Q
theorem pe_makeL (M : Mk X.K C f) (F : FnOk X.prog X.w X.K X.mg X.base CX k f fd ps sp) (room : Room (k + 1) X.A) (hN : X.N[i]? = some x) (hv : Vis X.env.scope x)
    (bi : Binds X.K fd ps ds) (va : Vals dvs ds) (out : Passes CX X E) (ha : PA X (e :: es) t)
    (hdb : (x == ("__debug__" : Str)) = false := by decide) (hcd : (x == ("__classdict__" : Str)) = false := by decide)
    (he : starEach (e :: es) X.env = (false, eval e X.env) :: starEach es X.env := by rfl) (hpl : (backTo pos (starEach es X.env)).any (·.1) = false := by rfl) :
    PE X (.Call (.Name x p) (e :: es) [] pos) (tMakeL i C sp dvs E t) := by
  refine ⟨fun pins s σ H Q I h => ?_⟩
  obtain ⟨at_, want⟩ := h
  refine wpAny_Call_Name_kw (thn ((pe_var (pos := p) hN hv hdb hcd).run pins s σ H (fun v H1 => v = .ref C ∧ H1 = H) I ⟨.ref C, at_, rfl, rfl⟩) fun u s1 ⟨v, H1, I1, r1, q1⟩ => ?_)
  obtain ⟨rfl, rfl⟩ := q1
  cases r1
  refine PySem.W.callWith_K (h₀ := X.base) I.ok.mod.kin M.kp ?_ he hpl
  exact thn (ha.run pos pins s1 σ _ _ I1 want) fun us s2 ⟨vs, H2, I2, r, q⟩ => ⟨I2.kIn, run_make M F room bi va out I2 r q⟩
end
end V3

set_option Elab.async false
set_option linter.all false
set_option maxRecDepth 100000
/-! == and != of objects of our own classes, by their own __eq__, whatever it answers. -/
namespace V3
open PySem PySem.Spec PyProof.Rows L2
section
variable {prog : Program} {w : World} {A : Around} {E : Value → Shared → Prop} {s : Shared} {K : PySem.W.Frag} {x C L f : Addr} {h₀ : Heap} {m : Str → Option Value} {ox : Obj} {od : Option Obj} {name : Str} {b tb : Value}
theorem ifBound_B {M : Model} {args : List Value} {id : String} {Q : Option Value → Shared → Prop} (X : K.In s.heap) (I : PySem.W.InstAt s.heap x ox C od) (hs : PySem.W.findIn K (.ref C) name = some (some (.builtin id)))
    (hb : ∀ self, bindSpecial (.builtin id) self = pure (.builtin id, [self]))
    (h : wpAny M A (call (.builtin id) (.ref x :: args)) (fun v => Q (some v)) E s) : wpAny M A (callSpecialIfBound? (.ref x) name args) Q E s := by
  simp only [callSpecialIfBound?, bindSpecialIfBound?]
  refine wpAny_holding (wpAny_bind (wpAny_bind (wpAny_bind (I.type.here ((PySem.W.looks_findIn X hs).here ?_)))))
  simp only [hb]
  refine wpAny_bind (wpAny_askSetting (wpAny_ite ?_))
  have fin : wpAny M A (call (.builtin id) ([.ref x] ++ args) >>= fun v => pure (some v)) Q E s := wpAny_bind (wpAny_mono h (fun v s' h' => wpAny_pure h') fun _ _ h' => h')
  split
  · exact wpAny_bind (wpAny_pure (wpAny_pure fin))
  · exact wpAny_tryCatch (wpAny_bind (wpAny_pure (wpAny_pure fin)))
theorem ne_entry {Q : Fin → Shared → Prop} (hu : A.units < cLine) (X : K.In s.heap) (I : PySem.W.InstAt s.heap x ox C od) (hs : PySem.W.findIn K (.ref C) "__eq__" = some (some (.ref f))) (hf : PySem.W.isFn K (.ref f) = true)
    (h : wpAny (model prog w) A (call (.ref f) [.ref x, b]) (fun v s' => ∃ r, v = .bool r ∧ Q (.done (.ret (.bool (!r)))) s') E s) :
    wpAny (model prog w) A (Builtin.«object.__ne__» ⟨[.ref x, b], []⟩) Q E s := by
  unfold Builtin.«object.__ne__»
  repeat (first | with_reducible refine wpAny_cRoomFor hu ?_ | with_reducible refine wpAny_bind (PySem.W.ifBound_K X I hs hf (wpAny_mono h (fun v s' hv => ?_) fun _ _ e => e)) | wp_step)
  obtain ⟨r, rfl, q⟩ := hv
  repeat wp_step
  exact q
theorem ne_K {Q : Value → Shared → Prop} (hu : A.units + 1 < cLine) (F : PyProof.Rows.Fr h₀ L s.heap m) (X₀ : K.In h₀) (I : PySem.W.InstAt s.heap x ox C od) (hb : PySem.W.Looks (model prog w) s.heap (typeOf b) tb) (hn : PySem.W.notFirst K C tb = true)
    (hs : PySem.W.findIn K (.ref C) "__eq__" = some (some (.ref f))) (hf : PySem.W.isFn K (.ref f) = true)
    (hne : PySem.W.findIn K (.ref C) "__ne__" = some (some (.builtin "object.__ne__"))) (hob : PySem.W.subIn K (.ref C) (.type "object") = some true)
    (h : wpAny (model prog w) A.in1 (call (.ref f) [.ref x, b]) (fun v s' => ∃ r, v = .bool r ∧ Q (.bool (!r)) s') E s) : wpAny (model prog w) A (richCompare .NotEq (.ref x) b) Q E s := by
  have X := X₀.keeps F.keep
  have hu0 : A.units < cLine := Nat.lt_of_succ_lt hu
  have one : wpAny (model prog w) A (tryCompare (.ref x) "__ne__" b) (fun r s' => ∃ v, r = some v ∧ Q v s') E s := by
    unfold tryCompare
    refine wpAny_bind (ifBound_B X I hne (fun self => PySem.F.cmp_object.ne.bind self) ?_)
    refine wpAny_call (codeAny_call_builtin PySem.F.cmp_object.ne.plain PySem.F.cmpEntry_ne (PySem.W.check_slot PySem.F.cmpKind_ne PySem.F.cmpSplit_ne (I.type.andThen (PySem.W.looks_subIn X hob)) (PySem.F.cmpArgs_ne _ _) (ne_entry (A := A.in1) hu X I hs hf ?_)))
    refine wpAny_mono h (fun v s' hv => ?_) fun _ _ e => e
    obtain ⟨r, rfl, q⟩ := hv
    exact ⟨r, rfl, wpAny_pure ⟨_, rfl, q⟩⟩
  unfold richCompare
  simp only [oneThing_ref]
  refine wpAny_holding (wpAny_bind (wpAny_cRoomFor hu0 ?_))
  refine wpAny_bind (I.type.here (wpAny_bind (hb.here ?_)))
  split
  · rename_i q
    have e : PySem.W.subIn K tb (.ref C) = some false := by
      rcases Bool.or_eq_true_iff.mp hn with e | e
      · rw [beq_iff_eq.mp e] at q; simp at q
      · exact beq_iff_eq.mp e
    refine wpAny_bind ((PySem.W.looks_subIn X e).here ?_)
    simp only [Bool.false_eq_true, if_false]
    refine wpAny_bind (wpAny_mono one (fun r s' z => ?_) fun _ _ e => e)
    obtain ⟨v, rfl, hq⟩ := z
    exact wpAny_pure hq
  · refine wpAny_bind (wpAny_pure ?_)
    simp only [Bool.false_eq_true, if_false]
    refine wpAny_bind (wpAny_mono one (fun r s' z => ?_) fun _ _ e => e)
    obtain ⟨v, rfl, hq⟩ := z
    exact wpAny_pure hq
end
/-- a class with an own __eq__ at f and the __ne__ of object -/
structure EqCls (K : PySem.W.Frag) (C f : Addr) : Prop where
  eq : PySem.W.findIn K (.ref C) "__eq__" = some (some (.ref f))
  fn : PySem.W.isFn K (.ref f) = true
  ne : PySem.W.findIn K (.ref C) "__ne__" = some (some (.builtin "object.__ne__"))
  ob : PySem.W.subIn K (.ref C) (.type "object") = some true
section
variable {X : Cx} {CX : CXT} {n : Nat} {f C D : Addr} {fd : FuncData} {ps : List Str} {sp : Sp} {E : XK}
/-- f called at a pair, somewhere below the running body -/
theorem run_own {A : Around} {pins : List (Addr × Obj)} {s : Shared} {σ : L2.St} {H : Hp} {x y : V} {u v : Value} {Q : VK} (sb : Sub X n A) (F : FnOk X.prog X.w X.K X.mg X.base CX n f fd ps sp) (hb : Binds X.K fd ps []) (hx : Passes CX X E)
    (I : Inv X pins σ H s) (rx : RelV x u) (ry : RelV y v) (h : sp [x, y] H Q E) : wpAny (model X.prog X.w) A (call (.ref f) [u, v]) (EP X pins σ Q) X.xe s := by
  have e0 : Env0 X.prog X.w X.K X.mg X.base A X.stack s H := by
    have e := I.env0
    exact ⟨by rw [sb.fr]; exact e.frames, e.mod, e.bs, e.bsz, e.funs, e.frf, e.hok, e.bare⟩
  have hl := F.len _ _ _ _ h
  have r2 : Vals [x, y] [u, v] := .cons rx (.cons ry .nil)
  refine wpAny_call (codeAny_mono (F.run A X.stack s H ⟨[u, v], []⟩ [u, v] [x, y] _ E sb.room e0 (by
    have := hb s [u, v] I.kIn (by simpa using hl)
    simpa using this) r2 h) fun r s' hq => ?_)
  cases r with
  | error e => exact hx pins σ H s e s' I hq
  | ok fl =>
    cases fl with
    | ret w =>
      obtain ⟨z, H', I', rz, q⟩ := I.after hq
      exact ⟨z, H', I', rz, q⟩
    | next => exact False.elim hq
    | brk => exact False.elim hq
    | cont => exact False.elim hq
/-- x == y, x an object whose class has the own __eq__ -/
def rEqO (K : PySem.W.Frag) (n : Nat) (FF : Addr → Sp → XK → Prop) (neg : Bool) : R2 := fun x y H Q => ∃ (a C dx : Addr) (fs : List (Str × V)) (b D dy : Addr) (gs : List (Str × V)) (sp : Sp) (E : XK), x = .ref a ∧ y = .ref b ∧ H a = some (.ins C dx fs) ∧ H b = some (.ins D dy gs) ∧
  FF C sp E ∧ PySem.W.notFirst K C (.ref D) = true ∧ sp [x, y] H (fun v H' => ∃ r : Bool, v = .bl r ∧ Q (.bl (r != neg)) H') E
theorem op_eqO {FF : Addr → Sp → XK → Prop} (hF : ∀ C sp E, FF C sp E → ∃ (CX : CXT) (f : Addr) (fd : FuncData) (ps : List Str), FnOk X.prog X.w X.K X.mg X.base CX n f fd ps sp ∧ EqCls X.K C f ∧ Binds X.K fd ps [] ∧ Passes CX X E) (hr : Room n X.A) :
    OpR X (compareOp .Eq) (rEqO X.K n FF false) := by
  intro pins s σ H x y v u Q I rx ry hq
  obtain ⟨a, C, dx, fs, b, D, dy, gs, sp, E, rfl, rfl, ha, hb, ff, hn, hsp⟩ := hq
  obtain ⟨CX, f, fd, ps, F, ec, bi, hx⟩ := hF C sp E ff
  cases rx
  cases ry
  obtain ⟨mA, J, _⟩ := ins_get I.hok ha
  obtain ⟨mB, J', _⟩ := ins_get I.hok hb
  obtain ⟨od, J, _⟩ := J.look
  obtain ⟨od', J', _⟩ := J'.look
  obtain ⟨m, hF⟩ := I.fr
  show wpAny (model X.prog X.w) X.A (richCompare .Eq (.ref a) (.ref b)) (EP X pins σ Q) X.xe s
  refine PySem.W.cmp_K (op := .Eq) (tb := .ref D) hr.units0 hF I.ok.mod.kin J J'.type hn ec.eq ec.fn ?_
  refine wpAny_mono (run_own (x := .ref a) (y := .ref b) ⟨hr, rfl⟩ F bi hx I rfl rfl hsp) (fun w s' q => ?_) fun _ _ e => e
  obtain ⟨z, H', I', rz, r, ez, q⟩ := q
  subst ez
  cases rz
  refine ⟨.bl r, H', I', rfl, ?_⟩
  have e : (r != false) = r := by cases r <;> rfl
  rw [e] at q
  exact q
theorem op_neO {FF : Addr → Sp → XK → Prop} (hF : ∀ C sp E, FF C sp E → ∃ (CX : CXT) (f : Addr) (fd : FuncData) (ps : List Str), FnOk X.prog X.w X.K X.mg X.base CX n f fd ps sp ∧ EqCls X.K C f ∧ Binds X.K fd ps [] ∧ Passes CX X E) (hr : Room (n + 1) X.A) :
    OpR X (compareOp .NotEq) (rEqO X.K n FF true) := by
  intro pins s σ H x y v u Q I rx ry hq
  obtain ⟨a, C, dx, fs, b, D, dy, gs, sp, E, rfl, rfl, ha, hb, ff, hn, hsp⟩ := hq
  obtain ⟨CX, f, fd, ps, F, ec, bi, hx⟩ := hF C sp E ff
  cases rx
  cases ry
  obtain ⟨mA, J, _⟩ := ins_get I.hok ha
  obtain ⟨mB, J', _⟩ := ins_get I.hok hb
  obtain ⟨od, J, _⟩ := J.look
  obtain ⟨od', J', _⟩ := J'.look
  obtain ⟨m, hF⟩ := I.fr
  show wpAny (model X.prog X.w) X.A (richCompare .NotEq (.ref a) (.ref b)) (EP X pins σ Q) X.xe s
  refine ne_K (tb := .ref D) (by have := hr.units; omega) hF I.ok.mod.kin J J'.type hn ec.eq ec.fn ec.ne ec.ob ?_
  refine wpAny_mono (run_own (x := .ref a) (y := .ref b) (A := X.A.in1) ⟨hr.in1, rfl⟩ F bi hx I rfl rfl hsp) (fun w s' q => ?_) fun _ _ e => e
  obtain ⟨z, H', I', rz, r, ez, q⟩ := q
  subst ez
  cases rz
  refine ⟨r, rfl, .bl (!r), H', I', rfl, ?_⟩
  have e : (r != true) = !r := by cases r <;> rfl
  rw [e] at q
  exact q
end
end V3

set_option Elab.async false
set_option linter.all false
set_option maxRecDepth 100000
/-! x + y by an own __add__; x[i], x[a:b:c] by an own __getitem__. -/
namespace V3
open PySem PySem.Spec PyProof.Rows L2
section
variable {X : Cx} {n : Nat}
theorem vals_back {z : V} {u : Value} {Q : Value → Shared → Prop} {s' : Shared} (r : RelV z u) (q : Q u s') : PySem.W.CmpBack Q u s' := by
  cases z with
  | non => cases r; exact q
  | bl b => cases r; exact q
  | int i => obtain ⟨t, rfl⟩ := r; exact q
  | str i => obtain ⟨t, rfl⟩ := r; exact q
  | byt i => obtain ⟨t, rfl⟩ := r; exact q
  | flt i => obtain ⟨t, rfl⟩ := r; exact q
  | ref a => cases r; exact q
  | ty a => cases r; exact q
/-- a class with an own method at f for a binary operator -/
structure BinCls (K : PySem.W.Frag) (C f : Addr) (op : Operator) : Prop where
  sf : PySem.W.selfFirst K C = true
  at_ : PySem.W.findIn K (.ref C) (PySem.dunder op.info.2) = some (some (.ref f))
  fn : PySem.W.isFn K (.ref f) = true
/-- x op y, both of one class -/
def rBinS (FF : Addr → Sp → XK → Prop) : R2 := fun x y H Q => ∃ (a C dx : Addr) (fs : List (Str × V)) (b dy : Addr) (gs : List (Str × V)) (sp : Sp) (E : XK), x = .ref a ∧ y = .ref b ∧ H a = some (.ins C dx fs) ∧ H b = some (.ins C dy gs) ∧
  FF C sp E ∧ sp [x, y] H Q E
theorem op_binS {op : Operator} {FF : Addr → Sp → XK → Prop} (hF : ∀ C sp E, FF C sp E → ∃ (CX : CXT) (f : Addr) (fd : FuncData) (ps : List Str), FnOk X.prog X.w X.K X.mg X.base CX n f fd ps sp ∧ BinCls X.K C f op ∧ Binds X.K fd ps [] ∧ Passes CX X E) (hr : Room n X.A) :
    OpR X (binaryOp op) (rBinS FF) := by
  intro pins s σ H x y v u Q I rx ry hq
  obtain ⟨a, C, dx, fs, b, dy, gs, sp, E, rfl, rfl, ha, hb, ff, hsp⟩ := hq
  obtain ⟨CX, f, fd, ps, F, ec, bi, hx⟩ := hF C sp E ff
  cases rx
  cases ry
  obtain ⟨mA, J, _⟩ := ins_get I.hok ha
  obtain ⟨mB, J', _⟩ := ins_get I.hok hb
  obtain ⟨od, J, _⟩ := J.look
  obtain ⟨od', J', _⟩ := J'.look
  obtain ⟨m, hF⟩ := I.fr
  refine PySem.W.binop_K hF I.ok.mod.kin J J'.type ec.sf ec.at_ ec.fn ?_
  refine wpAny_mono (run_own (x := .ref a) (y := .ref b) ⟨hr, rfl⟩ F bi hx I rfl rfl hsp) (fun w s' q => ?_) fun _ _ e => e
  obtain ⟨z, H', I', rz, q⟩ := q
  exact vals_back rz ⟨z, H', I', rz, q⟩
/-- a class with an own __getitem__ at f -/
structure GetCls (K : PySem.W.Frag) (C f : Addr) : Prop where
  at_ : PySem.W.findIn K (.ref C) "__getitem__" = some (some (.ref f))
  fn : PySem.W.isFn K (.ref f) = true
  fi : PySem.W.fnIn K f = true
def rIxO (FF : Addr → Sp → XK → Prop) : R2 := fun x y H Q => ∃ (a C dx : Addr) (fs : List (Str × V)) (sp : Sp) (E : XK), x = .ref a ∧ H a = some (.ins C dx fs) ∧ FF C sp E ∧ sp [x, y] H Q E
/-- the call that x[i] makes -/
theorem sub_own {FF : Addr → Sp → XK → Prop} (hF : ∀ C sp E, FF C sp E → ∃ (CX : CXT) (f : Addr) (fd : FuncData) (ps : List Str), FnOk X.prog X.w X.K X.mg X.base CX n f fd ps sp ∧ GetCls X.K C f ∧ Binds X.K fd ps [] ∧ Passes CX X E) (hr : Room (n + 1) X.A)
    {value slice : Expr} {pins : List (Addr × Obj)} {s : Shared} {σ : L2.St} {H : Hp} {x y : V} {v u : Value} {Q : VK} (I : Inv X pins σ H s) (rx : RelV x v) (ry : RelV y u) (hq : rIxO FF x y H Q)
    (hsl : ∀ a : Addr, subscripted slice true (.ref a) u = runValue (.builtin "lifetime.subscript" ⟨[.ref a, u], []⟩)) : wpAny (model X.prog X.w) X.A (subscriptTail value slice v u) (EP X pins σ Q) X.xe s := by
  obtain ⟨a, C, dx, fs, sp, E, rfl, ha, ff, hsp⟩ := hq
  obtain ⟨CX, f, fd, ps, F, ec, bi, hx⟩ := hF C sp E ff
  cases rx
  obtain ⟨mA, J, _⟩ := ins_get I.hok ha
  obtain ⟨od, J, _⟩ := J.look
  obtain ⟨m, hF⟩ := I.fr
  refine PySem.W.sub_K hF I.ok.mod.kin J ec.at_ ec.fi ec.fn ?_ (hsl a)
  exact run_own (x := .ref a) (y := y) (A := X.A.in1) ⟨hr.in1, rfl⟩ F bi hx I rfl ry hsp
/-- x[i] -/
theorem pe_ixO {FF : Addr → Sp → XK → Prop} (hF : ∀ C sp E, FF C sp E → ∃ (CX : CXT) (f : Addr) (fd : FuncData) (ps : List Str), FnOk X.prog X.w X.K X.mg X.base CX n f fd ps sp ∧ GetCls X.K C f ∧ Binds X.K fd ps [] ∧ Passes CX X E) (hr : Room (n + 1) X.A)
    {a b : Expr} {ta tb : TE} {pos : Pos} (ha : PE X a ta) (hb : PE X b tb)
    (hsl : ∀ (o : Addr) (u : Value), subscripted b true (.ref o) u = runValue (.builtin "lifetime.subscript" ⟨[.ref o, u], []⟩) := by intro _ _; with_unfolding_all rfl) : PE X (.Subscript a b pos) (tOp (rIxO FF) ta tb) := by
  refine ⟨fun pins s σ H Q I h => ?_⟩
  exact Subscript_ (binT ha hb I h fun v u s2 x y H2 I2 rx ry q => sub_own hF hr I2 rx ry q fun o => hsl o u)
/-- a slice object -/
def SlH (p : Addr) (lo hi st : Option Int) : HO := .ext fun h => ∃ vl vu vk, h.IsSliceOf p vl vu vk ∧ IsPart vl lo ∧ IsPart vu hi ∧ IsPart vk st
def tSlO (FF : Addr → Sp → XK → Prop) (te : TE) (tl th ts : TO) : TE := fun σ H Q => te σ H fun x H1 => tl σ H1 fun l H2 => th σ H2 fun u H3 => ts σ H3 fun k H4 =>
  ∀ p, H4 p = none → rIxO FF x (.ref p) (upd H4 p (SlH p l u k)) Q
theorem po_no : PO X none tNoPart := ⟨fun pins s σ H Q I h => by
  rw [evalPart_none]
  exact wpAny_pure ⟨none, H, I, .none, h⟩⟩
/-- x[a:b:c] -/
theorem pe_slO {FF : Addr → Sp → XK → Prop} (hF : ∀ C sp E, FF C sp E → ∃ (CX : CXT) (f : Addr) (fd : FuncData) (ps : List Str), FnOk X.prog X.w X.K X.mg X.base CX n f fd ps sp ∧ GetCls X.K C f ∧ Binds X.K fd ps [] ∧ Passes CX X E) (hr : Room (n + 1) X.A)
    {e : Expr} {te : TE} {lo hi st : Option Expr} {tl th ts : TO} {p2 pos : Pos} (he : PE X e te) (hl : PO X lo tl) (hu : PO X hi th) (hk : PO X st ts)
    (hsl : ∀ (o : Addr) (u : Value), subscripted (.Slice lo hi st p2) true (.ref o) u = runValue (.builtin "lifetime.subscript" ⟨[.ref o, u], []⟩) := by intro _ _; with_unfolding_all rfl) :
    PE X (.Subscript e (.Slice lo hi st p2) pos) (tSlO FF te tl th ts) := by
  refine ⟨fun pins s σ H Q I h => ?_⟩
  refine Subscript_ (thn (he.run pins s σ H _ I h) fun v s1 ⟨x, H1, I1, r1, q1⟩ => ?_)
  refine wpAny_Slice (thn (hl.run pins s1 σ H1 _ I1 q1) fun vl s2 ⟨l, H2, I2, pl, q2⟩ =>
    thn (hu.run pins s2 σ H2 _ I2 q2) fun vu s3 ⟨u, H3, I3, pu, q3⟩ =>
    thn (hk.run pins s3 σ H3 _ I3 q3) fun vk s4 ⟨k, H4, I4, pk, q4⟩ => ?_)
  have J : Inv X pins σ (upd H4 s4.heap.objs.size (SlH s4.heap.objs.size l u k)) { s4 with heap := s4.heap.push { cls := .type "slice", data := .fields #[vl, vu, vk] } } :=
    I4.laid (t' := s4.toks) (o := SlH s4.heap.objs.size l u k) (fun b ob q => Heap.get?_push_of_some _ q) (Nat.le_refl _)
      ⟨⟨vl, vu, vk, Heap.IsSliceOf.new .., pl, pu, pk⟩, ⟨_, Heap.get?_push_size _ rfl⟩, fun h1 h2 ⟨a, b, c, ⟨o, ho, hc, hd⟩, p1, p2, p3⟩ kp => ⟨a, b, c, ⟨o, kp o ho, hc, hd⟩, p1, p2, p3⟩⟩
  exact sub_own (y := .ref s4.heap.objs.size) hF hr J r1 rfl (q4 _ (I4.hok.fresh (Nat.le_refl _))) fun o => hsl o _
end
end V3

set_option Elab.async false
set_option linter.all false
set_option maxRecDepth 100000
/-! slices of tuples, with any step. -/
namespace HT
open PySem PySem.Spec PyProof.Rows
section
variable {prog : Program} {w : World} {A : Around} {E : Value → Shared → Prop} {s : Shared}
theorem sliceApplied_any {sl : Addr} {vl vu vk : Value} {lo hi st : Option Int} {n : Nat} {Q : Int × Int × Nat → Shared → Prop} (hs : s.heap.IsSliceOf sl vl vu vk) (pl : IsPart vl lo) (pu : IsPart vu hi) (pk : IsPart vk st) (h0 : st ≠ some 0)
    (h : Q ((Builtin.Slice.sliceAdjust lo hi (st.getD 1) (n : Int)).1, st.getD 1, Builtin.Slice.slicePlaces (Builtin.Slice.sliceAdjust lo hi (st.getD 1) (n : Int)).1 (Builtin.Slice.sliceAdjust lo hi (st.getD 1) (n : Int)).2 (st.getD 1)) s) : wpAny (model prog w) A (Builtin.Slice.sliceApplied (.ref sl) (pure (n : Int))) Q E s := by
  obtain ⟨os, hos, hcs, hds⟩ := id hs
  unfold Builtin.Slice.sliceApplied Builtin.Slice.sliceFields
  refine wpAny_bind (wpAny_bind (wpAny_field hos hds (x := vl) rfl (wpAny_bind (wpAny_field hos hds (x := vu) rfl (wpAny_bind (wpAny_field hos hds (x := vk) rfl (wpAny_pure ?_)))))))
  refine wpAny_bind (slicePart_ pk ?_)
  have hc : ¬ ((st.getD 1 == 0) = true) := by
    cases st with
    | none => decide
    | some c =>
      intro q
      exact h0 (by rw [show c = 0 from eq_of_beq q])
  show wpAny _ _ (if (st.getD 1 == 0) = true then _ else _) _ _ s
  rw [if_neg hc]
  refine wpAny_bind (slicePart_ pl (wpAny_bind (slicePart_ pu (wpAny_bind (wpAny_pure ?_)))))
  exact wpAny_pure h
/-- the places of a slice -/
def idxT (lo hi st : Option Int) (n : Nat) : List Nat :=
  (List.range (Builtin.Slice.slicePlaces (Builtin.Slice.sliceAdjust lo hi (st.getD 1) (n : Int)).1 (Builtin.Slice.sliceAdjust lo hi (st.getD 1) (n : Int)).2 (st.getD 1))).map fun (k : Nat) => ((Builtin.Slice.sliceAdjust lo hi (st.getD 1) (n : Int)).1 + (k : Int) * st.getD 1).toNat
theorem getItem_tuple_any {t sl : Addr} {items : Array Value} {vl vu vk : Value} {lo hi st : Option Int} {Q : Value → Shared → Prop} (ht : IsTup s.heap t items) (hs : s.heap.IsSliceOf sl vl vu vk) (pl : IsPart vl lo) (pu : IsPart vu hi) (pk : IsPart vk st) (h0 : st ≠ some 0)
    (hsz : ((idxT lo hi st items.size).filterMap fun i => items[i]?).length ≤ sizeLine)
    (hw : (idxT lo hi st items.size) = List.range items.size → Q (.ref t) s)
    (h : Q (.ref s.heap.objs.size) { s with heap := s.heap.push { cls := .type "tuple", data := .seq ((idxT lo hi st items.size).filterMap fun i => items[i]?).toArray } })
    : wpAny (model prog w) A (getItem (.ref t) (.ref sl)) Q E s := by
  obtain ⟨os, hos, hcs, hds⟩ := id hs
  have hTs : s.TypeIs (.ref sl) "slice" := ⟨os, hos, hcs⟩
  unfold getItem
  try with_reducible refine wpAny_holding ?_
  first | refine wpAny_bind (wpAny_pure ?_) | skip
  refine wpAny_bind (wpAny_sequenceKey ht.typeIs (by decide) ?_)
  refine wpAny_bind (wpAny_callSpecial?_slot (name := Str.ofString "__getitem__") ht.typeIs PyProof.Rows.slot_tuple_getitem
    (wpAny_call_entry PyProof.Rows.slot_tuple_getitem ht.typeIs entry_tuple_getitem ?_ (args_tuple_getitem _ _)))
  show wpAny _ _ (Builtin.Tuple.tupleItemsOf (.ref t) >>= _) _ _ s
  refine wpAny_bind (tupleItemsOf_ ht ?_)
  refine wpAny_bind (wpAny_typeOf hTs ?_)
  rw [if_pos (by decide)]
  refine wpAny_bind (sliceApplied_any hs pl pu pk h0 ?_)
  unfold idxT at hsz hw h
  rw [List.filterMap_map] at hsz h
  generalize (Builtin.Slice.sliceAdjust lo hi (st.getD 1) ((items.size : Nat) : Int)).1 = a at hsz hw h ⊢
  generalize (Builtin.Slice.sliceAdjust lo hi (st.getD 1) ((items.size : Nat) : Int)).2 = b at hsz hw h ⊢
  generalize st.getD 1 = c at hsz hw h ⊢
  generalize Builtin.Slice.slicePlaces a b c = n at hsz hw h ⊢
  show wpAny _ _ (if (a == 0 && c == 1 && n == items.size) = true then _ else _) _ _ s
  by_cases q : (a == 0 && c == 1 && n == items.size) = true
  · rw [if_pos q]
    rw [Bool.and_eq_true, Bool.and_eq_true] at q
    have q1 : a = 0 := eq_of_beq q.1.1
    have q2 : c = 1 := eq_of_beq q.1.2
    have q3 : n = items.size := eq_of_beq q.2
    subst q1 q2 q3
    have hQ := hw (by
      have e : (fun (k : Nat) => ((0 : Int) + (k : Int) * 1).toNat) = id := by
        funext k
        show ((0 : Int) + (k : Int) * 1).toNat = k
        omega
      rw [e, List.map_id])
    refine wpAny_bind ?_
    show wpAny _ _ (typeOf (.ref t) >>= fun T => pure (T == .type "tuple")) _ _ s
    refine wpAny_bind (wpAny_typeOf ht.typeIs (wpAny_pure ?_))
    first
      | rw [if_pos (by decide)]
      | simp only [beq_self_eq_true, if_true]
    first
      | exact wpAny_bind (wpAny_rule (wpAny_pure ⟨_, rfl, wpAny_pure hQ⟩))
      | exact wpAny_bind (wpAny_rule (wpAny_bind (wpAny_pure (wpAny_pure ⟨_, rfl, wpAny_pure hQ⟩))))
  · rw [if_neg q]
    have htake : sizeOk (.seq (((List.range n).filterMap ((fun i => items[i]?) ∘ fun (k : Nat) => (a + (k : Int) * c).toNat))).toArray) := by
      show ((List.range n).filterMap ((fun i => items[i]?) ∘ fun (k : Nat) => (a + (k : Int) * c).toNat)).toArray.size ≤ sizeLine
      rw [List.size_toArray]
      exact hsz
    first
      | exact wpAny_bind (m := Builtin.Tuple.tupleExact _) (wpAny_newObj_type (wpAny_pure ⟨_, rfl, wpAny_pure h⟩) htake)
      | exact wpAny_bind (m := Builtin.Tuple.tupleExact _) (wpAny_newObj_type (wpAny_bind (wpAny_pure (wpAny_pure ⟨_, rfl, wpAny_pure h⟩))) htake)
      | exact wpAny_bind (wpAny_bind (m := Builtin.Tuple.tupleExact _) (wpAny_newObj_type (wpAny_pure (wpAny_pure ⟨_, rfl, wpAny_pure h⟩)) htake))
      | exact wpAny_bind (wpAny_bind (m := Builtin.Tuple.tupleExact _) (wpAny_newObj_type (wpAny_pure ⟨_, rfl, wpAny_pure h⟩) htake))
end
end HT

set_option Elab.async false
set_option linter.all false
set_option maxRecDepth 100000
/-! slices of tuples, at the level of values -/
namespace V3
open PySem PySem.Spec PyProof.Rows L2
/-- what a slice picks -/
def stepL {α : Type} (xs : List α) (lo hi st : Option Int) : List α := (HT.idxT lo hi st xs.length).filterMap fun i => xs[i]?
theorem pick_self {α : Type} (xs : List α) : (List.range xs.length).filterMap (fun i => xs[i]?) = xs := by
  have z := pick_run xs.toArray 0 xs.length
  rw [List.filterMap_map] at z
  have e : ((fun x => xs.toArray[x]?) ∘ fun x => 0 + x) = fun i => xs[i]? := by
    funext i
    simp
  rw [e] at z
  simpa using z
theorem fm_congr {α β : Type} {f g : α → Option β} : ∀ {xs : List α}, (∀ x ∈ xs, f x = g x) → xs.filterMap f = xs.filterMap g
  | [], _ => rfl
  | x :: r, h => by
    have e := h x (List.mem_cons_self ..)
    have ih := fm_congr (xs := r) fun y hy => h y (List.mem_cons_of_mem _ hy)
    rw [List.filterMap_cons, List.filterMap_cons, e, ih]
theorem step_len {α : Type} (xs : List α) {lo hi st : Option Int} : (stepL xs lo hi st).length ≤ (HT.idxT lo hi st xs.length).length := List.length_filterMap_le ..
theorem step_one {α : Type} (xs : List α) (lo hi : Option Int) : stepL xs lo hi none = (xs.drop (HT.sIx xs.length 0 lo)).take (HT.sIx xs.length xs.length hi - HT.sIx xs.length 0 lo) := by
  unfold stepL HT.idxT
  show List.filterMap (fun i => xs[i]?) (List.map (fun (k : Nat) => ((Builtin.Slice.sliceAdjust lo hi 1 (xs.length : Int)).1 + (k : Int) * 1).toNat) (List.range (Builtin.Slice.slicePlaces (Builtin.Slice.sliceAdjust lo hi 1 (xs.length : Int)).1 (Builtin.Slice.sliceAdjust lo hi 1 (xs.length : Int)).2 1))) = _
  rw [HT.adjust_gen lo hi xs.length]
  show List.filterMap (fun i => xs[i]?) (List.map (fun (k : Nat) => (((HT.sIx xs.length 0 lo : Nat) : Int) + (k : Int) * 1).toNat) (List.range (Builtin.Slice.slicePlaces ((HT.sIx xs.length 0 lo : Nat) : Int) ((HT.sIx xs.length xs.length hi : Nat) : Int) 1))) = _
  rw [HT.places_gen]
  generalize HT.sIx xs.length 0 lo = i
  generalize HT.sIx xs.length xs.length hi - i = k
  have z := pick_run xs.toArray i k
  have e : (fun (k : Nat) => ((i : Int) + (k : Int) * 1).toNat) = fun x => i + x := by
    funext m
    omega
  rw [e]
  simpa using z
theorem step_to {α : Type} (xs : List α) {k : Nat} (h : k ≤ xs.length) : stepL xs none (some (k : Int)) none = xs.take k := by
  rw [step_one, HT.sIx_nat, HT.sIx_none, Nat.min_eq_left h]
  simp
theorem step_from {α : Type} (xs : List α) {k : Nat} (h : k ≤ xs.length) : stepL xs (some (k : Int)) none none = xs.drop k := by
  rw [step_one, HT.sIx_nat, HT.sIx_none, Nat.min_eq_left h]
  exact List.take_of_length_le (by rw [List.length_drop]; exact Nat.le_refl _)
theorem step_back {α : Type} (xs : List α) : stepL xs none none (some (-1)) = xs.reverse := by
  unfold stepL HT.idxT
  have a1 : Builtin.Slice.sliceAdjust none none ((some (-1 : Int)).getD 1) (xs.length : Int) = ((xs.length : Int) - 1, -1) := by
    simp [Builtin.Slice.sliceAdjust]
  have a2 : Builtin.Slice.slicePlaces ((xs.length : Int) - 1) (-1) ((some (-1 : Int)).getD 1) = xs.length := by
    unfold Builtin.Slice.slicePlaces
    simp
    omega
  rw [a1]
  show List.filterMap (fun i => xs[i]?) (List.map (fun (k : Nat) => ((xs.length : Int) - 1 + (k : Int) * (some (-1 : Int)).getD 1).toNat) (List.range (Builtin.Slice.slicePlaces ((xs.length : Int) - 1) (-1) ((some (-1 : Int)).getD 1)))) = _
  rw [a2, List.filterMap_map]
  have z := pick_self xs.reverse
  rw [List.length_reverse] at z
  refine Eq.trans (fm_congr fun k hk => ?_) z
  have lt : k < xs.length := List.mem_range.mp hk
  rw [List.getElem?_reverse lt]
  have e : ((xs.length : Int) - 1 + (k : Int) * (some (-1 : Int)).getD 1).toNat = xs.length - 1 - k := by
    show ((xs.length : Int) - 1 + (k : Int) * (-1)).toNat = _
    omega
  show xs[((xs.length : Int) - 1 + (k : Int) * (some (-1 : Int)).getD 1).toNat]? = _
  rw [e]
theorem vals_idx {xs : List V} {us : List Value} (r : Vals xs us) : ∀ idx : List Nat, Vals (idx.filterMap fun i => xs[i]?) (idx.filterMap fun i => us.toArray[i]?) := vals_pick r
section
variable {X : Cx}
/-- what t[slice] wants -/
def wSl (K : PySem.W.Frag) (p : Addr) (xs : List V) (lo hi st : Option Int) (H : Hp) (Q : VK) : Prop := SqT K H p xs ∧ st ≠ some 0 ∧ (stepL xs lo hi st).length ≤ sizeLine ∧
  (HT.idxT lo hi st xs.length = List.range xs.length → Q (.ref p) H) ∧ ∀ r, H r = none → Q (.ref r) (upd H r (.tup (stepL xs lo hi st)))
theorem run_sl {pins : List (Addr × Obj)} {s : Shared} {σ : L2.St} {H : Hp} {p sl : Addr} {xs : List V} {vl vu vk : Value} {lo hi st : Option Int} {Q : VK} (I : Inv X pins σ H s) (hs : s.heap.IsSliceOf sl vl vu vk) (pl : IsPart vl lo) (pu : IsPart vu hi) (pk : IsPart vk st)
    (h : wSl X.K p xs lo hi st H Q) : ∃ items : Array Value, IsTup s.heap p items ∧ wpAny (model X.prog X.w) X.A (getItem (.ref p) (.ref sl)) (EP X pins σ Q) X.xe s := by
  obtain ⟨hx, h0, hz, hw, hq⟩ := h
  obtain ⟨its, r, ht, hsz⟩ := I.tuple hx
  have ln : xs.length = its.toArray.size := by rw [List.size_toArray]; exact r.length
  refine ⟨its.toArray, ht, HT.getItem_tuple_any ht hs pl pu pk h0 ?_ (fun e => ?_) ?_⟩
  · unfold stepL at hz
    rw [ln] at hz
    rw [← (vals_idx r _).length]
    exact hz
  · exact ⟨.ref p, H, I, rfl, hw (by rw [ln]; exact e)⟩
  · have v := vals_idx r (HT.idxT lo hi st its.toArray.size)
    rw [← ln] at v ⊢
    refine ⟨.ref s.heap.objs.size, _, I.laid (t' := s.toks) (o := .tup (stepL xs lo hi st)) (fun b ob q => Heap.get?_push_of_some _ q) (Nat.le_refl _) ?_, rfl, hq _ (I.hok.fresh (Nat.le_refl _))⟩
    exact ⟨hz, _, v, ⟨_, Heap.get?_push_size _ rfl, rfl, _, rfl⟩⟩
/-- t[a:b:c] -/
def tStepT (K : PySem.W.Frag) (te : TE) (tl th ts : TO) : TE := fun σ H Q => te σ H fun x H1 => tl σ H1 fun l H2 => th σ H2 fun u H3 => ts σ H3 fun k H4 => ∃ p xs, x = .ref p ∧ wSl K p xs l u k H4 Q
theorem pe_stepT {e : Expr} {te : TE} {lo hi st : Option Expr} {tl th ts : TO} {p2 pos : Pos} (he : PE X e te) (hl : PO X lo tl) (hu : PO X hi th) (hk : PO X st ts)
    (hop : ∀ (o : Value) (n : Addr), subscripted (.Slice lo hi st p2) false o (.ref n) = operate [o, .ref n] (getItem o (.ref n)) := by intro _ _; with_unfolding_all rfl) :
    PE X (.Subscript e (.Slice lo hi st p2) pos) (tStepT X.K te tl th ts) := by
  refine ⟨fun pins s σ H Q I h => ?_⟩
  refine Subscript_ (thn (he.run pins s σ H _ I h) fun v s1 ⟨x, H1, I1, r1, q1⟩ => ?_)
  refine wpAny_Slice (thn (hl.run pins s1 σ H1 _ I1 q1) fun vl s2 ⟨l, H2, I2, pl, q2⟩ =>
    thn (hu.run pins s2 σ H2 _ I2 q2) fun vu s3 ⟨u, H3, I3, pu, q3⟩ =>
    thn (hk.run pins s3 σ H3 _ I3 q3) fun vk s4 ⟨k, H4, I4, pk, q4⟩ => ?_)
  obtain ⟨p, xs, rfl, w⟩ := q4
  have J : Inv X pins σ H4 { s4 with heap := s4.heap.push { cls := .type "slice", data := .fields #[vl, vu, vk] } } := I4.kept (t' := s4.toks) fun b ob q => Heap.get?_push_of_some _ q
  cases r1
  obtain ⟨items, ht, got⟩ := run_sl J (Heap.IsSliceOf.new ..) pl pu pk w
  exact tail_any (ops := [.ref p, .ref s4.heap.objs.size]) ht.typeIs slot_tuple_getitem.lookup got (hop _ _)
/-- t[s], s a slice -/
def rIxSl (K : PySem.W.Frag) : R2 := fun x y H Q => ∃ p q xs lo hi st, x = .ref p ∧ y = .ref q ∧ H q = some (SlH q lo hi st) ∧ wSl K p xs lo hi st H Q
theorem ix_slice : IxR X (rIxSl X.K) := by
  intro value slice pins s σ H x y v u Q I rx ry h hs
  obtain ⟨p, q, xs, lo, hi, st, rfl, rfl, hq, w⟩ := h
  cases rx
  cases ry
  obtain ⟨⟨vl, vu, vk, so, pl, pu, pk⟩, _, _⟩ := I.hok _ _ hq
  obtain ⟨items, ht, got⟩ := run_sl I so pl pu pk w
  exact tail_any (ops := [.ref p, .ref q]) ht.typeIs slot_tuple_getitem.lookup got hs
end
end V3

set_option Elab.async false
set_option linter.all false
set_option maxRecDepth 100000
/-! readings that leave all as it was: what they answer -/
namespace V3
open PySem L2
def EvV (W : Hp → Prop) (σ : L2.St) (te : TE) (R : V → Hp → Prop) : Prop := ∀ H Q, W H → (∀ v H', Same H H' → W H' → R v H' → Q v H') → te σ H Q
def EvB (W : Hp → Prop) (σ : L2.St) (tt : TT) (b : Bool) : Prop := ∀ H Q, W H → (∀ H', Same H H' → W H' → Q b H') → tt σ H Q
def EvO (W : Hp → Prop) (σ : L2.St) (tO : TO) (o : Option Int) : Prop := ∀ H Q, W H → (∀ H', Same H H' → W H' → Q o H') → tO σ H Q
def StV (R : V → Hp → Prop) : Prop := ∀ v H H', Same H H' → R v H → R v H'
def isIv (i : Int) : V → Hp → Prop := fun v _ => v = .int i
def isSv (s : Str) : V → Hp → Prop := fun v _ => v = .str s
def isBv (b : Bool) : V → Hp → Prop := fun v _ => v = .bl b
def isVv (u : V) : V → Hp → Prop := fun v _ => v = u
theorem st_i {i : Int} : StV (isIv i) := fun _ _ _ _ h => h
theorem st_s {i : Str} : StV (isSv i) := fun _ _ _ _ h => h
theorem st_b {i : Bool} : StV (isBv i) := fun _ _ _ _ h => h
theorem st_v {u : V} : StV (isVv u) := fun _ _ _ _ h => h
section
variable {W : Hp → Prop} {σ : L2.St} {ta tb te : TE} {R Ra Rb : V → Hp → Prop}
theorem ev_var {i : Nat} {v : V} (e : σ[i]? = some (some v)) (h : ∀ H, W H → R v H) : EvV W σ (tVar i) R := fun H Q w k => ⟨v, e, k v H (Same.refl H) w (h H w)⟩
theorem ev_c {v : V} : EvV W σ (tC v) (isVv v) := fun H Q w k => k v H (Same.refl H) w rfl
theorem ev_int {i : Int} : EvV W σ (tC (.int i)) (isIv i) := fun H Q w k => k _ H (Same.refl H) w rfl
theorem ev_str {s : Str} : EvV W σ (tC (.str s)) (isSv s) := fun H Q w k => k _ H (Same.refl H) w rfl
/-- a two-place operation -/
theorem ev_op {r : R2} (sa : StV Ra) (ha : EvV W σ ta Ra) (hb : EvV W σ tb Rb) (h : ∀ x y H Q, W H → Ra x H → Rb y H → (∀ v H', Same H H' → W H' → R v H' → Q v H') → r x y H Q) : EvV W σ (tOp r ta tb) R := fun H Q w k =>
  ha H _ w fun x H1 s1 w1 rx => hb H1 _ w1 fun y H2 s2 w2 ry => h x y H2 Q w2 (sa _ _ _ s2 rx) ry fun v H' s w' rv => k v H' ((s1.trans s2).trans s) w' rv
/-- a call with one argument -/
theorem ev_cb1 {r : List V → Hp → VK → Prop} (ha : EvV W σ ta Ra) (h : ∀ x H Q, W H → Ra x H → (∀ v H', Same H H' → W H' → R v H' → Q v H') → r [x] H Q) : EvV W σ (tCB r (tCons ta tNil)) R := fun H Q w k =>
  ha H _ w fun x H1 s1 w1 rx => h x H1 Q w1 rx fun v H' s w' rv => k v H' (s1.trans s) w' rv
theorem ev_test {b : Bool} (h : EvV W σ te (isBv b)) : EvB W σ (tTest te) b := fun H Q w k => h H _ w fun v H' s w' e => ⟨b, e, k H' s w'⟩
theorem ev_or {t u : TT} {b : Bool} (h : EvB W σ t false) (h2 : EvB W σ u b) : EvB W σ (tOr t u) b := fun H Q w k =>
  h H _ w fun H1 s1 w1 => iteF (h2 H1 _ w1 fun H2 s2 w2 => k H2 (s1.trans s2) w2)
theorem evo_none : EvO W σ tNoPart none := fun H Q w k => k H (Same.refl H) w
theorem evo_some {i : Int} (h : EvV W σ te (isIv i)) : EvO W σ (tPart te) (some i) := fun H Q w k => h H _ w fun v H' s w' e => ⟨i, e, k H' s w'⟩
theorem ev_add {i j : Int} (ha : EvV W σ ta (isIv i)) (hb : EvV W σ tb (isIv j)) : EvV W σ (tOp (rI0 fun i j => .int (i + j)) ta tb) (isIv (i + j)) :=
  ev_op st_i ha hb fun x y H Q w ex ey k => ⟨i, j, ex, ey, k _ H (Same.refl H) w rfl⟩
/-- != and == of flat values -/
theorem ev_neI {i j : Int} (ha : EvV W σ ta (isIv i)) (hb : EvV W σ tb (isIv j)) : EvV W σ (tOp rNe ta tb) (isBv (!decide (i = j))) :=
  ev_op st_i ha hb fun x y H Q w ex ey k => by
    cases ex
    cases ey
    refine ⟨rfl, k _ H (Same.refl H) w ?_⟩
    have e : (V.int i = V.int j) ↔ (i = j) := ⟨fun z => by injection z, fun z => by rw [z]⟩
    show V.bl (!decide (V.int i = V.int j)) = V.bl (!decide (i = j))
    by_cases h : i = j
    · rw [decide_eq_true h, decide_eq_true (e.mpr h)]
    · rw [decide_eq_false h, decide_eq_false (fun z => h (e.mp z))]
theorem dec_str {i j : Str} : decide (V.str i = V.str j) = decide (i = j) := by
  have e : (V.str i = V.str j) ↔ (i = j) := ⟨fun z => by injection z, fun z => by rw [z]⟩
  by_cases h : i = j
  · rw [decide_eq_true h, decide_eq_true (e.mpr h)]
  · rw [decide_eq_false h, decide_eq_false (fun z => h (e.mp z))]
theorem dec_bl {i j : Bool} : decide (V.bl i = V.bl j) = decide (i = j) := by
  have e : (V.bl i = V.bl j) ↔ (i = j) := ⟨fun z => by injection z, fun z => by rw [z]⟩
  by_cases h : i = j
  · rw [decide_eq_true h, decide_eq_true (e.mpr h)]
  · rw [decide_eq_false h, decide_eq_false (fun z => h (e.mp z))]
theorem ev_neS {i j : Str} (ha : EvV W σ ta (isSv i)) (hb : EvV W σ tb (isSv j)) : EvV W σ (tOp rNe ta tb) (isBv (!decide (i = j))) :=
  ev_op st_s ha hb fun x y H Q w ex ey k => by
    cases ex
    cases ey
    exact ⟨rfl, k _ H (Same.refl H) w (congrArg (fun b => V.bl (!b)) dec_str)⟩
theorem ev_eqS {i j : Str} (ha : EvV W σ ta (isSv i)) (hb : EvV W σ tb (isSv j)) : EvV W σ (tOp rEq ta tb) (isBv (decide (i = j))) :=
  ev_op st_s ha hb fun x y H Q w ex ey k => by
    cases ex
    cases ey
    exact ⟨rfl, k _ H (Same.refl H) w (congrArg V.bl dec_str)⟩
theorem ev_neB {i j : Bool} (ha : EvV W σ ta (isBv i)) (hb : EvV W σ tb (isBv j)) : EvV W σ (tOp rNe ta tb) (isBv (!decide (i = j))) :=
  ev_op st_b ha hb fun x y H Q w ex ey k => by
    cases ex
    cases ey
    exact ⟨rfl, k _ H (Same.refl H) w (congrArg (fun b => V.bl (!b)) dec_bl)⟩
theorem ev_eqB {i j : Bool} (ha : EvV W σ ta (isBv i)) (hb : EvV W σ tb (isBv j)) : EvV W σ (tOp rEq ta tb) (isBv (decide (i = j))) :=
  ev_op st_b ha hb fun x y H Q w ex ey k => by
    cases ex
    cases ey
    exact ⟨rfl, k _ H (Same.refl H) w (congrArg V.bl dec_bl)⟩
theorem ev_to {R' : V → Hp → Prop} (h : EvV W σ te R) (e : ∀ v H, R v H → R' v H) : EvV W σ te R' := fun H Q w k => h H Q w fun v H' s w' r => k v H' s w' (e v H' r)
theorem ev_bool {b b' : Bool} (h : EvB W σ t b) (e : b = b') : EvB W σ t b' := e ▸ h
/-- an if whose test fails -/
theorem if_no {c : TT} {t u : TS} {D : Ends} {H : Hp} (h : EvB W σ c false) (w : W H) (k : ∀ H', Same H H' → W H' → u D σ H') : tIfS c t u D σ H := h H _ w fun H' s w' => iteF (k H' s w')
end
end V3

set_option Elab.async false
set_option linter.all false
set_option maxRecDepth 100000
/-! x + y of two classes, x += y -/
namespace V3
open PySem PySem.Spec PyProof.Rows L2
/-- no class up the line of D has one of these names -/
def Silent (K : PySem.W.Frag) (D : Addr) (ns : List Str) : Prop := ∃ (oc : Value) (od : Option Addr) (cd : ClassData) (sl : Array (Option Value)), K.lookup D = some ⟨oc, od, .cls cd, sl⟩ ∧ ∀ c ∈ cd.mro, ∀ n ∈ ns, PySem.W.findIn K c n = some none
section
variable {M : Model} {h : Heap} {K : PySem.W.Frag} {D : Addr}
theorem anyM_off {f : Value → Sem Bool} : ∀ {l : List Value}, (∀ c ∈ l, PySem.W.Looks M h (f c) false) → PySem.W.Looks M h (l.anyM f) false
  | [], _ => .now
  | c :: r, e => (e c (List.mem_cons_self ..)).andThen (anyM_off (l := r) fun d hd => e d (List.mem_cons_of_mem _ hd))
theorem cls_mro {oc : Value} {od : Option Addr} {cd : ClassData} {sl : Array (Option Value)} (X : K.In h) (e : K.lookup D = some ⟨oc, od, .cls cd, sl⟩) : PySem.W.Looks M h (mroOf (.ref D)) cd.mro := by
  have z : PySem.W.clsIn K D = some cd := by
    unfold PySem.W.clsIn
    rw [e]
  exact (PySem.W.looks_clsIn X z).andThen (f := fun cd => pure cd.mro) .now
theorem silent_fills {nm : String} (X : K.In h) (s : Silent K D [dunder nm, dunderR nm]) : PySem.W.Looks M h (fillsNumberSlot (.ref D) nm) false := by
  obtain ⟨oc, od, cd, sl, e, al⟩ := s
  unfold fillsNumberSlot
  refine (cls_mro X e).andThen (anyM_off fun c hc => ?_)
  have h1 := PySem.W.looks_findIn (M := M) X (al c hc (dunder nm) (by simp))
  have h2 := PySem.W.looks_findIn (M := M) X (al c hc (dunderR nm) (by simp))
  cases c with
  | type n => exact h1.andThen (h2.andThen .now)
  | ref a => exact (h1.andThen (b := false) .now).andThen ((h2.andThen (b := false) .now).andThen .now)
  | _ => exact absurd (al _ hc (dunder nm) (by simp)) (by simp [PySem.W.findIn])
theorem silent_inp {nm : String} {add : Bool} (X : K.In h) (s : Silent K D [dunderI nm]) : PySem.W.Looks M h (fillsInplaceSlot (.ref D) nm add) false := by
  obtain ⟨oc, od, cd, sl, e, al⟩ := s
  unfold fillsInplaceSlot
  refine (cls_mro X e).andThen (anyM_off fun c hc => ?_)
  have h1 := PySem.W.looks_findIn (M := M) X (al c hc (dunderI nm) (by simp))
  exact h1.andThen .now
end
section
variable {prog : Program} {w : World} {A : Around} {E : Value → Shared → Prop} {s : Shared} {K : PySem.W.Frag} {x C D f : Addr} {ox : Obj} {od : Option Obj}
theorem bin1_same {nm : String} {b : Value} {Q : Value → Shared → Prop} (X : K.In s.heap) (I : PySem.W.InstAt s.heap x ox C od) (hb : PySem.W.Looks (model prog w) s.heap (typeOf b) (.ref C)) (hc : PySem.W.selfFirst K C = true)
    (hs : PySem.W.findIn K (.ref C) (dunder nm) = some (some (.ref f))) (hf : PySem.W.isFn K (.ref f) = true)
    (h : wpAny (model prog w) A (call (.ref f) [.ref x, b]) (PySem.W.CmpBack Q) E s) : wpAny (model prog w) A (binaryOp1 nm (.ref x) b) (fun r s' => ∃ v, r = some v ∧ Q v s') E s := by
  obtain ⟨cd, rest, hcd, hm⟩ := PySem.W.ksp_first hc
  have one := PySem.W.ksp_try X I hs hf h
  unfold binaryOp1
  refine wpAny_bind (I.type.here (wpAny_bind (hb.here (wpAny_bind ((PySem.W.fills_K X hcd hm hs).here ?_)))))
  simp only [beq_self_eq_true, if_true]
  refine wpAny_bind (wpAny_pure ?_)
  simp only [Bool.and_false, Bool.false_eq_true, if_false, Bool.false_and]
  refine wpAny_bind (wpAny_pure ?_)
  simp only [Bool.false_eq_true, if_false]
  refine wpAny_bind (wpAny_mono one (fun r s' z => ?_) fun _ _ e => e)
  obtain ⟨v, rfl, q⟩ := z
  exact wpAny_pure ⟨v, rfl, q⟩
theorem bin1_mix {nm : String} {b : Value} {Q : Value → Shared → Prop} (X : K.In s.heap) (I : PySem.W.InstAt s.heap x ox C od) (hb : PySem.W.Looks (model prog w) s.heap (typeOf b) (.ref D)) (hne : C ≠ D) (hc : PySem.W.selfFirst K C = true)
    (hs : PySem.W.findIn K (.ref C) (dunder nm) = some (some (.ref f))) (hf : PySem.W.isFn K (.ref f) = true) (sil : Silent K D [dunder nm, dunderR nm])
    (h : wpAny (model prog w) A (call (.ref f) [.ref x, b]) (PySem.W.CmpBack Q) E s) : wpAny (model prog w) A (binaryOp1 nm (.ref x) b) (fun r s' => ∃ v, r = some v ∧ Q v s') E s := by
  obtain ⟨cd, rest, hcd, hm⟩ := PySem.W.ksp_first hc
  have one := PySem.W.ksp_try X I hs hf h
  have ne : (Value.ref C == Value.ref D) = false := Bool.eq_false_iff.mpr fun q => hne (by
    have z := beq_iff_eq.mp q
    injection z)
  unfold binaryOp1
  refine wpAny_bind (I.type.here (wpAny_bind (hb.here (wpAny_bind ((PySem.W.fills_K X hcd hm hs).here ?_)))))
  simp only [ne, Bool.false_eq_true, if_false]
  refine wpAny_bind ((silent_fills X sil).here ?_)
  simp only [Bool.and_false, Bool.false_eq_true, if_false, Bool.false_and]
  refine wpAny_bind (wpAny_pure ?_)
  simp only [Bool.false_eq_true, if_false]
  refine wpAny_bind (wpAny_mono one (fun r s' z => ?_) fun _ _ e => e)
  obtain ⟨v, rfl, q⟩ := z
  exact wpAny_pure ⟨v, rfl, q⟩
end
section
variable {X : Cx} {n : Nat}
/-- the classes of x and y, at x op y -/
def BinTwo (K : PySem.W.Frag) (C D : Addr) (op : Operator) : Prop := C = D ∨ (C ≠ D ∧ Silent K D [dunder op.info.2, dunderR op.info.2])
def rBinD (K : PySem.W.Frag) (op : Operator) (inp : Bool) (FF : Addr → Sp → XK → Prop) : R2 := fun x y H Q => ∃ (a C dx : Addr) (fs : List (Str × V)) (b D dy : Addr) (gs : List (Str × V)) (sp : Sp) (E : XK), x = .ref a ∧ y = .ref b ∧ H a = some (.ins C dx fs) ∧ H b = some (.ins D dy gs) ∧
  BinTwo K C D op ∧ (inp = true → Silent K C [dunderI op.info.2]) ∧ FF C sp E ∧ sp [x, y] H Q E
abbrev OpF (X : Cx) (n : Nat) (op : Operator) (FF : Addr → Sp → XK → Prop) : Prop := ∀ C sp E, FF C sp E → ∃ (CX : CXT) (f : Addr) (fd : FuncData) (ps : List Str), FnOk X.prog X.w X.K X.mg X.base CX n f fd ps sp ∧ BinCls X.K C f op ∧ Binds X.K fd ps [] ∧ Passes CX X E
theorem bin_run {op : Operator} {inp : Bool} {FF : Addr → Sp → XK → Prop} (hF : OpF X n op FF) (hr : Room n X.A) {pins : List (Addr × Obj)} {s : Shared} {σ : L2.St} {H : Hp} {x y : V} {v u : Value} {Q : VK} (I : Inv X pins σ H s) (rx : RelV x v) (ry : RelV y u)
    (hq : rBinD X.K op inp FF x y H Q) : ∃ (a C : Addr) (ox : Obj) (od : Option Obj), v = .ref a ∧ PySem.W.InstAt s.heap a ox C od ∧ (inp = true → Silent X.K C [dunderI op.info.2]) ∧ wpAny (model X.prog X.w) X.A (binaryOp1 op.info.2 v u) (fun r s' => ∃ z, r = some z ∧ EP X pins σ Q z s') X.xe s := by
  obtain ⟨a, C, dx, fs, b, D, dy, gs, sp, E, rfl, rfl, ha, hb, two, no, ff, hsp⟩ := hq
  obtain ⟨CX, f, fd, ps, F, ec, bi, hx⟩ := hF C sp E ff
  cases rx
  cases ry
  obtain ⟨mA, J, _⟩ := ins_get I.hok ha
  obtain ⟨mB, J', _⟩ := ins_get I.hok hb
  obtain ⟨od, J, _⟩ := J.look
  obtain ⟨od', J', _⟩ := J'.look
  have go : wpAny (model X.prog X.w) X.A (call (.ref f) [.ref a, .ref b]) (PySem.W.CmpBack (EP X pins σ Q)) X.xe s := by
    refine wpAny_mono (run_own (x := .ref a) (y := .ref b) ⟨hr, rfl⟩ F bi hx I rfl rfl hsp) (fun w s' q => ?_) fun _ _ e => e
    obtain ⟨z, H', I', rz, q⟩ := q
    exact vals_back rz ⟨z, H', I', rz, q⟩
  refine ⟨a, C, _, _, rfl, J, no, ?_⟩
  rcases two with rfl | ⟨ne, sil⟩
  · exact bin1_same I.kIn J J'.type ec.sf ec.at_ ec.fn go
  · exact bin1_mix I.kIn J J'.type ne ec.sf ec.at_ ec.fn sil go
theorem op_binD {op : Operator} {FF : Addr → Sp → XK → Prop} (hF : OpF X n op FF) (hr : Room n X.A) : OpR X (binaryOp op) (rBinD X.K op false FF) := by
  intro pins s σ H x y v u Q I rx ry hq
  obtain ⟨a, C, ox, od, rfl, J, no, go⟩ := bin_run hF hr I rx ry hq
  unfold binaryOp
  refine wpAny_holding (wpAny_bind (wpAny_mono go (fun r s' z => ?_) fun _ _ e => e))
  obtain ⟨v, rfl, q⟩ := z
  exact wpAny_pure q
theorem ip_own {op : Operator} {FF : Addr → Sp → XK → Prop} (hF : OpF X n op FF) (hr : Room n X.A) : PIp X op (rBinD X.K op true FF) := by
  intro pins s σ H x y v u Q I rx ry hq
  obtain ⟨a, C, ox, od, rfl, J, no, go⟩ := bin_run hF hr I rx ry hq
  unfold inplaceOp
  refine wpAny_holding (wpAny_bind (J.type.here (wpAny_bind ((silent_inp I.kIn (no rfl)).here ?_))))
  simp only [Bool.false_eq_true, if_false]
  refine wpAny_bind (wpAny_mono go (fun r s' z => ?_) fun _ _ e => e)
  obtain ⟨v, rfl, q⟩ := z
  exact wpAny_pure q
end
end V3

set_option Elab.async false
set_option linter.all false
set_option maxRecDepth 100000
/-! functions that are called where no repr is under way: repr of nested lists and tuples -/
namespace V3
open PySem PySem.Spec PyProof.Rows L2
def NoG (A : Around) : Prop := A.guards = some []
theorem NoG.deeper {A : Around} (h : NoG A) (e : Env) : NoG (A.deeper e) := h
/-- what a def promises to such callers -/
structure FnG (P : Program) (w : World) (K : PySem.W.Frag)
    (mg : Str → Option Value) (base : Heap) (CX : CXT) (k : Nat)
    (f : Addr) (fd : FuncData) (ps : List Str) (sp : Sp) : Prop where
  len : ∀ vs H Q E, sp vs H Q E → vs.length = ps.length
  run : ∀ (A : Around) (up : List Env) (s : Shared) (H : Hp) (args : Args)
    (us : List Value) (vs : List V) (Q : VK) (E : XK),
    NoG A → Room k A → Env0 P w K mg base A up s H →
    BindsTo s fd args (ps.zip us) → Vals vs us → sp vs H Q E →
    codeAny (model P w) A (.call (.ref f) args) (CR CX up P w H s Q E) s
theorem FnG.of {P : Program} {w : World} {K : PySem.W.Frag} {mg : Str → Option Value} {base : Heap}
    {CX : CXT} {k : Nat} {f : Addr} {fd : FuncData} {ps : List Str} {sp : Sp}
    (F : FnOk P w K mg base CX k f fd ps sp) : FnG P w K mg base CX k f fd ps sp :=
  ⟨F.len, fun A up s H args us vs Q E _ => F.run A up s H args us vs Q E⟩
theorem FnG.up {P : Program} {w : World} {K : PySem.W.Frag} {mg : Str → Option Value} {base : Heap}
    {CX : CXT} {j k : Nat} {f : Addr} {fd : FuncData} {ps : List Str} {sp : Sp}
    (F : FnG P w K mg base CX j f fd ps sp) (h : j ≤ k) : FnG P w K mg base CX k f fd ps sp :=
  ⟨F.len, fun A up s H args us vs Q E g r => F.run A up s H args us vs Q E g (r.mono h)⟩
section
variable {P : Program} {w : World} {K : PySem.W.Frag} {mg : Str → Option Value} {base : Heap}
/-- the rule for a def of the text -/
theorem fnG {CX : CXT} {k : Nat} {f : Addr} {x qual : Str} {st : Stmt} {fd : FuncData}
    {N ps : List Str} {sp : Sp} (F : Fun K x qual st f fd) (S : FnScope N ps (defScope st))
    (len : ∀ vs H Q E, sp vs H Q E → vs.length = ps.length)
    (hbody : ∀ (cdv : Value) (A : Around) (up : List Env) (s : Shared) (H : Hp)
      (vs : List V) (Q : VK) (E : XK),
      NoG A → Room k (A.deeper (envOfC qual (defScope st) s.heap.objs.size f cdv)) →
      sp vs H Q E →
      ∃ t, PSs (cxOf CX P w K mg base N qual (defScope st) f cdv A up s H E) (defBody st) t ∧
        t { nx := fun _ H' => Q .non H', rt := Q } (start N vs) H) :
    FnG P w K mg base CX (k + 1) f fd ps sp := by
  obtain ⟨oc, od, kV, doc, pm, an, cdv, ct, osl, rfl, lk, hcd⟩ := F.ex
  refine ⟨len, fun A up s H args us vs Q E g room e0 bnd rel want => ?_⟩
  have nlen := len _ _ _ _ want
  have old := fun b o e => (e0.bs b o e).1
  have KX : K.In s.heap := e0.mod.kin.keeps old
  have lim := e0.mod.nolimit.keeps old
  have known : ∀ y ∈ ps.zip us, (defScope st).names.lookup y.1 = some .local ∨
      ((defScope st).names.lookup y.1 = some .cell ∧
        ((cellsFrom (s.heap.objs.size + 1) (defScope st).names []).lookup y.1).isSome = true) := by
    rintro ⟨n, v⟩ hy
    exact (S.par n (List.of_mem_zip hy).1).imp id fun q => ⟨q, PySem.W.cellsFrom_some _ _ _ (.inl q)⟩
  refine codeAny_call_function room.depth (KX _ _ lk) rfl S.co S.gen rfl
    (PySem.W.codeRec_of KX hcd) (bnd _ _ _ _ ?_)
  refine wpAny_newFunctionEnv_cells S.kind known fun env same s1 x => ?_
  subst same
  refine ⟨lim.keeps x.toInCall.keep, codeAny_func ?_⟩
  obtain ⟨t, ht, hq⟩ := hbody cdv A up s H vs Q E g (room.deeper _) want
  have I := inv_start (CX := CX) (E := E) S room.hd e0 nlen rel x
  refine wpAny_mono (ht.run [] s1 (start N vs) H _ I hq) (fun fl s' hs => ?_) fun e s' hs => hs
  match fl, hs with
  | .ret u, hs =>
    obtain ⟨v, σ', H', J, rv, q⟩ := hs
    exact ⟨v, H', J.os, J.bare, J.base, J.hok, rv, q⟩
  | .next, hs =>
    obtain ⟨σ', H', J, q⟩ := hs
    exact ⟨.non, H', J.os, J.bare, J.base, J.hok, rfl, q⟩
  | .brk, hs =>
    obtain ⟨_, _, _, q⟩ := hs
    exact q.elim
  | .cont, hs =>
    obtain ⟨_, _, _, q⟩ := hs
    exact q.elim
end
section
variable {X : Cx} {CX : CXT} {k : Nat} {f : Addr} {fd : FuncData} {ps : List Str} {sp : Sp}
  {dvs : List V} {ds : List Value} {E : XK} {x : Str} {p pos : Pos} {e : Expr} {es : List Expr} {t : TA}
theorem runG {pins : List (Addr × Obj)} {σ : L2.St} {H : Hp} {s : Shared} {Q : VK}
    {us : List Value} {vs : List V} (F : FnG X.prog X.w X.K X.mg X.base CX k f fd ps sp)
    (g : NoG X.A) (room : Room k X.A) (bi : Binds X.K fd ps ds) (va : Vals dvs ds)
    (out : Passes CX X E) (I : Inv X pins σ H s) (r : Vals vs us) (want : sp (vs ++ dvs) H Q E) :
    wpAny (model X.prog X.w) X.A (call (.ref f) us) (EP X pins σ Q) X.xe s := by
  have r2 := r.append va
  have nlen := r2.length.symm.trans (F.len _ _ _ _ want)
  have ran := F.run X.A X.stack s H ⟨us, []⟩ _ _ Q E g room I.env0 (bi s us I.kIn nlen) r2 want
  refine wpAny_call (codeAny_mono ran fun res s' hq => ?_)
  match res, hq with
  | .error err, hq => exact out pins σ H s err s' I hq
  | .ok (.ret u), hq => exact I.after hq
  | .ok .next, hq => exact hq.elim
  | .ok .brk, hq => exact hq.elim
  | .ok .cont, hq => exact hq.elim
/-- f(e, ..) -/
theorem pe_callG (F : FnG X.prog X.w X.K X.mg X.base CX k f fd ps sp) (g : NoG X.A)
    (room : Room k X.A) (hg : Gl X x) (hm : X.mg x = some (.ref f))
    (kp : PySem.W.keepIn X.K (.ref f) = true) (bi : Binds X.K fd ps ds) (va : Vals dvs ds)
    (out : Passes CX X E) (ha : PA X (e :: es) t)
    (hdb : (x == ("__debug__" : Str)) = false := by decide)
    (he : starEach (e :: es) X.env = (false, eval e X.env) :: starEach es X.env := by rfl)
    (hpl : (backTo pos (starEach es X.env)).any (·.1) = false := by rfl) :
    PE X (.Call (.Name x p) (e :: es) [] pos) (tCall sp dvs E t) := by
  refine ⟨fun pins s σ H Q I h => wpAny_Call_Name_kw (ld_glob I hg hm ?_ hdb)⟩
  refine PySem.W.callWith_K (h₀ := X.base) I.ok.mod.kin kp ?_ he hpl
  exact thn (ha.run pos pins s σ H _ I h) fun us s1 ⟨vs, H1, I1, r, q⟩ =>
    ⟨I1.kIn, runG F g room bi va out I1 r q⟩
/-- repr(v), v nested data -/
def rReprD (K : PySem.W.Frag) (A : Around) : List V → Hp → VK → Prop := fun xs H Q =>
  ∃ (a : Addr) (d : PyData), xs = [.ref a] ∧ Dp K H (.ref a) d ∧ d.showable = true ∧
    d.hasDict = false ∧ A.units + (d.depth + 1) < cLine ∧ d.shown.length ≤ sizeLine ∧ Q (.str d.shown) H
theorem call_reprD (g : NoG X.A) : CallR X (.builtin "repr") (rReprD X.K X.A) := by
  intro pins s σ H xs us Q I r h
  obtain ⟨a, d, rfl, hd, sh, nd, hu, hz, q⟩ := h
  obtain ⟨u, rfl, ru⟩ := vals1 r
  obtain ⟨as, rd⟩ := hd.reads I d _ _ ru
  cases ru
  exact repr_of_reads' rd sh (PyData.noDict_hsm nd) g hu (fun _ _ e => e)
    (fun h' u tk hk => ⟨.str d.shown, H, I.kept (t' := tk) hk, ⟨u, rfl⟩, q⟩) hz
end
end V3

set_option Elab.async false
set_option linter.all false
set_option maxRecDepth 100000
/-! the law's own call, where no repr is under way -/
namespace V3
open PySem PySem.Spec PyProof.Rows L2
section
variable {P : Program} {w : World} {K : PySem.W.Frag} {mg mb : Str → Option Value} {k : Nat}
  {fa a : Addr} {fd : FuncData} {x : Str} {sp : Sp} {s1 : Shared} {vs : List Value} {ns : List Int}
/-- nothing but the script is followed -/
structure Lone (H : Hp) (a : Addr) : Prop where
  only : Only H
  here : ∀ b, H b ≠ none → b = a
theorem law_from {H : Hp} (KX : K.In s1.heap) (hns : s1.heap.Ns mainGlobals mg)
    (hb : s1.heap.Ns builtinsNs mb) (hbb : ∀ y : Str, y ≠ "__name__" → mb y = bootBuiltins y)
    (lim : s1.heap.NoLimit) (gens : s1.gens = #[])
    (ha : s1.heap.get? a = some { cls := .type "list", data := .seq vs.toArray })
    (room : Room k callerA)
    (F : ∀ base : Heap, K.In base → base.Ns mainGlobals mg → FnG P w K mg base CX0 k fa fd [x] sp)
    (bi : ∀ (s : Shared) (u : Value), BindsTo s fd ⟨[u], []⟩ [(x, u)])
    (want : sp [.ref a] H (fun v _ => v = .bl true) fun _ _ _ => False)
    (lone : Lone H a) (hok : HOk P w H s1.heap) (free : H a ≠ none → K.lookup a = none) :
    codeAny (model P w) callerA (.call (.ref fa) ⟨[.ref a], []⟩)
      (fun r s' => r = .ok (.ret (.bool true)) ∧ OldK s1.heap s'.heap ∧ s'.os = s1.os ∧ AllBare s'.gens) s1 := by
  have at_a : ∀ {b : Addr}, H b ≠ none → b = a := fun {b} h => lone.here b h
  have kept : ∀ {b : Addr} {o : Obj}, s1.heap.get? b = some o → (b = a → H b = none) →
      (hidT s1.heap H).get? b = some o := by
    intro b o e n
    by_cases q : H b = none
    · exact hidT_get e q
    · exact hidT_get e (n (at_a q))
  have nsK : ∀ {b : Addr} {m : Str → Option Value}, s1.heap.Ns b m → (hidT s1.heap H).Ns b m := by
    rintro b m ⟨o, es, ep, e, d, r⟩
    refine ⟨o, es, ep, kept e fun z => ?_, d, r⟩
    subst z
    rw [ha] at e
    cases e
    exact nomatch d
  have hKb : K.In (hidT s1.heap H) := by
    intro b o e
    refine kept (KX b o e) fun z => ?_
    subst z
    by_cases q : H b = none
    · exact q
    · rw [free q] at e
      cases e
  obtain ⟨mc, c1, c2⟩ := lim
  have hM : Mod K mg (hidT s1.heap H) := ⟨hKb, nsK hns, ⟨mb, nsK hb, hbb⟩, mc, nsK c1, c2⟩
  have e0 : Env0 P w K mg (hidT s1.heap H) callerA [] s1 H :=
    ⟨rfl, hM, fun b o e => of_hidT e, Nat.le_of_eq (hidT_size _ _), trivial,
      fun b hb => (nomatch hb), hok, AllBare.of_eq gens⟩
  have ran := (F _ hKb (nsK hns)).run callerA [] s1 H ⟨[.ref a], []⟩ [.ref a] [.ref a] _ _ rfl room e0
    (bi s1 (.ref a)) (.cons rfl .nil) want
  refine codeAny_mono ran fun r s' h => ?_
  match r, h with
  | .error e, h => exact h.elim
  | .ok .next, h => exact h.elim
  | .ok .brk, h => exact h.elim
  | .ok .cont, h => exact h.elim
  | .ok (.ret u), h =>
    obtain ⟨v, H', os, bare, un, hok', r', q⟩ := h
    have q' : v = .bl true := q
    subst q'
    have r2 : u = Value.bool true := r'
    subst r2
    refine ⟨rfl, OldK.of_keep fun b o e => ?_, os, bare⟩
    cases hb : H b with
    | none => exact un.keep b o e hb (fun z => by cases z) (by simp)
    | some u =>
      rcases lone.only b with z | ⟨ob, xs, z⟩
      · rw [hb] at z
        cases z
      · obtain ⟨g1, _⟩ := hok b _ z
        obtain ⟨g2, _⟩ := hok' b _ (un.frzs b ob _ z)
        rw [e] at g1
        cases g1
        exact g2
theorem law_callG (KX : K.In s1.heap) (hns : s1.heap.Ns mainGlobals mg)
    (hb : s1.heap.Ns builtinsNs mb) (hbb : ∀ y : Str, y ≠ "__name__" → mb y = bootBuiltins y)
    (lim : s1.heap.NoLimit) (gens : s1.gens = #[])
    (ha : s1.heap.get? a = some { cls := .type "list", data := .seq vs.toArray })
    (whole : IntsAre vs ns) (few : ns.length ≤ sizeLine) (room : Room k callerA)
    (F : ∀ base : Heap, K.In base → base.Ns mainGlobals mg → FnG P w K mg base CX0 k fa fd [x] sp)
    (bi : ∀ (s : Shared) (u : Value), BindsTo s fd ⟨[u], []⟩ [(x, u)])
    (want : ∀ H : Hp, Only H → SqL K H a (ns.map V.int) → sp [.ref a] H (fun v _ => v = .bl true) fun _ _ _ => False) :
    codeAny (model P w) callerA (.call (.ref fa) ⟨[.ref a], []⟩)
      (fun r s' => r = .ok (.ret (.bool true)) ∧ OldK s1.heap s'.heap ∧ s'.os = s1.os ∧ AllBare s'.gens) s1 := by
  have rv := vals_ints whole
  have nv := whole.length
  cases hk : K.lookup a with
  | some o =>
    have e := KX a o hk
    rw [ha] at e
    cases e
    have o0 : Only (fun _ => none) := fun _ => .inl rfl
    refine law_from KX hns hb hbb lim gens ha room F bi (want _ o0 (.inr ⟨_, vs.toArray, _, hk, rfl, rfl, rfl, ?_, ?_⟩)) ⟨o0, ?_⟩ ?_ ?_
    · rw [List.size_toArray, nv]
      exact few
    · simpa using rv
    · intro b z
      exact absurd rfl z
    · intro b u z
      have z2 : (none : Option HO) = some u := z
      cases z2
    · intro z
      exact absurd rfl z
  | none =>
    let Ha : Hp := fun b => if b = a then some (.frz { cls := .type "list", data := .seq vs.toArray } (.lst (ns.map V.int))) else none
    have yes : Ha a = some (.frz { cls := .type "list", data := .seq vs.toArray } (.lst (ns.map V.int))) := if_pos rfl
    have no : ∀ b, b ≠ a → Ha b = none := fun b n => if_neg n
    have o0 : Only Ha := by
      intro b
      by_cases z : b = a
      · subst z
        exact .inr ⟨_, _, yes⟩
      · exact .inl (no b z)
    refine law_from (H := Ha) KX hns hb hbb lim gens ha room F bi (want _ o0 (.inl (.inr ⟨_, yes⟩))) ⟨o0, ?_⟩ ?_ fun _ => hk
    · intro b z
      by_cases q : b = a
      · exact q
      · exact absurd (no b q) z
    · intro b u z
      by_cases q : b = a
      · subst q
        rw [yes] at z
        cases z
        exact ⟨ha, by rw [List.length_map]; exact few, vs, _, rv, ha⟩
      · rw [no b q] at z
        cases z
end
/-- the walk from such a promise -/
theorem walk_ofG {l : PySem.W.OpenLaw} {n k : Nat} {q : Program} {loose : List Str}
    {XP : (Str → Option Value) → Heap → Prop} {YP : World → Heap → Prop} {d : DefRec}
    {K : Params → PySem.W.Frag} {sp : World → Sp} {x : Str}
    (hn : l.most = some n) (small : n ≤ sizeLine) (hdf : d.params.defaults = []) (room : Room k callerA)
    (hY : ∀ (w : World) (h : Heap), YP w h → (K w.params).In h)
    (F : ∀ (w : World) (mg : Str → Option Value) (fa : Addr) (h : Heap), (K w.params).In h →
      h.Ns mainGlobals mg → mg d.name = some (.ref fa) →
      ∃ fd : FuncData, (∀ (s : Shared) (u : Value), BindsTo s fd ⟨[u], []⟩ [(x, u)]) ∧
        ∀ base : Heap, (K w.params).In base → base.Ns mainGlobals mg →
          FnG l.prog w (K w.params) mg base CX0 k fa fd [x] (sp w))
    (hsp : ∀ (w : World) (H : Hp) (a : Addr) (ns : List Int), ns.length ≤ n → Only H →
      SqL (K w.params) H a (ns.map V.int) → sp w [.ref a] H (fun v _ => v = .bl true) fun _ _ _ => False) :
    PySem.W.WalkO q loose XP YP l.row.toRowW d [] (fun f vs => PySem.call f vs) := by
  refine Att.attach_call hn hdf fun w s0 s1 mg mb fa o pm cd doc a vs ns G Y ho hd hcd hmg hobj whole len gens => ?_
  have KX := hY w _ Y
  obtain ⟨fd, bi, hF⟩ := F w mg fa _ KX G.T.g hmg
  exact law_callG KX G.T.g G.T.b G.T.builtins G.T.nolimit gens hobj whole (Nat.le_trans len small) room hF bi
    fun H hO hS => hsp w H a ns len hO hS
end V3

set_option Elab.async false
set_option linter.all false
set_option maxRecDepth 100000
/-! == of tuples whose items have an == of their own, whatever comes out -/
namespace V3
open PySem PySem.SeqAt
open AutoSeq1 (wpAny_loadPart')
open MeetsSeq MeetsSeq2 MeetsSeq3 SeqRoads2
section
variable {prog : Program} {w : World} {A : Around} {R : Result → Shared → Prop}
theorem tuple_eqAny (l b : Addr) (xs ys : Array Value) (n n2 : Nat) (dd dd2 : Option Addr) (sl sl2 : Array (Option Value)) (e : Nat → Bool) (res : Bool) (I : Nat → Shared → Prop)
    (turn : ∀ i (h1 : i < xs.size) (h2 : i < ys.size) s, I i s → wpAny (model prog w) A.in1 (eqBool xs[i] ys[i]) (fun r s' => r = e i ∧ I (i + 1) s') (fun x s' => R (.error x) s') s)
    (stop : ∀ i, i < xs.size → i < ys.size → e i = false → res = false) (whole : (∀ i, i < xs.size → i < ys.size → e i = true) → res = (xs.size == ys.size))
    (fin : ∀ i s, I i s → R (.ok (.ret (.bool res))) s) {s : Shared} (hl1 : s.heap.get? l = some { cls := .type "tuple", dict := dd, data := .seq xs n, slots := sl }) (hb1 : s.heap.get? b = some { cls := .type "tuple", dict := dd2, data := .seq ys n2, slots := sl2 }) (h : I 0 s) :
    wpAny (model prog w) A.in1 (Builtin.«tuple.__eq__» ⟨[.ref l, .ref b], []⟩) (GQ.FinOf prog w A R) (fun x s' => R (.error x) s') s := by
  have g2 := AutoSeq1.sub_tuple_tuple
  have lz : (xs.toList.zip ys.toList).length = min xs.size ys.size := by simp
  have h0 := h
  obtain ⟨hp, g, d, tk, os⟩ := s
  wp_walk using wpAny_loadPart' hl1, wpAny_loadPart' hb1, wpAny_forIn_list _ (fun rest b s' => b.1 = none ∧ ∃ i, rest = (xs.toList.zip ys.toList).drop i ∧ i ≤ (xs.toList.zip ys.toList).length ∧ I i s' ∧ ∀ j, j < i → e j = true) _
  case turn =>
    rintro ⟨y, x⟩ rest b s' ⟨hb', i, hz, hi, hI, ht⟩
    have lt : i < (xs.toList.zip ys.toList).length := by
      rcases Nat.lt_or_ge i (xs.toList.zip ys.toList).length with q | q
      · exact q
      · rw [List.drop_of_length_le q] at hz
        cases hz
    have h1 : i < xs.size := by omega
    have h2 : i < ys.size := by omega
    rw [List.drop_eq_getElem_cons lt] at hz
    injection hz with hyx hr
    have ey : y = xs[i] := by simpa using congrArg Prod.fst hyx
    have ex : x = ys[i] := by simpa using congrArg Prod.snd hyx
    subst ey ex
    refine wpAny_bind (wpAny_mono (turn i h1 h2 s' hI) (fun r s2 q2 => ?_) fun _ _ z => z)
    obtain ⟨hr2, q2⟩ := q2
    cases hc : e i with
    | true =>
      rw [hc] at hr2
      subst hr2
      wp_walk
      refine ⟨rfl, i + 1, hr, lt, q2, fun j hj => ?_⟩
      rcases Nat.lt_or_ge j i with k | k
      · exact ht j k
      · have : j = i := by omega
        rw [this]
        exact hc
    | false =>
      rw [hc] at hr2
      subst hr2
      have er := stop i h1 h2 hc
      have z := fin (i + 1) s2 q2
      rw [er] at z
      wp_walk
      all_goals first | exact z | exact ⟨_, rfl, z⟩ | simpa using z
  case fin =>
    rintro ⟨b1, b2⟩ s' ⟨hb', i, hz, hi, hI, ht⟩
    simp only at hb'
    subst hb'
    have ge : (xs.toList.zip ys.toList).length ≤ i := by
      rcases Nat.lt_or_ge i (xs.toList.zip ys.toList).length with q | q
      · rw [List.drop_eq_getElem_cons q] at hz
        cases hz
      · exact q
    have er := whole fun j a c => ht j (by omega)
    have z := fin i s' hI
    rw [er] at z
    wp_walk
    first | exact z | (simpa [Builtin.Tuple.tupleCompareSizes] using z)
  case h =>
    exact ⟨rfl, 0, rfl, Nat.zero_le _, h0, fun j hj => absurd hj (Nat.not_lt_zero j)⟩
end
section
variable {prog : Program} {w : World} {A : Around} {E : Value → Shared → Prop} {s : Shared}
theorem rc_tupAny {l b : Addr} {xs ys : Array Value} {Q : Value → Shared → Prop} (hu : A.units < cLine) (e : Nat → Bool) (res : Bool) (I : Nat → Shared → Prop)
    (hl : s.heap.IsTuple l xs) (hb : s.heap.IsTuple b ys)
    (turn : ∀ i (h1 : i < xs.size) (h2 : i < ys.size) s, I i s → wpAny (model prog w) A.in1 (eqBool xs[i] ys[i]) (fun r s' => r = e i ∧ I (i + 1) s') E s)
    (stop : ∀ i, i < xs.size → i < ys.size → e i = false → res = false) (whole : (∀ i, i < xs.size → i < ys.size → e i = true) → res = (xs.size == ys.size))
    (fin : ∀ i s, I i s → Q (.bool res) s) (h : I 0 s) : wpAny (model prog w) A (richCompare .Eq (.ref l) (.ref b)) Q E s := by
  obtain ⟨⟨c1, d1, da1, sl1⟩, o1, k1, n1, e1⟩ := id hl
  obtain ⟨⟨c2, d2, da2, sl2⟩, o2, k2, n2, e2⟩ := id hb
  simp only at k1 e1 k2 e2
  subst k1 e1 k2 e2
  refine wpAny_richCompare_same_room (op := .Eq) ⟨_, o1, rfl⟩ ⟨_, o2, rfl⟩ F.slot_tuple_eq (GQ.call_here F.slot_tuple_eq ⟨_, o1, rfl⟩ F.entry_tuple_eq (F.args_tuple_eq_2 _ _) ?_) hu
  exact tuple_eqAny (R := wants (fun v s' => v ≠ .notImplemented ∧ Q v s') E) l b xs ys n1 n2 d1 d2 sl1 sl2 e res I turn stop whole (fun i s' q => ⟨(fun x => nomatch x), fin i s' q⟩) o1 o2 h
end
end V3

set_option Elab.async false
set_option linter.all false
set_option maxRecDepth 100000
/-! == of tuples of objects, at the level of values -/
namespace V3
open PySem PySem.Spec PyProof.Rows L2
def EqB (X : Cx) (n : Nat) (D : V → V → Bool → Hp → Prop) : Prop :=
  ∀ (A : Around) (pins : List (Addr × Obj)) (s : Shared) (σ : L2.St) (H : Hp) (x y : V) (u v : Value) (r : Bool), Sub X n A → Inv X pins σ H s → RelV x u → RelV y v → D x y r H →
    wpAny (model X.prog X.w) A (eqBool u v) (fun q s' => q = r ∧ ∃ H', Inv X pins σ H' s' ∧ Ext H H') X.xe s
def MonB (D : V → V → Bool → Hp → Prop) : Prop := ∀ x y r H H', Ext H H' → D x y r H → D x y r H'
def rTupB (K : PySem.W.Frag) (D : V → V → Bool → Hp → Prop) (neg : Bool) : R2 := fun x y H Q => ∃ (a b : Addr) (xs ys : List V) (e : Nat → Bool) (res : Bool), x = .ref a ∧ y = .ref b ∧ SqT K H a xs ∧ SqT K H b ys ∧
  (∀ (i : Nat) x y, xs[i]? = some x → ys[i]? = some y → D x y (e i) H) ∧ (∀ i, i < xs.length → i < ys.length → e i = false → res = false) ∧ ((∀ i, i < xs.length → i < ys.length → e i = true) → res = (xs.length == ys.length)) ∧
  ∀ H', Ext H H' → Q (.bl (res != neg)) H'
theorem at_vals {xs : List V} {its : List Value} (r : Vals xs its) {i : Nat} (h : i < its.toArray.size) : ∃ x, xs[i]? = some x ∧ RelV x its.toArray[i] := by
  have k : i < its.length := by simpa using h
  have k1 : i < xs.length := by rw [r.length]; exact k
  obtain ⟨u, hu, ru⟩ := r.get (List.getElem?_eq_getElem k1)
  rw [List.getElem?_eq_getElem k] at hu
  refine ⟨_, List.getElem?_eq_getElem k1, ?_⟩
  have e : its.toArray[i] = u := by simpa using Option.some.inj hu
  rw [e]
  exact ru
theorem op_eqB {X : Cx} {n : Nat} {D : V → V → Bool → Hp → Prop} (hD : MonB D) (h : EqB X n D) (hr : Room (n + 1) X.A) : OpR X (compareOp .Eq) (rTupB X.K D false) := by
  intro pins s σ H x y v u Q I rx ry hq
  obtain ⟨a, b, xs, ys, e, res, rfl, rfl, ha, hb, pr, st, wh, q⟩ := hq
  cases rx
  cases ry
  obtain ⟨its, r1, t1, z1⟩ := I.tuple ha
  obtain ⟨its2, r2, t2, z2⟩ := I.tuple hb
  have l1 := r1.length
  have l2 := r2.length
  show wpAny (model X.prog X.w) X.A (richCompare .Eq (.ref a) (.ref b)) (EP X pins σ Q) X.xe s
  refine rc_tupAny hr.units0 e res (fun _ s' => ∃ H', Inv X pins σ H' s' ∧ Ext H H') t1 t2 (fun i h1 h2 s' l => ?_) (fun i h1 h2 => st i (by simpa [l1] using h1) (by simpa [l2] using h2)) (fun k => ?_) (fun i s' l => ?_) ⟨H, I, Ext.rfl'⟩
  · obtain ⟨H1, I1, e1⟩ := l
    obtain ⟨x, ex, rx⟩ := at_vals r1 h1
    obtain ⟨y, ey, ry⟩ := at_vals r2 h2
    refine wpAny_mono (h X.A.in1 pins s' σ H1 x y _ _ (e i) ⟨hr.in1, rfl⟩ I1 rx ry (hD _ _ _ _ _ e1 (pr i x y ex ey))) (fun q s2 z => ?_) fun _ _ x => x
    obtain ⟨eq, H2, I2, e2⟩ := z
    exact ⟨eq, H2, I2, e1.trans e2⟩
  · have w := wh fun i a c => k i (by simpa [← l1] using a) (by simpa [← l2] using c)
    rw [w, List.size_toArray, List.size_toArray, l1, l2]
  · obtain ⟨H1, I1, e1⟩ := l
    refine ⟨.bl res, H1, I1, rfl, ?_⟩
    have z := q H1 e1
    rw [show (res != false) = res from by cases res <;> rfl] at z
    exact z
end V3

set_option Elab.async false
set_option linter.all false
set_option maxRecDepth 100000
namespace V3
open PySem L2
abbrev sIsInt : Stmt := top 1
abbrev sIsNum : Stmt := top 2
abbrev sIsAmt : Stmt := top 3
abbrev sImInit : Stmt := inClass (top 7) 0
abbrev sBInit : Stmt := inClass (top 11) 0
abbrev sBStr : Stmt := inClass (top 11) 2
abbrev sTInit : Stmt := inClass (top 12) 0
abbrev sTStr : Stmt := inClass (top 12) 2
abbrev sRInit : Stmt := inClass (top 13) 0
abbrev sRStr : Stmt := inClass (top 13) 2
/-- any value: none of it too great -/
inductive AV (H : Hp) : V → Prop where
  | non : AV H .non
  | bl (b : Bool) : AV H (.bl b)
  | int (i : Int) (h : i.natAbs ≤ 1000000000000) : AV H (.int i)
  | str (z : Str) : AV H (.str z)
  | lst {a : Addr} {xs : List V} (h : H a = some (.lst xs)) : AV H (.ref a)
  | tup {a : Addr} {xs : List V} (h : H a = some (.tup xs)) : AV H (.ref a)
theorem AV.same {H H' : Hp} {v : V} (h : AV H v) (s : Same H H') : AV H' v := by
  cases h with
  | non => exact .non
  | bl b => exact .bl b
  | int i h => exact .int i h
  | str z => exact .str z
  | lst h => exact .lst (s _ _ h)
  | tup h => exact .tup (s _ _ h)
def isNum : V → Int → Bool
  | .int i, n => decide (n ≤ i)
  | _, _ => false
def isI : V → Bool
  | .int _ => true
  | .bl _ => true
  | _ => false
def isB : V → Bool
  | .bl _ => true
  | _ => false
theorem av_ty {K : PySem.W.Frag} {H : Hp} {v : V} (h : AV H v) : ∃ t, TyX K H v t ∧ PySem.W.kitOne K t (.type "int") = some (isI v) ∧ PySem.W.kitOne K t (.type "bool") = some (isB v) := by
  cases h with
  | non => exact ⟨_, .base .non, (show PySem.W.kitOne K (.type "NoneType") (.type "int") = some false from kit_ty (by decide +kernel)), (show PySem.W.kitOne K (.type "NoneType") (.type "bool") = some false from kit_ty (by decide +kernel))⟩
  | bl b => exact ⟨_, .base (.bl b), (show PySem.W.kitOne K (.type "bool") (.type "int") = some true from kit_ty (by decide +kernel)), (show PySem.W.kitOne K (.type "bool") (.type "bool") = some true from kit_ty (by decide +kernel))⟩
  | int i h => exact ⟨_, .base (.int i), (show PySem.W.kitOne K (.type "int") (.type "int") = some true from kit_ty (by decide +kernel)), (show PySem.W.kitOne K (.type "int") (.type "bool") = some false from kit_ty (by decide +kernel))⟩
  | str z => exact ⟨_, .base (.str z), (show PySem.W.kitOne K (.type "str") (.type "int") = some false from kit_ty (by decide +kernel)), (show PySem.W.kitOne K (.type "str") (.type "bool") = some false from kit_ty (by decide +kernel))⟩
  | lst h => exact ⟨_, .base (.lst h), (show PySem.W.kitOne K (.type "list") (.type "int") = some false from kit_ty (by decide +kernel)), (show PySem.W.kitOne K (.type "list") (.type "bool") = some false from kit_ty (by decide +kernel))⟩
  | tup h => exact ⟨_, .base (.tup h), (show PySem.W.kitOne K (.type "tuple") (.type "int") = some false from kit_ty (by decide +kernel)), (show PySem.W.kitOne K (.type "tuple") (.type "bool") = some false from kit_ty (by decide +kernel))⟩
theorem num_of {v : V} {n : Int} (h : isNum v n = true) : ∃ i : Int, v = .int i ∧ n ≤ i := by
  cases v with
  | int i => exact ⟨i, rfl, of_decide_eq_true h⟩
  | _ => cases h
structure BltB (mg : Str → Option Value) : Prop where
  isi : mg "isinstance" = none
  int : mg "int" = none
  bool : mg "bool" = none
def isIntV : V → Bool
  | .int _ => true
  | _ => false
def spInt : Sp := fun vs H Q _ => ∃ v, vs = [v] ∧ AV H v ∧ Q (.bl (isIntV v)) H
def spNum : Sp := fun vs H Q _ => ∃ v, vs = [v] ∧ AV H v ∧ Q (.bl (isNum v 0)) H
def spAmt : Sp := fun vs H Q _ => ∃ v, vs = [v] ∧ AV H v ∧ Q (.bl (isNum v 1)) H
section
variable {P : Program} {w : World} {K : PySem.W.Frag} {mg : Str → Option Value} {base : Heap}
theorem scIsNum : FnScope ["value"] ["value"] (defScope sIsNum) := ⟨rfl, rfl, rfl, by decide +kernel, rfl, by decide +kernel, by decide +kernel⟩
theorem scIsAmt : FnScope ["value"] ["value"] (defScope sIsAmt) := ⟨rfl, rfl, rfl, by decide +kernel, rfl, by decide +kernel, by decide +kernel⟩
theorem scIsInt : FnScope ["value"] ["value"] (defScope sIsInt) := ⟨rfl, rfl, rfl, by decide +kernel, rfl, by decide +kernel, by decide +kernel⟩
theorem ok_isInt {f : Addr} {fd : FuncData} (F : Fun K "is_integer" "is_integer" sIsInt f fd) (T : BltB mg) : FnOk P w K mg base CX0 1 f fd ["value"] spInt := by
  refine F.ok scIsInt (fun vs H Q E h => ?_) (fun cdv A outer s H vs Q E hr h => ?_)
  · obtain ⟨v, rfl, _⟩ := h
    rfl
  · obtain ⟨v, rfl, av, q⟩ := h
    obtain ⟨t, ty, k1, k2⟩ := av_ty (K := K) av
    refine ⟨_, pss_one (ps_ret (pe_and (pe_callB call_isi (by rfl) T.isi (by decide +kernel) (pa_cons (pv 0) (pa_cons (pe_bltn (v := .ty "int") (by rfl) T.int (by decide +kernel) rfl) pa_nil)))
      (pe_one (pe_not (pe_callB call_isi (by rfl) T.isi (by decide +kernel) (pa_cons (pv 0) (pa_cons (pe_bltn (v := .ty "bool") (by rfl) T.bool (by decide +kernel) rfl) pa_nil))))))), ?_⟩
    refine ⟨_, rfl, _, _, t, _, _, rfl, .ty "int", ty, k1, _, rfl, ?_⟩
    cases v with
    | int i =>
      refine iteT ?_
      exact ⟨_, rfl, _, _, t, _, _, rfl, .ty "bool", ty, k2, _, rfl, q⟩
    | bl b =>
      refine iteT ?_
      exact ⟨_, rfl, _, _, t, _, _, rfl, .ty "bool", ty, k2, _, rfl, q⟩
    | non => exact iteF q
    | str z => exact iteF q
    | ref a => exact iteF q
    | byt z => exact iteF q
    | flt z => exact iteF q
    | ty z => exact iteF q
theorem ok_isNum {f : Addr} {fd : FuncData} (F : Fun K "is_number" "is_number" sIsNum f fd) (c : Cal P w K mg base CX0 "is_integer" 1 ["value"] spInt) : FnOk P w K mg base CX0 2 f fd ["value"] spNum := by
  obtain ⟨fI, fdI, GI, mI, kI, bI⟩ := c
  refine F.ok scIsNum (fun vs H Q E h => ?_) (fun cdv A outer s H vs Q E hr h => ?_)
  · obtain ⟨v, rfl, _⟩ := h
    rfl
  · obtain ⟨v, rfl, av, q⟩ := h
    refine ⟨_, pss_one (ps_ret (pe_and (pe_call GI hr rfl mI kI bI .nil pass0 (pa_cons (pv 0) pa_nil)) (pe_one (pe_cmpR op_ge (pv 0) pe_int (nomark _))))), ?_⟩
    refine ⟨_, rfl, v, rfl, av, _, rfl, ?_⟩
    cases v with
    | int i => exact iteT ⟨_, rfl, _, _, rfl, rfl, q⟩
    | bl b => exact iteF q
    | non => exact iteF q
    | str z => exact iteF q
    | ref a => exact iteF q
    | byt z => exact iteF q
    | flt z => exact iteF q
    | ty z => exact iteF q
theorem ok_isAmt {f : Addr} {fd : FuncData} (F : Fun K "is_amount" "is_amount" sIsAmt f fd) (c : Cal P w K mg base CX0 "is_number" 2 ["value"] spNum) : FnOk P w K mg base CX0 3 f fd ["value"] spAmt := by
  obtain ⟨fN, fdN, GN, mN, kN, bN⟩ := c
  refine F.ok scIsAmt (fun vs H Q E h => ?_) (fun cdv A outer s H vs Q E hr h => ?_)
  · obtain ⟨v, rfl, _⟩ := h
    rfl
  · obtain ⟨v, rfl, av, q⟩ := h
    refine ⟨_, pss_one (ps_ret (pe_and (pe_call GN hr rfl mN kN bN .nil pass0 (pa_cons (pv 0) pa_nil)) (pe_one (pe_cmpR op_gt (pv 0) pe_int (nomark _))))), ?_⟩
    refine ⟨_, rfl, v, rfl, av, _, rfl, ?_⟩
    cases e : isNum v 0 with
    | false =>
      refine iteF ?_
      have z : isNum v 1 = false := by
        cases v with
        | int i =>
          have h1 : ¬ (0 : Int) ≤ i := of_decide_eq_false e
          exact decide_eq_false (by omega)
        | _ => rfl
      rw [z] at q
      exact q
    | true =>
      obtain ⟨i, rfl, hi⟩ := num_of e
      refine iteT ⟨_, rfl, _, _, rfl, rfl, ?_⟩
      have z : isNum (.int i) 1 = decide (0 < i) := by
        show decide (1 ≤ i) = decide (0 < i)
        by_cases c : 0 < i
        · rw [decide_eq_true c, decide_eq_true (show 1 ≤ i by omega)]
        · rw [decide_eq_false c, decide_eq_false (show ¬ 1 ≤ i by omega)]
      rw [z] at q
      exact q
end
end V3

set_option Elab.async false
set_option linter.all false
set_option maxRecDepth 100000
namespace V3
open PySem L2
/-! the error -/
def spIM (C : Addr) : Sp := fun vs H Q _ => ∃ (a : Addr) (y : V), vs = [.ref a, y] ∧ H a = some (exo a C none) ∧
  ∀ d, H d = none → d ≠ a → Q .non (upd (upd H d (exd d [("word", y)])) a (exo a C (some d)))
/-- what the module says of InvalidMove -/
structure ImTxt (P : Program) (w : World) (K : PySem.W.Frag) (mg : Str → Option Value) (base : Heap) (C : Addr) : Prop where
  g : mg "InvalidMove" = some (.ref C)
  o : OexC K C
  no : PySem.W.findIn K (.ref C) "word" = some none
  ini : ∃ (f : Addr) (fd : FuncData), FnOk P w K mg base CX0 1 f fd ["self", "word"] (spIM C) ∧ PySem.W.findIn K (.ref C) "__init__" = some (some (.ref f)) ∧ PySem.W.typeIn K (.ref f) = some (.type "function") ∧ Binds K fd ["self", "word"] []
/-- behind a raise: an error with the word, all else as it was -/
def Er (C : Addr) (H : Hp) (E : XK) (word : Str) : Prop := ∀ (d : Addr) (H' : Hp), Same H H' → H' d = some (.xd [("word", .str word)]) → E (.ref C) (some d) H'
section
variable {P : Program} {w : World} {K : PySem.W.Frag} {mg : Str → Option Value} {base : Heap}
theorem scImInit : FnScope ["self", "word"] ["self", "word"] (defScope sImInit) := ⟨rfl, rfl, rfl, by decide +kernel, rfl, by decide +kernel, by decide +kernel⟩
theorem ok_imInit {f C : Addr} {fd : FuncData} (F : Fun K "__init__" "InvalidMove.__init__" sImInit f fd) (o : OexC K C) (no : PySem.W.findIn K (.ref C) "word" = some none) : FnOk P w K mg base CX0 1 f fd ["self", "word"] (spIM C) := by
  refine F.ok scImInit (fun vs H Q E h => ?_) (fun cdv A outer s H vs Q E hr h => ?_)
  · obtain ⟨a, y, rfl, _⟩ := h
    rfl
  · obtain ⟨a, y, rfl, ha, q⟩ := h
    refine ⟨_, pss_one (ps_ost (pv 0) (pv 1)), ?_⟩
    exact ⟨_, rfl, _, rfl, a, C, rfl, o, no, .inl ⟨ha, fun dx h1 h2 => q dx h1 h2⟩⟩
theorem raise_same {H : Hp} {a d : Addr} {o1 o2 o3 o4 : HO} (na : H a = none) (nd : upd H a o1 d = none) (ne : d ≠ a) : Same H (upd (del (upd (upd (upd H a o1) d o2) a o3) a) d o4) := by
  intro b o e
  have ba : b ≠ a := fun z => by
    rw [z, na] at e
    cases e
  have hd : H d = none := by
    rw [upd_ne ne] at nd
    exact nd
  have bd : b ≠ d := fun z => by
    rw [z, hd] at e
    cases e
  rw [upd_ne bd, del_ne ba, upd_ne ba, upd_ne bd, upd_ne ba]
  exact e
/-- raise InvalidMove("..") in a def's own frame -/
theorem er_read {C : Addr} {H : Hp} {E : XK} {word : Str} (h : Er C H E word) : ∀ a, H a = none → spIM C (.ref a :: ([V.str word] ++ [])) (upd H a (exo a C none))
    (fun v H2 => v = .non ∧ ∃ (d : Addr) (fs : List (Str × V)), H2 a = some (exo a C (some d)) ∧ H2 d = some (exd d fs) ∧ H d = none ∧ E (.ref C) (some d) (upd (del H2 a) d (.xd fs))) (fun _ _ _ => False) := by
  intro a na
  refine ⟨a, _, rfl, upd_same, fun d nd ne => ⟨rfl, d, [("word", .str word)], upd_same, ?_, ?_, ?_⟩⟩
  · rw [upd_ne ne]
    exact upd_same
  · rw [upd_ne ne] at nd
    exact nd
  · exact h d _ (raise_same na nd ne) upd_same
/-! Begin -/
def spBegin (C CM : Addr) : Sp := fun vs H Q E => ∃ (x dx : Addr) (v : V), vs = [.ref x, v] ∧ H x = some (.ins C dx []) ∧ AV H v ∧
  (isNum v 1 = true → Q .non (upd H x (.ins C dx [("amount", v)]))) ∧ (isNum v 1 = false → Er CM H E "amount")
theorem scBInit : FnScope ["self", "amount"] ["self", "amount"] (defScope sBInit) := ⟨rfl, rfl, rfl, by decide +kernel, rfl, by decide +kernel, by decide +kernel⟩
abbrev CalNum (P : Program) (w : World) (K : PySem.W.Frag) (mg : Str → Option Value) (base : Heap) : Prop := Cal P w K mg base CX0 "is_number" 2 ["value"] spNum
abbrev CalAmt (P : Program) (w : World) (K : PySem.W.Frag) (mg : Str → Option Value) (base : Heap) : Prop := Cal P w K mg base CX0 "is_amount" 3 ["value"] spAmt
theorem ok_bInit {f C CM : Addr} {fd : FuncData} (F : Fun K "__init__" "Begin.__init__" sBInit f fd) (cl : Cls K C) (nA : NoAttr K C "amount") (cA : CalAmt P w K mg base) (M : ImTxt P w K mg base CM) : FnOk P w K mg base (L2.CX P w) 4 f fd ["self", "amount"] (spBegin C CM) := by
  obtain ⟨fA, fdA, GA, mA, kA, bA⟩ := cA
  obtain ⟨fI, fdI, GI, iI, tI, bI⟩ := M.ini
  refine F.okX scBInit (fun vs H Q E h => ?_) (fun cdv A outer s H vs Q E hr h => ?_)
  · obtain ⟨x, dx, v, rfl, _⟩ := h
    rfl
  · obtain ⟨x, dx, v, rfl, hx, av, q1, q2⟩ := h
    refine ⟨_, pss_cons (ps_if (pt_not (pt_val (pe_call GA hr rfl mA kA bA .nil pass0 (pa_cons (pv 1) pa_nil)))) (pss_one (ps_raise rfl (takes_of rfl rfl rfl rfl) (pmk_oex M.o iI tI GI (hr.mono (by decide)) bI .nil pass0 rfl M.g (by exact (pa_cons pe_str pa_nil))))) pss_nil)
      (pss_one (ps_fld (pv 0) (pv 1) rfl)), ?_⟩
    refine ⟨_, rfl, v, rfl, av, _, rfl, ?_⟩
    cases e : isNum v 1 with
    | true => exact iteF ⟨_, rfl, _, rfl, x, C, dx, _, rfl, hx, cl, nA, (by show 0 < 1000; decide), q1 e⟩
    | false => exact iteT ⟨(by show 1 ≤ 1000; decide), er_read (q2 e)⟩
/-! Take, Right -/
def two (a v : V) : List (Str × V) := [("at", a), ("amount", v)]
theorem ne_at : ¬ (("at" : Str) = "amount") := by decide +kernel
theorem put_two (a v : V) : putF "amount" v (putF "at" a []) = two a v := by
  show (if ("at" : Str) = "amount" then [(("at" : Str), v)] else (("at" : Str), a) :: putF "amount" v []) = two a v
  rw [if_neg ne_at]
  rfl
theorem two_at (a v : V) : (two a v).lookup ("at" : Str) = some a := by
  rw [← put_two, lookup_putF, if_neg ne_at, lookup_putF, if_pos rfl]
theorem two_am (a v : V) : (two a v).lookup ("amount" : Str) = some v := by
  rw [← put_two, lookup_putF, if_pos rfl]
def spTake (C CM : Addr) : Sp := fun vs H Q E => ∃ (x dx : Addr) (a v : V), vs = [.ref x, a, v] ∧ H x = some (.ins C dx []) ∧ AV H a ∧ AV H v ∧
  (isNum a 0 = true → (v = .non ∨ isNum v 1 = true) → Q .non (upd H x (.ins C dx (two a v)))) ∧ (isNum a 0 = false → Er CM H E "at") ∧
  (isNum a 0 = true → ¬ v = .non → isNum v 1 = false → Er CM H E "amount")
def spRight (C CM : Addr) : Sp := fun vs H Q E => ∃ (x dx : Addr) (a v : V), vs = [.ref x, a, v] ∧ H x = some (.ins C dx []) ∧ AV H a ∧ AV H v ∧
  (isNum a 0 = true → isNum v 1 = true → Q .non (upd H x (.ins C dx (two a v)))) ∧ (isNum a 0 = false → Er CM H E "at") ∧
  (isNum a 0 = true → isNum v 1 = false → Er CM H E "amount")
theorem scTInit : FnScope ["self", "at", "amount"] ["self", "at", "amount"] (defScope sTInit) := ⟨rfl, rfl, rfl, by decide +kernel, rfl, by decide +kernel, by decide +kernel⟩
theorem scRInit : FnScope ["self", "at", "amount"] ["self", "at", "amount"] (defScope sRInit) := ⟨rfl, rfl, rfl, by decide +kernel, rfl, by decide +kernel, by decide +kernel⟩
theorem ok_tInit {f C CM : Addr} {fd : FuncData} {dvs : List V} (F : FunD K "__init__" "Take.__init__" (defArgs sTInit) (defBody sTInit) (defScope sTInit) dvs [] f fd) (cl : Cls K C) (nT : NoAttr K C "at") (nA : NoAttr K C "amount") (cN : CalNum P w K mg base) (cA : CalAmt P w K mg base) (M : ImTxt P w K mg base CM) : FnOk P w K mg base (L2.CX P w) 4 f fd ["self", "at", "amount"] (spTake C CM) := by
  obtain ⟨fN, fdN, GN, mN, kN, bN⟩ := cN
  obtain ⟨fA, fdA, GA, mA, kA, bA⟩ := cA
  obtain ⟨fI, fdI, GI, iI, tI, bI⟩ := M.ini
  refine F.ok scTInit (fun vs H Q E h => ?_) (fun cdv A outer s H vs Q E hr h => ?_)
  · obtain ⟨x, dx, a, v, rfl, _⟩ := h
    rfl
  · obtain ⟨x, dx, a, v, rfl, hx, aa, av, q1, q2, q3⟩ := h
    refine ⟨_, pss_cons (ps_if (pt_not (pt_val (pe_call GN (hr.mono (by decide)) rfl mN kN bN .nil pass0 (pa_cons (pv 1) pa_nil)))) (pss_one (ps_raise rfl (takes_of rfl rfl rfl rfl) (pmk_oex M.o iI tI GI (hr.mono (by decide)) bI .nil pass0 rfl M.g (by exact (pa_cons pe_str pa_nil))))) pss_nil)
      (pss_cons (ps_if (PW.pt (pw_and (pt_cmpR op_notN (pv 2) pe_non (nomark _)) (pw_and1 (pt_not (pt_val (pe_call GA hr rfl mA kA bA .nil pass0 (pa_cons (pv 2) pa_nil))))))) (pss_one (ps_raise rfl (takes_of rfl rfl rfl rfl) (pmk_oex M.o iI tI GI (hr.mono (by decide)) bI .nil pass0 rfl M.g (by exact (pa_cons pe_str pa_nil))))) pss_nil)
      (pss_cons (ps_fld (pv 0) (pv 1) rfl) (pss_one (ps_fld (pv 0) (pv 2) rfl)))), ?_⟩
    refine ⟨_, rfl, a, rfl, aa, _, rfl, ?_⟩
    cases e : isNum a 0 with
    | false => exact iteT ⟨(by show 1 ≤ 1000; decide), er_read (q2 e)⟩
    | true =>
      have stores : (v = .non ∨ isNum v 1 = true) → Q .non (upd (upd H x (.ins C dx (putF "at" a []))) x (.ins C dx (putF "amount" v (putF "at" a [])))) := fun z => by
        rw [upd_upd, put_two]
        exact q1 e z
      refine iteF ⟨_, rfl, rfl, _, rfl, ?_⟩
      by_cases c : v = .non
      · rw [decide_eq_true c]
        exact iteF (iteF ⟨_, rfl, _, rfl, x, C, dx, _, rfl, hx, cl, nT, (by show 0 < 1000; decide), _, rfl, _, rfl, x, C, dx, _, rfl, upd_same, cl, nA, (by show 1 < 1000; decide), stores (.inl c)⟩)
      · rw [decide_eq_false c]
        refine iteT ⟨_, rfl, v, rfl, av, _, rfl, ?_⟩
        cases e2 : isNum v 1 with
        | false => exact iteT ⟨(by show 1 ≤ 1000; decide), er_read (q3 e c e2)⟩
        | true => exact iteF ⟨_, rfl, _, rfl, x, C, dx, _, rfl, hx, cl, nT, (by show 0 < 1000; decide), _, rfl, _, rfl, x, C, dx, _, rfl, upd_same, cl, nA, (by show 1 < 1000; decide), stores (.inr e2)⟩
theorem ok_rInit {f C CM : Addr} {fd : FuncData} (F : Fun K "__init__" "Right.__init__" sRInit f fd) (cl : Cls K C) (nT : NoAttr K C "at") (nA : NoAttr K C "amount") (cN : CalNum P w K mg base) (cA : CalAmt P w K mg base) (M : ImTxt P w K mg base CM) : FnOk P w K mg base (L2.CX P w) 4 f fd ["self", "at", "amount"] (spRight C CM) := by
  obtain ⟨fN, fdN, GN, mN, kN, bN⟩ := cN
  obtain ⟨fA, fdA, GA, mA, kA, bA⟩ := cA
  obtain ⟨fI, fdI, GI, iI, tI, bI⟩ := M.ini
  refine F.okX scRInit (fun vs H Q E h => ?_) (fun cdv A outer s H vs Q E hr h => ?_)
  · obtain ⟨x, dx, a, v, rfl, _⟩ := h
    rfl
  · obtain ⟨x, dx, a, v, rfl, hx, aa, av, q1, q2, q3⟩ := h
    refine ⟨_, pss_cons (ps_if (pt_not (pt_val (pe_call GN (hr.mono (by decide)) rfl mN kN bN .nil pass0 (pa_cons (pv 1) pa_nil)))) (pss_one (ps_raise rfl (takes_of rfl rfl rfl rfl) (pmk_oex M.o iI tI GI (hr.mono (by decide)) bI .nil pass0 rfl M.g (by exact (pa_cons pe_str pa_nil))))) pss_nil)
      (pss_cons (ps_if (pt_not (pt_val (pe_call GA hr rfl mA kA bA .nil pass0 (pa_cons (pv 2) pa_nil)))) (pss_one (ps_raise rfl (takes_of rfl rfl rfl rfl) (pmk_oex M.o iI tI GI (hr.mono (by decide)) bI .nil pass0 rfl M.g (by exact (pa_cons pe_str pa_nil))))) pss_nil)
      (pss_cons (ps_fld (pv 0) (pv 1) rfl) (pss_one (ps_fld (pv 0) (pv 2) rfl)))), ?_⟩
    refine ⟨_, rfl, a, rfl, aa, _, rfl, ?_⟩
    cases e : isNum a 0 with
    | false => exact iteT ⟨(by show 1 ≤ 1000; decide), er_read (q2 e)⟩
    | true =>
      refine iteF ⟨_, rfl, v, rfl, av, _, rfl, ?_⟩
      cases e2 : isNum v 1 with
      | false => exact iteT ⟨(by show 1 ≤ 1000; decide), er_read (q3 e e2)⟩
      | true =>
        have stores : Q .non (upd (upd H x (.ins C dx (putF "at" a []))) x (.ins C dx (putF "amount" v (putF "at" a [])))) := by
          rw [upd_upd, put_two]
          exact q1 e e2
        exact iteF ⟨_, rfl, _, rfl, x, C, dx, _, rfl, hx, cl, nT, (by show 0 < 1000; decide), _, rfl, _, rfl, x, C, dx, _, rfl, upd_same, cl, nA, (by show 1 < 1000; decide), stores⟩
/-! the texts -/
def num (i : Int) : Str := Str.ofString (toString i)
def Am (i : Int) : Prop := i.natAbs ≤ 1000000000000
theorem am_log {i : Int} (h : Am i) : i.natAbs.log2 < 1920 := Nat.lt_of_lt_of_le (PySem.Flt.log2_lt_of (k := 40) (by decide) (by
  have : (2 : Nat) ^ 40 = 1099511627776 := by decide
  unfold Am at h
  omega)) (by decide)
theorem num_len {i : Int} (h : Am i) : (num i).length ≤ 1921 := PyProof.Rows.int_text_len_1921 (am_log h)
theorem app_len (x y : Str) : (x ++ y).length = x.length + y.length := PySem.Str.length_append x y
def bText (i : Int) : Str := Str.empty ++ "begin " ++ num i
def tText (i : Int) : Str := Str.empty ++ "take " ++ num i
def tbText (i j : Int) : Str := Str.empty ++ "take " ++ num i ++ " by " ++ num j
def rText (i j : Int) : Str := Str.empty ++ "right " ++ num i ++ " to " ++ num j
def spBStr (C : Addr) : Sp := fun vs H Q _ => ∃ (x dx : Addr) (i : Int), vs = [.ref x] ∧ H x = some (.ins C dx [("amount", .int i)]) ∧ Am i ∧ Q (.str (bText i)) H
def spTStr (C : Addr) : Sp := fun vs H Q _ => ∃ (x dx : Addr) (i : Int) (v : V), vs = [.ref x] ∧ H x = some (.ins C dx (two (.int i) v)) ∧ Am i ∧
  ((v = .non ∧ Q (.str (tText i)) H) ∨ ∃ j, v = .int j ∧ Am j ∧ Q (.str (tbText i j)) H)
def spRStr (C : Addr) : Sp := fun vs H Q _ => ∃ (x dx : Addr) (i j : Int), vs = [.ref x] ∧ H x = some (.ins C dx (two (.int i) (.int j))) ∧ Am i ∧ Am j ∧ Q (.str (rText i j)) H
theorem scBStr : FnScope ["self"] ["self"] (defScope sBStr) := ⟨rfl, rfl, rfl, by decide +kernel, rfl, by decide +kernel, by decide +kernel⟩
theorem scTStr : FnScope ["self"] ["self"] (defScope sTStr) := ⟨rfl, rfl, rfl, by decide +kernel, rfl, by decide +kernel, by decide +kernel⟩
theorem scRStr : FnScope ["self"] ["self"] (defScope sRStr) := ⟨rfl, rfl, rfl, by decide +kernel, rfl, by decide +kernel, by decide +kernel⟩
theorem small {n : Nat} (h : n ≤ 10000) : n ≤ sizeLine := Nat.le_trans h (by decide)
theorem ok_bStr {f C : Addr} {fd : FuncData} (F : Fun K "__str__" "Begin.__str__" sBStr f fd) (cl : Cls K C) (nA : NoAttr K C "amount") : FnOk P w K mg base CX0 1 f fd ["self"] (spBStr C) := by
  refine F.ok scBStr (fun vs H Q E h => ?_) (fun cdv A outer s H vs Q E hr h => ?_)
  · obtain ⟨x, dx, i, rfl, _⟩ := h
    rfl
  · obtain ⟨x, dx, i, rfl, hx, am, q⟩ := h
    have l := num_len am
    refine ⟨_, pss_one (ps_ret (pe_joined (.cons pe_str (.cons (pe_fmt (pe_fld (pv 0) rfl)) .nil)))), ?_⟩
    have e1 : ("begin " : Str).length = 6 := by decide +kernel
    have e0 : (Str.empty).length = 0 := rfl
    refine ⟨_, rfl, small (by rw [app_len, e1, e0]; decide), _, rfl, x, C, dx, _, _, rfl, hx, cl, nA, rfl, .inr ⟨i, rfl, am_log am, _, rfl, small ?_, q⟩⟩
    show (Str.empty ++ "begin " ++ num i).length ≤ 10000
    rw [app_len, app_len, e1, e0]
    omega
end
end V3

set_option Elab.async false
set_option linter.all false
set_option maxRecDepth 100000
namespace V3
open PySem L2 TL
/-! a move, its words, its text -/
inductive Mv where
  | beg (a : Int) | take (t : Int) | takeBy (t a : Int) | right (t a : Int) | shut
  deriving DecidableEq
def Idx (t : Int) : Prop := 0 ≤ t ∧ t ≤ 1000000000000
def Amt (a : Int) : Prop := 1 ≤ a ∧ a ≤ 1000000000000
def Mv.ok : Mv → Prop
  | .beg a => Amt a
  | .take t => Idx t
  | .takeBy t a => Idx t ∧ Amt a
  | .right t a => Idx t ∧ Amt a
  | .shut => True
def Mv.evens : Mv → List Str
  | .beg _ => ["begin"]
  | .take _ => ["take"]
  | .takeBy _ _ => ["take", "by"]
  | .right _ _ => ["right", "to"]
  | .shut => ["shut"]
def Mv.nums : Mv → List Int
  | .beg a => [a]
  | .take t => [t]
  | .takeBy t a => [t, a]
  | .right t a => [t, a]
  | .shut => []
def Mv.words : Mv → List Str
  | .beg a => ["begin", num a]
  | .take t => ["take", num t]
  | .takeBy t a => ["take", num t, "by", num a]
  | .right t a => ["right", num t, "to", num a]
  | .shut => ["shut"]
def sp1 : Str := " "
def Mv.text (m : Mv) : Str := Str.join sp1 m.words
theorem nums_ok {m : Mv} (h : m.ok) : ∀ n ∈ m.nums, Idx n := by
  intro n hn
  cases m with
  | shut => cases hn
  | _ =>
    simp only [Mv.nums, List.mem_cons, List.not_mem_nil, or_false] at hn
    simp only [Mv.ok, Amt, Idx] at h
    unfold Idx
    first
      | (subst hn; omega)
      | (rcases hn with rfl | rfl <;> omega)
theorem at_am {t : Int} (h : Idx t) : Am t := by
  unfold Idx at h
  unfold Am
  omega
theorem tl_num' {t : Int} (h : 0 ≤ t) : tl (num t) = numL t.toNat := by
  have e : ((t.toNat : Nat) : Int) = t := by omega
  have z := tl_num t.toNat
  rw [e] at z
  exact z
theorem num_free {t : Int} {s : Nat} (h : 0 ≤ t) (hs : s < 48 ∨ 57 < s) : s ∉ tl (num t) := by
  rw [tl_num' h]
  exact numL_free hs
theorem sp_tl : tl sp1 = [32] := by decide +kernel
/-- no blank in a word, no semicolon either -/
theorem words_free {m : Mv} (h : m.ok) : ∀ p ∈ m.words, 32 ∉ tl p ∧ 59 ∉ tl p := by
  have k : ∀ z : Int, 0 ≤ z → 32 ∉ tl (num z) ∧ 59 ∉ tl (num z) := fun z hz => ⟨num_free hz (by decide), num_free hz (by decide)⟩
  have e1 : 32 ∉ tl "begin" ∧ 59 ∉ tl "begin" := by decide +kernel
  have e2 : 32 ∉ tl "take" ∧ 59 ∉ tl "take" := by decide +kernel
  have e3 : 32 ∉ tl "by" ∧ 59 ∉ tl "by" := by decide +kernel
  have e4 : 32 ∉ tl "right" ∧ 59 ∉ tl "right" := by decide +kernel
  have e5 : 32 ∉ tl "to" ∧ 59 ∉ tl "to" := by decide +kernel
  have e6 : 32 ∉ tl "shut" ∧ 59 ∉ tl "shut" := by decide +kernel
  intro p hp
  cases m with
  | beg a =>
    have h' : Amt a := h
    unfold Amt at h'
    simp only [Mv.words, List.mem_cons, List.not_mem_nil, or_false] at hp
    rcases hp with rfl | rfl
    · exact e1
    · exact k a (by omega)
  | take t =>
    have h' : Idx t := h
    unfold Idx at h'
    simp only [Mv.words, List.mem_cons, List.not_mem_nil, or_false] at hp
    rcases hp with rfl | rfl
    · exact e2
    · exact k t (by omega)
  | takeBy t a =>
    have h' : Idx t ∧ Amt a := h
    unfold Idx Amt at h'
    simp only [Mv.words, List.mem_cons, List.not_mem_nil, or_false] at hp
    rcases hp with rfl | rfl | rfl | rfl
    · exact e2
    · exact k t (by omega)
    · exact e3
    · exact k a (by omega)
  | right t a =>
    have h' : Idx t ∧ Amt a := h
    unfold Idx Amt at h'
    simp only [Mv.words, List.mem_cons, List.not_mem_nil, or_false] at hp
    rcases hp with rfl | rfl | rfl | rfl
    · exact e4
    · exact k t (by omega)
    · exact e5
    · exact k a (by omega)
  | shut =>
    simp only [Mv.words, List.mem_cons, List.not_mem_nil, or_false] at hp
    subst hp
    exact e6
theorem words_ne (m : Mv) : m.words ≠ [] := by cases m <;> exact (fun z => nomatch z)
theorem split_text {m : Mv} (h : m.ok) : Txt.split m.text sp1 = m.words := by
  unfold Mv.text
  have z := split_join sp_tl (by decide +kernel) (words_ne m) fun p hp => (words_free h p hp).1
  rw [join_eq] at z
  exact z
/-- the texts that the program writes are these -/
theorem b_text (a : Int) : bText a = (Mv.beg a).text := ext_tl (by
  unfold bText Mv.text
  rw [tl_join]
  simp only [tl_append, Mv.words, List.map, joinL, sp_tl]
  have e : tl ("begin " : Str) = tl ("begin" : Str) ++ [32] := by decide +kernel
  rw [e]
  simp [Str.empty, tl])
end V3

set_option Elab.async false
set_option linter.all false
set_option maxRecDepth 100000
namespace V3
open PySem L2 TL
theorem num_inj {a b : Int} (ha : 0 ≤ a) (hb : 0 ≤ b) (h : num a = num b) : a = b := by
  have e := congrArg tl h
  rw [tl_num' ha, tl_num' hb] at e
  have z := numL_inj e
  omega
theorem words_inj {m n : Mv} (hm : m.ok) (hn : n.ok) (h : m.words = n.words) : m = n := by
  have neq : ∀ {a b : Str}, decide (a = b) = false → a ≠ b := fun h e => by rw [decide_eq_true e] at h; cases h
  cases m with
  | beg a =>
    cases n with
    | beg b =>
      injection h with _ h
      injection h with h _
      rw [num_inj (by have := hm.1; omega) (by have := hn.1; omega) h]
    | take t =>
      injection h with h _
      exact absurd h (by decide +kernel)
    | takeBy t b => injection h with h _; exact absurd h (by decide +kernel)
    | right t b => injection h with h _; exact absurd h (by decide +kernel)
    | shut => injection h with h _; exact absurd h (by decide +kernel)
  | take t =>
    cases n with
    | take u =>
      injection h with _ h
      injection h with h _
      rw [num_inj hm.1 hn.1 h]
    | beg a => injection h with h _; exact absurd h (by decide +kernel)
    | takeBy u b =>
      injection h with _ h
      injection h with _ h
      cases h
    | right u b => injection h with h _; exact absurd h (by decide +kernel)
    | shut => injection h with h _; exact absurd h (by decide +kernel)
  | takeBy t a =>
    cases n with
    | takeBy u b =>
      injection h with _ h
      injection h with h1 h
      injection h with _ h
      injection h with h2 _
      rw [num_inj hm.1.1 hn.1.1 h1, num_inj (by have := hm.2.1; omega) (by have := hn.2.1; omega) h2]
    | beg b => injection h with h _; exact absurd h (by decide +kernel)
    | take u =>
      injection h with _ h
      injection h with _ h
      cases h
    | right u b => injection h with h _; exact absurd h (by decide +kernel)
    | shut => injection h with h _; exact absurd h (by decide +kernel)
  | right t a =>
    cases n with
    | right u b =>
      injection h with _ h
      injection h with h1 h
      injection h with _ h
      injection h with h2 _
      rw [num_inj hm.1.1 hn.1.1 h1, num_inj (by have := hm.2.1; omega) (by have := hn.2.1; omega) h2]
    | beg b => injection h with h _; exact absurd h (by decide +kernel)
    | take u => injection h with h _; exact absurd h (by decide +kernel)
    | takeBy u b => injection h with h _; exact absurd h (by decide +kernel)
    | shut => injection h with h _; exact absurd h (by decide +kernel)
  | shut =>
    cases n with
    | shut => rfl
    | beg b => injection h with h _; exact absurd h (by decide +kernel)
    | take u => injection h with h _; exact absurd h (by decide +kernel)
    | takeBy u b => injection h with h _; exact absurd h (by decide +kernel)
    | right u b => injection h with h _; exact absurd h (by decide +kernel)
theorem text_inj {m n : Mv} (hm : m.ok) (hn : n.ok) (h : m.text = n.text) : m = n := by
  refine words_inj hm hn ?_
  rw [← split_text hm, ← split_text hn, h]
theorem text_dec {m n : Mv} (hm : m.ok) (hn : n.ok) : decide (m.text = n.text) = decide (m = n) := by
  by_cases h : m = n
  · rw [decide_eq_true h, decide_eq_true (by rw [h])]
  · rw [decide_eq_false h, decide_eq_false fun z => h (text_inj hm hn z)]
end V3

set_option Elab.async false
set_option linter.all false
set_option maxRecDepth 100000
namespace V3
open PySem L2 TL
abbrev sReadNumber : Stmt := top 4
theorem digit_yes : ∀ c : Nat, c < 58 → 48 ≤ c → Unicode.isDigit c = true := by decide +kernel
theorem all_list (x : Str) (p : Nat → Bool) : x.cps.all p = (tl x).all p := by
  unfold tl
  rw [Array.all_toList]
theorem num_digit {t : Int} (h : 0 ≤ t) : Txt.isdigit (num t) = true := by
  unfold Txt.isdigit
  rw [all_list, tl_num' h]
  have l : (num t).length > 0 := by
    rw [len_tl, tl_num' h]
    exact List.length_pos_iff.mpr (numL_ne _)
  rw [decide_eq_true l, Bool.true_and]
  exact List.all_eq_true.mpr fun c hc => by
    obtain ⟨a, b⟩ := numL_digits _ c hc
    exact digit_yes c (by omega) a
theorem num_ascii {t : Int} (h : 0 ≤ t) : Txt.isascii (num t) = true := by
  unfold Txt.isascii
  rw [all_list, tl_num' h]
  exact List.all_eq_true.mpr fun c hc => by
    obtain ⟨a, b⟩ := numL_digits _ c hc
    exact decide_eq_true (by omega)
/-- the first digit of a number that is not 0 is not 0 -/
theorem head_digit : ∀ n : Nat, 0 < n → (numL n).take 1 ≠ [48] := by
  intro n
  induction n using Nat.strongRecOn with
  | _ n ih =>
    intro hn
    by_cases h : n < 10
    · rw [numL_lt h]
      intro z
      simp at z
      omega
    · rw [numL_step (by omega)]
      have k := ih (n / 10) (by omega) (by omega)
      have e : (numL (n / 10) ++ [48 + n % 10]).take 1 = (numL (n / 10)).take 1 := by
        cases q : numL (n / 10) with
        | nil => exact absurd q (numL_ne _)
        | cons a l => rfl
      rw [e]
      exact k
theorem num_starts {t : Int} (h : 0 ≤ t) (e : Txt.startswith (num t) "0" = true) : num t = "0" := by
  have z : tl ("0" : Str) = [48] := by decide +kernel
  have hA : PySem.StrLaws.At (num t) "0" (num t).length 0 := by
    unfold Txt.startswith at e
    obtain ⟨e1, e2⟩ := Bool.and_eq_true_iff.mp e
    exact ⟨of_decide_eq_true e1, e2⟩
  have p := (at_iff (by rw [z]; exact (fun q => nomatch q)) 0).mp hA
  rw [z, tl_num' h] at p
  have q : (numL t.toNat).take 1 = [48] := by
    have q2 : ((numL t.toNat).drop 0).take 1 == [48] := p
    simpa using q2
  by_cases n : 0 < t.toNat
  · exact absurd q (head_digit _ n)
  · refine ext_tl ?_
    rw [tl_num' h, z]
    have e0 : t.toNat = 0 := by omega
    rw [e0]
    exact numL_lt (by decide)
def spRN : Sp := fun vs H Q _ => ∃ t : Int, vs = [.str (num t)] ∧ V3.Idx t ∧ Q (.int t) H
section
variable {P : Program} {w : World} {K : PySem.W.Frag} {mg : Str → Option Value} {base : Heap}
theorem scReadNumber : FnScope ["text"] ["text"] (defScope sReadNumber) := ⟨rfl, rfl, rfl, by decide +kernel, rfl, by decide +kernel, by decide +kernel⟩
theorem ok_readNumber {f : Addr} {fd : FuncData} (F : Fun K "read_number" "read_number" sReadNumber f fd) (zi : mg "int" = none) : FnOk P w K mg base CX0 1 f fd ["text"] spRN := by
  refine F.ok scReadNumber (fun vs H Q E h => ?_) (fun cdv A outer s H vs Q E hr h => ?_)
  · obtain ⟨t, rfl, _⟩ := h
    rfl
  · obtain ⟨t, rfl, ok, q⟩ := h
    refine ⟨_, pss_cons (ps_if (pt_not (PW.pt (pw_and (pt_val (pe_m0 PySem.F.slot_str_isascii PySem.F.type_str_isascii mt_isascii (pv 0))) (pw_and1 (pt_val (pe_m0 PySem.F.slot_str_isdigit PySem.F.type_str_isdigit mt_isdigit (pv 0))))))) (pss_one (ps_ret pe_non)) pss_nil)
      (pss_cons (ps_if (PW.pt (pw_and (pt_val (pe_m1 PySem.F.slot_str_startswith PySem.F.type_str_startswith mt_startswith (pv 0) pe_str)) (pw_and1 (pt_cmpR op_ne (pv 0) pe_str (nomark _))))) (pss_one (ps_ret pe_non)) pss_nil)
      (pss_one (ps_ret (pe_callTy call_int_str (by rfl) zi (by decide +kernel) (pa_cons (pv 0) pa_nil))))), ?_⟩
    have t0 : 0 ≤ t := ok.1
    refine ⟨_, rfl, ⟨_, rfl⟩, _, rfl, rfl, trivial, _, rfl, ?_⟩
    rw [num_ascii t0]
    refine iteT ⟨_, rfl, ⟨_, rfl⟩, _, rfl, rfl, trivial, _, rfl, ?_⟩
    rw [num_digit t0]
    refine iteF ⟨_, rfl, ⟨_, rfl⟩, _, _, rfl, rfl, _, rfl, ?_⟩
    have e : ((t.toNat : Nat) : Int) = t := by omega
    have nl : (numL t.toNat).length ≤ 13 := numL_len (k := 13) (by decide) (by
      have := ok.2
      have p : (10 : Nat) ^ 13 = 10000000000000 := by decide
      omega)
    have fin : tRet (tCB (fun xs H Q => ∃ a n, xs = [.str a] ∧ PySem.intText? a = some n ∧ a.length ≤ 640 ∧ Q (.int n) H) (tCons (tVar 0) tNil)) { nx := fun _ H' => Q .non H', rt := Q } (start ["text"] [V.str (num t)]) H := by
      refine ⟨_, rfl, _, t, rfl, ?_, ?_, q⟩
      · have z := int_num (n := t.toNat) (by omega)
        rw [e] at z
        exact z
      · rw [len_tl, tl_num' t0]
        omega
    cases es : Txt.startswith (num t) "0" with
    | false => exact iteF (iteF fin)
    | true =>
      refine iteT ⟨_, rfl, rfl, _, rfl, ?_⟩
      rw [num_starts t0 es] at fin ⊢
      rw [decide_eq_true rfl]
      exact iteF fin
end
end V3

set_option Elab.async false
set_option linter.all false
set_option maxRecDepth 100000
namespace V3
open PySem L2 TL
abbrev sMoveOf : Stmt := top 19
abbrev sReadMove : Stmt := top 18
abbrev sReadMoves : Stmt := top 17
abbrev sHRead : Stmt := inClass (top 15) 1
/-- where the classes stand -/
structure Cl where
  B : Addr
  T : Addr
  R : Addr
  S : Addr
  Hi : Addr
def Mv.obj (c : Cl) (dx : Addr) : Mv → HO
  | .beg a => .ins c.B dx [("amount", .int a)]
  | .take t => .ins c.T dx (two (.int t) .non)
  | .takeBy t a => .ins c.T dx (two (.int t) (.int a))
  | .right t a => .ins c.R dx (two (.int t) (.int a))
  | .shut => .ins c.S dx []
def MvAt (c : Cl) (H : Hp) (v : V) (m : Mv) : Prop := ∃ x dx, v = .ref x ∧ H x = some (m.obj c dx)
theorem MvAt.same {c : Cl} {H H' : Hp} {v : V} {m : Mv} (h : MvAt c H v m) (s : Same H H') : MvAt c H' v m := by
  obtain ⟨x, dx, e, hx⟩ := h
  exact ⟨x, dx, e, s _ _ hx⟩
theorem Same.new {p : Addr} {H : Hp} {o : HO} (hp : H p = none) : Same H (upd H p o) := fun c u h => by rw [upd_ne (ne_of_none h hp)]; exact h
theorem made_same {H : Hp} {y dy : Addr} {o1 o2 : HO} (ny : H y = none) (ndy : H dy = none) : Same H (upd (upd H dy o1) y o2) := fun b o e => by
  rw [upd_ne (ne_of_none e ny), upd_ne (ne_of_none e ndy)]
  exact e
theorem made_same2 {H : Hp} {y dy : Addr} {o1 o2 o3 : HO} (ny : H y = none) (ndy : H dy = none) : Same H (upd (upd (upd H dy o1) y o2) y o3) := fun b o e => by
  rw [upd_ne (ne_of_none e ny), upd_ne (ne_of_none e ny), upd_ne (ne_of_none e ndy)]
  exact e
theorem num_yes {i n : Int} (h : n ≤ i) : isNum (.int i) n = true := decide_eq_true h
structure MkTxt (P : Program) (w : World) (K : PySem.W.Frag) (mg : Str → Option Value) (base : Heap) (name : Str) (ps : List Str) (C : Addr) (spI : Sp) (dv : List V) : Prop where
  g : mg name = some (.ref C)
  ini : ∃ (f : Addr) (fd : FuncData), FnOk P w K mg base (L2.CX P w) 4 f fd ps spI ∧ Mk K C f ∧ Binds K fd ps [] ∧ ∃ ds, Vals dv ds ∧ Binds K fd ps ds
/-- the program's moves, how they are made -/
structure MvTxt (P : Program) (w : World) (K : PySem.W.Frag) (mg : Str → Option Value) (base : Heap) (c : Cl) (CM : Addr) : Prop where
  B : MkTxt P w K mg base "Begin" ["self", "amount"] c.B (spBegin c.B CM) []
  T : MkTxt P w K mg base "Take" ["self", "at", "amount"] c.T (spTake c.T CM) [.non]
  R : MkTxt P w K mg base "Right" ["self", "at", "amount"] c.R (spRight c.R CM) []
  S : Mk0 K c.S
  gS : mg "Shut" = some (.ref c.S)
def spMO (c : Cl) : Sp := fun vs H Q _ => ∃ (w n : Addr) (m : Mv), vs = [.ref w, .ref n] ∧ H w = some (.lst (m.evens.map V.str)) ∧ H n = some (.lst (m.nums.map V.int)) ∧ m.ok ∧
  ∀ (x dx : Addr) (H' : Hp), Same H H' → H' x = some (m.obj c dx) → Q (.ref x) H'
section
variable {P : Program} {w : World} {K : PySem.W.Frag} {mg : Str → Option Value} {base : Heap}
theorem scMoveOf : FnScope ["words", "numbers", "form"] ["words", "numbers"] (defScope sMoveOf) := ⟨rfl, rfl, rfl, by decide +kernel, rfl, by decide +kernel, by decide +kernel⟩
/-- form == (..): a new tuple, the answer by the data -/
theorem form_eq {D : Ends} {σ : L2.St} {H : Hp} {q : Addr} {fs ls : List V} {ds es : List PyData} {t : TA} {b : Bool} {A B : TS}
    (hσ : σ[2]? = some (some (.ref q))) (hq : H q = some (.tup fs)) (hf : ∀ H', DpAll K H' fs ds) (ht : ∀ Q', Q' ls H → t σ H Q') (hl : ∀ H', DpAll K H' ls es) (hz : ls.length ≤ sizeLine)
    (s1 : SeqAt.shaped (.tuple ds) = true) (s2 : SeqAt.shaped (.tuple es) = true) (e : PyData.eqv (.tuple ds) (.tuple es) = b) (k : ∀ H', Same H H' → if b = true then A D σ H' else B D σ H') :
    tIfS (tTest (tOp (rEqD K) (tVar 2) (tTup t))) A B D σ H := by
  refine ⟨_, hσ, ht _ ⟨hz, fun p np => ?_⟩⟩
  have s3 : Same H (upd H p (.tup ls)) := Same.new np
  refine ⟨.tuple ds, .tuple es, .tup (SqT.of (s3 _ _ hq)) (hf _), .tup (SqT.of upd_same) (hl _), s1, s2, _, rfl, ?_⟩
  rw [e]
  exact k _ s3
theorem ok_moveOf {f CM : Addr} {c : Cl} {fd : FuncData} (F : Fun K "move_of" "move_of" sMoveOf f fd) (zl : mg "len" = none) (T : MvTxt P w K mg base c CM) : FnOk P w K mg base CX0 6 f fd ["words", "numbers"] (spMO c) := by
  obtain ⟨f1, fd1, G1, M1, b1, _⟩ := T.B.ini
  obtain ⟨f3, fd3, G3, M3, b3, ds3, vd3, c3⟩ := T.T.ini
  obtain ⟨f5, fd5, G5, M5, b5, _⟩ := T.R.ini
  refine F.ok scMoveOf (fun vs H Q E h => ?_) (fun cdv A outer s H vs Q E hr h => ?_)
  · obtain ⟨w, n, m, rfl, _⟩ := h
    rfl
  · obtain ⟨wa, na, m, rfl, hw, hn, ok, k⟩ := h
    refine ⟨_, pss_cons (ps_set (i := 2) scMoveOf.nd rfl (Or.inl rfl) (pe_tup (StX.pa_star (pv 0) (pa_cons (pe_callB call_len_seq (by rfl) zl PySem.boot_len (pa_cons (pv 1) pa_nil)) pa_nil))))
      (pss_cons (ps_if (pt_cmpR (op_eqD hr.units) (pv 2) (pe_tup (pa_cons pe_str (pa_cons pe_int pa_nil))) (nomark _)) (pss_one (ps_ret (pe_make M1 G1 hr rfl T.B.g b1 .nil passL (pa_cons (pe_ix ix_list (pv 1) pe_int (fun _ _ => rfl)) pa_nil)))) pss_nil)
      (pss_cons (ps_if (pt_cmpR (op_eqD hr.units) (pv 2) (pe_tup (pa_cons pe_str (pa_cons pe_int pa_nil))) (nomark _)) (pss_one (ps_ret (pe_make M3 G3 hr rfl T.T.g c3 vd3 passL (pa_cons (pe_ix ix_list (pv 1) pe_int (fun _ _ => rfl)) pa_nil)))) pss_nil)
      (pss_cons (ps_if (pt_cmpR (op_eqD hr.units) (pv 2) (pe_tup (pa_cons pe_str (pa_cons pe_str (pa_cons pe_int pa_nil)))) (nomark _)) (pss_one (ps_ret (pe_make M3 G3 hr rfl T.T.g b3 .nil passL (pa_cons (pe_ix ix_list (pv 1) pe_int (fun _ _ => rfl)) (pa_cons (pe_ix ix_list (pv 1) pe_int (fun _ _ => rfl)) pa_nil))))) pss_nil)
      (pss_cons (ps_if (pt_cmpR (op_eqD hr.units) (pv 2) (pe_tup (pa_cons pe_str (pa_cons pe_str (pa_cons pe_int pa_nil)))) (nomark _)) (pss_one (ps_ret (pe_make M5 G5 hr rfl T.R.g b5 .nil passL (pa_cons (pe_ix ix_list (pv 1) pe_int (fun _ _ => rfl)) (pa_cons (pe_ix ix_list (pv 1) pe_int (fun _ _ => rfl)) pa_nil))))) pss_nil)
      (pss_cons (ps_if (pt_cmpR (op_eqD hr.units) (pv 2) (pe_tup (pa_cons pe_str (pa_cons pe_int pa_nil))) (nomark _)) (pss_one (ps_ret (pe_new0 T.S rfl T.gS))) pss_nil)
      (pss_one (ps_ret pe_non))))))), ?_⟩
    refine ⟨_, rfl, wa, _, rfl, .inr (SqL.of hw), _, rfl, na, _, rfl, .inl (SqL.of hn), ?_⟩
    rcases m with a | t | ⟨t, a⟩ | ⟨t, a⟩ | _
    · obtain ⟨a1, a2⟩ := (show Amt a from ok)
      refine ⟨(by show 2 ≤ sizeLine; decide), fun q nq => ?_⟩
      have hq : upd H q (.tup [.str "begin", .int 1]) q = some (.tup [.str "begin", .int 1]) := upd_same
      have S0 : Same H (upd H q (.tup [.str "begin", .int 1])) := Same.new nq
      change _ at hq
      show tSeq _ _ _ _ (upd H q (.tup [.str "begin", .int 1]))
      generalize upd H q (.tup [.str "begin", .int 1]) = H1 at hq S0 ⊢
      refine form_eq (fs := [.str "begin", .int 1]) (ls := [.str "begin", .int 1]) (b := true) rfl hq (fun _ => .cons (.str _) (.cons (.int _) .nil)) (fun _ h => h) (fun _ => .cons (.str _) (.cons (.int _) .nil)) (by show 2 ≤ sizeLine; decide) (by first | rfl | decide +kernel) (by first | rfl | decide +kernel) (by first | rfl | decide +kernel) (fun H2 s2 => iteT ?_)
      have SS := (S0).trans s2
      exact ⟨_, rfl, na, _, 0, _, rfl, rfl, SqL.of (SS _ _ hn), rfl, fun y dy ny ndy ne => ⟨y, dy, .int a, rfl, upd_same, .int _ (by omega), fun _ => ⟨rfl, k y dy _ (SS.trans (made_same2 ny ndy)) upd_same⟩, fun e => absurd (num_yes a1) (by rw [e]; decide)⟩⟩
    · obtain ⟨t1, t2⟩ := (show Idx t from ok)
      refine ⟨(by show 2 ≤ sizeLine; decide), fun q nq => ?_⟩
      have hq : upd H q (.tup [.str "take", .int 1]) q = some (.tup [.str "take", .int 1]) := upd_same
      have S0 : Same H (upd H q (.tup [.str "take", .int 1])) := Same.new nq
      change _ at hq
      show tSeq _ _ _ _ (upd H q (.tup [.str "take", .int 1]))
      generalize upd H q (.tup [.str "take", .int 1]) = H1 at hq S0 ⊢
      refine form_eq (fs := [.str "take", .int 1]) (ls := [.str "begin", .int 1]) (b := false) rfl hq (fun _ => .cons (.str _) (.cons (.int _) .nil)) (fun _ h => h) (fun _ => .cons (.str _) (.cons (.int _) .nil)) (by show 2 ≤ sizeLine; decide) (by first | rfl | decide +kernel) (by first | rfl | decide +kernel) (by first | rfl | decide +kernel) (fun H2 s2 => iteF ?_)
      have hq2 := s2 _ _ hq
      refine form_eq (fs := [.str "take", .int 1]) (ls := [.str "take", .int 1]) (b := true) rfl hq2 (fun _ => .cons (.str _) (.cons (.int _) .nil)) (fun _ h => h) (fun _ => .cons (.str _) (.cons (.int _) .nil)) (by show 2 ≤ sizeLine; decide) (by first | rfl | decide +kernel) (by first | rfl | decide +kernel) (by first | rfl | decide +kernel) (fun H3 s3 => iteT ?_)
      have SS := ((S0).trans s2).trans s3
      exact ⟨_, rfl, na, _, 0, _, rfl, rfl, SqL.of (SS _ _ hn), rfl, fun y dy ny ndy ne => ⟨y, dy, .int t, .non, rfl, upd_same, .int _ (by omega), .non, fun _ _ => ⟨rfl, k y dy _ (SS.trans (made_same2 ny ndy)) upd_same⟩, fun e => absurd (num_yes t1) (by rw [e]; decide), fun _ c => absurd rfl c⟩⟩
    · obtain ⟨⟨t1, t2⟩, a1, a2⟩ := (show Idx t ∧ Amt a from ok)
      refine ⟨(by show 3 ≤ sizeLine; decide), fun q nq => ?_⟩
      have hq : upd H q (.tup [.str "take", .str "by", .int 2]) q = some (.tup [.str "take", .str "by", .int 2]) := upd_same
      have S0 : Same H (upd H q (.tup [.str "take", .str "by", .int 2])) := Same.new nq
      change _ at hq
      show tSeq _ _ _ _ (upd H q (.tup [.str "take", .str "by", .int 2]))
      generalize upd H q (.tup [.str "take", .str "by", .int 2]) = H1 at hq S0 ⊢
      refine form_eq (fs := [.str "take", .str "by", .int 2]) (ls := [.str "begin", .int 1]) (b := false) rfl hq (fun _ => .cons (.str _) (.cons (.str _) (.cons (.int _) .nil))) (fun _ h => h) (fun _ => .cons (.str _) (.cons (.int _) .nil)) (by show 2 ≤ sizeLine; decide) (by first | rfl | decide +kernel) (by first | rfl | decide +kernel) (by first | rfl | decide +kernel) (fun H2 s2 => iteF ?_)
      have hq2 := s2 _ _ hq
      refine form_eq (fs := [.str "take", .str "by", .int 2]) (ls := [.str "take", .int 1]) (b := false) rfl hq2 (fun _ => .cons (.str _) (.cons (.str _) (.cons (.int _) .nil))) (fun _ h => h) (fun _ => .cons (.str _) (.cons (.int _) .nil)) (by show 2 ≤ sizeLine; decide) (by first | rfl | decide +kernel) (by first | rfl | decide +kernel) (by first | rfl | decide +kernel) (fun H3 s3 => iteF ?_)
      have hq3 := s3 _ _ hq2
      refine form_eq (fs := [.str "take", .str "by", .int 2]) (ls := [.str "take", .str "by", .int 2]) (b := true) rfl hq3 (fun _ => .cons (.str _) (.cons (.str _) (.cons (.int _) .nil))) (fun _ h => h) (fun _ => .cons (.str _) (.cons (.str _) (.cons (.int _) .nil))) (by show 3 ≤ sizeLine; decide) (by first | rfl | decide +kernel) (by first | rfl | decide +kernel) (by first | rfl | decide +kernel) (fun H4 s4 => iteT ?_)
      have SS := (((S0).trans s2).trans s3).trans s4
      exact ⟨_, rfl, na, _, 0, _, rfl, rfl, SqL.of (SS _ _ hn), rfl, _, rfl, na, _, 1, _, rfl, rfl, SqL.of (SS _ _ hn), rfl, fun y dy ny ndy ne => ⟨y, dy, .int t, .int a, rfl, upd_same, .int _ (by omega), .int _ (by omega), fun _ _ => ⟨rfl, k y dy _ (SS.trans (made_same2 ny ndy)) upd_same⟩, fun e => absurd (num_yes t1) (by rw [e]; decide), fun _ _ e => absurd (num_yes a1) (by rw [e]; decide)⟩⟩
    · obtain ⟨⟨t1, t2⟩, a1, a2⟩ := (show Idx t ∧ Amt a from ok)
      refine ⟨(by show 3 ≤ sizeLine; decide), fun q nq => ?_⟩
      have hq : upd H q (.tup [.str "right", .str "to", .int 2]) q = some (.tup [.str "right", .str "to", .int 2]) := upd_same
      have S0 : Same H (upd H q (.tup [.str "right", .str "to", .int 2])) := Same.new nq
      change _ at hq
      show tSeq _ _ _ _ (upd H q (.tup [.str "right", .str "to", .int 2]))
      generalize upd H q (.tup [.str "right", .str "to", .int 2]) = H1 at hq S0 ⊢
      refine form_eq (fs := [.str "right", .str "to", .int 2]) (ls := [.str "begin", .int 1]) (b := false) rfl hq (fun _ => .cons (.str _) (.cons (.str _) (.cons (.int _) .nil))) (fun _ h => h) (fun _ => .cons (.str _) (.cons (.int _) .nil)) (by show 2 ≤ sizeLine; decide) (by first | rfl | decide +kernel) (by first | rfl | decide +kernel) (by first | rfl | decide +kernel) (fun H2 s2 => iteF ?_)
      have hq2 := s2 _ _ hq
      refine form_eq (fs := [.str "right", .str "to", .int 2]) (ls := [.str "take", .int 1]) (b := false) rfl hq2 (fun _ => .cons (.str _) (.cons (.str _) (.cons (.int _) .nil))) (fun _ h => h) (fun _ => .cons (.str _) (.cons (.int _) .nil)) (by show 2 ≤ sizeLine; decide) (by first | rfl | decide +kernel) (by first | rfl | decide +kernel) (by first | rfl | decide +kernel) (fun H3 s3 => iteF ?_)
      have hq3 := s3 _ _ hq2
      refine form_eq (fs := [.str "right", .str "to", .int 2]) (ls := [.str "take", .str "by", .int 2]) (b := false) rfl hq3 (fun _ => .cons (.str _) (.cons (.str _) (.cons (.int _) .nil))) (fun _ h => h) (fun _ => .cons (.str _) (.cons (.str _) (.cons (.int _) .nil))) (by show 3 ≤ sizeLine; decide) (by first | rfl | decide +kernel) (by first | rfl | decide +kernel) (by first | rfl | decide +kernel) (fun H4 s4 => iteF ?_)
      have hq4 := s4 _ _ hq3
      refine form_eq (fs := [.str "right", .str "to", .int 2]) (ls := [.str "right", .str "to", .int 2]) (b := true) rfl hq4 (fun _ => .cons (.str _) (.cons (.str _) (.cons (.int _) .nil))) (fun _ h => h) (fun _ => .cons (.str _) (.cons (.str _) (.cons (.int _) .nil))) (by show 3 ≤ sizeLine; decide) (by first | rfl | decide +kernel) (by first | rfl | decide +kernel) (by first | rfl | decide +kernel) (fun H5 s5 => iteT ?_)
      have SS := ((((S0).trans s2).trans s3).trans s4).trans s5
      exact ⟨_, rfl, na, _, 0, _, rfl, rfl, SqL.of (SS _ _ hn), rfl, _, rfl, na, _, 1, _, rfl, rfl, SqL.of (SS _ _ hn), rfl, fun y dy ny ndy ne => ⟨y, dy, .int t, .int a, rfl, upd_same, .int _ (by omega), .int _ (by omega), fun _ _ => ⟨rfl, k y dy _ (SS.trans (made_same2 ny ndy)) upd_same⟩, fun e => absurd (num_yes t1) (by rw [e]; decide), fun _ e => absurd (num_yes a1) (by rw [e]; decide)⟩⟩
    · skip
      refine ⟨(by show 2 ≤ sizeLine; decide), fun q nq => ?_⟩
      have hq : upd H q (.tup [.str "shut", .int 0]) q = some (.tup [.str "shut", .int 0]) := upd_same
      have S0 : Same H (upd H q (.tup [.str "shut", .int 0])) := Same.new nq
      change _ at hq
      show tSeq _ _ _ _ (upd H q (.tup [.str "shut", .int 0]))
      generalize upd H q (.tup [.str "shut", .int 0]) = H1 at hq S0 ⊢
      refine form_eq (fs := [.str "shut", .int 0]) (ls := [.str "begin", .int 1]) (b := false) rfl hq (fun _ => .cons (.str _) (.cons (.int _) .nil)) (fun _ h => h) (fun _ => .cons (.str _) (.cons (.int _) .nil)) (by show 2 ≤ sizeLine; decide) (by first | rfl | decide +kernel) (by first | rfl | decide +kernel) (by first | rfl | decide +kernel) (fun H2 s2 => iteF ?_)
      have hq2 := s2 _ _ hq
      refine form_eq (fs := [.str "shut", .int 0]) (ls := [.str "take", .int 1]) (b := false) rfl hq2 (fun _ => .cons (.str _) (.cons (.int _) .nil)) (fun _ h => h) (fun _ => .cons (.str _) (.cons (.int _) .nil)) (by show 2 ≤ sizeLine; decide) (by first | rfl | decide +kernel) (by first | rfl | decide +kernel) (by first | rfl | decide +kernel) (fun H3 s3 => iteF ?_)
      have hq3 := s3 _ _ hq2
      refine form_eq (fs := [.str "shut", .int 0]) (ls := [.str "take", .str "by", .int 2]) (b := false) rfl hq3 (fun _ => .cons (.str _) (.cons (.int _) .nil)) (fun _ h => h) (fun _ => .cons (.str _) (.cons (.str _) (.cons (.int _) .nil))) (by show 3 ≤ sizeLine; decide) (by first | rfl | decide +kernel) (by first | rfl | decide +kernel) (by first | rfl | decide +kernel) (fun H4 s4 => iteF ?_)
      have hq4 := s4 _ _ hq3
      refine form_eq (fs := [.str "shut", .int 0]) (ls := [.str "right", .str "to", .int 2]) (b := false) rfl hq4 (fun _ => .cons (.str _) (.cons (.int _) .nil)) (fun _ h => h) (fun _ => .cons (.str _) (.cons (.str _) (.cons (.int _) .nil))) (by show 3 ≤ sizeLine; decide) (by first | rfl | decide +kernel) (by first | rfl | decide +kernel) (by first | rfl | decide +kernel) (fun H5 s5 => iteF ?_)
      have hq5 := s5 _ _ hq4
      refine form_eq (fs := [.str "shut", .int 0]) (ls := [.str "shut", .int 0]) (b := true) rfl hq5 (fun _ => .cons (.str _) (.cons (.int _) .nil)) (fun _ h => h) (fun _ => .cons (.str _) (.cons (.int _) .nil)) (by show 2 ≤ sizeLine; decide) (by first | rfl | decide +kernel) (by first | rfl | decide +kernel) (by first | rfl | decide +kernel) (fun H6 s6 => iteT ?_)
      have SS := (((((S0).trans s2).trans s3).trans s4).trans s5).trans s6
      exact fun y dy ny ndy ne => k y dy _ (SS.trans (made_same ny ndy)) upd_same
end
end V3

set_option Elab.async false
set_option linter.all false
set_option maxRecDepth 100000
namespace V3
open PySem L2 TL
abbrev sSStr : Stmt := inClass (top 14) 1
abbrev sBEq : Stmt := inClass (top 11) 1
abbrev sTEq : Stmt := inClass (top 12) 1
abbrev sREq : Stmt := inClass (top 13) 1
abbrev sSEq : Stmt := inClass (top 14) 0
section
variable {P : Program} {w : World} {K : PySem.W.Frag} {mg : Str → Option Value} {base : Heap}
theorem ok_tStr {f C : Addr} {fd : FuncData} (F : Fun K "__str__" "Take.__str__" sTStr f fd) (cl : Cls K C) (nT : NoAttr K C "at") (nA : NoAttr K C "amount") : FnOk P w K mg base CX0 1 f fd ["self"] (spTStr C) := by
  refine F.ok scTStr (fun vs H Q E h => ?_) (fun cdv A outer s H vs Q E hr h => ?_)
  · obtain ⟨x, dx, i, v, rfl, _⟩ := h
    rfl
  · obtain ⟨x, dx, i, v, rfl, hx, am, q⟩ := h
    have l := num_len am
    have e1 : ("take " : Str).length = 5 := by decide +kernel
    have e2 : (" by " : Str).length = 4 := by decide +kernel
    have e0 : (Str.empty).length = 0 := rfl
    refine ⟨_, pss_cons (ps_if (pt_cmpR op_isN (pe_fld (pv 0) rfl) pe_non (nomark _)) (pss_one (ps_ret (pe_joined (.cons pe_str (.cons (pe_fmt (pe_fld (pv 0) rfl)) .nil))))) pss_nil)
      (pss_one (ps_ret (pe_joined (.cons pe_str (.cons (pe_fmt (pe_fld (pv 0) rfl)) (.cons pe_str (.cons (pe_fmt (pe_fld (pv 0) rfl)) .nil))))))), ?_⟩
    refine ⟨_, rfl, x, C, dx, _, _, rfl, hx, cl, nA, two_am _ _, rfl, _, rfl, ?_⟩
    have l1 : (Str.empty ++ "take " ++ num i).length ≤ 5000 := by
      rw [app_len, app_len, e1, e0]
      omega
    rcases q with ⟨rfl, q⟩ | ⟨j, rfl, aj, q⟩
    · rw [decide_eq_true rfl]
      exact iteT ⟨_, rfl, small (by rw [app_len, e1, e0]; decide), _, rfl, x, C, dx, _, _, rfl, hx, cl, nT, two_at _ _, .inr ⟨i, rfl, am_log am, _, rfl, small (Nat.le_trans l1 (by decide)), q⟩⟩
    · rw [decide_eq_false (fun z => nomatch z)]
      have lj := num_len aj
      have l2 : (Str.empty ++ "take " ++ num i ++ " by ").length ≤ 6000 := by
        rw [app_len, e2]
        omega
      refine iteF ⟨_, rfl, small (by rw [app_len, e1, e0]; decide), _, rfl, x, C, dx, _, _, rfl, hx, cl, nT, two_at _ _, .inr ⟨i, rfl, am_log am, _, rfl, small (Nat.le_trans l1 (by decide)), _, rfl, small (Nat.le_trans l2 (by decide)), _, rfl, x, C, dx, _, _, rfl, hx, cl, nA, two_am _ _, .inr ⟨j, rfl, am_log aj, _, rfl, small ?_, q⟩⟩⟩
      show (Str.empty ++ "take " ++ num i ++ " by " ++ num j).length ≤ 10000
      rw [app_len]
      omega
theorem ok_rStr {f C : Addr} {fd : FuncData} (F : Fun K "__str__" "Right.__str__" sRStr f fd) (cl : Cls K C) (nT : NoAttr K C "at") (nA : NoAttr K C "amount") : FnOk P w K mg base CX0 1 f fd ["self"] (spRStr C) := by
  refine F.ok scRStr (fun vs H Q E h => ?_) (fun cdv A outer s H vs Q E hr h => ?_)
  · obtain ⟨x, dx, i, j, rfl, _⟩ := h
    rfl
  · obtain ⟨x, dx, i, j, rfl, hx, am, aj, q⟩ := h
    have l := num_len am
    have lj := num_len aj
    have e1 : ("right " : Str).length = 6 := by decide +kernel
    have e2 : (" to " : Str).length = 4 := by decide +kernel
    have e0 : (Str.empty).length = 0 := rfl
    have l1 : (Str.empty ++ "right " ++ num i).length ≤ 5000 := by
      rw [app_len, app_len, e1, e0]
      omega
    have l2 : (Str.empty ++ "right " ++ num i ++ " to ").length ≤ 6000 := by
      rw [app_len, e2]
      omega
    refine ⟨_, pss_one (ps_ret (pe_joined (.cons pe_str (.cons (pe_fmt (pe_fld (pv 0) rfl)) (.cons pe_str (.cons (pe_fmt (pe_fld (pv 0) rfl)) .nil)))))), ?_⟩
    refine ⟨_, rfl, small (by rw [app_len, e1, e0]; decide), _, rfl, x, C, dx, _, _, rfl, hx, cl, nT, two_at _ _, .inr ⟨i, rfl, am_log am, _, rfl, small (Nat.le_trans l1 (by decide)), _, rfl, small (Nat.le_trans l2 (by decide)), _, rfl, x, C, dx, _, _, rfl, hx, cl, nA, two_am _ _, .inr ⟨j, rfl, am_log aj, _, rfl, small ?_, q⟩⟩⟩
    show (Str.empty ++ "right " ++ num i ++ " to " ++ num j).length ≤ 10000
    rw [app_len]
    omega
end
/-! the text of any move, and == of moves -/
def Mv.kind : Mv → Nat
  | .beg _ => 0
  | .take _ => 1
  | .takeBy _ _ => 1
  | .right _ _ => 2
  | .shut => 3
def Cl.at (c : Cl) : Nat → Addr
  | 0 => c.B
  | 1 => c.T
  | 2 => c.R
  | _ => c.S
theorem t_text (i : Int) : tText i = (Mv.take i).text := ext_tl (by
  unfold tText Mv.text
  rw [tl_join]
  simp only [tl_append, Mv.words, List.map, joinL, sp_tl]
  have e : tl ("take " : Str) = tl ("take" : Str) ++ [32] := by decide +kernel
  rw [e]
  simp [Str.empty, tl])
theorem tb_text (i j : Int) : tbText i j = (Mv.takeBy i j).text := ext_tl (by
  unfold tbText Mv.text
  rw [tl_join]
  simp only [tl_append, Mv.words, List.map, joinL, sp_tl]
  have e : tl ("take " : Str) = tl ("take" : Str) ++ [32] := by decide +kernel
  have e2 : tl (" by " : Str) = [32] ++ tl ("by" : Str) ++ [32] := by decide +kernel
  rw [e, e2]
  simp [Str.empty, tl])
theorem r_text (i j : Int) : rText i j = (Mv.right i j).text := ext_tl (by
  unfold rText Mv.text
  rw [tl_join]
  simp only [tl_append, Mv.words, List.map, joinL, sp_tl]
  have e : tl ("right " : Str) = tl ("right" : Str) ++ [32] := by decide +kernel
  have e2 : tl (" to " : Str) = [32] ++ tl ("to" : Str) ++ [32] := by decide +kernel
  rw [e, e2]
  simp [Str.empty, tl])
theorem am_of {a : Int} (h : Amt a) : Am a := by
  unfold Amt at h
  unfold Am
  omega
/-- str of a move of a kind -/
def spMS (c : Cl) (k : Nat) : Sp := fun vs H Q _ => ∃ (x dx : Addr) (m : Mv), vs = [.ref x] ∧ H x = some (m.obj c dx) ∧ m.kind = k ∧ m.ok ∧ Q (.str m.text) H
section
variable {P : Program} {w : World} {K : PySem.W.Frag} {mg : Str → Option Value} {base : Heap}
theorem scSStr : FnScope ["self"] ["self"] (defScope sSStr) := ⟨rfl, rfl, rfl, by decide +kernel, rfl, by decide +kernel, by decide +kernel⟩
theorem ok_sStr {f : Addr} {c : Cl} {fd : FuncData} (F : Fun K "__str__" "Shut.__str__" sSStr f fd) : FnOk P w K mg base CX0 1 f fd ["self"] (spMS c 3) := by
  refine F.ok scSStr (fun vs H Q E h => ?_) (fun cdv A outer s H vs Q E hr h => ?_)
  · obtain ⟨x, dx, m, rfl, _⟩ := h
    rfl
  · obtain ⟨x, dx, m, rfl, hx, hk, ok, q⟩ := h
    refine ⟨_, pss_one (ps_ret pe_str), ?_⟩
    cases m with
    | shut =>
      have e : Mv.shut.text = "shut" := by decide +kernel
      rw [e] at q
      exact q
    | _ => cases hk
theorem ms_b {f : Addr} {c : Cl} {fd : FuncData} (G : FnOk P w K mg base CX0 1 f fd ["self"] (spBStr c.B)) : FnOk P w K mg base CX0 1 f fd ["self"] (spMS c 0) := G.imp fun vs H Q E h => by
  obtain ⟨x, dx, m, rfl, hx, hk, ok, q⟩ := h
  cases m with
  | beg a =>
    rw [← b_text] at q
    exact ⟨x, dx, a, rfl, hx, am_of ok, q⟩
  | _ => cases hk
theorem ms_t {f : Addr} {c : Cl} {fd : FuncData} (G : FnOk P w K mg base CX0 1 f fd ["self"] (spTStr c.T)) : FnOk P w K mg base CX0 1 f fd ["self"] (spMS c 1) := G.imp fun vs H Q E h => by
  obtain ⟨x, dx, m, rfl, hx, hk, ok, q⟩ := h
  cases m with
  | take i =>
    rw [← t_text] at q
    exact ⟨x, dx, i, _, rfl, hx, at_am ok, .inl ⟨rfl, q⟩⟩
  | takeBy i j =>
    rw [← tb_text] at q
    exact ⟨x, dx, i, _, rfl, hx, at_am ok.1, .inr ⟨j, rfl, am_of ok.2, q⟩⟩
  | _ => cases hk
theorem ms_r {f : Addr} {c : Cl} {fd : FuncData} (G : FnOk P w K mg base CX0 1 f fd ["self"] (spRStr c.R)) : FnOk P w K mg base CX0 1 f fd ["self"] (spMS c 2) := G.imp fun vs H Q E h => by
  obtain ⟨x, dx, m, rfl, hx, hk, ok, q⟩ := h
  cases m with
  | right i j =>
    rw [← r_text] at q
    exact ⟨x, dx, i, j, rfl, hx, at_am ok.1, am_of ok.2, q⟩
  | _ => cases hk
end
theorem mv_at (c : Cl) (m : Mv) (dx : Addr) : ∃ fs, m.obj c dx = .ins (c.at m.kind) dx fs := by
  cases m <;> exact ⟨_, rfl⟩
theorem kind_lt (m : Mv) : m.kind < 4 := by
  cases m <;> (simp only [Mv.kind]; omega)
/-- how the classes of moves tell their text -/
structure StrTxt (P : Program) (w : World) (K : PySem.W.Frag) (mg : Str → Option Value) (base : Heap) (c : Cl) : Prop where
  s : ∀ k, k < 4 → ∃ (f : Addr) (fd : FuncData), FnOk P w K mg base CX0 1 f fd ["self"] (spMS c k) ∧ PySem.W.findIn K (.ref (c.at k)) "__str__" = some (some (.ref f)) ∧ PySem.W.isFn K (.ref f) = true ∧ Binds K fd ["self"] []
/-- str(x), x any move -/
def rStrM (c : Cl) : List V → Hp → VK → Prop := fun xs H Q => ∃ v m, xs = [v] ∧ MvAt c H v m ∧ m.ok ∧ Q (.str m.text) H
theorem call_strM {X : Cx} {c : Cl} (T : StrTxt X.prog X.w X.K X.mg X.base c) (room : Room 3 X.A) : CallR X (.type "str") (rStrM c) := by
  intro pins s σ H xs us Q I r h
  obtain ⟨v, m, rfl, ⟨x, dx, rfl, hx⟩, ok, q⟩ := h
  obtain ⟨f, fd, G, at_, isf, bi⟩ := T.s m.kind (kind_lt m)
  obtain ⟨fs, eo⟩ := mv_at c m dx
  refine call_strO (E := fun _ _ _ => False) G at_ isf bi pass0 room pins s σ H _ us Q I r ⟨x, dx, fs, rfl, by rw [hx, eo], x, dx, m, rfl, hx, rfl, ok, _, rfl, q⟩
/-- what of the classes of moves is == and isinstance -/
structure MvCls (K : PySem.W.Frag) (c : Cl) (MV : Addr) : Prop where
  cl : ∀ k, k < 4 → Cls K (c.at k) ∧ PySem.W.findIn K (.ref (c.at k)) "__class__" = some (some (.builtin "object.__class__")) ∧ PySem.W.mroIn K (c.at k) (.type "object") = some true ∧ PySem.W.kitOne K (.ref (c.at k)) (.ref MV) = some true
  gn : PySem.W.specialIn K (.builtin "object.__class__") "__get__" = some (some (.builtin "getset_descriptor.__get__"))
  tk : PySem.W.takesIn K (.builtin "object.__class__") = some true
  nf : ∀ k, k < 4 → ∀ j, j < 4 → PySem.W.notFirst K (c.at k) (.ref (c.at j)) = true
def spMEq (c : Cl) : Sp := fun vs H Q _ => ∃ (u v : V) (m n : Mv), vs = [u, v] ∧ MvAt c H u m ∧ MvAt c H v n ∧ m.ok ∧ n.ok ∧ Q (.bl (decide (m.text = n.text))) H
section
variable {P : Program} {w : World} {K : PySem.W.Frag} {mg : Str → Option Value} {base : Heap}
theorem scBEq : FnScope ["self", "other"] ["self", "other"] (defScope sBEq) := ⟨rfl, rfl, rfl, by decide +kernel, rfl, by decide +kernel, by decide +kernel⟩
theorem scTEq : FnScope ["self", "other"] ["self", "other"] (defScope sTEq) := ⟨rfl, rfl, rfl, by decide +kernel, rfl, by decide +kernel, by decide +kernel⟩
theorem scREq : FnScope ["self", "other"] ["self", "other"] (defScope sREq) := ⟨rfl, rfl, rfl, by decide +kernel, rfl, by decide +kernel, by decide +kernel⟩
theorem scSEq : FnScope ["self", "other"] ["self", "other"] (defScope sSEq) := ⟨rfl, rfl, rfl, by decide +kernel, rfl, by decide +kernel, by decide +kernel⟩
structure BltE (mg : Str → Option Value) : Prop where
  isi : mg "isinstance" = none
  str : mg "str" = none
theorem meq_run {c : Cl} {MV : Addr} {H : Hp} {u v : V} {m n : Mv} {Q : VK} (C : MvCls K c MV) (hu : MvAt c H u m) (hv : MvAt c H v n) (mo : m.ok) (no : n.ok) (q : Q (.bl (decide (m.text = n.text))) H) :
    tAndV (tCB (rIsi K) (tCons (tVar 1) (tCons (tC (.ref MV)) tNil))) (tOp rEq (tCB (rStrM c) (tCons (tVar 0) tNil)) (tCB (rStrM c) (tCons (tVar 1) tNil))) (start ["self", "other"] [u, v]) H Q := by
  obtain ⟨y, dy, rfl, hy⟩ := id hv
  obtain ⟨fs, eo⟩ := mv_at c n dy
  obtain ⟨cl, ca, mr, ki⟩ := C.cl n.kind (kind_lt n)
  refine ⟨_, rfl, _, _, _, _, _, rfl, .own MV, .base (.ins (by rw [hy, eo]) cl ca C.gn C.tk mr), ki, _, rfl, iteT ⟨_, rfl, u, m, rfl, hu, mo, _, rfl, _, n, rfl, hv, no, rfl, ?_⟩⟩
  have e : (V.str m.text = V.str n.text) ↔ (m.text = n.text) := ⟨fun z => by injection z, fun z => by rw [z]⟩
  have e2 : decide (V.str m.text = V.str n.text) = decide (m.text = n.text) := by
    by_cases h : m.text = n.text
    · rw [decide_eq_true h, decide_eq_true (e.mpr h)]
    · rw [decide_eq_false h, decide_eq_false (fun z => h (e.mp z))]
  rw [e2]
  exact q
theorem ok_bEq {f MV : Addr} {c : Cl} {fd : FuncData} (F : Fun K "__eq__" "Begin.__eq__" sBEq f fd) (T : BltE mg) (S : StrTxt P w K mg base c) (C : MvCls K c MV) (gM : mg "Move" = some (.ref MV)) : FnOk P w K mg base CX0 4 f fd ["self", "other"] (spMEq c) := by
  refine F.ok scBEq (fun vs H Q E h => ?_) (fun cdv A outer s H vs Q E hr h => ?_)
  · obtain ⟨u, v, m, n, rfl, _⟩ := h
    rfl
  · obtain ⟨u, v, m, n, rfl, hu, hv, mo, no, q⟩ := h
    exact ⟨_, pss_one (ps_ret (pe_and (pe_callB call_isi (by rfl) T.isi (by decide +kernel) (pa_cons (pv 1) (pa_cons (pe_glob (v := .ref MV) rfl gM rfl) pa_nil))) (pe_one (pe_cmpR op_eq (pe_callTy (call_strM S hr) (by rfl) T.str (by decide +kernel) (pa_cons (pv 0) pa_nil)) (pe_callTy (call_strM S hr) (by rfl) T.str (by decide +kernel) (pa_cons (pv 1) pa_nil)) (nomark _))))),
      meq_run C hu hv mo no q⟩
theorem ok_tEq {f MV : Addr} {c : Cl} {fd : FuncData} (F : Fun K "__eq__" "Take.__eq__" sTEq f fd) (T : BltE mg) (S : StrTxt P w K mg base c) (C : MvCls K c MV) (gM : mg "Move" = some (.ref MV)) : FnOk P w K mg base CX0 4 f fd ["self", "other"] (spMEq c) := by
  refine F.ok scTEq (fun vs H Q E h => ?_) (fun cdv A outer s H vs Q E hr h => ?_)
  · obtain ⟨u, v, m, n, rfl, _⟩ := h
    rfl
  · obtain ⟨u, v, m, n, rfl, hu, hv, mo, no, q⟩ := h
    exact ⟨_, pss_one (ps_ret (pe_and (pe_callB call_isi (by rfl) T.isi (by decide +kernel) (pa_cons (pv 1) (pa_cons (pe_glob (v := .ref MV) rfl gM rfl) pa_nil))) (pe_one (pe_cmpR op_eq (pe_callTy (call_strM S hr) (by rfl) T.str (by decide +kernel) (pa_cons (pv 0) pa_nil)) (pe_callTy (call_strM S hr) (by rfl) T.str (by decide +kernel) (pa_cons (pv 1) pa_nil)) (nomark _))))),
      meq_run C hu hv mo no q⟩
theorem ok_rEq' {f MV : Addr} {c : Cl} {fd : FuncData} (F : Fun K "__eq__" "Right.__eq__" sREq f fd) (T : BltE mg) (S : StrTxt P w K mg base c) (C : MvCls K c MV) (gM : mg "Move" = some (.ref MV)) : FnOk P w K mg base CX0 4 f fd ["self", "other"] (spMEq c) := by
  refine F.ok scREq (fun vs H Q E h => ?_) (fun cdv A outer s H vs Q E hr h => ?_)
  · obtain ⟨u, v, m, n, rfl, _⟩ := h
    rfl
  · obtain ⟨u, v, m, n, rfl, hu, hv, mo, no, q⟩ := h
    exact ⟨_, pss_one (ps_ret (pe_and (pe_callB call_isi (by rfl) T.isi (by decide +kernel) (pa_cons (pv 1) (pa_cons (pe_glob (v := .ref MV) rfl gM rfl) pa_nil))) (pe_one (pe_cmpR op_eq (pe_callTy (call_strM S hr) (by rfl) T.str (by decide +kernel) (pa_cons (pv 0) pa_nil)) (pe_callTy (call_strM S hr) (by rfl) T.str (by decide +kernel) (pa_cons (pv 1) pa_nil)) (nomark _))))),
      meq_run C hu hv mo no q⟩
theorem ok_sEq {f MV : Addr} {c : Cl} {fd : FuncData} (F : Fun K "__eq__" "Shut.__eq__" sSEq f fd) (T : BltE mg) (S : StrTxt P w K mg base c) (C : MvCls K c MV) (gM : mg "Move" = some (.ref MV)) : FnOk P w K mg base CX0 4 f fd ["self", "other"] (spMEq c) := by
  refine F.ok scSEq (fun vs H Q E h => ?_) (fun cdv A outer s H vs Q E hr h => ?_)
  · obtain ⟨u, v, m, n, rfl, _⟩ := h
    rfl
  · obtain ⟨u, v, m, n, rfl, hu, hv, mo, no, q⟩ := h
    exact ⟨_, pss_one (ps_ret (pe_and (pe_callB call_isi (by rfl) T.isi (by decide +kernel) (pa_cons (pv 1) (pa_cons (pe_glob (v := .ref MV) rfl gM rfl) pa_nil))) (pe_one (pe_cmpR op_eq (pe_callTy (call_strM S hr) (by rfl) T.str (by decide +kernel) (pa_cons (pv 0) pa_nil)) (pe_callTy (call_strM S hr) (by rfl) T.str (by decide +kernel) (pa_cons (pv 1) pa_nil)) (nomark _))))),
      meq_run C hu hv mo no q⟩
end
end V3

set_option Elab.async false
set_option linter.all false
set_option maxRecDepth 100000
namespace V3
open PySem L2 TL
/-! read_move -/
theorem text_len {m : Mv} (h : m.ok) : m.text.length ≤ 5000 := by
  have e0 : (Str.empty).length = 0 := rfl
  have e1 : ("begin " : Str).length = 6 := by decide +kernel
  have e2 : ("take " : Str).length = 5 := by decide +kernel
  have e3 : (" by " : Str).length = 4 := by decide +kernel
  have e4 : ("right " : Str).length = 6 := by decide +kernel
  have e5 : (" to " : Str).length = 4 := by decide +kernel
  cases m with
  | beg a =>
    rw [← b_text]
    have l := num_len (am_of h)
    unfold bText
    rw [app_len, app_len, e0, e1]
    omega
  | take t =>
    rw [← t_text]
    have l := num_len (at_am h)
    unfold tText
    rw [app_len, app_len, e0, e2]
    omega
  | takeBy t a =>
    rw [← tb_text]
    have l := num_len (at_am h.1)
    have l2 := num_len (am_of h.2)
    unfold tbText
    rw [app_len, app_len, app_len, app_len, e0, e2, e3]
    omega
  | right t a =>
    rw [← r_text]
    have l := num_len (at_am h.1)
    have l2 := num_len (am_of h.2)
    unfold rText
    rw [app_len, app_len, app_len, app_len, e0, e4, e5]
    omega
  | shut =>
    have e : Mv.shut.text.length = 4 := by decide +kernel
    rw [e]
    decide
theorem st12 : sliceRange (sliceBounds (some 1) none (some 2) 2).1 (sliceBounds (some 1) none (some 2) 2).2.1 (sliceBounds (some 1) none (some 2) 2).2.2 = [1] := by decide +kernel
theorem st14 : sliceRange (sliceBounds (some 1) none (some 2) 4).1 (sliceBounds (some 1) none (some 2) 4).2.1 (sliceBounds (some 1) none (some 2) 4).2.2 = [1, 3] := by decide +kernel
theorem st11 : sliceRange (sliceBounds (some 1) none (some 2) 1).1 (sliceBounds (some 1) none (some 2) 1).2.1 (sliceBounds (some 1) none (some 2) 1).2.2 = [] := by decide +kernel
theorem st02 : sliceRange (sliceBounds none none (some 2) 2).1 (sliceBounds none none (some 2) 2).2.1 (sliceBounds none none (some 2) 2).2.2 = [0] := by decide +kernel
theorem st04 : sliceRange (sliceBounds none none (some 2) 4).1 (sliceBounds none none (some 2) 4).2.1 (sliceBounds none none (some 2) 4).2.2 = [0, 2] := by decide +kernel
theorem st01 : sliceRange (sliceBounds none none (some 2) 1).1 (sliceBounds none none (some 2) 1).2.1 (sliceBounds none none (some 2) 1).2.2 = [0] := by decide +kernel
theorem step_of {xs : List V} {lo hi st : Option Int} {n : Nat} {l : List Nat} (hn : xs.length = n) (h : sliceRange (sliceBounds lo hi st n).1 (sliceBounds lo hi st n).2.1 (sliceBounds lo hi st n).2.2 = l) : stepV xs lo hi st = l.filterMap (fun i => xs[i]?) := by
  unfold stepV
  rw [hn, h]
theorem step_nums (m : Mv) : stepV (m.words.map V.str) (some 1) none (some 2) = (m.nums.map num).map V.str := by
  cases m with
  | beg a => exact step_of (n := 2) rfl st12
  | take t => exact step_of (n := 2) rfl st12
  | takeBy t a => exact step_of (n := 4) rfl st14
  | right t a => exact step_of (n := 4) rfl st14
  | shut => exact step_of (n := 1) rfl st11
theorem step_evens (m : Mv) : stepV (m.words.map V.str) none none (some 2) = m.evens.map V.str := by
  cases m with
  | beg a => exact step_of (n := 2) rfl st02
  | take t => exact step_of (n := 2) rfl st02
  | takeBy t a => exact step_of (n := 4) rfl st04
  | right t a => exact step_of (n := 4) rfl st04
  | shut => exact step_of (n := 1) rfl st01
theorem nums_len (m : Mv) : m.nums.length ≤ 2 := by cases m <;> (simp only [Mv.nums, List.length_cons, List.length_nil]; omega)
theorem evens_len (m : Mv) : m.evens.length ≤ 2 := by cases m <;> (simp only [Mv.evens, List.length_cons, List.length_nil]; omega)
theorem none_in (l : List Int) : inV .non (l.map V.int) = false := by
  induction l with
  | nil => rfl
  | cons a l ih => exact ih
theorem flat_ints (l : List Int) : (l.map V.int).all flatV = true := by
  induction l with
  | nil => rfl
  | cons a l ih => exact ih
theorem get_num {l : List Int} {i : Nat} {z : V} (h : (List.map V.str (List.map num l))[i]? = some z) : ∃ t, l[i]? = some t ∧ z = .str (num t) := by
  rw [List.getElem?_map, List.getElem?_map] at h
  cases e : l[i]? with
  | none => rw [e] at h; cases h
  | some t =>
    rw [e] at h
    exact ⟨t, rfl, (Option.some.inj h).symm⟩
theorem take_next' {α : Type} : ∀ {l : List α} {i : Nat} {x : α}, l[i]? = some x → l.take (i + 1) = l.take i ++ [x]
  | [], i, x, h => by simp at h
  | a :: l, 0, x, h => by
    have e : a = x := Option.some.inj h
    subst e
    rfl
  | a :: l, i + 1, x, h => by
    have ih := take_next' (l := l) (i := i) (x := x) h
    show a :: l.take (i + 1) = a :: l.take i ++ [x]
    rw [ih]
    rfl
def spRM (c : Cl) : Sp := fun vs H Q _ => ∃ m : Mv, vs = [.str m.text] ∧ m.ok ∧ ∀ (x dx : Addr) (H' : Hp), Same H H' → H' x = some (m.obj c dx) → Q (.ref x) H'
section
variable {P : Program} {w : World} {K : PySem.W.Frag} {mg : Str → Option Value} {base : Heap}
abbrev CalReadNumber (P : Program) (w : World) (K : PySem.W.Frag) (mg : Str → Option Value) (base : Heap) : Prop := Cal P w K mg base CX0 "read_number" 1 ["text"] spRN
abbrev CalMoveOf (P : Program) (w : World) (K : PySem.W.Frag) (mg : Str → Option Value) (base : Heap) (c : Cl) : Prop := Cal P w K mg base CX0 "move_of" 6 ["words", "numbers"] (spMO c)
theorem scReadMove : FnScope ["text", "words", "numbers", "word"] ["text"] (defScope sReadMove) := ⟨rfl, rfl, rfl, by decide +kernel, rfl, by decide +kernel, by decide +kernel⟩
theorem ok_readMove {f : Addr} {c : Cl} {fd : FuncData} (F : Fun K "read_move" "read_move" sReadMove f fd) (cN : CalReadNumber P w K mg base) (cM : CalMoveOf P w K mg base c) : FnOk P w K mg base CX0 7 f fd ["text"] (spRM c) := by
  obtain ⟨fN, fdN, GN, mN, kN, bN⟩ := cN
  obtain ⟨fM, fdM, GM, mM, kM, bM⟩ := cM
  refine F.ok scReadMove (fun vs H Q E h => ?_) (fun cdv A outer s H vs Q E hr h => ?_)
  · obtain ⟨m, rfl, _⟩ := h
    rfl
  · obtain ⟨m, rfl, ok, k⟩ := h
    refine ⟨_, pss_cons (ps_set (i := 1) scReadMove.nd rfl (Or.inl rfl) (pe_split (pv 0) pe_str))
      (pss_cons (ps_setLc (i := 2) (own := [("word", 3)]) (g := gName 3) (tt := tYes) (te := tCall spRN [] (fun _ _ _ => False) (tCons (tVar 3) tNil)) (by rfl) scReadMove.nd rfl rfl (sw_true rfl rfl rfl (by decide +kernel)) (pi_list (pe_step (pv 1) (po_some pe_int) po_none (po_some pe_int)))
          (blkOk_by (own := [("word", 3)]) (N := ["text", "words", "numbers", "word"]) (sc := defScope sReadMove) (by decide +kernel)) (fun _ _ _ _ _ => pg_name (i := 3) scReadMove.nd rfl (Or.inl rfl)) (fun _ _ _ _ _ => pts_nil)
          (fun _ _ _ _ _ => pe_call GN (hr.mono (by decide)) rfl mN kN bN .nil pass0 (pa_cons (pv 3) pa_nil)))
      (pss_cons (ps_if (pt_cmpR op_in_seq pe_non (pv 2) rfl) (pss_one (ps_ret pe_non)) pss_nil)
      (pss_one (ps_try_thru0 (pss_one (ps_ret (pe_call (E := fun _ _ _ => False) GM hr rfl mM kM bM .nil pass0 (pa_cons (pe_step (pv 1) po_none po_none (po_some pe_int)) (pa_cons (pv 2) pa_nil))))))))), ?_⟩
    have tl_ := text_len ok
    refine ⟨_, rfl, ⟨_, rfl⟩, _, sp1, rfl, rfl, by decide +kernel, Nat.le_trans (Nat.add_le_add_right tl_ 2) (by decide), fun wa nw => ?_⟩
    rw [split_text ok]
    have S1 : Same H (upd H wa (.lst (m.words.map V.str))) := Same.new nw
    have hw : upd H wa (.lst (m.words.map V.str)) wa = some (.lst (m.words.map V.str)) := upd_same
    generalize upd H wa (.lst (m.words.map V.str)) = H1 at S1 hw ⊢
    refine ⟨_, rfl, _, rfl, 2, rfl, wa, _, rfl, SqL.of hw, by decide, ?_, fun pa np => ?_⟩
    · rw [step_nums, List.length_map, List.length_map]
      exact Nat.le_trans (nums_len m) (by decide)
    rw [step_nums]
    have S2 : Same H1 (upd H1 pa (.lst ((m.nums.map num).map V.str))) := Same.new np
    have hp : upd H1 pa (.lst ((m.nums.map num).map V.str)) pa = some (.lst ((m.nums.map num).map V.str)) := upd_same
    generalize upd H1 pa (.lst ((m.nums.map num).map V.str)) = H2 at S2 hp ⊢
    refine ⟨pa, rfl, ⟨_, SqL.of hp⟩, fun D nD => ?_⟩
    refine lc_list (K := K) (a := pa) (xs := (m.nums.map num).map V.str) (fun i Hh => Same H2 Hh ∧ H2 D = none ∧ Hh D = some (.lst ((m.nums.take i).map V.int))) ⟨Same.new nD, nD, upd_same⟩ (fun i Hh _ p => SqL.of (p.1 _ _ hp)) ?_ ?_
    · intro i z Hh hi p
      obtain ⟨t, ht, rfl⟩ := get_num hi
      have okt : V3.Idx t := nums_ok ok t (List.mem_of_getElem? ht)
      refine ⟨rfl, ?_⟩
      unfold tYes
      dsimp only
      refine iteT ⟨_, rfl, t, rfl, okt, _, p.2.2, ?_, fun c o h => ?_, p.2.1, ?_⟩
      · have l := nums_len m
        refine Nat.lt_of_le_of_lt (m := 100) ?_ (by decide)
        rw [List.length_map, List.length_take]
        omega
      · rw [upd_ne (ne_of_none h p.2.1)]
        exact p.1 c o h
      · rw [upd_same, take_next' ht, List.map_append]
        rfl
    · intro H3 p
      obtain ⟨S3, nD, hD⟩ := p
      have e : ((m.nums.map num).map V.str).length = m.nums.length := by rw [List.length_map, List.length_map]
      rw [e, List.take_length] at hD
      refine ⟨_, rfl, D, _, rfl, .inl (SqL.of hD), rfl, flat_ints _, _, rfl, ?_⟩
      rw [none_in]
      have hw3 := S3 _ _ (S2 _ _ hw)
      refine iteF ⟨_, rfl, 2, rfl, wa, _, rfl, SqL.of hw3, by decide, ?_, fun qa nq => ?_⟩
      · rw [step_evens, List.length_map]
        exact Nat.le_trans (evens_len m) (by decide)
      rw [step_evens]
      have S4 : Same H3 (upd H3 qa (.lst (m.evens.map V.str))) := Same.new nq
      have hq : upd H3 qa (.lst (m.evens.map V.str)) qa = some (.lst (m.evens.map V.str)) := upd_same
      generalize upd H3 qa (.lst (m.evens.map V.str)) = H4 at S4 hq ⊢
      exact ⟨_, rfl, qa, D, m, rfl, hq, S4 _ _ hD, ok, fun x dx H' s5 hx => k x dx H' ((((S1.trans S2).trans S3).trans S4).trans s5) hx⟩
end
end V3

set_option Elab.async false
set_option linter.all false
set_option maxRecDepth 100000
namespace V3
open PySem L2 TL
/-! read_moves -/
def MvsAt (c : Cl) (H : Hp) : List V → List Mv → Prop
  | [], [] => True
  | x :: xs, m :: ms => MvAt c H x m ∧ MvsAt c H xs ms
  | _, _ => False
theorem MvsAt.same {c : Cl} {H H' : Hp} (s : Same H H') : ∀ {xs : List V} {ms : List Mv}, MvsAt c H xs ms → MvsAt c H' xs ms
  | [], [], _ => trivial
  | _ :: _, _ :: _, h => ⟨h.1.same s, MvsAt.same s h.2⟩
  | [], _ :: _, h => h.elim
  | _ :: _, [], h => h.elim
theorem MvsAt.snoc {c : Cl} {H : Hp} {x : V} {m : Mv} (hx : MvAt c H x m) : ∀ {xs : List V} {ms : List Mv}, MvsAt c H xs ms → MvsAt c H (xs ++ [x]) (ms ++ [m])
  | [], [], _ => ⟨hx, trivial⟩
  | _ :: _, _ :: _, h => ⟨h.1, MvsAt.snoc hx h.2⟩
  | [], _ :: _, h => h.elim
  | _ :: _, [], h => h.elim
theorem MvsAt.len {c : Cl} {H : Hp} : ∀ {xs : List V} {ms : List Mv}, MvsAt c H xs ms → xs.length = ms.length
  | [], [], _ => rfl
  | _ :: xs, _ :: ms, h => by rw [List.length_cons, List.length_cons, MvsAt.len h.2]
  | [], _ :: _, h => h.elim
  | _ :: _, [], h => h.elim
theorem MvAt.upd_lst {c : Cl} {H : Hp} {D : Addr} {o : HO} {ys : List V} {v : V} {m : Mv} (hD : H D = some (.lst ys)) (h : MvAt c H v m) : MvAt c (upd H D o) v m := by
  obtain ⟨x, dx, rfl, hx⟩ := h
  refine ⟨x, dx, rfl, ?_⟩
  have ne : x ≠ D := by
    intro e
    subst e
    rw [hx] at hD
    obtain ⟨fs, eo⟩ := mv_at c m dx
    rw [eo] at hD
    cases hD
  rw [upd_ne ne]
  exact hx
theorem MvsAt.upd_lst {c : Cl} {H : Hp} {D : Addr} {o : HO} {ys : List V} (hD : H D = some (.lst ys)) : ∀ {xs : List V} {ms : List Mv}, MvsAt c H xs ms → MvsAt c (upd H D o) xs ms
  | [], [], _ => trivial
  | _ :: _, _ :: _, h => ⟨h.1.upd_lst hD, MvsAt.upd_lst hD h.2⟩
  | [], _ :: _, h => h.elim
  | _ :: _, [], h => h.elim
def semi : Str := "; "
theorem semi_tl : tl semi = [59, 32] := by decide +kernel
def hText (ms : List Mv) : Str := Str.join semi (ms.map Mv.text)
theorem join_free {y : List Nat} {s : Nat} (hy : s ∉ y) : ∀ {l : List (List Nat)}, (∀ p ∈ l, s ∉ p) → s ∉ joinL y l
  | [], _ => fun z => nomatch z
  | [a], h => h a (List.mem_cons_self ..)
  | a :: b :: l, h => by
    have e : joinL y (a :: b :: l) = a ++ y ++ joinL y (b :: l) := by first | rfl | simp [joinL]
    rw [e]
    intro z
    rcases List.mem_append.mp z with z | z
    · rcases List.mem_append.mp z with z | z
      · exact h a (List.mem_cons_self ..) z
      · exact hy z
    · exact join_free hy (fun p hp => h p (List.mem_cons_of_mem _ hp)) z
theorem text_free {m : Mv} (h : m.ok) : 59 ∉ tl m.text := by
  unfold Mv.text
  rw [tl_join]
  refine join_free (by rw [sp_tl]; decide) fun p hp => ?_
  obtain ⟨z, hz, rfl⟩ := List.mem_map.mp hp
  exact (words_free h z hz).2
theorem split_texts {ms : List Mv} (hne : ms ≠ []) (h : ∀ m ∈ ms, m.ok) : Txt.split (hText ms) semi = ms.map Mv.text := by
  unfold hText
  have z := split_join semi_tl (by decide +kernel) (parts := ms.map Mv.text) (fun e => hne (List.map_eq_nil_iff.mp e)) fun p hp => by
    obtain ⟨m, hm, rfl⟩ := List.mem_map.mp hp
    exact text_free (h m hm)
  rw [join_eq] at z
  exact z
theorem joinL_len {y : List Nat} {k : Nat} : ∀ {l : List (List Nat)}, (∀ p ∈ l, p.length ≤ k) → (joinL y l).length ≤ l.length * (k + y.length)
  | [], _ => by simp [joinL]
  | [a], h => by
    have z := h a (List.mem_cons_self ..)
    have e : joinL y [a] = a := by first | rfl | simp [joinL]
    rw [e, List.length_singleton]
    omega
  | a :: b :: l, h => by
    have e : joinL y (a :: b :: l) = a ++ y ++ joinL y (b :: l) := by first | rfl | simp [joinL]
    have z := h a (List.mem_cons_self ..)
    have ih := joinL_len (y := y) (k := k) (l := b :: l) fun p hp => h p (List.mem_cons_of_mem _ hp)
    rw [e, List.length_append, List.length_append, List.length_cons, Nat.succ_mul]
    omega
theorem hText_len {ms : List Mv} (h : ∀ m ∈ ms, m.ok) (n : ms.length ≤ 1000) : (hText ms).length ≤ 5002000 := by
  unfold hText
  rw [len_tl, tl_join]
  have z := joinL_len (y := tl semi) (k := 5000) (l := (ms.map Mv.text).map tl) fun p hp => by
    obtain ⟨q, hq, rfl⟩ := List.mem_map.mp hp
    obtain ⟨m, hm, rfl⟩ := List.mem_map.mp hq
    rw [← len_tl]
    exact text_len (h m hm)
  have e : (tl semi).length = 2 := by rw [semi_tl]; rfl
  rw [e, List.length_map, List.length_map] at z
  exact Nat.le_trans z (by omega)
theorem text_pos {m : Mv} : 0 < m.text.length := by
  rw [len_tl]
  unfold Mv.text
  rw [tl_join]
  have k : ∀ (a : List Nat) (l : List (List Nat)), a.length ≤ (joinL (tl sp1) (a :: l)).length := fun a l => by
    cases l with
    | nil => exact Nat.le_of_eq (by first | rfl | simp [joinL])
    | cons b l =>
      have e : joinL (tl sp1) (a :: b :: l) = a ++ tl sp1 ++ joinL (tl sp1) (b :: l) := by first | rfl | simp [joinL]
      rw [e, List.length_append, List.length_append]
      omega
  have e1 : 0 < (tl "begin").length := by decide +kernel
  have e2 : 0 < (tl "take").length := by decide +kernel
  have e3 : 0 < (tl "right").length := by decide +kernel
  have e4 : 0 < (tl "shut").length := by decide +kernel
  cases m with
  | beg a => exact Nat.lt_of_lt_of_le e1 (k _ _)
  | take t => exact Nat.lt_of_lt_of_le e2 (k _ _)
  | takeBy t a => exact Nat.lt_of_lt_of_le e2 (k _ _)
  | right t a => exact Nat.lt_of_lt_of_le e3 (k _ _)
  | shut => exact Nat.lt_of_lt_of_le e4 (k _ _)
theorem hText_pos {ms : List Mv} (hne : ms ≠ []) : (hText ms).length ≠ 0 := by
  cases ms with
  | nil => exact absurd rfl hne
  | cons m l =>
    have z := @text_pos m
    rw [len_tl] at z
    unfold hText
    rw [len_tl, tl_join]
    cases l with
    | nil =>
      have e : joinL (tl semi) ([Mv.text m].map tl) = tl m.text := by first | rfl | simp [joinL]
      show (joinL (tl semi) ([Mv.text m].map tl)).length ≠ 0
      rw [e]
      omega
    | cons b l =>
      have e : joinL (tl semi) (((m :: b :: l).map Mv.text).map tl) = tl m.text ++ tl semi ++ joinL (tl semi) (((b :: l).map Mv.text).map tl) := by first | rfl | simp [joinL]
      rw [e, List.length_append, List.length_append]
      omega
def spRMs (c : Cl) : Sp := fun vs H Q _ => ∃ ms : List Mv, vs = [.str (hText ms)] ∧ (∀ m ∈ ms, m.ok) ∧ ms.length ≤ 1000 ∧ ∀ (D : Addr) (xs : List V) (H' : Hp), Same H H' → H' D = some (.lst xs) → MvsAt c H' xs ms → Q (.ref D) H'
theorem set_ne' {σ : L2.St} {i j : Nat} {v : Option V} (h : i ≠ j) : (σ.set i v)[j]? = σ[j]? := List.getElem?_set_ne h
theorem set_eq' {σ : L2.St} {i : Nat} {v : Option V} (h : i < σ.length) : (σ.set i v)[i]? = some v := by
  rw [List.getElem?_set_self h]
section
variable {P : Program} {w : World} {K : PySem.W.Frag} {mg : Str → Option Value} {base : Heap}
abbrev CalReadMove (P : Program) (w : World) (K : PySem.W.Frag) (mg : Str → Option Value) (base : Heap) (c : Cl) : Prop := Cal P w K mg base CX0 "read_move" 7 ["text"] (spRM c)
theorem scReadMoves : FnScope ["text", "moves", "parts", "at", "part", "move"] ["text"] (defScope sReadMoves) := ⟨rfl, rfl, rfl, by decide +kernel, rfl, by decide +kernel, by decide +kernel⟩
/-- what the loop keeps -/
def RdI (c : Cl) (H : Hp) (ms : List Mv) (D p : Addr) (i : Nat) (σ : L2.St) (Hh : Hp) : Prop := σ.length = 6 ∧ σ[1]? = some (some (.ref D)) ∧ Same H Hh ∧ H D = none ∧ p ≠ D ∧ Hh p = some (.lst ((ms.map Mv.text).map V.str)) ∧ ∃ xs, Hh D = some (.lst xs) ∧ MvsAt c Hh xs (ms.take i)
theorem read_loop {c : Cl} {ms : List Mv} {H H2 : Hp} {D p : Addr} {σ : L2.St} {Q : VK} {nx : L2.St → Hp → Prop} (l6 : σ.length = 6) (hd : σ[1]? = some (some (.ref D))) (hp2 : σ[2]? = some (some (.ref p))) (S : Same H H2) (nD : H D = none) (pD : p ≠ D)
    (hp : H2 p = some (.lst ((ms.map Mv.text).map V.str))) (hD : H2 D = some (.lst [])) (ok : ∀ m ∈ ms, m.ok) (n : ms.length ≤ 1000)
    (k : ∀ (D : Addr) (xs : List V) (H' : Hp), Same H H' → H' D = some (HO.lst xs) → MvsAt c H' xs ms → Q (V.ref D) H') :
    tSeq (tFor (iEnum K (tCons (tVar 2) tNil)) (gTup K 2 (gCons (gName 3) (gCons (gName 4) gNil)))
        (tSeq (tAsg (tCall (spRM c) [] (fun _ _ _ => False) (tCons (tVar 4) tNil)) (gName 5))
          (tSeq (tIfS (tTest (tOp (fun x y H Q => y = V.non ∧ Q (V.bl (decide (x = V.non))) H) (tVar 5) (tC V.non))) tNever tNext)
            (tDrop (tBM K "list" rAppend (tVar 1) (tCons (tVar 5) tNil))))))
      (tRet (tVar 1)) { nx := nx, rt := Q } σ H2 := by
  have lp : ((ms.map Mv.text).map V.str).length = ms.length := by rw [List.length_map, List.length_map]
  refine ⟨_, hp2, p, _, rfl, SqL.of hp, ?_⟩
  refine for_it (walk_enum (K := K) (a := p) (xs := (ms.map Mv.text).map V.str)) (RdI c H ms D p) ⟨l6, hd, S, nD, pD, hp, [], hD, trivial⟩ (fun i σ Hh _ q => SqL.of q.2.2.2.2.2.1) ?_ ?_
  · rintro i v σ1 Hh Hh' hi ⟨l6, hd, S, nD, pD, hp, xs, hD, mv⟩ ⟨T, x, y, rfl, nT, rfl, ex, ey⟩
    have ex := (Option.some.inj ex).symm
    subst ex
    rw [lp] at hi
    have hm : ms[i]? = some ms[i] := List.getElem?_eq_getElem hi
    have ey2 : y = .str (ms[i]).text := by
      dsimp only at ey
      rw [List.getElem?_map, List.getElem?_map, hm] at ey
      exact (Option.some.inj ey).symm
    subst ey2
    have okm : (ms[i]).ok := ok _ (List.getElem_mem hi)
    refine ⟨T, _, rfl, SqT.of upd_same, rfl, _, _, rfl, ⟨_, _, rfl, rfl, ?_⟩⟩
    have sT : Same Hh (upd Hh T (.tup [.int (i : Nat), .str (ms[i]).text])) := Same.new nT
    generalize upd Hh T (.tup [.int (i : Nat), .str (ms[i]).text]) = H3 at sT ⊢
    refine ⟨_, set_eq' (by rw [List.length_set]; omega), ms[i], rfl, okm, fun z dz H4 s4 hz => ?_⟩
    have S4 : Same Hh H4 := sT.trans s4
    refine ⟨_, set_eq' (by rw [List.length_set, List.length_set]; omega), rfl, _, rfl, ?_⟩
    rw [decide_eq_false (fun e => nomatch e)]
    refine iteF ?_
    have l1 : (((σ1.set 3 (some (V.int (i : Nat)))).set 4 (some (V.str (ms[i]).text))).set 5 (some (V.ref z)))[1]? = some (some (V.ref D)) := by
      rw [set_ne' (by decide), set_ne' (by decide), set_ne' (by decide)]
      exact hd
    have l5 : (((σ1.set 3 (some (V.int (i : Nat)))).set 4 (some (V.str (ms[i]).text))).set 5 (some (V.ref z)))[5]? = some (some (V.ref z)) := set_eq' (by rw [List.length_set, List.length_set]; omega)
    have ll : (((σ1.set 3 (some (V.int (i : Nat)))).set 4 (some (V.str (ms[i]).text))).set 5 (some (V.ref z))).length = 6 := by
      rw [List.length_set, List.length_set, List.length_set]
      exact l6
    have hD4 := S4 _ _ hD
    have mz : MvAt c H4 (.ref z) ms[i] := ⟨z, dz, rfl, hz⟩
    have le := mv.len
    rw [List.length_take] at le
    refine ⟨_, l1, .inl ⟨rfl, _, SqL.of hD4⟩, _, l5, D, xs, _, rfl, rfl, hD4, Nat.lt_of_le_of_lt (m := 1000) (by omega) (by decide), ?_⟩
    refine ⟨ll, l1, ?_, nD, pD, ?_, xs ++ [.ref z], upd_same, ?_⟩
    · intro a o e
      rw [upd_ne (ne_of_none e nD)]
      exact S4 _ _ (S _ _ e)
    · rw [upd_ne pD]
      exact S4 _ _ hp
    · rw [take_next' hm]
      exact MvsAt.snoc (mz.upd_lst hD4) ((mv.same S4).upd_lst hD4)
  · rintro σ1 Hh ⟨l6, hd, S, nD, pD, hp, xs, hD, mv⟩
    rw [lp, List.take_length] at mv
    exact ⟨_, hd, k D xs Hh S hD mv⟩
theorem ok_readMoves {f : Addr} {c : Cl} {fd : FuncData} (F : Fun K "read_moves" "read_moves" sReadMoves f fd) (cR : CalReadMove P w K mg base c) (ze : mg "enumerate" = none) : FnOk P w K mg base CX0 8 f fd ["text"] (spRMs c) := by
  obtain ⟨fR, fdR, GR, mR, kR, bR⟩ := cR
  refine F.ok scReadMoves (fun vs H Q E h => ?_) (fun cdv A outer s H vs Q E hr h => ?_)
  · obtain ⟨ms, rfl, _⟩ := h
    rfl
  · obtain ⟨ms, rfl, ok, n, k⟩ := h
    refine ⟨_, pss_cons (ps_set (i := 1) scReadMoves.nd rfl (Or.inl rfl) (pe_lst pa_nil))
      (pss_cons (ps_set (i := 2) scReadMoves.nd rfl (Or.inl rfl) (pe_ifExp (pt_truth (pv 0) (by intro _; rfl)) (pe_split (pv 0) pe_str) (pe_lst pa_nil)))
      (pss_cons (ps_for PassesOwn.never rfl (pi_enum (by rfl) ze (pa_cons (pv 2) pa_nil)) (pg_tup rfl (pgs_cons (pg_name (i := 3) scReadMoves.nd rfl (Or.inl rfl)) (pgs_cons (pg_name (i := 4) scReadMoves.nd rfl (Or.inl rfl)) pgs_nil)))
        (pss_cons (ps_set (i := 5) scReadMoves.nd rfl (Or.inl rfl) (pe_call (E := fun _ _ _ => False) GR hr rfl mR kR bR .nil pass0 (pa_cons (pv 4) pa_nil)))
        (pss_cons (ps_if (pt_cmpR op_isN (pv 5) pe_non (nomark _)) (pss_one ps_never) pss_nil)
        (pss_one (ps_expr (pe_bm PySem.F.plainAttrs_list PySem.F.slot_list_append PySem.F.type_list_append mt_append (pv 1) (pa_cons (pv 5) pa_nil)))))))
      (pss_one (ps_ret (pv 1))))), ?_⟩
    have tl_ := hText_len ok n
    refine ⟨?_, fun D nD => ?_⟩
    · show (0 : Nat) ≤ sizeLine
      exact Nat.zero_le _
    have hD : upd H D (.lst []) D = some (.lst []) := upd_same
    have S1 : Same H (upd H D (.lst [])) := Same.new nD
    generalize upd H D (.lst []) = H1 at S1 hD ⊢
    by_cases hms : ms = []
    · subst hms
      have e0 : (hText []).length = 0 := by decide +kernel
      refine ⟨_, rfl, false, ⟨Nat.le_trans tl_ (by decide), by rw [e0]; rfl⟩, iteF ⟨?_, fun p np => ?_⟩⟩
      · show (0 : Nat) ≤ sizeLine
        exact Nat.zero_le _
      exact read_loop (ms := []) rfl rfl rfl (S1.trans (Same.new np)) nD (Ne.symm (ne_of_none hD np)) upd_same (Same.new np _ _ hD) ok n k
    · refine ⟨_, rfl, true, ⟨Nat.le_trans tl_ (by decide), ?_⟩, iteT ⟨_, rfl, ⟨_, rfl⟩, _, semi, rfl, rfl, by decide +kernel, Nat.le_trans (Nat.add_le_add_right tl_ 2) (by decide), fun p np => ?_⟩⟩
      · have z := hText_pos hms
        first | exact (bne_iff_ne.mpr z).symm | simpa using z
      rw [split_texts hms ok]
      exact read_loop rfl rfl rfl (S1.trans (Same.new np)) nD (Ne.symm (ne_of_none hD np)) upd_same (Same.new np _ _ hD) ok n k
end
end V3

set_option Elab.async false
set_option linter.all false
set_option maxRecDepth 100000
namespace V3
open PySem L2 TL
abbrev sIsMoves : Stmt := top 16
abbrev sHInit : Stmt := inClass (top 15) 0
abbrev sHEq : Stmt := inClass (top 15) 6
abbrev sHStr : Stmt := inClass (top 15) 7
/-! histories -/
def hist (C dx q : Addr) : HO := .ins C dx [("moves", .ref q)]
def HiAt (c : Cl) (H : Hp) (v : V) (ms : List Mv) : Prop := ∃ x dx q xs, v = .ref x ∧ H x = some (hist c.Hi dx q) ∧ H q = some (.tup xs) ∧ MvsAt c H xs ms
theorem HiAt.same {c : Cl} {H H' : Hp} {v : V} {ms : List Mv} (h : HiAt c H v ms) (s : Same H H') : HiAt c H' v ms := by
  obtain ⟨x, dx, q, xs, e, hx, hq, mv⟩ := h
  exact ⟨x, dx, q, xs, e, s _ _ hx, s _ _ hq, mv.same s⟩
theorem MvsAt.at {c : Cl} {H : Hp} : ∀ {xs : List V} {ms : List Mv} {i : Nat} {x : V}, MvsAt c H xs ms → xs[i]? = some x → ∃ m, ms[i]? = some m ∧ MvAt c H x m
  | [], _, i, x, _, e => by simp at e
  | _ :: _, [], _, _, h, _ => h.elim
  | y :: ys, m :: ms, 0, x, h, e => ⟨m, rfl, by
    have e2 : y = x := Option.some.inj e
    subst e2
    exact h.1⟩
  | y :: ys, m :: ms, i + 1, x, h, e => MvsAt.at (xs := ys) (ms := ms) (i := i) h.2 e
structure BltH (mg : Str → Option Value) : Prop where
  isi : mg "isinstance" = none
  list : mg "list" = none
  tuple : mg "tuple" = none
  all : mg "all" = none
  str : mg "str" = none
def spIsMM (c : Cl) : Sp := fun vs H Q _ => ∃ (a : Addr) (xs : List V) (ms : List Mv), vs = [.ref a] ∧ H a = some (.lst xs) ∧ MvsAt c H xs ms ∧ ms.length ≤ 1000 ∧ ∀ H', Same H H' → Q (.bl true) H'
def spHIM (c : Cl) : Sp := fun vs H Q _ => ∃ (x dx a : Addr) (xs : List V) (ms : List Mv), vs = [.ref x, .ref a] ∧ H x = some (.ins c.Hi dx []) ∧ H a = some (.lst xs) ∧ MvsAt c H xs ms ∧ ms.length ≤ 1000 ∧
  ∀ (q : Addr) (H' : Hp), (∀ d o, d ≠ x → H d = some o → H' d = some o) → H' x = some (hist c.Hi dx q) → H' q = some (.tup xs) → Q .non H'
theorem all_tt : ∀ n : Nat, (List.replicate n (V.bl true)).all (fun v => v == .bl true) = true := by
  intro n
  induction n with
  | zero => rfl
  | succ n ih => rw [List.replicate_succ, List.all_cons, ih]; rfl
theorem rep_bl (n : Nat) : List.replicate n (V.bl true) = (List.replicate n true).map V.bl := by
  rw [List.map_replicate]
section
variable {P : Program} {w : World} {K : PySem.W.Frag} {mg : Str → Option Value} {base : Heap}
theorem kitAny_lt {K : PySem.W.Frag} : PySem.W.kitAny K (.type "list") [.type "list", .type "tuple"] = some true := by
  refine kitAny_cons (show PySem.W.kitOne K (.type "list") (.type "list") = some true from kit_ty (by decide +kernel)) (fun z => by cases z) (fun z => rfl)
theorem scIsMoves : FnScope ["value", "item"] ["value"] (defScope sIsMoves) := ⟨rfl, rfl, rfl, by decide +kernel, rfl, by decide +kernel, by decide +kernel⟩
theorem ok_isMovesM {f MV : Addr} {c : Cl} {fd : FuncData} (F : Fun K "is_moves" "is_moves" sIsMoves f fd) (T : BltH mg) (C : MvCls K c MV) (gM : mg "Move" = some (.ref MV)) : FnOk P w K mg base CX0 1 f fd ["value"] (spIsMM c) := by
  refine F.ok scIsMoves (fun vs H Q E h => ?_) (fun cdv A outer s H vs Q E hr h => ?_)
  · obtain ⟨a, xs, ms, rfl, _⟩ := h
    rfl
  · obtain ⟨a, xs, ms, rfl, ha, mv, n, k⟩ := h
    refine ⟨_, pss_one (ps_ret (pe_and (pe_callB call_isiT (by rfl) T.isi (by decide +kernel) (pa_cons (pv 0) (pa_cons (pe_tup (pa_cons (pe_bltn (v := .ty "list") (by rfl) T.list (by decide +kernel) rfl) (pa_cons (pe_bltn (v := .ty "tuple") (by rfl) T.tuple (by decide +kernel) rfl) pa_nil))) pa_nil)))
        (pe_one (pe_callB (cr_all rfl) (by rfl) T.all (by decide +kernel) (pa_cons (pe_lc (own := [("item", 1)]) (g := gName 1) (tt := tYes) (te := tCB (rIsi K) (tCons (tVar 1) (tCons (tC (.ref MV)) tNil))) (by rfl) scIsMoves.nd (pi_list (pv 0)) (blkOk_by (own := [("item", 1)]) (N := ["value", "item"]) (sc := defScope sIsMoves) (by decide +kernel)) (fun _ _ _ _ _ => pg_name (i := 1) scIsMoves.nd rfl (Or.inl rfl)) (fun _ _ _ _ _ => pts_nil)
          (fun _ _ _ _ _ => pe_callB call_isi (by rfl) T.isi (by decide +kernel) (pa_cons (pv 1) (pa_cons (pe_glob (v := .ref MV) rfl gM rfl) pa_nil)))) pa_nil))))), ?_⟩
    refine ⟨_, rfl, (by show 2 ≤ sizeLine; decide), fun tp ntp => ?_⟩
    have s1 : Same H (upd H tp (.tup [.ty "list", .ty "tuple"])) := Same.new ntp
    have ht : upd H tp (.tup [.ty "list", .ty "tuple"]) tp = some (.tup [.ty "list", .ty "tuple"]) := upd_same
    generalize upd H tp (.tup [.ty "list", .ty "tuple"]) = H1 at s1 ht ⊢
    have ha1 := s1 _ _ ha
    have mv1 := mv.same s1
    have lx := mv.len
    refine ⟨_, tp, _, _, _, _, rfl, ht, .cons (.ty "list") (.cons (.ty "tuple") .nil), .base (.lst ha1), kitAny_lt, _, rfl, iteT ?_⟩
    refine ⟨_, rfl, a, rfl, ⟨xs, SqL.of ha1⟩, fun D nD => ?_⟩
    refine lc_list (K := K) (a := a) (xs := xs) (fun i Hh => Same H1 Hh ∧ H1 D = none ∧ Hh D = some (.lst (List.replicate i (V.bl true)))) ⟨Same.new nD, nD, upd_same⟩ (fun i Hh _ p => SqL.of (p.1 _ _ ha1)) ?_ ?_
    · intro i z Hh hi p
      obtain ⟨m, hm, mz⟩ := mv1.at hi
      obtain ⟨y, dy, rfl, hy⟩ := mz.same p.1
      obtain ⟨fs, eo⟩ := mv_at c m dy
      obtain ⟨cl, ca, mr, ki⟩ := C.cl m.kind (kind_lt m)
      have il : i < xs.length := by
        by_cases q : i < xs.length
        · exact q
        · rw [List.getElem?_eq_none (by omega)] at hi
          cases hi
      refine ⟨rfl, ?_⟩
      unfold tYes
      dsimp only
      refine iteT ⟨_, rfl, _, _, _, _, _, rfl, .own MV, .base (.ins (by rw [hy, eo]) cl ca C.gn C.tk mr), ki, _, p.2.2, ?_, fun c o h => ?_, p.2.1, ?_⟩
      · rw [List.length_replicate]
        exact Nat.lt_of_lt_of_le (m := 1001) (by omega) (by decide)
      · rw [upd_ne (ne_of_none h p.2.1)]
        exact p.1 c o h
      · rw [upd_same, List.replicate_succ']
    · intro Hh p
      obtain ⟨s2, _, e⟩ := p
      refine ⟨D, List.replicate xs.length true, rfl, SqL.of (by rw [e, rep_bl]), ?_⟩
      have z : (List.replicate xs.length true).all id = true := by
        rw [List.all_eq_true]
        intro x hx
        rw [List.eq_of_mem_replicate hx]
        rfl
      rw [z]
      exact k _ (s1.trans s2)
abbrev CalIsMM (P : Program) (w : World) (K : PySem.W.Frag) (mg : Str → Option Value) (base : Heap) (c : Cl) : Prop := Cal P w K mg base CX0 "is_moves" 1 ["value"] (spIsMM c)
theorem scHInit : FnScope ["self", "moves"] ["self", "moves"] (defScope sHInit) := ⟨rfl, rfl, rfl, by decide +kernel, rfl, by decide +kernel, by decide +kernel⟩
theorem ok_hInitM {f : Addr} {c : Cl} {fd : FuncData} {dvs : List V} (F : FunD K "__init__" "History.__init__" (defArgs sHInit) (defBody sHInit) (defScope sHInit) dvs [] f fd) (cl : Cls K c.Hi) (nM : NoAttr K c.Hi "moves") (cI : CalIsMM P w K mg base c) (zt : mg "tuple" = none) :
    FnOk P w K mg base CX0 3 f fd ["self", "moves"] (spHIM c) := by
  obtain ⟨fA, fdA, GA, mA, kA, bA⟩ := cI
  refine F.ok scHInit (fun vs H Q E h => ?_) (fun cdv A outer s H vs Q E hr h => ?_)
  · obtain ⟨x, dx, a, xs, ms, rfl, _⟩ := h
    rfl
  · obtain ⟨x, dx, a, xs, ms, rfl, hx, ha, mv, n, q1⟩ := h
    refine ⟨_, pss_cons (ps_if (pt_not (pt_val (pe_call GA (hr.mono (by decide)) rfl mA kA bA .nil pass0 (pa_cons (pv 1) pa_nil)))) (pss_one ps_never) pss_nil)
      (pss_one (ps_fld (pv 0) (pe_callTy call_tuple_of (by rfl) zt (by decide +kernel) (pa_cons (pv 1) pa_nil)) rfl)), ?_⟩
    refine ⟨_, rfl, a, xs, ms, rfl, ha, mv, n, fun H1 s1 => ⟨_, rfl, ?_⟩⟩
    have hx1 := s1 _ _ hx
    refine iteF ⟨_, rfl, a, xs, rfl, .inl ⟨SqL.of (s1 _ _ ha), fun l nl => ?_⟩⟩
    have nxl : x ≠ l := ne_of_none hx1 nl
    refine ⟨_, rfl, x, c.Hi, dx, _, rfl, (by rw [upd_ne nxl]; exact hx1), cl, nM, (by show 0 < 1000; decide), ?_⟩
    refine q1 l _ (fun c o nc h => ?_) upd_same ?_
    · rw [upd_ne nc, upd_ne (ne_of_none (s1 _ _ h) nl)]
      exact s1 _ _ h
    · rw [upd_ne (Ne.symm nxl)]
      exact upd_same
end
end V3

set_option Elab.async false
set_option linter.all false
set_option maxRecDepth 100000
namespace V3
open PySem L2 TL
def spRead (c : Cl) : Sp := fun vs H Q _ => ∃ ms : List Mv, vs = [.ref c.Hi, .str (hText ms)] ∧ (∀ m ∈ ms, m.ok) ∧ ms.length ≤ 1000 ∧ ∀ v H', Same H H' → HiAt c H' v ms → Q v H'
def spHStr (c : Cl) : Sp := fun vs H Q _ => ∃ v ms, vs = [v] ∧ HiAt c H v ms ∧ (∀ m ∈ ms, m.ok) ∧ ms.length ≤ 1000 ∧ ∀ H', Same H H' → Q (.str (hText ms)) H'
def spHEq (c : Cl) : Sp := fun vs H Q _ => ∃ u v ms, vs = [u, v] ∧ HiAt c H u ms ∧ HiAt c H v ms ∧ (∀ m ∈ ms, m.ok) ∧ ∀ H', Same H H' → Q (.bl true) H'
/-- the two moves are the same -/
def DMv (c : Cl) : Eqv := fun x y H => ∃ m : Mv, MvAt c H x m ∧ MvAt c H y m ∧ m.ok
theorem mon_mv {c : Cl} : Mon (DMv c) := fun x y H H' e d => by
  obtain ⟨m, hx, hy, ok⟩ := d
  exact ⟨m, hx.same e, hy.same e, ok⟩
theorem prs_mv {c : Cl} {H : Hp} : ∀ {xs ys : List V} {ms : List Mv}, MvsAt c H xs ms → MvsAt c H ys ms → (∀ m ∈ ms, m.ok) → Prs (DMv c) xs ys H
  | [], [], [], _, _, _ => Prs.nil
  | x :: xs, y :: ys, m :: ms, h, h2, ok => Prs.cons ⟨m, h.1, h2.1, ok m (List.mem_cons_self ..)⟩ (prs_mv h.2 h2.2 fun m hm => ok m (List.mem_cons_of_mem _ hm))
  | [], _, _ :: _, h, _, _ => h.elim
  | _ :: _, _, [], h, _, _ => h.elim
  | _, [], _ :: _, _, h, _ => h.elim
  | _, _ :: _, [], _, h, _ => h.elim
structure EqTxt (P : Program) (w : World) (K : PySem.W.Frag) (mg : Str → Option Value) (base : Heap) (c : Cl) : Prop where
  e : ∀ k, k < 4 → ∃ (f : Addr) (fd : FuncData), FnOk P w K mg base CX0 4 f fd ["self", "other"] (spMEq c) ∧ EqCls K (c.at k) f ∧ Binds K fd ["self", "other"] []
section
variable {X : Cx} {c : Cl}
theorem rcG_mv (T : EqTxt X.prog X.w X.K X.mg X.base c) : RcG X 4 (DMv c) := by
  intro A pins s σ H x y u v sb I rx ry d
  obtain ⟨m, ⟨a, dx, rfl, ha⟩, ⟨b, dy, rfl, hb⟩, ok⟩ := d
  obtain ⟨f, fd, F, ec, bi⟩ := T.e m.kind (kind_lt m)
  obtain ⟨fs, eo⟩ := mv_at c m dx
  obtain ⟨gs, eo2⟩ := mv_at c m dy
  cases rx
  cases ry
  obtain ⟨mA, J, _⟩ := ins_get I.hok (ha.trans (congrArg some eo))
  obtain ⟨mB, J', _⟩ := ins_get I.hok (hb.trans (congrArg some eo2))
  obtain ⟨od, J, _⟩ := J.look
  obtain ⟨od', J', _⟩ := J'.look
  obtain ⟨mm, hF⟩ := I.fr
  refine PySem.W.cmp_K (op := .Eq) (tb := .ref (c.at m.kind)) sb.room.units0 hF I.ok.mod.kin J J'.type (by simp [PySem.W.notFirst]) ec.eq ec.fn ?_
  refine wpAny_mono (run_own (x := .ref a) (y := .ref b) (E := fun _ _ _ => False) (Q := fun v H' => v = .bl true ∧ H' = H) sb F bi pass0 I rfl rfl ⟨_, _, m, m, rfl, ⟨a, dx, rfl, ha⟩, ⟨b, dy, rfl, hb⟩, ok, ok, by rw [decide_eq_true rfl], rfl⟩) (fun w s' q => ?_) fun _ _ e => e
  obtain ⟨z, H', I', rz, ez, eH⟩ := q
  subst ez
  subst eH
  cases rz
  exact ⟨rfl, H', I', Ext.rfl'⟩
theorem eqG_mv (T : EqTxt X.prog X.w X.K X.mg X.base c) : EqG X 4 (DMv c) := (rcG_mv T).eqG fun _ _ _ d => by
  obtain ⟨m, ⟨a, dx, rfl, ha⟩, ⟨b, dy, rfl, hb⟩, ok⟩ := d
  exact ⟨a, b, rfl, rfl⟩
end
structure HiCls (K : PySem.W.Frag) (c : Cl) : Prop where
  cl : Cls K c.Hi
  nM : NoAttr K c.Hi "moves"
  ca : PySem.W.findIn K (.ref c.Hi) "__class__" = some (some (.builtin "object.__class__"))
  gn : PySem.W.specialIn K (.builtin "object.__class__") "__get__" = some (some (.builtin "getset_descriptor.__get__"))
  tk : PySem.W.takesIn K (.builtin "object.__class__") = some true
  mr : PySem.W.mroIn K c.Hi (.type "object") = some true
  ki : PySem.W.kitOne K (.ref c.Hi) (.ref c.Hi) = some true
section
variable {P : Program} {w : World} {K : PySem.W.Frag} {mg : Str → Option Value} {base : Heap}
theorem sum_texts : ∀ {ms : List Mv}, (∀ m ∈ ms, m.ok) → ((ms.map Mv.text).map (·.length)).sum ≤ ms.length * 5000
  | [], _ => Nat.le_refl _
  | m :: ms, h => by
    have ih := sum_texts (ms := ms) fun z hz => h z (List.mem_cons_of_mem _ hz)
    have z := text_len (h m (List.mem_cons_self ..))
    rw [List.map_cons, List.map_cons, List.sum_cons, List.length_cons, Nat.succ_mul]
    omega
theorem scHRead : FnScope ["cls", "text"] ["cls", "text"] (defScope sHRead) := ⟨rfl, rfl, rfl, by decide +kernel, rfl, by decide +kernel, by decide +kernel⟩
theorem scHStr : FnScope ["self", "move"] ["self"] (defScope sHStr) := ⟨rfl, rfl, rfl, by decide +kernel, rfl, by decide +kernel, by decide +kernel⟩
theorem scHEq : FnScope ["self", "other"] ["self", "other"] (defScope sHEq) := ⟨rfl, rfl, rfl, by decide +kernel, rfl, by decide +kernel, by decide +kernel⟩
abbrev CalReadMoves (P : Program) (w : World) (K : PySem.W.Frag) (mg : Str → Option Value) (base : Heap) (c : Cl) : Prop := Cal P w K mg base CX0 "read_moves" 8 ["text"] (spRMs c)
/-- History's making -/
structure HiTxt (P : Program) (w : World) (K : PySem.W.Frag) (mg : Str → Option Value) (base : Heap) (c : Cl) : Prop where
  g : mg "History" = some (.ref c.Hi)
  ini : ∃ (f : Addr) (fd : FuncData), FnOk P w K mg base CX0 3 f fd ["self", "moves"] (spHIM c) ∧ Mk K c.Hi f ∧ Binds K fd ["self", "moves"] []
theorem hi_made {c : Cl} {H H' : Hp} {x dx q : Addr} {xs : List V} {ms : List Mv} (nx : H x = none) (ndx : H dx = none) (mv : MvsAt c H xs ms) (s : ∀ d o, d ≠ x → upd (upd H dx (.own x)) x (.ins c.Hi dx []) d = some o → H' d = some o)
    (hx : H' x = some (hist c.Hi dx q)) (hq : H' q = some (.tup xs)) : Same H H' ∧ HiAt c H' (.ref x) ms := by
  have S : Same H H' := fun d o e => by
    have n1 := ne_of_none e nx
    refine s d o n1 ?_
    rw [upd_ne n1, upd_ne (ne_of_none e ndx)]
    exact e
  exact ⟨S, x, dx, q, xs, rfl, hx, hq, mv.same S⟩
theorem ok_hRead {f : Addr} {c : Cl} {fd : FuncData} (F : Fun K "read" "History.read" sHRead f fd) (cR : CalReadMoves P w K mg base c) (T : HiTxt P w K mg base c) : FnOk P w K mg base CX0 9 f fd ["cls", "text"] (spRead c) := by
  obtain ⟨fR, fdR, GR, mR, kR, bR⟩ := cR
  obtain ⟨fI, fdI, GI, MI, bI⟩ := T.ini
  refine F.ok scHRead (fun vs H Q E h => ?_) (fun cdv A outer s H vs Q E hr h => ?_)
  · obtain ⟨ms, rfl, _⟩ := h
    rfl
  · obtain ⟨ms, rfl, ok, n, k⟩ := h
    refine ⟨_, pss_one (ps_ret (pe_makeL (i := 0) (E := fun _ _ _ => False) MI GI (hr.mono (by decide)) rfl (Or.inl rfl) bI .nil pass0 (pa_cons (pe_call (E := fun _ _ _ => False) GR hr rfl mR kR bR .nil pass0 (pa_cons (pv 1) pa_nil)) pa_nil))), ?_⟩
    refine ⟨rfl, _, rfl, ms, rfl, ok, n, fun D xs H1 s1 hD mv x dx nx ndx ne => ⟨x, dx, D, xs, ms, rfl, upd_same, made_same nx ndx _ _ hD, mv.same (made_same nx ndx), n, fun q H' s hx hq => ⟨rfl, ?_⟩⟩⟩
    obtain ⟨S, hi⟩ := hi_made nx ndx mv s hx hq
    exact k _ H' (s1.trans S) hi
theorem ok_hStr {f : Addr} {c : Cl} {fd : FuncData} (F : Fun K "__str__" "History.__str__" sHStr f fd) (S : StrTxt P w K mg base c) (C : HiCls K c) (zs : mg "str" = none) : FnOk P w K mg base CX0 4 f fd ["self"] (spHStr c) := by
  refine F.ok scHStr (fun vs H Q E h => ?_) (fun cdv A outer s H vs Q E hr h => ?_)
  · obtain ⟨v, ms, rfl, _⟩ := h
    rfl
  · obtain ⟨v, ms, rfl, ⟨x, dx, q, xs, rfl, hx, hq, mv⟩, ok, n, k⟩ := h
    refine ⟨_, pss_one (ps_ret (pe_join pe_str (pe_lc (own := [("move", 1)]) (g := gName 1) (tt := tYes) (te := tCB (rStrM c) (tCons (tVar 1) tNil)) (by rfl) scHStr.nd (pi_tup (pe_fld (pv 0) rfl)) (blkOk_by (own := [("move", 1)]) (N := ["self", "move"]) (sc := defScope sHStr) (by decide +kernel)) (fun _ _ _ _ _ => pg_name (i := 1) scHStr.nd rfl (Or.inl rfl)) (fun _ _ _ _ _ => pts_nil)
          (fun _ _ _ _ _ => pe_callTy (call_strM S hr) (by rfl) zs (by decide +kernel) (pa_cons (pv 1) pa_nil))))), ?_⟩
    refine ⟨⟨_, rfl⟩, _, rfl, x, c.Hi, dx, _, _, rfl, hx, C.cl, C.nM, rfl, q, rfl, ⟨xs, SqT.of hq⟩, fun D nD => ?_⟩
    have lx := mv.len
    refine lc_tup (K := K) (a := q) (xs := xs) (fun i Hh => Same H Hh ∧ H D = none ∧ Hh D = some (.lst (((ms.take i).map Mv.text).map V.str))) ⟨Same.new nD, nD, upd_same⟩ (fun i Hh _ p => SqT.of (p.1 _ _ hq)) ?_ ?_
    · intro i z Hh hi p
      obtain ⟨m, hm, mz⟩ := mv.at hi
      refine ⟨rfl, ?_⟩
      unfold tYes
      dsimp only
      refine iteT ⟨_, rfl, _, m, rfl, mz.same p.1, ok m (List.mem_of_getElem? hm), _, p.2.2, ?_, fun c o h => ?_, p.2.1, ?_⟩
      · rw [List.length_map, List.length_map, List.length_take]
        exact Nat.lt_of_lt_of_le (m := 1001) (by omega) (by decide)
      · rw [upd_ne (ne_of_none h p.2.1)]
        exact p.1 c o h
      · rw [upd_same, take_next' hm, List.map_append, List.map_append]
        rfl
    · intro Hh p
      obtain ⟨s2, _, e⟩ := p
      rw [lx, List.take_length] at e
      refine ⟨semi, D, ms.map Mv.text, rfl, rfl, .inl (SqL.of e), ?_, ?_⟩
      · have z := sum_texts ok
        have e2 : (semi).length = 2 := by decide +kernel
        rw [e2, List.length_map]
        exact Nat.le_trans (Nat.add_le_add_right z _) (by omega)
      · rw [join_eq]
        exact k _ s2
theorem ok_hEq {f : Addr} {c : Cl} {fd : FuncData} (F : Fun K "__eq__" "History.__eq__" sHEq f fd) (T : EqTxt P w K mg base c) (C : HiCls K c) (zi : mg "isinstance" = none) (gH : mg "History" = some (.ref c.Hi)) : FnOk P w K mg base CX0 6 f fd ["self", "other"] (spHEq c) := by
  refine F.ok scHEq (fun vs H Q E h => ?_) (fun cdv A outer s H vs Q E hr h => ?_)
  · obtain ⟨u, v, ms, rfl, _⟩ := h
    rfl
  · obtain ⟨u, v, ms, rfl, ⟨x, dx, q, xs, rfl, hx, hq, mv⟩, ⟨x2, dx2, q2, xs2, rfl, hx2, hq2, mv2⟩, ok, k⟩ := h
    refine ⟨_, pss_one (ps_ret (pe_and (pe_callB call_isi (by rfl) zi (by decide +kernel) (pa_cons (pv 1) (pa_cons (pe_glob (v := .ref c.Hi) rfl gH rfl) pa_nil))) (pe_one (pe_cmpR (op_eqG (n := 5) (rcG_tup mon_mv (eqG_mv T)) hr) (pe_fld (pv 0) rfl) (pe_fld (pv 1) rfl) (nomark _))))), ?_⟩
    refine ⟨_, rfl, _, _, _, _, _, rfl, .own c.Hi, .base (.ins hx2 C.cl C.ca C.gn C.tk C.mr), C.ki, _, rfl, iteT ⟨_, rfl, x, c.Hi, dx, _, _, rfl, hx, C.cl, C.nM, rfl, _, rfl, x2, c.Hi, dx2, _, _, rfl, hx2, C.cl, C.nM, rfl, ⟨q, q2, xs, xs2, rfl, rfl, SqT.of hq, SqT.of hq2, prs_mv mv mv2 ok⟩, fun H' e => k H' e⟩⟩
end
end V3

set_option Elab.async false
set_option linter.all false
set_option maxRecDepth 100000
namespace V3
open PySem L2 TL PySem.Spec PyProof.Rows
abbrev sLaw : Stmt := top 31
/-! calls with keywords -/
theorem fun_kb {K : PySem.W.Frag} {x qual : Str} {st : Stmt} {f : Addr} {fd : FuncData} {ps : List Str} (F : Fun K x qual st f fd) (n : Nat) (ks : List Str) (g : {α : Type} → List α → List α → List α)
    (hrel : ∀ {vs zs : List V} {us ws : List Value}, Vals vs us → Vals zs ws → Vals (g vs zs) (g us ws))
    (h : ∀ (kV doc pm : Value) (an : Option Addr) (cdv ct : Value) (us ws : List Value), us.length = n → ws.length = ks.length → bindArgs (PySem.W.fnOf x qual (defArgs st) (defBody st) (defScope st) .none kV doc pm an cdv ct) ⟨us, ks.zip ws⟩ = pure (ps.zip (g us ws))) :
    KBn K fd ps n ks (fun us ws => g us ws) (fun vs zs => g vs zs) := by
  obtain ⟨oc, od, kV, doc, pm, an, cdv, ct, osl, rfl, lk, hcd⟩ := F.ex
  exact ⟨fun s us ws X l1 l2 => BindsTo.of_looks fun M => PySem.W.Looks.of_pure (h kV doc pm an cdv ct us ws l1 l2), fun r1 r2 => hrel r1 r2⟩
/-- C.m(k = v, ..), m a class method of the class at C -/
def tCMethK (C : Addr) (n : Nat) (sp : Sp) (gV : List V → List V → List V) (E : XK) (ta : TE) (tk : TA) : TE := fun σ H Q => ta σ H fun x H1 => x = .ref C ∧ tk σ H1 fun zs H2 => zs.length = n ∧ sp (gV [.ref C] zs) H2 Q E
section
variable {X : Cx} {CX : CXT} {k : Nat} {C p g : Addr} {mc : Value} {sp : Sp} {E : XK} {o : Expr} {m : Str} {pos apos : Pos} {ta tk : TA} {to : TE} {pl : Sem Bool} {fd : FuncData} {ps ks : List Str} {G : List Value → List Value → List Value} {gV : List V → List V → List V} {kws : List Keyword}
theorem run_cmK {pins : List (Addr × Obj)} {σ : L2.St} {H : Hp} {s : Shared} {Q : VK} {q : Addr} {ws : List Value} {zs : List V} (F : FnOk X.prog X.w X.K X.mg X.base CX k g fd ps sp) (hr : Room k X.A) (hb : KBn X.K fd ps 1 ks G gV) (hx : Passes CX X E)
    (I : Inv X ((q, PySem.W.methodObj (.ref g) (.ref C)) :: pins) σ H s) (r : Vals zs ws) (l : zs.length = ks.length) (h : sp (gV [.ref C] zs) H Q E) : wpAny (model X.prog X.w) X.A (call (.ref q) [] (ks.zip ws)) (EP X pins σ Q) X.xe s := by
  have z : wpAny (model X.prog X.w) X.A (call (.ref q) [] (ks.zip ws)) (EP X ((q, PySem.W.methodObj (.ref g) (.ref C)) :: pins) σ Q) X.xe s := by
    refine wpAny_call (PySem.W.method_call (ClX.pin_at I) (codeAny_mono (F.run X.A X.stack s H ⟨[.ref C], ks.zip ws⟩ (G [.ref C] ws) (gV [.ref C] zs) Q E hr I.env0 (hb.to s [.ref C] ws I.kIn rfl (r.length.symm.trans l)) (hb.rel (.cons rfl .nil) r) h) fun res s' hq => ?_))
    cases res with
    | error e => exact hx _ σ H s e s' I hq
    | ok fl =>
      cases fl with
      | ret u => exact I.after hq
      | next => exact False.elim hq
      | brk => exact False.elim hq
      | cont => exact False.elim hq
  exact thn z fun _ _ y => ClX.unpinE y
theorem pe_cmethK (he : PE X o to) (r : ClX.CRead X.K C mc) (c : ClX.CMet X.K C mc m p g) (F : FnOk X.prog X.w X.K X.mg X.base CX k g fd ps sp) (hb : KBn X.K fd ps 1 ks G gV) (hr : Room k X.A) (hx : Passes CX X E) (hkw : PK X kws tk)
    (hall : (backToKw pos (keywordEach kws X.env)).all (·.1.isSome) = true := by rfl) (hks : (backToKw pos (keywordEach kws X.env)).filterMap (·.1) = ks := by rfl)
    (hpl : ((backTo pos (starEach [] X.env)).any (·.1) || (backToKw pos (keywordEach kws X.env)).any (·.1.isNone)) = false := by rfl)
    (ht : eval (.Call (.Attribute o m apos) [] kws pos) X.env = (do
      let ov ← eval o X.env
      standAt apos.atName
      let (f, first) ← holding [ov] (getMethod ov m pl)
      callWith pos f first (backTo pos (starEach [] X.env)) (backToKw pos (keywordEach kws X.env))) := by rfl) :
    PE X (.Call (.Attribute o m apos) [] kws pos) (tCMethK C ks.length sp gV E to tk) := by
  refine ⟨fun pins s σ H Q I h => ?_⟩
  refine PySem.W.methodCall_KW (pl := pl) (thn (he.run pins s σ H _ I h) fun u s1 ⟨x, H1, I1, rx, ex, q⟩ => ?_) ht
  subst ex
  obtain rfl : u = Value.ref C := rx
  refine ClX.getmethcm_ok I1 r c fun s2 I2 => ?_
  refine PySem.W.callWith_of hpl (PySem.W.keeps_M c.fi) (evalArgs_kw2_nil hall (thn (hkw.run pos _ s2 σ H1 _ I2 q) fun ws s3 ⟨zs, H2, I3, rz, l, q2⟩ => ⟨⟨ClX.pin_at I3, I3.kIn⟩, ?_⟩))
  rw [hks]
  exact run_cmK F hr hb hx I3 rz l q2
end
end V3

set_option Elab.async false
set_option linter.all false
set_option maxRecDepth 100000
namespace V3
open PySem L2 TL
/-! the law -/
/-- what is made: a move -/
theorem mk_beg {c : Cl} {CM y dy : Addr} {H : Hp} {a : Int} {R : VK} {E : XK} (ok : Amt a) (ny : H y = none) (ndy : H dy = none) (k : ∀ H', Same H H' → MvAt c H' (.ref y) (.beg a) → R .non H') :
    spBegin c.B CM [.ref y, .int a] (upd (upd H dy (.own y)) y (.ins c.B dy [])) R E := by
  obtain ⟨a1, a2⟩ := ok
  exact ⟨y, dy, .int a, rfl, upd_same, .int _ (by omega), fun _ => k _ (made_same2 ny ndy) ⟨y, dy, rfl, upd_same⟩, fun e => absurd (num_yes a1) (by rw [e]; decide)⟩
theorem mk_take {c : Cl} {CM y dy : Addr} {H : Hp} {t : Int} {R : VK} {E : XK} (ok : V3.Idx t) (ny : H y = none) (ndy : H dy = none) (k : ∀ H', Same H H' → MvAt c H' (.ref y) (.take t) → R .non H') :
    spTake c.T CM [.ref y, .int t, .non] (upd (upd H dy (.own y)) y (.ins c.T dy [])) R E := by
  obtain ⟨t1, t2⟩ := ok
  exact ⟨y, dy, .int t, .non, rfl, upd_same, .int _ (by omega), .non, fun _ _ => k _ (made_same2 ny ndy) ⟨y, dy, rfl, upd_same⟩, fun e => absurd (num_yes t1) (by rw [e]; decide), fun _ c => absurd rfl c⟩
theorem mk_takeBy {c : Cl} {CM y dy : Addr} {H : Hp} {t a : Int} {R : VK} {E : XK} (ot : V3.Idx t) (oa : Amt a) (ny : H y = none) (ndy : H dy = none) (k : ∀ H', Same H H' → MvAt c H' (.ref y) (.takeBy t a) → R .non H') :
    spTake c.T CM [.ref y, .int t, .int a] (upd (upd H dy (.own y)) y (.ins c.T dy [])) R E := by
  obtain ⟨t1, t2⟩ := ot
  obtain ⟨a1, a2⟩ := oa
  exact ⟨y, dy, .int t, .int a, rfl, upd_same, .int _ (by omega), .int _ (by omega), fun _ _ => k _ (made_same2 ny ndy) ⟨y, dy, rfl, upd_same⟩, fun e => absurd (num_yes t1) (by rw [e]; decide), fun _ _ e => absurd (num_yes a1) (by rw [e]; decide)⟩
theorem mk_right {c : Cl} {CM y dy : Addr} {H : Hp} {t a : Int} {R : VK} {E : XK} (ot : V3.Idx t) (oa : Amt a) (ny : H y = none) (ndy : H dy = none) (k : ∀ H', Same H H' → MvAt c H' (.ref y) (.right t a) → R .non H') :
    spRight c.R CM [.ref y, .int t, .int a] (upd (upd H dy (.own y)) y (.ins c.R dy [])) R E := by
  obtain ⟨t1, t2⟩ := ot
  obtain ⟨a1, a2⟩ := oa
  exact ⟨y, dy, .int t, .int a, rfl, upd_same, .int _ (by omega), .int _ (by omega), fun _ _ => k _ (made_same2 ny ndy) ⟨y, dy, rfl, upd_same⟩, fun e => absurd (num_yes t1) (by rw [e]; decide), fun _ e => absurd (num_yes a1) (by rw [e]; decide)⟩
theorem mk_shut {c : Cl} {y dy : Addr} {H : Hp} {Q : VK} (k : ∀ v H', Same H H' → MvAt c H' v .shut → Q v H') (ny : H y = none) (ndy : H dy = none) : Q (.ref y) (upd (upd H dy (.own y)) y (.ins c.S dy [])) :=
  k _ _ (made_same ny ndy) ⟨y, dy, rfl, upd_same⟩
theorem mk_hist {c : Cl} {y dy a : Addr} {H : Hp} {xs : List V} {ms : List Mv} {R : VK} {E : XK} (ha : H a = some (.lst xs)) (mv : MvsAt c H xs ms) (n : ms.length ≤ 1000) (ny : H y = none) (ndy : H dy = none) (k : ∀ H', Same H H' → HiAt c H' (.ref y) ms → R .non H') :
    spHIM c [.ref y, .ref a] (upd (upd H dy (.own y)) y (.ins c.Hi dy [])) R E :=
  ⟨y, dy, a, xs, ms, rfl, upd_same, made_same ny ndy _ _ ha, mv.same (made_same ny ndy), n, fun q H' s hx hq => by
    obtain ⟨S, hi⟩ := hi_made ny ndy mv s hx hq
    exact k _ S hi⟩
/-- a pair of the same moves -/
def Prd (c : Cl) (H : Hp) (v : V) (m : Mv) : Prop := ∃ t x y, v = .ref t ∧ H t = some (.tup [x, y]) ∧ MvAt c H x m ∧ MvAt c H y m
theorem Prd.same {c : Cl} {H H' : Hp} {v : V} {m : Mv} (h : Prd c H v m) (s : Same H H') : Prd c H' v m := by
  obtain ⟨t, x, y, e, ht, hx, hy⟩ := h
  exact ⟨t, x, y, e, s _ _ ht, hx.same s, hy.same s⟩
theorem Prd.upd_lst {c : Cl} {H : Hp} {D : Addr} {o : HO} {ys : List V} {v : V} {m : Mv} (hD : H D = some (.lst ys)) (h : Prd c H v m) : Prd c (upd H D o) v m := by
  obtain ⟨t, x, y, e, ht, hx, hy⟩ := h
  have ne : t ≠ D := by
    intro z
    subst z
    rw [ht] at hD
    cases hD
  exact ⟨t, x, y, e, by rw [upd_ne ne]; exact ht, hx.upd_lst hD, hy.upd_lst hD⟩
def PrsAt (c : Cl) (H : Hp) : List V → List Mv → Prop
  | [], [] => True
  | x :: xs, m :: ms => Prd c H x m ∧ PrsAt c H xs ms
  | _, _ => False
theorem PrsAt.same {c : Cl} {H H' : Hp} (s : Same H H') : ∀ {xs : List V} {ms : List Mv}, PrsAt c H xs ms → PrsAt c H' xs ms
  | [], [], _ => trivial
  | _ :: _, _ :: _, h => ⟨h.1.same s, PrsAt.same s h.2⟩
  | [], _ :: _, h => h.elim
  | _ :: _, [], h => h.elim
theorem PrsAt.len {c : Cl} {H : Hp} : ∀ {xs : List V} {ms : List Mv}, PrsAt c H xs ms → xs.length = ms.length
  | [], [], _ => rfl
  | _ :: xs, _ :: ms, h => by rw [List.length_cons, List.length_cons, PrsAt.len h.2]
  | [], _ :: _, h => h.elim
  | _ :: _, [], h => h.elim
theorem PrsAt.at {c : Cl} {H : Hp} : ∀ {xs : List V} {ms : List Mv} {i : Nat} {x : V}, PrsAt c H xs ms → xs[i]? = some x → ∃ m, ms[i]? = some m ∧ Prd c H x m
  | [], _, i, x, _, e => by simp at e
  | _ :: _, [], _, _, h, _ => h.elim
  | y :: ys, m :: ms, 0, x, h, e => ⟨m, rfl, by
    have e2 : y = x := Option.some.inj e
    subst e2
    exact h.1⟩
  | y :: ys, m :: ms, i + 1, x, h, e => PrsAt.at (xs := ys) (ms := ms) (i := i) h.2 e
/-- how a class is made by a call with keywords -/
structure MkKw (P : Program) (w : World) (K : PySem.W.Frag) (mg : Str → Option Value) (base : Heap) (CX : CXT) (ps : List Str) (C : Addr) (sp : Sp) (ks : List Str) (gV : List V → List V → List V) : Prop where
  ex : ∃ (f : Addr) (fd : FuncData) (g : List Value → List Value → List Value), FnOk P w K mg base CX 4 f fd ps sp ∧ Mk K C f ∧ KBn K fd ps 1 ks g gV
/-- the classes whose == is told -/
def FFm (c : Cl) : Addr → Sp → XK → Prop := fun C sp _ => ∃ k, k < 4 ∧ C = c.at k ∧ sp = spMEq c
def FFh (c : Cl) : Addr → Sp → XK → Prop := fun C sp _ => C = c.Hi ∧ sp = spHEq c
structure HiEq (P : Program) (w : World) (K : PySem.W.Frag) (mg : Str → Option Value) (base : Heap) (c : Cl) : Prop where
  e : ∃ (f : Addr) (fd : FuncData), FnOk P w K mg base CX0 6 f fd ["self", "other"] (spHEq c) ∧ EqCls K c.Hi f ∧ Binds K fd ["self", "other"] []
structure HiStr (P : Program) (w : World) (K : PySem.W.Frag) (mg : Str → Option Value) (base : Heap) (c : Cl) : Prop where
  s : ∃ (f : Addr) (fd : FuncData), FnOk P w K mg base CX0 4 f fd ["self"] (spHStr c) ∧ PySem.W.findIn K (.ref c.Hi) "__str__" = some (some (.ref f)) ∧ PySem.W.isFn K (.ref f) = true ∧ Binds K fd ["self"] []
structure HiRead (P : Program) (w : World) (K : PySem.W.Frag) (mg : Str → Option Value) (base : Heap) (c : Cl) : Prop where
  r : ∃ (mc : Value) (p f : Addr) (fd : FuncData) (g : List Value → List Value → List Value), ClX.CRead K c.Hi mc ∧ ClX.CMet K c.Hi mc "read" p f ∧ FnOk P w K mg base CX0 9 f fd ["cls", "text"] (spRead c) ∧ KBn K fd ["cls", "text"] 1 ["text"] g (fun vs zs => vs ++ zs)
theorem op_neM {X : Cx} {c : Cl} (T : EqTxt X.prog X.w X.K X.mg X.base c) (hr : Room 5 X.A) : OpR X (compareOp .NotEq) (rEqO X.K 4 (FFm c) true) := op_neO (fun C sp E h => by
  obtain ⟨k, hk, rfl, rfl⟩ := h
  obtain ⟨f, fd, F, ec, bi⟩ := T.e k hk
  exact ⟨CX0, f, fd, _, F, ec, bi, fun _ _ _ _ _ _ _ h => h.elim⟩) hr
theorem op_neH {X : Cx} {c : Cl} (T : HiEq X.prog X.w X.K X.mg X.base c) (hr : Room 7 X.A) : OpR X (compareOp .NotEq) (rEqO X.K 6 (FFh c) true) := op_neO (fun C sp E h => by
  obtain ⟨rfl, rfl⟩ := h
  obtain ⟨f, fd, F, ec, bi⟩ := T.e
  exact ⟨CX0, f, fd, _, F, ec, bi, fun _ _ _ _ _ _ _ h => h.elim⟩) hr
/-- str(h), h a history -/
def rStrH (c : Cl) : List V → Hp → VK → Prop := fun xs H Q => ∃ v ms, xs = [v] ∧ HiAt c H v ms ∧ (∀ m ∈ ms, m.ok) ∧ ms.length ≤ 1000 ∧ ∀ H', Same H H' → Q (.str (hText ms)) H'
theorem call_strH {X : Cx} {c : Cl} (T : HiStr X.prog X.w X.K X.mg X.base c) (room : Room 6 X.A) : CallR X (.type "str") (rStrH c) := by
  intro pins s σ H xs us Q I r h
  obtain ⟨v, ms, rfl, hi, ok, n, q⟩ := h
  obtain ⟨f, fd, G, at_, isf, bi⟩ := T.s
  obtain ⟨x, dx, t, ys, rfl, hx, ht, mv⟩ := id hi
  exact call_strO (E := fun _ _ _ => False) G at_ isf bi pass0 room pins s σ H _ us Q I r ⟨x, dx, _, rfl, hx, _, ms, rfl, hi, ok, n, fun H' s => ⟨_, rfl, q H' s⟩⟩
end V3

set_option Elab.async false
set_option linter.all false
set_option maxRecDepth 100000
namespace V3
open PySem L2 TL
theorem Same.upn {H H1 : Hp} {b : Addr} {o : HO} (s : Same H H1) (nb : H b = none) : Same H (upd H1 b o) := fun c u e => by
  rw [upd_ne (ne_of_none e nb)]
  exact s c u e
abbrev tgP (K : PySem.W.Frag) : TG := gTup K 2 (gCons (gName 6) (gCons (gName 7) gNil))
def rdA (K : PySem.W.Frag) (c : Cl) : TE := tLc (iList K (tVar 5)) (tgP K) (tOr (tTest (tOp (rEqO K 4 (FFm c) true) (tVar 6) (tVar 7))) (tTest (tOp rNe (tCB (rStrM c) (tCons (tVar 6) tNil)) (tCB (rStrM c) (tCons (tVar 7) tNil))))) (tC (.int 1)) [6, 7]
def rdB (K : PySem.W.Frag) (c : Cl) (j : Nat) : TE := tOp rCat (tLc (iList K (tVar 5)) (tgP K) tYes (tVar j) [6, 7]) (tLst (tCons (tNew c.S) tNil))
section
variable {K : PySem.W.Frag} {c : Cl} {s0 s1 s2 s3 s4 s6 s7 s8 : Option V} {H : Hp} {D : Addr} {vs : List V} {ms : List Mv} {MV : Addr}
/-- the pairs that differ: none -/
theorem lcA (C : MvCls K c MV) (hD : H D = some (.lst vs)) (pr : PrsAt c H vs ms) (ok : ∀ m ∈ ms, m.ok) {Q : VK} (k : ∀ R H', Same H H' → H' R = some (.lst []) → Q (.ref R) H') :
    rdA K c
      [s0, s1, s2, s3, s4, some (.ref D), s6, s7, s8] H Q := by
  refine ⟨_, rfl, D, rfl, ⟨vs, SqL.of hD⟩, fun R nR => ?_⟩
  refine lc_list (K := K) (a := D) (xs := vs) (fun i Hh => Same H Hh ∧ H R = none ∧ Hh R = some (.lst [])) ⟨Same.new nR, nR, upd_same⟩ (fun i Hh _ p => SqL.of (p.1 _ _ hD)) ?_ ?_
  · intro i v Hh hi p
    obtain ⟨m, hm, t, x, y, rfl, ht, hx, hy⟩ := pr.at hi
    have okm := ok m (List.mem_of_getElem? hm)
    have hx' := hx.same p.1
    have hy' := hy.same p.1
    obtain ⟨xa, dx, rfl, ex⟩ := id hx'
    obtain ⟨ya, dy, rfl, ey⟩ := id hy'
    obtain ⟨fs, eo⟩ := mv_at c m dx
    obtain ⟨gs, eo2⟩ := mv_at c m dy
    refine ⟨t, _, rfl, SqT.of (p.1 _ _ ht), rfl, _, _, rfl, _, _, rfl, rfl, rfl, ?_⟩
    refine ⟨_, rfl, _, rfl, xa, c.at m.kind, dx, fs, ya, c.at m.kind, dy, gs, spMEq c, E0, rfl, rfl, by rw [ex, eo], by rw [ey, eo2], ⟨m.kind, kind_lt m, rfl, rfl⟩, C.nf _ (kind_lt m) _ (kind_lt m), _, _, m, m, rfl, hx', hy', okm, okm, ?_⟩
    rw [decide_eq_true rfl]
    refine ⟨true, rfl, false, rfl, iteF ?_⟩
    refine ⟨_, rfl, _, m, rfl, hx', okm, _, rfl, _, m, rfl, hy', okm, rfl, _, rfl, ?_⟩
    rw [decide_eq_true rfl]
    exact iteF p
  · intro Hh p
    exact k R Hh p.1 p.2.2
/-- .. of one side, with a Shut behind -/
theorem catA (hD : H D = some (.lst vs)) (pr : PrsAt c H vs ms) (n : ms.length ≤ 900) {Q : VK} (k : ∀ p xs H', Same H H' → H' p = some (.lst xs) → MvsAt c H' xs (ms ++ [.shut]) → Q (.ref p) H') :
    rdB K c 6 [s0, s1, s2, s3, s4, some (.ref D), s6, s7, s8] H Q := by
  refine ⟨_, rfl, D, rfl, ⟨vs, SqL.of hD⟩, fun R nR => ?_⟩
  have lv := pr.len
  refine lc_list (K := K) (a := D) (xs := vs) (fun i Hh => Same H Hh ∧ H R = none ∧ ∃ xs, Hh R = some (.lst xs) ∧ MvsAt c Hh xs (ms.take i)) ⟨Same.new nR, nR, [], upd_same, trivial⟩ (fun i Hh _ p => SqL.of (p.1 _ _ hD)) ?_ ?_
  · intro i v Hh hi p
    obtain ⟨m, hm, t, x, y, rfl, ht, hx, hy⟩ := pr.at hi
    obtain ⟨sH, nR, xs, hR, mv⟩ := p
    have le := mv.len
    rw [List.length_take] at le
    refine ⟨t, _, rfl, SqT.of (sH _ _ ht), rfl, _, _, rfl, _, _, rfl, rfl, rfl, ?_⟩
    unfold tYes
    dsimp only
    refine iteT ⟨_, rfl, xs, hR, Nat.lt_of_le_of_lt (m := 1000) (by omega) (by decide), Same.upn sH nR, nR, xs ++ [_], upd_same, ?_⟩
    rw [take_next' hm]
    exact MvsAt.snoc ((hx.same sH).upd_lst hR) (mv.upd_lst hR)
  · intro Hh p
    obtain ⟨sH, nR, xs, hR, mv⟩ := p
    rw [lv, List.take_length] at mv
    have le := mv.len
    refine fun y dy ny ndy _ => ?_
    have sM : Same Hh (upd (upd Hh dy (.own y)) y (.ins c.S dy [])) := made_same ny ndy
    have sh : MvAt c (upd (upd Hh dy (.own y)) y (.ins c.S dy [])) (.ref y) .shut := ⟨y, dy, rfl, upd_same⟩
    refine ⟨(by show 1 ≤ sizeLine; decide), fun l nl => ?_⟩
    have sL := sM.trans (Same.new (o := .lst [.ref y]) nl)
    have sh2 := sh.same (Same.new (o := .lst [.ref y]) nl)
    refine ⟨R, l, xs, [.ref y], rfl, rfl, sL _ _ hR, upd_same, ?_, fun p np => ?_⟩
    · exact Nat.le_trans (m := 1000) (by rw [List.length_singleton]; omega) (by decide)
    · have sP := Same.new (o := .lst (xs ++ [.ref y])) np
      exact k p _ _ ((sH.trans sL).trans sP) upd_same (MvsAt.snoc (sh2.same sP) (mv.same (sL.trans sP)))
/-- .. of one side, with a Shut behind -/
theorem catB (hD : H D = some (.lst vs)) (pr : PrsAt c H vs ms) (n : ms.length ≤ 900) {Q : VK} (k : ∀ p xs H', Same H H' → H' p = some (.lst xs) → MvsAt c H' xs (ms ++ [.shut]) → Q (.ref p) H') :
    rdB K c 7 [s0, s1, s2, s3, s4, some (.ref D), s6, s7, s8] H Q := by
  refine ⟨_, rfl, D, rfl, ⟨vs, SqL.of hD⟩, fun R nR => ?_⟩
  have lv := pr.len
  refine lc_list (K := K) (a := D) (xs := vs) (fun i Hh => Same H Hh ∧ H R = none ∧ ∃ xs, Hh R = some (.lst xs) ∧ MvsAt c Hh xs (ms.take i)) ⟨Same.new nR, nR, [], upd_same, trivial⟩ (fun i Hh _ p => SqL.of (p.1 _ _ hD)) ?_ ?_
  · intro i v Hh hi p
    obtain ⟨m, hm, t, x, y, rfl, ht, hx, hy⟩ := pr.at hi
    obtain ⟨sH, nR, xs, hR, mv⟩ := p
    have le := mv.len
    rw [List.length_take] at le
    refine ⟨t, _, rfl, SqT.of (sH _ _ ht), rfl, _, _, rfl, _, _, rfl, rfl, rfl, ?_⟩
    unfold tYes
    dsimp only
    refine iteT ⟨_, rfl, xs, hR, Nat.lt_of_le_of_lt (m := 1000) (by omega) (by decide), Same.upn sH nR, nR, xs ++ [_], upd_same, ?_⟩
    rw [take_next' hm]
    exact MvsAt.snoc ((hy.same sH).upd_lst hR) (mv.upd_lst hR)
  · intro Hh p
    obtain ⟨sH, nR, xs, hR, mv⟩ := p
    rw [lv, List.take_length] at mv
    have le := mv.len
    refine fun y dy ny ndy _ => ?_
    have sM : Same Hh (upd (upd Hh dy (.own y)) y (.ins c.S dy [])) := made_same ny ndy
    have sh : MvAt c (upd (upd Hh dy (.own y)) y (.ins c.S dy [])) (.ref y) .shut := ⟨y, dy, rfl, upd_same⟩
    refine ⟨(by show 1 ≤ sizeLine; decide), fun l nl => ?_⟩
    have sL := sM.trans (Same.new (o := .lst [.ref y]) nl)
    have sh2 := sh.same (Same.new (o := .lst [.ref y]) nl)
    refine ⟨R, l, xs, [.ref y], rfl, rfl, sL _ _ hR, upd_same, ?_, fun p np => ?_⟩
    · exact Nat.le_trans (m := 1000) (by rw [List.length_singleton]; omega) (by decide)
    · have sP := Same.new (o := .lst (xs ++ [.ref y])) np
      exact k p _ _ ((sH.trans sL).trans sP) upd_same (MvsAt.snoc (sh2.same sP) (mv.same (sL.trans sP)))
theorem seqA (C : MvCls K c MV) (hD : H D = some (.lst vs)) (pr : PrsAt c H vs ms) (ok : ∀ m ∈ ms, m.ok) {A rest : TS} {D' : L2.Ends} (k : ∀ H', Same H H' → rest D' [s0, s1, s2, s3, s4, some (.ref D), s6, s7, s8] H') :
    tSeq (tIfS (tTest (tOp rNeE (rdA K c) (tLst tNil))) A tNext) rest D' [s0, s1, s2, s3, s4, some (.ref D), s6, s7, s8] H := by
  dsimp only [tSeq, tIfS, tTest, tOp]
  refine lcA C hD pr ok fun R H1 s1 hR => ⟨Nat.zero_le _, fun e ne => ?_⟩
  have sE := Same.new (o := .lst []) ne
  exact ⟨R, e, [], rfl, rfl, sE _ _ hR, upd_same, _, rfl, iteF (k _ (s1.trans sE))⟩
theorem seqB {h0 : ms.length ≤ 900} (hD : H D = some (.lst vs)) (pr : PrsAt c H vs ms) {rest : TS} {D' : L2.Ends} {E : XK} {gV : List V → List V → List V} (hg : ∀ x y, gV [x] [y] = [x, y])
    (k : ∀ h H', Same H H' → HiAt c H' (.ref h) (ms ++ [.shut]) → rest D' [s0, s1, s2, s3, s4, some (.ref D), s6, s7, some (.ref h)] H') :
    tSeq (tAsg (tMakeK c.Hi 0 1 (spHIM c) gV E tNil (tCons (rdB K c 6) tNil)) (gName 8)) rest D' [s0, s1, s2, s3, s4, some (.ref D), s6, s7, s8] H := by
  dsimp only [tSeq, tAsg, tMakeK, tNil, tCons]
  refine catA (c := c) hD pr h0 fun p xs H1 s1 hp mv => ⟨rfl, rfl, fun h1 d1 n1 m1 _ => ?_⟩
  rw [hg]
  refine mk_hist hp mv (by rw [List.length_append, List.length_singleton]; omega) n1 m1 fun H2 s2 hi => ⟨rfl, ?_⟩
  exact k h1 H2 (s1.trans s2) hi
theorem ifC {h : Addr} {h0 : ms.length ≤ 900} (nf : PySem.W.notFirst K c.Hi (.ref c.Hi) = true) (hD : H D = some (.lst vs)) (pr : PrsAt c H vs ms) (ok : ∀ m ∈ ms ++ [.shut], m.ok) (hi : HiAt c H (.ref h) (ms ++ [.shut])) {A : TS} {D' : L2.Ends} {E1 E2 : XK}
    (k : ∀ H', Same H H' → D'.nx [s0, s1, s2, s3, s4, some (.ref D), s6, s7, some (.ref h)] H') :
    tIfS (tOr (tTest (tOp (rEqO K 6 (FFh c) true) (tVar 8) (tMake c.Hi (spHIM c) [] E1 (tCons (rdB K c 7) tNil))))
      (tTest (tOp (rEqO K 6 (FFh c) true) (tCMethK c.Hi 1 (spRead c) (fun vs zs => vs ++ zs) E2 (tC (.ref c.Hi)) (tCons (tCB (rStrH c) (tCons (tVar 8) tNil)) tNil)) (tVar 8)))) A tNext D'
      [s0, s1, s2, s3, s4, some (.ref D), s6, s7, some (.ref h)] H := by
  have le : (ms ++ [Mv.shut]).length ≤ 1000 := by
    rw [List.length_append, List.length_singleton]
    omega
  have cmp : ∀ {u v : V} {H1 : Hp} {R : VK}, HiAt c H1 u (ms ++ [.shut]) → HiAt c H1 v (ms ++ [.shut]) → (∀ H2, Same H1 H2 → R (.bl false) H2) → rEqO K 6 (FFh c) true u v H1 R := by
    intro u v H1 R hu hv kk
    obtain ⟨x, dx, q, xs, rfl, hx, hq, mx⟩ := id hu
    obtain ⟨y, dy, q2, ys, rfl, hy, hq2, my⟩ := id hv
    exact ⟨x, c.Hi, dx, _, y, c.Hi, dy, _, spHEq c, E0, rfl, rfl, hx, hy, ⟨rfl, rfl⟩, nf, _, _, _, rfl, hu, hv, ok, fun H2 s => ⟨true, rfl, kk H2 s⟩⟩
  dsimp only [tIfS, tOr, tTest, tOp, tMake, tCons, tNil]
  refine ⟨_, rfl, ?_⟩
  refine catB (c := c) hD pr h0 fun p xs H1 s1 hp mv => fun h1 d1 n1 m1 _ => mk_hist hp mv le n1 m1 fun H2 s2 hi2 => ⟨rfl, ?_⟩
  have s3 := s1.trans s2
  refine cmp (hi.same s3) hi2 fun H3 s4 => ⟨false, rfl, iteF ?_⟩
  have s5 := s3.trans s4
  refine ⟨rfl, _, rfl, _, _, rfl, hi.same s5, ok, le, fun H4 s6 => ⟨rfl, _, rfl, ok, le, fun v H5 s7 hv => ⟨_, rfl, ?_⟩⟩⟩
  have s8 := (s5.trans s6).trans s7
  exact cmp hv (hi.same s8) fun H6 s9 => ⟨false, rfl, iteF (k _ (s8.trans s9))⟩
end
end V3

set_option Elab.async false
set_option linter.all false
set_option maxRecDepth 100000
namespace V3
open PySem L2 TL
abbrev sHLen : Stmt := inClass (top 15) 2
abbrev sHGet : Stmt := inClass (top 15) 3
abbrev sHAdd : Stmt := inClass (top 15) 5
/-! histories whose tuple may be a written one -/
/-- a tuple, tracked or written -/
def TupH (K : PySem.W.Frag) (H : Hp) (a : Addr) (xs : List V) : Prop := H a = some (.tup xs) ∨ ((∃ o, K.lookup a = some o ∧ o.cls = .type "tuple") ∧ ∀ H, SqT K H a xs)
theorem TupH.sq {K : PySem.W.Frag} {H : Hp} {a : Addr} {xs : List V} (h : TupH K H a xs) : SqT K H a xs := h.elim SqT.of fun z => z.2 H
theorem TupH.ty {K : PySem.W.Frag} {H : Hp} {a : Addr} {xs : List V} (h : TupH K H a xs) : TyX K H (.ref a) (.type "tuple") := by
  rcases h with h | ⟨⟨o, e, c⟩, _⟩
  · exact .base (.tup h)
  · exact .kTuple e c
theorem TupH.same {K : PySem.W.Frag} {H H' : Hp} {a : Addr} {xs : List V} (h : TupH K H a xs) (s : Same H H') : TupH K H' a xs := h.elim (fun z => .inl (s _ _ z)) .inr
def HiK (K : PySem.W.Frag) (c : Cl) (H : Hp) (v : V) (ms : List Mv) : Prop := ∃ x dx q xs, v = .ref x ∧ H x = some (hist c.Hi dx q) ∧ TupH K H q xs ∧ MvsAt c H xs ms
theorem HiK.same {K : PySem.W.Frag} {c : Cl} {H H' : Hp} {v : V} {ms : List Mv} (h : HiK K c H v ms) (s : Same H H') : HiK K c H' v ms := by
  obtain ⟨x, dx, q, xs, e, hx, hq, mv⟩ := h
  exact ⟨x, dx, q, xs, e, s _ _ hx, hq.same s, mv.same s⟩
theorem HiK.of {K : PySem.W.Frag} {c : Cl} {H : Hp} {v : V} {ms : List Mv} (h : HiAt c H v ms) : HiK K c H v ms := by
  obtain ⟨x, dx, q, xs, e, hx, hq, mv⟩ := h
  exact ⟨x, dx, q, xs, e, hx, .inl hq, mv⟩
theorem MvsAt.app {c : Cl} {H : Hp} : ∀ {xs ys : List V} {ms ns : List Mv}, MvsAt c H xs ms → MvsAt c H ys ns → MvsAt c H (xs ++ ys) (ms ++ ns)
  | [], _, [], _, _, h => h
  | [], _, _ :: _, _, h, _ => h.elim
  | _ :: _, _, [], _, h, _ => h.elim
  | x :: xs, ys, m :: ms, ns, h, k => ⟨h.1, MvsAt.app (xs := xs) (ms := ms) h.2 k⟩
theorem MvsAt.pick {c : Cl} {H : Hp} {xs : List V} {ms : List Mv} (h : MvsAt c H xs ms) : ∀ idx : List Nat, MvsAt c H (idx.filterMap fun i => xs[i]?) (idx.filterMap fun i => ms[i]?)
  | [] => True.intro
  | i :: idx => by
    have ih := MvsAt.pick h idx
    rw [List.filterMap_cons, List.filterMap_cons]
    cases e : xs[i]? with
    | none =>
      have l := List.getElem?_eq_none_iff.mp e
      have e2 : ms[i]? = none := List.getElem?_eq_none (by rw [← h.len]; exact l)
      rw [e2]
      exact ih
    | some x =>
      obtain ⟨m, em, a⟩ := h.at e
      rw [em]
      exact ⟨a, ih⟩
theorem MvsAt.step {c : Cl} {H : Hp} {xs : List V} {ms : List Mv} (h : MvsAt c H xs ms) (lo hi st : Option Int) : MvsAt c H (stepL xs lo hi st) (stepL ms lo hi st) := by
  unfold stepL
  rw [h.len]
  exact h.pick _
def spIsMT (K : PySem.W.Frag) (c : Cl) : Sp := fun vs H Q _ => ∃ (a : Addr) (xs : List V) (ms : List Mv), vs = [.ref a] ∧ TupH K H a xs ∧ MvsAt c H xs ms ∧ ms.length ≤ 1000 ∧ ∀ H', Same H H' → Q (.bl true) H'
def spHIT (K : PySem.W.Frag) (c : Cl) : Sp := fun vs H Q _ => ∃ (x dx a : Addr) (xs : List V) (ms : List Mv), vs = [.ref x, .ref a] ∧ H x = some (.ins c.Hi dx []) ∧ TupH K H a xs ∧ MvsAt c H xs ms ∧ ms.length ≤ 1000 ∧
  ∀ (H' : Hp), (∀ d o, d ≠ x → H d = some o → H' d = some o) → H' x = some (hist c.Hi dx a) → Q .non H'
def spHLenK (K : PySem.W.Frag) (c : Cl) : Sp := fun vs H Q _ => ∃ v ms, vs = [v] ∧ HiK K c H v ms ∧ Q (.int (ms.length : Int)) H
def spHGetK (K : PySem.W.Frag) (c : Cl) : Sp := fun vs H Q _ => ∃ (u : V) (p : Addr) (ms : List Mv) (lo hi st : Option Int), vs = [u, .ref p] ∧ HiK K c H u ms ∧ H p = some (SlH p lo hi st) ∧ st ≠ some 0 ∧ (stepL ms lo hi st).length ≤ 1000 ∧
  ∀ w H', Same H H' → HiK K c H' w (stepL ms lo hi st) → Q w H'
def spHAddH (K : PySem.W.Frag) (c : Cl) : Sp := fun vs H Q _ => ∃ u v ms ns, vs = [u, v] ∧ HiK K c H u ms ∧ HiK K c H v ns ∧ ms.length + ns.length ≤ 1000 ∧ ∀ w H', Same H H' → HiK K c H' w (ms ++ ns) → Q w H'
def spHAddM (K : PySem.W.Frag) (c : Cl) : Sp := fun vs H Q _ => ∃ u v ms m, vs = [u, v] ∧ HiK K c H u ms ∧ MvAt c H v m ∧ ms.length + 1 ≤ 1000 ∧ ∀ w H', Same H H' → HiK K c H' w (ms ++ [m]) → Q w H'
def spHStrK (K : PySem.W.Frag) (c : Cl) : Sp := fun vs H Q _ => ∃ v ms, vs = [v] ∧ HiK K c H v ms ∧ (∀ m ∈ ms, m.ok) ∧ ms.length ≤ 1000 ∧ ∀ H', Same H H' → Q (.str (hText ms)) H'
def spHEqK (K : PySem.W.Frag) (c : Cl) : Sp := fun vs H Q _ => ∃ u v ms ns, vs = [u, v] ∧ HiK K c H u ms ∧ HiK K c H v ns ∧ (∀ m ∈ ms, m.ok) ∧ (∀ m ∈ ns, m.ok) ∧ ∀ H', Same H H' → Q (.bl (decide (ms = ns))) H'
section
variable {P : Program} {w : World} {K : PySem.W.Frag} {mg : Str → Option Value} {base : Heap}
theorem kitAny_tt {K : PySem.W.Frag} : PySem.W.kitAny K (.type "tuple") [.type "list", .type "tuple"] = some true := by
  refine kitAny_cons (b := false) (show PySem.W.kitOne K (.type "tuple") (.type "list") = some false from kit_ty (by decide +kernel)) (fun _ => ?_) (fun z => by cases z)
  exact kitAny_cons (show PySem.W.kitOne K (.type "tuple") (.type "tuple") = some true from kit_ty (by decide +kernel)) (fun z => by cases z) fun z => rfl
theorem ok_isMovesT {f MV : Addr} {c : Cl} {fd : FuncData} (F : Fun K "is_moves" "is_moves" sIsMoves f fd) (T : BltH mg) (C : MvCls K c MV) (gM : mg "Move" = some (.ref MV)) : FnOk P w K mg base CX0 1 f fd ["value"] (spIsMT K c) := by
  refine F.ok scIsMoves (fun vs H Q E h => ?_) (fun cdv A outer s H vs Q E hr h => ?_)
  · obtain ⟨a, xs, ms, rfl, _⟩ := h
    rfl
  · obtain ⟨a, xs, ms, rfl, ha, mv, n, k⟩ := h
    refine ⟨_, pss_one (ps_ret (pe_and (pe_callB call_isiT (by rfl) T.isi (by decide +kernel) (pa_cons (pv 0) (pa_cons (pe_tup (pa_cons (pe_bltn (v := .ty "list") (by rfl) T.list (by decide +kernel) rfl) (pa_cons (pe_bltn (v := .ty "tuple") (by rfl) T.tuple (by decide +kernel) rfl) pa_nil))) pa_nil)))
        (pe_one (pe_callB (cr_all rfl) (by rfl) T.all (by decide +kernel) (pa_cons (pe_lc (own := [("item", 1)]) (g := gName 1) (tt := tYes) (te := tCB (rIsi K) (tCons (tVar 1) (tCons (tC (.ref MV)) tNil))) (by rfl) scIsMoves.nd (pi_tup (pv 0)) (blkOk_by (own := [("item", 1)]) (N := ["value", "item"]) (sc := defScope sIsMoves) (by decide +kernel)) (fun _ _ _ _ _ => pg_name (i := 1) scIsMoves.nd rfl (Or.inl rfl)) (fun _ _ _ _ _ => pts_nil)
          (fun _ _ _ _ _ => pe_callB call_isi (by rfl) T.isi (by decide +kernel) (pa_cons (pv 1) (pa_cons (pe_glob (v := .ref MV) rfl gM rfl) pa_nil)))) pa_nil))))), ?_⟩
    refine ⟨_, rfl, (by show 2 ≤ sizeLine; decide), fun tp ntp => ?_⟩
    have s1 : Same H (upd H tp (.tup [.ty "list", .ty "tuple"])) := Same.new ntp
    have ht : upd H tp (.tup [.ty "list", .ty "tuple"]) tp = some (.tup [.ty "list", .ty "tuple"]) := upd_same
    generalize upd H tp (.tup [.ty "list", .ty "tuple"]) = H1 at s1 ht ⊢
    have ha1 := ha.same s1
    have mv1 := mv.same s1
    have lx := mv.len
    refine ⟨_, tp, _, _, _, _, rfl, ht, .cons (.ty "list") (.cons (.ty "tuple") .nil), ha1.ty, kitAny_tt, _, rfl, iteT ?_⟩
    refine ⟨_, rfl, a, rfl, ⟨xs, ha1.sq⟩, fun D nD => ?_⟩
    refine lc_tup (K := K) (a := a) (xs := xs) (fun i Hh => Same H1 Hh ∧ H1 D = none ∧ Hh D = some (.lst (List.replicate i (V.bl true)))) ⟨Same.new nD, nD, upd_same⟩ (fun i Hh _ p => (ha1.same p.1).sq) ?_ ?_
    · intro i z Hh hi p
      obtain ⟨m, hm, mz⟩ := mv1.at hi
      obtain ⟨y, dy, rfl, hy⟩ := mz.same p.1
      obtain ⟨fs, eo⟩ := mv_at c m dy
      obtain ⟨cl, ca, mr, ki⟩ := C.cl m.kind (kind_lt m)
      have il : i < xs.length := (List.getElem?_eq_some_iff.mp hi).1
      refine ⟨rfl, ?_⟩
      unfold tYes
      dsimp only
      refine iteT ⟨_, rfl, _, _, _, _, _, rfl, .own MV, .base (.ins (by rw [hy, eo]) cl ca C.gn C.tk mr), ki, _, p.2.2, ?_, fun c o h => ?_, p.2.1, ?_⟩
      · rw [List.length_replicate]
        exact Nat.lt_of_lt_of_le (m := 1001) (by omega) (by decide)
      · rw [upd_ne (ne_of_none h p.2.1)]
        exact p.1 c o h
      · rw [upd_same, List.replicate_succ']
    · intro Hh p
      obtain ⟨s2, _, e⟩ := p
      refine ⟨D, List.replicate xs.length true, rfl, SqL.of (by rw [e, rep_bl]), ?_⟩
      have z : (List.replicate xs.length true).all id = true := by
        rw [List.all_eq_true]
        intro x hx
        rw [List.eq_of_mem_replicate hx]
        rfl
      rw [z]
      exact k _ (s1.trans s2)
abbrev CalIsMT (P : Program) (w : World) (K : PySem.W.Frag) (mg : Str → Option Value) (base : Heap) (c : Cl) : Prop := Cal P w K mg base CX0 "is_moves" 1 ["value"] (spIsMT K c)
theorem ok_hInitT {f : Addr} {c : Cl} {fd : FuncData} {dvs : List V} (F : FunD K "__init__" "History.__init__" (defArgs sHInit) (defBody sHInit) (defScope sHInit) dvs [] f fd) (cl : Cls K c.Hi) (nM : NoAttr K c.Hi "moves") (cI : CalIsMT P w K mg base c) (zt : mg "tuple" = none) :
    FnOk P w K mg base CX0 3 f fd ["self", "moves"] (spHIT K c) := by
  obtain ⟨fA, fdA, GA, mA, kA, bA⟩ := cI
  refine F.ok scHInit (fun vs H Q E h => ?_) (fun cdv A outer s H vs Q E hr h => ?_)
  · obtain ⟨x, dx, a, xs, ms, rfl, _⟩ := h
    rfl
  · obtain ⟨x, dx, a, xs, ms, rfl, hx, ha, mv, n, q1⟩ := h
    refine ⟨_, pss_cons (ps_if (pt_not (pt_val (pe_call GA (hr.mono (by decide)) rfl mA kA bA .nil pass0 (pa_cons (pv 1) pa_nil)))) (pss_one ps_never) pss_nil)
      (pss_one (ps_fld (pv 0) (pe_callTy call_tuple_of (by rfl) zt (by decide +kernel) (pa_cons (pv 1) pa_nil)) rfl)), ?_⟩
    refine ⟨_, rfl, a, xs, ms, rfl, ha, mv, n, fun H1 s1 => ⟨_, rfl, ?_⟩⟩
    have hx1 := s1 _ _ hx
    refine iteF ⟨_, rfl, a, xs, rfl, .inr ⟨(ha.same s1).sq, _, rfl, x, c.Hi, dx, _, rfl, hx1, cl, nM, (by show 0 < 1000; decide), ?_⟩⟩
    refine q1 _ (fun c o nc h => ?_) upd_same
    rw [upd_ne nc]
    exact s1 _ _ h
theorem mk_histT {c : Cl} {y dy a : Addr} {H : Hp} {xs : List V} {ms : List Mv} {R : VK} {E : XK} (ha : TupH K H a xs) (mv : MvsAt c H xs ms) (n : ms.length ≤ 1000) (ny : H y = none) (ndy : H dy = none) (k : ∀ H', Same H H' → HiK K c H' (.ref y) ms → R .non H') :
    spHIT K c [.ref y, .ref a] (upd (upd H dy (.own y)) y (.ins c.Hi dy [])) R E :=
  ⟨y, dy, a, xs, ms, rfl, upd_same, ha.same (made_same ny ndy), mv.same (made_same ny ndy), n, fun H' s hx => by
    have S : Same H H' := fun d o e => s d o (ne_of_none e ny) (made_same ny ndy d o e)
    exact k H' S ⟨y, dy, a, xs, rfl, hx, ha.same S, mv.same S⟩⟩
/-- History's making of a tuple -/
structure HiTxtT (P : Program) (w : World) (K : PySem.W.Frag) (mg : Str → Option Value) (base : Heap) (c : Cl) : Prop where
  g : mg "History" = some (.ref c.Hi)
  ini : ∃ (f : Addr) (fd : FuncData), FnOk P w K mg base CX0 3 f fd ["self", "moves"] (spHIT K c) ∧ Mk K c.Hi f ∧ Binds K fd ["self", "moves"] []
theorem scHLen : FnScope ["self"] ["self"] (defScope sHLen) := ⟨rfl, rfl, rfl, by decide +kernel, rfl, by decide +kernel, by decide +kernel⟩
theorem scHGet : FnScope ["self", "at", "found"] ["self", "at"] (defScope sHGet) := ⟨rfl, rfl, rfl, by decide +kernel, rfl, by decide +kernel, by decide +kernel⟩
theorem scHAdd : FnScope ["self", "other"] ["self", "other"] (defScope sHAdd) := ⟨rfl, rfl, rfl, by decide +kernel, rfl, by decide +kernel, by decide +kernel⟩
theorem ok_hLenK {f : Addr} {c : Cl} {fd : FuncData} (F : Fun K "__len__" "History.__len__" sHLen f fd) (C : HiCls K c) (zl : mg "len" = none) : FnOk P w K mg base CX0 1 f fd ["self"] (spHLenK K c) := by
  refine F.ok scHLen (fun vs H Q E h => ?_) (fun cdv A outer s H vs Q E hr h => ?_)
  · obtain ⟨v, ms, rfl, _⟩ := h
    rfl
  · obtain ⟨v, ms, rfl, ⟨x, dx, q, xs, rfl, hx, hq, mv⟩, k⟩ := h
    refine ⟨_, pss_one (ps_ret (pe_callB call_len_seq (by rfl) zl PySem.boot_len (pa_cons (pe_fld (pv 0) rfl) pa_nil))), ?_⟩
    rw [← mv.len] at k
    exact ⟨_, rfl, x, c.Hi, dx, _, _, rfl, hx, C.cl, C.nM, rfl, q, xs, rfl, .inr hq.sq, k⟩
theorem ok_hGetK {f : Addr} {c : Cl} {fd : FuncData} (F : Fun K "__getitem__" "History.__getitem__" sHGet f fd) (T : BltH mg) (C : HiCls K c) (M : HiTxtT P w K mg base c) : FnOk P w K mg base CX0 5 f fd ["self", "at"] (spHGetK K c) := by
  obtain ⟨fI, fdI, GI, MI, bI⟩ := M.ini
  refine F.ok scHGet (fun vs H Q E h => ?_) (fun cdv A outer s H vs Q E hr h => ?_)
  · obtain ⟨u, p, ms, lo, hi, st, rfl, _⟩ := h
    rfl
  · obtain ⟨u, p, ms, lo, hi, st, rfl, ⟨x, dx, q, xs, rfl, hx, hq, mv⟩, hp, h0, n, k⟩ := h
    refine ⟨_, pss_cons (ps_set (i := 2) scHGet.nd rfl (Or.inl rfl) (pe_ix ix_slice (pe_fld (pv 0) rfl) (pv 1) (fun _ _ => rfl)))
      (pss_one (ps_ret (pe_ifExp (pt_val (pe_callB call_isi (by rfl) T.isi (by decide +kernel) (pa_cons (pv 2) (pa_cons (pe_bltn (v := .ty "tuple") (by rfl) T.tuple (by decide +kernel) rfl) pa_nil)))) (pe_make (E := fun _ _ _ => False) MI GI hr rfl M.g bI .nil pass0 (pa_cons (pv 2) pa_nil)) (pv 2)))), ?_⟩
    have ms' := mv.step lo hi st
    have ln : (stepL xs lo hi st).length ≤ 1000 := by rw [ms'.len]; exact n
    have kit : PySem.W.kitOne K (.type "tuple") (.type "tuple") = some true := kit_ty (by decide +kernel)
    refine ⟨_, rfl, x, c.Hi, dx, _, _, rfl, hx, C.cl, C.nM, rfl, _, rfl, q, p, xs, lo, hi, st, rfl, rfl, hp, hq.sq, h0, Nat.le_trans ln (by decide), fun wh => ?_, fun r nr => ?_⟩
    · have e : stepL xs lo hi st = xs := by
        unfold stepL
        rw [wh]
        exact pick_self xs
      have hq' : TupH K H q (stepL xs lo hi st) := by rw [e]; exact hq
      refine ⟨_, rfl, _, _, _, _, _, rfl, .ty "tuple", hq'.ty, kit, _, rfl, iteT ⟨_, rfl, fun y dy ny ndy _ => mk_histT hq' ms' n ny ndy fun H' s' a => ⟨rfl, k _ _ s' a⟩⟩⟩
    · have s1 : Same H (upd H r (.tup (stepL xs lo hi st))) := Same.new nr
      have hr' : TupH K (upd H r (.tup (stepL xs lo hi st))) r (stepL xs lo hi st) := .inl upd_same
      refine ⟨_, rfl, _, _, _, _, _, rfl, .ty "tuple", hr'.ty, kit, _, rfl, iteT ⟨_, rfl, fun y dy ny ndy _ => mk_histT hr' (ms'.same s1) n ny ndy fun H' s' a => ⟨rfl, k _ _ (s1.trans s') a⟩⟩⟩
theorem ok_hAddH {f MV : Addr} {c : Cl} {fd : FuncData} (F : Fun K "__add__" "History.__add__" sHAdd f fd) (T : BltH mg) (C : HiCls K c) (M : HiTxtT P w K mg base c) (gM : mg "Move" = some (.ref MV)) : FnOk P w K mg base CX0 5 f fd ["self", "other"] (spHAddH K c) := by
  obtain ⟨fI, fdI, GI, MI, bI⟩ := M.ini
  refine F.ok scHAdd (fun vs H Q E h => ?_) (fun cdv A outer s H vs Q E hr h => ?_)
  · obtain ⟨u, v, ms, ns, rfl, _⟩ := h
    rfl
  · obtain ⟨u, v, ms, ns, rfl, ⟨x, dx, q, xs, rfl, hx, hq, mv⟩, ⟨x2, dx2, q2, xs2, rfl, hx2, hq2, mv2⟩, n, k⟩ := h
    refine ⟨_, pss_cons (ps_if (pt_val (pe_callB call_isi (by rfl) T.isi (by decide +kernel) (pa_cons (pv 1) (pa_cons (pe_glob (v := .ref c.Hi) rfl M.g rfl) pa_nil)))) (pss_one (ps_ret (pe_make (E := fun _ _ _ => False) MI GI hr rfl M.g bI .nil pass0 (pa_cons (pe_op op_catA (pe_fld (pv 0) rfl) (pe_fld (pv 1) rfl)) pa_nil)))) pss_nil)
      (pss_cons ps_never (pss_one ps_never)), ?_⟩
    have l1 := mv.len
    have l2 := mv2.len
    have mm := mv.app mv2
    have n' : (ms ++ ns).length ≤ 1000 := by rw [List.length_append]; exact n
    refine ⟨_, rfl, _, _, _, _, _, rfl, .own c.Hi, .base (.ins hx2 C.cl C.ca C.gn C.tk C.mr), C.ki, _, rfl, iteT ?_⟩
    refine ⟨_, rfl, x, c.Hi, dx, _, _, rfl, hx, C.cl, C.nM, rfl, _, rfl, x2, c.Hi, dx2, _, _, rfl, hx2, C.cl, C.nM, rfl, q, q2, xs, xs2, rfl, rfl, hq.sq, hq2.sq, Nat.le_trans (show xs.length + xs2.length ≤ 1000 by omega) (by decide), fun e => ?_, fun e1 e2 => ?_, fun e1 e2 p np => ?_⟩
    · subst e
      exact fun y dy ny ndy _ => mk_histT hq2 mm n' ny ndy fun H' s' a => ⟨rfl, k _ _ s' a⟩
    · subst e2
      have hq' : TupH K H q (xs ++ []) := by rw [List.append_nil]; exact hq
      exact fun y dy ny ndy _ => mk_histT hq' mm n' ny ndy fun H' s' a => ⟨rfl, k _ _ s' a⟩
    · have s1 : Same H (upd H p (.tup (xs ++ xs2))) := Same.new np
      exact fun y dy ny ndy _ => mk_histT (.inl upd_same) (mm.same s1) n' ny ndy fun H' s' a => ⟨rfl, k _ _ (s1.trans s') a⟩
theorem ok_hAddM {f MV : Addr} {c : Cl} {fd : FuncData} (F : Fun K "__add__" "History.__add__" sHAdd f fd) (T : BltH mg) (C : HiCls K c) (CM : MvCls K c MV) (nk : ∀ k, k < 4 → PySem.W.kitOne K (.ref (c.at k)) (.ref c.Hi) = some false) (M : HiTxtT P w K mg base c) (gM : mg "Move" = some (.ref MV)) : FnOk P w K mg base CX0 5 f fd ["self", "other"] (spHAddM K c) := by
  obtain ⟨fI, fdI, GI, MI, bI⟩ := M.ini
  refine F.ok scHAdd (fun vs H Q E h => ?_) (fun cdv A outer s H vs Q E hr h => ?_)
  · obtain ⟨u, v, ms, m, rfl, _⟩ := h
    rfl
  · obtain ⟨u, v, ms, m, rfl, ⟨x, dx, q, xs, rfl, hx, hq, mv⟩, ⟨y, dy, rfl, hy⟩, n, k⟩ := h
    refine ⟨_, pss_cons (ps_if (pt_val (pe_callB call_isi (by rfl) T.isi (by decide +kernel) (pa_cons (pv 1) (pa_cons (pe_glob (v := .ref c.Hi) rfl M.g rfl) pa_nil)))) (pss_one (ps_ret (pe_make (E := fun _ _ _ => False) MI GI hr rfl M.g bI .nil pass0 (pa_cons (pe_op op_catA (pe_fld (pv 0) rfl) (pe_fld (pv 1) rfl)) pa_nil)))) pss_nil)
      (pss_cons (ps_if (pt_val (pe_callB call_isi (by rfl) T.isi (by decide +kernel) (pa_cons (pv 1) (pa_cons (pe_glob (v := .ref MV) rfl gM rfl) pa_nil)))) (pss_one (ps_ret (pe_make (E := fun _ _ _ => False) MI GI hr rfl M.g bI .nil pass0 (pa_cons (pe_tup (StX.pa_star (pe_fld (pv 0) rfl) (pa_cons (pv 1) pa_nil))) pa_nil)))) pss_nil)
      (pss_one ps_never)), ?_⟩
    obtain ⟨fs, eo⟩ := mv_at c m dy
    obtain ⟨cl, ca, mr, ki⟩ := CM.cl m.kind (kind_lt m)
    have l1 := mv.len
    refine ⟨_, rfl, _, _, _, _, _, rfl, .own c.Hi, .base (.ins (by rw [hy, eo]) cl ca CM.gn CM.tk mr), nk _ (kind_lt m), _, rfl, iteF ?_⟩
    refine ⟨_, rfl, _, _, _, _, _, rfl, .own MV, .base (.ins (by rw [hy, eo]) cl ca CM.gn CM.tk mr), ki, _, rfl, iteT ?_⟩
    refine ⟨_, rfl, x, c.Hi, dx, _, _, rfl, hx, C.cl, C.nM, rfl, q, xs, rfl, .inl hq.sq, _, rfl, ?_, fun p np => ?_⟩
    · show (xs ++ [V.ref y]).length ≤ sizeLine
      rw [List.length_append]
      exact Nat.le_trans (show xs.length + 1 ≤ 1001 by omega) (by decide)
    · have s1 : Same H (upd H p (.tup (xs ++ [V.ref y]))) := Same.new np
      have mm := mv.snoc (x := .ref y) (m := m) ⟨y, dy, rfl, hy⟩
      have n' : (ms ++ [m]).length ≤ 1000 := by rw [List.length_append]; exact n
      exact fun z dz nz ndz _ => mk_histT (.inl upd_same) (mm.same s1) n' nz ndz fun H' s' a => ⟨rfl, k _ _ (s1.trans s') a⟩
end
end V3

set_option Elab.async false
set_option linter.all false
set_option maxRecDepth 100000
namespace V3
open PySem PySem.Spec PyProof.Rows L2 TL
/-! == of two moves within tuples, whatever it answers; what is left of histories -/
theorem obj_inj {c : Cl} (tr : c.T ≠ c.R) {m n : Mv} {dx dy : Addr} (h : m.obj c dx = n.obj c dy) : m = n := by
  cases m <;> cases n <;> simp only [Mv.obj, two] at h <;> injection h with h1 h2 h3 <;> first | rfl | (simp at h3; done) | (exact absurd h1 tr) | (exact absurd h1.symm tr) | (simp at h3; simp [h3]) | (cases h3)
/-- the answer of == -/
def DB (c : Cl) : V → V → Bool → Hp → Prop := fun x y r H => ∃ m n : Mv, MvAt c H x m ∧ MvAt c H y n ∧ m.ok ∧ n.ok ∧ r = decide (m = n)
theorem mon_db {c : Cl} : MonB (DB c) := fun x y r H H' e d => by
  obtain ⟨m, n, hx, hy, mo, no, q⟩ := d
  exact ⟨m, n, hx.same e, hy.same e, mo, no, q⟩
section
variable {X : Cx} {c : Cl}
theorem eqB_mv {MV : Addr} (T : EqTxt X.prog X.w X.K X.mg X.base c) (C : MvCls X.K c MV) (tr : c.T ≠ c.R) : EqB X 4 (DB c) := by
  intro A pins s σ H x y u v r sb I rx ry d
  obtain ⟨m, n, ⟨a, dx, rfl, ha⟩, ⟨b, dy, rfl, hb⟩, mo, no, rfl⟩ := d
  obtain ⟨f, fd, F, ec, bi⟩ := T.e m.kind (kind_lt m)
  obtain ⟨fs, eo⟩ := mv_at c m dx
  obtain ⟨gs, eo2⟩ := mv_at c n dy
  cases rx
  cases ry
  by_cases e : a = b
  · subst e
    rw [ha] at hb
    injection hb with hb
    have mn := obj_inj tr hb
    subst mn
    unfold eqBool
    refine wpAny_holding ?_
    refine wpAny_ite_split (fun _ => ?_) (fun h => absurd (beq_self_eq_true _) h)
    refine wpAny_bind (wpAny_rule (wpAny_pure ⟨?_, H, I, Ext.rfl'⟩))
    rw [decide_eq_true rfl]
  · refine GQ.eqBool_refG e ?_
    obtain ⟨mA, J, _⟩ := ins_get I.hok (ha.trans (congrArg some eo))
    obtain ⟨mB, J', _⟩ := ins_get I.hok (hb.trans (congrArg some eo2))
    obtain ⟨od, J, _⟩ := J.look
    obtain ⟨od', J', _⟩ := J'.look
    obtain ⟨mm, hF⟩ := I.fr
    refine PySem.W.cmp_K (op := .Eq) (tb := .ref (c.at n.kind)) sb.room.units0 hF I.ok.mod.kin J J'.type (C.nf _ (kind_lt m) _ (kind_lt n)) ec.eq ec.fn ?_
    refine wpAny_mono (run_own (x := .ref a) (y := .ref b) (E := fun _ _ _ => False) (Q := fun v H' => v = .bl (decide (m = n)) ∧ H' = H) sb F bi pass0 I rfl rfl ⟨_, _, m, n, rfl, ⟨a, dx, rfl, ha⟩, ⟨b, dy, rfl, hb⟩, mo, no, by rw [text_dec mo no], rfl⟩) (fun w s' q => ?_) fun _ _ e => e
    obtain ⟨z, H', I', rz, ez, eH⟩ := q
    subst ez
    subst eH
    cases rz
    exact ⟨_, rfl, rfl, H', I', Ext.rfl'⟩
end
/-- which items are equal -/
def eqsB (ms ns : List Mv) (i : Nat) : Bool := match ms[i]?, ns[i]? with
  | some m, some n => decide (m = n)
  | _, _ => true
theorem eqs_at {ms ns : List Mv} {i : Nat} {m n : Mv} (h : ms[i]? = some m) (k : ns[i]? = some n) : eqsB ms ns i = decide (m = n) := by
  unfold eqsB
  rw [h, k]
theorem eqs_stop {ms ns : List Mv} {i : Nat} (h1 : i < ms.length) (h2 : i < ns.length) (h : eqsB ms ns i = false) : ms ≠ ns := by
  intro e
  subst e
  have k := List.getElem?_eq_getElem h1
  rw [eqs_at k k, decide_eq_true rfl] at h
  cases h
theorem eqs_all {ms ns : List Mv} (h : ∀ i, i < ms.length → i < ns.length → eqsB ms ns i = true) : decide (ms = ns) = (ms.length == ns.length) := by
  by_cases l : ms.length = ns.length
  · have e : ms = ns := by
      refine List.ext_getElem l fun i h1 h2 => ?_
      have z := h i h1 h2
      rw [eqs_at (List.getElem?_eq_getElem h1) (List.getElem?_eq_getElem h2)] at z
      exact of_decide_eq_true z
    rw [decide_eq_true e, l]
    simp
  · rw [decide_eq_false fun e => l (by rw [e])]
    exact (Bool.eq_false_iff.mpr fun q => l (eq_of_beq q)).symm
section
variable {P : Program} {w : World} {K : PySem.W.Frag} {mg : Str → Option Value} {base : Heap}
theorem ok_hEqK {f MV : Addr} {c : Cl} {fd : FuncData} (F : Fun K "__eq__" "History.__eq__" sHEq f fd) (T : EqTxt P w K mg base c) (C : HiCls K c) (CM : MvCls K c MV) (tr : c.T ≠ c.R) (zi : mg "isinstance" = none) (gH : mg "History" = some (.ref c.Hi)) : FnOk P w K mg base CX0 6 f fd ["self", "other"] (spHEqK K c) := by
  refine F.ok scHEq (fun vs H Q E h => ?_) (fun cdv A outer s H vs Q E hr h => ?_)
  · obtain ⟨u, v, ms, ns, rfl, _⟩ := h
    rfl
  · obtain ⟨u, v, ms, ns, rfl, ⟨x, dx, q, xs, rfl, hx, hq, mv⟩, ⟨x2, dx2, q2, xs2, rfl, hx2, hq2, mv2⟩, ok, ok2, k⟩ := h
    refine ⟨_, pss_one (ps_ret (pe_and (pe_callB call_isi (by rfl) zi (by decide +kernel) (pa_cons (pv 1) (pa_cons (pe_glob (v := .ref c.Hi) rfl gH rfl) pa_nil))) (pe_one (pe_cmpR (op_eqB (n := 4) mon_db (eqB_mv T CM tr) (hr.mono (by decide))) (pe_fld (pv 0) rfl) (pe_fld (pv 1) rfl) (nomark _))))), ?_⟩
    have l1 := mv.len
    have l2 := mv2.len
    refine ⟨_, rfl, _, _, _, _, _, rfl, .own c.Hi, .base (.ins hx2 C.cl C.ca C.gn C.tk C.mr), C.ki, _, rfl, iteT ⟨_, rfl, x, c.Hi, dx, _, _, rfl, hx, C.cl, C.nM, rfl, _, rfl, x2, c.Hi, dx2, _, _, rfl, hx2, C.cl, C.nM, rfl,
      q, q2, xs, xs2, eqsB ms ns, decide (ms = ns), rfl, rfl, hq.sq, hq2.sq, fun i a b ha hb => ?_, fun i h1 h2 h => ?_, fun h => ?_, fun H' e => ?_⟩⟩
    · obtain ⟨m, hm, am⟩ := mv.at ha
      obtain ⟨n, hn, an⟩ := mv2.at hb
      exact ⟨m, n, am, an, ok m (List.mem_of_getElem? hm), ok2 n (List.mem_of_getElem? hn), eqs_at hm hn⟩
    · exact decide_eq_false (eqs_stop (by omega) (by omega) h)
    · rw [l1, l2] at h ⊢
      exact eqs_all h
    · rw [show (decide (ms = ns) != false) = decide (ms = ns) from by cases decide (ms = ns) <;> rfl]
      exact k H' e
theorem ok_hStrK {f : Addr} {c : Cl} {fd : FuncData} (F : Fun K "__str__" "History.__str__" sHStr f fd) (S : StrTxt P w K mg base c) (C : HiCls K c) (zs : mg "str" = none) : FnOk P w K mg base CX0 4 f fd ["self"] (spHStrK K c) := by
  refine F.ok scHStr (fun vs H Q E h => ?_) (fun cdv A outer s H vs Q E hr h => ?_)
  · obtain ⟨v, ms, rfl, _⟩ := h
    rfl
  · obtain ⟨v, ms, rfl, ⟨x, dx, q, xs, rfl, hx, hq, mv⟩, ok, n, k⟩ := h
    refine ⟨_, pss_one (ps_ret (pe_join pe_str (pe_lc (own := [("move", 1)]) (g := gName 1) (tt := tYes) (te := tCB (rStrM c) (tCons (tVar 1) tNil)) (by rfl) scHStr.nd (pi_tup (pe_fld (pv 0) rfl)) (blkOk_by (own := [("move", 1)]) (N := ["self", "move"]) (sc := defScope sHStr) (by decide +kernel)) (fun _ _ _ _ _ => pg_name (i := 1) scHStr.nd rfl (Or.inl rfl)) (fun _ _ _ _ _ => pts_nil)
          (fun _ _ _ _ _ => pe_callTy (call_strM S hr) (by rfl) zs (by decide +kernel) (pa_cons (pv 1) pa_nil))))), ?_⟩
    refine ⟨⟨_, rfl⟩, _, rfl, x, c.Hi, dx, _, _, rfl, hx, C.cl, C.nM, rfl, q, rfl, ⟨xs, hq.sq⟩, fun D nD => ?_⟩
    have lx := mv.len
    refine lc_tup (K := K) (a := q) (xs := xs) (fun i Hh => Same H Hh ∧ H D = none ∧ Hh D = some (.lst (((ms.take i).map Mv.text).map V.str))) ⟨Same.new nD, nD, upd_same⟩ (fun i Hh _ p => (hq.same p.1).sq) ?_ ?_
    · intro i z Hh hi p
      obtain ⟨m, hm, mz⟩ := mv.at hi
      refine ⟨rfl, ?_⟩
      unfold tYes
      dsimp only
      refine iteT ⟨_, rfl, _, m, rfl, mz.same p.1, ok m (List.mem_of_getElem? hm), _, p.2.2, ?_, fun c o h => ?_, p.2.1, ?_⟩
      · rw [List.length_map, List.length_map, List.length_take]
        exact Nat.lt_of_lt_of_le (m := 1001) (by omega) (by decide)
      · rw [upd_ne (ne_of_none h p.2.1)]
        exact p.1 c o h
      · rw [upd_same, take_next' hm, List.map_append, List.map_append]
        rfl
    · intro Hh p
      obtain ⟨s2, _, e⟩ := p
      rw [lx, List.take_length] at e
      refine ⟨semi, D, ms.map Mv.text, rfl, rfl, .inl (SqL.of e), ?_, ?_⟩
      · have z := sum_texts ok
        have e2 : (semi).length = 2 := by decide +kernel
        rw [e2, List.length_map]
        exact Nat.le_trans (Nat.add_le_add_right z _) (by omega)
      · rw [join_eq]
        exact k _ s2
end
end V3

set_option Elab.async false
set_option linter.all false
set_option maxRecDepth 100000
namespace V3
open PySem L2 TL
abbrev sAnyMove : Stmt := top 24
def SameX (b : Addr) (H H' : Hp) : Prop := ∀ c o, c ≠ b → H c = some o → H' c = some o
theorem SameX.refl {b : Addr} {H : Hp} : SameX b H H := fun _ _ _ h => h
theorem SameX.trans {b : Addr} {H H1 H2 : Hp} (s : SameX b H H1) (t : SameX b H1 H2) : SameX b H H2 := fun c o n h => t c o n (s c o n h)
theorem SameX.of {b : Addr} {H H' : Hp} (s : Same H H') : SameX b H H' := fun c o _ h => s c o h
theorem SameX.box {b : Addr} {H : Hp} {o : HO} : SameX b H (upd H b o) := fun c _ n h => by rw [upd_ne n]; exact h
/-- all but the box is as it was, and there is a box -/
def Pre (b : Addr) (H H' : Hp) : Prop := SameX b H H' ∧ ∃ u v, BoxOk u v ∧ H' b = some (box u v)
theorem Pre.trans {b : Addr} {H H1 H2 : Hp} (s : Pre b H H1) (t : Pre b H1 H2) : Pre b H H2 := ⟨s.1.trans t.1, t.2⟩
theorem Pre.then {b : Addr} {H H1 H2 : Hp} (s : Pre b H H1) (t : Same H1 H2) : Pre b H H2 := by
  obtain ⟨h, u, v, ok, e⟩ := s
  exact ⟨h.trans (SameX.of t), u, v, ok, t _ _ e⟩
theorem Pre.box {b : Addr} {H : Hp} {u v : Int} (ok : BoxOk u v) : Pre b H (upd H b (box u v)) := ⟨SameX.box, u, v, ok, upd_same⟩
theorem Pre.start {b : Addr} {H : Hp} {u v : Int} (ok : BoxOk u v) (h : H b = some (V3.box u v)) : Pre b H H := ⟨SameX.refl, u, v, ok, h⟩
abbrev CalChoose (P : Program) (w : World) (K : PySem.W.Frag) (mg : Str → Option Value) (base : Heap) : Prop := Cal P w K mg base CX0 "_law_choose" 1 ["_law_box", "_law_many"] spChoose
/-- a drawn move, as the law says it -/
def MvOk (xs : List V) : Prop := ∃ t a : Int, 0 ≤ t ∧ t ≤ 1000000000 ∧ 1 ≤ a ∧ a ≤ 1000000000000 ∧
  (xs = [.str "begin", .int a] ∨ xs = [.str "take", .int t, .int 0] ∨ xs = [.str "take", .int t, .int a] ∨ xs = [.str "right", .int t, .int a] ∨ xs = [.str "shut"])
def spMv : Sp := fun vs H Q _ => ∃ (b : Addr) (u v : Int), vs = [.ref b] ∧ H b = some (box u v) ∧ BoxOk u v ∧ ∀ (p : Addr) (xs : List V) (H' : Hp), Pre b H H' → H' p = some (.tup xs) → MvOk xs → Q (.ref p) H'
theorem pick3 (x y z d : Int) (h0 : 0 ≤ d) (h3 : d < 3) : ∃ m, atI [V.int x, V.int y, V.int z] d = some (V.int m) ∧ (m = x ∨ m = y ∨ m = z) := by
  have e : d = 0 ∨ d = 1 ∨ d = 2 := by omega
  rcases e with rfl | rfl | rfl
  · exact ⟨x, rfl, .inl rfl⟩
  · exact ⟨y, rfl, .inr (.inl rfl)⟩
  · exact ⟨z, rfl, .inr (.inr rfl)⟩
section
variable {P : Program} {w : World} {K : PySem.W.Frag} {mg : Str → Option Value} {base : Heap}
theorem scAnyMove : FnScope ["_law_box", "_law_form", "_law_at", "_law_amount"] ["_law_box"] (defScope sAnyMove) := ⟨rfl, rfl, rfl, by decide +kernel, rfl, by decide +kernel, by decide +kernel⟩
theorem ok_anyMove {f : Addr} {fd : FuncData} (F : Fun K "_law_any_move" "_law_any_move" sAnyMove f fd) (cC : CalChoose P w K mg base) : FnOk P w K mg base CX0 2 f fd ["_law_box"] spMv := by
  obtain ⟨fC, fdC, GC, mC, kC, bC⟩ := cC
  refine F.ok scAnyMove (fun vs H Q E h => ?_) (fun cdv A outer s H vs Q E hr h => ?_)
  · obtain ⟨b, u, v, rfl, _⟩ := h
    rfl
  · obtain ⟨b, u, v, rfl, hb, ok, k⟩ := h
    refine ⟨_, pss_cons (ps_par (i := 1) (j := 2) rfl scAnyMove.nd rfl rfl (by decide) rfl rfl (pa_cons (pe_call GC hr rfl mC kC bC .nil pass0 (pa_cons (pv 0) (pa_cons pe_int pa_nil)))
          (pa_cons (pe_call GC hr rfl mC kC bC .nil pass0 (pa_cons (pv 0) (pa_cons (pe_ix ix_list (pe_lst (pa_cons pe_int (pa_cons pe_int (pa_cons (pe_op op_pow pe_int pe_int) pa_nil)))) (pe_call GC hr rfl mC kC bC .nil pass0 (pa_cons (pv 0) (pa_cons pe_int pa_nil))) (fun _ _ => rfl)) pa_nil))) pa_nil)) (by rfl))
      (pss_cons (ps_set (i := 3) scAnyMove.nd rfl (Or.inl rfl) (pe_op op_add pe_int (pe_call GC hr rfl mC kC bC .nil pass0 (pa_cons (pv 0) (pa_cons (pe_ix ix_list (pe_lst (pa_cons pe_int (pa_cons pe_int (pa_cons (pe_op op_pow pe_int pe_int) pa_nil)))) (pe_call GC hr rfl mC kC bC .nil pass0 (pa_cons (pv 0) (pa_cons pe_int pa_nil))) (fun _ _ => rfl)) pa_nil)))))
      (pss_one (ps_ret (pe_ix ix_list (pe_lst (pa_cons (pe_tup (pa_cons pe_str (pa_cons (pv 3) pa_nil))) (pa_cons (pe_tup (pa_cons pe_str (pa_cons (pv 2) (pa_cons pe_int pa_nil)))) (pa_cons (pe_tup (pa_cons pe_str (pa_cons (pv 2) (pa_cons (pv 3) pa_nil)))) (pa_cons (pe_tup (pa_cons pe_str (pa_cons (pv 2) (pa_cons (pv 3) pa_nil)))) (pa_cons (pe_tup (pa_cons pe_str pa_nil)) pa_nil)))))) (pv 1) (fun _ _ => rfl))))), ?_⟩
    refine ⟨_, rfl, b, u, v, 5, rfl, hb, ok, (by decide), (by decide), fun d u1 v1 d0 d5 ok1 => ?_⟩
    have S1 : Pre b H (upd H b (box u1 v1)) := Pre.box ok1
    have hb1 : upd H b (box u1 v1) b = some (box u1 v1) := upd_same
    generalize upd H b (box u1 v1) = H1 at S1 hb1 ⊢
    refine ⟨_, rfl, _, _, rfl, rfl, ⟨by decide, by decide, by decide⟩, (by show 3 ≤ sizeLine; decide), fun l nl => ?_⟩
    have nbl : b ≠ l := ne_of_none hb1 nl
    refine ⟨_, rfl, b, u1, v1, 3, rfl, (by rw [upd_ne nbl]; exact hb1), ok1, (by decide), (by decide), fun d2 u2 v2 e0 e3 ok2 => ?_⟩
    obtain ⟨m, hm, cm⟩ := pick3 3 12 (10 ^ (9 : Int).toNat) d2 e0 e3
    have p9 : (10 : Int) ^ (9 : Int).toNat = 1000000000 := by decide
    rw [p9] at cm
    have ll : ∀ o o' : HO, upd (upd H1 l o) b o' l = some o := fun o o' => by rw [upd_ne (Ne.symm nbl)]; exact upd_same
    refine ⟨l, _, d2, .int m, rfl, rfl, SqL.of (ll _ _), hm, ?_⟩
    have S2 : ∀ o : HO, Pre b H (upd (upd H1 l o) b (box u2 v2)) := fun o => ((S1.then (Same.new nl)).trans (Pre.box ok2))
    refine ⟨b, u2, v2, m, rfl, upd_same, ok2, (by omega), (by omega), fun at_ u3 v3 a0 am ok3 => ?_⟩
    have S3 : ∀ o : HO, Pre b H (upd (upd (upd H1 l o) b (box u2 v2)) b (box u3 v3)) := fun o => (S2 o).trans (Pre.box ok3)
    refine ⟨_, _, rfl, ?_⟩
    have S3' := S3 (.lst [.int 3, .int 12, .int (10 ^ (9 : Int).toNat)])
    have hb3 : upd (upd (upd H1 l (.lst [.int 3, .int 12, .int (10 ^ (9 : Int).toNat)])) b (box u2 v2)) b (box u3 v3) b = some (box u3 v3) := upd_same
    generalize upd (upd (upd H1 l (.lst [.int 3, .int 12, .int (10 ^ (9 : Int).toNat)])) b (box u2 v2)) b (box u3 v3) = H3 at S3' hb3
    clear S3 S2 ll
    refine ⟨_, rfl, _, _, rfl, rfl, ⟨by decide, by decide, by decide⟩, (by show 3 ≤ sizeLine; decide), fun l4 nl4 => ?_⟩
    have nbl4 : b ≠ l4 := ne_of_none hb3 nl4
    refine ⟨_, rfl, b, u3, v3, 3, rfl, (by rw [upd_ne nbl4]; exact hb3), ok3, (by decide), (by decide), fun d4 u4 v4 g0 g3 ok4 => ?_⟩
    obtain ⟨m4, hm4, cm4⟩ := pick3 3 99 (10 ^ (12 : Int).toNat) d4 g0 g3
    have p12 : (10 : Int) ^ (12 : Int).toNat = 1000000000000 := by decide
    rw [p12] at cm4
    have ll4 : ∀ o o' : HO, upd (upd H3 l4 o) b o' l4 = some o := fun o o' => by rw [upd_ne (Ne.symm nbl4)]; exact upd_same
    refine ⟨l4, _, d4, .int m4, rfl, rfl, SqL.of (ll4 _ _), hm4, ?_⟩
    refine ⟨b, u4, v4, m4, rfl, upd_same, ok4, (by omega), (by omega), fun am u5 v5 am0 am1 ok5 => ?_⟩
    refine ⟨_, _, rfl, rfl, ?_⟩
    have S5 : Pre b H (upd (upd (upd H3 l4 (.lst [.int 3, .int 99, .int (10 ^ (12 : Int).toNat)])) b (box u4 v4)) b (box u5 v5)) := ((S3'.then (Same.new nl4)).trans (Pre.box ok4)).trans (Pre.box ok5)
    have hb5 : upd (upd (upd H3 l4 (.lst [.int 3, .int 99, .int (10 ^ (12 : Int).toNat)])) b (box u4 v4)) b (box u5 v5) b = some (box u5 v5) := upd_same
    generalize upd (upd (upd H3 l4 (.lst [.int 3, .int 99, .int (10 ^ (12 : Int).toNat)])) b (box u4 v4)) b (box u5 v5) = H5 at S5 hb5
    clear ll4
    -- the five forms
    refine ⟨_, rfl, (by show 2 ≤ sizeLine; decide), fun p1 n1 => ?_⟩
    have S6 := S5.then (Same.new (o := .tup [.str "begin", .int (1 + am)]) n1)
    have t1 : upd H5 p1 (.tup [.str "begin", .int (1 + am)]) p1 = some (.tup [.str "begin", .int (1 + am)]) := upd_same
    generalize upd H5 p1 (.tup [.str "begin", .int (1 + am)]) = H6 at S6 t1
    refine ⟨_, rfl, (by show 3 ≤ sizeLine; decide), fun p2 n2 => ?_⟩
    have S7 := S6.then (Same.new (o := .tup [.str "take", .int at_, .int 0]) n2)
    have s7 : Same H6 (upd H6 p2 (.tup [.str "take", .int at_, .int 0])) := Same.new n2
    have t2 : upd H6 p2 (.tup [.str "take", .int at_, .int 0]) p2 = some (.tup [.str "take", .int at_, .int 0]) := upd_same
    generalize upd H6 p2 (.tup [.str "take", .int at_, .int 0]) = H7 at S7 s7 t2
    refine ⟨_, rfl, _, rfl, (by show 3 ≤ sizeLine; decide), fun p3 n3 => ?_⟩
    have S8 := S7.then (Same.new (o := .tup [.str "take", .int at_, .int (1 + am)]) n3)
    have s8 : Same H7 (upd H7 p3 (.tup [.str "take", .int at_, .int (1 + am)])) := Same.new n3
    have t3 : upd H7 p3 (.tup [.str "take", .int at_, .int (1 + am)]) p3 = some (.tup [.str "take", .int at_, .int (1 + am)]) := upd_same
    generalize upd H7 p3 (.tup [.str "take", .int at_, .int (1 + am)]) = H8 at S8 s8 t3
    refine ⟨_, rfl, _, rfl, (by show 3 ≤ sizeLine; decide), fun p4 n4 => ?_⟩
    have S9 := S8.then (Same.new (o := .tup [.str "right", .int at_, .int (1 + am)]) n4)
    have s9 : Same H8 (upd H8 p4 (.tup [.str "right", .int at_, .int (1 + am)])) := Same.new n4
    have t4 : upd H8 p4 (.tup [.str "right", .int at_, .int (1 + am)]) p4 = some (.tup [.str "right", .int at_, .int (1 + am)]) := upd_same
    generalize upd H8 p4 (.tup [.str "right", .int at_, .int (1 + am)]) = H9 at S9 s9 t4
    refine ⟨(by show 1 ≤ sizeLine; decide), fun p5 n5 => ?_⟩
    have Sa := S9.then (Same.new (o := .tup [.str "shut"]) n5)
    have sa : Same H9 (upd H9 p5 (.tup [.str "shut"])) := Same.new n5
    have t5 : upd H9 p5 (.tup [.str "shut"]) p5 = some (.tup [.str "shut"]) := upd_same
    generalize upd H9 p5 (.tup [.str "shut"]) = Ha at Sa sa t5
    refine ⟨(by show 5 ≤ sizeLine; decide), fun l6 n6 => ?_⟩
    have sb : ∀ o : HO, Same Ha (upd Ha l6 o) := fun o => Same.new n6
    have fin : ∀ (p : Addr) (xs : List V) (o : HO), Ha p = some (.tup xs) → MvOk xs → Q (.ref p) (upd Ha l6 o) := fun p xs o e ok => k p xs _ (Sa.then (sb o)) (sb o _ _ e) ok
    have e5 : d = 0 ∨ d = 1 ∨ d = 2 ∨ d = 3 ∨ d = 4 := by omega
    have a1 : 1 ≤ 1 + am := by omega
    have a2 : 1 + am ≤ 1000000000000 := by omega
    have b2 : at_ ≤ 1000000000 := by omega
    rcases e5 with rfl | rfl | rfl | rfl | rfl
    · exact ⟨_, rfl, l6, _, 0, _, rfl, rfl, SqL.of upd_same, rfl, fin _ _ _ (sa _ _ (s9 _ _ (s8 _ _ (s7 _ _ t1)))) ⟨at_, 1 + am, a0, b2, a1, a2, .inl rfl⟩⟩
    · exact ⟨_, rfl, l6, _, 1, _, rfl, rfl, SqL.of upd_same, rfl, fin _ _ _ (sa _ _ (s9 _ _ (s8 _ _ t2))) ⟨at_, 1 + am, a0, b2, a1, a2, .inr (.inl rfl)⟩⟩
    · exact ⟨_, rfl, l6, _, 2, _, rfl, rfl, SqL.of upd_same, rfl, fin _ _ _ (sa _ _ (s9 _ _ t3)) ⟨at_, 1 + am, a0, b2, a1, a2, .inr (.inr (.inl rfl))⟩⟩
    · exact ⟨_, rfl, l6, _, 3, _, rfl, rfl, SqL.of upd_same, rfl, fin _ _ _ (sa _ _ t4) ⟨at_, 1 + am, a0, b2, a1, a2, .inr (.inr (.inr (.inl rfl)))⟩⟩
    · exact ⟨_, rfl, l6, _, 4, _, rfl, rfl, SqL.of upd_same, rfl, fin _ _ _ t5 ⟨at_, 1 + am, a0, b2, a1, a2, .inr (.inr (.inr (.inr rfl)))⟩⟩
end
/-- the tuple that a move is drawn as -/
def Mv.tupV : Mv → List V
  | .beg a => [.str "begin", .int a]
  | .take t => [.str "take", .int t, .int 0]
  | .takeBy t a => [.str "take", .int t, .int a]
  | .right t a => [.str "right", .int t, .int a]
  | .shut => [.str "shut"]
theorem mv_of {xs : List V} (h : MvOk xs) : ∃ m : Mv, m.ok ∧ xs = m.tupV := by
  obtain ⟨t, a, t0, t1, a0, a1, h⟩ := h
  have ot : V3.Idx t := ⟨t0, by omega⟩
  have oa : Amt a := ⟨a0, by omega⟩
  rcases h with rfl | rfl | rfl | rfl | rfl
  · exact ⟨.beg a, oa, rfl⟩
  · exact ⟨.take t, ot, rfl⟩
  · exact ⟨.takeBy t a, ⟨ot, oa⟩, rfl⟩
  · exact ⟨.right t a, ⟨ot, oa⟩, rfl⟩
  · exact ⟨.shut, trivial, rfl⟩
def TupAt (H : Hp) (v : V) (m : Mv) : Prop := ∃ p, v = .ref p ∧ H p = some (.tup m.tupV)
theorem TupAt.same {H H' : Hp} {v : V} {m : Mv} (h : TupAt H v m) (s : Same H H') : TupAt H' v m := by
  obtain ⟨p, e, hp⟩ := h
  exact ⟨p, e, s _ _ hp⟩
def spAM : Sp := fun vs H Q _ => ∃ (b : Addr) (u v : Int), vs = [.ref b] ∧ H b = some (box u v) ∧ BoxOk u v ∧ ∀ (p : V) (m : Mv) (H' : Hp), Pre b H H' → TupAt H' p m → m.ok → Q p H'
def spMadeM (c : Cl) : Sp := fun vs H Q _ => ∃ (v : V) (m : Mv), vs = [v] ∧ TupAt H v m ∧ m.ok ∧ ∀ (x : V) (H' : Hp), Same H H' → MvAt c H' x m → Q x H'
def spText : Sp := fun vs H Q _ => ∃ (v : V) (m : Mv), vs = [v] ∧ TupAt H v m ∧ m.ok ∧ Q (.str m.text) H
abbrev sMade : Stmt := top 25
section
variable {P : Program} {w : World} {K : PySem.W.Frag} {mg : Str → Option Value} {base : Heap}
theorem am_any {f : Addr} {fd : FuncData} (F : FnOk P w K mg base CX0 2 f fd ["_law_box"] spMv) : FnOk P w K mg base CX0 2 f fd ["_law_box"] spAM := F.imp fun vs H Q E h => by
  obtain ⟨b, u, v, e, hb, ok, k⟩ := h
  refine ⟨b, u, v, e, hb, ok, fun p xs H' pr hp mk => ?_⟩
  obtain ⟨m, mo, rfl⟩ := mv_of mk
  exact k _ m H' pr ⟨p, rfl, hp⟩ mo
theorem scMade : FnScope ["_law_move"] ["_law_move"] (defScope sMade) := ⟨rfl, rfl, rfl, by decide +kernel, rfl, by decide +kernel, by decide +kernel⟩
end
end V3

set_option Elab.async false
set_option linter.all false
set_option maxRecDepth 100000
namespace V3
open PySem L2 TL
def Mv.nm : Mv → Str
  | .beg _ => "begin"
  | .take _ => "take"
  | .takeBy _ _ => "take"
  | .right _ _ => "right"
  | .shut => "shut"
theorem tup_nm (m : Mv) : m.tupV[0]? = some (.str m.nm) := by cases m <;> rfl
section
variable {P : Program} {w : World} {K : PySem.W.Frag} {mg : Str → Option Value} {base : Heap}
theorem ok_madeM {f CM : Addr} {c : Cl} {fd : FuncData} (F : Fun K "_law_made" "_law_made" sMade f fd) (T : MvTxt P w K mg base c CM) : FnOk P w K mg base CX0 6 f fd ["_law_move"] (spMadeM c) := by
  obtain ⟨f1, fd1, G1, M1, b1, _⟩ := T.B.ini
  obtain ⟨f3, fd3, G3, M3, b3, ds3, vd3, c3⟩ := T.T.ini
  obtain ⟨f5, fd5, G5, M5, b5, _⟩ := T.R.ini
  refine F.ok scMade (fun vs H Q E h => ?_) (fun cdv A outer s H vs Q E hr h => ?_)
  · obtain ⟨v, m, rfl, _⟩ := h
    rfl
  · obtain ⟨v, m, rfl, ⟨p, rfl, hp⟩, ok, k⟩ := h
    refine ⟨_, pss_cons (ps_if (pt_cmpR op_eq (pe_ix ix_tup (pv 0) pe_int (fun _ _ => rfl)) pe_str (nomark _)) (pss_one (ps_ret (pe_make M1 G1 hr rfl T.B.g b1 .nil passL (pa_cons (pe_ix ix_tup (pv 0) pe_int (fun _ _ => rfl)) pa_nil)))) pss_nil)
      (pss_cons (ps_if (pt_cmpR op_eq (pe_ix ix_tup (pv 0) pe_int (fun _ _ => rfl)) pe_str (nomark _)) (pss_one (ps_ret (pe_new0 T.S rfl T.gS))) pss_nil)
      (pss_cons (ps_if (pt_cmpR op_eq (pe_ix ix_tup (pv 0) pe_int (fun _ _ => rfl)) pe_str (nomark _)) (pss_one (ps_ret (pe_make M5 G5 hr rfl T.R.g b5 .nil passL (pa_cons (pe_ix ix_tup (pv 0) pe_int (fun _ _ => rfl)) (pa_cons (pe_ix ix_tup (pv 0) pe_int (fun _ _ => rfl)) pa_nil))))) pss_nil)
      (pss_one (ps_ret (pe_ifExp (pt_cmpR op_eq (pe_ix ix_tup (pv 0) pe_int (fun _ _ => rfl)) pe_int (nomark _)) (pe_make M3 G3 hr rfl T.T.g c3 vd3 passL (pa_cons (pe_ix ix_tup (pv 0) pe_int (fun _ _ => rfl)) pa_nil))
        (pe_make M3 G3 hr rfl T.T.g b3 .nil passL (pa_cons (pe_ix ix_tup (pv 0) pe_int (fun _ _ => rfl)) (pa_cons (pe_ix ix_tup (pv 0) pe_int (fun _ _ => rfl)) pa_nil)))))))), ?_⟩
    have hS : SqT K H p m.tupV := SqT.of hp
    have e1 : decide (V.str "take" = V.str "begin") = false := by decide +kernel
    have e2 : decide (V.str "take" = V.str "shut") = false := by decide +kernel
    have e3 : decide (V.str "take" = V.str "right") = false := by decide +kernel
    have e4 : decide (V.str "right" = V.str "begin") = false := by decide +kernel
    have e5 : decide (V.str "right" = V.str "shut") = false := by decide +kernel
    have e6 : decide (V.str "shut" = V.str "begin") = false := by decide +kernel
    rcases m with a | t | ⟨t, a⟩ | ⟨t, a⟩ | _
    · refine ⟨_, rfl, p, _, 0, _, rfl, rfl, hS, rfl, rfl, _, rfl, ?_⟩
      rw [decide_eq_true rfl]
      exact iteT ⟨_, rfl, p, _, 1, _, rfl, rfl, hS, rfl, fun y dy ny ndy ne => mk_beg ok ny ndy fun H' s mv => ⟨rfl, k _ H' s mv⟩⟩
    · refine ⟨_, rfl, p, _, 0, _, rfl, rfl, hS, rfl, rfl, _, rfl, ?_⟩
      rw [e1]
      refine iteF ⟨_, rfl, p, _, 0, _, rfl, rfl, hS, rfl, rfl, _, rfl, ?_⟩
      rw [e2]
      refine iteF ⟨_, rfl, p, _, 0, _, rfl, rfl, hS, rfl, rfl, _, rfl, ?_⟩
      rw [e3]
      refine iteF ⟨_, rfl, p, _, 2, _, rfl, rfl, hS, rfl, rfl, _, rfl, ?_⟩
      rw [decide_eq_true rfl]
      exact iteT ⟨_, rfl, p, _, 1, _, rfl, rfl, hS, rfl, fun y dy ny ndy ne => mk_take ok ny ndy fun H' s mv => ⟨rfl, k _ H' s mv⟩⟩
    · have a1 : 1 ≤ a := ok.2.1
      refine ⟨_, rfl, p, _, 0, _, rfl, rfl, hS, rfl, rfl, _, rfl, ?_⟩
      rw [e1]
      refine iteF ⟨_, rfl, p, _, 0, _, rfl, rfl, hS, rfl, rfl, _, rfl, ?_⟩
      rw [e2]
      refine iteF ⟨_, rfl, p, _, 0, _, rfl, rfl, hS, rfl, rfl, _, rfl, ?_⟩
      rw [e3]
      refine iteF ⟨_, rfl, p, _, 2, _, rfl, rfl, hS, rfl, rfl, _, rfl, ?_⟩
      rw [decide_eq_false (show ¬ V.int a = V.int 0 from fun z => by injection z with z; omega)]
      exact iteF ⟨_, rfl, p, _, 1, _, rfl, rfl, hS, rfl, _, rfl, p, _, 2, _, rfl, rfl, hS, rfl, fun y dy ny ndy ne => mk_takeBy ok.1 ok.2 ny ndy fun H' s mv => ⟨rfl, k _ H' s mv⟩⟩
    · refine ⟨_, rfl, p, _, 0, _, rfl, rfl, hS, rfl, rfl, _, rfl, ?_⟩
      rw [e4]
      refine iteF ⟨_, rfl, p, _, 0, _, rfl, rfl, hS, rfl, rfl, _, rfl, ?_⟩
      rw [e5]
      refine iteF ⟨_, rfl, p, _, 0, _, rfl, rfl, hS, rfl, rfl, _, rfl, ?_⟩
      rw [decide_eq_true rfl]
      exact iteT ⟨_, rfl, p, _, 1, _, rfl, rfl, hS, rfl, _, rfl, p, _, 2, _, rfl, rfl, hS, rfl, fun y dy ny ndy ne => mk_right ok.1 ok.2 ny ndy fun H' s mv => ⟨rfl, k _ H' s mv⟩⟩
    · refine ⟨_, rfl, p, _, 0, _, rfl, rfl, hS, rfl, rfl, _, rfl, ?_⟩
      rw [e6]
      refine iteF ⟨_, rfl, p, _, 0, _, rfl, rfl, hS, rfl, rfl, _, rfl, ?_⟩
      rw [decide_eq_true rfl]
      exact iteT fun y dy ny ndy ne => k _ _ (made_same ny ndy) ⟨y, dy, rfl, upd_same⟩
end
end V3

set_option Elab.async false
set_option linter.all false
set_option maxRecDepth 100000
/-! x[a:b] by an own __getitem__ -/
namespace V3
open PySem PySem.Spec PyProof.Rows L2
section
variable {X : Cx} {n : Nat}
abbrev GetF (X : Cx) (n : Nat) (FF : Addr → Sp → XK → Prop) : Prop := ∀ C sp E, FF C sp E → ∃ (CX : CXT) (f : Addr) (fd : FuncData) (ps : List Str), FnOk X.prog X.w X.K X.mg X.base CX n f fd ps sp ∧ (GetCls X.K C f ∧ PySem.W.noSeq X.K C = true) ∧ Binds X.K fd ps [] ∧ Passes CX X E
theorem GetF.plain {FF : Addr → Sp → XK → Prop} (hF : GetF X n FF) : ∀ C sp E, FF C sp E → ∃ (CX : CXT) (f : Addr) (fd : FuncData) (ps : List Str), FnOk X.prog X.w X.K X.mg X.base CX n f fd ps sp ∧ GetCls X.K C f ∧ Binds X.K fd ps [] ∧ Passes CX X E := fun C sp E h => by
  obtain ⟨CX, f, fd, ps, F, ec, bi, hx⟩ := hF C sp E h
  exact ⟨CX, f, fd, ps, F, ec.1, bi, hx⟩
theorem sub_own2 {FF : Addr → Sp → XK → Prop} (hF : GetF X n FF) (hr : Room n X.A)
    {value slice : Expr} {pins : List (Addr × Obj)} {s : Shared} {σ : L2.St} {H : Hp} {x y : V} {v u : Value} {Q : VK} (I : Inv X pins σ H s) (rx : RelV x v) (ry : RelV y u) (hq : rIxO FF x y H Q)
    (hsl : ∀ a : Addr, subscripted slice true (.ref a) u = operate [u, .ref a] (getItem (.ref a) u)) : wpAny (model X.prog X.w) X.A (subscriptTail value slice v u) (EP X pins σ Q) X.xe s := by
  obtain ⟨a, C, dx, fs, sp, E, rfl, ha, ff, hsp⟩ := hq
  obtain ⟨CX, f, fd, ps, F, ⟨ec, ns⟩, bi, hx⟩ := hF C sp E ff
  cases rx
  obtain ⟨mA, J, _⟩ := ins_get I.hok ha
  obtain ⟨od, J, _⟩ := J.look
  obtain ⟨m, hFr⟩ := I.fr
  have fi := ec.fi
  unfold PySem.W.fnIn at fi
  split at fi
  · rename_i e
    unfold subscriptTail getitemInPython
    refine wpAny_bind (wpAny_bind (wpAny_bind (J.type.here ((PySem.W.looks_findIn I.kIn ec.at_).here ?_))))
    dsimp only
    refine wpAny_bind (wpAny_load (I.kIn _ _ e) (wpAny_pure ?_))
    dsimp only
    rw [hsl]
    refine wpAny_bind (PyProof.Rows.wpAny_operate' (PySem.W.getItem_K hFr I.ok.mod.kin J ns ec.at_ ec.fn (wpAny_mono (run_own (x := .ref a) (y := y) ⟨hr, rfl⟩ F bi hx I rfl ry hsp) (fun v s' z => ?_) fun _ _ z => z)))
    exact wpAny_bind (wpAny_letTemporaryGo (wpAny_pure z))
  · cases fi
theorem pe_slO2 {FF : Addr → Sp → XK → Prop} (hF : GetF X n FF) (hr : Room n X.A)
    {e : Expr} {te : TE} {lo hi : Option Expr} {tl th : TO} {p2 pos : Pos} (he : PE X e te) (hl : PO X lo tl) (hu : PO X hi th)
    (hsl : ∀ (o : Addr) (u : Value), subscripted (.Slice lo hi none p2) true (.ref o) u = operate [u, .ref o] (getItem (.ref o) u) := by intro _ _; with_unfolding_all rfl) :
    PE X (.Subscript e (.Slice lo hi none p2) pos) (tSlO FF te tl th tNoPart) := by
  refine ⟨fun pins s σ H Q I h => ?_⟩
  refine Subscript_ (thn (he.run pins s σ H _ I h) fun v s1 ⟨x, H1, I1, r1, q1⟩ => ?_)
  refine wpAny_Slice (thn (hl.run pins s1 σ H1 _ I1 q1) fun vl s2 ⟨l, H2, I2, pl, q2⟩ =>
    thn (hu.run pins s2 σ H2 _ I2 q2) fun vu s3 ⟨u, H3, I3, pu, q3⟩ =>
    thn (po_none.run pins s3 σ H3 _ I3 q3) fun vk s4 ⟨k, H4, I4, pk, q4⟩ => ?_)
  have J : Inv X pins σ (upd H4 s4.heap.objs.size (SlH s4.heap.objs.size l u k)) { s4 with heap := s4.heap.push { cls := .type "slice", data := .fields #[vl, vu, vk] } } :=
    I4.laid (t' := s4.toks) (o := SlH s4.heap.objs.size l u k) (fun b ob q => Heap.get?_push_of_some _ q) (Nat.le_refl _)
      ⟨⟨vl, vu, vk, Heap.IsSliceOf.new .., pl, pu, pk⟩, ⟨_, Heap.get?_push_size _ rfl⟩, fun h1 h2 ⟨a, b, c, ⟨o, ho, hc, hd⟩, p1, p2, p3⟩ kp => ⟨a, b, c, ⟨o, kp o ho, hc, hd⟩, p1, p2, p3⟩⟩
  exact sub_own2 (y := .ref s4.heap.objs.size) hF hr J r1 rfl (q4 _ (I4.hok.fresh (Nat.le_refl _))) fun o => hsl o _
end
end V3

set_option Elab.async false
set_option linter.all false
set_option maxRecDepth 100000
namespace V3
open PySem PySem.Spec PyProof.Rows L2 TL
/-- all that the law does with histories -/
structure HiOps (P : Program) (w : World) (K : PySem.W.Frag) (mg : Str → Option Value) (base : Heap) (c : Cl) : Prop where
  g : mg "History" = some (.ref c.Hi)
  cl : HiCls K c
  iniL : ∃ (f : Addr) (fd : FuncData), FnOk P w K mg base CX0 3 f fd ["self", "moves"] (spHIM c) ∧ Mk K c.Hi f ∧ Binds K fd ["self", "moves"] []
  iniT : ∃ (f : Addr) (fd : FuncData), FnOk P w K mg base CX0 3 f fd ["self", "moves"] (spHIT K c) ∧ Mk K c.Hi f ∧ Binds K fd ["self", "moves"] []
  ini0 : ∃ (f : Addr) (fd : FuncData) (e : Addr) (ds : List Value), FnOk P w K mg base CX0 3 f fd ["self", "moves"] (spHIT K c) ∧ Mk K c.Hi f ∧ Vals [.ref e] ds ∧ Binds K fd ["self", "moves"] ds ∧ (∃ o, K.lookup e = some o ∧ o.cls = .type "tuple") ∧ ∀ H, SqT K H e []
  add : ∃ (f : Addr) (fd : FuncData), FnOk P w K mg base CX0 5 f fd ["self", "other"] (spHAddH K c) ∧ FnOk P w K mg base CX0 5 f fd ["self", "other"] (spHAddM K c) ∧ BinCls K c.Hi f .Add ∧ Binds K fd ["self", "other"] []
  get : ∃ (f : Addr) (fd : FuncData), FnOk P w K mg base CX0 5 f fd ["self", "at"] (spHGetK K c) ∧ (GetCls K c.Hi f ∧ PySem.W.noSeq K c.Hi = true) ∧ Binds K fd ["self", "at"] []
  len : ∃ (f : Addr) (fd : FuncData), FnOk P w K mg base CX0 1 f fd ["self"] (spHLenK K c) ∧ PySem.W.findIn K (.ref c.Hi) "__len__" = some (some (.ref f)) ∧ PySem.W.isFn K (.ref f) = true ∧ Binds K fd ["self"] []
  eq : ∃ (f : Addr) (fd : FuncData), FnOk P w K mg base CX0 6 f fd ["self", "other"] (spHEqK K c) ∧ EqCls K c.Hi f ∧ Binds K fd ["self", "other"] []
  str : ∃ (f : Addr) (fd : FuncData), FnOk P w K mg base CX0 4 f fd ["self"] (spHStrK K c) ∧ PySem.W.findIn K (.ref c.Hi) "__str__" = some (some (.ref f)) ∧ PySem.W.isFn K (.ref f) = true ∧ Binds K fd ["self"] []
  nf : PySem.W.notFirst K c.Hi (.ref c.Hi) = true
  inp : Silent K c.Hi [dunderI Operator.Add.info.2]
  sil : ∀ k, k < 4 → c.Hi ≠ c.at k ∧ Silent K (c.at k) [dunder Operator.Add.info.2, dunderR Operator.Add.info.2]
def FFa (K : PySem.W.Frag) (c : Cl) : Addr → Sp → XK → Prop := fun C sp _ => C = c.Hi ∧ (sp = spHAddH K c ∨ sp = spHAddM K c)
def FFg (K : PySem.W.Frag) (c : Cl) : Addr → Sp → XK → Prop := fun C sp _ => C = c.Hi ∧ sp = spHGetK K c
def FFe (K : PySem.W.Frag) (c : Cl) : Addr → Sp → XK → Prop := fun C sp _ => C = c.Hi ∧ sp = spHEqK K c
section
variable {X : Cx} {c : Cl}
theorem op_addH (T : HiOps X.prog X.w X.K X.mg X.base c) : OpF X 5 .Add (FFa X.K c) := fun C sp E h => by
  obtain ⟨rfl, h⟩ := h
  obtain ⟨f, fd, F, F2, ec, bi⟩ := T.add
  rcases h with rfl | rfl
  · exact ⟨CX0, f, fd, _, F, ec, bi, fun _ _ _ _ _ _ _ h => h.elim⟩
  · exact ⟨CX0, f, fd, _, F2, ec, bi, fun _ _ _ _ _ _ _ h => h.elim⟩
theorem op_getH (T : HiOps X.prog X.w X.K X.mg X.base c) : GetF X 5 (FFg X.K c) := fun C sp E h => by
  obtain ⟨rfl, rfl⟩ := h
  obtain ⟨f, fd, F, ec, bi⟩ := T.get
  exact ⟨CX0, f, fd, _, F, ec, bi, fun _ _ _ _ _ _ _ h => h.elim⟩
theorem op_eqsH (T : HiOps X.prog X.w X.K X.mg X.base c) : ∀ C sp E, FFe X.K c C sp E → ∃ (CX : CXT) (f : Addr) (fd : FuncData) (ps : List Str), FnOk X.prog X.w X.K X.mg X.base CX 6 f fd ps sp ∧ EqCls X.K C f ∧ Binds X.K fd ps [] ∧ Passes CX X E := fun C sp E h => by
  obtain ⟨rfl, rfl⟩ := h
  obtain ⟨f, fd, F, ec, bi⟩ := T.eq
  exact ⟨CX0, f, fd, _, F, ec, bi, fun _ _ _ _ _ _ _ h => h.elim⟩
def rStrHK (K : PySem.W.Frag) (c : Cl) : List V → Hp → VK → Prop := fun xs H Q => ∃ v ms, xs = [v] ∧ HiK K c H v ms ∧ (∀ m ∈ ms, m.ok) ∧ ms.length ≤ 1000 ∧ ∀ H', Same H H' → Q (.str (hText ms)) H'
theorem call_strHK (T : HiOps X.prog X.w X.K X.mg X.base c) (room : Room 6 X.A) : CallR X (.type "str") (rStrHK X.K c) := by
  intro pins s σ H xs us Q I r h
  obtain ⟨v, ms, rfl, hi, ok, n, q⟩ := h
  obtain ⟨f, fd, G, at_, isf, bi⟩ := T.str
  obtain ⟨x, dx, t, ys, rfl, hx, ht, mv⟩ := id hi
  exact call_strO (E := fun _ _ _ => False) G at_ isf bi pass0 room pins s σ H _ us Q I r ⟨x, dx, _, rfl, hx, _, ms, rfl, hi, ok, n, fun H' s => ⟨_, rfl, q H' s⟩⟩
def rLenHK (K : PySem.W.Frag) (c : Cl) : List V → Hp → VK → Prop := fun xs H Q => ∃ v ms, xs = [v] ∧ HiK K c H v ms ∧ ms.length ≤ 1000 ∧ Q (.int (ms.length : Int)) H
theorem call_lenHK (T : HiOps X.prog X.w X.K X.mg X.base c) (room : Room 2 X.A) : CallR X (.builtin "len") (rLenHK X.K c) := by
  intro pins s σ H xs us Q I r h
  obtain ⟨v, ms, rfl, hi, n, q⟩ := h
  obtain ⟨f, fd, G, at_, isf, bi⟩ := T.len
  obtain ⟨x, dx, t, ys, rfl, hx, ht, mv⟩ := id hi
  refine call_lenO (E := fun _ _ _ => False) G at_ isf bi pass0 room pins s σ H _ us Q I r ⟨x, dx, _, rfl, hx, _, ms, rfl, hi, _, rfl, ⟨by omega, ?_⟩, q⟩
  exact Int.lt_of_le_of_lt (b := 1000) (by omega) (by decide)
end
section
variable {P : Program} {w : World} {K : PySem.W.Frag} {mg : Str → Option Value} {base : Heap} {c : Cl} {W : Hp → Prop} {σ : L2.St} {ta tb te : TE} {ms ns : List Mv}
/-- a history of these moves -/
abbrev isH (K : PySem.W.Frag) (c : Cl) (ms : List Mv) : V → Hp → Prop := fun v H => HiK K c H v ms
theorem st_h : StV (isH K c ms) := fun _ _ _ s h => h.same s
abbrev StW (W : Hp → Prop) : Prop := ∀ H H', Same H H' → W H → W H'
theorem ev_addH (T : HiOps P w K mg base c) (sw : StW W) (ha : EvV W σ ta (isH K c ms)) (hb : EvV W σ tb (isH K c ns)) (n : ms.length + ns.length ≤ 1000) : EvV W σ (tOp (rBinD K .Add false (FFa K c)) ta tb) (isH K c (ms ++ ns)) :=
  ev_op st_h ha hb fun x y H Q w hx hy k => by
    obtain ⟨a, dx, q, xs, rfl, ex, hq, mv⟩ := id hx
    obtain ⟨b, dy, q2, ys, rfl, ey, hq2, mv2⟩ := id hy
    exact ⟨a, c.Hi, dx, _, b, c.Hi, dy, _, spHAddH K c, E0, rfl, rfl, ex, ey, .inl rfl, (fun z => nomatch z), ⟨rfl, .inl rfl⟩, _, _, ms, ns, rfl, hx, hy, n, fun v H' s h => k v H' s (sw _ _ s w) h⟩
theorem ev_eqH (T : HiOps P w K mg base c) (sw : StW W) {neg : Bool} (ha : EvV W σ ta (isH K c ms)) (hb : EvV W σ tb (isH K c ns)) (mo : ∀ m ∈ ms, m.ok) (no : ∀ m ∈ ns, m.ok) : EvV W σ (tOp (rEqO K 6 (FFe K c) neg) ta tb) (isBv (decide (ms = ns) != neg)) :=
  ev_op st_h ha hb fun x y H Q w hx hy k => by
    obtain ⟨a, dx, q, xs, rfl, ex, hq, mv⟩ := id hx
    obtain ⟨b, dy, q2, ys, rfl, ey, hq2, mv2⟩ := id hy
    exact ⟨a, c.Hi, dx, _, b, c.Hi, dy, _, spHEqK K c, E0, rfl, rfl, ex, ey, ⟨rfl, rfl⟩, T.nf, _, _, ms, ns, rfl, hx, hy, mo, no, fun H' s => ⟨_, rfl, k _ H' s (sw _ _ s w) rfl⟩⟩
theorem ev_neH (T : HiOps P w K mg base c) (sw : StW W) (ha : EvV W σ ta (isH K c ms)) (hb : EvV W σ tb (isH K c ns)) (mo : ∀ m ∈ ns, m.ok) (e : ms = ns) : EvB W σ (tTest (tOp (rEqO K 6 (FFe K c) true) ta tb)) false := by
  subst e
  have z := ev_test (ev_eqH (neg := true) T sw ha hb mo mo)
  rw [decide_eq_true rfl] at z
  exact z
theorem ev_strH (T : HiOps P w K mg base c) (sw : StW W) (ha : EvV W σ ta (isH K c ms)) (mo : ∀ m ∈ ms, m.ok) (n : ms.length ≤ 1000) : EvV W σ (tCB (rStrHK K c) (tCons ta tNil)) (isSv (hText ms)) :=
  ev_cb1 ha fun x H Q w hx k => ⟨x, ms, rfl, hx, mo, n, fun H' s => k _ H' s (sw _ _ s w) rfl⟩
theorem ev_lenH (T : HiOps P w K mg base c) (ha : EvV W σ ta (isH K c ms)) (n : ms.length ≤ 1000) : EvV W σ (tCB (rLenHK K c) (tCons ta tNil)) (isIv (ms.length : Int)) :=
  ev_cb1 ha fun x H Q w hx k => ⟨x, ms, rfl, hx, n, k _ H (Same.refl H) w rfl⟩
theorem ev_slH (T : HiOps P w K mg base c) (sw : StW W) {lo hi st : Option Int} {tl th ts : TO} (ha : EvV W σ ta (isH K c ms)) (hl : EvO W σ tl lo) (hh : EvO W σ th hi) (hs : EvO W σ ts st) (h0 : st ≠ some 0) (n : (stepL ms lo hi st).length ≤ 1000) :
    EvV W σ (tSlO (FFg K c) ta tl th ts) (isH K c (stepL ms lo hi st)) := fun H Q w k =>
  ha H _ w fun x H1 s1 w1 hx => hl H1 _ w1 fun H2 s2 w2 => hh H2 _ w2 fun H3 s3 w3 => hs H3 _ w3 fun H4 s4 w4 => fun p np => by
    have s5 : Same H4 (upd H4 p (SlH p lo hi st)) := Same.new np
    have hx4 := ((hx.same s2).same s3).same s4
    obtain ⟨a, dx, q, xs, rfl, ex, hq, mv⟩ := id (hx4.same s5)
    exact ⟨a, c.Hi, dx, _, spHGetK K c, E0, rfl, ex, ⟨rfl, rfl⟩, _, p, ms, lo, hi, st, rfl, hx4.same s5, upd_same, h0, n, fun v H' s h => k v H' (((((s1.trans s2).trans s3).trans s4).trans s5).trans s) (sw _ _ (s5.trans s) w4) h⟩
/-- History(), by its default -/
theorem ev_newH {e : Addr} (sw : StW W) (he : (∃ o, K.lookup e = some o ∧ o.cls = .type "tuple") ∧ ∀ H, SqT K H e []) : EvV W σ (tMake c.Hi (spHIT K c) [.ref e] E0 tNil) (isH K c []) := fun H Q w k => fun y dy ny ndy _ =>
  mk_histT (a := e) (xs := []) (ms := []) (.inr he) trivial (by decide) ny ndy fun H' s a => ⟨rfl, k _ H' s (sw _ _ s w) a⟩
/-- the moves of a history -/
theorem ev_moves (C : HiCls K c) (ha : EvV W σ ta (isH K c ms)) : EvV W σ (tFld K ta "moves") (fun v H => ∃ q xs, v = .ref q ∧ TupH K H q xs ∧ MvsAt c H xs ms) := fun H Q w k =>
  ha H _ w fun x H1 s1 w1 hx => by
    obtain ⟨a, dx, q, xs, rfl, ex, hq, mv⟩ := hx
    exact ⟨a, c.Hi, dx, _, _, rfl, ex, C.cl, C.nM, rfl, k _ H1 s1 w1 ⟨q, xs, rfl, hq, mv⟩⟩
end
end V3

set_option Elab.async false
set_option linter.all false
set_option maxRecDepth 100000
namespace V3
open PySem L2 TL RZ
theorem text_inj_list : ∀ {ms ns : List Mv}, (∀ m ∈ ms, m.ok) → (∀ m ∈ ns, m.ok) → ms.map Mv.text = ns.map Mv.text → ms = ns
  | [], [], _, _, _ => rfl
  | [], _ :: _, _, _, h => by simp at h
  | _ :: _, [], _, _, h => by simp at h
  | m :: ms, n :: ns, a, b, h => by
    rw [List.map_cons, List.map_cons] at h
    injection h with h1 h2
    rw [text_inj (a m (List.mem_cons_self ..)) (b n (List.mem_cons_self ..)) h1, text_inj_list (fun x hx => a x (List.mem_cons_of_mem _ hx)) (fun x hx => b x (List.mem_cons_of_mem _ hx)) h2]
theorem hText_nil : (hText []).length = 0 := by decide +kernel
theorem hText_inj {ms ns : List Mv} (a : ∀ m ∈ ms, m.ok) (b : ∀ m ∈ ns, m.ok) (h : hText ms = hText ns) : ms = ns := by
  by_cases e : ms = []
  · by_cases e2 : ns = []
    · rw [e, e2]
    · rw [e] at h
      exact absurd (h ▸ hText_nil) (hText_pos e2)
  · by_cases e2 : ns = []
    · rw [e2] at h
      exact absurd (h ▸ hText_nil) (hText_pos e)
    · refine text_inj_list a b ?_
      rw [← split_texts e a, ← split_texts e2 b, h]
theorem hText_dec {ms ns : List Mv} (a : ∀ m ∈ ms, m.ok) (b : ∀ m ∈ ns, m.ok) : decide (hText ms = hText ns) = decide (ms = ns) := by
  by_cases e : ms = ns
  · rw [decide_eq_true e, decide_eq_true (by rw [e])]
  · rw [decide_eq_false e, decide_eq_false fun z => e (hText_inj a b z)]
theorem walk_zipT {K : PySem.W.Frag} {a b : Addr} {xs ys : List V} {n : Nat} (hn : n = min xs.length ys.length) : Walk (ItzT K a b) n (fun H => SqT K H a xs ∧ SqT K H b ys) (YPair (fun i => xs[i]?) (fun i => ys[i]?)) := by
  subst hn
  refine ⟨fun i _ hi q => ?_, fun _ q => ⟨xs, ys, q.1, q.2, by omega⟩, fun i H v H' _ q y => ?_⟩
  · have h1 : i < xs.length := by omega
    have h2 : i < ys.length := by omega
    exact ⟨xs, ys, xs[i], ys[i], q.1, q.2, by simp [h1], by simp [h2]⟩
  · obtain ⟨T, x, z, h1, h2, h3, h4, h5⟩ := y
    exact ⟨T, x, z, h1, h2, h3, h4 xs q.1, h5 ys q.2⟩
/-- all but lists is as it was -/
def KeepL (H H' : Hp) : Prop := ∀ c o, (∀ xs, o ≠ .lst xs) → H c = some o → H' c = some o
theorem KeepL.of {H H' : Hp} (s : Same H H') : KeepL H H' := fun c o _ h => s c o h
theorem KeepL.trans {H H1 H2 : Hp} (s : KeepL H H1) (t : KeepL H1 H2) : KeepL H H2 := fun c o n h => t c o n (s c o n h)
theorem KeepL.lst {H : Hp} {D : Addr} {xs : List V} {o : HO} (hD : H D = some (.lst xs)) : KeepL H (upd H D o) := fun c u n h => by
  have nc : c ≠ D := fun e => by
    subst e
    rw [hD] at h
    injection h with h
    exact n _ h.symm
  rw [upd_ne nc]
  exact h
theorem KeepL.pre {H H' : Hp} {b : Addr} {xs : List V} (hb : H b = some (.lst xs)) (s : SameX b H H') : KeepL H H' := fun c u n h => by
  have nc : c ≠ b := fun e => by
    subst e
    rw [hb] at h
    injection h with h
    exact n _ h.symm
  exact s c u nc h
theorem MvAt.keepL {c : Cl} {H H' : Hp} {v : V} {m : Mv} (h : MvAt c H v m) (s : KeepL H H') : MvAt c H' v m := by
  obtain ⟨x, dx, e, hx⟩ := h
  exact ⟨x, dx, e, s _ _ (fun _ z => by cases m <;> cases z) hx⟩
theorem MvsAt.keepL {c : Cl} {H H' : Hp} (s : KeepL H H') : ∀ {xs : List V} {ms : List Mv}, MvsAt c H xs ms → MvsAt c H' xs ms
  | [], [], _ => trivial
  | _ :: _, _ :: _, h => ⟨h.1.keepL s, MvsAt.keepL s h.2⟩
  | [], _ :: _, h => h.elim
  | _ :: _, [], h => h.elim
theorem HiK.keepL {K : PySem.W.Frag} {c : Cl} {H H' : Hp} {v : V} {ms : List Mv} (h : HiK K c H v ms) (s : KeepL H H') : HiK K c H' v ms := by
  obtain ⟨x, dx, q, xs, e, hx, hq, mv⟩ := h
  exact ⟨x, dx, q, xs, e, s _ _ (fun _ z => by cases z) hx, hq.elim (fun z => .inl (s _ _ (fun _ z => by cases z) z)) .inr, mv.keepL s⟩
/-- a list of moves at an address that is neither D nor the box -/
def LsAt (c : Cl) (D b : Addr) (H : Hp) (v : V) (ms : List Mv) : Prop := ∃ a xs, v = .ref a ∧ a ≠ D ∧ a ≠ b ∧ H a = some (.lst xs) ∧ MvsAt c H xs ms
/-- a row of things, one by one -/
def Row {α : Type} (R : V → α → Prop) (vs : List V) (as : List α) : Prop := vs.length = as.length ∧ ∀ (i : Nat) (a : α), as[i]? = some a → ∃ v, vs[i]? = some v ∧ R v a
theorem Row.nil {α : Type} {R : V → α → Prop} : Row R [] [] := ⟨rfl, fun i a h => by simp at h⟩
theorem Row.push {α : Type} {R : V → α → Prop} {vs : List V} {as : List α} {v : V} {a : α} (d : Row R vs as) (h : R v a) : Row R (vs ++ [v]) (as ++ [a]) := by
  refine ⟨by simp [d.1], fun i x hx => ?_⟩
  by_cases l : i < as.length
  · rw [List.getElem?_append_left l] at hx
    obtain ⟨w, e, r⟩ := d.2 i x hx
    exact ⟨w, by rw [List.getElem?_append_left (by rw [d.1]; exact l)]; exact e, r⟩
  · have k : i = as.length := by
      have z := (List.getElem?_eq_some_iff.mp hx).1
      rw [List.length_append, List.length_singleton] at z
      omega
    subst k
    rw [List.getElem?_append_right (Nat.le_refl _), Nat.sub_self] at hx
    have e : a = x := by simpa using hx
    subst e
    exact ⟨v, by rw [← d.1, List.getElem?_append_right (Nat.le_refl _), Nat.sub_self]; rfl, h⟩
theorem Row.imp {α : Type} {R S : V → α → Prop} {vs : List V} {as : List α} (d : Row R vs as) (h : ∀ v a, R v a → S v a) : Row S vs as := ⟨d.1, fun i a e => by
  obtain ⟨v, e2, r⟩ := d.2 i a e
  exact ⟨v, e2, h v a r⟩⟩
theorem Row.at {α : Type} {R : V → α → Prop} {vs : List V} {as : List α} (d : Row R vs as) {i : Nat} {v : V} (h : vs[i]? = some v) : ∃ a, as[i]? = some a ∧ R v a := by
  have l := (List.getElem?_eq_some_iff.mp h).1
  have e := List.getElem?_eq_getElem (l := as) (i := i) (by rw [← d.1]; exact l)
  obtain ⟨w, q, t⟩ := d.2 i _ e
  rw [h] at q
  injection q with q
  subst q
  exact ⟨_, e, t⟩
theorem Row.three {α : Type} {R : V → α → Prop} {vs : List V} {as : List α} (d : Row R vs as) (h : as.length = 3) : ∃ v1 v2 v3 a1 a2 a3, vs = [v1, v2, v3] ∧ as = [a1, a2, a3] ∧ R v1 a1 ∧ R v2 a2 ∧ R v3 a3 := by
  obtain ⟨l, r⟩ := d
  have three : ∀ {β : Type} {l : List β}, l.length = 3 → ∃ a b c, l = [a, b, c] := fun {β l} e => by
    match l, e with
    | [a, b, c], _ => exact ⟨a, b, c, rfl⟩
  obtain ⟨a1, a2, a3, rfl⟩ := three h
  obtain ⟨v1, v2, v3, rfl⟩ := three (l.trans h)
  obtain ⟨w1, e1, r1⟩ := r 0 a1 rfl
  obtain ⟨w2, e2, r2⟩ := r 1 a2 rfl
  obtain ⟨w3, e3, r3⟩ := r 2 a3 rfl
  cases e1
  cases e2
  cases e3
  exact ⟨_, _, _, _, _, _, rfl, rfl, r1, r2, r3⟩
theorem lt_size {n : Nat} (h : n ≤ 1000) : n < sizeLine := Nat.lt_of_le_of_lt h (by decide)
theorem eqM_at {K : PySem.W.Frag} {c : Cl} {MV : Addr} {H : Hp} {u v : V} {m n : Mv} {neg : Bool} {R : VK} (C : MvCls K c MV) (a6 : MvAt c H u m) (a8 : MvAt c H v n) (mo : m.ok) (no : n.ok) (k : R (.bl (decide (m.text = n.text) != neg)) H) : rEqO K 4 (FFm c) neg u v H R := by
  obtain ⟨x, dx, rfl, hx⟩ := id a6
  obtain ⟨y, dy, rfl, hy⟩ := id a8
  obtain ⟨fs, eo⟩ := mv_at c m dx
  obtain ⟨gs, eo2⟩ := mv_at c n dy
  exact ⟨x, c.at m.kind, dx, fs, y, c.at n.kind, dy, gs, spMEq c, E0, rfl, rfl, by rw [hx, eo], by rw [hy, eo2], ⟨m.kind, kind_lt m, rfl, rfl⟩, C.nf _ (kind_lt m) _ (kind_lt n), _, _, m, n, rfl, a6, a8, mo, no, _, rfl, k⟩
section
variable {P : Program} {w : World} {K : PySem.W.Frag} {mg : Str → Option Value} {base : Heap} {c : Cl} {W : Hp → Prop} {σ : L2.St} {ta tb te : TE} {ms ns : List Mv}
theorem addM_at {H : Hp} {u v : V} {m : Mv} {inp : Bool} {Q : VK} (T : HiOps P w K mg base c) (hu : HiK K c H u ms) (hm : MvAt c H v m) (n : ms.length + 1 ≤ 1000) (k : ∀ w H', Same H H' → HiK K c H' w (ms ++ [m]) → Q w H') : rBinD K .Add inp (FFa K c) u v H Q := by
  obtain ⟨a, dx, q, xs, rfl, ex, hq, mv⟩ := id hu
  obtain ⟨y, dy, rfl, hy⟩ := id hm
  obtain ⟨fs, eo⟩ := mv_at c m dy
  exact ⟨a, c.Hi, dx, _, y, c.at m.kind, dy, fs, spHAddM K c, E0, rfl, rfl, ex, by rw [hy, eo], .inr (T.sil _ (kind_lt m)), fun _ => T.inp, ⟨rfl, .inr rfl⟩, _, _, ms, m, rfl, hu, hm, n, k⟩
theorem ev_neg {i : Int} (ha : EvV W σ ta (isIv i)) : EvV W σ (tUn (rU fun i => .int (-i)) ta) (isIv (-i)) := fun H Q w k => ha H _ w fun v H' s w' e => ⟨i, e, k _ H' s w' rfl⟩
/-- the parts that the law draws -/
theorem stp_take {α : Type} {xs : List α} {z : Int} (h0 : 0 ≤ z) (h1 : z ≤ xs.length) : stepL xs none (some z) none = xs.take z.toNat := by
  have e : z = ((z.toNat : Nat) : Int) := by omega
  rw [e]
  exact step_to xs (by omega)
theorem stp_drop {α : Type} {xs : List α} {z : Int} (h0 : 0 ≤ z) (h1 : z ≤ xs.length) : stepL xs (some z) none none = xs.drop z.toNat := by
  have e : z = ((z.toNat : Nat) : Int) := by omega
  rw [e]
  exact step_from xs (by omega)
end
end V3

set_option Elab.async false
set_option linter.all false
set_option maxRecDepth 100000
namespace V3
open PySem L2 TL
theorem bounds_adj (lo hi : Option Int) {c : Int} (n : Nat) (h : c ≠ 0) : (sliceBounds lo hi (some c) n).1 = (Builtin.Slice.sliceAdjust lo hi c (n : Int)).1 ∧ (sliceBounds lo hi (some c) n).2.1 = (Builtin.Slice.sliceAdjust lo hi c (n : Int)).2 ∧ (sliceBounds lo hi (some c) n).2.2 = c := by
  refine ⟨?_, ?_, rfl⟩
  · cases lo with
    | none =>
      show (if (c : Int) > 0 then (0 : Int) else (n : Int) - 1) = (if c < 0 then (if c < 0 then (n : Int) - 1 else n) else (if c < 0 then -1 else 0))
      split <;> split <;> (try split) <;> omega
    | some v =>
      show (if c > 0 then max 0 (min (if v < 0 then v + (n : Int) else v) n) else max (-1) (min (if v < 0 then v + (n : Int) else v) ((n : Int) - 1))) = (if v < 0 then max (v + (n : Int)) (if c < 0 then -1 else 0) else min v (if c < 0 then (n : Int) - 1 else n))
      simp only [Int.max_def, Int.min_def]
      repeat' split
      all_goals omega
  · cases hi with
    | none =>
      show (if (c : Int) > 0 then (n : Int) else -1) = (if c < 0 then (if c < 0 then -1 else 0) else (if c < 0 then (n : Int) - 1 else n))
      split <;> split <;> (try split) <;> omega
    | some v =>
      show (if c > 0 then max 0 (min (if v < 0 then v + (n : Int) else v) n) else max (-1) (min (if v < 0 then v + (n : Int) else v) ((n : Int) - 1))) = (if v < 0 then max (v + (n : Int)) (if c < 0 then -1 else 0) else min v (if c < 0 then (n : Int) - 1 else n))
      simp only [Int.max_def, Int.min_def]
      repeat' split
      all_goals omega
theorem range_places (a b c : Int) (h : c ≠ 0) : sliceRange a b c = (List.range (Builtin.Slice.slicePlaces a b c)).map fun (k : Nat) => (a + (k : Int) * c).toNat := by
  unfold sliceRange Builtin.Slice.slicePlaces
  have e : (if c > 0 then (if a < b then (b - a + c - 1) / c else 0) else (if a > b then (a - b - c - 1) / (-c) else 0)) = (if c > 0 then (if a < b then (b - a - 1) / c + 1 else 0) else (if a > b then (a - b - 1) / (-c) + 1 else 0)) := by
    by_cases q : c > 0
    · rw [if_pos q, if_pos q]
      by_cases r : a < b
      · rw [if_pos r, if_pos r]
        have z : b - a + c - 1 = (b - a - 1) + 1 * c := by omega
        rw [z, Int.add_mul_ediv_right _ _ h]
      · rw [if_neg r, if_neg r]
    · rw [if_neg q, if_neg q]
      by_cases r : a > b
      · rw [if_pos r, if_pos r]
        have z : a - b - c - 1 = (a - b - 1) + 1 * (-c) := by omega
        rw [z, Int.add_mul_ediv_right _ _ (by omega)]
      · rw [if_neg r, if_neg r]
  dsimp only
  rw [e]
  refine List.map_congr_left fun k _ => ?_
  rw [Int.mul_comm]
theorem step_same (xs : List V) (lo hi : Option Int) {st : Option Int} (h : st ≠ some 0) : stepV xs lo hi st = stepL xs lo hi st := by
  unfold stepV stepL HT.idxT
  cases st with
  | none =>
    obtain ⟨e1, e2, e3⟩ := bounds_adj lo hi (c := 1) xs.length (by decide)
    have z : sliceBounds lo hi none xs.length = sliceBounds lo hi (some 1) xs.length := rfl
    rw [z, e1, e2, e3, range_places _ _ _ (by decide)]
    rfl
  | some c =>
    have hc : c ≠ 0 := fun e => h (by rw [e])
    obtain ⟨e1, e2, e3⟩ := bounds_adj lo hi (c := c) xs.length hc
    rw [e1, e2, e3, range_places _ _ _ hc]
    rfl
theorem cut_same (xs : List V) (lo hi : Option Int) : cutV xs lo hi = stepL xs lo hi none := by
  rw [step_one]
  rfl
/-- what a slice picks of drawn things -/
theorem Row.pick {α : Type} {R : V → α → Prop} {vs : List V} {as : List α} (d : Row R vs as) : ∀ idx : List Nat, Row R (idx.filterMap fun i => vs[i]?) (idx.filterMap fun i => as[i]?)
  | [] => Row.nil
  | i :: idx => by
    have ih := Row.pick d idx
    rw [List.filterMap_cons, List.filterMap_cons]
    cases e : as[i]? with
    | none =>
      have l := List.getElem?_eq_none_iff.mp e
      have e2 : vs[i]? = none := List.getElem?_eq_none (by rw [d.1]; exact l)
      rw [e2]
      exact ih
    | some a =>
      obtain ⟨v, ev, r⟩ := d.2 i a e
      rw [ev]
      refine ⟨by simp [ih.1], fun j b hb => ?_⟩
      cases j with
      | zero =>
        have z : a = b := by simpa using hb
        subst z
        exact ⟨v, rfl, r⟩
      | succ j =>
        obtain ⟨w, ew, rw_⟩ := ih.2 j b (by simpa using hb)
        exact ⟨w, by simpa using ew, rw_⟩
theorem Row.step {α : Type} {R : V → α → Prop} {vs : List V} {as : List α} (d : Row R vs as) (lo hi st : Option Int) : Row R (stepL vs lo hi st) (stepL as lo hi st) := by
  unfold stepL
  rw [d.1]
  exact d.pick _
theorem step_mem {α : Type} {xs : List α} {lo hi st : Option Int} {x : α} (h : x ∈ stepL xs lo hi st) : x ∈ xs := by
  obtain ⟨i, _, e⟩ := List.mem_filterMap.mp h
  exact List.mem_of_getElem? e
theorem places_le (a b c : Int) {n : Nat} (h : c ≠ 0) (h1 : -1 ≤ a ∧ a ≤ n) (h2 : -1 ≤ b ∧ b ≤ n) : Builtin.Slice.slicePlaces a b c ≤ n + 2 := by
  unfold Builtin.Slice.slicePlaces
  have le : ∀ x d : Int, 0 ≤ x → 1 ≤ d → x / d ≤ x := fun x d hx hd => Int.ediv_le_self _ hx
  by_cases q : c > 0
  · rw [if_pos q]
    by_cases r : a < b
    · rw [if_pos r]
      have z := le (b - a - 1) c (by omega) (by omega)
      omega
    · rw [if_neg r]
      omega
  · rw [if_neg q]
    by_cases r : a > b
    · rw [if_pos r]
      have z := le (a - b - 1) (-c) (by omega) (by omega)
      omega
    · rw [if_neg r]
      omega
theorem adj_in (lo hi : Option Int) (c : Int) (n : Nat) : (-1 ≤ (Builtin.Slice.sliceAdjust lo hi c (n : Int)).1 ∧ (Builtin.Slice.sliceAdjust lo hi c (n : Int)).1 ≤ n) ∧ (-1 ≤ (Builtin.Slice.sliceAdjust lo hi c (n : Int)).2 ∧ (Builtin.Slice.sliceAdjust lo hi c (n : Int)).2 ≤ n) := by
  refine ⟨?_, ?_⟩
  · cases lo with
    | none =>
      show -1 ≤ (if c < 0 then (if c < 0 then (n : Int) - 1 else n) else (if c < 0 then -1 else 0)) ∧ (if c < 0 then (if c < 0 then (n : Int) - 1 else n) else (if c < 0 then -1 else 0)) ≤ (n : Int)
      split <;> (try split) <;> omega
    | some v =>
      show -1 ≤ (if v < 0 then max (v + (n : Int)) (if c < 0 then -1 else 0) else min v (if c < 0 then (n : Int) - 1 else n)) ∧ (if v < 0 then max (v + (n : Int)) (if c < 0 then -1 else 0) else min v (if c < 0 then (n : Int) - 1 else n)) ≤ (n : Int)
      simp only [Int.max_def, Int.min_def]
      repeat' split
      all_goals omega
  · cases hi with
    | none =>
      show -1 ≤ (if c < 0 then (if c < 0 then -1 else 0) else (if c < 0 then (n : Int) - 1 else n)) ∧ (if c < 0 then (if c < 0 then -1 else 0) else (if c < 0 then (n : Int) - 1 else n)) ≤ (n : Int)
      split <;> (try split) <;> omega
    | some v =>
      show -1 ≤ (if v < 0 then max (v + (n : Int)) (if c < 0 then -1 else 0) else min v (if c < 0 then (n : Int) - 1 else n)) ∧ (if v < 0 then max (v + (n : Int)) (if c < 0 then -1 else 0) else min v (if c < 0 then (n : Int) - 1 else n)) ≤ (n : Int)
      simp only [Int.max_def, Int.min_def]
      repeat' split
      all_goals omega
theorem step_short {α : Type} (xs : List α) (lo hi : Option Int) {st : Option Int} (h : st ≠ some 0) : (stepL xs lo hi st).length ≤ xs.length + 2 := by
  refine Nat.le_trans (step_len xs) ?_
  unfold HT.idxT
  rw [List.length_map, List.length_range]
  have c0 : st.getD 1 ≠ 0 := by
    cases st with
    | none => decide
    | some c => exact fun e => h (by rw [show c = 0 from e])
  obtain ⟨a, b⟩ := adj_in lo hi (st.getD 1) xs.length
  exact places_le _ _ _ c0 a b
end V3

set_option Elab.async false
set_option linter.all false
set_option maxRecDepth 100000
namespace V3
open PySem L2 TL
abbrev sMvText : Stmt := top 26
section
variable {P : Program} {w : World} {K : PySem.W.Frag} {mg : Str → Option Value} {base : Heap}
theorem scMvText : FnScope ["_law_move"] ["_law_move"] (defScope sMvText) := ⟨rfl, rfl, rfl, by decide +kernel, rfl, by decide +kernel, by decide +kernel⟩
/-- the law's own text of a move -/
theorem app0 (x : Str) : x ++ Str.empty = x := ext_tl (by
  rw [tl_append]
  simp [Str.empty, tl])
theorem empty_app (x : Str) : Str.empty ++ x = x := ext_tl (by
  rw [tl_append]
  simp [Str.empty, tl])
theorem ok_mvText {f : Addr} {fd : FuncData} (F : Fun K "_law_move_text" "_law_move_text" sMvText f fd) (zs : mg "str" = none) : FnOk P w K mg base CX0 1 f fd ["_law_move"] spText := by
  refine F.ok scMvText (fun vs H Q E h => ?_) (fun cdv A outer s H vs Q E hr h => ?_)
  · obtain ⟨v, m, rfl, _⟩ := h
    rfl
  · obtain ⟨v, m, rfl, ⟨p, rfl, hp⟩, ok, q⟩ := h
    refine ⟨_, pss_cons (ps_if (pt_cmpR op_eq (pe_ix ix_tup (pv 0) pe_int (fun _ _ => rfl)) pe_str (nomark _)) (pss_one (ps_ret (pe_op op_add_str pe_str (pe_callTy call_str_int (by rfl) zs (by decide +kernel) (pa_cons (pe_ix ix_tup (pv 0) pe_int (fun _ _ => rfl)) pa_nil))))) pss_nil)
      (pss_cons (ps_if (pt_cmpR op_eq (pe_ix ix_tup (pv 0) pe_int (fun _ _ => rfl)) pe_str (nomark _)) (pss_one (ps_ret pe_str)) pss_nil)
      (pss_cons (ps_if (pt_cmpR op_eq (pe_ix ix_tup (pv 0) pe_int (fun _ _ => rfl)) pe_str (nomark _)) (pss_one (ps_ret (pe_op op_add_str (pe_op op_add_str pe_str (pe_callTy call_str_int (by rfl) zs (by decide +kernel) (pa_cons (pe_ix ix_tup (pv 0) pe_int (fun _ _ => rfl)) pa_nil)))
          (pe_ifExp (pt_cmpR op_gt (pe_ix ix_tup (pv 0) pe_int (fun _ _ => rfl)) pe_int (nomark _)) (pe_op op_add_str pe_str (pe_callTy call_str_int (by rfl) zs (by decide +kernel) (pa_cons (pe_ix ix_tup (pv 0) pe_int (fun _ _ => rfl)) pa_nil))) pe_str)))) pss_nil)
      (pss_one (ps_ret (pe_op op_add_str (pe_op op_add_str (pe_op op_add_str pe_str (pe_callTy call_str_int (by rfl) zs (by decide +kernel) (pa_cons (pe_ix ix_tup (pv 0) pe_int (fun _ _ => rfl)) pa_nil))) pe_str) (pe_callTy call_str_int (by rfl) zs (by decide +kernel) (pa_cons (pe_ix ix_tup (pv 0) pe_int (fun _ _ => rfl)) pa_nil))))))), ?_⟩
    have hS : SqT K H p m.tupV := SqT.of hp
    have e1 : decide (V.str "take" = V.str "begin") = false := by decide +kernel
    have e2 : decide (V.str "take" = V.str "shut") = false := by decide +kernel
    have e4 : decide (V.str "right" = V.str "begin") = false := by decide +kernel
    have e5 : decide (V.str "right" = V.str "shut") = false := by decide +kernel
    have e7 : decide (V.str "right" = V.str "take") = false := by decide +kernel
    have e6 : decide (V.str "shut" = V.str "begin") = false := by decide +kernel
    have l1 : ("begin " : Str).length = 6 := by decide +kernel
    have l2 : ("take " : Str).length = 5 := by decide +kernel
    have l3 : (" by " : Str).length = 4 := by decide +kernel
    have l4 : ("right " : Str).length = 6 := by decide +kernel
    have l5 : (" to " : Str).length = 4 := by decide +kernel
    rcases m with a | t | ⟨t, a⟩ | ⟨t, a⟩ | _
    · have la := num_len (am_of ok)
      refine ⟨_, rfl, p, _, 0, _, rfl, rfl, hS, rfl, rfl, _, rfl, ?_⟩
      rw [decide_eq_true rfl]
      refine iteT ⟨_, rfl, p, _, 1, _, rfl, rfl, hS, rfl, a, rfl, am_log (am_of ok), _, _, rfl, rfl, small ?_, ?_⟩
      · show ("begin " : Str).length + (num a).length ≤ 10000
        omega
      · rw [← b_text] at q
        unfold bText at q
        rw [empty_app] at q
        exact q
    · have lt := num_len (at_am ok)
      refine ⟨_, rfl, p, _, 0, _, rfl, rfl, hS, rfl, rfl, _, rfl, ?_⟩
      rw [e1]
      refine iteF ⟨_, rfl, p, _, 0, _, rfl, rfl, hS, rfl, rfl, _, rfl, ?_⟩
      rw [e2]
      refine iteF ⟨_, rfl, p, _, 0, _, rfl, rfl, hS, rfl, rfl, _, rfl, ?_⟩
      rw [decide_eq_true rfl]
      refine iteT ⟨_, rfl, p, _, 1, _, rfl, rfl, hS, rfl, t, rfl, am_log (at_am ok), _, _, rfl, rfl, small ?_, ?_⟩
      · show ("take " : Str).length + (num t).length ≤ 10000
        omega
      · refine ⟨_, rfl, p, _, 2, _, rfl, rfl, hS, rfl, _, _, rfl, rfl, _, rfl, ?_⟩
        rw [decide_eq_false (by omega)]
        refine iteF ⟨_, _, rfl, rfl, small ?_, ?_⟩
        · show ("take " ++ num t : Str).length + (Str.empty).length ≤ 10000
          rw [app_len]
          have e0 : (Str.empty).length = 0 := rfl
          omega
        · rw [← t_text] at q
          unfold tText at q
          rw [empty_app] at q
          have z : ("take " ++ num t ++ "" : Str) = "take " ++ num t := app0 _
          show Q (.str ("take " ++ num t ++ "")) H
          rw [z]
          exact q
    · have lt := num_len (at_am ok.1)
      have la := num_len (am_of ok.2)
      have a1 : 1 ≤ a := ok.2.1
      refine ⟨_, rfl, p, _, 0, _, rfl, rfl, hS, rfl, rfl, _, rfl, ?_⟩
      rw [e1]
      refine iteF ⟨_, rfl, p, _, 0, _, rfl, rfl, hS, rfl, rfl, _, rfl, ?_⟩
      rw [e2]
      refine iteF ⟨_, rfl, p, _, 0, _, rfl, rfl, hS, rfl, rfl, _, rfl, ?_⟩
      rw [decide_eq_true rfl]
      refine iteT ⟨_, rfl, p, _, 1, _, rfl, rfl, hS, rfl, t, rfl, am_log (at_am ok.1), _, _, rfl, rfl, small ?_, ?_⟩
      · show ("take " : Str).length + (num t).length ≤ 10000
        omega
      · refine ⟨_, rfl, p, _, 2, _, rfl, rfl, hS, rfl, _, _, rfl, rfl, _, rfl, ?_⟩
        rw [decide_eq_true (by omega)]
        refine iteT ⟨_, rfl, p, _, 2, _, rfl, rfl, hS, rfl, a, rfl, am_log (am_of ok.2), _, _, rfl, rfl, small ?_, _, _, rfl, rfl, small ?_, ?_⟩
        · show (" by " : Str).length + (num a).length ≤ 10000
          omega
        · show ("take " ++ num t : Str).length + (" by " ++ num a : Str).length ≤ 10000
          rw [app_len, app_len]
          omega
        · rw [← tb_text] at q
          unfold tbText at q
          rw [empty_app] at q
          have z : ("take " ++ num t ++ (" by " ++ num a) : Str) = "take " ++ num t ++ " by " ++ num a := ext_tl (by
            simp only [tl_append, List.append_assoc])
          show Q (.str ("take " ++ num t ++ (" by " ++ num a))) H
          rw [z]
          exact q
    · have lt := num_len (at_am ok.1)
      have la := num_len (am_of ok.2)
      refine ⟨_, rfl, p, _, 0, _, rfl, rfl, hS, rfl, rfl, _, rfl, ?_⟩
      rw [e4]
      refine iteF ⟨_, rfl, p, _, 0, _, rfl, rfl, hS, rfl, rfl, _, rfl, ?_⟩
      rw [e5]
      refine iteF ⟨_, rfl, p, _, 0, _, rfl, rfl, hS, rfl, rfl, _, rfl, ?_⟩
      rw [e7]
      refine iteF ⟨_, rfl, p, _, 1, _, rfl, rfl, hS, rfl, t, rfl, am_log (at_am ok.1), _, _, rfl, rfl, small ?_, _, _, rfl, rfl, small ?_, ?_⟩
      · show ("right " : Str).length + (num t).length ≤ 10000
        omega
      · show ("right " ++ num t : Str).length + (" to " : Str).length ≤ 10000
        rw [app_len]
        omega
      · refine ⟨_, rfl, p, _, 2, _, rfl, rfl, hS, rfl, a, rfl, am_log (am_of ok.2), _, _, rfl, rfl, small ?_, ?_⟩
        · show ("right " ++ num t ++ " to " : Str).length + (num a).length ≤ 10000
          rw [app_len, app_len]
          omega
        · rw [← r_text] at q
          unfold rText at q
          rw [empty_app] at q
          exact q
    · refine ⟨_, rfl, p, _, 0, _, rfl, rfl, hS, rfl, rfl, _, rfl, ?_⟩
      rw [e6]
      refine iteF ⟨_, rfl, p, _, 0, _, rfl, rfl, hS, rfl, rfl, _, rfl, ?_⟩
      rw [decide_eq_true rfl]
      have e : Mv.shut.text = "shut" := by decide +kernel
      rw [e] at q
      exact iteT q
end
end V3

set_option Elab.async false
set_option linter.all false
set_option maxRecDepth 100000
namespace V3
open PySem L2 TL
def Mv.tupD : Mv → List PyData
  | .beg a => [.str "begin", .int a]
  | .take t => [.str "take", .int t, .int 0]
  | .takeBy t a => [.str "take", .int t, .int a]
  | .right t a => [.str "right", .int t, .int a]
  | .shut => [.str "shut"]
theorem tup_dp {K : PySem.W.Frag} {H : Hp} (m : Mv) : DpAll K H m.tupV m.tupD := by
  cases m with
  | beg a => exact .cons (.str _) (.cons (.int _) .nil)
  | take t => exact .cons (.str _) (.cons (.int _) (.cons (.int _) .nil))
  | takeBy t a => exact .cons (.str _) (.cons (.int _) (.cons (.int _) .nil))
  | right t a => exact .cons (.str _) (.cons (.int _) (.cons (.int _) .nil))
  | shut => exact .cons (.str _) .nil
theorem tup_shaped (m : Mv) : SeqAt.shaped (.tuple m.tupD) = true := by
  have k1 : PyData.canLay0 (.str "begin") = true := by decide +kernel
  have k2 : PyData.canLay0 (.str "take") = true := by decide +kernel
  have k3 : PyData.canLay0 (.str "right") = true := by decide +kernel
  have k4 : PyData.canLay0 (.str "shut") = true := by decide +kernel
  have ki : ∀ i : Int, PyData.canLay0 (.int i) = true := fun i => by simp [PyData.canLay0]
  have kt : ∀ xs : List PyData, PyData.canLay0 (.tuple xs) = PyData.canLayAll0 xs := fun xs => by simp [PyData.canLay0]
  cases m <;> simp [SeqAt.shaped, Mv.tupD, kt, PyData.canLayAll0, k1, k2, k3, k4, ki, PyData.depth, PyData.depthAll]
theorem dec_int2 (a b : Int) : (a == b) = decide (a = b) := by
  by_cases h : a = b
  · rw [decide_eq_true h, h]
    simp
  · rw [decide_eq_false h]
    simpa using h
theorem tup_eqv {m n : Mv} (hm : m.ok) (hn : n.ok) : PyData.eqv (.tuple m.tupD) (.tuple n.tupD) = decide (m = n) := by
  have s1 : (("begin" : Str) == "take") = false := by decide +kernel
  have s2 : (("begin" : Str) == "right") = false := by decide +kernel
  have s3 : (("begin" : Str) == "shut") = false := by decide +kernel
  have s4 : (("take" : Str) == "begin") = false := by decide +kernel
  have s5 : (("take" : Str) == "right") = false := by decide +kernel
  have s6 : (("take" : Str) == "shut") = false := by decide +kernel
  have s7 : (("right" : Str) == "begin") = false := by decide +kernel
  have s8 : (("right" : Str) == "take") = false := by decide +kernel
  have s9 : (("right" : Str) == "shut") = false := by decide +kernel
  have t1 : (("shut" : Str) == "begin") = false := by decide +kernel
  have t2 : (("shut" : Str) == "take") = false := by decide +kernel
  have t3 : (("shut" : Str) == "right") = false := by decide +kernel
  have b1 : (("begin" : Str) == "begin") = true := by decide +kernel
  have b2 : (("take" : Str) == "take") = true := by decide +kernel
  have b3 : (("right" : Str) == "right") = true := by decide +kernel
  have b4 : (("shut" : Str) == "shut") = true := by decide +kernel
  cases m with
  | beg a => cases n <;> simp [PyData.eqv, PyData.eqvAll, Mv.tupD, dec_int2, s1, s2, s3, b1]
  | take t =>
    cases n with
    | takeBy u b =>
      have := hn.2.1
      have e : ¬ (0 : Int) = b := by omega
      simp [PyData.eqv, PyData.eqvAll, Mv.tupD, dec_int2, b2, e]
    | _ => simp [PyData.eqv, PyData.eqvAll, Mv.tupD, dec_int2, s4, s5, s6, b2]
  | takeBy t a =>
    cases n with
    | take u =>
      have := hm.2.1
      have e : ¬ a = (0 : Int) := by omega
      simp [PyData.eqv, PyData.eqvAll, Mv.tupD, dec_int2, b2, e]
    | _ => simp [PyData.eqv, PyData.eqvAll, Mv.tupD, dec_int2, s4, s5, s6, b2]
  | right t a => cases n <;> simp [PyData.eqv, PyData.eqvAll, Mv.tupD, dec_int2, s7, s8, s9, b3]
  | shut => cases n <;> simp [PyData.eqv, PyData.eqvAll, Mv.tupD, dec_int2, t1, t2, t3, b4]

/-- drawn tuples of moves, in a row -/
abbrev Tups (H : Hp) (vs : List V) (ms : List Mv) : Prop := Row (fun v m => TupAt H v m) vs ms
theorem Tups.same {H H' : Hp} {vs : List V} {ms : List Mv} (d : Tups H vs ms) (s : Same H H') : Tups H' vs ms := d.imp fun _ _ h => h.same s
theorem Tups.keepL {H H' : Hp} {vs : List V} {ms : List Mv} (d : Tups H vs ms) (s : KeepL H H') : Tups H' vs ms := d.imp fun _ _ h => by
  obtain ⟨p, e, hp⟩ := h
  exact ⟨p, e, s _ _ (fun _ z => by cases z) hp⟩
theorem Row.tail {α : Type} {R : V → α → Prop} {v : V} {vs : List V} {a : α} {as : List α} (d : Row R (v :: vs) (a :: as)) : R v a ∧ Row R vs as := by
  refine ⟨?_, by simpa using d.1, fun i b hb => ?_⟩
  · obtain ⟨w, e, r⟩ := d.2 0 a rfl
    cases e
    exact r
  · obtain ⟨w, e, r⟩ := d.2 (i + 1) b (by simpa using hb)
    exact ⟨w, by simpa using e, r⟩
theorem tups_dp {K : PySem.W.Frag} {H : Hp} : ∀ {vs : List V} {ms : List Mv}, Tups H vs ms → DpAll K H vs (ms.map fun m => .tuple m.tupD)
  | [], [], _ => .nil
  | v :: vs, m :: ms, d => by
    obtain ⟨⟨p, rfl, hp⟩, r⟩ := d.tail
    exact .cons (.tup (SqT.of hp) (tup_dp m)) (tups_dp r)
  | [], _ :: _, d => by have := d.1; simp at this
  | _ :: _, [], d => by have := d.1; simp at this
theorem shaped_all {ds : List PyData} (h : ∀ d ∈ ds, SeqAt.shaped d = true ∧ PyData.depth d ≤ 1) : SeqAt.shaped (.list ds) = true := by
  have c : ∀ {ds : List PyData}, (∀ d ∈ ds, SeqAt.shaped d = true ∧ PyData.depth d ≤ 1) → PyData.canLayAll0 ds = true ∧ PyData.depthAll ds ≤ 1 := fun {ds} => by
    induction ds with
    | nil => intro _; simp [PyData.canLayAll0, PyData.depthAll]
    | cons d ds ih =>
      intro h
      obtain ⟨a, b⟩ := ih fun x hx => h x (List.mem_cons_of_mem _ hx)
      obtain ⟨e, f⟩ := h d (List.mem_cons_self ..)
      have e2 := SeqAt.canLay_of_shaped e
      refine ⟨by simp [PyData.canLayAll0, e2, a], ?_⟩
      simp only [PyData.depthAll]
      omega
  obtain ⟨a, b⟩ := c h
  unfold SeqAt.shaped
  rw [Bool.and_eq_true]
  refine ⟨by simpa [PyData.canLay0] using a, decide_eq_true ?_⟩
  simp only [PyData.depth]
  omega
theorem tup_depth (m : Mv) : PyData.depth (.tuple m.tupD) ≤ 1 := by
  cases m <;> simp [Mv.tupD, PyData.depth, PyData.depthAll]
theorem tups_shaped (ms : List Mv) : SeqAt.shaped (.list (ms.map fun m => .tuple m.tupD)) = true := shaped_all fun d hd => by
  obtain ⟨m, _, rfl⟩ := List.mem_map.mp hd
  exact ⟨tup_shaped m, tup_depth m⟩
theorem tups_eqv : ∀ {ms ns : List Mv}, (∀ m ∈ ms, m.ok) → (∀ m ∈ ns, m.ok) → PyData.eqv (.list (ms.map fun m => .tuple m.tupD)) (.list (ns.map fun m => .tuple m.tupD)) = decide (ms = ns) := by
  have go : ∀ {ms ns : List Mv}, (∀ m ∈ ms, m.ok) → (∀ m ∈ ns, m.ok) → PyData.eqvAll (ms.map fun m => .tuple m.tupD) (ns.map fun m => .tuple m.tupD) = decide (ms = ns) := fun {ms} => by
    induction ms with
    | nil =>
      intro ns _ _
      cases ns <;> simp [PyData.eqvAll]
    | cons m ms ih =>
      intro ns a b
      cases ns with
      | nil => simp [PyData.eqvAll]
      | cons n ns =>
        have e1 := tup_eqv (a m (List.mem_cons_self ..)) (b n (List.mem_cons_self ..))
        have e2 := ih (ns := ns) (fun x hx => a x (List.mem_cons_of_mem _ hx)) (fun x hx => b x (List.mem_cons_of_mem _ hx))
        simp only [List.map_cons, PyData.eqvAll]
        rw [e1, e2, ← Bool.decide_and]
        simp
  intro ms ns a b
  simp only [PyData.eqv]
  exact go a b
/-! texts -/
theorem far_numL {s n : Nat} (h : 200 ≤ s) : s ∉ numL n := numL_free (.inr (by omega))
theorem far_text {m : Mv} (ok : m.ok) {s : Nat} (h : 200 ≤ s) : s ∉ tl m.text := by
  have n1 : ∀ {t : Int}, 0 ≤ t → s ∉ tl (num t) := fun {t} h0 => by
    rw [tl_num' h0]
    exact far_numL h
  have lit : ∀ {z : List Nat}, (∀ x ∈ z, x < 200) → s ∉ z := fun hz hs => by have := hz s hs; omega
  have w1 : s ∉ tl "begin" := lit (by decide +kernel)
  have w2 : s ∉ tl "take" := lit (by decide +kernel)
  have w3 : s ∉ tl "right" := lit (by decide +kernel)
  have w4 : s ∉ tl "shut" := lit (by decide +kernel)
  have w5 : s ∉ tl "by" := lit (by decide +kernel)
  have w6 : s ∉ tl "to" := lit (by decide +kernel)
  unfold Mv.text
  rw [tl_join]
  refine join_free (by rw [sp_tl]; exact lit (by decide)) fun p hp => ?_
  obtain ⟨q, hq, rfl⟩ := List.mem_map.mp hp
  cases m with
  | beg a =>
    have a1 := ok.1
    simp only [Mv.words, List.mem_cons, List.not_mem_nil, or_false] at hq
    rcases hq with rfl | rfl
    · exact w1
    · exact n1 (by omega)
  | take t =>
    have t1 := ok.1
    simp only [Mv.words, List.mem_cons, List.not_mem_nil, or_false] at hq
    rcases hq with rfl | rfl
    · exact w2
    · exact n1 (by omega)
  | takeBy t a =>
    have t1 := ok.1.1
    have a1 := ok.2.1
    simp only [Mv.words, List.mem_cons, List.not_mem_nil, or_false] at hq
    rcases hq with rfl | rfl | rfl | rfl
    · exact w2
    · exact n1 (by omega)
    · exact w5
    · exact n1 (by omega)
  | right t a =>
    have t1 := ok.1.1
    have a1 := ok.2.1
    simp only [Mv.words, List.mem_cons, List.not_mem_nil, or_false] at hq
    rcases hq with rfl | rfl | rfl | rfl
    · exact w3
    · exact n1 (by omega)
    · exact w6
    · exact n1 (by omega)
  | shut =>
    simp only [Mv.words, List.mem_cons, List.not_mem_nil, or_false] at hq
    subst hq
    exact w4
theorem text_strOk {m : Mv} (ok : m.ok) : PyData.strOk m.text = true := by
  unfold PyData.strOk
  rw [Array.all_eq_true_iff_forall_mem]
  intro x hx
  refine decide_eq_true ?_
  by_cases h : 200 ≤ x
  · exact absurd (show x ∈ tl m.text by simpa using hx) (far_text ok h)
  · omega
theorem texts_dp {K : PySem.W.Frag} {H : Hp} : ∀ ts : List Str, DpAll K H (ts.map V.str) (ts.map .str)
  | [] => .nil
  | t :: ts => .cons (.str t) (texts_dp ts)
theorem texts_shaped {ms : List Mv} (ok : ∀ m ∈ ms, m.ok) : SeqAt.shaped (.list ((ms.map Mv.text).map .str)) = true := shaped_all fun d hd => by
  obtain ⟨t, ht, rfl⟩ := List.mem_map.mp hd
  obtain ⟨m, hm, rfl⟩ := List.mem_map.mp ht
  have z := text_strOk (ok m hm)
  exact ⟨by simp [SeqAt.shaped, PyData.canLay0, z, PyData.depth], by simp [PyData.depth]⟩
theorem texts_eqv (ts : List Str) : PyData.eqv (.list (ts.map .str)) (.list (ts.map .str)) = true := by
  have go : ∀ ts : List Str, PyData.eqvAll (ts.map .str) (ts.map .str) = true := fun ts => by
    induction ts with
    | nil => simp [PyData.eqvAll]
    | cons t ts ih => simp [PyData.eqvAll, PyData.eqv, ih]
  simp only [PyData.eqv]
  exact go ts
end V3

set_option Elab.async false
set_option linter.all false
set_option maxRecDepth 100000
/-! x in (a, b, ..), where none of the items is x: each item's own == is run -/
namespace V3
open PySem PySem.SeqAt
open AutoSeq1 (wpAny_loadPart')
open MeetsSeq MeetsSeq2 MeetsSeq3 SeqRoads2
section
variable {prog : Program} {w : World} {A : Around} {R : Result → Shared → Prop}
theorem tuple_none (l : Addr) (items : Array Value) (n : Nat) (dd : Option Addr) (sl : Array (Option Value)) (x : Value) (I : Nat → Shared → Prop)
    (turn : ∀ i (h : i < items.size) s, I i s →
      wpAny (model prog w) A.in1 (eqBool items[i] x) (fun r s' => r = false ∧ I (i + 1) s') (fun e s' => R (.error e) s') s)
    (fin : ∀ s, I items.size s → R (.ok (.ret (.bool false))) s) {s : Shared}
    (hl : s.heap.get? l = some { cls := .type "tuple", dict := dd, data := .seq items n, slots := sl }) (h : I 0 s) :
    wpAny (model prog w) A.in1 (Builtin.«tuple.__contains__» ⟨[.ref l, x], []⟩) (GQ.FinOf prog w A R) (fun e s' => R (.error e) s') s := by
  have h0 := h
  obtain ⟨hp, g, d, tk, os⟩ := s
  wp_walk using wpAny_loadPart' hl, wpAny_forIn_array _ (fun rest b s' => b.1 = none ∧ ∃ i, rest = items.toList.drop i ∧ i ≤ items.size ∧ I i s') _
  case turn =>
    rintro y rest b s' ⟨hb, i, hz, hi, hI⟩
    have lt : i < items.toList.length := by
      rcases Nat.lt_or_ge i items.toList.length with q | q
      · exact q
      · rw [List.drop_of_length_le q] at hz
        cases hz
    have lt2 : i < items.size := by simpa using lt
    rw [List.drop_eq_getElem_cons lt] at hz
    injection hz with hy hr
    have hy2 : y = items[i] := by simpa using hy
    subst hy2
    refine wpAny_bind (wpAny_mono (turn i lt2 s' hI) (fun r s2 q => ?_) fun _ _ z => z)
    obtain ⟨rfl, q⟩ := q
    wp_walk
    exact ⟨rfl, i + 1, hr, lt2, q⟩
  case fin =>
    rintro ⟨b1, b2⟩ s' ⟨hb, i, hz, hi, hI⟩
    simp only at hb
    subst hb
    have ge : items.size ≤ i := by
      rcases Nat.lt_or_ge i items.toList.length with q | q
      · rw [List.drop_eq_getElem_cons q] at hz
        cases hz
      · simpa using q
    have e : i = items.size := by omega
    have hR := fin s' (e ▸ hI)
    wp_walk
    first | exact hR | exact ⟨_, rfl, hR⟩ | simpa using hR
  case h =>
    exact ⟨rfl, 0, rfl, Nat.zero_le _, h0⟩
end
end V3

set_option Elab.async false
set_option linter.all false
set_option maxRecDepth 100000
namespace V3
open PySem PySem.SeqAt
open AutoSeq1 (wpAny_loadPart')
section
variable {prog : Program} {w : World} {A : Around} {E : Value → Shared → Prop} {s : Shared} {x : Addr} {o : Obj}
theorem str_declines {z : Str} {t : Tok} {Q : Shared → Prop} (ho : s.heap.get? x = some o) (hd : o.data = .plain) (hq : Q s) :
    wpAny (model prog w) A (call (.builtin "str.__eq__") [.str z t, .ref x]) (fun v s' => v = .notImplemented ∧ Q s') E s := by
  refine GQ.call_here F.slot_str_eq (typeIs_str s z t) F.entry_str_eq (F.args_str_eq_2 _ _) ?_
  obtain ⟨c, dd, da, sl⟩ := o
  simp only at hd
  subst hd
  obtain ⟨hp, g, d, tk, os⟩ := s
  unfold Builtin.«str.__eq__» Builtin.Str.strCompare
  wp_walk using wpAny_load ho
  exact ⟨rfl, hq⟩
theorem none_declines {Q : Shared → Prop} (hq : Q s) :
    wpAny (model prog w) A (call (.builtin "NoneType.__eq__") [.none, .ref x]) (fun v s' => v = .notImplemented ∧ Q s') E s := by
  refine GQ.call_here F.slot_NoneType_eq (typeIs_none s) F.entry_NoneType_eq (F.args_NoneType_eq_2 _ _) ?_
  obtain ⟨hp, g, d, tk, os⟩ := s
  unfold Builtin.«NoneType.__eq__»
  wp_walk
  exact ⟨rfl, hq⟩
theorem tup_declines {K : PySem.W.Frag} {C p : Addr} {od : Option Obj} {items : Array Value} {Q : Shared → Prop} (X : K.In s.heap) (I : PySem.W.InstAt s.heap x o C od) (hs : PySem.W.subIn K (.ref C) (.type "tuple") = some false) (hp : s.heap.IsTuple p items) (hq : Q s) :
    wpAny (model prog w) A (call (.builtin "tuple.__eq__") [.ref p, .ref x]) (fun v s' => v = .notImplemented ∧ Q s') E s := by
  obtain ⟨⟨c1, d1, da, sl⟩, ho, hc, n, hd⟩ := id hp
  simp only at hc hd
  subst hc hd
  refine GQ.call_here F.slot_tuple_eq ⟨_, ho, rfl⟩ F.entry_tuple_eq (F.args_tuple_eq_2 _ _) ?_
  obtain ⟨hh, g, d, tk, os⟩ := s
  wp_walk
  refine wpAny_loadPart I.at_ (wpAny_pure ?_)
  rw [I.cls]
  refine (PySem.W.looks_subIn X hs).here ?_
  wp_walk
  exact ⟨rfl, hq⟩
end
/-! a == b by the own __eq__ of b, where that of a declines -/
section
variable {prog : Program} {w : World} {A : Around} {E : Value → Shared → Prop} {s : Shared} {K : PySem.W.Frag} {x C L f : Addr} {h₀ : Heap} {m : Str → Option Value} {ox : Obj} {od : Option Obj} {a : Value} {T id : String}
theorem turned_K {Q : Value → Shared → Prop} (hu : A.units < cLine) (F : PyProof.Rows.Fr h₀ L s.heap m) (X₀ : K.In h₀) (I : PySem.W.InstAt s.heap x ox C od) (hT : s.TypeIs a T) (sl : Slot T "__eq__" id)
    (one : oneThing? .Eq a (.ref x) = none) (hs : PySem.W.subIn K (.ref C) (.type T) = some false)
    (no : ∀ {Q : Shared → Prop}, Q s → wpAny (model prog w) A (call (.builtin id) [a, .ref x]) (fun v s' => v = .notImplemented ∧ Q s') E s)
    (he : PySem.W.findIn K (.ref C) "__eq__" = some (some (.ref f))) (hf : PySem.W.isFn K (.ref f) = true)
    (h : wpAny (model prog w) A (call (.ref f) [.ref x, a]) (fun v s' => ∃ r, v = .bool r ∧ Q (.bool r) s') E s) : wpAny (model prog w) A (richCompare .Eq a (.ref x)) Q E s := by
  have X := X₀.keeps F.keep
  unfold richCompare
  simp only [one]
  refine wpAny_holding (wpAny_bind (wpAny_cRoomFor hu ?_))
  refine wpAny_bind (wpAny_typeOf hT (wpAny_bind (I.type.here ?_)))
  split
  · refine wpAny_bind ((PySem.W.looks_subIn X hs).here ?_)
    simp only [Bool.false_eq_true, if_false]
    refine wpAny_bind (wpAny_tryCompare_declines hT sl (no ?_))
    simp only [Bool.not_false, if_true]
    have two : wpAny (model prog w) A (tryCompare (.ref x) "__eq__" a) (fun r s' => ∃ v, r = some v ∧ Q v s') E s := by
      unfold tryCompare
      refine wpAny_bind (PySem.W.ifBound_K X I he hf (wpAny_mono h (fun v s' hv => ?_) fun _ _ e => e))
      obtain ⟨r, rfl, q⟩ := hv
      exact wpAny_pure ⟨_, rfl, q⟩
    refine wpAny_bind (wpAny_mono two (fun r s' z => ?_) fun _ _ e => e)
    obtain ⟨v, rfl, hq⟩ := z
    exact wpAny_pure hq
  · rename_i q
    exact absurd (by simp) q
end
end V3

set_option Elab.async false
set_option linter.all false
set_option maxRecDepth 100000
namespace V3
open PySem PySem.Spec PyProof.Rows L2
/-- what of a class is wanted where its objects stand behind texts, None and tuples -/
structure Behind (K : PySem.W.Frag) (C : Addr) : Prop where
  s : PySem.W.subIn K (.ref C) (.type "str") = some false
  n : PySem.W.subIn K (.ref C) (.type "NoneType") = some false
  t : PySem.W.subIn K (.ref C) (.type "tuple") = some false
inductive Plain (H : Hp) : V → Prop where
  | str (z : Str) : Plain H (.str z)
  | non : Plain H .non
  | tup {b : Addr} {ys : List V} (h : H b = some (.tup ys)) : Plain H (.ref b)
section
variable {prog : Program} {w : World} {A : Around} {E : Value → Shared → Prop} {s : Shared}
theorem eqB_str {z : Str} {t : Tok} {a : Addr} {Q : Bool → Shared → Prop} (h : wpAny (model prog w) A (richCompare .Eq (.str z t) (.ref a)) (fun v s' => ∃ r, v = .bool r ∧ Q r s') E s) :
    wpAny (model prog w) A (eqBool (.str z t) (.ref a)) Q E s := by
  unfold eqBool
  refine wpAny_holding (wpAny_ite_split (fun q => absurd (eq_of_beq q) (fun e => nomatch e)) fun _ => ?_)
  refine wpAny_bind (wpAny_mono h (fun v s' hv => ?_) fun _ _ x => x)
  obtain ⟨r, rfl, q⟩ := hv
  exact wpAny_truthy_bool q
theorem eqB_non {a : Addr} {Q : Bool → Shared → Prop} (h : wpAny (model prog w) A (richCompare .Eq .none (.ref a)) (fun v s' => ∃ r, v = .bool r ∧ Q r s') E s) :
    wpAny (model prog w) A (eqBool .none (.ref a)) Q E s := by
  unfold eqBool
  refine wpAny_holding (wpAny_ite_split (fun q => absurd (eq_of_beq q) (fun e => nomatch e)) fun _ => ?_)
  refine wpAny_bind (wpAny_mono h (fun v s' hv => ?_) fun _ _ x => x)
  obtain ⟨r, rfl, q⟩ := hv
  exact wpAny_truthy_bool q
end
section
variable {X : Cx} {n : Nat}
/-- x in (..), x of an own class, no item equal to it -/
def rInO (K : PySem.W.Frag) (FF : Addr → Sp → XK → Prop) : R2 := fun x y H Q => ∃ (a p C dx : Addr) (fs : List (Str × V)) (xs : List V) (sp : Sp) (E : XK), x = .ref a ∧ y = .ref p ∧ H a = some (.ins C dx fs) ∧ H p = some (.tup xs) ∧
  (∀ z ∈ xs, Plain H z) ∧ Behind K C ∧ FF C sp E ∧ (∀ z ∈ xs, sp [.ref a, z] H (fun v H' => v = .bl false ∧ H' = H) E) ∧ Q (.bl false) H
theorem op_inO {FF : Addr → Sp → XK → Prop} (hF : ∀ C sp E, FF C sp E → ∃ (CX : CXT) (f : Addr) (fd : FuncData) (ps : List Str), FnOk X.prog X.w X.K X.mg X.base CX n f fd ps sp ∧ EqCls X.K C f ∧ Binds X.K fd ps [] ∧ Passes CX X E) (hr : Room (n + 1) X.A) :
    OpR X (compareOp .In) (rInO X.K FF) := by
  intro pins s σ H x y v u Q I rx ry hq
  obtain ⟨a, p, C, dx, fs, xs, sp, E, rfl, rfl, ha, hp, pl, bh, ff, hsp, q⟩ := hq
  obtain ⟨CX, f, fd, ps, F, ec, bi, hx⟩ := hF C sp E ff
  cases rx
  cases ry
  obtain ⟨its, rv, ht, hz⟩ := I.tuple (SqT.of hp)
  obtain ⟨⟨c0, dd, da, sl⟩, ho, hc, m, hd⟩ := id ht
  simp only at hc hd
  subst hc hd
  show wpAny (model X.prog X.w) X.A (do return .bool (← contains (.ref p) (.ref a))) (EP X pins σ Q) X.xe s
  refine wpAny_bind (wpAny_contains_slot ⟨_, ho, rfl⟩ PySem.F.slot_tuple_contains (wpAny_mono (GQ.call_here (Q := fun v s' => v = .bool false ∧ Inv X pins σ H s') PySem.F.slot_tuple_contains ⟨_, ho, rfl⟩ PySem.F.entry_tuple_contains (PySem.F.args_tuple_contains_2 _ _)
    (tuple_none p its.toArray m dd sl (.ref a) (fun _ s' => Inv X pins σ H s') ?_ (fun s' J => ⟨rfl, J⟩) ho I)) (fun v s' hv => ?_) fun _ _ e => e))
  · intro i hi s' J
    have hi2 : i < its.length := by simpa using hi
    have hi3 : i < xs.length := by rw [rv.length]; exact hi2
    obtain ⟨u, hu, ru⟩ := rv.get (List.getElem?_eq_getElem hi3)
    have eu : its.toArray[i] = u := by
      rw [List.getElem?_eq_getElem hi2] at hu
      simpa using Option.some.inj hu
    rw [eu]
    have mem : xs[i] ∈ xs := List.getElem_mem hi3
    have pz := pl _ mem
    have own := hsp _ mem
    generalize xs[i] = z at ru pz own
    obtain ⟨mA, O, _⟩ := ins_get J.hok ha
    obtain ⟨od, IA, _⟩ := O.look
    obtain ⟨mm, hFr⟩ := J.fr
    have run : wpAny (model X.prog X.w) X.A.in1 (call (.ref f) [.ref a, u]) (fun v s2 => ∃ r, v = .bool r ∧ r = false ∧ Inv X pins σ H s2) X.xe s' :=
      wpAny_mono (run_own (x := .ref a) (y := z) ⟨hr.in1, rfl⟩ F bi hx J rfl ru own) (fun w s2 k => by
        obtain ⟨z2, H', J2, rz, ez, eH⟩ := k
        subst ez
        subst eH
        cases rz
        exact ⟨false, rfl, rfl, J2⟩) fun _ _ e => e
    have hu1 : X.A.in1.units < cLine := hr.in1.units0
    cases pz with
    | str zz =>
      obtain ⟨t, rfl⟩ := ru
      refine eqB_str (turned_K (T := "str") hu1 hFr J.ok.mod.kin IA (typeIs_str _ _ _) PySem.F.slot_str_eq rfl bh.s (fun k => str_declines IA.at_ rfl k) ec.eq ec.fn (wpAny_mono run (fun v s2 k => ?_) fun _ _ e => e))
      obtain ⟨r, rfl, e, J2⟩ := k
      exact ⟨r, rfl, r, rfl, e, J2⟩
    | non =>
      cases ru
      refine eqB_non (turned_K (T := "NoneType") hu1 hFr J.ok.mod.kin IA (typeIs_none _) PySem.F.slot_NoneType_eq rfl bh.n (fun k => none_declines k) ec.eq ec.fn (wpAny_mono run (fun v s2 k => ?_) fun _ _ e => e))
      obtain ⟨r, rfl, e, J2⟩ := k
      exact ⟨r, rfl, r, rfl, e, J2⟩
    | @tup b ys hb =>
      cases ru
      obtain ⟨its2, r2, ht2, hz2⟩ := J.tuple (SqT.of hb)
      have ne : b ≠ a := by
        intro e
        subst e
        rw [ha] at hb
        cases hb
      obtain ⟨o2, ho2, hc2, _⟩ := id ht2
      refine GQ.eqBool_refG ne (turned_K (T := "tuple") hu1 hFr J.ok.mod.kin IA ⟨o2, ho2, hc2⟩ PySem.F.slot_tuple_eq (by first | rfl | simp [oneThing_ref]) bh.t (fun k => tup_declines J.kIn IA bh.t ht2 k) ec.eq ec.fn (wpAny_mono run (fun v s2 k => ?_) fun _ _ e => e))
      obtain ⟨r, rfl, e, J2⟩ := k
      exact ⟨r, rfl, r, rfl, e, J2⟩
  · obtain ⟨rfl, J⟩ := hv
    exact wpAny_truthy_bool (wpAny_pure ⟨.bl false, H, J, rfl, q⟩)
end
end V3

set_option Elab.async false
set_option linter.all false
set_option maxRecDepth 100000
namespace V3
open PySem PySem.Spec PyProof.Rows L2
structure BehindL (K : PySem.W.Frag) (C : Addr) : Prop where
  b : Behind K C
  l : PySem.W.subIn K (.ref C) (.type "list") = some false
inductive PlainL (H : Hp) : V → Prop where
  | str (z : Str) : PlainL H (.str z)
  | non : PlainL H .non
  | tup {b : Addr} {ys : List V} (h : H b = some (.tup ys)) : PlainL H (.ref b)
  | lst {b : Addr} {ys : List V} (h : H b = some (.lst ys)) : PlainL H (.ref b)
section
open PySem PySem.SeqAt
variable {prog : Program} {w : World} {A : Around} {E : Value → Shared → Prop} {s : Shared} {x : Addr} {o : Obj}
theorem lst_declines {K : PySem.W.Frag} {C p : Addr} {od : Option Obj} {items : Array Value} {n : Nat} {Q : Shared → Prop} (X : K.In s.heap) (I : PySem.W.InstAt s.heap x o C od) (hs : PySem.W.subIn K (.ref C) (.type "list") = some false) {d1 : Option Addr} {sl1 : Array (Option Value)} (hp : s.heap.get? p = some { cls := .type "list", dict := d1, data := .seq items n, slots := sl1 }) (hq : Q s) :
    wpAny (model prog w) A (call (.builtin "list.__eq__") [.ref p, .ref x]) (fun v s' => v = .notImplemented ∧ Q s') E s := by
  refine GQ.call_here F.slot_list_eq ⟨_, hp, rfl⟩ F.entry_list_eq (F.args_list_eq_2 _ _) ?_
  obtain ⟨hh, g, d, tk, os⟩ := s
  wp_walk
  refine wpAny_loadPart I.at_ (wpAny_pure ?_)
  rw [I.cls]
  refine (PySem.W.looks_subIn X hs).here ?_
  wp_walk
  exact ⟨rfl, hq⟩
end
section
variable {X : Cx} {n : Nat}
/-- x in (..), x of an own class, no item equal to it -/
def rInL (K : PySem.W.Frag) (FF : Addr → Sp → XK → Prop) : R2 := fun x y H Q => ∃ (a p C dx : Addr) (fs : List (Str × V)) (xs : List V) (sp : Sp) (E : XK), x = .ref a ∧ y = .ref p ∧ H a = some (.ins C dx fs) ∧ H p = some (.tup xs) ∧
  (∀ z ∈ xs, PlainL H z) ∧ BehindL K C ∧ FF C sp E ∧ (∀ z ∈ xs, sp [.ref a, z] H (fun v H' => v = .bl false ∧ H' = H) E) ∧ Q (.bl false) H
theorem op_inL {FF : Addr → Sp → XK → Prop} (hF : ∀ C sp E, FF C sp E → ∃ (CX : CXT) (f : Addr) (fd : FuncData) (ps : List Str), FnOk X.prog X.w X.K X.mg X.base CX n f fd ps sp ∧ EqCls X.K C f ∧ Binds X.K fd ps [] ∧ Passes CX X E) (hr : Room (n + 1) X.A) :
    OpR X (compareOp .In) (rInL X.K FF) := by
  intro pins s σ H x y v u Q I rx ry hq
  obtain ⟨a, p, C, dx, fs, xs, sp, E, rfl, rfl, ha, hp, pl, bh, ff, hsp, q⟩ := hq
  obtain ⟨CX, f, fd, ps, F, ec, bi, hx⟩ := hF C sp E ff
  cases rx
  cases ry
  obtain ⟨its, rv, ht, hz⟩ := I.tuple (SqT.of hp)
  obtain ⟨⟨c0, dd, da, sl⟩, ho, hc, m, hd⟩ := id ht
  simp only at hc hd
  subst hc hd
  show wpAny (model X.prog X.w) X.A (do return .bool (← contains (.ref p) (.ref a))) (EP X pins σ Q) X.xe s
  refine wpAny_bind (wpAny_contains_slot ⟨_, ho, rfl⟩ PySem.F.slot_tuple_contains (wpAny_mono (GQ.call_here (Q := fun v s' => v = .bool false ∧ Inv X pins σ H s') PySem.F.slot_tuple_contains ⟨_, ho, rfl⟩ PySem.F.entry_tuple_contains (PySem.F.args_tuple_contains_2 _ _)
    (tuple_none p its.toArray m dd sl (.ref a) (fun _ s' => Inv X pins σ H s') ?_ (fun s' J => ⟨rfl, J⟩) ho I)) (fun v s' hv => ?_) fun _ _ e => e))
  · intro i hi s' J
    have hi2 : i < its.length := by simpa using hi
    have hi3 : i < xs.length := by rw [rv.length]; exact hi2
    obtain ⟨u, hu, ru⟩ := rv.get (List.getElem?_eq_getElem hi3)
    have eu : its.toArray[i] = u := by
      rw [List.getElem?_eq_getElem hi2] at hu
      simpa using Option.some.inj hu
    rw [eu]
    have mem : xs[i] ∈ xs := List.getElem_mem hi3
    have pz := pl _ mem
    have own := hsp _ mem
    generalize xs[i] = z at ru pz own
    obtain ⟨mA, O, _⟩ := ins_get J.hok ha
    obtain ⟨od, IA, _⟩ := O.look
    obtain ⟨mm, hFr⟩ := J.fr
    have run : wpAny (model X.prog X.w) X.A.in1 (call (.ref f) [.ref a, u]) (fun v s2 => ∃ r, v = .bool r ∧ r = false ∧ Inv X pins σ H s2) X.xe s' :=
      wpAny_mono (run_own (x := .ref a) (y := z) ⟨hr.in1, rfl⟩ F bi hx J rfl ru own) (fun w s2 k => by
        obtain ⟨z2, H', J2, rz, ez, eH⟩ := k
        subst ez
        subst eH
        cases rz
        exact ⟨false, rfl, rfl, J2⟩) fun _ _ e => e
    have hu1 : X.A.in1.units < cLine := hr.in1.units0
    cases pz with
    | str zz =>
      obtain ⟨t, rfl⟩ := ru
      refine eqB_str (turned_K (T := "str") hu1 hFr J.ok.mod.kin IA (typeIs_str _ _ _) PySem.F.slot_str_eq rfl bh.b.s (fun k => str_declines IA.at_ rfl k) ec.eq ec.fn (wpAny_mono run (fun v s2 k => ?_) fun _ _ e => e))
      obtain ⟨r, rfl, e, J2⟩ := k
      exact ⟨r, rfl, r, rfl, e, J2⟩
    | non =>
      cases ru
      refine eqB_non (turned_K (T := "NoneType") hu1 hFr J.ok.mod.kin IA (typeIs_none _) PySem.F.slot_NoneType_eq rfl bh.b.n (fun k => none_declines k) ec.eq ec.fn (wpAny_mono run (fun v s2 k => ?_) fun _ _ e => e))
      obtain ⟨r, rfl, e, J2⟩ := k
      exact ⟨r, rfl, r, rfl, e, J2⟩
    | @tup b ys hb =>
      cases ru
      obtain ⟨its2, r2, ht2, hz2⟩ := J.tuple (SqT.of hb)
      have ne : b ≠ a := by
        intro e
        subst e
        rw [ha] at hb
        cases hb
      obtain ⟨o2, ho2, hc2, _⟩ := id ht2
      refine GQ.eqBool_refG ne (turned_K (T := "tuple") hu1 hFr J.ok.mod.kin IA ⟨o2, ho2, hc2⟩ PySem.F.slot_tuple_eq (by first | rfl | simp [oneThing_ref]) bh.b.t (fun k => tup_declines J.kIn IA bh.b.t ht2 k) ec.eq ec.fn (wpAny_mono run (fun v s2 k => ?_) fun _ _ e => e))
      obtain ⟨r, rfl, e, J2⟩ := k
      exact ⟨r, rfl, r, rfl, e, J2⟩
    | @lst b ys hb =>
      cases ru
      obtain ⟨its2, r2, ht2, hz2⟩ := J.list (SqL.of hb)
      have ne : b ≠ a := by
        intro e
        subst e
        rw [ha] at hb
        cases hb
      obtain ⟨⟨c1, d1, da, sl1⟩, n2, g2, hc2, hdc, hd2⟩ := id ht2
      simp only at hc2 hd2
      subst hc2 hd2
      refine GQ.eqBool_refG ne (turned_K (T := "list") hu1 hFr J.ok.mod.kin IA ⟨_, g2, rfl⟩ PySem.F.slot_list_eq (by first | rfl | simp [oneThing_ref]) bh.l (fun k => lst_declines J.kIn IA bh.l g2 k) ec.eq ec.fn (wpAny_mono run (fun v s2 k => ?_) fun _ _ e => e))
      obtain ⟨r, rfl, e, J2⟩ := k
      exact ⟨r, rfl, r, rfl, e, J2⟩
  · obtain ⟨rfl, J⟩ := hv
    exact wpAny_truthy_bool (wpAny_pure ⟨.bl false, H, J, rfl, q⟩)
end
end V3

set_option Elab.async false
set_option linter.all false
set_option maxRecDepth 100000
namespace V3
open PySem L2 TL
abbrev sLawText : Stmt := top 27
abbrev sLawEnd : Stmt := top 28
abbrev sSlices : Stmt := top 29
abbrev sSums : Stmt := top 30
structure BltW (mg : Str → Option Value) : Prop where
  len : mg "len" = none
  range : mg "range" = none
  max : mg "max" = none
  min : mg "min" = none
  str : mg "str" = none
  isi : mg "isinstance" = none
  tuple : mg "tuple" = none
  list : mg "list" = none
def spLText : Sp := fun vs H Q _ => ∃ a xs ms, vs = [.ref a] ∧ H a = some (.lst xs) ∧ Tups H xs ms ∧ (∀ m ∈ ms, m.ok) ∧ ms.length ≤ 1000 ∧ ∀ H', Same H H' → Q (.str (hText ms)) H'
def spLEnd : Sp := fun vs H Q _ => ∃ (b : Addr) (u v m : Int), vs = [.ref b, .int m] ∧ H b = some (box u v) ∧ BoxOk u v ∧ 0 ≤ m ∧ m ≤ 900 ∧ ∀ (z : Int) H', Pre b H H' → Q (.int z) H'
def spSlices (K : PySem.W.Frag) (c : Cl) : Sp := fun vs H Q _ => ∃ (b : Addr) (u v : Int) (h : V) (a : Addr) (xs : List V) (ms : List Mv), vs = [.ref b, h, .ref a] ∧ H b = some (box u v) ∧ BoxOk u v ∧ a ≠ b ∧ HiK K c H h ms ∧ H a = some (.lst xs) ∧ Tups H xs ms ∧ (∀ m ∈ ms, m.ok) ∧ ms.length ≤ 900 ∧ ∀ H', Pre b H H' → Q (.bl true) H'
def spSums (K : PySem.W.Frag) (c : Cl) : Sp := fun vs H Q _ => ∃ (h g : V) (a b : Addr) (xs ys : List V) (ms ns : List Mv), vs = [h, g, .ref a, .ref b] ∧ HiK K c H h ms ∧ HiK K c H g ns ∧ H a = some (.lst xs) ∧ H b = some (.lst ys) ∧ Tups H xs ms ∧ Tups H ys ns ∧ (∀ m ∈ ms, m.ok) ∧ (∀ m ∈ ns, m.ok) ∧ ms.length ≤ 100 ∧ ns.length ≤ 100 ∧ ∀ H', Same H H' → Q (.bl true) H'
theorem scLText : FnScope ["_law_moves", "_law_move"] ["_law_moves"] (defScope sLawText) := ⟨rfl, rfl, rfl, by decide +kernel, rfl, by decide +kernel, by decide +kernel⟩
theorem scLEnd : FnScope ["_law_box", "_law_many"] ["_law_box", "_law_many"] (defScope sLawEnd) := ⟨rfl, rfl, rfl, by decide +kernel, rfl, by decide +kernel, by decide +kernel⟩
theorem scSlices : FnScope ["_law_box", "_law_one", "_law_some", "_law_turn", "_law_begin", "_law_end_here", "_law_step", "_law_due"] ["_law_box", "_law_one", "_law_some"] (defScope sSlices) := ⟨rfl, rfl, rfl, by decide +kernel, rfl, by decide +kernel, by decide +kernel⟩
theorem scSums : FnScope ["_law_one", "_law_other", "_law_some", "_law_more", "_law_kept"] ["_law_one", "_law_other", "_law_some", "_law_more"] (defScope sSums) := ⟨rfl, rfl, rfl, by decide +kernel, rfl, by decide +kernel, by decide +kernel⟩
section
variable {P : Program} {w : World} {K : PySem.W.Frag} {mg : Str → Option Value} {base : Heap}
abbrev CalText (P : Program) (w : World) (K : PySem.W.Frag) (mg : Str → Option Value) (base : Heap) : Prop := Cal P w K mg base CX0 "_law_move_text" 1 ["_law_move"] spText
abbrev CalLText (P : Program) (w : World) (K : PySem.W.Frag) (mg : Str → Option Value) (base : Heap) : Prop := Cal P w K mg base CX0 "_law_text" 2 ["_law_moves"] spLText
theorem ok_lText {f : Addr} {fd : FuncData} (F : Fun K "_law_text" "_law_text" sLawText f fd) (cT : CalText P w K mg base) : FnOk P w K mg base CX0 2 f fd ["_law_moves"] spLText := by
  obtain ⟨fT, fdT, GT, mT, kT, bT⟩ := cT
  refine F.ok scLText (fun vs H Q E h => ?_) (fun cdv A outer s H vs Q E hr h => ?_)
  · obtain ⟨a, xs, ms, rfl, _⟩ := h
    rfl
  · obtain ⟨a, xs, ms, rfl, ha, tp, ok, n, k⟩ := h
    have hr1 : Room 1 _ := hr.mono (by decide)
    refine ⟨_, (pss_one (ps_ret (pe_join pe_str (pe_lc (own := [("_law_move", 1)]) (g := gName 1) (tt := tYes) (by rfl) scLText.nd (pi_list (pv 0)) (blkOk_by (own := [("_law_move", 1)]) (N := ["_law_moves", "_law_move"]) (sc := defScope sLawText) (by decide +kernel)) (fun _ _ _ _ _ => (pg_name (i := 1) scLText.nd rfl (Or.inl rfl))) (fun _ _ _ _ _ => pts_nil) (fun _ _ _ _ _ => (pe_call GT hr1 rfl mT kT bT .nil pass0 (pa_cons (pv 1) pa_nil))))))), ?_⟩
    refine ⟨⟨_, rfl⟩, _, rfl, a, rfl, ⟨xs, SqL.of ha⟩, fun D nD => ?_⟩
    have lx := tp.1
    refine lc_list (K := K) (a := a) (xs := xs) (fun i Hh => Same H Hh ∧ H D = none ∧ Hh D = some (.lst (((ms.take i).map Mv.text).map V.str))) ⟨Same.new nD, nD, upd_same⟩ (fun i Hh _ p => SqL.of (p.1 _ _ ha)) ?_ ?_
    · intro i z Hh hi p
      obtain ⟨m, hm, mz⟩ := tp.at hi
      refine ⟨rfl, ?_⟩
      unfold tYes
      dsimp only
      refine iteT ⟨_, rfl, _, m, rfl, mz.same p.1, ok m (List.mem_of_getElem? hm), _, p.2.2, ?_, fun c o h => ?_, p.2.1, ?_⟩
      · rw [List.length_map, List.length_map, List.length_take]
        exact lt_size (by omega)
      · rw [upd_ne (ne_of_none h p.2.1)]
        exact p.1 c o h
      · rw [upd_same, take_next' hm, List.map_append, List.map_append]
        rfl
    · intro Hh p
      obtain ⟨s2, _, e⟩ := p
      rw [lx, List.take_length] at e
      refine ⟨semi, D, ms.map Mv.text, rfl, rfl, .inl (SqL.of e), ?_, ?_⟩
      · have z := sum_texts ok
        have e2 : (semi).length = 2 := by decide +kernel
        rw [e2, List.length_map]
        exact Nat.le_trans (Nat.add_le_add_right z _) (by omega)
      · rw [join_eq]
        exact k _ s2
abbrev CalEnd (P : Program) (w : World) (K : PySem.W.Frag) (mg : Str → Option Value) (base : Heap) : Prop := Cal P w K mg base CX0 "_law_end" 3 ["_law_box", "_law_many"] spLEnd
abbrev CalCh (P : Program) (w : World) (K : PySem.W.Frag) (mg : Str → Option Value) (base : Heap) : Prop := Cal P w K mg base CX0 "_law_choose" 1 ["_law_box", "_law_many"] spChoose
abbrev CalOf (P : Program) (w : World) (K : PySem.W.Frag) (mg : Str → Option Value) (base : Heap) : Prop := Cal P w K mg base CX0 "_law_one_of" 2 ["_law_box", "_law_some"] (spOneOf K)
theorem ok_lEnd {f : Addr} {fd : FuncData} (F : Fun K "_law_end" "_law_end" sLawEnd f fd) (cC : CalCh P w K mg base) (cO : CalOf P w K mg base) : FnOk P w K mg base CX0 3 f fd ["_law_box", "_law_many"] spLEnd := by
  obtain ⟨fC, fdC, GC, mC, kC, bC⟩ := cC
  obtain ⟨fO, fdO, GO, mO, kO, bO⟩ := cO
  refine F.ok scLEnd (fun vs H Q E h => ?_) (fun cdv A outer s H vs Q E hr h => ?_)
  · obtain ⟨b, u, v, m, rfl, _⟩ := h
    rfl
  · obtain ⟨b, u, v, m, rfl, hb, ok, m0, m1, k⟩ := h
    have hr1 : Room 1 _ := hr.mono (by decide)
    have hr2 : Room 2 _ := hr.mono (by decide)
    refine ⟨_, (pss_one (ps_ret (pe_call GO hr2 rfl mO kO bO .nil pass0 (pa_cons (pv 0) (pa_cons (pe_lst (pa_cons pe_int (pa_cons (pv 1) (pa_cons (pe_call GC hr1 rfl mC kC bC .nil pass0 (pa_cons (pv 0) (pa_cons (pe_op op_add (pv 1) pe_int) pa_nil))) (pa_cons (pe_op op_sub pe_int (pe_call GC hr1 rfl mC kC bC .nil pass0 (pa_cons (pv 0) (pa_cons (pe_op op_add (pv 1) pe_int) pa_nil)))) pa_nil))))) pa_nil))))), ?_⟩
    refine ⟨_, rfl, _, rfl, _, rfl, _, rfl, _, _, rfl, rfl, b, u, v, _, rfl, hb, ok, by omega, by omega, fun d1 u1 v1 d0 d2 ok1 => ?_⟩
    refine ⟨_, rfl, _, rfl, _, _, rfl, rfl, b, u1, v1, _, rfl, upd_same, ok1, by omega, by omega, fun e1 u2 v2 e0 e2 ok2 => ?_⟩
    refine ⟨_, _, rfl, rfl, (by show 4 ≤ sizeLine; decide), fun l nl => ?_⟩
    have P2 : Pre b H (upd (upd H b (box u1 v1)) b (box u2 v2)) := (Pre.box ok1).trans (Pre.box ok2)
    have hb2 : upd (upd H b (box u1 v1)) b (box u2 v2) b = some (box u2 v2) := upd_same
    generalize upd (upd H b (box u1 v1)) b (box u2 v2) = H2 at P2 hb2 nl ⊢
    have s3 : Same H2 (upd H2 l (.lst [.int 0, .int m, .int d1, .int (0 - e1)])) := Same.new nl
    refine ⟨b, l, u2, v2, _, rfl, s3 _ _ hb2, ok2, Ne.symm (ne_of_none hb2 nl), SqL.of upd_same, (by show 1 ≤ 4; decide), (by show 4 ≤ 1000; decide), fun x u3 v3 hx ok3 => ?_⟩
    have P3 := (P2.then s3).trans (Pre.box ok3)
    simp only [List.mem_cons, List.not_mem_nil, or_false] at hx
    rcases hx with rfl | rfl | rfl | rfl
    · exact k _ _ P3
    · exact k _ _ P3
    · exact k _ _ P3
    · exact k _ _ P3
end
end V3

set_option Elab.async false
set_option linter.all false
set_option maxRecDepth 100000
namespace V3
open PySem L2 TL
theorem Row.app {α : Type} {R : V → α → Prop} {vs ws : List V} {as bs : List α} (d : Row R vs as) (e : Row R ws bs) : Row R (vs ++ ws) (as ++ bs) := by
  refine ⟨by simp [d.1, e.1], fun i x hx => ?_⟩
  by_cases l : i < as.length
  · rw [List.getElem?_append_left l] at hx
    obtain ⟨w, f, r⟩ := d.2 i x hx
    exact ⟨w, by rw [List.getElem?_append_left (by rw [d.1]; exact l)]; exact f, r⟩
  · rw [List.getElem?_append_right (by omega)] at hx
    obtain ⟨w, f, r⟩ := e.2 _ x hx
    exact ⟨w, by rw [List.getElem?_append_right (by rw [d.1]; omega), d.1]; exact f, r⟩
/-- a list of drawn tuples -/
def isLs (ms : List Mv) : V → Hp → Prop := fun v H => ∃ a xs, v = .ref a ∧ H a = some (.lst xs) ∧ Tups H xs ms
theorem st_ls {ms : List Mv} : StV (isLs ms) := fun _ _ _ s h => by
  obtain ⟨a, xs, e, ha, tp⟩ := h
  exact ⟨a, xs, e, s _ _ ha, tp.same s⟩
section
variable {P : Program} {w : World} {K : PySem.W.Frag} {mg : Str → Option Value} {base : Heap} {c : Cl} {W : Hp → Prop} {σ : L2.St} {ta tb te : TE} {ms ns : List Mv} {R Ra Rb : V → Hp → Prop}
theorem ev_call1 {sp : Sp} (ha : EvV W σ ta Ra) (h : ∀ x H Q, W H → Ra x H → (∀ v H', Same H H' → W H' → R v H' → Q v H') → sp [x] H Q E0) : EvV W σ (tCall sp [] E0 (tCons ta tNil)) R := fun H Q w k =>
  ha H _ w fun x H1 s1 w1 rx => h x H1 Q w1 rx fun v H' s w' rv => k v H' (s1.trans s) w' rv
theorem ev_ltext (sw : StW W) (ha : EvV W σ ta (isLs ms)) (ok : ∀ m ∈ ms, m.ok) (n : ms.length ≤ 1000) : EvV W σ (tCall spLText [] E0 (tCons ta tNil)) (isSv (hText ms)) := ev_call1 ha fun x H Q w hx k => by
  obtain ⟨a, xs, rfl, ha, tp⟩ := hx
  exact ⟨a, xs, ms, rfl, ha, tp, ok, n, fun H' s => k _ H' s (sw _ _ s w) rfl⟩
theorem ev_val {b : Bool} (h : EvV W σ te (isBv b)) : EvB W σ (tB te) b := fun H Q w k => h H _ w fun v H' s w' e => ⟨b, e, k H' s w'⟩
theorem ev_not {t : TT} {b : Bool} (h : EvB W σ t b) : EvB W σ (tNot t) (!b) := fun H Q w k => h H _ w k
theorem ev_stepL (sw : StW W) {lo hi st : Option Int} {tl th ts : TO} (ha : EvV W σ ta (isLs ms)) (hl : EvO W σ tl lo) (hh : EvO W σ th hi) (hs : EvO W σ ts st) (h0 : st ≠ some 0) (n : ms.length ≤ 900) :
    EvV W σ (tStep K ta tl th ts) (isLs (stepL ms lo hi st)) := fun H Q w k =>
  ha H _ w fun x H1 s1 w1 hx => hl H1 _ w1 fun H2 s2 w2 => hh H2 _ w2 fun H3 s3 w3 => hs H3 _ w3 fun H4 s4 w4 => by
    obtain ⟨a, xs, rfl, ha, tp⟩ := st_ls _ _ _ ((s2.trans s3).trans s4) hx
    have t2 := tp.step lo hi st
    have S := ((s1.trans s2).trans s3).trans s4
    have z := step_short xs lo hi h0
    have lx := tp.1
    refine ⟨a, xs, rfl, SqL.of ha, h0, ?_, fun p np => ?_⟩
    · rw [step_same _ _ _ h0]
      exact Nat.le_of_lt (lt_size (by omega))
    · rw [step_same _ _ _ h0]
      have s5 : Same H4 (upd H4 p (.lst (stepL xs lo hi st))) := Same.new np
      exact k _ _ (S.trans s5) (sw _ _ s5 w4) ⟨p, _, rfl, upd_same, t2.imp fun _ _ h => h.same s5⟩
theorem ev_cutL (sw : StW W) {lo hi : Option Int} {tl th : TO} (ha : EvV W σ ta (isLs ms)) (hl : EvO W σ tl lo) (hh : EvO W σ th hi) : EvV W σ (tSl (rSlL K) ta tl th) (isLs (stepL ms lo hi none)) := fun H Q w k =>
  ha H _ w fun x H1 s1 w1 hx => hl H1 _ w1 fun H2 s2 w2 => hh H2 _ w2 fun H3 s3 w3 => by
    obtain ⟨a, xs, rfl, ha, tp⟩ := st_ls _ _ _ (s2.trans s3) hx
    have t2 := tp.step lo hi none
    refine ⟨a, xs, rfl, SqL.of ha, fun p np => ?_⟩
    rw [cut_same]
    have s5 : Same H3 (upd H3 p (.lst (stepL xs lo hi none))) := Same.new np
    exact k _ _ (((s1.trans s2).trans s3).trans s5) (sw _ _ s5 w3) ⟨p, _, rfl, upd_same, t2.imp fun _ _ h => h.same s5⟩
theorem ev_catL (sw : StW W) (ha : EvV W σ ta (isLs ms)) (hb : EvV W σ tb (isLs ns)) (n : ms.length + ns.length ≤ 900) : EvV W σ (tOp rCat ta tb) (isLs (ms ++ ns)) := ev_op st_ls ha hb fun x y H Q w hx hy k => by
  obtain ⟨a, xs, rfl, ha, tp⟩ := hx
  obtain ⟨b, ys, rfl, hb, tq⟩ := hy
  have l1 := tp.1
  have l2 := tq.1
  refine ⟨a, b, xs, ys, rfl, rfl, ha, hb, Nat.le_of_lt (lt_size (by omega)), fun r nr => ?_⟩
  have s5 : Same H (upd H r (.lst (xs ++ ys))) := Same.new nr
  exact k _ _ s5 (sw _ _ s5 w) ⟨r, _, rfl, upd_same, (tp.app tq).imp fun _ _ h => h.same s5⟩
theorem ev_isHi (C : HiCls K c) (ha : EvV W σ ta (isH K c ms)) : EvV W σ (tCB (rIsi K) (tCons ta (tCons (tC (.ref c.Hi)) tNil))) (isBv true) := fun H Q w k =>
  ha H _ w fun x H1 s1 w1 hx => by
    obtain ⟨a, dx, q, xs, rfl, ex, hq, mv⟩ := hx
    exact ⟨_, _, _, _, _, rfl, .own c.Hi, .base (.ins ex C.cl C.ca C.gn C.tk C.mr), C.ki, k _ H1 s1 w1 rfl⟩
theorem ev_neSS {s : Str} (ha : EvV W σ ta (isSv s)) (hb : EvV W σ tb (isSv s)) : EvB W σ (tTest (tOp rNe ta tb)) false := ev_bool (ev_test (ev_neS ha hb)) (by simp)
/-- == of two lists of drawn tuples -/
theorem ev_eqLs {ms ns : List Mv} (ha : EvV W σ ta (isLs ms)) (hb : EvV W σ tb (isLs ns)) (mo : ∀ m ∈ ms, m.ok) (no : ∀ m ∈ ns, m.ok) : EvV W σ (tOp (rEqD K) ta tb) (isBv (decide (ms = ns))) := ev_op st_ls ha hb fun x y H Q w hx hy k => by
  obtain ⟨a, xs, rfl, ha, tp⟩ := hx
  obtain ⟨b, ys, rfl, hb, tq⟩ := hy
  refine ⟨_, _, .lst (SqL.of ha) (tups_dp tp), .lst (SqL.of hb) (tups_dp tq), tups_shaped ms, tups_shaped ns, k _ H (Same.refl H) w ?_⟩
  rw [tups_eqv mo no]
  rfl
end
end V3

set_option Elab.async false
set_option linter.all false
set_option maxRecDepth 100000
namespace V3
open PySem L2 TL
section
variable {P : Program} {w : World} {K : PySem.W.Frag} {mg : Str → Option Value} {base : Heap}
def WS (K : PySem.W.Frag) (c : Cl) (h : V) (a : Addr) (xs : List V) (ms : List Mv) : Hp → Prop := fun H => HiK K c H h ms ∧ H a = some (.lst xs) ∧ Tups H xs ms
theorem st_ws {K : PySem.W.Frag} {c : Cl} {h : V} {a : Addr} {xs : List V} {ms : List Mv} : StW (WS K c h a xs ms) := fun _ _ s w => ⟨w.1.same s, s _ _ w.2.1, w.2.2.same s⟩
theorem ok_slices {f : Addr} {c : Cl} {fd : FuncData} (F : Fun K "_law_slices_right" "_law_slices_right" sSlices f fd) (T : BltW mg) (TH : HiOps P w K mg base c) (cE : CalEnd P w K mg base) (cO : CalOf P w K mg base) (cX : CalLText P w K mg base) :
    FnOk P w K mg base CX0 7 f fd ["_law_box", "_law_one", "_law_some"] (spSlices K c) := by
  obtain ⟨fE, fdE, GE, mE, kE, bE⟩ := cE
  obtain ⟨fO, fdO, GO, mO, kO, bO⟩ := cO
  obtain ⟨fX, fdX, GX, mX, kX, bX⟩ := cX
  refine F.ok scSlices (fun vs H Q E h => ?_) (fun cdv A outer s H vs Q E hr h => ?_)
  · obtain ⟨b, u, v, h, a, xs, ms, rfl, _⟩ := h
    rfl
  · obtain ⟨b, u, v, h, a, xs, ms, rfl, hb, ok, nab, hh, ha, tp, mok, n, k⟩ := h
    have hr2 : Room 2 _ := hr.mono (by decide)
    have hr3 : Room 3 _ := hr.mono (by decide)
    have hr5 : Room 5 _ := hr.mono (by decide)
    have hr6 : Room 6 _ := hr
    refine ⟨_, (pss_cons (ps_for PassesOwn.never rfl (pi_range1 (by rfl) T.range (pa_cons pe_int pa_nil)) (pg_name (i := 3) scSlices.nd rfl (Or.inl rfl))
  (pss_cons (ps_par (i := 4) (j := 5) rfl scSlices.nd rfl rfl (by decide) rfl rfl (pa_cons (pe_call GE hr3 rfl mE kE bE .nil pass0 (pa_cons (pv 0) (pa_cons (pe_callB call_len_seq (by rfl) T.len PySem.boot_len (pa_cons (pv 2) pa_nil)) pa_nil))) (pa_cons (pe_call GE hr3 rfl mE kE bE .nil pass0 (pa_cons (pv 0) (pa_cons (pe_callB call_len_seq (by rfl) T.len PySem.boot_len (pa_cons (pv 2) pa_nil)) pa_nil))) pa_nil)) (by rfl))
  (pss_cons (ps_set (i := 6) scSlices.nd rfl (Or.inl rfl) (pe_call GO hr2 rfl mO kO bO .nil pass0 (pa_cons (pv 0) (pa_cons (pe_lst (pa_cons pe_int (pa_cons pe_int (pa_cons pe_int (pa_cons (pe_op op_sub pe_int pe_int) (pa_cons (pe_op op_sub pe_int pe_int) pa_nil)))))) pa_nil))))
  (pss_cons (ps_set (i := 7) scSlices.nd rfl (Or.inl rfl) (pe_step (pv 2) (po_some (pv 4)) (po_some (pv 5)) (po_some (pv 6))))
  (pss_cons (ps_if (pt_cmpR op_ne (pe_callTy (call_strHK TH hr6) (by rfl) T.str (by decide +kernel) (pa_cons (pe_slO (op_getH TH).plain hr6 (pv 1) (po_some (pv 4)) (po_some (pv 5)) (po_some (pv 6))) pa_nil)) (pe_call GX hr2 rfl mX kX bX .nil pass0 (pa_cons (pv 7) pa_nil)) (nomark _)) (pss_one (ps_ret pe_bl)) pss_nil)
  (pss_cons (ps_if (pt_not (pt_val (pe_callB call_isi (by rfl) T.isi (by decide +kernel) (pa_cons (pe_slO2 (op_getH TH) hr5 (pv 1) (po_some (pv 4)) (po_some (pv 5))) (pa_cons (pe_glob (v := .ref c.Hi) rfl TH.g rfl) pa_nil))))) (pss_one (ps_ret pe_bl)) pss_nil)
  (pss_cons (ps_if (pt_cmpR op_ne (pe_callTy (call_strHK TH hr6) (by rfl) T.str (by decide +kernel) (pa_cons (pe_slO2 (op_getH TH) hr5 (pv 1) (po_some (pv 4)) po_none) pa_nil)) (pe_call GX hr2 rfl mX kX bX .nil pass0 (pa_cons (pe_slice sl_list (pv 2) (po_some (pv 4)) po_none) pa_nil)) (nomark _)) (pss_one (ps_ret pe_bl)) pss_nil)
  (pss_one (ps_if (pt_cmpR op_ne (pe_callTy (call_strHK TH hr6) (by rfl) T.str (by decide +kernel) (pa_cons (pe_slO (op_getH TH).plain hr6 (pv 1) po_none po_none (po_some (pv 6))) pa_nil)) (pe_call GX hr2 rfl mX kX bX .nil pass0 (pa_cons (pe_step (pv 2) po_none po_none (po_some (pv 6))) pa_nil)) (nomark _)) (pss_one (ps_ret pe_bl)) pss_nil)))))))))
  (pss_one (ps_ret pe_bl))), ?_⟩
    have lx := tp.1
    refine ⟨6, rfl, by decide, by decide, for_range (lo := 0) (n := 6) (fun i σ H' => (∃ o3 o4 o5 o6 o7 : Option V, σ = [some (.ref b), some h, some (.ref a), o3, o4, o5, o6, o7]) ∧ Pre b H H') ⟨⟨_, _, _, _, _, rfl⟩, Pre.start ok hb⟩ ?_ ?_⟩
    · rintro i σ H0 hi ⟨⟨o3, o4, o5, o6, o7, rfl⟩, P0⟩
      obtain ⟨sx, u0, v0, ok0, hb0⟩ := id P0
      have ha0 := P0.1 a _ nab ha
      refine ⟨_, rfl, _, rfl, a, _, rfl, .inl (SqL.of ha0), b, u0, v0, _, rfl, hb0, ok0, by omega, by omega, fun z1 H1 P1 => ?_⟩
      obtain ⟨sx1, u1, v1, ok1, hb1⟩ := id P1
      have ha1 := P1.1 a _ nab ha0
      refine ⟨_, rfl, _, rfl, a, _, rfl, .inl (SqL.of ha1), b, u1, v1, _, rfl, hb1, ok1, by omega, by omega, fun z2 H2 P2 => ?_⟩
      refine ⟨_, _, rfl, ?_⟩
      obtain ⟨sx2, u2, v2, ok2, hb2⟩ := id P2
      have P3 : Pre b H H2 := (P0.trans P1).trans P2
      refine ⟨_, rfl, _, _, rfl, rfl, _, _, rfl, rfl, (by show 5 ≤ sizeLine; decide), fun l nl => ?_⟩
      have s3 : Same H2 (upd H2 l (.lst [.int 1, .int 2, .int 3, .int (0 - 1), .int (0 - 2)])) := Same.new nl
      refine ⟨b, l, u2, v2, _, rfl, s3 _ _ hb2, ok2, Ne.symm (ne_of_none hb2 nl), SqL.of upd_same, (by show 1 ≤ 5; decide), (by show 5 ≤ 1000; decide), fun x u3 v3 hx ok3 => ?_⟩
      obtain ⟨st, rfl, st0⟩ : ∃ st : Int, x = .int st ∧ (some st : Option Int) ≠ some 0 := by
        simp only [List.mem_cons, List.not_mem_nil, or_false] at hx
        rcases hx with rfl | rfl | rfl | rfl | rfl
        · exact ⟨_, rfl, by decide⟩
        · exact ⟨_, rfl, by decide⟩
        · exact ⟨_, rfl, by decide⟩
        · exact ⟨_, rfl, by decide⟩
        · exact ⟨_, rfl, by decide⟩
      have P4 := (P3.then s3).trans (Pre.box ok3)
      generalize upd (upd H2 l (.lst [.int 1, .int 2, .int 3, .int (0 - 1), .int (0 - 2)])) b (box u3 v3) = H4 at P4 ⊢
      clear s3 P3 hx nl hb2 ok3
      have kp : KeepL H H4 := KeepL.pre hb P4.1
      have w4 : WS K c h a xs ms H4 := ⟨hh.keepL kp, P4.1 a _ nab ha, tp.keepL kp⟩
      have sw : StW (WS K c h a xs ms) := st_ws
      have v1 : ∀ {o3 o4 o5 o6 o7 : Option V}, EvV (WS K c h a xs ms) [some (.ref b), some h, some (.ref a), o3, o4, o5, o6, o7] (tVar 1) (isH K c ms) := ev_var rfl fun _ w => w.1
      have v2 : ∀ {o3 o4 o5 o6 o7 : Option V}, EvV (WS K c h a xs ms) [some (.ref b), some h, some (.ref a), o3, o4, o5, o6, o7] (tVar 2) (isLs ms) := ev_var rfl fun _ w => ⟨a, xs, rfl, w.2.1, w.2.2⟩
      have mem : ∀ {lo hi s : Option Int}, ∀ m ∈ stepL ms lo hi s, m.ok := fun m hm => mok m (step_mem hm)
      have len : ∀ {lo hi s : Option Int}, s ≠ some 0 → (stepL ms lo hi s).length ≤ 1000 := fun {lo hi s} h0 => by have := step_short ms lo hi h0; omega
      have n0 : (none : Option Int) ≠ some 0 := by decide
      dsimp only [gName, tSeq, tAsg]
      refine ev_stepL (W := WS K c h a xs ms) (K := K) (ms := ms) (lo := some z1) (hi := some z2) (st := some st) (σ := [some (.ref b), some h, some (.ref a), some (.int (0 + (i : Int))), some (.int z1), some (.int z2), some (.int st), o7]) sw v2 (evo_some (ev_var (i := 4) rfl fun _ _ => rfl)) (evo_some (ev_var (i := 5) rfl fun _ _ => rfl)) (evo_some (ev_var (i := 6) rfl fun _ _ => rfl)) st0 n H4 _ w4 fun d H5 s5 w5 hd => ?_
      obtain ⟨D, ys, rfl, hD, tq⟩ := hd
      have wd : StW (fun Hh => WS K c h a xs ms Hh ∧ isLs (stepL ms (some z1) (some z2) (some st)) (.ref D) Hh) := fun _ _ s w => ⟨sw _ _ s w.1, st_ls _ _ _ s w.2⟩
      -- the four slices
      have d4 : ∀ {o3 o4 o5 o6 : Option V}, EvV (fun Hh => WS K c h a xs ms Hh ∧ isLs (stepL ms (some z1) (some z2) (some st)) (.ref D) Hh) [some (.ref b), some h, some (.ref a), o3, o4, o5, o6, some (.ref D)] (tVar 7) (isLs (stepL ms (some z1) (some z2) (some st))) := ev_var rfl fun _ w => w.2
      have d1 : ∀ {o3 o4 o5 o6 o7 : Option V}, EvV (fun Hh => WS K c h a xs ms Hh ∧ isLs (stepL ms (some z1) (some z2) (some st)) (.ref D) Hh) [some (.ref b), some h, some (.ref a), o3, o4, o5, o6, o7] (tVar 1) (isH K c ms) := ev_var rfl fun _ w => w.1.1
      refine if_no (W := fun Hh => WS K c h a xs ms Hh ∧ isLs (stepL ms (some z1) (some z2) (some st)) (.ref D) Hh) (σ := [some (.ref b), some h, some (.ref a), some (.int (0 + (i : Int))), some (.int z1), some (.int z2), some (.int st), some (.ref D)])
        (ev_neSS (ev_strH TH wd (ev_slH TH wd d1 (evo_some (ev_var rfl fun _ _ => rfl)) (evo_some (ev_var rfl fun _ _ => rfl)) (evo_some (ev_var rfl fun _ _ => rfl)) st0 (len st0)) mem (len st0)) (ev_ltext wd d4 mem (len st0))) ⟨w5, D, ys, rfl, hD, tq⟩ fun H6 s6 w6 => ?_
      have P6 := (P4.then s5).then s6
      have w7 := w6.1
      clear w6 w5 hD tq s5 s6 wd d4 d1 P4
      dsimp only [tNext]
      refine if_no (W := WS K c h a xs ms) (σ := [some (.ref b), some h, some (.ref a), some (.int (0 + (i : Int))), some (.int z1), some (.int z2), some (.int st), some (.ref D)]) (ev_bool (ev_not (ev_val (ev_isHi TH.cl (ev_slH TH sw v1 (evo_some (ev_var (i := 4) rfl fun _ _ => rfl)) (evo_some (ev_var (i := 5) rfl fun _ _ => rfl)) evo_none n0 (len n0))))) rfl) w7 fun H7 s7 w8 => ?_
      refine if_no (W := WS K c h a xs ms) (σ := [some (.ref b), some h, some (.ref a), some (.int (0 + (i : Int))), some (.int z1), some (.int z2), some (.int st), some (.ref D)]) (ev_neSS (ev_strH TH sw (ev_slH TH sw v1 (evo_some (ev_var (i := 4) rfl fun _ _ => rfl)) evo_none evo_none n0 (len n0)) mem (len n0)) (ev_ltext sw (ev_cutL sw v2 (evo_some (ev_var (i := 4) rfl fun _ _ => rfl)) evo_none) mem (len n0))) w8 fun H8 s8 w9 => ?_
      refine if_no (W := WS K c h a xs ms) (σ := [some (.ref b), some h, some (.ref a), some (.int (0 + (i : Int))), some (.int z1), some (.int z2), some (.int st), some (.ref D)]) (ev_neSS (ev_strH TH sw (ev_slH TH sw v1 evo_none evo_none (evo_some (ev_var (i := 6) rfl fun _ _ => rfl)) st0 (len st0)) mem (len st0)) (ev_ltext sw (ev_stepL sw v2 evo_none evo_none (evo_some (ev_var (i := 6) rfl fun _ _ => rfl)) st0 n) mem (len st0))) w9 fun H9 s9 w10 => ?_
      exact ⟨⟨_, _, _, _, _, rfl⟩, P6.then ((s7.trans s8).trans s9)⟩
    · rintro σ H1 ⟨⟨o3, o4, o5, o6, o7, rfl⟩, P0⟩
      exact k _ P0
end
end V3

set_option Elab.async false
set_option linter.all false
set_option maxRecDepth 100000
namespace V3
open PySem L2 TL
section
variable {P : Program} {w : World} {K : PySem.W.Frag} {mg : Str → Option Value} {base : Heap} {c : Cl} {W : Hp → Prop} {σ : L2.St} {ta tb te : TE} {ms ns : List Mv}
theorem addH_at {H : Hp} {u v : V} {inp : Bool} {Q : VK} (T : HiOps P w K mg base c) (hx : HiK K c H u ms) (hy : HiK K c H v ns) (n : ms.length + ns.length ≤ 1000) (k : ∀ w H', Same H H' → HiK K c H' w (ms ++ ns) → Q w H') : rBinD K .Add inp (FFa K c) u v H Q := by
  obtain ⟨a, dx, q, xs, rfl, ex, hq, mv⟩ := id hx
  obtain ⟨b, dy, q2, ys, rfl, ey, hq2, mv2⟩ := id hy
  exact ⟨a, c.Hi, dx, _, b, c.Hi, dy, _, spHAddH K c, E0, rfl, rfl, ex, ey, .inl rfl, fun _ => T.inp, ⟨rfl, .inl rfl⟩, _, _, ms, ns, rfl, hx, hy, n, k⟩
theorem ev_new0 (sw : StW W) : EvV W σ (tNew c.S) (fun v H => MvAt c H v .shut) := fun H Q w k => fun y dy ny ndy _ => k _ _ (made_same ny ndy) (sw _ _ (made_same ny ndy) w) ⟨y, dy, rfl, upd_same⟩
theorem ev_addM {m : Mv} (T : HiOps P w K mg base c) (sw : StW W) (ha : EvV W σ ta (isH K c ms)) (hb : EvV W σ tb (fun v H => MvAt c H v m)) (n : ms.length + 1 ≤ 1000) : EvV W σ (tOp (rBinD K .Add false (FFa K c)) ta tb) (isH K c (ms ++ [m])) :=
  ev_op st_h ha hb fun x y H Q w hx hy k => addM_at T hx hy n fun v H' s h => k v H' s (sw _ _ s w) h
theorem ev_shutL (sw : StW W) : EvV W σ (tLst (tCons (tTup (tCons (tC (.str "shut")) tNil)) tNil)) (isLs [.shut]) := fun H Q w k => ⟨(by show 1 ≤ sizeLine; decide), fun p np => ⟨(by show 1 ≤ sizeLine; decide), fun l nl => by
  have s1 : Same H (upd H p (.tup [.str "shut"])) := Same.new np
  have s2 : Same (upd H p (.tup [.str "shut"])) (upd (upd H p (.tup [.str "shut"])) l (.lst [.ref p])) := Same.new nl
  refine k _ _ (s1.trans s2) (sw _ _ (s1.trans s2) w) ⟨l, _, rfl, upd_same, Row.push (Row.nil) ?_⟩
  exact ⟨p, rfl, s2 _ _ upd_same⟩⟩⟩
end
section
variable {P : Program} {w : World} {K : PySem.W.Frag} {mg : Str → Option Value} {base : Heap}
theorem ok_sums {f CM : Addr} {c : Cl} {fd : FuncData} (F : Fun K "_law_sums_right" "_law_sums_right" sSums f fd) (T : BltW mg) (TH : HiOps P w K mg base c) (MV : MvTxt P w K mg base c CM) (cX : CalLText P w K mg base) :
    FnOk P w K mg base CX0 8 f fd ["_law_one", "_law_other", "_law_some", "_law_more"] (spSums K c) := by
  obtain ⟨fX, fdX, GX, mX, kX, bX⟩ := cX
  refine F.ok scSums (fun vs H Q E h => ?_) (fun cdv A outer s H vs Q E hr h => ?_)
  · obtain ⟨h, g, a, b, xs, ys, ms, ns, rfl, _⟩ := h
    rfl
  · obtain ⟨h, g, a, b, xs, ys, ms, ns, rfl, hh, hg, ha, hb, tp, tq, mok, nok, lm, ln, k⟩ := h
    have hr2 : Room 2 _ := hr.mono (by decide)
    have hr5 : Room 5 _ := hr.mono (by decide)
    have hr6 : Room 6 _ := hr.mono (by decide)
    have hr7 : Room 7 _ := hr
    refine ⟨_, (pss_cons (ps_if (pt_cmpR op_ne (pe_callTy (call_strHK TH hr6) (by rfl) T.str (by decide +kernel) (pa_cons (pe_op (op_binD (op_addH TH) hr5) (pv 0) (pv 1)) pa_nil)) (pe_call GX hr2 rfl mX kX bX .nil pass0 (pa_cons (pe_op op_cat (pv 2) (pv 3)) pa_nil)) (nomark _)) (pss_one (ps_ret pe_bl)) pss_nil)
  (pss_cons (ps_if (pt_cmpR op_ne (pe_callTy (call_strHK TH hr6) (by rfl) T.str (by decide +kernel) (pa_cons (pe_op (op_binD (op_addH TH) hr5) (pv 0) (pe_new0 MV.S rfl MV.gS)) pa_nil)) (pe_call GX hr2 rfl mX kX bX .nil pass0 (pa_cons (pe_op op_cat (pv 2) (pe_lst (pa_cons (pe_tup (pa_cons pe_str pa_nil)) pa_nil))) pa_nil)) (nomark _)) (pss_one (ps_ret pe_bl)) pss_nil)
  (pss_cons (ps_set (i := 4) scSums.nd rfl (Or.inl rfl) (pv 0))
  (pss_cons (ps_aug (i := 4) scSums.nd rfl (Or.inl rfl) (pv 1) (ip_own (op_addH TH) hr5))
  (pss_cons (ps_if (PW.pt (pw_or (pt_cmpR (op_neO (op_eqsH TH) hr7) (pv 4) (pe_op (op_binD (op_addH TH) hr5) (pv 0) (pv 1)) (nomark _)) (pw_or1 (pt_cmpR op_ne (pe_callTy (call_strHK TH hr6) (by rfl) T.str (by decide +kernel) (pa_cons (pv 0) pa_nil)) (pe_call GX hr2 rfl mX kX bX .nil pass0 (pa_cons (pv 2) pa_nil)) (nomark _))))) (pss_one (ps_ret pe_bl)) pss_nil)
  (pss_one (ps_ret (pe_cmpR op_eq (pe_cmpR (op_eqO (op_eqsH TH) hr6) (pv 0) (pv 1) (nomark _)) (pe_cmpR (op_eqD hr.units) (pv 2) (pv 3) (nomark _)) (nomark _))))))))), ?_⟩
    have sw : StW (fun Hh => WS K c h a xs ms Hh ∧ WS K c g b ys ns Hh) := fun _ _ s w => ⟨st_ws _ _ s w.1, st_ws _ _ s w.2⟩
    have w0 : (fun Hh => WS K c h a xs ms Hh ∧ WS K c g b ys ns Hh) H := ⟨⟨hh, ha, tp⟩, hg, hb, tq⟩
    have v0 : ∀ {o4 : Option V}, EvV (fun Hh => WS K c h a xs ms Hh ∧ WS K c g b ys ns Hh) [some h, some g, some (.ref a), some (.ref b), o4] (tVar 0) (isH K c ms) := ev_var rfl fun _ w => w.1.1
    have v1 : ∀ {o4 : Option V}, EvV (fun Hh => WS K c h a xs ms Hh ∧ WS K c g b ys ns Hh) [some h, some g, some (.ref a), some (.ref b), o4] (tVar 1) (isH K c ns) := ev_var rfl fun _ w => w.2.1
    have v2 : ∀ {o4 : Option V}, EvV (fun Hh => WS K c h a xs ms Hh ∧ WS K c g b ys ns Hh) [some h, some g, some (.ref a), some (.ref b), o4] (tVar 2) (isLs ms) := ev_var rfl fun _ w => ⟨a, xs, rfl, w.1.2.1, w.1.2.2⟩
    have v3 : ∀ {o4 : Option V}, EvV (fun Hh => WS K c h a xs ms Hh ∧ WS K c g b ys ns Hh) [some h, some g, some (.ref a), some (.ref b), o4] (tVar 3) (isLs ns) := ev_var rfl fun _ w => ⟨b, ys, rfl, w.2.2.1, w.2.2.2⟩
    have aok : ∀ m ∈ ms ++ ns, m.ok := fun m hm => (List.mem_append.mp hm).elim (mok m) (nok m)
    have sok : ∀ m ∈ ms ++ [Mv.shut], m.ok := fun m hm => (List.mem_append.mp hm).elim (mok m) fun h => by
      rw [List.mem_singleton.mp h]
      trivial
    have la : (ms ++ ns).length ≤ 1000 := by rw [List.length_append]; omega
    have ls : (ms ++ [Mv.shut]).length ≤ 1000 := by rw [List.length_append]; show ms.length + 1 ≤ 1000; omega
    refine if_no (W := fun Hh => WS K c h a xs ms Hh ∧ WS K c g b ys ns Hh) (σ := [some h, some g, some (.ref a), some (.ref b), none]) (ev_neSS (ev_strH TH sw (ev_addH TH sw v0 v1 (by omega)) aok la) (ev_ltext sw (ev_catL sw v2 v3 (by omega)) aok la)) w0 fun H1 s1 w1 => ?_
    refine if_no (W := fun Hh => WS K c h a xs ms Hh ∧ WS K c g b ys ns Hh) (σ := [some h, some g, some (.ref a), some (.ref b), none]) (ev_neSS (ev_strH TH sw (ev_addM TH sw v0 (ev_new0 sw) (by omega)) sok ls) (ev_ltext sw (ev_catL sw v2 (ev_shutL sw) (by show ms.length + 1 ≤ 900; omega)) sok ls)) w1 fun H2 s2 w2 => ?_
    refine ⟨h, rfl, h, rfl, g, rfl, addH_at TH w2.1.1 w2.2.1 (by omega) fun kp H3 s3 hk => ?_⟩
    have w3 := sw _ _ s3 w2
    have swk : StW (fun Hh => (WS K c h a xs ms Hh ∧ WS K c g b ys ns Hh) ∧ HiK K c Hh kp (ms ++ ns)) := fun _ _ s w => ⟨sw _ _ s w.1, w.2.same s⟩
    refine if_no (W := fun Hh => (WS K c h a xs ms Hh ∧ WS K c g b ys ns Hh) ∧ HiK K c Hh kp (ms ++ ns)) (σ := [some h, some g, some (.ref a), some (.ref b), some kp])
      (ev_or (ev_neH TH swk (ev_var rfl fun _ w => w.2) (ev_addH TH swk (ev_var rfl fun _ w => w.1.1.1) (ev_var rfl fun _ w => w.1.2.1) (by omega)) aok rfl) (ev_neSS (ev_strH TH swk (ev_var rfl fun _ w => w.1.1.1) mok (by omega)) (ev_ltext swk (ev_var rfl fun _ w => ⟨a, xs, rfl, w.1.1.2.1, w.1.1.2.2⟩) mok (by omega)))) ⟨w3, hk⟩ fun H4 s4 w4 => ?_
    refine ev_eqB (W := fun Hh => WS K c h a xs ms Hh ∧ WS K c g b ys ns Hh) (σ := [some h, some g, some (.ref a), some (.ref b), some kp]) (ev_eqH (neg := false) TH sw v0 v1 mok nok) (ev_eqLs v2 v3 mok nok) H4 _ w4.1 fun v H5 s5 w5 hv => ?_
    have e : v = .bl true := by
      rw [show v = _ from hv]
      simp
    subst e
    exact k _ ((((s1.trans s2).trans s3).trans s4).trans s5)
end
end V3

set_option Elab.async false
set_option linter.all false
set_option maxRecDepth 100000
namespace V3
open PySem PySem.Spec PyProof.Rows L2 TL
/-- a tuple of these moves -/
def isT (K : PySem.W.Frag) (c : Cl) (ms : List Mv) : V → Hp → Prop := fun v H => ∃ q xs, v = .ref q ∧ TupH K H q xs ∧ MvsAt c H xs ms
theorem st_t {K : PySem.W.Frag} {c : Cl} {ms : List Mv} : StV (isT K c ms) := fun _ _ _ s h => by
  obtain ⟨q, xs, e, tq, mv⟩ := h
  exact ⟨q, xs, e, tq.same s, mv.same s⟩
def spHGetI (K : PySem.W.Frag) (c : Cl) : Sp := fun vs H Q _ => ∃ (u : V) (j : Nat) (ms : List Mv) (m : Mv), vs = [u, .int (j : Int)] ∧ HiK K c H u ms ∧ ms[j]? = some m ∧ ∀ w H', Same H H' → MvAt c H' w m → Q w H'
def spHNe (K : PySem.W.Frag) (c : Cl) : Sp := fun vs H Q _ => ∃ (u z : V), vs = [u, z] ∧ PlainL H z ∧ Q (.bl false) H
structure HiNot (K : PySem.W.Frag) (Hi : Addr) : Prop where
  s : PySem.W.kitOne K (.type "str") (.ref Hi) = some false
  n : PySem.W.kitOne K (.type "NoneType") (.ref Hi) = some false
  t : PySem.W.kitOne K (.type "tuple") (.ref Hi) = some false
  l : PySem.W.kitOne K (.type "list") (.ref Hi) = some false
section
variable {P : Program} {w : World} {K : PySem.W.Frag} {mg : Str → Option Value} {base : Heap}
theorem ok_hNe {f MV : Addr} {c : Cl} {fd : FuncData} (F : Fun K "__eq__" "History.__eq__" sHEq f fd) (T : EqTxt P w K mg base c) (CM : MvCls K c MV) (tr : c.T ≠ c.R) (N : HiNot K c.Hi) (zi : mg "isinstance" = none) (gH : mg "History" = some (.ref c.Hi)) : FnOk P w K mg base CX0 6 f fd ["self", "other"] (spHNe K c) := by
  refine F.ok scHEq (fun vs H Q E h => ?_) (fun cdv A outer s H vs Q E hr h => ?_)
  · obtain ⟨u, z, rfl, _⟩ := h
    rfl
  · obtain ⟨u, z, rfl, pl, k⟩ := h
    refine ⟨_, pss_one (ps_ret (pe_and (pe_callB call_isi (by rfl) zi (by decide +kernel) (pa_cons (pv 1) (pa_cons (pe_glob (v := .ref c.Hi) rfl gH rfl) pa_nil))) (pe_one (pe_cmpR (op_eqB (n := 4) mon_db (eqB_mv T CM tr) (hr.mono (by decide))) (pe_fld (pv 0) rfl) (pe_fld (pv 1) rfl) (nomark _))))), ?_⟩
    cases pl with
    | str x => exact ⟨_, rfl, _, _, _, _, _, rfl, .own c.Hi, .base (.str x), N.s, _, rfl, iteF k⟩
    | non => exact ⟨_, rfl, _, _, _, _, _, rfl, .own c.Hi, .base .non, N.n, _, rfl, iteF k⟩
    | tup h => exact ⟨_, rfl, _, _, _, _, _, rfl, .own c.Hi, .base (.tup h), N.t, _, rfl, iteF k⟩
    | lst h => exact ⟨_, rfl, _, _, _, _, _, rfl, .own c.Hi, .base (.lst h), N.l, _, rfl, iteF k⟩
theorem atI_nat {α : Type} {xs : List α} {j : Nat} {x : α} (h : xs[j]? = some x) : atI xs (j : Int) = some x := by
  have l := (List.getElem?_eq_some_iff.mp h).1
  have e : ixN xs.length (j : Int) = some j := by
    unfold ixN
    rw [if_pos (by omega), if_pos (by omega)]
    simp
  show (ixN xs.length (j : Int)).bind (fun j => xs[j]?) = some x
  rw [e]
  exact h
theorem ok_hGetI {f MV : Addr} {c : Cl} {fd : FuncData} (F : Fun K "__getitem__" "History.__getitem__" sHGet f fd) (T : BltH mg) (C : HiCls K c) (CM : MvCls K c MV) (nk : ∀ k, k < 4 → PySem.W.kitOne K (.ref (c.at k)) (.type "tuple") = some false) (M : HiTxtT P w K mg base c) : FnOk P w K mg base CX0 5 f fd ["self", "at"] (spHGetI K c) := by
  obtain ⟨fI, fdI, GI, MI, bI⟩ := M.ini
  refine F.ok scHGet (fun vs H Q E h => ?_) (fun cdv A outer s H vs Q E hr h => ?_)
  · obtain ⟨u, j, ms, m, rfl, _⟩ := h
    rfl
  · obtain ⟨u, j, ms, m, rfl, ⟨x, dx, q, xs, rfl, hx, hq, mv⟩, hm, k⟩ := h
    refine ⟨_, pss_cons (ps_set (i := 2) scHGet.nd rfl (Or.inl rfl) (pe_ix ix_tup (pe_fld (pv 0) rfl) (pv 1) (fun _ _ => rfl)))
      (pss_one (ps_ret (pe_ifExp (pt_val (pe_callB call_isi (by rfl) T.isi (by decide +kernel) (pa_cons (pv 2) (pa_cons (pe_bltn (v := .ty "tuple") (by rfl) T.tuple (by decide +kernel) rfl) pa_nil)))) (pe_make (E := fun _ _ _ => False) MI GI hr rfl M.g bI .nil pass0 (pa_cons (pv 2) pa_nil)) (pv 2)))), ?_⟩
    have l : j < xs.length := by rw [mv.len]; exact (List.getElem?_eq_some_iff.mp hm).1
    obtain ⟨m', hm', am⟩ := mv.at (List.getElem?_eq_getElem l)
    rw [hm] at hm'
    injection hm' with e
    subst e
    obtain ⟨y, dy, ey, hy⟩ := id am
    obtain ⟨fs, eo⟩ := mv_at c m dy
    obtain ⟨cl, ca, mr, ki⟩ := CM.cl m.kind (kind_lt m)
    refine ⟨_, rfl, x, c.Hi, dx, _, _, rfl, hx, C.cl, C.nM, rfl, _, rfl, q, xs, _, _, rfl, rfl, hq.sq, atI_nat (List.getElem?_eq_getElem l), ?_⟩
    rw [ey] at am ⊢
    exact ⟨_, rfl, _, _, _, _, _, rfl, .ty "tuple", .base (.ins (by rw [hy, eo]) cl ca CM.gn CM.tk mr), nk _ (kind_lt m), _, rfl, iteF ⟨_, rfl, k _ H (Same.refl H) am⟩⟩
end
/-- what else the law does with histories -/
structure HiOps2 (P : Program) (w : World) (K : PySem.W.Frag) (mg : Str → Option Value) (base : Heap) (c : Cl) : Prop where
  getI : ∃ (f : Addr) (fd : FuncData), FnOk P w K mg base CX0 5 f fd ["self", "at"] (spHGetI K c) ∧ (GetCls K c.Hi f ∧ PySem.W.noSeq K c.Hi = true) ∧ Binds K fd ["self", "at"] []
  ne : ∃ (f : Addr) (fd : FuncData), FnOk P w K mg base CX0 6 f fd ["self", "other"] (spHNe K c) ∧ EqCls K c.Hi f ∧ Binds K fd ["self", "other"] []
  bh : BehindL K c.Hi
def FFi (K : PySem.W.Frag) (c : Cl) : Addr → Sp → XK → Prop := fun C sp _ => C = c.Hi ∧ sp = spHGetI K c
def FFn2 (K : PySem.W.Frag) (c : Cl) : Addr → Sp → XK → Prop := fun C sp _ => C = c.Hi ∧ sp = spHNe K c
section
variable {X : Cx} {c : Cl}
theorem op_getI (T : HiOps2 X.prog X.w X.K X.mg X.base c) : GetF X 5 (FFi X.K c) := fun C sp E h => by
  obtain ⟨rfl, rfl⟩ := h
  obtain ⟨f, fd, F, ec, bi⟩ := T.getI
  exact ⟨CX0, f, fd, _, F, ec, bi, fun _ _ _ _ _ _ _ h => h.elim⟩
theorem op_nesH (T : HiOps2 X.prog X.w X.K X.mg X.base c) : ∀ C sp E, FFn2 X.K c C sp E → ∃ (CX : CXT) (f : Addr) (fd : FuncData) (ps : List Str), FnOk X.prog X.w X.K X.mg X.base CX 6 f fd ps sp ∧ EqCls X.K C f ∧ Binds X.K fd ps [] ∧ Passes CX X E := fun C sp E h => by
  obtain ⟨rfl, rfl⟩ := h
  obtain ⟨f, fd, F, ec, bi⟩ := T.ne
  exact ⟨CX0, f, fd, _, F, ec, bi, fun _ _ _ _ _ _ _ h => h.elim⟩
end
section
variable {P : Program} {w : World} {K : PySem.W.Frag} {mg : Str → Option Value} {base : Heap} {c : Cl} {W : Hp → Prop} {σ : L2.St} {ta tb te : TE} {ms ns : List Mv}
theorem getI_at {H : Hp} {u : V} {j : Nat} {m : Mv} {Q : VK} (hu : HiK K c H u ms) (hm : ms[j]? = some m) (k : ∀ w H', Same H H' → MvAt c H' w m → Q w H') : rIxO (FFi K c) u (.int (j : Int)) H Q := by
  obtain ⟨a, dx, q, xs, rfl, ex, hq, mv⟩ := id hu
  exact ⟨a, c.Hi, dx, _, spHGetI K c, E0, rfl, ex, ⟨rfl, rfl⟩, _, j, ms, m, rfl, hu, hm, k⟩
/-- a history made of a list of moves -/
theorem ev_newL (sw : StW W) (ha : EvV W σ ta (fun v H => ∃ a xs, v = .ref a ∧ H a = some (.lst xs) ∧ MvsAt c H xs ms)) (n : ms.length ≤ 1000) : EvV W σ (tMake c.Hi (spHIM c) [] E0 (tCons ta tNil)) (isH K c ms) := fun H Q w k =>
  ha H _ w fun x H1 s1 w1 hx => by
    obtain ⟨a, xs, rfl, ha, mv⟩ := hx
    exact fun y dy ny ndy _ => mk_hist ha mv n ny ndy fun H' s hi => ⟨rfl, k _ H' (s1.trans s) (sw _ _ s w1) (HiK.of hi)⟩
/-- .. of a tuple of moves -/
theorem ev_newT (sw : StW W) (ha : EvV W σ ta (isT K c ms)) (n : ms.length ≤ 1000) : EvV W σ (tMake c.Hi (spHIT K c) [] E0 (tCons ta tNil)) (isH K c ms) := fun H Q w k =>
  ha H _ w fun x H1 s1 w1 hx => by
    obtain ⟨a, xs, rfl, ha, mv⟩ := hx
    exact fun y dy ny ndy _ => mk_histT ha mv n ny ndy fun H' s hi => ⟨rfl, k _ H' (s1.trans s) (sw _ _ s w1) hi⟩
theorem ev_tup0 (sw : StW W) : EvV W σ (tTup tNil) (isT K c []) := fun H Q w k => ⟨(by show 0 ≤ sizeLine; decide), fun p np => k _ _ (Same.new np) (sw _ _ (Same.new np) w) ⟨p, _, rfl, .inl upd_same, trivial⟩⟩
theorem ev_lst0 (sw : StW W) : EvV W σ (tLst tNil) (fun v H => ∃ a xs, v = .ref a ∧ H a = some (.lst xs) ∧ MvsAt c H xs []) := fun H Q w k => ⟨(by show 0 ≤ sizeLine; decide), fun p np => k _ _ (Same.new np) (sw _ _ (Same.new np) w) ⟨p, _, rfl, upd_same, trivial⟩⟩
end
end V3

set_option Elab.async false
set_option linter.all false
set_option maxRecDepth 100000
namespace V3
open PySem L2 TL
abbrev NL : List Str := ["_law_script", "_law_k", "_law_box", "_law_some", "_law_handed", "_law_more", "_law_one", "_law_other", "_law_texts", "_law_turn", "_law_move", "_law_at"]
theorem scLaw : FnScope NL ["_law_script"] (defScope sLaw) := ⟨rfl, rfl, rfl, by decide +kernel, rfl, by decide +kernel, by decide +kernel⟩
/-- drawn tuples, so many as are drawn -/
theorem drawn_at {b : Addr} {N : Int} {H : Hp} {u v : Int} {s0 s1 s3 s4 s5 s6 s7 s8 s9 s10 s11 : Option V} {Q : VK} (hN : 1 ≤ N ∧ N ≤ 40) (hb : H b = some (box u v)) (ok : BoxOk u v)
    (k : ∀ D vs ms H', Pre b H H' → H D = none → D ≠ b → H' D = some (.lst vs) → Tups H' vs ms → (∀ m ∈ ms, m.ok) → ms.length ≤ 40 → Q (.ref D) H') :
    tLc (iRng1 (tCons (tCall spChoose [] E0 (tCons (tVar 2) (tCons (tC (.int N)) tNil))) tNil)) (gName 9) tYes (tCall spAM [] E0 (tCons (tVar 2) tNil)) [9] [s0, s1, some (.ref b), s3, s4, s5, s6, s7, s8, s9, s10, s11] H Q := by
  refine ⟨_, rfl, b, u, v, N, rfl, hb, ok, hN.1, by omega, fun za u4 v4 z0 z1 ok4 => ⟨za, rfl, by omega, by omega, fun D nD => ?_⟩⟩
  have Pb : Pre b H (upd H b (box u4 v4)) := Pre.box ok4
  have nbD : b ≠ D := ne_of_none upd_same nD
  have nDh : H D = none := by rw [upd_ne (Ne.symm nbD)] at nD; exact nD
  have hb4 : upd H b (box u4 v4) b = some (box u4 v4) := upd_same
  generalize upd H b (box u4 v4) = H4 at Pb hb4 nD ⊢
  refine lc_range (lo := 0) (n := za.toNat) (fun i Hk => ∃ vs ms, Pre b H4 Hk ∧ Hk D = some (.lst vs) ∧ Tups Hk vs ms ∧ (∀ m ∈ ms, m.ok) ∧ ms.length = i) ?_ ?_ ?_
  · exact ⟨[], [], ⟨fun c o n e => by rw [upd_ne (ne_of_none e nD)]; exact e, u4, v4, ok4, by rw [upd_ne nbD]; exact hb4⟩, upd_same, Row.nil, (fun _ h => nomatch h), rfl⟩
  · rintro i3 Hk hi3 ⟨vs, ms, S5, hD, tp, mok, ln⟩
    refine ⟨rfl, ?_⟩
    unfold tYes
    dsimp only
    refine iteT ?_
    obtain ⟨sy, u5, v5, ok5, hb5⟩ := id S5
    refine ⟨_, rfl, b, u5, v5, rfl, hb5, ok5, fun p m H5 S6 tm mk => ?_⟩
    have hD6 : H5 D = some (.lst vs) := S6.1 D _ (Ne.symm nbD) hD
    obtain ⟨sz, u6, v6, ok6, hb6⟩ := S5.trans S6
    have kp : KeepL Hk (upd H5 D (.lst (vs ++ [p]))) := (KeepL.pre hb5 S6.1).trans (KeepL.lst hD6)
    refine ⟨vs, hD6, lt_size (by rw [tp.1]; omega), vs ++ [p], ms ++ [m], ⟨fun c o n e => by rw [upd_ne (ne_of_none e nD)]; exact sz c o n e, u6, v6, ok6, by rw [upd_ne nbD]; exact hb6⟩, upd_same, Row.push (tp.keepL kp) ?_, fun x hx => ?_, by simp [ln]⟩
    · obtain ⟨q, e, hq⟩ := tm
      exact ⟨q, e, KeepL.lst hD6 _ _ (fun _ z => by cases z) hq⟩
    · rcases List.mem_append.mp hx with hx | hx
      · exact mok x hx
      · rw [List.mem_singleton.mp hx]
        exact mk
  rintro Hk ⟨vs, ms, S5, hD, tp, mok, ln⟩
  exact k D vs ms Hk (Pb.trans S5) nDh (Ne.symm nbD) hD tp mok (by omega)
/-- the moves made of them -/
theorem made_at {K : PySem.W.Frag} {c : Cl} {a : Addr} {vs : List V} {ms : List Mv} {H : Hp} {σ : L2.St} {j : Nat} {Q : VK} (e : σ[j]? = some (some (.ref a))) (l12 : σ.length = 12) (hj10 : j ≠ 10) (ha : H a = some (.lst vs)) (tp : Tups H vs ms) (mok : ∀ m ∈ ms, m.ok) (ln : ms.length ≤ 40)
    (k : ∀ D xs H', Same H H' → H D = none → H' D = some (.lst xs) → MvsAt c H' xs ms → Q (.ref D) H') :
    tLc (iList K (tVar j)) (gName 10) tYes (tCall (spMadeM c) [] E0 (tCons (tVar 10) tNil)) [10] σ H Q := by
  refine ⟨_, e, a, rfl, ⟨vs, SqL.of ha⟩, fun D nD => ?_⟩
  have lv := tp.1
  refine lc_list (a := a) (xs := vs) (fun i Hk => ∃ xs, Same H Hk ∧ Hk D = some (.lst xs) ∧ MvsAt c Hk xs (ms.take i)) ⟨[], Same.new nD, upd_same, trivial⟩ (fun i Hh _ ⟨xs, s, _, _⟩ => SqL.of (s _ _ ha)) ?_ ?_
  · rintro i x Hh hx ⟨xs, s4, hD, mv⟩
    obtain ⟨m, hm, tm⟩ := tp.at hx
    have lw : (wipe σ [10]).length = 12 := by simp [wipe, l12]
    have wp : ∀ y : Option V, wipe ((wipe σ [10]).set 10 y) [10] = wipe σ [10] := fun y => by simp [wipe, List.set_set]
    refine ⟨wp _, ?_⟩
    unfold tYes
    dsimp only
    refine iteT ⟨x, by rw [List.getElem?_set_self (by omega)], x, m, rfl, tm.same s4, mok m (List.mem_of_getElem? hm), fun y H5 s5 ya => ?_⟩
    have hD5 := s5 _ _ hD
    have lx := mv.len
    rw [List.length_take] at lx
    refine ⟨xs, hD5, lt_size (by omega), xs ++ [y], Same.upn (s4.trans s5) nD, upd_same, ?_⟩
    rw [take_next' hm]
    exact MvsAt.upd_lst hD5 ((mv.same s5).snoc ya)
  · rintro Hk ⟨xs, s, hD, mv⟩
    rw [List.take_of_length_le (by rw [lv]; exact Nat.le_refl _)] at mv
    exact k D xs Hk s nD hD mv
theorem HiAt.keepL {c : Cl} {H H' : Hp} {v : V} {ms : List Mv} (h : HiAt c H v ms) (s : KeepL H H') : HiAt c H' v ms := by
  obtain ⟨x, dx, q, xs, e, hx, hq, mv⟩ := h
  exact ⟨x, dx, q, xs, e, s _ _ (fun _ z => by cases z) hx, s _ _ (fun _ z => by cases z) hq, mv.keepL s⟩
def WL (K : PySem.W.Frag) (c : Cl) (one oth : V) (A B b : Addr) (xs ys : List V) (ms ks : List Mv) : Hp → Prop := fun Hh => HiAt c Hh one ms ∧ HiK K c Hh oth ks ∧ (Hh A = some (.lst xs) ∧ Tups Hh xs ms) ∧ (Hh B = some (.lst ys) ∧ Tups Hh ys ks) ∧ ∃ u v, BoxOk u v ∧ Hh b = some (box u v)
theorem st_wl {K : PySem.W.Frag} {c : Cl} {one oth : V} {A B b : Addr} {xs ys : List V} {ms ks : List Mv} : StW (WL K c one oth A B b xs ys ms ks) := fun _ _ s w => by
  obtain ⟨w1, w2, ⟨w3, w4⟩, ⟨w5, w6⟩, u, v, ok, hb⟩ := w
  exact ⟨w1.same s, w2.same s, ⟨s _ _ w3, w4.same s⟩, ⟨s _ _ w5, w6.same s⟩, u, v, ok, s _ _ hb⟩
/-- a list of these texts -/
def isTx (ms : List Mv) : V → Hp → Prop := fun v H => ∃ D, v = .ref D ∧ H D = some (.lst ((ms.map Mv.text).map V.str))
theorem st_tx {ms : List Mv} : StV (isTx ms) := fun _ _ _ s h => by
  obtain ⟨D, e, hD⟩ := h
  exact ⟨D, e, s _ _ hD⟩
section
variable {P : Program} {w : World} {K : PySem.W.Frag} {mg : Str → Option Value} {base : Heap} {c : Cl} {W : Hp → Prop} {σ : L2.St} {ta tb te : TE} {ms ns : List Mv}
theorem ev_lenL (ha : EvV W σ ta (isLs ms)) : EvV W σ (tCB (fun xs H Q => ∃ p ys, xs = [.ref p] ∧ (SqL K H p ys ∨ SqT K H p ys) ∧ Q (.int (ys.length : Int)) H) (tCons ta tNil)) (isIv (ms.length : Int)) :=
  ev_cb1 ha fun x H Q w hx k => by
    obtain ⟨a, xs, rfl, ha, tp⟩ := hx
    refine ⟨a, xs, rfl, .inl (SqL.of ha), ?_⟩
    rw [tp.1]
    exact k _ H (Same.refl H) w rfl
theorem ev_isTup (ha : EvV W σ ta (isT K c ms)) : EvV W σ (tCB (rIsi K) (tCons ta (tCons (tC (.ty "tuple")) tNil))) (isBv true) := fun H Q w k =>
  ha H _ w fun x H1 s1 w1 hx => by
    obtain ⟨q, xs, rfl, hq, mv⟩ := hx
    exact ⟨_, _, _, _, _, rfl, .ty "tuple", hq.ty, kit_ty (by decide +kernel), k _ H1 s1 w1 rfl⟩
theorem ev_neTx (ha : EvV W σ ta (isTx ms)) (hb : EvV W σ tb (isTx ms)) (ok : ∀ m ∈ ms, m.ok) : EvB W σ (tTest (tOp (rNeD K) ta tb)) false := by
  refine ev_test (ev_op st_tx ha hb fun x y H Q w hx hy k => ?_)
  obtain ⟨D, rfl, hD⟩ := hx
  obtain ⟨D', rfl, hD'⟩ := hy
  refine ⟨_, _, .lst (SqL.of hD) (texts_dp _), .lst (SqL.of hD') (texts_dp _), texts_shaped ok, texts_shaped ok, k _ H (Same.refl H) w ?_⟩
  rw [texts_eqv]
  rfl
theorem tx_next {ms : List Mv} {i : Nat} {m : Mv} (h : ms[i]? = some m) : ((ms.take (i + 1)).map Mv.text).map V.str = ((ms.take i).map Mv.text).map V.str ++ [.str m.text] := by
  rw [take_next' h, List.map_append, List.map_append]
  rfl
theorem tx_len {ms : List Mv} {i : Nat} (n : ms.length ≤ 40) : (((ms.take i).map Mv.text).map V.str).length < sizeLine := by
  rw [List.length_map, List.length_map, List.length_take]
  exact lt_size (by omega)
theorem wp10 (l : σ.length = 12) (y : Option V) : wipe ((wipe σ [10]).set 10 y) [10] = wipe σ [10] := by simp [wipe, List.set_set]
theorem wp11 (l : σ.length = 12) (y : Option V) : wipe ((wipe σ [11]).set 11 y) [11] = wipe σ [11] := by simp [wipe, List.set_set]
/-- [move_text(m) for m in some] -/
theorem ev_tx (sw : StW W) (l : σ.length = 12) (ha : EvV W σ ta (isLs ms)) (ok : ∀ m ∈ ms, m.ok) (n : ms.length ≤ 40) : EvV W σ (tLc (iList K ta) (gName 10) tYes (tCall spText [] E0 (tCons (tVar 10) tNil)) [10]) (isTx ms) := fun H Q w k =>
  ha H _ w fun x H1 s1 w1 hx => by
    obtain ⟨a, xs, rfl, ha, tp⟩ := hx
    refine ⟨a, rfl, ⟨xs, SqL.of ha⟩, fun D nD => ?_⟩
    have lv := tp.1
    refine lc_list (a := a) (xs := xs) (fun i Hk => Same H1 Hk ∧ Hk D = some (.lst (((ms.take i).map Mv.text).map V.str))) ⟨Same.new nD, upd_same⟩ (fun i Hh _ z => SqL.of (z.1 _ _ ha)) ?_ ?_
    · rintro i x Hh hx ⟨s4, hD⟩
      obtain ⟨m, hm, tm⟩ := tp.at hx
      have lw : (wipe σ [10]).length = 12 := by simp [wipe, l]
      refine ⟨wp10 l _, ?_⟩
      unfold tYes
      dsimp only
      refine iteT ⟨x, by rw [List.getElem?_set_self (by omega)], x, m, rfl, tm.same s4, ok m (List.mem_of_getElem? hm), _, hD, tx_len n, Same.upn s4 nD, ?_⟩
      rw [upd_same, tx_next hm]
    · rintro Hk ⟨s, hD⟩
      rw [lv, List.take_length] at hD
      exact k _ Hk (s1.trans s) (sw _ _ s w1) ⟨D, rfl, hD⟩
/-- [str(m) for m in one.moves] -/
theorem ev_tx2 (sw : StW W) (l : σ.length = 12) (ha : EvV W σ ta (isT K c ms)) (ok : ∀ m ∈ ms, m.ok) (n : ms.length ≤ 40) : EvV W σ (tLc (iTup K ta) (gName 10) tYes (tCB (rStrM c) (tCons (tVar 10) tNil)) [10]) (isTx ms) := fun H Q w k =>
  ha H _ w fun x H1 s1 w1 hx => by
    obtain ⟨a, xs, rfl, ha, mv⟩ := hx
    refine ⟨a, rfl, ⟨xs, ha.sq⟩, fun D nD => ?_⟩
    have lv := mv.len
    refine lc_tup (a := a) (xs := xs) (fun i Hk => Same H1 Hk ∧ Hk D = some (.lst (((ms.take i).map Mv.text).map V.str))) ⟨Same.new nD, upd_same⟩ (fun i Hh _ z => (ha.same z.1).sq) ?_ ?_
    · rintro i x Hh hx ⟨s4, hD⟩
      obtain ⟨m, hm, am⟩ := mv.at hx
      have lw : (wipe σ [10]).length = 12 := by simp [wipe, l]
      refine ⟨wp10 l _, ?_⟩
      unfold tYes
      dsimp only
      refine iteT ⟨x, by rw [List.getElem?_set_self (by omega)], x, m, rfl, am.same s4, ok m (List.mem_of_getElem? hm), _, hD, tx_len n, Same.upn s4 nD, ?_⟩
      rw [upd_same, tx_next hm]
    · rintro Hk ⟨s, hD⟩
      rw [lv, List.take_length] at hD
      exact k _ Hk (s1.trans s) (sw _ _ s w1) ⟨D, rfl, hD⟩
/-- [str(one[at]) for at in range(n)] -/
theorem ev_tx3 {one : V} (sw : StW W) (l : σ.length = 12) (h6 : σ[6]? = some (some one)) (hone : ∀ H, W H → HiK K c H one ms) (ha : EvV W σ ta (isIv (ms.length : Int))) (ok : ∀ m ∈ ms, m.ok) (n : ms.length ≤ 40) : EvV W σ (tLc (iRng1 (tCons ta tNil)) (gName 11) tYes (tCB (rStrM c) (tCons (tOp (rIxO (FFi K c)) (tVar 6) (tVar 11)) tNil)) [11]) (isTx ms) := fun H Q w k =>
  ha H _ w fun x H1 s1 w1 hx => by
    refine ⟨_, congrArg (fun z => [z]) hx, by omega, by omega, fun D nD => ?_⟩
    have nn : ((ms.length : Int)).toNat = ms.length := by omega
    rw [nn]
    refine lc_range (lo := 0) (n := ms.length) (fun i Hk => Same H1 Hk ∧ Hk D = some (.lst (((ms.take i).map Mv.text).map V.str))) ⟨Same.new nD, upd_same⟩ ?_ ?_
    · rintro i Hh hi ⟨s4, hD⟩
      have hm := List.getElem?_eq_getElem hi
      have lw : (wipe σ [11]).length = 12 := by simp [wipe, l]
      refine ⟨wp11 l _, ?_⟩
      unfold tYes
      dsimp only
      have e6 : ((wipe σ [11]).set 11 (some (.int (0 + (i : Int)))))[6]? = some (some one) := by
        rw [List.getElem?_set_ne (by decide)]
        show ((wipe σ []).set 11 none)[6]? = _
        rw [List.getElem?_set_ne (by decide)]
        exact h6
      have z0 : (0 + (i : Int)) = (i : Int) := by omega
      refine iteT ⟨one, e6, _, by rw [List.getElem?_set_self (by omega)], ?_⟩
      rw [z0]
      refine getI_at (hone _ (sw _ _ s4 w1)) hm fun v H5 s5 am => ⟨v, _, rfl, am, ok _ (List.getElem_mem hi), ?_⟩
      refine ⟨_, s5 _ _ hD, tx_len n, Same.upn (s4.trans s5) nD, ?_⟩
      rw [upd_same, tx_next hm]
    · rintro Hk ⟨s, hD⟩
      rw [List.take_length] at hD
      exact k _ Hk (s1.trans s) (sw _ _ s w1) ⟨D, rfl, hD⟩
end
theorem wl_pre {K : PySem.W.Frag} {c : Cl} {one oth : V} {A B b : Addr} {xs ys : List V} {ms ks : List Mv} {H H' : Hp} (nA : A ≠ b) (nB : B ≠ b) (w : WL K c one oth A B b xs ys ms ks H) (p : Pre b H H') : WL K c one oth A B b xs ys ms ks H' := by
  obtain ⟨w1, w2, ⟨w3, w4⟩, ⟨w5, w6⟩, u, v, ok, hb⟩ := w
  have kp : KeepL H H' := KeepL.pre hb p.1
  exact ⟨w1.keepL kp, w2.keepL kp, ⟨p.1 _ _ nA w3, w4.keepL kp⟩, ⟨p.1 _ _ nB w5, w6.keepL kp⟩, p.2⟩
section
variable {W : Hp → Prop} {σ : L2.St} {ta tb : TE} {R : V → Hp → Prop}
theorem ev_andV (ha : EvV W σ ta (isBv true)) (hb : EvV W σ tb R) : EvV W σ (tAndV ta tb) R := fun H Q w k => ha H _ w fun v H1 s1 w1 e => ⟨true, e, iteT (hb H1 _ w1 fun v H2 s2 w2 r => k v H2 (s1.trans s2) w2 r)⟩
theorem ev_eqI {i j : Int} (ha : EvV W σ ta (isIv i)) (hb : EvV W σ tb (isIv j)) : EvV W σ (tOp rEq ta tb) (isBv (decide (i = j))) :=
  ev_op st_i ha hb fun x y H Q w ex ey k => by
    cases ex
    cases ey
    refine ⟨rfl, k _ H (Same.refl H) w ?_⟩
    have e : (V.int i = V.int j) ↔ (i = j) := ⟨fun z => by injection z, fun z => by rw [z]⟩
    show V.bl (decide (V.int i = V.int j)) = V.bl (decide (i = j))
    by_cases h : i = j
    · rw [decide_eq_true h, decide_eq_true (e.mpr h)]
    · rw [decide_eq_false h, decide_eq_false (fun z => h (e.mp z))]
theorem ev_eq {b b' : Bool} (h : EvV W σ ta (isBv b)) (e : b = b') : EvV W σ ta (isBv b') := e ▸ h
end
def spLaw (K : PySem.W.Frag) : Sp := fun vs H Q _ => ∃ (a : Addr) (ns : List Int), vs = [.ref a] ∧ SqL K H a (ns.map V.int) ∧ ns.length ≤ 63 ∧ ∀ H', Q (.bl true) H'
section
variable {P : Program} {w : World} {K : PySem.W.Frag} {mg : Str → Option Value} {base : Heap}
theorem ok_law {f CM : Addr} {c : Cl} {fd : FuncData} (F : Fun K "law" "law" sLaw f fd) (T : BltW mg) (TH : HiOps P w K mg base c) (TH2 : HiOps2 P w K mg base c) (MV : MvTxt P w K mg base c CM) (ST : StrTxt P w K mg base c)
    (cS : Cal P w K mg base CX0 "_law_seed" 1 ["_law_script", "_law_k"] (spSeed K)) (cC : CalCh P w K mg base) (cA : Cal P w K mg base CX0 "_law_any_move" 2 ["_law_box"] spAM) (cM : Cal P w K mg base CX0 "_law_made" 6 ["_law_move"] (spMadeM c))
    (cT : CalText P w K mg base) (cX : CalLText P w K mg base) (cSR : Cal P w K mg base CX0 "_law_slices_right" 7 ["_law_box", "_law_one", "_law_some"] (spSlices K c)) (cSU : Cal P w K mg base CX0 "_law_sums_right" 8 ["_law_one", "_law_other", "_law_some", "_law_more"] (spSums K c)) :
    FnOk P w K mg base CX0 9 f fd ["_law_script"] (spLaw K) := by
  obtain ⟨fS, fdS, GS, mS, kS, bS⟩ := cS
  obtain ⟨fC, fdC, GC, mC, kC, bC⟩ := cC
  obtain ⟨fA, fdA, GA, mA, kA, bA⟩ := cA
  obtain ⟨fM, fdM, GM, mM, kM, bM⟩ := cM
  obtain ⟨fT, fdT, GT, mT, kT, bT⟩ := cT
  obtain ⟨fX, fdX, GX, mX, kX, bX⟩ := cX
  obtain ⟨fSR, fdSR, GSR, mSR, kSR, bSR⟩ := cSR
  obtain ⟨fSU, fdSU, GSU, mSU, kSU, bSU⟩ := cSU
  obtain ⟨fL, fdL, GL, ML, bL⟩ := TH.iniL
  obtain ⟨fT2, fdT2, GT2, MT, bT2⟩ := TH.iniT
  obtain ⟨f0, fd0, e0, ds0, G0, M0, vd0, c0, he0⟩ := TH.ini0
  refine F.ok scLaw (fun vs H Q E h => ?_) (fun cdv A outer s H vs Q E hr h => ?_)
  · obtain ⟨a, ns, rfl, _⟩ := h
    rfl
  · obtain ⟨a, ns, rfl, hS, hl, k⟩ := h
    have hr1 : Room 1 _ := hr.mono (by decide)
    have hr2 : Room 2 _ := hr.mono (by decide)
    have hr3 : Room 3 _ := hr.mono (by decide)
    have hr4 : Room 4 _ := hr.mono (by decide)
    have hr5 : Room 5 _ := hr.mono (by decide)
    have hr6 : Room 6 _ := hr.mono (by decide)
    have hr7 : Room 7 _ := hr.mono (by decide)
    have hr8 : Room 8 _ := hr
    refine ⟨_, (pss_cons (ps_for PassesOwn.never rfl (pi_range1 (by rfl) T.range (pa_cons (pe_callB (call_max2 rfl) (by rfl) T.max (by decide +kernel) (pa_cons pe_int (pa_cons (pe_callB (call_min2 rfl) (by rfl) T.min (by decide +kernel) (pa_cons pe_int (pa_cons (pe_callB call_len_seq (by rfl) T.len PySem.boot_len (pa_cons (pv 0) pa_nil)) pa_nil))) pa_nil))) pa_nil)) (pg_name (i := 1) scLaw.nd rfl (Or.inl rfl))
  (pss_cons (ps_set (i := 2) scLaw.nd rfl (Or.inr rfl) (pe_call GS hr1 rfl mS kS bS .nil pass0 (pa_cons (pv 0) (pa_cons (pv 1) pa_nil))))
  (pss_cons (ps_setLc (i := 3) (own := [("_law_turn", 9)]) (g := gName 9) (tt := tYes) (by rfl) scLaw.nd rfl rfl (sw_true rfl rfl rfl (by decide +kernel)) (pi_range1 (by rfl) T.range (pa_cons (pe_call GC hr1 rfl mC kC bC .nil pass0 (pa_cons (pv 2) (pa_cons pe_int pa_nil))) pa_nil)) (blkOk_by (own := [("_law_turn", 9)]) (N := NL) (sc := defScope sLaw) (by decide +kernel)) (fun _ _ _ _ _ => (pg_name (i := 9) scLaw.nd rfl (Or.inl rfl))) (fun _ _ _ _ _ => pts_nil) (fun _ _ _ _ _ => (pe_call GA hr2 rfl mA kA bA .nil pass0 (pa_cons (pv 2) pa_nil))))
  (pss_cons (ps_setLc (i := 4) (own := [("_law_move", 10)]) (g := gName 10) (tt := tYes) (by rfl) scLaw.nd rfl rfl (sw_true rfl rfl rfl (by decide +kernel)) (pi_list (pv 3)) (blkOk_by (own := [("_law_move", 10)]) (N := NL) (sc := defScope sLaw) (by decide +kernel)) (fun _ _ _ _ _ => (pg_name (i := 10) scLaw.nd rfl (Or.inl rfl))) (fun _ _ _ _ _ => pts_nil) (fun _ _ _ _ _ => (pe_call GM hr6 rfl mM kM bM .nil pass0 (pa_cons (pv 10) pa_nil))))
  (pss_cons (ps_setLc (i := 5) (own := [("_law_turn", 9)]) (g := gName 9) (tt := tYes) (by rfl) scLaw.nd rfl rfl (sw_true rfl rfl rfl (by decide +kernel)) (pi_range1 (by rfl) T.range (pa_cons (pe_call GC hr1 rfl mC kC bC .nil pass0 (pa_cons (pv 2) (pa_cons pe_int pa_nil))) pa_nil)) (blkOk_by (own := [("_law_turn", 9)]) (N := NL) (sc := defScope sLaw) (by decide +kernel)) (fun _ _ _ _ _ => (pg_name (i := 9) scLaw.nd rfl (Or.inl rfl))) (fun _ _ _ _ _ => pts_nil) (fun _ _ _ _ _ => (pe_call GA hr2 rfl mA kA bA .nil pass0 (pa_cons (pv 2) pa_nil))))
  (pss_cons (ps_asg (pe_tup (pa_cons (pe_make (E := fun _ _ _ => False) ML GL hr4 rfl TH.g bL .nil pass0 (pa_cons (pv 4) pa_nil)) (pa_cons (pe_make (E := fun _ _ _ => False) MT GT2 hr4 rfl TH.g bT2 .nil pass0 (pa_cons (pe_callTy call_tuple_of (by rfl) T.tuple (by decide +kernel) (pa_cons (pe_lc (own := [("_law_move", 10)]) (g := gName 10) (tt := tYes) (by rfl) scLaw.nd (pi_list (pv 5)) (blkOk_by (own := [("_law_move", 10)]) (N := NL) (sc := defScope sLaw) (by decide +kernel)) (fun _ _ _ _ _ => (pg_name (i := 10) scLaw.nd rfl (Or.inl rfl))) (fun _ _ _ _ _ => pts_nil) (fun _ _ _ _ _ => (pe_call GM hr6 rfl mM kM bM .nil pass0 (pa_cons (pv 10) pa_nil)))) pa_nil)) pa_nil)) pa_nil))) (pg_tup rfl (pgs_cons (pg_name (i := 6) scLaw.nd rfl (Or.inr rfl)) (pgs_cons (pg_name (i := 7) scLaw.nd rfl (Or.inl rfl)) pgs_nil))))
  (pss_cons (ps_expr (pe_bm PySem.F.plainAttrs_list PySem.F.slot_list_append PySem.F.type_list_append mt_append (pv 4) (pa_cons (pe_new0 MV.S rfl MV.gS) pa_nil)))
  (pss_cons (ps_if (PW.pt (pw_or (pt_cmpR op_ne (pe_callB (call_lenHK TH hr2) (by rfl) T.len PySem.boot_len (pa_cons (pv 6) pa_nil)) (pe_callB call_len_seq (by rfl) T.len PySem.boot_len (pa_cons (pv 3) pa_nil)) (nomark _)) (pw_or1 (pt_not (pt_val (pe_callB call_isi (by rfl) T.isi (by decide +kernel) (pa_cons (pe_fld (pv 6) rfl) (pa_cons (pe_bltn (v := .ty "tuple") (by rfl) T.tuple (by decide +kernel) rfl) pa_nil)))))))) (pss_one (ps_ret pe_bl)) pss_nil)
  (pss_cons (ps_setLc (i := 8) (own := [("_law_move", 10)]) (g := gName 10) (tt := tYes) (by rfl) scLaw.nd rfl rfl (sw_true rfl rfl rfl (by decide +kernel)) (pi_list (pv 3)) (blkOk_by (own := [("_law_move", 10)]) (N := NL) (sc := defScope sLaw) (by decide +kernel)) (fun _ _ _ _ _ => (pg_name (i := 10) scLaw.nd rfl (Or.inl rfl))) (fun _ _ _ _ _ => pts_nil) (fun _ _ _ _ _ => (pe_call GT hr1 rfl mT kT bT .nil pass0 (pa_cons (pv 10) pa_nil))))
  (pss_cons (ps_if (PW.pt (pw_or (pt_cmpR op_ne (pe_callTy (call_strHK TH hr6) (by rfl) T.str (by decide +kernel) (pa_cons (pv 6) pa_nil)) (pe_call GX hr2 rfl mX kX bX .nil pass0 (pa_cons (pv 3) pa_nil)) (nomark _)) (pw_or1 (pt_cmpR (op_neD hr.units) (pe_lc (own := [("_law_move", 10)]) (g := gName 10) (tt := tYes) (by rfl) scLaw.nd (pi_tup (pe_fld (pv 6) rfl)) (blkOk_by (own := [("_law_move", 10)]) (N := NL) (sc := defScope sLaw) (by decide +kernel)) (fun _ _ _ _ _ => (pg_name (i := 10) scLaw.nd rfl (Or.inl rfl))) (fun _ _ _ _ _ => pts_nil) (fun _ _ _ _ _ => (pe_callTy (call_strM ST hr3) (by rfl) T.str (by decide +kernel) (pa_cons (pv 10) pa_nil)))) (pv 8) (nomark _))))) (pss_one (ps_ret pe_bl)) pss_nil)
  (pss_cons (ps_if (pt_cmpR (op_neD hr.units) (pe_lc (own := [("_law_at", 11)]) (g := gName 11) (tt := tYes) (te := tCB (rStrM c) (tCons (tOp (rIxO (FFi K c)) (tVar 6) (tVar 11)) tNil)) (by rfl) scLaw.nd (pi_range1 (by rfl) T.range (pa_cons (pe_callB call_len_seq (by rfl) T.len PySem.boot_len (pa_cons (pv 3) pa_nil)) pa_nil)) (blkOk_by (own := [("_law_at", 11)]) (N := NL) (sc := defScope sLaw) (by decide +kernel)) (fun _ _ _ _ _ => (pg_name (i := 11) scLaw.nd rfl (Or.inl rfl))) (fun _ _ _ _ _ => pts_nil) (fun _ _ _ _ _ => (pe_callTy (call_strM ST hr3) (by rfl) T.str (by decide +kernel) (pa_cons (pe_ixO (op_getI TH2).plain hr6 (pv 6) (pv 11)) pa_nil)))) (pv 8) (nomark _)) (pss_one (ps_ret pe_bl)) pss_nil)
  (pss_cons (ps_if (PW.pt (pw_or (pt_not (pt_val (pe_call GSR hr7 rfl mSR kSR bSR .nil pass0 (pa_cons (pv 2) (pa_cons (pv 6) (pa_cons (pv 3) pa_nil)))))) (pw_or1 (pt_not (pt_val (pe_call GSU hr8 rfl mSU kSU bSU .nil pass0 (pa_cons (pv 6) (pa_cons (pv 7) (pa_cons (pv 3) (pa_cons (pv 5) pa_nil)))))))))) (pss_one (ps_ret pe_bl)) pss_nil)
  (pss_cons (ps_if (pt_cmpR (op_inL (op_nesH TH2) hr7) (pv 6) (pe_tup (pa_cons (pe_callTy (call_strHK TH hr6) (by rfl) T.str (by decide +kernel) (pa_cons (pv 6) pa_nil)) (pa_cons (pe_fld (pv 6) rfl) (pa_cons pe_non (pa_cons (pe_callTy call_list_of (by rfl) T.list (by decide +kernel) (pa_cons (pe_fld (pv 6) rfl) pa_nil)) pa_nil))))) rfl) (pss_one (ps_ret pe_bl)) pss_nil)
  (pss_one (ps_if (pt_cmpR (op_neO (op_eqsH TH) hr7) (pv 6) (pe_make (E := fun _ _ _ => False) MT GT2 hr4 rfl TH.g bT2 .nil pass0 (pa_cons (pe_fld (pv 6) rfl) pa_nil)) (nomark _)) (pss_one (ps_ret pe_bl)) pss_nil)))))))))))))))
  (pss_one (ps_ret (pe_and (pe_cmpR op_eq (pe_callTy (call_strHK TH hr6) (by rfl) T.str (by decide +kernel) (pa_cons (pe_make0 (E := fun _ _ _ => False) M0 G0 hr4 rfl TH.g c0 vd0 pass0) pa_nil)) pe_str (nomark _)) (pe_and (pe_cmpR op_eq (pe_callB (call_lenHK TH hr2) (by rfl) T.len PySem.boot_len (pa_cons (pe_make (E := fun _ _ _ => False) ML GL hr4 rfl TH.g bL .nil pass0 (pa_cons (pe_lst pa_nil) pa_nil)) pa_nil)) pe_int (nomark _)) (pe_one (pe_cmpR (op_eqO (op_eqsH TH) hr6) (pe_op (op_binD (op_addH TH) hr5) (pe_make0 (E := fun _ _ _ => False) M0 G0 hr4 rfl TH.g c0 vd0 pass0) (pe_make0 (E := fun _ _ _ => False) M0 G0 hr4 rfl TH.g c0 vd0 pass0)) (pe_make (E := fun _ _ _ => False) MT GT2 hr4 rfl TH.g bT2 .nil pass0 (pa_cons (pe_tup pa_nil) pa_nil)) (nomark _)))))))), ?_⟩
    refine ⟨_, rfl, a, _, rfl, .inl hS, _, _, rfl, _, _, rfl, ?_⟩
    rw [List.length_map]
    have hn : (if (if (ns.length : Int) < 4 then (ns.length : Int) else 4) > 1 then (if (ns.length : Int) < 4 then (ns.length : Int) else 4) else 1) ≤ 4 ∧ 1 ≤ (if (if (ns.length : Int) < 4 then (ns.length : Int) else 4) > 1 then (if (ns.length : Int) < 4 then (ns.length : Int) else 4) else 1) := by
      constructor <;> (split <;> (try split) <;> omega)
    generalize (if (if (ns.length : Int) < 4 then (ns.length : Int) else 4) > 1 then (if (ns.length : Int) < 4 then (ns.length : Int) else 4) else 1) = n at hn
    refine ⟨n, rfl, by omega, by omega, for_range (lo := 0) (n := n.toNat) (fun i σ H' => (∃ o1 o2 o3 o4 o5 o6 o7 o8 o9 o10 o11 : Option V, σ = [some (.ref a), o1, o2, o3, o4, o5, o6, o7, o8, o9, o10, o11]) ∧ Same H H') ⟨⟨_, _, _, _, _, _, _, _, _, _, _, rfl⟩, Same.refl H⟩ ?_ ?_⟩
    · rintro i σ H0 hi ⟨⟨o1, o2, o3, o4, o5, o6, o7, o8, o9, o10, o11, rfl⟩, s0⟩
      refine ⟨_, rfl, _, rfl, a, ns, _, rfl, s0.seq hS, hl, by omega, by omega, fun b u v nb ok => ?_⟩
      have s1 : Same H (upd H0 b (box u v)) := fun c o e => by
        rw [upd_ne (ne_of_none (s0 c o e) nb)]
        exact s0 c o e
      have hb0 : H b = none := s0.free nb
      have hb1 : upd H0 b (box u v) b = some (box u v) := upd_same
      generalize upd H0 b (box u v) = H1 at s1 hb1
      dsimp only [gName, tSeq, tAsg]
      -- what is drawn, what is made
      refine drawn_at (N := 31) (s0 := some (.ref a)) (s1 := some (.int (0 + (i : Int)))) (by decide) hb1 ok fun A xs ms H2 P2 nA nAb hA tA mok lm => ?_
      have s2 : Same H H2 := fun c o e => P2.1 c o (ne_of_none e hb0) (s1 c o e)
      obtain ⟨_, u2, v2, ok2, hb2⟩ := id P2
      refine made_at (c := c) (K := K) (j := 3) (σ := [some (.ref a), some (.int (0 + (i : Int))), some (.ref b), some (.ref A), o4, o5, o6, o7, o8, o9, o10, o11]) rfl rfl (by decide) hA tA mok lm fun L ls H3 s3 nL hL mv => ?_
      have s23 : Same H H3 := s2.trans s3
      have hb3 := s3 _ _ hb2
      have hA3 := s3 _ _ hA
      have tA3 := tA.same s3
      refine drawn_at (N := 6) (s0 := some (.ref a)) (s1 := some (.int (0 + (i : Int)))) (s3 := some (.ref A)) (s4 := some (.ref L)) (by decide) hb3 ok2 fun B ys ks H4 P4 nB nBb hB tB kok lk => ?_
      have s4 : Same H H4 := fun c o e => P4.1 c o (ne_of_none e hb0) (s23 c o e)
      obtain ⟨_, u4, v4, ok4, hb4⟩ := id P4
      have nAb' : A ≠ b := nAb
      have nLb : L ≠ b := fun e => by
        subst e
        rw [hb2] at nL
        cases nL
      have hA4 := P4.1 A _ nAb hA3
      have hL4 := P4.1 L _ nLb hL
      have kb : KeepL H3 H4 := KeepL.pre hb3 P4.1
      have tA4 := tA3.keepL kb
      have mv4 := mv.keepL kb
      -- two histories
      refine ⟨_, rfl, fun y dy ny ndy _ => mk_hist hL4 mv4 (by omega) ny ndy fun H5 s5 hone => ⟨rfl, ?_⟩⟩
      dsimp only [tCons, tMake, tCB]
      refine made_at (c := c) (K := K) (j := 5) (σ := [some (.ref a), some (.int (0 + (i : Int))), some (.ref b), some (.ref A), some (.ref L), some (.ref B), o6, o7, o8, o9, o10, o11]) rfl rfl (by decide) (s5 _ _ hB) (tB.same s5) kok lk fun C cs H6 s6 nC hC cv => ?_
      refine ⟨C, cs, rfl, .inl ⟨SqL.of hC, fun t nt => ?_⟩⟩
      have s7 : Same H6 (upd H6 t (.tup cs)) := Same.new nt
      refine fun y2 dy2 ny2 ndy2 _ => mk_histT (c := c) (.inl upd_same) (cv.same s7) (by omega) ny2 ndy2 fun H8 s8 hoth => ⟨rfl, ?_⟩
      refine ⟨(by show 2 ≤ sizeLine; decide), fun p np => ⟨p, _, rfl, SqT.of upd_same, rfl, _, _, rfl, _, _, rfl, rfl, ?_⟩⟩
      have s9 : Same H8 (upd H8 p (.tup [.ref y, .ref y2])) := Same.new np
      have S9 : Same H4 (upd H8 p (.tup [.ref y, .ref y2])) := (((s5.trans s6).trans s7).trans s8).trans s9
      have hone9 := hone.same (((s6.trans s7).trans s8).trans s9)
      have hoth9 := hoth.same s9
      generalize upd H8 p (.tup [.ref y, .ref y2]) = H9 at S9 hone9 hoth9
      clear s9 np hoth s8 ny2 ndy2 s7 nt hC cv nC s6 hone s5 ny ndy
      have hL9 := S9 _ _ hL4
      have hb9 := S9 _ _ hb4
      have hA9 := S9 _ _ hA4
      have hB9 := S9 _ _ hB
      have tA9 := tA4.same S9
      have tB9 := tB.same S9
      have sH9 : Same H H9 := s4.trans S9
      clear S9 hb4 hA4 hL4 hB tA4 tB mv4 kb
      -- one more behind the list
      refine ⟨_, rfl, .inl ⟨rfl, _, SqL.of hL9⟩, fun z dz nz ndz _ => ?_⟩
      have s10 : Same H9 (upd (upd H9 dz (.own z)) z (.ins c.S dz [])) := made_same nz ndz
      refine ⟨L, _, _, rfl, rfl, s10 _ _ hL9, lt_size (by have := mv.len; omega), ?_⟩
      have nAL : A ≠ L := fun e => by
        subst e
        rw [hA] at nL
        cases nL
      have nBL : B ≠ L := fun e => by
        subst e
        rw [hL] at nB
        cases nB
      have k11 : KeepL H9 (upd (upd (upd H9 dz (.own z)) z (.ins c.S dz [])) L (.lst (ls ++ [.ref z]))) := (KeepL.of s10).trans (KeepL.lst (s10 _ _ hL9))
      have nHL : H L = none := (s2.free nL)
      have s11 : Same H (upd (upd (upd H9 dz (.own z)) z (.ins c.S dz [])) L (.lst (ls ++ [.ref z]))) := Same.upn (sH9.trans s10) nHL
      have w11 : WL K c (.ref y) (.ref y2) A B b xs ys ms ks (upd (upd (upd H9 dz (.own z)) z (.ins c.S dz [])) L (.lst (ls ++ [.ref z]))) := by
        refine ⟨hone9.keepL k11, hoth9.keepL k11, ⟨?_, tA9.keepL k11⟩, ⟨?_, tB9.keepL k11⟩, u4, v4, ok4, ?_⟩
        · rw [upd_ne nAL]
          exact s10 _ _ hA9
        · rw [upd_ne nBL]
          exact s10 _ _ hB9
        · rw [upd_ne (Ne.symm nLb)]
          exact s10 _ _ hb9
      generalize upd (upd (upd H9 dz (.own z)) z (.ins c.S dz [])) L (.lst (ls ++ [.ref z])) = H11 at s11 w11
      clear k11 s10 nz ndz nHL hone9 hoth9 hL9 hb9 hA9 hB9 tA9 tB9 sH9 nBL nAL
      have sw : StW (WL K c (.ref y) (.ref y2) A B b xs ys ms ks) := st_wl
      have v6 : ∀ {o8 o9 o10 o11 : Option V}, EvV (WL K c (.ref y) (.ref y2) A B b xs ys ms ks) [some (.ref a), some (.int (0 + (i : Int))), some (.ref b), some (.ref A), some (.ref L), some (.ref B), some (.ref y), some (.ref y2), o8, o9, o10, o11] (tVar 6) (isH K c ms) := ev_var rfl fun _ w => HiK.of w.1
      have v3 : ∀ {o8 o9 o10 o11 : Option V}, EvV (WL K c (.ref y) (.ref y2) A B b xs ys ms ks) [some (.ref a), some (.int (0 + (i : Int))), some (.ref b), some (.ref A), some (.ref L), some (.ref B), some (.ref y), some (.ref y2), o8, o9, o10, o11] (tVar 3) (isLs ms) := ev_var rfl fun _ w => ⟨A, xs, rfl, w.2.2.1.1, w.2.2.1.2⟩
      dsimp only [tNext]
      refine if_no (W := WL K c (.ref y) (.ref y2) A B b xs ys ms ks) (σ := [some (.ref a), some (.int (0 + (i : Int))), some (.ref b), some (.ref A), some (.ref L), some (.ref B), some (.ref y), some (.ref y2), o8, o9, o10, o11]) (ev_or (ev_bool (ev_test (ev_neI (ev_lenH TH v6 (by omega)) (ev_lenL v3))) (by simp)) (ev_bool (ev_not (ev_val (ev_isTup (ev_moves TH.cl v6)))) rfl)) w11 fun H12 s12 w12 => ?_
      dsimp only [tNext, tSeq, tAsg]
      -- texts
      refine ev_tx (W := WL K c (.ref y) (.ref y2) A B b xs ys ms ks) (K := K) (σ := [some (.ref a), some (.int (0 + (i : Int))), some (.ref b), some (.ref A), some (.ref L), some (.ref B), some (.ref y), some (.ref y2), o8, o9, o10, o11]) sw rfl v3 mok (by omega) H12 _ w12 fun tx H13 s13 w13 htx => ?_
      have sw2 : StW (fun Hh => WL K c (.ref y) (.ref y2) A B b xs ys ms ks Hh ∧ isTx ms tx Hh) := fun _ _ s w => ⟨sw _ _ s w.1, st_tx _ _ _ s w.2⟩
      have u6 : EvV (fun Hh => WL K c (.ref y) (.ref y2) A B b xs ys ms ks Hh ∧ isTx ms tx Hh) [some (.ref a), some (.int (0 + (i : Int))), some (.ref b), some (.ref A), some (.ref L), some (.ref B), some (.ref y), some (.ref y2), some tx, o9, o10, o11] (tVar 6) (isH K c ms) := ev_var rfl fun _ w => HiK.of w.1.1
      have u3 : EvV (fun Hh => WL K c (.ref y) (.ref y2) A B b xs ys ms ks Hh ∧ isTx ms tx Hh) [some (.ref a), some (.int (0 + (i : Int))), some (.ref b), some (.ref A), some (.ref L), some (.ref B), some (.ref y), some (.ref y2), some tx, o9, o10, o11] (tVar 3) (isLs ms) := ev_var rfl fun _ w => ⟨A, xs, rfl, w.1.2.2.1.1, w.1.2.2.1.2⟩
      have u8 : EvV (fun Hh => WL K c (.ref y) (.ref y2) A B b xs ys ms ks Hh ∧ isTx ms tx Hh) [some (.ref a), some (.int (0 + (i : Int))), some (.ref b), some (.ref A), some (.ref L), some (.ref B), some (.ref y), some (.ref y2), some tx, o9, o10, o11] (tVar 8) (isTx ms) := ev_var rfl fun _ w => w.2
      have n1 : ms.length ≤ 1000 := by omega
      refine if_no (W := (fun Hh => WL K c (.ref y) (.ref y2) A B b xs ys ms ks Hh ∧ isTx ms tx Hh)) (σ := [some (.ref a), some (.int (0 + (i : Int))), some (.ref b), some (.ref A), some (.ref L), some (.ref B), some (.ref y), some (.ref y2), some tx, o9, o10, o11]) (ev_or (ev_neSS (ev_strH TH sw2 u6 mok n1) (ev_ltext sw2 u3 mok n1)) (ev_neTx (ev_tx2 sw2 rfl (ev_moves TH.cl u6) mok lm) u8 mok)) ⟨w13, htx⟩ fun H14 s14 w14 => ?_
      dsimp only [tNext]
      refine if_no (W := (fun Hh => WL K c (.ref y) (.ref y2) A B b xs ys ms ks Hh ∧ isTx ms tx Hh)) (σ := [some (.ref a), some (.int (0 + (i : Int))), some (.ref b), some (.ref A), some (.ref L), some (.ref B), some (.ref y), some (.ref y2), some tx, o9, o10, o11]) (ev_neTx (ev_tx3 sw2 rfl rfl (fun _ w => HiK.of w.1.1) (ev_lenL u3) mok lm) u8 mok) w14 fun H15 s15 w15 => ?_
      have S15 := (((s11.trans s12).trans s13).trans s14).trans s15
      have w16 := w15.1
      clear w15 w14 w13 w12 w11 s11 s12 s13 s14 s15 htx u6 u3 u8 sw2
      dsimp only [tNext]
      obtain ⟨e1, e2, ⟨e3, e4⟩, ⟨e5, e6⟩, u9, v9, ok9, e9⟩ := id w16
      refine ⟨_, rfl, _, rfl, _, rfl, b, u9, v9, .ref y, A, xs, ms, rfl, e9, ok9, nAb, HiK.of e1, e3, e4, mok, by omega, fun H16 P16 => ⟨true, rfl, ?_⟩⟩
      have w17 : WL K c (.ref y) (.ref y2) A B b xs ys ms ks H16 := wl_pre nAb nBb w16 P16
      have S16 : Same H H16 := fun c o e => P16.1 c o (ne_of_none e hb0) (S15 _ _ e)
      clear e1 e2 e3 e4 e5 e6 e9 w16 S15 P16 ok9
      obtain ⟨e1, e2, ⟨e3, e4⟩, ⟨e5, e6⟩, _⟩ := id w17
      refine iteF ⟨_, rfl, _, rfl, _, rfl, _, rfl, .ref y, .ref y2, A, B, xs, ys, ms, ks, rfl, HiK.of e1, e2, e3, e5, e4, e6, mok, kok, by omega, by omega, fun H17 s17 => ⟨true, rfl, iteF ?_⟩⟩
      have w18 := sw _ _ s17 w17
      have S17 := S16.trans s17
      clear e1 e2 e3 e4 e5 e6 w17 S16 s17
      -- it is in none of these
      obtain ⟨e1, _⟩ := id w18
      obtain ⟨y', dx, q, zs, ey, hx, hq, mv'⟩ := id e1
      cases ey
      refine ⟨_, rfl, _, rfl, .ref y, ms, rfl, HiK.of e1, mok, by omega, fun H18 s18 => ?_⟩
      have hx18 := s18 _ _ hx
      have hq18 := s18 _ _ hq
      refine ⟨_, rfl, y, c.Hi, dx, _, _, rfl, hx18, TH.cl.cl, TH.cl.nM, rfl, _, rfl, y, c.Hi, dx, _, _, rfl, hx18, TH.cl.cl, TH.cl.nM, rfl, q, zs, rfl, .inr (SqT.of hq18), fun l nl => ?_⟩
      have s19 : Same H18 (upd H18 l (.lst zs)) := Same.new nl
      have hl19 : upd H18 l (.lst zs) l = some (.lst zs) := upd_same
      have hx19 := s19 _ _ hx18
      have hq19 := s19 _ _ hq18
      generalize upd H18 l (.lst zs) = H19 at s19 hl19 hx19 hq19
      refine ⟨(by show 4 ≤ sizeLine; decide), fun p np => ?_⟩
      have s20 : Same H19 (upd H19 p (.tup [.str (hText ms), .ref q, .non, .ref l])) := Same.new np
      have pl : ∀ z ∈ [V.str (hText ms), .ref q, .non, .ref l], PlainL (upd H19 p (.tup [.str (hText ms), .ref q, .non, .ref l])) z := by
        intro z hz
        simp only [List.mem_cons, List.not_mem_nil, or_false] at hz
        rcases hz with rfl | rfl | rfl | rfl
        · exact .str _
        · exact .tup (s20 _ _ hq19)
        · exact .non
        · exact .lst (s20 _ _ hl19)
      refine ⟨y, p, c.Hi, dx, _, _, spHNe K c, E0, rfl, rfl, s20 _ _ hx19, upd_same, pl, TH2.bh, ⟨rfl, rfl⟩, fun z hz => ⟨_, z, rfl, pl z hz, rfl, rfl⟩, false, rfl, iteF ?_⟩
      have S20 := ((S17.trans s18).trans s19).trans s20
      have w20 := sw _ _ ((s18.trans s19).trans s20) w18
      generalize upd H19 p (.tup [.str (hText ms), .ref q, .non, .ref l]) = H20 at S20 w20
      clear pl hl19 hx19 hq19 hx18 hq18 s18 s19 s20 np S17 w18 e1
      -- made again of its moves
      dsimp only [tNext]
      refine if_no (W := WL K c (.ref y) (.ref y2) A B b xs ys ms ks) (σ := [some (.ref a), some (.int (0 + (i : Int))), some (.ref b), some (.ref A), some (.ref L), some (.ref B), some (.ref y), some (.ref y2), some tx, o9, o10, o11]) (ev_neH TH sw v6 (ev_newT (K := K) sw (ev_moves TH.cl v6) (by omega)) mok rfl) w20 fun H21 s21 w21 => ?_
      exact ⟨⟨_, _, _, _, _, _, _, _, _, _, _, rfl⟩, S20.trans s21⟩
    · rintro σ H1 ⟨⟨o1, o2, o3, o4, o5, o6, o7, o8, o9, o10, o11, rfl⟩, s0⟩
      have swt : StW (fun _ : Hp => True) := fun _ _ _ _ => trivial
      have no : ∀ m ∈ ([] : List Mv), m.ok := fun _ h => nomatch h
      refine ev_andV (W := fun _ => True) (σ := [some (.ref a), o1, o2, o3, o4, o5, o6, o7, o8, o9, o10, o11]) (ev_eq (ev_eqS (ev_strH TH swt (ev_newH swt he0) no (by decide)) (ev_str (s := ""))) (by decide +kernel))
        (ev_andV (ev_eq (ev_eqI (ev_lenH TH (ev_newL swt (ev_lst0 swt) (by decide)) (by decide)) ev_int) (by decide)) (ev_eq (b' := true) (ev_eqH (neg := false) TH swt (ev_addH TH swt (ev_newH swt he0) (ev_newH swt he0) (by decide)) (ev_newT swt (ev_tup0 swt) (by decide)) (by intro m h; cases h) no) (by decide))) H1 _ trivial fun v H2 s2 w2 e => ?_
      cases (show v = .bl true from e)
      exact k _
end
end V3

set_option Elab.async false
set_option maxHeartbeats 4000000
set_option linter.all false
set_option maxRecDepth 100000
namespace V3
open PySem L2
theorem kit_ref {K : PySem.W.Frag} {t C : Addr} {b : Bool} (h1 : PySem.W.isClsIn K C = true) (h2 : PySem.W.typeIn K (.ref C) = some (.type "type")) (h3 : PySem.W.subIn K (.ref t) (.ref C) = some b) (h4 : PySem.W.subIn K (.ref t) (.ref t) = some true) :
    PySem.W.kitOne K (.ref t) (.ref C) = some b := by
  unfold PySem.W.kitOne
  by_cases e : t = C
  · subst e
    rw [h4] at h3
    injection h3 with h3
    subst h3
    rw [if_pos (by simp)]
  · have n : (Value.ref t == Value.ref C) = false := by
      refine Bool.eq_false_iff.mpr fun q => e ?_
      exact Value.ref.inj (beq_iff_eq.mp q)
    rw [n, if_neg Bool.false_ne_true]
    have q : ((PySem.W.clsIn K C).isSome && PySem.W.typeIn K (.ref C) == some (.type "type")) = true := by
      have z : (PySem.W.clsIn K C).isSome = true := h1
      rw [z, h2] <;> rfl
    show (if ((PySem.W.clsIn K C).isSome && PySem.W.typeIn K (.ref C) == some (.type "type")) = true then PySem.W.subIn K (.ref t) (.ref C) else none) = some b
    rw [if_pos q]
    exact h3
theorem nf_same {K : PySem.W.Frag} {C : Addr} : PySem.W.notFirst K C (.ref C) = true := by simp [PySem.W.notFirst]
theorem nf_other {K : PySem.W.Frag} {C D : Addr} (h : PySem.W.subIn K (.ref D) (.ref C) = some false) : PySem.W.notFirst K C (.ref D) = true := by
  unfold PySem.W.notFirst
  rw [h]
  simp
theorem ne_sub {K : PySem.W.Frag} {C D : Addr} (h : PySem.W.subIn K (.ref C) (.ref D) = some false) (k : PySem.W.subIn K (.ref C) (.ref C) = some true) : C ≠ D := fun e => by
  subst e
  rw [h] at k
  cases k
theorem silent2 {K : PySem.W.Frag} {D : Addr} {oc : Value} {od : Option Addr} {cd : ClassData} {sl : Array (Option Value)} {a b : Value} {n : Str} (lk : K.lookup D = some ⟨oc, od, .cls cd, sl⟩) (mr : cd.mro = [a, b]) (h1 : PySem.W.findIn K a n = some none) (h2 : PySem.W.findIn K b n = some none) : Silent K D [n] :=
  ⟨oc, od, cd, sl, lk, by
    rw [mr]
    intro c hc m hm
    simp only [List.mem_cons, List.not_mem_nil, or_false] at hc hm
    subst hm
    rcases hc with rfl | rfl
    · exact h1
    · exact h2⟩
theorem silent3 {K : PySem.W.Frag} {D : Addr} {oc : Value} {od : Option Addr} {cd : ClassData} {sl : Array (Option Value)} {a b d : Value} {n n' : Str} (lk : K.lookup D = some ⟨oc, od, .cls cd, sl⟩) (mr : cd.mro = [a, b, d])
    (h1 : PySem.W.findIn K a n = some none) (h1' : PySem.W.findIn K a n' = some none) (h2 : PySem.W.findIn K b n = some none) (h2' : PySem.W.findIn K b n' = some none) (h3 : PySem.W.findIn K d n = some none) (h3' : PySem.W.findIn K d n' = some none) : Silent K D [n, n'] :=
  ⟨oc, od, cd, sl, lk, by
    rw [mr]
    intro c hc m hm
    simp only [List.mem_cons, List.not_mem_nil, or_false] at hc hm
    rcases hc with rfl | rfl | rfl <;> rcases hm with rfl | rfl
    · exact h1
    · exact h1'
    · exact h2
    · exact h2'
    · exact h3
    · exact h3'⟩
theorem kit_base {K : PySem.W.Frag} {t : String} {C : Addr} {b : Bool} (h1 : PySem.W.isClsIn K C = true) (h2 : PySem.W.typeIn K (.ref C) = some (.type "type")) (h3 : PySem.W.subIn K (.type t) (.ref C) = some b) :
    PySem.W.kitOne K (.type t) (.ref C) = some b := by
  unfold PySem.W.kitOne
  have n : (Value.type t == Value.ref C) = false := by
    refine Bool.eq_false_iff.mpr fun q => ?_
    cases beq_iff_eq.mp q
  rw [n, if_neg Bool.false_ne_true]
  have q : ((PySem.W.clsIn K C).isSome && PySem.W.typeIn K (.ref C) == some (.type "type")) = true := by
    have z : (PySem.W.clsIn K C).isSome = true := h1
    rw [z, h2] <;> rfl
  show (if ((PySem.W.clsIn K C).isSome && PySem.W.typeIn K (.ref C) == some (.type "type")) = true then PySem.W.subIn K (.type t) (.ref C) else none) = some b
  rw [if_pos q]
  exact h3
theorem kit_rt {K : PySem.W.Frag} {T : String} {C : Addr} {b : Bool} (hm : PySem.W.kitMeta T = true) (h3 : PySem.W.subIn K (.ref C) (.type T) = some b) : PySem.W.kitOne K (.ref C) (.type T) = some b := by
  unfold PySem.W.kitOne
  rw [if_neg (by intro z; cases (beq_iff_eq.mp z))]
  show (if PySem.W.kitMeta T = true then PySem.W.subIn K (.ref C) (.type T) else none) = some b
  rw [if_pos hm]
  exact h3
theorem all_mk {l : PySem.W.OpenLaw} {w : World} {K : PySem.W.Frag} {h : Heap} {mg : Str → Option Value} {fa f_int f_num f_amt f_ism f_seed f_choose f_one f_am f_made f_mt f_lt f_le f_sl f_su f_law CM MV BC TC RC SC HC f_im f_bi f_ti f_ri f_be f_bs f_te f_ts f_re f_rs f_se f_ss f_hi e_hi f_he f_hs f_hl f_hg f_ha : Addr} (X : K.In h) (G : h.Ns mainGlobals mg) (hfa : mg "law" = some (.ref fa))
    {od_f_int an_f_int : Option Addr} {sl_f_int : Array (Option Value)} {oc_f_int kV_f_int dc_f_int pm_f_int cd_f_int ct_f_int : Value}
    {od_f_num an_f_num : Option Addr} {sl_f_num : Array (Option Value)} {oc_f_num kV_f_num dc_f_num pm_f_num cd_f_num ct_f_num : Value}
    {od_f_amt an_f_amt : Option Addr} {sl_f_amt : Array (Option Value)} {oc_f_amt kV_f_amt dc_f_amt pm_f_amt cd_f_amt ct_f_amt : Value}
    {od_f_ism an_f_ism : Option Addr} {sl_f_ism : Array (Option Value)} {oc_f_ism kV_f_ism dc_f_ism pm_f_ism cd_f_ism ct_f_ism : Value}
    {od_f_seed an_f_seed : Option Addr} {sl_f_seed : Array (Option Value)} {oc_f_seed kV_f_seed dc_f_seed pm_f_seed cd_f_seed ct_f_seed : Value}
    {od_f_choose an_f_choose : Option Addr} {sl_f_choose : Array (Option Value)} {oc_f_choose kV_f_choose dc_f_choose pm_f_choose cd_f_choose ct_f_choose : Value}
    {od_f_one an_f_one : Option Addr} {sl_f_one : Array (Option Value)} {oc_f_one kV_f_one dc_f_one pm_f_one cd_f_one ct_f_one : Value}
    {od_f_am an_f_am : Option Addr} {sl_f_am : Array (Option Value)} {oc_f_am kV_f_am dc_f_am pm_f_am cd_f_am ct_f_am : Value}
    {od_f_made an_f_made : Option Addr} {sl_f_made : Array (Option Value)} {oc_f_made kV_f_made dc_f_made pm_f_made cd_f_made ct_f_made : Value}
    {od_f_mt an_f_mt : Option Addr} {sl_f_mt : Array (Option Value)} {oc_f_mt kV_f_mt dc_f_mt pm_f_mt cd_f_mt ct_f_mt : Value}
    {od_f_lt an_f_lt : Option Addr} {sl_f_lt : Array (Option Value)} {oc_f_lt kV_f_lt dc_f_lt pm_f_lt cd_f_lt ct_f_lt : Value}
    {od_f_le an_f_le : Option Addr} {sl_f_le : Array (Option Value)} {oc_f_le kV_f_le dc_f_le pm_f_le cd_f_le ct_f_le : Value}
    {od_f_sl an_f_sl : Option Addr} {sl_f_sl : Array (Option Value)} {oc_f_sl kV_f_sl dc_f_sl pm_f_sl cd_f_sl ct_f_sl : Value}
    {od_f_su an_f_su : Option Addr} {sl_f_su : Array (Option Value)} {oc_f_su kV_f_su dc_f_su pm_f_su cd_f_su ct_f_su : Value}
    {od_f_law an_f_law : Option Addr} {sl_f_law : Array (Option Value)} {oc_f_law kV_f_law dc_f_law pm_f_law cd_f_law ct_f_law : Value}
    {nm_CM q_CM : Str} {N_CM : Addr} {bs_CM bm_CM : List Value} {sn_CM : List Str} {sub_CM : List Value} {ab_CM : Bool} {col_CM : Option Bool} {dd_CM : Option Addr} {m0_CM m1_CM m2_CM m3_CM m5_CM : Option Value}
    {od_f_im an_f_im : Option Addr} {sl_f_im : Array (Option Value)} {oc_f_im kV_f_im dc_f_im pm_f_im cd_f_im ct_f_im : Value}
    {od_f_bi an_f_bi : Option Addr} {sl_f_bi : Array (Option Value)} {oc_f_bi kV_f_bi dc_f_bi pm_f_bi cd_f_bi ct_f_bi : Value}
    {od_f_ti an_f_ti dd_f_ti : Option Addr} {sl_f_ti ds_f_ti : Array (Option Value)} {oc_f_ti kV_f_ti dc_f_ti pm_f_ti cd_f_ti ct_f_ti : Value} {T_f_ti : Addr} {n_f_ti : Nat}
    {od_f_ri an_f_ri : Option Addr} {sl_f_ri : Array (Option Value)} {oc_f_ri kV_f_ri dc_f_ri pm_f_ri cd_f_ri ct_f_ri : Value}
    {od_f_be an_f_be : Option Addr} {sl_f_be : Array (Option Value)} {oc_f_be kV_f_be dc_f_be pm_f_be cd_f_be ct_f_be : Value}
    {od_f_bs an_f_bs : Option Addr} {sl_f_bs : Array (Option Value)} {oc_f_bs kV_f_bs dc_f_bs pm_f_bs cd_f_bs ct_f_bs : Value}
    {od_f_te an_f_te : Option Addr} {sl_f_te : Array (Option Value)} {oc_f_te kV_f_te dc_f_te pm_f_te cd_f_te ct_f_te : Value}
    {od_f_ts an_f_ts : Option Addr} {sl_f_ts : Array (Option Value)} {oc_f_ts kV_f_ts dc_f_ts pm_f_ts cd_f_ts ct_f_ts : Value}
    {od_f_re an_f_re : Option Addr} {sl_f_re : Array (Option Value)} {oc_f_re kV_f_re dc_f_re pm_f_re cd_f_re ct_f_re : Value}
    {od_f_rs an_f_rs : Option Addr} {sl_f_rs : Array (Option Value)} {oc_f_rs kV_f_rs dc_f_rs pm_f_rs cd_f_rs ct_f_rs : Value}
    {od_f_se an_f_se : Option Addr} {sl_f_se : Array (Option Value)} {oc_f_se kV_f_se dc_f_se pm_f_se cd_f_se ct_f_se : Value}
    {od_f_ss an_f_ss : Option Addr} {sl_f_ss : Array (Option Value)} {oc_f_ss kV_f_ss dc_f_ss pm_f_ss cd_f_ss ct_f_ss : Value}
    {od_f_hi an_f_hi dd_f_hi : Option Addr} {sl_f_hi ds_f_hi : Array (Option Value)} {oc_f_hi kV_f_hi dc_f_hi pm_f_hi cd_f_hi ct_f_hi : Value} {T_f_hi : Addr} {n_f_hi : Nat}
    {dd_e : Option Addr} {n_e : Nat} {ds_e : Array (Option Value)}
    {od_f_he an_f_he : Option Addr} {sl_f_he : Array (Option Value)} {oc_f_he kV_f_he dc_f_he pm_f_he cd_f_he ct_f_he : Value}
    {od_f_hs an_f_hs : Option Addr} {sl_f_hs : Array (Option Value)} {oc_f_hs kV_f_hs dc_f_hs pm_f_hs cd_f_hs ct_f_hs : Value}
    {od_f_hl an_f_hl : Option Addr} {sl_f_hl : Array (Option Value)} {oc_f_hl kV_f_hl dc_f_hl pm_f_hl cd_f_hl ct_f_hl : Value}
    {od_f_hg an_f_hg : Option Addr} {sl_f_hg : Array (Option Value)} {oc_f_hg kV_f_hg dc_f_hg pm_f_hg cd_f_hg ct_f_hg : Value}
    {od_f_ha an_f_ha : Option Addr} {sl_f_ha : Array (Option Value)} {oc_f_ha kV_f_ha dc_f_ha pm_f_ha cd_f_ha ct_f_ha : Value}
    {oc_BC : Value} {od_BC : Option Addr} {cd_BC : ClassData} {sl_BC : Array (Option Value)}
    {oc_TC : Value} {od_TC : Option Addr} {cd_TC : ClassData} {sl_TC : Array (Option Value)}
    {oc_RC : Value} {od_RC : Option Addr} {cd_RC : ClassData} {sl_RC : Array (Option Value)}
    {oc_SC : Value} {od_SC : Option Addr} {cd_SC : ClassData} {sl_SC : Array (Option Value)}
    {oc_HC : Value} {od_HC : Option Addr} {cd_HC : ClassData} {sl_HC : Array (Option Value)}
    (g_f_int : PySem.W.nsIn K mainGlobals "is_integer" = some (some (.ref f_int)))
    (l_f_int : K.lookup f_int = some ⟨oc_f_int, od_f_int, .func (PySem.W.fnOf "is_integer" "is_integer" (defArgs sIsInt) (defBody sIsInt) (defScope sIsInt) .none kV_f_int dc_f_int pm_f_int an_f_int cd_f_int ct_f_int), sl_f_int⟩)
    (c_f_int : PySem.W.codeIn K cd_f_int "is_integer" = true)
    (k_f_int : PySem.W.keepIn K (.ref f_int) = true)
    (g_f_num : PySem.W.nsIn K mainGlobals "is_number" = some (some (.ref f_num)))
    (l_f_num : K.lookup f_num = some ⟨oc_f_num, od_f_num, .func (PySem.W.fnOf "is_number" "is_number" (defArgs sIsNum) (defBody sIsNum) (defScope sIsNum) .none kV_f_num dc_f_num pm_f_num an_f_num cd_f_num ct_f_num), sl_f_num⟩)
    (c_f_num : PySem.W.codeIn K cd_f_num "is_number" = true)
    (k_f_num : PySem.W.keepIn K (.ref f_num) = true)
    (g_f_amt : PySem.W.nsIn K mainGlobals "is_amount" = some (some (.ref f_amt)))
    (l_f_amt : K.lookup f_amt = some ⟨oc_f_amt, od_f_amt, .func (PySem.W.fnOf "is_amount" "is_amount" (defArgs sIsAmt) (defBody sIsAmt) (defScope sIsAmt) .none kV_f_amt dc_f_amt pm_f_amt an_f_amt cd_f_amt ct_f_amt), sl_f_amt⟩)
    (c_f_amt : PySem.W.codeIn K cd_f_amt "is_amount" = true)
    (k_f_amt : PySem.W.keepIn K (.ref f_amt) = true)
    (g_f_ism : PySem.W.nsIn K mainGlobals "is_moves" = some (some (.ref f_ism)))
    (l_f_ism : K.lookup f_ism = some ⟨oc_f_ism, od_f_ism, .func (PySem.W.fnOf "is_moves" "is_moves" (defArgs sIsMoves) (defBody sIsMoves) (defScope sIsMoves) .none kV_f_ism dc_f_ism pm_f_ism an_f_ism cd_f_ism ct_f_ism), sl_f_ism⟩)
    (c_f_ism : PySem.W.codeIn K cd_f_ism "is_moves" = true)
    (k_f_ism : PySem.W.keepIn K (.ref f_ism) = true)
    (g_f_seed : PySem.W.nsIn K mainGlobals "_law_seed" = some (some (.ref f_seed)))
    (l_f_seed : K.lookup f_seed = some ⟨oc_f_seed, od_f_seed, .func (PySem.W.fnOf "_law_seed" "_law_seed" (defArgs sSeed) (defBody sSeed) (defScope sSeed) .none kV_f_seed dc_f_seed pm_f_seed an_f_seed cd_f_seed ct_f_seed), sl_f_seed⟩)
    (c_f_seed : PySem.W.codeIn K cd_f_seed "_law_seed" = true)
    (k_f_seed : PySem.W.keepIn K (.ref f_seed) = true)
    (g_f_choose : PySem.W.nsIn K mainGlobals "_law_choose" = some (some (.ref f_choose)))
    (l_f_choose : K.lookup f_choose = some ⟨oc_f_choose, od_f_choose, .func (PySem.W.fnOf "_law_choose" "_law_choose" (defArgs sChoose) (defBody sChoose) (defScope sChoose) .none kV_f_choose dc_f_choose pm_f_choose an_f_choose cd_f_choose ct_f_choose), sl_f_choose⟩)
    (c_f_choose : PySem.W.codeIn K cd_f_choose "_law_choose" = true)
    (k_f_choose : PySem.W.keepIn K (.ref f_choose) = true)
    (g_f_one : PySem.W.nsIn K mainGlobals "_law_one_of" = some (some (.ref f_one)))
    (l_f_one : K.lookup f_one = some ⟨oc_f_one, od_f_one, .func (PySem.W.fnOf "_law_one_of" "_law_one_of" (defArgs sOneOf) (defBody sOneOf) (defScope sOneOf) .none kV_f_one dc_f_one pm_f_one an_f_one cd_f_one ct_f_one), sl_f_one⟩)
    (c_f_one : PySem.W.codeIn K cd_f_one "_law_one_of" = true)
    (k_f_one : PySem.W.keepIn K (.ref f_one) = true)
    (g_f_am : PySem.W.nsIn K mainGlobals "_law_any_move" = some (some (.ref f_am)))
    (l_f_am : K.lookup f_am = some ⟨oc_f_am, od_f_am, .func (PySem.W.fnOf "_law_any_move" "_law_any_move" (defArgs sAnyMove) (defBody sAnyMove) (defScope sAnyMove) .none kV_f_am dc_f_am pm_f_am an_f_am cd_f_am ct_f_am), sl_f_am⟩)
    (c_f_am : PySem.W.codeIn K cd_f_am "_law_any_move" = true)
    (k_f_am : PySem.W.keepIn K (.ref f_am) = true)
    (g_f_made : PySem.W.nsIn K mainGlobals "_law_made" = some (some (.ref f_made)))
    (l_f_made : K.lookup f_made = some ⟨oc_f_made, od_f_made, .func (PySem.W.fnOf "_law_made" "_law_made" (defArgs sMade) (defBody sMade) (defScope sMade) .none kV_f_made dc_f_made pm_f_made an_f_made cd_f_made ct_f_made), sl_f_made⟩)
    (c_f_made : PySem.W.codeIn K cd_f_made "_law_made" = true)
    (k_f_made : PySem.W.keepIn K (.ref f_made) = true)
    (g_f_mt : PySem.W.nsIn K mainGlobals "_law_move_text" = some (some (.ref f_mt)))
    (l_f_mt : K.lookup f_mt = some ⟨oc_f_mt, od_f_mt, .func (PySem.W.fnOf "_law_move_text" "_law_move_text" (defArgs sMvText) (defBody sMvText) (defScope sMvText) .none kV_f_mt dc_f_mt pm_f_mt an_f_mt cd_f_mt ct_f_mt), sl_f_mt⟩)
    (c_f_mt : PySem.W.codeIn K cd_f_mt "_law_move_text" = true)
    (k_f_mt : PySem.W.keepIn K (.ref f_mt) = true)
    (g_f_lt : PySem.W.nsIn K mainGlobals "_law_text" = some (some (.ref f_lt)))
    (l_f_lt : K.lookup f_lt = some ⟨oc_f_lt, od_f_lt, .func (PySem.W.fnOf "_law_text" "_law_text" (defArgs sLawText) (defBody sLawText) (defScope sLawText) .none kV_f_lt dc_f_lt pm_f_lt an_f_lt cd_f_lt ct_f_lt), sl_f_lt⟩)
    (c_f_lt : PySem.W.codeIn K cd_f_lt "_law_text" = true)
    (k_f_lt : PySem.W.keepIn K (.ref f_lt) = true)
    (g_f_le : PySem.W.nsIn K mainGlobals "_law_end" = some (some (.ref f_le)))
    (l_f_le : K.lookup f_le = some ⟨oc_f_le, od_f_le, .func (PySem.W.fnOf "_law_end" "_law_end" (defArgs sLawEnd) (defBody sLawEnd) (defScope sLawEnd) .none kV_f_le dc_f_le pm_f_le an_f_le cd_f_le ct_f_le), sl_f_le⟩)
    (c_f_le : PySem.W.codeIn K cd_f_le "_law_end" = true)
    (k_f_le : PySem.W.keepIn K (.ref f_le) = true)
    (g_f_sl : PySem.W.nsIn K mainGlobals "_law_slices_right" = some (some (.ref f_sl)))
    (l_f_sl : K.lookup f_sl = some ⟨oc_f_sl, od_f_sl, .func (PySem.W.fnOf "_law_slices_right" "_law_slices_right" (defArgs sSlices) (defBody sSlices) (defScope sSlices) .none kV_f_sl dc_f_sl pm_f_sl an_f_sl cd_f_sl ct_f_sl), sl_f_sl⟩)
    (c_f_sl : PySem.W.codeIn K cd_f_sl "_law_slices_right" = true)
    (k_f_sl : PySem.W.keepIn K (.ref f_sl) = true)
    (g_f_su : PySem.W.nsIn K mainGlobals "_law_sums_right" = some (some (.ref f_su)))
    (l_f_su : K.lookup f_su = some ⟨oc_f_su, od_f_su, .func (PySem.W.fnOf "_law_sums_right" "_law_sums_right" (defArgs sSums) (defBody sSums) (defScope sSums) .none kV_f_su dc_f_su pm_f_su an_f_su cd_f_su ct_f_su), sl_f_su⟩)
    (c_f_su : PySem.W.codeIn K cd_f_su "_law_sums_right" = true)
    (k_f_su : PySem.W.keepIn K (.ref f_su) = true)
    (g_f_law : PySem.W.nsIn K mainGlobals "law" = some (some (.ref f_law)))
    (l_f_law : K.lookup f_law = some ⟨oc_f_law, od_f_law, .func (PySem.W.fnOf "law" "law" (defArgs sLaw) (defBody sLaw) (defScope sLaw) .none kV_f_law dc_f_law pm_f_law an_f_law cd_f_law ct_f_law), sl_f_law⟩)
    (c_f_law : PySem.W.codeIn K cd_f_law "law" = true)
    (k_f_law : PySem.W.keepIn K (.ref f_law) = true)
    (g_CM : PySem.W.nsIn K mainGlobals "InvalidMove" = some (some (.ref CM)))
    (g_MV : PySem.W.nsIn K mainGlobals "Move" = some (some (.ref MV)))
    (g_BC : PySem.W.nsIn K mainGlobals "Begin" = some (some (.ref BC)))
    (g_TC : PySem.W.nsIn K mainGlobals "Take" = some (some (.ref TC)))
    (g_RC : PySem.W.nsIn K mainGlobals "Right" = some (some (.ref RC)))
    (g_SC : PySem.W.nsIn K mainGlobals "Shut" = some (some (.ref SC)))
    (g_HC : PySem.W.nsIn K mainGlobals "History" = some (some (.ref HC)))
    (x_CM : K.lookup CM = some (PySem.excClassObj nm_CM q_CM CM N_CM bs_CM bm_CM true sn_CM sub_CM ab_CM col_CM dd_CM m0_CM m1_CM m2_CM m3_CM m5_CM "ValueError.__new__"))
    (xb_CM : PySem.HandSPX.refsVE bm_CM = true)
    (xsa_CM : PySem.W.findIn K (.ref CM) "__setattr__" = some (some (.builtin "object.__setattr__")))
    (xga_CM : PySem.W.findIn K (.ref CM) "__getattribute__" = some (some (.builtin "BaseException.__getattribute__")))
    (xgg_CM : PySem.W.findIn K (.ref CM) "__getattr__" = some none)
    (xex_CM : PySem.W.subIn K (.ref CM) (.type "BaseException") = some true)
    (xty_CM : PySem.W.typeIn K (.ref CM) = some (.type "type"))
    (xkc_CM : PySem.W.keepIn K (.ref CM) = true)
    (xhd_CM : PySem.W.hasDictIn K CM = true)
    (xis_CM : PySem.W.isClsIn K CM = true)
    (xca_CM : PySem.W.findIn K (.ref CM) "__class__" = some (some (.builtin "object.__class__")))
    (xgn_CM : PySem.W.specialIn K (.builtin "object.__class__") "__get__" = some (some (.builtin "getset_descriptor.__get__")))
    (xtk_CM : PySem.W.takesIn K (.builtin "object.__class__") = some true)
    (xmo_CM : PySem.W.mroIn K CM (.type "object") = some true)
    (xss_CM : PySem.W.subIn K (.ref CM) (.ref CM) = some true)
    (no_CM_word : PySem.W.findIn K (.ref CM) "word" = some none)
    (a_f_im : PySem.W.findIn K (.ref CM) "__init__" = some (some (.ref f_im)))
    (tf_im : PySem.W.typeIn K (.ref f_im) = some (.type "function"))
    (l_f_im : K.lookup f_im = some ⟨oc_f_im, od_f_im, .func (PySem.W.fnOf "__init__" "InvalidMove.__init__" (defArgs sImInit) (defBody sImInit) (defScope sImInit) .none kV_f_im dc_f_im pm_f_im an_f_im cd_f_im ct_f_im), sl_f_im⟩)
    (c_f_im : PySem.W.codeIn K cd_f_im "InvalidMove.__init__" = true)
    (k_f_im : PySem.W.keepIn K (.ref f_im) = true)
    (is_MV : PySem.W.isClsIn K MV = true)
    (ty_MV : PySem.W.typeIn K (.ref MV) = some (.type "type"))
    (ic_HC : PySem.W.isClsIn K HC = true)
    (tc_HC : PySem.W.typeIn K (.ref HC) = some (.type "type"))
    (pg_BC : PySem.W.plainGet K BC Str.empty = true)
    (hd_BC : PySem.W.hasDictIn K BC = true)
    (po_BC : PySem.W.plainOver K BC = true)
    (sa_BC : PySem.W.findIn K (.ref BC) "__setattr__" = some (some (.builtin "object.__setattr__")))
    (mk_BC : PySem.W.makesIn K BC = true)
    (kc_BC : PySem.W.keepIn K (.ref BC) = true)
    (ca_BC : PySem.W.findIn K (.ref BC) "__class__" = some (some (.builtin "object.__class__")))
    (mo_BC : PySem.W.mroIn K BC (.type "object") = some true)
    (ss_BC : PySem.W.subIn K (.ref BC) (.ref BC) = some true)
    (ne_BC : PySem.W.findIn K (.ref BC) "__ne__" = some (some (.builtin "object.__ne__")))
    (ob_BC : PySem.W.subIn K (.ref BC) (.type "object") = some true)
    (pg_TC : PySem.W.plainGet K TC Str.empty = true)
    (hd_TC : PySem.W.hasDictIn K TC = true)
    (po_TC : PySem.W.plainOver K TC = true)
    (sa_TC : PySem.W.findIn K (.ref TC) "__setattr__" = some (some (.builtin "object.__setattr__")))
    (mk_TC : PySem.W.makesIn K TC = true)
    (kc_TC : PySem.W.keepIn K (.ref TC) = true)
    (ca_TC : PySem.W.findIn K (.ref TC) "__class__" = some (some (.builtin "object.__class__")))
    (mo_TC : PySem.W.mroIn K TC (.type "object") = some true)
    (ss_TC : PySem.W.subIn K (.ref TC) (.ref TC) = some true)
    (ne_TC : PySem.W.findIn K (.ref TC) "__ne__" = some (some (.builtin "object.__ne__")))
    (ob_TC : PySem.W.subIn K (.ref TC) (.type "object") = some true)
    (pg_RC : PySem.W.plainGet K RC Str.empty = true)
    (hd_RC : PySem.W.hasDictIn K RC = true)
    (po_RC : PySem.W.plainOver K RC = true)
    (sa_RC : PySem.W.findIn K (.ref RC) "__setattr__" = some (some (.builtin "object.__setattr__")))
    (mk_RC : PySem.W.makesIn K RC = true)
    (kc_RC : PySem.W.keepIn K (.ref RC) = true)
    (ca_RC : PySem.W.findIn K (.ref RC) "__class__" = some (some (.builtin "object.__class__")))
    (mo_RC : PySem.W.mroIn K RC (.type "object") = some true)
    (ss_RC : PySem.W.subIn K (.ref RC) (.ref RC) = some true)
    (ne_RC : PySem.W.findIn K (.ref RC) "__ne__" = some (some (.builtin "object.__ne__")))
    (ob_RC : PySem.W.subIn K (.ref RC) (.type "object") = some true)
    (pg_SC : PySem.W.plainGet K SC Str.empty = true)
    (hd_SC : PySem.W.hasDictIn K SC = true)
    (po_SC : PySem.W.plainOver K SC = true)
    (sa_SC : PySem.W.findIn K (.ref SC) "__setattr__" = some (some (.builtin "object.__setattr__")))
    (mk_SC : PySem.W.makesIn K SC = true)
    (kc_SC : PySem.W.keepIn K (.ref SC) = true)
    (ca_SC : PySem.W.findIn K (.ref SC) "__class__" = some (some (.builtin "object.__class__")))
    (mo_SC : PySem.W.mroIn K SC (.type "object") = some true)
    (ss_SC : PySem.W.subIn K (.ref SC) (.ref SC) = some true)
    (ne_SC : PySem.W.findIn K (.ref SC) "__ne__" = some (some (.builtin "object.__ne__")))
    (ob_SC : PySem.W.subIn K (.ref SC) (.type "object") = some true)
    (pg_HC : PySem.W.plainGet K HC Str.empty = true)
    (hd_HC : PySem.W.hasDictIn K HC = true)
    (po_HC : PySem.W.plainOver K HC = true)
    (sa_HC : PySem.W.findIn K (.ref HC) "__setattr__" = some (some (.builtin "object.__setattr__")))
    (mk_HC : PySem.W.makesIn K HC = true)
    (kc_HC : PySem.W.keepIn K (.ref HC) = true)
    (ca_HC : PySem.W.findIn K (.ref HC) "__class__" = some (some (.builtin "object.__class__")))
    (mo_HC : PySem.W.mroIn K HC (.type "object") = some true)
    (ss_HC : PySem.W.subIn K (.ref HC) (.ref HC) = some true)
    (ne_HC : PySem.W.findIn K (.ref HC) "__ne__" = some (some (.builtin "object.__ne__")))
    (ob_HC : PySem.W.subIn K (.ref HC) (.type "object") = some true)
    (sm_BC : PySem.W.subIn K (.ref BC) (.ref MV) = some true)
    (su_BC_HC : PySem.W.subIn K (.ref BC) (.ref HC) = some false)
    (su_TC_BC : PySem.W.subIn K (.ref TC) (.ref BC) = some false)
    (su_RC_BC : PySem.W.subIn K (.ref RC) (.ref BC) = some false)
    (su_SC_BC : PySem.W.subIn K (.ref SC) (.ref BC) = some false)
    (sm_TC : PySem.W.subIn K (.ref TC) (.ref MV) = some true)
    (su_TC_HC : PySem.W.subIn K (.ref TC) (.ref HC) = some false)
    (su_BC_TC : PySem.W.subIn K (.ref BC) (.ref TC) = some false)
    (su_RC_TC : PySem.W.subIn K (.ref RC) (.ref TC) = some false)
    (su_SC_TC : PySem.W.subIn K (.ref SC) (.ref TC) = some false)
    (sm_RC : PySem.W.subIn K (.ref RC) (.ref MV) = some true)
    (su_RC_HC : PySem.W.subIn K (.ref RC) (.ref HC) = some false)
    (su_BC_RC : PySem.W.subIn K (.ref BC) (.ref RC) = some false)
    (su_TC_RC : PySem.W.subIn K (.ref TC) (.ref RC) = some false)
    (su_SC_RC : PySem.W.subIn K (.ref SC) (.ref RC) = some false)
    (sm_SC : PySem.W.subIn K (.ref SC) (.ref MV) = some true)
    (su_SC_HC : PySem.W.subIn K (.ref SC) (.ref HC) = some false)
    (su_BC_SC : PySem.W.subIn K (.ref BC) (.ref SC) = some false)
    (su_TC_SC : PySem.W.subIn K (.ref TC) (.ref SC) = some false)
    (su_RC_SC : PySem.W.subIn K (.ref RC) (.ref SC) = some false)
    (no_BC_amount : PySem.W.findIn K (.ref BC) "amount" = some none)
    (no_TC_at : PySem.W.findIn K (.ref TC) "at" = some none)
    (no_TC_amount : PySem.W.findIn K (.ref TC) "amount" = some none)
    (no_RC_at : PySem.W.findIn K (.ref RC) "at" = some none)
    (no_RC_amount : PySem.W.findIn K (.ref RC) "amount" = some none)
    (no_HC_moves : PySem.W.findIn K (.ref HC) "moves" = some none)
    (a_f_bi : PySem.W.findIn K (.ref BC) "__init__" = some (some (.ref f_bi)))
    (i_f_bi : PySem.W.isFn K (.ref f_bi) = true)
    (l_f_bi : K.lookup f_bi = some ⟨oc_f_bi, od_f_bi, .func (PySem.W.fnOf "__init__" "Begin.__init__" (defArgs sBInit) (defBody sBInit) (defScope sBInit) .none kV_f_bi dc_f_bi pm_f_bi an_f_bi cd_f_bi ct_f_bi), sl_f_bi⟩)
    (c_f_bi : PySem.W.codeIn K cd_f_bi "Begin.__init__" = true)
    (k_f_bi : PySem.W.keepIn K (.ref f_bi) = true)
    (a_f_ti : PySem.W.findIn K (.ref TC) "__init__" = some (some (.ref f_ti)))
    (i_f_ti : PySem.W.isFn K (.ref f_ti) = true)
    (l_f_ti : K.lookup f_ti = some ⟨oc_f_ti, od_f_ti, .func (PySem.W.fnOf "__init__" "Take.__init__" (defArgs sTInit) (defBody sTInit) (defScope sTInit) (.ref T_f_ti) kV_f_ti dc_f_ti pm_f_ti an_f_ti cd_f_ti ct_f_ti), sl_f_ti⟩)
    (c_f_ti : PySem.W.codeIn K cd_f_ti "Take.__init__" = true)
    (k_f_ti : PySem.W.keepIn K (.ref f_ti) = true)
    (t_f_ti : K.lookup T_f_ti = some ⟨.type "tuple", dd_f_ti, .seq #[.none] n_f_ti, ds_f_ti⟩)
    (a_f_ri : PySem.W.findIn K (.ref RC) "__init__" = some (some (.ref f_ri)))
    (i_f_ri : PySem.W.isFn K (.ref f_ri) = true)
    (l_f_ri : K.lookup f_ri = some ⟨oc_f_ri, od_f_ri, .func (PySem.W.fnOf "__init__" "Right.__init__" (defArgs sRInit) (defBody sRInit) (defScope sRInit) .none kV_f_ri dc_f_ri pm_f_ri an_f_ri cd_f_ri ct_f_ri), sl_f_ri⟩)
    (c_f_ri : PySem.W.codeIn K cd_f_ri "Right.__init__" = true)
    (k_f_ri : PySem.W.keepIn K (.ref f_ri) = true)
    (a_f_be : PySem.W.findIn K (.ref BC) "__eq__" = some (some (.ref f_be)))
    (i_f_be : PySem.W.isFn K (.ref f_be) = true)
    (l_f_be : K.lookup f_be = some ⟨oc_f_be, od_f_be, .func (PySem.W.fnOf "__eq__" "Begin.__eq__" (defArgs sBEq) (defBody sBEq) (defScope sBEq) .none kV_f_be dc_f_be pm_f_be an_f_be cd_f_be ct_f_be), sl_f_be⟩)
    (c_f_be : PySem.W.codeIn K cd_f_be "Begin.__eq__" = true)
    (k_f_be : PySem.W.keepIn K (.ref f_be) = true)
    (a_f_bs : PySem.W.findIn K (.ref BC) "__str__" = some (some (.ref f_bs)))
    (i_f_bs : PySem.W.isFn K (.ref f_bs) = true)
    (l_f_bs : K.lookup f_bs = some ⟨oc_f_bs, od_f_bs, .func (PySem.W.fnOf "__str__" "Begin.__str__" (defArgs sBStr) (defBody sBStr) (defScope sBStr) .none kV_f_bs dc_f_bs pm_f_bs an_f_bs cd_f_bs ct_f_bs), sl_f_bs⟩)
    (c_f_bs : PySem.W.codeIn K cd_f_bs "Begin.__str__" = true)
    (k_f_bs : PySem.W.keepIn K (.ref f_bs) = true)
    (a_f_te : PySem.W.findIn K (.ref TC) "__eq__" = some (some (.ref f_te)))
    (i_f_te : PySem.W.isFn K (.ref f_te) = true)
    (l_f_te : K.lookup f_te = some ⟨oc_f_te, od_f_te, .func (PySem.W.fnOf "__eq__" "Take.__eq__" (defArgs sTEq) (defBody sTEq) (defScope sTEq) .none kV_f_te dc_f_te pm_f_te an_f_te cd_f_te ct_f_te), sl_f_te⟩)
    (c_f_te : PySem.W.codeIn K cd_f_te "Take.__eq__" = true)
    (k_f_te : PySem.W.keepIn K (.ref f_te) = true)
    (a_f_ts : PySem.W.findIn K (.ref TC) "__str__" = some (some (.ref f_ts)))
    (i_f_ts : PySem.W.isFn K (.ref f_ts) = true)
    (l_f_ts : K.lookup f_ts = some ⟨oc_f_ts, od_f_ts, .func (PySem.W.fnOf "__str__" "Take.__str__" (defArgs sTStr) (defBody sTStr) (defScope sTStr) .none kV_f_ts dc_f_ts pm_f_ts an_f_ts cd_f_ts ct_f_ts), sl_f_ts⟩)
    (c_f_ts : PySem.W.codeIn K cd_f_ts "Take.__str__" = true)
    (k_f_ts : PySem.W.keepIn K (.ref f_ts) = true)
    (a_f_re : PySem.W.findIn K (.ref RC) "__eq__" = some (some (.ref f_re)))
    (i_f_re : PySem.W.isFn K (.ref f_re) = true)
    (l_f_re : K.lookup f_re = some ⟨oc_f_re, od_f_re, .func (PySem.W.fnOf "__eq__" "Right.__eq__" (defArgs sREq) (defBody sREq) (defScope sREq) .none kV_f_re dc_f_re pm_f_re an_f_re cd_f_re ct_f_re), sl_f_re⟩)
    (c_f_re : PySem.W.codeIn K cd_f_re "Right.__eq__" = true)
    (k_f_re : PySem.W.keepIn K (.ref f_re) = true)
    (a_f_rs : PySem.W.findIn K (.ref RC) "__str__" = some (some (.ref f_rs)))
    (i_f_rs : PySem.W.isFn K (.ref f_rs) = true)
    (l_f_rs : K.lookup f_rs = some ⟨oc_f_rs, od_f_rs, .func (PySem.W.fnOf "__str__" "Right.__str__" (defArgs sRStr) (defBody sRStr) (defScope sRStr) .none kV_f_rs dc_f_rs pm_f_rs an_f_rs cd_f_rs ct_f_rs), sl_f_rs⟩)
    (c_f_rs : PySem.W.codeIn K cd_f_rs "Right.__str__" = true)
    (k_f_rs : PySem.W.keepIn K (.ref f_rs) = true)
    (a_f_se : PySem.W.findIn K (.ref SC) "__eq__" = some (some (.ref f_se)))
    (i_f_se : PySem.W.isFn K (.ref f_se) = true)
    (l_f_se : K.lookup f_se = some ⟨oc_f_se, od_f_se, .func (PySem.W.fnOf "__eq__" "Shut.__eq__" (defArgs sSEq) (defBody sSEq) (defScope sSEq) .none kV_f_se dc_f_se pm_f_se an_f_se cd_f_se ct_f_se), sl_f_se⟩)
    (c_f_se : PySem.W.codeIn K cd_f_se "Shut.__eq__" = true)
    (k_f_se : PySem.W.keepIn K (.ref f_se) = true)
    (a_f_ss : PySem.W.findIn K (.ref SC) "__str__" = some (some (.ref f_ss)))
    (i_f_ss : PySem.W.isFn K (.ref f_ss) = true)
    (l_f_ss : K.lookup f_ss = some ⟨oc_f_ss, od_f_ss, .func (PySem.W.fnOf "__str__" "Shut.__str__" (defArgs sSStr) (defBody sSStr) (defScope sSStr) .none kV_f_ss dc_f_ss pm_f_ss an_f_ss cd_f_ss ct_f_ss), sl_f_ss⟩)
    (c_f_ss : PySem.W.codeIn K cd_f_ss "Shut.__str__" = true)
    (k_f_ss : PySem.W.keepIn K (.ref f_ss) = true)
    (oi_SC : PySem.W.findIn K (.ref SC) "__init__" = some (some (.builtin "object.__init__")))
    (a_f_hi : PySem.W.findIn K (.ref HC) "__init__" = some (some (.ref f_hi)))
    (i_f_hi : PySem.W.isFn K (.ref f_hi) = true)
    (l_f_hi : K.lookup f_hi = some ⟨oc_f_hi, od_f_hi, .func (PySem.W.fnOf "__init__" "History.__init__" (defArgs sHInit) (defBody sHInit) (defScope sHInit) (.ref T_f_hi) kV_f_hi dc_f_hi pm_f_hi an_f_hi cd_f_hi ct_f_hi), sl_f_hi⟩)
    (c_f_hi : PySem.W.codeIn K cd_f_hi "History.__init__" = true)
    (k_f_hi : PySem.W.keepIn K (.ref f_hi) = true)
    (t_f_hi : K.lookup T_f_hi = some ⟨.type "tuple", dd_f_hi, .seq #[.ref e_hi] n_f_hi, ds_f_hi⟩)
    (q_e : K.lookup e_hi = some ⟨.type "tuple", dd_e, .seq #[] n_e, ds_e⟩)
    (a_f_he : PySem.W.findIn K (.ref HC) "__eq__" = some (some (.ref f_he)))
    (i_f_he : PySem.W.isFn K (.ref f_he) = true)
    (l_f_he : K.lookup f_he = some ⟨oc_f_he, od_f_he, .func (PySem.W.fnOf "__eq__" "History.__eq__" (defArgs sHEq) (defBody sHEq) (defScope sHEq) .none kV_f_he dc_f_he pm_f_he an_f_he cd_f_he ct_f_he), sl_f_he⟩)
    (c_f_he : PySem.W.codeIn K cd_f_he "History.__eq__" = true)
    (k_f_he : PySem.W.keepIn K (.ref f_he) = true)
    (a_f_hs : PySem.W.findIn K (.ref HC) "__str__" = some (some (.ref f_hs)))
    (i_f_hs : PySem.W.isFn K (.ref f_hs) = true)
    (l_f_hs : K.lookup f_hs = some ⟨oc_f_hs, od_f_hs, .func (PySem.W.fnOf "__str__" "History.__str__" (defArgs sHStr) (defBody sHStr) (defScope sHStr) .none kV_f_hs dc_f_hs pm_f_hs an_f_hs cd_f_hs ct_f_hs), sl_f_hs⟩)
    (c_f_hs : PySem.W.codeIn K cd_f_hs "History.__str__" = true)
    (k_f_hs : PySem.W.keepIn K (.ref f_hs) = true)
    (a_f_hl : PySem.W.findIn K (.ref HC) "__len__" = some (some (.ref f_hl)))
    (i_f_hl : PySem.W.isFn K (.ref f_hl) = true)
    (l_f_hl : K.lookup f_hl = some ⟨oc_f_hl, od_f_hl, .func (PySem.W.fnOf "__len__" "History.__len__" (defArgs sHLen) (defBody sHLen) (defScope sHLen) .none kV_f_hl dc_f_hl pm_f_hl an_f_hl cd_f_hl ct_f_hl), sl_f_hl⟩)
    (c_f_hl : PySem.W.codeIn K cd_f_hl "History.__len__" = true)
    (k_f_hl : PySem.W.keepIn K (.ref f_hl) = true)
    (a_f_hg : PySem.W.findIn K (.ref HC) "__getitem__" = some (some (.ref f_hg)))
    (i_f_hg : PySem.W.isFn K (.ref f_hg) = true)
    (l_f_hg : K.lookup f_hg = some ⟨oc_f_hg, od_f_hg, .func (PySem.W.fnOf "__getitem__" "History.__getitem__" (defArgs sHGet) (defBody sHGet) (defScope sHGet) .none kV_f_hg dc_f_hg pm_f_hg an_f_hg cd_f_hg ct_f_hg), sl_f_hg⟩)
    (c_f_hg : PySem.W.codeIn K cd_f_hg "History.__getitem__" = true)
    (k_f_hg : PySem.W.keepIn K (.ref f_hg) = true)
    (a_f_ha : PySem.W.findIn K (.ref HC) "__add__" = some (some (.ref f_ha)))
    (i_f_ha : PySem.W.isFn K (.ref f_ha) = true)
    (l_f_ha : K.lookup f_ha = some ⟨oc_f_ha, od_f_ha, .func (PySem.W.fnOf "__add__" "History.__add__" (defArgs sHAdd) (defBody sHAdd) (defScope sHAdd) .none kV_f_ha dc_f_ha pm_f_ha an_f_ha cd_f_ha ct_f_ha), sl_f_ha⟩)
    (c_f_ha : PySem.W.codeIn K cd_f_ha "History.__add__" = true)
    (k_f_ha : PySem.W.keepIn K (.ref f_ha) = true)
    (sf_HC : PySem.W.selfFirst K HC = true)
    (nq_HC : PySem.W.noSeq K HC = true)
    (fi_hg : PySem.W.fnIn K f_hg = true)
    (lk_BC : K.lookup BC = some ⟨oc_BC, od_BC, .cls cd_BC, sl_BC⟩)
    (mr_BC : cd_BC.mro = [.ref BC, .ref MV, .type "object"])
    (lk_TC : K.lookup TC = some ⟨oc_TC, od_TC, .cls cd_TC, sl_TC⟩)
    (mr_TC : cd_TC.mro = [.ref TC, .ref MV, .type "object"])
    (lk_RC : K.lookup RC = some ⟨oc_RC, od_RC, .cls cd_RC, sl_RC⟩)
    (mr_RC : cd_RC.mro = [.ref RC, .ref MV, .type "object"])
    (lk_SC : K.lookup SC = some ⟨oc_SC, od_SC, .cls cd_SC, sl_SC⟩)
    (mr_SC : cd_SC.mro = [.ref SC, .ref MV, .type "object"])
    (lk_HC : K.lookup HC = some ⟨oc_HC, od_HC, .cls cd_HC, sl_HC⟩)
    (mr_HC : cd_HC.mro = [.ref HC, .type "object"])
    (nadd_BC : PySem.W.findIn K (.ref BC) "__add__" = some none)
    (nradd_BC : PySem.W.findIn K (.ref BC) "__radd__" = some none)
    (nadd_TC : PySem.W.findIn K (.ref TC) "__add__" = some none)
    (nradd_TC : PySem.W.findIn K (.ref TC) "__radd__" = some none)
    (nadd_RC : PySem.W.findIn K (.ref RC) "__add__" = some none)
    (nradd_RC : PySem.W.findIn K (.ref RC) "__radd__" = some none)
    (nadd_SC : PySem.W.findIn K (.ref SC) "__add__" = some none)
    (nradd_SC : PySem.W.findIn K (.ref SC) "__radd__" = some none)
    (nadd_MV : PySem.W.findIn K (.ref MV) "__add__" = some none)
    (nradd_MV : PySem.W.findIn K (.ref MV) "__radd__" = some none)
    (niadd_HC : PySem.W.findIn K (.ref HC) "__iadd__" = some none)
    (nadd_ob : PySem.W.findIn K (.type "object") "__add__" = some none)
    (nradd_ob : PySem.W.findIn K (.type "object") "__radd__" = some none)
    (niadd_ob : PySem.W.findIn K (.type "object") "__iadd__" = some none)
    (z_len : PySem.W.nsIn K mainGlobals "len" = some none)
    (z_abs : PySem.W.nsIn K mainGlobals "abs" = some none)
    (z_int : PySem.W.nsIn K mainGlobals "int" = some none)
    (z_isinstance : PySem.W.nsIn K mainGlobals "isinstance" = some none)
    (z_bool : PySem.W.nsIn K mainGlobals "bool" = some none)
    (z_range : PySem.W.nsIn K mainGlobals "range" = some none)
    (z_tuple : PySem.W.nsIn K mainGlobals "tuple" = some none)
    (z_list : PySem.W.nsIn K mainGlobals "list" = some none)
    (z_all : PySem.W.nsIn K mainGlobals "all" = some none)
    (z_max : PySem.W.nsIn K mainGlobals "max" = some none)
    (z_min : PySem.W.nsIn K mainGlobals "min" = some none)
    (z_str : PySem.W.nsIn K mainGlobals "str" = some none)
    (bh_BC_tuple : PySem.W.subIn K (.ref BC) (.type "tuple") = some false)
    (bh_TC_tuple : PySem.W.subIn K (.ref TC) (.type "tuple") = some false)
    (bh_RC_tuple : PySem.W.subIn K (.ref RC) (.type "tuple") = some false)
    (bh_SC_tuple : PySem.W.subIn K (.ref SC) (.type "tuple") = some false)
    (bh_HC_tuple : PySem.W.subIn K (.ref HC) (.type "tuple") = some false)
    (bh_HC_str : PySem.W.subIn K (.ref HC) (.type "str") = some false)
    (bh_HC_NoneType : PySem.W.subIn K (.ref HC) (.type "NoneType") = some false)
    (bh_HC_list : PySem.W.subIn K (.ref HC) (.type "list") = some false)
    (hn_str : PySem.W.subIn K (.type "str") (.ref HC) = some false)
    (hn_NoneType : PySem.W.subIn K (.type "NoneType") (.ref HC) = some false)
    (hn_tuple : PySem.W.subIn K (.type "tuple") (.ref HC) = some false)
    (hn_list : PySem.W.subIn K (.type "list") (.ref HC) = some false)
    : ∃ fd : FuncData, (∀ (s : Shared) (v : Value), BindsTo s fd ⟨[v], []⟩ [("_law_script", v)]) ∧ ∀ base : Heap, K.In base → base.Ns mainGlobals mg → FnOk l.prog w K mg base CX0 9 fa fd ["_law_script"] (spLaw K) := by
  have e := hfa.symm.trans (PySem.W.mg_of X G g_f_law)
  cases e
  have F_f_int := fun_mk (st := sIsInt) l_f_int c_f_int k_f_int
  have b_f_int := F_f_int.binds (ps := ["value"]) fun _ _ _ _ _ _ us hl => match us, hl with | [_], _ => rfl
  have F_f_num := fun_mk (st := sIsNum) l_f_num c_f_num k_f_num
  have b_f_num := F_f_num.binds (ps := ["value"]) fun _ _ _ _ _ _ us hl => match us, hl with | [_], _ => rfl
  have F_f_amt := fun_mk (st := sIsAmt) l_f_amt c_f_amt k_f_amt
  have b_f_amt := F_f_amt.binds (ps := ["value"]) fun _ _ _ _ _ _ us hl => match us, hl with | [_], _ => rfl
  have F_f_ism := fun_mk (st := sIsMoves) l_f_ism c_f_ism k_f_ism
  have b_f_ism := F_f_ism.binds (ps := ["value"]) fun _ _ _ _ _ _ us hl => match us, hl with | [_], _ => rfl
  have F_f_seed := fun_mk (st := sSeed) l_f_seed c_f_seed k_f_seed
  have b_f_seed := F_f_seed.binds (ps := ["_law_script", "_law_k"]) fun _ _ _ _ _ _ us hl => match us, hl with | [_, _], _ => rfl
  have F_f_choose := fun_mk (st := sChoose) l_f_choose c_f_choose k_f_choose
  have b_f_choose := F_f_choose.binds (ps := ["_law_box", "_law_many"]) fun _ _ _ _ _ _ us hl => match us, hl with | [_, _], _ => rfl
  have F_f_one := fun_mk (st := sOneOf) l_f_one c_f_one k_f_one
  have b_f_one := F_f_one.binds (ps := ["_law_box", "_law_some"]) fun _ _ _ _ _ _ us hl => match us, hl with | [_, _], _ => rfl
  have F_f_am := fun_mk (st := sAnyMove) l_f_am c_f_am k_f_am
  have b_f_am := F_f_am.binds (ps := ["_law_box"]) fun _ _ _ _ _ _ us hl => match us, hl with | [_], _ => rfl
  have F_f_made := fun_mk (st := sMade) l_f_made c_f_made k_f_made
  have b_f_made := F_f_made.binds (ps := ["_law_move"]) fun _ _ _ _ _ _ us hl => match us, hl with | [_], _ => rfl
  have F_f_mt := fun_mk (st := sMvText) l_f_mt c_f_mt k_f_mt
  have b_f_mt := F_f_mt.binds (ps := ["_law_move"]) fun _ _ _ _ _ _ us hl => match us, hl with | [_], _ => rfl
  have F_f_lt := fun_mk (st := sLawText) l_f_lt c_f_lt k_f_lt
  have b_f_lt := F_f_lt.binds (ps := ["_law_moves"]) fun _ _ _ _ _ _ us hl => match us, hl with | [_], _ => rfl
  have F_f_le := fun_mk (st := sLawEnd) l_f_le c_f_le k_f_le
  have b_f_le := F_f_le.binds (ps := ["_law_box", "_law_many"]) fun _ _ _ _ _ _ us hl => match us, hl with | [_, _], _ => rfl
  have F_f_sl := fun_mk (st := sSlices) l_f_sl c_f_sl k_f_sl
  have b_f_sl := F_f_sl.binds (ps := ["_law_box", "_law_one", "_law_some"]) fun _ _ _ _ _ _ us hl => match us, hl with | [_, _, _], _ => rfl
  have F_f_su := fun_mk (st := sSums) l_f_su c_f_su k_f_su
  have b_f_su := F_f_su.binds (ps := ["_law_one", "_law_other", "_law_some", "_law_more"]) fun _ _ _ _ _ _ us hl => match us, hl with | [_, _, _, _], _ => rfl
  have F_f_law := fun_mk (st := sLaw) l_f_law c_f_law k_f_law
  have b_f_law := F_f_law.binds (ps := ["_law_script"]) fun _ _ _ _ _ _ us hl => match us, hl with | [_], _ => rfl
  have ox_CM : OexC K CM := ⟨⟨_, _, _, _, _, _, _, _, _, _, _, _, _, _, _, x_CM, xb_CM⟩, xsa_CM, xex_CM, xty_CM, xkc_CM⟩
  have xc_CM : XClass K CM := ⟨xis_CM, xga_CM, xgg_CM, xex_CM, xca_CM, xgn_CM, xtk_CM, xmo_CM⟩
  have xf_CM : XfC K CM := ⟨xga_CM, xgg_CM, xex_CM, xhd_CM⟩
  have F_f_im := fun_mk (st := sImInit) l_f_im c_f_im k_f_im
  have b_f_im := F_f_im.binds (ps := ["self", "word"]) fun _ _ _ _ _ _ us hl => match us, hl with | [_, _], _ => rfl
  have cl_BC : Cls K BC := ⟨pg_BC, hd_BC, po_BC, sa_BC⟩
  have cl_TC : Cls K TC := ⟨pg_TC, hd_TC, po_TC, sa_TC⟩
  have cl_RC : Cls K RC := ⟨pg_RC, hd_RC, po_RC, sa_RC⟩
  have cl_SC : Cls K SC := ⟨pg_SC, hd_SC, po_SC, sa_SC⟩
  have cl_HC : Cls K HC := ⟨pg_HC, hd_HC, po_HC, sa_HC⟩
  have F_f_bi := fun_mk (st := sBInit) l_f_bi c_f_bi k_f_bi
  have b_f_bi := F_f_bi.binds (ps := ["self", "amount"]) fun _ _ _ _ _ _ us hl => match us, hl with | [_, _], _ => rfl
  have F_f_ti : FunD K "__init__" "Take.__init__" (defArgs sTInit) (defBody sTInit) (defScope sTInit) [.non] [] f_ti _ := ⟨⟨_, _, _, _, _, _, _, _, _, _, rfl, l_f_ti, c_f_ti, .inr ⟨by simp, T_f_ti, _, [.none], n_f_ti, rfl, t_f_ti, rfl, .cons rfl .nil⟩, .inl rfl⟩, k_f_ti⟩
  obtain ⟨ds_, vds_, b_f_ti⟩ := F_f_ti.binds1 (ps := ["self", "at", "amount"]) 3 1 (by simp) rfl (fun _ _ _ _ _ _ _ us its hu hi => by
    match us, its, hu, hi with
    | [_, _, _], [_], _, _ => exact ⟨_, rfl, rfl⟩)
  cases vds_
  obtain ⟨es_f_ti, ve_f_ti, cb_f_ti⟩ := F_f_ti.binds1 (ps := ["self", "at", "amount"]) 2 0 (by simp) rfl (fun _ _ _ _ _ _ _ us its hu hi => by
    match us, its, hu, hi with
    | [_, _], [_], _, _ => exact ⟨_, rfl, rfl⟩)
  have F_f_ri := fun_mk (st := sRInit) l_f_ri c_f_ri k_f_ri
  have b_f_ri := F_f_ri.binds (ps := ["self", "at", "amount"]) fun _ _ _ _ _ _ us hl => match us, hl with | [_, _, _], _ => rfl
  have F_f_be := fun_mk (st := sBEq) l_f_be c_f_be k_f_be
  have b_f_be := F_f_be.binds (ps := ["self", "other"]) fun _ _ _ _ _ _ us hl => match us, hl with | [_, _], _ => rfl
  have F_f_bs := fun_mk (st := sBStr) l_f_bs c_f_bs k_f_bs
  have b_f_bs := F_f_bs.binds (ps := ["self"]) fun _ _ _ _ _ _ us hl => match us, hl with | [_], _ => rfl
  have F_f_te := fun_mk (st := sTEq) l_f_te c_f_te k_f_te
  have b_f_te := F_f_te.binds (ps := ["self", "other"]) fun _ _ _ _ _ _ us hl => match us, hl with | [_, _], _ => rfl
  have F_f_ts := fun_mk (st := sTStr) l_f_ts c_f_ts k_f_ts
  have b_f_ts := F_f_ts.binds (ps := ["self"]) fun _ _ _ _ _ _ us hl => match us, hl with | [_], _ => rfl
  have F_f_re := fun_mk (st := sREq) l_f_re c_f_re k_f_re
  have b_f_re := F_f_re.binds (ps := ["self", "other"]) fun _ _ _ _ _ _ us hl => match us, hl with | [_, _], _ => rfl
  have F_f_rs := fun_mk (st := sRStr) l_f_rs c_f_rs k_f_rs
  have b_f_rs := F_f_rs.binds (ps := ["self"]) fun _ _ _ _ _ _ us hl => match us, hl with | [_], _ => rfl
  have F_f_se := fun_mk (st := sSEq) l_f_se c_f_se k_f_se
  have b_f_se := F_f_se.binds (ps := ["self", "other"]) fun _ _ _ _ _ _ us hl => match us, hl with | [_, _], _ => rfl
  have F_f_ss := fun_mk (st := sSStr) l_f_ss c_f_ss k_f_ss
  have b_f_ss := F_f_ss.binds (ps := ["self"]) fun _ _ _ _ _ _ us hl => match us, hl with | [_], _ => rfl
  have F_f_hi : FunD K "__init__" "History.__init__" (defArgs sHInit) (defBody sHInit) (defScope sHInit) [.ref e_hi] [] f_hi _ := ⟨⟨_, _, _, _, _, _, _, _, _, _, rfl, l_f_hi, c_f_hi, .inr ⟨by simp, T_f_hi, _, [.ref e_hi], n_f_hi, rfl, t_f_hi, rfl, .cons rfl .nil⟩, .inl rfl⟩, k_f_hi⟩
  obtain ⟨ds_, vds_, b_f_hi⟩ := F_f_hi.binds1 (ps := ["self", "moves"]) 2 1 (by simp) rfl (fun _ _ _ _ _ _ _ us its hu hi => by
    match us, its, hu, hi with
    | [_, _], [_], _, _ => exact ⟨_, rfl, rfl⟩)
  cases vds_
  obtain ⟨es_f_hi, ve_f_hi, cb_f_hi⟩ := F_f_hi.binds1 (ps := ["self", "moves"]) 1 0 (by simp) rfl (fun _ _ _ _ _ _ _ us its hu hi => by
    match us, its, hu, hi with
    | [_], [_], _, _ => exact ⟨_, rfl, rfl⟩)
  have F_f_he := fun_mk (st := sHEq) l_f_he c_f_he k_f_he
  have b_f_he := F_f_he.binds (ps := ["self", "other"]) fun _ _ _ _ _ _ us hl => match us, hl with | [_, _], _ => rfl
  have F_f_hs := fun_mk (st := sHStr) l_f_hs c_f_hs k_f_hs
  have b_f_hs := F_f_hs.binds (ps := ["self"]) fun _ _ _ _ _ _ us hl => match us, hl with | [_], _ => rfl
  have F_f_hl := fun_mk (st := sHLen) l_f_hl c_f_hl k_f_hl
  have b_f_hl := F_f_hl.binds (ps := ["self"]) fun _ _ _ _ _ _ us hl => match us, hl with | [_], _ => rfl
  have F_f_hg := fun_mk (st := sHGet) l_f_hg c_f_hg k_f_hg
  have b_f_hg := F_f_hg.binds (ps := ["self", "at"]) fun _ _ _ _ _ _ us hl => match us, hl with | [_, _], _ => rfl
  have F_f_ha := fun_mk (st := sHAdd) l_f_ha c_f_ha k_f_ha
  have b_f_ha := F_f_ha.binds (ps := ["self", "other"]) fun _ _ _ _ _ _ us hl => match us, hl with | [_, _], _ => rfl
  have TA : Blt mg := ⟨PySem.W.mg_none_of X G z_len, PySem.W.mg_none_of X G z_abs, PySem.W.mg_none_of X G z_int⟩
  have TB : BltB mg := ⟨PySem.W.mg_none_of X G z_isinstance, PySem.W.mg_none_of X G z_int, PySem.W.mg_none_of X G z_bool⟩
  have TE : BltE mg := ⟨PySem.W.mg_none_of X G z_isinstance, PySem.W.mg_none_of X G z_str⟩
  have THH : BltH mg := ⟨PySem.W.mg_none_of X G z_isinstance, PySem.W.mg_none_of X G z_list, PySem.W.mg_none_of X G z_tuple, PySem.W.mg_none_of X G z_all, PySem.W.mg_none_of X G z_str⟩
  have CLS : MvCls K ⟨BC, TC, RC, SC, HC⟩ MV := ⟨fun k hk => match k, hk with
    | 0, _ => ⟨cl_BC, ca_BC, mo_BC, kit_ref is_MV ty_MV sm_BC ss_BC⟩
    | 1, _ => ⟨cl_TC, ca_TC, mo_TC, kit_ref is_MV ty_MV sm_TC ss_TC⟩
    | 2, _ => ⟨cl_RC, ca_RC, mo_RC, kit_ref is_MV ty_MV sm_RC ss_RC⟩
    | 3, _ => ⟨cl_SC, ca_SC, mo_SC, kit_ref is_MV ty_MV sm_SC ss_SC⟩, xgn_CM, xtk_CM, fun k hk j hj => match k, hk with
    | 0, _ => match j, hj with | 0, _ => nf_same | 1, _ => nf_other su_TC_BC | 2, _ => nf_other su_RC_BC | 3, _ => nf_other su_SC_BC
    | 1, _ => match j, hj with | 0, _ => nf_other su_BC_TC | 1, _ => nf_same | 2, _ => nf_other su_RC_TC | 3, _ => nf_other su_SC_TC
    | 2, _ => match j, hj with | 0, _ => nf_other su_BC_RC | 1, _ => nf_other su_TC_RC | 2, _ => nf_same | 3, _ => nf_other su_SC_RC
    | 3, _ => match j, hj with | 0, _ => nf_other su_BC_SC | 1, _ => nf_other su_TC_SC | 2, _ => nf_other su_RC_SC | 3, _ => nf_same⟩
  have HCLS : HiCls K ⟨BC, TC, RC, SC, HC⟩ := ⟨cl_HC, no_HC_moves, ca_HC, xgn_CM, xtk_CM, mo_HC, by unfold PySem.W.kitOne; rw [if_pos (by simp)]⟩
  have TRne : TC ≠ RC := ne_sub su_TC_RC ss_TC
  have NK : ∀ k, k < 4 → PySem.W.kitOne K (.ref (Cl.at ⟨BC, TC, RC, SC, HC⟩ k)) (.ref HC) = some false := fun k hk => match k, hk with
    | 0, _ => kit_ref ic_HC tc_HC su_BC_HC ss_BC
    | 1, _ => kit_ref ic_HC tc_HC su_TC_HC ss_TC
    | 2, _ => kit_ref ic_HC tc_HC su_RC_HC ss_RC
    | 3, _ => kit_ref ic_HC tc_HC su_SC_HC ss_SC
  have eAdd : [dunder Operator.Add.info.2, dunderR Operator.Add.info.2] = [("__add__" : Str), "__radd__"] := by decide +kernel
  have eInp : [dunderI Operator.Add.info.2] = [("__iadd__" : Str)] := by decide +kernel
  have eAdd1 : dunder Operator.Add.info.2 = "__add__" := by decide +kernel
  have INP : Silent K HC [dunderI Operator.Add.info.2] := by
    rw [eInp]
    exact silent2 lk_HC mr_HC niadd_HC niadd_ob
  have SIL : ∀ k, k < 4 → HC ≠ Cl.at ⟨BC, TC, RC, SC, HC⟩ k ∧ Silent K (Cl.at ⟨BC, TC, RC, SC, HC⟩ k) [dunder Operator.Add.info.2, dunderR Operator.Add.info.2] := by
    rw [eAdd]
    exact fun k hk => match k, hk with
      | 0, _ => ⟨Ne.symm (ne_sub su_BC_HC ss_BC), silent3 lk_BC mr_BC nadd_BC nradd_BC nadd_MV nradd_MV nadd_ob nradd_ob⟩
      | 1, _ => ⟨Ne.symm (ne_sub su_TC_HC ss_TC), silent3 lk_TC mr_TC nadd_TC nradd_TC nadd_MV nradd_MV nadd_ob nradd_ob⟩
      | 2, _ => ⟨Ne.symm (ne_sub su_RC_HC ss_RC), silent3 lk_RC mr_RC nadd_RC nradd_RC nadd_MV nradd_MV nadd_ob nradd_ob⟩
      | 3, _ => ⟨Ne.symm (ne_sub su_SC_HC ss_SC), silent3 lk_SC mr_SC nadd_SC nradd_SC nadd_MV nradd_MV nadd_ob nradd_ob⟩
  refine ⟨PySem.W.fnOf "law" "law" (defArgs sLaw) (defBody sLaw) (defScope sLaw) .none kV_f_law dc_f_law pm_f_law an_f_law cd_f_law ct_f_law, fun s v => .of_eq rfl, fun base _ _ => ?_⟩
  have cI : Cal l.prog w K mg base CX0 "is_integer" 1 ["value"] spInt := ⟨f_int, _, ok_isInt F_f_int TB, PySem.W.mg_of X G g_f_int, k_f_int, b_f_int⟩
  have cN : CalNum l.prog w K mg base := ⟨f_num, _, ok_isNum F_f_num cI, PySem.W.mg_of X G g_f_num, k_f_num, b_f_num⟩
  have cA : CalAmt l.prog w K mg base := ⟨f_amt, _, ok_isAmt F_f_amt cN, PySem.W.mg_of X G g_f_amt, k_f_amt, b_f_amt⟩
  have cC : Cal l.prog w K mg base CX0 "_law_choose" 1 ["_law_box", "_law_many"] spChoose := ⟨f_choose, _, ok_choose F_f_choose TA, PySem.W.mg_of X G g_f_choose, k_f_choose, b_f_choose⟩
  have cS : Cal l.prog w K mg base CX0 "_law_seed" 1 ["_law_script", "_law_k"] (spSeed K) := ⟨f_seed, _, ok_seed F_f_seed TA, PySem.W.mg_of X G g_f_seed, k_f_seed, b_f_seed⟩
  have im : ImTxt l.prog w K mg base CM := ⟨PySem.W.mg_of X G g_CM, ox_CM, no_CM_word, f_im, _, ok_imInit F_f_im ox_CM no_CM_word, a_f_im, tf_im, b_f_im⟩
  have GB := ok_bInit (P := l.prog) (w := w) (mg := mg) (base := base) F_f_bi cl_BC no_BC_amount cA im
  have GT := ok_tInit (P := l.prog) (w := w) (mg := mg) (base := base) F_f_ti cl_TC no_TC_at no_TC_amount cN cA im
  have GR := ok_rInit (P := l.prog) (w := w) (mg := mg) (base := base) F_f_ri cl_RC no_RC_at no_RC_amount cN cA im
  have mB : MkTxt l.prog w K mg base "Begin" ["self", "amount"] BC (spBegin BC CM) [] := ⟨PySem.W.mg_of X G g_BC, f_bi, _, GB, ⟨mk_BC, a_f_bi, i_f_bi, kc_BC⟩, b_f_bi, [], .nil, b_f_bi⟩
  have mT : MkTxt l.prog w K mg base "Take" ["self", "at", "amount"] TC (spTake TC CM) [.non] := ⟨PySem.W.mg_of X G g_TC, f_ti, _, GT, ⟨mk_TC, a_f_ti, i_f_ti, kc_TC⟩, b_f_ti, es_f_ti, ve_f_ti, cb_f_ti⟩
  have mR : MkTxt l.prog w K mg base "Right" ["self", "at", "amount"] RC (spRight RC CM) [] := ⟨PySem.W.mg_of X G g_RC, f_ri, _, GR, ⟨mk_RC, a_f_ri, i_f_ri, kc_RC⟩, b_f_ri, [], .nil, b_f_ri⟩
  have MT : MvTxt l.prog w K mg base ⟨BC, TC, RC, SC, HC⟩ CM := ⟨mB, mT, mR, ⟨mk_SC, oi_SC, kc_SC⟩, PySem.W.mg_of X G g_SC⟩
  have ST : StrTxt l.prog w K mg base ⟨BC, TC, RC, SC, HC⟩ := ⟨fun k hk => match k, hk with
    | 0, _ => ⟨f_bs, _, ms_b (c := ⟨BC, TC, RC, SC, HC⟩) (ok_bStr F_f_bs cl_BC no_BC_amount), a_f_bs, i_f_bs, b_f_bs⟩
    | 1, _ => ⟨f_ts, _, ms_t (c := ⟨BC, TC, RC, SC, HC⟩) (ok_tStr F_f_ts cl_TC no_TC_at no_TC_amount), a_f_ts, i_f_ts, b_f_ts⟩
    | 2, _ => ⟨f_rs, _, ms_r (c := ⟨BC, TC, RC, SC, HC⟩) (ok_rStr F_f_rs cl_RC no_RC_at no_RC_amount), a_f_rs, i_f_rs, b_f_rs⟩
    | 3, _ => ⟨f_ss, _, ok_sStr F_f_ss, a_f_ss, i_f_ss, b_f_ss⟩⟩
  have ET : EqTxt l.prog w K mg base ⟨BC, TC, RC, SC, HC⟩ := ⟨fun k hk => match k, hk with
    | 0, _ => ⟨f_be, _, ok_bEq F_f_be TE ST CLS (PySem.W.mg_of X G g_MV), ⟨a_f_be, i_f_be, ne_BC, ob_BC⟩, b_f_be⟩
    | 1, _ => ⟨f_te, _, ok_tEq F_f_te TE ST CLS (PySem.W.mg_of X G g_MV), ⟨a_f_te, i_f_te, ne_TC, ob_TC⟩, b_f_te⟩
    | 2, _ => ⟨f_re, _, ok_rEq' F_f_re TE ST CLS (PySem.W.mg_of X G g_MV), ⟨a_f_re, i_f_re, ne_RC, ob_RC⟩, b_f_re⟩
    | 3, _ => ⟨f_se, _, ok_sEq F_f_se TE ST CLS (PySem.W.mg_of X G g_MV), ⟨a_f_se, i_f_se, ne_SC, ob_SC⟩, b_f_se⟩⟩
  have cIM : CalIsMM l.prog w K mg base ⟨BC, TC, RC, SC, HC⟩ := ⟨f_ism, _, ok_isMovesM F_f_ism THH CLS (PySem.W.mg_of X G g_MV), PySem.W.mg_of X G g_f_ism, k_f_ism, b_f_ism⟩
  have cIT : CalIsMT l.prog w K mg base ⟨BC, TC, RC, SC, HC⟩ := ⟨f_ism, _, ok_isMovesT F_f_ism THH CLS (PySem.W.mg_of X G g_MV), PySem.W.mg_of X G g_f_ism, k_f_ism, b_f_ism⟩
  have GH : FnOk l.prog w K mg base CX0 3 f_hi _ ["self", "moves"] (spHIM ⟨BC, TC, RC, SC, HC⟩) := ok_hInitM F_f_hi cl_HC no_HC_moves cIM (PySem.W.mg_none_of X G z_tuple)
  have GHT : FnOk l.prog w K mg base CX0 3 f_hi _ ["self", "moves"] (spHIT K ⟨BC, TC, RC, SC, HC⟩) := ok_hInitT F_f_hi cl_HC no_HC_moves cIT (PySem.W.mg_none_of X G z_tuple)
  have HT : HiTxt l.prog w K mg base ⟨BC, TC, RC, SC, HC⟩ := ⟨PySem.W.mg_of X G g_HC, f_hi, _, GH, ⟨mk_HC, a_f_hi, i_f_hi, kc_HC⟩, b_f_hi⟩
  have HTT : HiTxtT l.prog w K mg base ⟨BC, TC, RC, SC, HC⟩ := ⟨PySem.W.mg_of X G g_HC, f_hi, _, GHT, ⟨mk_HC, a_f_hi, i_f_hi, kc_HC⟩, b_f_hi⟩
  have H0 : (∃ o, K.lookup e_hi = some o ∧ o.cls = .type "tuple") ∧ ∀ H, SqT K H e_hi [] := ⟨⟨_, q_e, rfl⟩, fun _ => .inr ⟨_, _, _, q_e, rfl, rfl, by show 0 ≤ sizeLine; decide, .nil⟩⟩
  have TH : HiOps l.prog w K mg base ⟨BC, TC, RC, SC, HC⟩ := {
    g := PySem.W.mg_of X G g_HC
    cl := HCLS
    iniL := ⟨f_hi, _, GH, ⟨mk_HC, a_f_hi, i_f_hi, kc_HC⟩, b_f_hi⟩
    iniT := ⟨f_hi, _, GHT, ⟨mk_HC, a_f_hi, i_f_hi, kc_HC⟩, b_f_hi⟩
    ini0 := ⟨f_hi, _, e_hi, es_f_hi, GHT, ⟨mk_HC, a_f_hi, i_f_hi, kc_HC⟩, ve_f_hi, cb_f_hi, H0⟩
    add := ⟨f_ha, _, ok_hAddH F_f_ha THH HCLS HTT (PySem.W.mg_of X G g_MV), ok_hAddM F_f_ha THH HCLS CLS NK HTT (PySem.W.mg_of X G g_MV), ⟨sf_HC, by rw [eAdd1]; exact a_f_ha, i_f_ha⟩, b_f_ha⟩
    get := ⟨f_hg, _, ok_hGetK F_f_hg THH HCLS HTT, ⟨⟨a_f_hg, i_f_hg, fi_hg⟩, nq_HC⟩, b_f_hg⟩
    len := ⟨f_hl, _, ok_hLenK F_f_hl HCLS (PySem.W.mg_none_of X G z_len), a_f_hl, i_f_hl, b_f_hl⟩
    eq := ⟨f_he, _, ok_hEqK F_f_he ET HCLS CLS TRne (PySem.W.mg_none_of X G z_isinstance) (PySem.W.mg_of X G g_HC), ⟨a_f_he, i_f_he, ne_HC, ob_HC⟩, b_f_he⟩
    str := ⟨f_hs, _, ok_hStrK F_f_hs ST HCLS (PySem.W.mg_none_of X G z_str), a_f_hs, i_f_hs, b_f_hs⟩
    nf := nf_same
    inp := INP
    sil := SIL }
  have cAM : Cal l.prog w K mg base CX0 "_law_any_move" 2 ["_law_box"] spAM := ⟨f_am, _, am_any (ok_anyMove F_f_am cC), PySem.W.mg_of X G g_f_am, k_f_am, b_f_am⟩
  have cMD : Cal l.prog w K mg base CX0 "_law_made" 6 ["_law_move"] (spMadeM ⟨BC, TC, RC, SC, HC⟩) := ⟨f_made, _, ok_madeM F_f_made MT, PySem.W.mg_of X G g_f_made, k_f_made, b_f_made⟩
  have TW : BltW mg := ⟨PySem.W.mg_none_of X G z_len, PySem.W.mg_none_of X G z_range, PySem.W.mg_none_of X G z_max, PySem.W.mg_none_of X G z_min, PySem.W.mg_none_of X G z_str, PySem.W.mg_none_of X G z_isinstance, PySem.W.mg_none_of X G z_tuple, PySem.W.mg_none_of X G z_list⟩
  have cO : CalOf l.prog w K mg base := ⟨f_one, _, ok_oneOf F_f_one TA cC, PySem.W.mg_of X G g_f_one, k_f_one, b_f_one⟩
  have cMT : CalText l.prog w K mg base := ⟨f_mt, _, ok_mvText F_f_mt (PySem.W.mg_none_of X G z_str), PySem.W.mg_of X G g_f_mt, k_f_mt, b_f_mt⟩
  have cLT : CalLText l.prog w K mg base := ⟨f_lt, _, ok_lText F_f_lt cMT, PySem.W.mg_of X G g_f_lt, k_f_lt, b_f_lt⟩
  have cLE : CalEnd l.prog w K mg base := ⟨f_le, _, ok_lEnd F_f_le cC cO, PySem.W.mg_of X G g_f_le, k_f_le, b_f_le⟩
  have HN : HiNot K HC := ⟨kit_base ic_HC tc_HC hn_str, kit_base ic_HC tc_HC hn_NoneType, kit_base ic_HC tc_HC hn_tuple, kit_base ic_HC tc_HC hn_list⟩
  have NKT : ∀ k, k < 4 → PySem.W.kitOne K (.ref (Cl.at ⟨BC, TC, RC, SC, HC⟩ k)) (.type "tuple") = some false := fun k hk => match k, hk with
    | 0, _ => kit_rt (by decide +kernel) bh_BC_tuple
    | 1, _ => kit_rt (by decide +kernel) bh_TC_tuple
    | 2, _ => kit_rt (by decide +kernel) bh_RC_tuple
    | 3, _ => kit_rt (by decide +kernel) bh_SC_tuple
  have TH2 : HiOps2 l.prog w K mg base ⟨BC, TC, RC, SC, HC⟩ := {
    getI := ⟨f_hg, _, ok_hGetI F_f_hg THH HCLS CLS NKT HTT, ⟨⟨a_f_hg, i_f_hg, fi_hg⟩, nq_HC⟩, b_f_hg⟩
    ne := ⟨f_he, _, ok_hNe F_f_he ET CLS TRne HN (PySem.W.mg_none_of X G z_isinstance) (PySem.W.mg_of X G g_HC), ⟨a_f_he, i_f_he, ne_HC, ob_HC⟩, b_f_he⟩
    bh := ⟨⟨bh_HC_str, bh_HC_NoneType, bh_HC_tuple⟩, bh_HC_list⟩ }
  have cSL : Cal l.prog w K mg base CX0 "_law_slices_right" 7 ["_law_box", "_law_one", "_law_some"] (spSlices K ⟨BC, TC, RC, SC, HC⟩) := ⟨f_sl, _, ok_slices F_f_sl TW TH cLE cO cLT, PySem.W.mg_of X G g_f_sl, k_f_sl, b_f_sl⟩
  have cSU : Cal l.prog w K mg base CX0 "_law_sums_right" 8 ["_law_one", "_law_other", "_law_some", "_law_more"] (spSums K ⟨BC, TC, RC, SC, HC⟩) := ⟨f_su, _, ok_sums F_f_su TW TH MT cLT, PySem.W.mg_of X G g_f_su, k_f_su, b_f_su⟩
  exact ok_law F_f_law TW TH TH2 MT ST cS cC cAM cMD cMT cLT cSL cSU
theorem walk {l : PySem.W.OpenLaw} {q : Program} {loose : List Str} {XP : (Str → Option Value) → Heap → Prop} {YP : World → Heap → Prop} {d : DefRec} {K : Params → PySem.W.Frag} (hn : l.most = some 63) (hdf : d.params.defaults = [])
    (hY : ∀ (w : World) (h : Heap), YP w h → (K w.params).In h)
    (F : ∀ (w : World) (mg : Str → Option Value) (fa : Addr) (h : Heap), (K w.params).In h → h.Ns mainGlobals mg → mg d.name = some (.ref fa) →
      ∃ fd : FuncData, (∀ (s : Shared) (u : Value), BindsTo s fd ⟨[u], []⟩ [("_law_script", u)]) ∧ ∀ base : Heap, (K w.params).In base → base.Ns mainGlobals mg → FnOk l.prog w (K w.params) mg base CX0 9 fa fd ["_law_script"] (spLaw (K w.params))) :
    PySem.W.WalkO q loose XP YP l.row.toRowW d [] (fun f vs => PySem.call f vs) :=
  L2.walk_of (n := 63) (k := 9) (x := "_law_script") (CX := fun _ => CX0) (sp := fun w => spLaw (K w.params)) hn (by decide) hdf ⟨rfl, by decide, by decide⟩ hY F (fun _ _ a ns hl _ hS => ⟨a, ns, rfl, hS, hl, fun _ => rfl⟩) fun _ _ _ _ _ z => z
end V3

open PySem PySem.W PyProof.Rows in
set_option maxRecDepth 100000 in
set_option maxHeartbeats 0 in
theorem PySem.Challenge.cw_contrabooks_k04_histories_made_holds : PySem.Challenge.rw_contrabooks_k04_histories_made.Holds := by
  w_on; o_law; k_head; (case hw => w_witness2)
  k_fill
  refine V3.walk (l := PySem.Challenge.rw_contrabooks_k04_histories_made) rfl rfl (fun w h Y => PySem.W.kIn_of Y) ?F
  case F =>
    intro w mg fa h KX G hmg
    refine' V3.all_mk KX G hmg ?g_f_int ?l_f_int ?c_f_int ?k_f_int ?g_f_num ?l_f_num ?c_f_num ?k_f_num ?g_f_amt ?l_f_amt ?c_f_amt ?k_f_amt ?g_f_ism ?l_f_ism ?c_f_ism ?k_f_ism ?g_f_seed ?l_f_seed ?c_f_seed ?k_f_seed ?g_f_choose ?l_f_choose ?c_f_choose ?k_f_choose ?g_f_one ?l_f_one ?c_f_one ?k_f_one ?g_f_am ?l_f_am ?c_f_am ?k_f_am ?g_f_made ?l_f_made ?c_f_made ?k_f_made ?g_f_mt ?l_f_mt ?c_f_mt ?k_f_mt ?g_f_lt ?l_f_lt ?c_f_lt ?k_f_lt ?g_f_le ?l_f_le ?c_f_le ?k_f_le ?g_f_sl ?l_f_sl ?c_f_sl ?k_f_sl ?g_f_su ?l_f_su ?c_f_su ?k_f_su ?g_f_law ?l_f_law ?c_f_law ?k_f_law ?g_CM ?g_MV ?g_BC ?g_TC ?g_RC ?g_SC ?g_HC ?x_CM ?xb_CM ?xsa_CM ?xga_CM ?xgg_CM ?xex_CM ?xty_CM ?xkc_CM ?xhd_CM ?xis_CM ?xca_CM ?xgn_CM ?xtk_CM ?xmo_CM ?xss_CM ?no_CM_word ?a_f_im ?tf_im ?l_f_im ?c_f_im ?k_f_im ?is_MV ?ty_MV ?ic_HC ?tc_HC ?pg_BC ?hd_BC ?po_BC ?sa_BC ?mk_BC ?kc_BC ?ca_BC ?mo_BC ?ss_BC ?ne_BC ?ob_BC ?pg_TC ?hd_TC ?po_TC ?sa_TC ?mk_TC ?kc_TC ?ca_TC ?mo_TC ?ss_TC ?ne_TC ?ob_TC ?pg_RC ?hd_RC ?po_RC ?sa_RC ?mk_RC ?kc_RC ?ca_RC ?mo_RC ?ss_RC ?ne_RC ?ob_RC ?pg_SC ?hd_SC ?po_SC ?sa_SC ?mk_SC ?kc_SC ?ca_SC ?mo_SC ?ss_SC ?ne_SC ?ob_SC ?pg_HC ?hd_HC ?po_HC ?sa_HC ?mk_HC ?kc_HC ?ca_HC ?mo_HC ?ss_HC ?ne_HC ?ob_HC ?sm_BC ?su_BC_HC ?su_TC_BC ?su_RC_BC ?su_SC_BC ?sm_TC ?su_TC_HC ?su_BC_TC ?su_RC_TC ?su_SC_TC ?sm_RC ?su_RC_HC ?su_BC_RC ?su_TC_RC ?su_SC_RC ?sm_SC ?su_SC_HC ?su_BC_SC ?su_TC_SC ?su_RC_SC ?no_BC_amount ?no_TC_at ?no_TC_amount ?no_RC_at ?no_RC_amount ?no_HC_moves ?a_f_bi ?i_f_bi ?l_f_bi ?c_f_bi ?k_f_bi ?a_f_ti ?i_f_ti ?l_f_ti ?c_f_ti ?k_f_ti ?t_f_ti ?a_f_ri ?i_f_ri ?l_f_ri ?c_f_ri ?k_f_ri ?a_f_be ?i_f_be ?l_f_be ?c_f_be ?k_f_be ?a_f_bs ?i_f_bs ?l_f_bs ?c_f_bs ?k_f_bs ?a_f_te ?i_f_te ?l_f_te ?c_f_te ?k_f_te ?a_f_ts ?i_f_ts ?l_f_ts ?c_f_ts ?k_f_ts ?a_f_re ?i_f_re ?l_f_re ?c_f_re ?k_f_re ?a_f_rs ?i_f_rs ?l_f_rs ?c_f_rs ?k_f_rs ?a_f_se ?i_f_se ?l_f_se ?c_f_se ?k_f_se ?a_f_ss ?i_f_ss ?l_f_ss ?c_f_ss ?k_f_ss ?oi_SC ?a_f_hi ?i_f_hi ?l_f_hi ?c_f_hi ?k_f_hi ?t_f_hi ?q_e ?a_f_he ?i_f_he ?l_f_he ?c_f_he ?k_f_he ?a_f_hs ?i_f_hs ?l_f_hs ?c_f_hs ?k_f_hs ?a_f_hl ?i_f_hl ?l_f_hl ?c_f_hl ?k_f_hl ?a_f_hg ?i_f_hg ?l_f_hg ?c_f_hg ?k_f_hg ?a_f_ha ?i_f_ha ?l_f_ha ?c_f_ha ?k_f_ha ?sf_HC ?nq_HC ?fi_hg ?lk_BC ?mr_BC ?lk_TC ?mr_TC ?lk_RC ?mr_RC ?lk_SC ?mr_SC ?lk_HC ?mr_HC ?nadd_BC ?nradd_BC ?nadd_TC ?nradd_TC ?nadd_RC ?nradd_RC ?nadd_SC ?nradd_SC ?nadd_MV ?nradd_MV ?niadd_HC ?nadd_ob ?nradd_ob ?niadd_ob ?z_len ?z_abs ?z_int ?z_isinstance ?z_bool ?z_range ?z_tuple ?z_list ?z_all ?z_max ?z_min ?z_str ?bh_BC_tuple ?bh_TC_tuple ?bh_RC_tuple ?bh_SC_tuple ?bh_HC_tuple ?bh_HC_str ?bh_HC_NoneType ?bh_HC_list ?hn_str ?hn_NoneType ?hn_tuple ?hn_list
    (case g_f_int => k_is)
    (case l_f_int => k_is)
    (case c_f_int => k_is)
    (case k_f_int => k_is)
    (case g_f_num => k_is)
    (case l_f_num => k_is)
    (case c_f_num => k_is)
    (case k_f_num => k_is)
    (case g_f_amt => k_is)
    (case l_f_amt => k_is)
    (case c_f_amt => k_is)
    (case k_f_amt => k_is)
    (case g_f_ism => k_is)
    (case l_f_ism => k_is)
    (case c_f_ism => k_is)
    (case k_f_ism => k_is)
    (case g_f_seed => k_is)
    (case l_f_seed => k_is)
    (case c_f_seed => k_is)
    (case k_f_seed => k_is)
    (case g_f_choose => k_is)
    (case l_f_choose => k_is)
    (case c_f_choose => k_is)
    (case k_f_choose => k_is)
    (case g_f_one => k_is)
    (case l_f_one => k_is)
    (case c_f_one => k_is)
    (case k_f_one => k_is)
    (case g_f_am => k_is)
    (case l_f_am => k_is)
    (case c_f_am => k_is)
    (case k_f_am => k_is)
    (case g_f_made => k_is)
    (case l_f_made => k_is)
    (case c_f_made => k_is)
    (case k_f_made => k_is)
    (case g_f_mt => k_is)
    (case l_f_mt => k_is)
    (case c_f_mt => k_is)
    (case k_f_mt => k_is)
    (case g_f_lt => k_is)
    (case l_f_lt => k_is)
    (case c_f_lt => k_is)
    (case k_f_lt => k_is)
    (case g_f_le => k_is)
    (case l_f_le => k_is)
    (case c_f_le => k_is)
    (case k_f_le => k_is)
    (case g_f_sl => k_is)
    (case l_f_sl => k_is)
    (case c_f_sl => k_is)
    (case k_f_sl => k_is)
    (case g_f_su => k_is)
    (case l_f_su => k_is)
    (case c_f_su => k_is)
    (case k_f_su => k_is)
    (case g_f_law => k_is)
    (case l_f_law => k_is)
    (case c_f_law => k_is)
    (case k_f_law => k_is)
    (case g_CM => k_is)
    (case g_MV => k_is)
    (case g_BC => k_is)
    (case g_TC => k_is)
    (case g_RC => k_is)
    (case g_SC => k_is)
    (case g_HC => k_is)
    (case x_CM => k_is)
    (case xb_CM => decide +kernel)
    (case xsa_CM => k_is)
    (case xga_CM => k_is)
    (case xgg_CM => k_is)
    (case xex_CM => k_is)
    (case xty_CM => k_is)
    (case xkc_CM => k_is)
    (case xhd_CM => k_is)
    (case xis_CM => k_is)
    (case xca_CM => k_is)
    (case xgn_CM => k_is)
    (case xtk_CM => k_is)
    (case xmo_CM => k_is)
    (case xss_CM => first | rfl | k_is)
    (case no_CM_word => k_is)
    (case a_f_im => k_is)
    (case tf_im => k_is)
    (case l_f_im => k_is)
    (case c_f_im => k_is)
    (case k_f_im => k_is)
    (case is_MV => k_is)
    (case ty_MV => k_is)
    (case ic_HC => k_is)
    (case tc_HC => k_is)
    (case pg_BC => k_is)
    (case hd_BC => k_is)
    (case po_BC => k_is)
    (case sa_BC => k_is)
    (case mk_BC => k_is)
    (case kc_BC => k_is)
    (case ca_BC => k_is)
    (case mo_BC => k_is)
    (case ss_BC => first | rfl | k_is)
    (case ne_BC => k_is)
    (case ob_BC => k_is)
    (case pg_TC => k_is)
    (case hd_TC => k_is)
    (case po_TC => k_is)
    (case sa_TC => k_is)
    (case mk_TC => k_is)
    (case kc_TC => k_is)
    (case ca_TC => k_is)
    (case mo_TC => k_is)
    (case ss_TC => first | rfl | k_is)
    (case ne_TC => k_is)
    (case ob_TC => k_is)
    (case pg_RC => k_is)
    (case hd_RC => k_is)
    (case po_RC => k_is)
    (case sa_RC => k_is)
    (case mk_RC => k_is)
    (case kc_RC => k_is)
    (case ca_RC => k_is)
    (case mo_RC => k_is)
    (case ss_RC => first | rfl | k_is)
    (case ne_RC => k_is)
    (case ob_RC => k_is)
    (case pg_SC => k_is)
    (case hd_SC => k_is)
    (case po_SC => k_is)
    (case sa_SC => k_is)
    (case mk_SC => k_is)
    (case kc_SC => k_is)
    (case ca_SC => k_is)
    (case mo_SC => k_is)
    (case ss_SC => first | rfl | k_is)
    (case ne_SC => k_is)
    (case ob_SC => k_is)
    (case pg_HC => k_is)
    (case hd_HC => k_is)
    (case po_HC => k_is)
    (case sa_HC => k_is)
    (case mk_HC => k_is)
    (case kc_HC => k_is)
    (case ca_HC => k_is)
    (case mo_HC => k_is)
    (case ss_HC => first | rfl | k_is)
    (case ne_HC => k_is)
    (case ob_HC => k_is)
    (case sm_BC => k_is)
    (case su_BC_HC => k_is)
    (case su_TC_BC => k_is)
    (case su_RC_BC => k_is)
    (case su_SC_BC => k_is)
    (case sm_TC => k_is)
    (case su_TC_HC => k_is)
    (case su_BC_TC => k_is)
    (case su_RC_TC => k_is)
    (case su_SC_TC => k_is)
    (case sm_RC => k_is)
    (case su_RC_HC => k_is)
    (case su_BC_RC => k_is)
    (case su_TC_RC => k_is)
    (case su_SC_RC => k_is)
    (case sm_SC => k_is)
    (case su_SC_HC => k_is)
    (case su_BC_SC => k_is)
    (case su_TC_SC => k_is)
    (case su_RC_SC => k_is)
    (case no_BC_amount => k_is)
    (case no_TC_at => k_is)
    (case no_TC_amount => k_is)
    (case no_RC_at => k_is)
    (case no_RC_amount => k_is)
    (case no_HC_moves => k_is)
    (case a_f_bi => k_is)
    (case i_f_bi => k_is)
    (case l_f_bi => k_is)
    (case c_f_bi => k_is)
    (case k_f_bi => k_is)
    (case a_f_ti => k_is)
    (case i_f_ti => k_is)
    (case l_f_ti => k_is)
    (case c_f_ti => k_is)
    (case k_f_ti => k_is)
    (case t_f_ti => k_is)
    (case a_f_ri => k_is)
    (case i_f_ri => k_is)
    (case l_f_ri => k_is)
    (case c_f_ri => k_is)
    (case k_f_ri => k_is)
    (case a_f_be => k_is)
    (case i_f_be => k_is)
    (case l_f_be => k_is)
    (case c_f_be => k_is)
    (case k_f_be => k_is)
    (case a_f_bs => k_is)
    (case i_f_bs => k_is)
    (case l_f_bs => k_is)
    (case c_f_bs => k_is)
    (case k_f_bs => k_is)
    (case a_f_te => k_is)
    (case i_f_te => k_is)
    (case l_f_te => k_is)
    (case c_f_te => k_is)
    (case k_f_te => k_is)
    (case a_f_ts => k_is)
    (case i_f_ts => k_is)
    (case l_f_ts => k_is)
    (case c_f_ts => k_is)
    (case k_f_ts => k_is)
    (case a_f_re => k_is)
    (case i_f_re => k_is)
    (case l_f_re => k_is)
    (case c_f_re => k_is)
    (case k_f_re => k_is)
    (case a_f_rs => k_is)
    (case i_f_rs => k_is)
    (case l_f_rs => k_is)
    (case c_f_rs => k_is)
    (case k_f_rs => k_is)
    (case a_f_se => k_is)
    (case i_f_se => k_is)
    (case l_f_se => k_is)
    (case c_f_se => k_is)
    (case k_f_se => k_is)
    (case a_f_ss => k_is)
    (case i_f_ss => k_is)
    (case l_f_ss => k_is)
    (case c_f_ss => k_is)
    (case k_f_ss => k_is)
    (case oi_SC => k_is)
    (case a_f_hi => k_is)
    (case i_f_hi => k_is)
    (case l_f_hi => k_is)
    (case c_f_hi => k_is)
    (case k_f_hi => k_is)
    (case t_f_hi => k_is)
    (case q_e => k_is)
    (case a_f_he => k_is)
    (case i_f_he => k_is)
    (case l_f_he => k_is)
    (case c_f_he => k_is)
    (case k_f_he => k_is)
    (case a_f_hs => k_is)
    (case i_f_hs => k_is)
    (case l_f_hs => k_is)
    (case c_f_hs => k_is)
    (case k_f_hs => k_is)
    (case a_f_hl => k_is)
    (case i_f_hl => k_is)
    (case l_f_hl => k_is)
    (case c_f_hl => k_is)
    (case k_f_hl => k_is)
    (case a_f_hg => k_is)
    (case i_f_hg => k_is)
    (case l_f_hg => k_is)
    (case c_f_hg => k_is)
    (case k_f_hg => k_is)
    (case a_f_ha => k_is)
    (case i_f_ha => k_is)
    (case l_f_ha => k_is)
    (case c_f_ha => k_is)
    (case k_f_ha => k_is)
    (case sf_HC => k_is)
    (case nq_HC => k_is)
    (case fi_hg => first | k_is | rfl)
    (case lk_BC => k_is)
    (case mr_BC => rfl)
    (case lk_TC => k_is)
    (case mr_TC => rfl)
    (case lk_RC => k_is)
    (case mr_RC => rfl)
    (case lk_SC => k_is)
    (case mr_SC => rfl)
    (case lk_HC => k_is)
    (case mr_HC => rfl)
    (case nadd_BC => k_is)
    (case nradd_BC => k_is)
    (case nadd_TC => k_is)
    (case nradd_TC => k_is)
    (case nadd_RC => k_is)
    (case nradd_RC => k_is)
    (case nadd_SC => k_is)
    (case nradd_SC => k_is)
    (case nadd_MV => k_is)
    (case nradd_MV => k_is)
    (case niadd_HC => k_is)
    (case nadd_ob => first | k_is | rfl | decide +kernel)
    (case nradd_ob => first | k_is | rfl | decide +kernel)
    (case niadd_ob => first | k_is | rfl | decide +kernel)
    (case z_len => k_is)
    (case z_abs => k_is)
    (case z_int => k_is)
    (case z_isinstance => k_is)
    (case z_bool => k_is)
    (case z_range => k_is)
    (case z_tuple => k_is)
    (case z_list => k_is)
    (case z_all => k_is)
    (case z_max => k_is)
    (case z_min => k_is)
    (case z_str => k_is)
    (case bh_BC_tuple => k_is)
    (case bh_TC_tuple => k_is)
    (case bh_RC_tuple => k_is)
    (case bh_SC_tuple => k_is)
    (case bh_HC_tuple => k_is)
    (case bh_HC_str => k_is)
    (case bh_HC_NoneType => k_is)
    (case bh_HC_list => k_is)
    (case hn_str => k_is)
    (case hn_NoneType => k_is)
    (case hn_tuple => k_is)
    (case hn_list => k_is)
#print axioms PySem.Challenge.cw_contrabooks_k04_histories_made_holds
