import PyProof.Rows.All
import Wide.All
import OpenK.AllK
import Wide.FinOn
import HandS.ForExc
import HandS.Comp
import HandS.Dict
import HandS.Iter
import HandS.Text
import HandS.Wide
import HandS.FStr
import HandS.IsInst
import HandS.ExcInit
import HandS.ExcField
import HandS.OwnEq
import KE.KCallOwn
import KE.KExcIs
import HandS.ExcIs
import HandS.Defaults
import PySem.Challenge.RW_contrabooks_k03_moves_refused
set_option Elab.async false
set_option linter.all false
set_option maxRecDepth 100000
/-! Rules of our own over the hand layer: an object made whose making may raise, within a try; str(o) by its own def; isinstance of a caught error with fields. -/
namespace V3
open PySem L2 PyProof.Rows
section
variable {X : Cx} {CX : CXT} {k : Nat} {f C : Addr} {fd : FuncData} {ps : List Str} {sp : Sp} {E : L2.St → XK} {x : Str} {p pos : Pos} {e : Expr} {es : List Expr} {t : TA} {dvs : List V} {ds : List Value}
theorem make_at {pins : List (Addr × Obj)} {σ : L2.St} {H : Hp} {s : Shared} {Q : VK}
    {us : List Value} {vs : List V} (M : Mk X.K C f)
    (F : FnOk X.prog X.w X.K X.mg X.base CX k f fd ps sp)
    (room : Room (k + 1) X.A) (bi : Binds X.K fd ps ds) (va : Vals dvs ds)
    (out : PassesAt CX X σ (E σ)) (I : Inv X pins σ H s) (r : Vals vs us)
    (h : ∀ y dy, H y = none → H dy = none → dy ≠ y →
      sp (.ref y :: (vs ++ dvs)) (upd (upd H dy (.own y)) y (.ins C dy []))
        (fun v H2 => v = .non ∧ Q (.ref y) H2) (E σ)) :
    wpAny (model X.prog X.w) X.A (call (.ref C) us) (EP X pins σ Q) X.xe s := by
  have want := h (s.heap.objs.size + 1) s.heap.objs.size
    (I.hok.fresh (Nat.le_succ _)) (I.hok.fresh (Nat.le_refl _))
    (Nat.ne_of_lt (Nat.lt_succ_self _))
  have J := Inv.made (C := C) I
  have rr : Vals (V.ref (s.heap.objs.size + 1) :: (vs ++ dvs))
      (Value.ref (s.heap.objs.size + 1) :: (us ++ ds)) := .cons rfl (r.append va)
  have len : (Value.ref (s.heap.objs.size + 1) :: us ++ ds).length = ps.length := by
    have q := rr.length
    rw [F.len _ _ _ _ want] at q
    exact q.symm
  have bound := bi _ (Value.ref (s.heap.objs.size + 1) :: us) J.kIn len
  have ran := F.run _ X.stack _ _ ⟨Value.ref (s.heap.objs.size + 1) :: us, []⟩
    (Value.ref (s.heap.objs.size + 1) :: (us ++ ds)) _ _ (E σ)
    (room.make C us []) (J.env0.make C us []) bound rr want
  refine wpAny_call (make_map (f := f) I.kIn M.makes M.init
    (beq_iff_eq.mp M.fn) (codeAny_mono ran fun res s' hq => ?_))
  match res, hq with
  | .error err, hq => exact out pins _ _ err s' J hq
  | .ok (.ret u), hq =>
    obtain ⟨v, H', I3, rv, ev, q3⟩ := J.after hq
    subst ev
    exact ⟨rv, ⟨V.ref (s.heap.objs.size + 1), H', I3, rfl, q3⟩⟩
  | .ok .next, hq => exact hq.elim
  | .ok .brk, hq => exact hq.elim
  | .ok .cont, hq => exact hq.elim
/-- C(e, ..) where what its making raises is wished for at the slots -/
def tMakeS (C : Addr) (sp : Sp) (dvs : List V) (E : L2.St → XK) (t : TA) : TE :=
  fun σ H Q => t σ H fun vs H1 => ∀ y dy, H1 y = none → H1 dy = none → dy ≠ y →
    sp (.ref y :: (vs ++ dvs)) (upd (upd H1 dy (.own y)) y (.ins C dy []))
      (fun v H2 => v = .non ∧ Q (.ref y) H2) (E σ)
theorem pe_makeS (M : Mk X.K C f) (F : FnOk X.prog X.w X.K X.mg X.base CX k f fd ps sp)
    (room : Room (k + 1) X.A) (hg : Gl X x) (hm : X.mg x = some (.ref C))
    (bi : Binds X.K fd ps ds) (va : Vals dvs ds) (out : ∀ σ, PassesAt CX X σ (E σ))
    (ha : PA X (e :: es) t) (hdb : (x == ("__debug__" : Str)) = false := by decide)
    (he : starEach (e :: es) X.env = (false, eval e X.env) :: starEach es X.env := by rfl)
    (hpl : (backTo pos (starEach es X.env)).any (·.1) = false := by rfl) :
    PE X (.Call (.Name x p) (e :: es) [] pos) (tMakeS C sp dvs E t) := by
  refine ⟨fun pins s σ H Q I h => wpAny_Call_Name_kw (ld_glob I hg hm ?_ hdb)⟩
  refine PySem.W.callWith_K (h₀ := X.base) I.ok.mod.kin M.kp ?_ he hpl
  exact thn (ha.run pos pins s σ H _ I h) fun us s1 ⟨vs, H1, I1, r, q⟩ =>
    ⟨I1.kIn, make_at M F room bi va (out σ) I1 r q⟩
end
/-! str(o), o of an own class with its own __str__ -/
section
variable {X : Cx} {CX : CXT} {n : Nat} {f C : Addr} {fd : FuncData} {ps : List Str} {sp : Sp} {E : XK}
theorem room2 {A : Around} (r : Room (n + 2) A) : Room n A.in1.in1 := Room.in1 (k := n) (Room.in1 (k := n + 1) r)
def rStrO (C : Addr) (sp : Sp) (E : XK) : List V → Hp → VK → Prop := fun xs H Q =>
  ∃ a dx fs, xs = [.ref a] ∧ H a = some (.ins C dx fs) ∧
    sp [.ref a] H (fun v H' => ∃ y : Str, v = .str y ∧ Q (.str y) H') E
theorem call_strO (F : FnOk X.prog X.w X.K X.mg X.base CX n f fd ps sp)
    (at_ : PySem.W.findIn X.K (.ref C) "__str__" = some (some (.ref f)))
    (isf : PySem.W.isFn X.K (.ref f) = true) (bi : Binds X.K fd ps [])
    (out : Passes CX X E) (room : Room (n + 2) X.A) : CallR X (.type "str") (rStrO C sp E) := by
  intro pins s σ H xs us Q I r h
  obtain ⟨a, dx, fs, rfl, ha, want⟩ := h
  cases r with
  | cons r1 rn =>
    cases rn
    cases r1
    obtain ⟨mA, O, _⟩ := ins_get I.hok ha
    obtain ⟨od, J, _⟩ := O.look
    have rr := room2 room
    refine PySem.W.kso_call rr.units0 I.kIn J at_ isf ?_
    have e0 : Env0 X.prog X.w X.K X.mg X.base X.A.in1.in1 X.stack s H := I.env0.in1.in1
    have len := F.len _ _ _ _ want
    have bound : BindsTo s fd ⟨[.ref a], []⟩ (ps.zip [Value.ref a]) := by
      have b := bi s [.ref a] I.kIn (by simpa using len)
      simpa using b
    have ran := F.run X.A.in1.in1 X.stack s H ⟨[.ref a], []⟩ [.ref a] [.ref a] _ E rr e0 bound (.cons rfl .nil) want
    refine wpAny_call (codeAny_mono ran fun res s' hq => ?_)
    match res, hq with
    | .error err, hq => exact out pins σ H s err s' I hq
    | .ok (.ret u), hq =>
      obtain ⟨v, H', I', rv, y, ev, q⟩ := I.after hq
      subst ev
      obtain ⟨t, rfl⟩ := rv
      exact ⟨.str y, H', I', ⟨t, rfl⟩, q⟩
    | .ok .next, hq => exact hq.elim
    | .ok .brk, hq => exact hq.elim
    | .ok .cont, hq => exact hq.elim
end
/-! isinstance(e, c), isinstance(e, (c, ..)), e the error that the suite holds -/
structure XClass (K : PySem.W.Frag) (D : Addr) : Prop where
  is : (PySem.W.clsIn K D).isSome = true
  ga : PySem.W.findIn K (.ref D) "__getattribute__" = some (some (.builtin "BaseException.__getattribute__"))
  gt : PySem.W.findIn K (.ref D) "__getattr__" = some none
  sb : PySem.W.subIn K (.ref D) (.type "BaseException") = some true
  ca : PySem.W.findIn K (.ref D) "__class__" = some (some (.builtin "object.__class__"))
  gn : PySem.W.specialIn K (.builtin "object.__class__") "__get__" = some (some (.builtin "getset_descriptor.__get__"))
  tk : PySem.W.takesIn K (.builtin "object.__class__") = some true
  mo : PySem.W.mroIn K D (.type "object") = some true
section
variable {X : Cx} {a D : Addr} {oe : Obj} {pn : List (Addr × Obj)} {d : Option Addr}
theorem held_at {pins : List (Addr × Obj)} {σ : L2.St} {H : Hp} {s : Shared} {dd : Addr} {fs : List (Str × V)}
    (hz : Zc (.ref D) (some dd) oe) (hf : ∃ vs, oe.data = .fields vs)
    (I : Inv (X.suite a ((a, oe) :: pn)) pins σ H s) (hd : H dd = some (.xd fs)) :
    ∃ od : Obj, PySem.W.InstAt s.heap a oe D (some od) := by
  obtain ⟨ha, _⟩ := I.pin (a, oe) (List.mem_append_left _ List.mem_cons_self)
  obtain ⟨vs, hv⟩ := hf
  have hx : ObjOk X.prog X.w H s.heap dd (.xd fs) := I.hok dd _ hd
  obtain ⟨mA, hns, _⟩ := hx
  obtain ⟨od, ho, _⟩ := lookIn_ns hns
  exact ⟨od, ha, hz.1, by unfold PySem.W.notCls; rw [hv] <;> rfl, by rw [hz.2]; exact ho⟩
def rIsX (K : PySem.W.Frag) (D a : Addr) (cls : Value) (d : Option Addr) : List V → Hp → VK → Prop := fun xs H Q =>
  ∃ (dd : Addr) (fs : List (Str × V)) (c : V) (u : Value) (b : Bool), cls = .ref D ∧ d = some dd ∧ H dd = some (.xd fs) ∧
    xs = [.ref a, c] ∧ ClsV c u ∧ PySem.W.kitOne K (.ref D) u = some b ∧ Q (.bl b) H
theorem call_isX {cls : Value} (T : XClass X.K D) (hz : Zc cls d oe) (hf : ∃ vs, oe.data = .fields vs) :
    CallR (X.suite a ((a, oe) :: pn)) (.builtin "isinstance") (rIsX X.K D a cls d) := by
  intro pins s σ H xs us Q I r h
  obtain ⟨dd, fs, c, u, b, rfl, rfl, hd, rfl, k, e, q⟩ := h
  obtain ⟨u1, u2, rfl, r1, r2⟩ := vals2 r
  cases (show u1 = Value.ref a from r1)
  have e2 := k.eq r2
  subst e2
  obtain ⟨od, J⟩ := held_at hz hf I hd
  exact PySem.W.kia_one (PySem.W.kitx_exc T.is T.ga T.gt T.sb T.ca T.gn T.tk T.mo) I.kIn J e (fun z => nomatch z)
    fun tk => ⟨.bl b, H, I.tok tk, rfl, q⟩
def rIsXT (K : PySem.W.Frag) (D a : Addr) (cls : Value) (d : Option Addr) : List V → Hp → VK → Prop := fun xs H Q =>
  ∃ (dd : Addr) (fs : List (Str × V)) (tp : Addr) (cs : List V) (us : List Value) (b : Bool), cls = .ref D ∧ d = some dd ∧ H dd = some (.xd fs) ∧
    xs = [.ref a, .ref tp] ∧ H tp = some (.tup cs) ∧ Paired ClsV cs us ∧ PySem.W.kitAny K (.ref D) us = some b ∧ Q (.bl b) H
theorem call_isXT {cls : Value} (T : XClass X.K D) (hz : Zc cls d oe) (hf : ∃ vs, oe.data = .fields vs) :
    CallR (X.suite a ((a, oe) :: pn)) (.builtin "isinstance") (rIsXT X.K D a cls d) := by
  intro pins s σ H xs us Q I r h
  obtain ⟨dd, fs, tp, cs, ws, b, rfl, rfl, hd, rfl, hT, k, e, q⟩ := h
  obtain ⟨u1, u2, rfl, r1, r2⟩ := vals2 r
  cases (show u1 = Value.ref a from r1)
  cases (show u2 = Value.ref tp from r2)
  obtain ⟨od, J⟩ := held_at hz hf I hd
  have okT : ObjOk X.prog X.w H s.heap tp (.tup cs) := I.hok tp _ hT
  obtain ⟨_, items, vals, ob, got, isT, m, dat⟩ := okT
  have same := ClsV.all k vals
  subst same
  obtain ⟨c0, d0, dt0, s0⟩ := ob
  simp only at isT dat
  subst isT dat
  exact PySem.W.kia_tup (PySem.W.kitx_exc T.is T.ga T.gt T.sb T.ca T.gn T.tk T.mo) I.kIn J got e (fun z => nomatch z)
    fun tk => ⟨.bl b, H, I.tok tk, rfl, q⟩
end
end V3

set_option Elab.async false
set_option linter.all false
set_option maxRecDepth 100000
namespace V3
open PySem L2
def top (i : Nat) : Stmt := PySem.Challenge.pw_contrabooks_k03_moves_refused.main.body.getD i (.Pass ⟨0, 0, 0, 0⟩)
abbrev sSeed : Stmt := top 15
abbrev sChoose : Stmt := top 16
abbrev sOneOf : Stmt := top 17
/-- the box of draws: two numbers -/
def BoxOk (u v : Int) : Prop := 0 ≤ u ∧ 1 ≤ v ∧ v ≤ 2147483629
def box (u v : Int) : HO := .lst [.int u, .int v]
def BoxAt (H : Hp) (b : Addr) : Prop := ∃ u v, BoxOk u v ∧ H b = some (box u v)
def spSeed (K : PySem.W.Frag) : Sp := fun vs H Q _ => ∃ (a : Addr) (ns : List Int) (k : Int), vs = [.ref a, .int k] ∧ SqL K H a (ns.map V.int) ∧ ns.length ≤ 63 ∧ 0 ≤ k ∧ k ≤ 100 ∧
  ∀ (p : Addr) (u v : Int), H p = none → BoxOk u v → Q (.ref p) (upd H p (box u v))
def spChoose : Sp := fun vs H Q _ => ∃ (b : Addr) (u v m : Int), vs = [.ref b, .int m] ∧ H b = some (box u v) ∧ BoxOk u v ∧ 1 ≤ m ∧ m ≤ 1000000000000 ∧
  ∀ d u' v' : Int, 0 ≤ d → d < m → BoxOk u' v' → Q (.int d) (upd H b (box u' v'))
def spOneOf (K : PySem.W.Frag) : Sp := fun vs H Q _ => ∃ (b l : Addr) (u v : Int) (xs : List V), vs = [.ref b, .ref l] ∧ H b = some (box u v) ∧ BoxOk u v ∧ l ≠ b ∧ SqL K H l xs ∧ 1 ≤ xs.length ∧ xs.length ≤ 1000 ∧
  ∀ (x : V) (u' v' : Int), x ∈ xs → BoxOk u' v' → Q x (upd H b (box u' v'))
structure Blt (mg : Str → Option Value) : Prop where
  len : mg "len" = none
  abs : mg "abs" = none
  int : mg "int" = none
/-- a def that stands at a name of the module -/
def Cal (P : Program) (w : World) (K : PySem.W.Frag) (mg : Str → Option Value) (base : Heap) (CX : CXT) (name : Str) (k : Nat) (ps : List Str) (sp : Sp) : Prop :=
  ∃ (f : Addr) (fd : FuncData), FnOk P w K mg base CX k f fd ps sp ∧ mg name = some (.ref f) ∧ PySem.W.keepIn K (.ref f) = true ∧ Binds K fd ps []
theorem seqL_ne {K : PySem.W.Frag} {H : Hp} {l b : Addr} {o : HO} {xs : List V} (ne : l ≠ b) (h : SqL K H l xs) : SqL K (upd H b o) l xs := by
  rcases h with (h | ⟨o, h⟩) | h
  · exact .inl (.inl (by rw [upd_ne ne]; exact h))
  · exact .inl (.inr ⟨o, by rw [upd_ne ne]; exact h⟩)
  · exact .inr h
theorem atI_ints {ns : List Int} {i : Int} (h0 : 0 ≤ i) (hj : i.toNat < ns.length) : atI (ns.map V.int) i = some (.int ns[i.toNat]) := by
  have e : ixN (ns.map V.int).length i = some i.toNat := by
    unfold ixN
    rw [if_pos h0, if_pos (by rw [List.length_map]; omega)]
  show (ixN (ns.map V.int).length i).bind (fun j => (ns.map V.int)[j]?) = some (.int ns[i.toNat])
  rw [e]
  show (ns.map V.int)[i.toNat]? = some (.int ns[i.toNat])
  rw [List.getElem?_map, List.getElem?_eq_getElem hj]
  rfl
section
variable {P : Program} {w : World} {K : PySem.W.Frag} {mg : Str → Option Value} {base : Heap}
theorem scSeed : FnScope ["_law_script", "_law_k", "_law_cell"] ["_law_script", "_law_k"] (defScope sSeed) := ⟨rfl, rfl, rfl, by decide +kernel, rfl, by decide +kernel, by decide +kernel⟩
theorem scChoose : FnScope ["_law_box", "_law_many", "_law_digit", "_law_first"] ["_law_box", "_law_many"] (defScope sChoose) := ⟨rfl, rfl, rfl, by decide +kernel, rfl, by decide +kernel, by decide +kernel⟩
theorem scOneOf : FnScope ["_law_box", "_law_some"] ["_law_box", "_law_some"] (defScope sOneOf) := ⟨rfl, rfl, rfl, by decide +kernel, rfl, by decide +kernel, by decide +kernel⟩
theorem ok_choose {f : Addr} {fd : FuncData} (F : Fun K "_law_choose" "_law_choose" sChoose f fd) (T : Blt mg) : FnOk P w K mg base CX0 1 f fd ["_law_box", "_law_many"] spChoose := by
  refine F.ok scChoose (fun vs H Q E h => ?_) (fun cdv A outer s H vs Q E hr h => ?_)
  · obtain ⟨b, u, v, m, rfl, _⟩ := h
    rfl
  · obtain ⟨b, u, v, m, rfl, hb, ok, m1, m2, k⟩ := h
    refine ⟨_, pss_cons (ps_if (pt_cmpR op_gt (pe_ix ix_list (pv 0) pe_int (fun _ _ => rfl)) pe_int (nomark _))
        (pss_cons (ps_set (i := 2) scChoose.nd rfl (Or.inl rfl) (pe_op op_mod (pe_callTy call_int1 (by rfl) T.int (by decide +kernel) (pa_cons (pe_ix ix_list (pv 0) pe_int (fun _ _ => rfl)) pa_nil)) (pv 1)))
        (pss_cons (ps_asg (pe_op op_fdivW (pe_ix ix_list (pv 0) pe_int (fun _ _ => rfl)) (pv 1)) (pg_sub (pv 0) pe_int set_list))
        (pss_one (ps_ret (pv 2))))) pss_nil)
      (pss_cons (ps_set (i := 3) scChoose.nd rfl (Or.inl rfl) (pe_op op_mod (pe_callTy call_int1 (by rfl) T.int (by decide +kernel) (pa_cons (pe_op op_add (pe_op op_mul (pe_ix ix_list (pv 0) pe_int (fun _ _ => rfl)) pe_int) pe_int) pa_nil)) pe_int))
      (pss_cons (ps_asg (pe_op op_add (pe_op op_mod (pe_callTy call_int1 (by rfl) T.int (by decide +kernel) (pa_cons (pe_op op_add (pe_op op_mul (pv 3) pe_int) pe_int) pa_nil)) pe_int) pe_int) (pg_sub (pv 0) pe_int set_list))
      (pss_one (ps_ret (pe_op op_mod (pe_callTy call_int1 (by rfl) T.int (by decide +kernel) (pa_cons (pe_op op_fdivW (pe_op op_add (pe_op op_mul (pv 3) pe_int) (pe_ix ix_list (pv 0) pe_int (fun _ _ => rfl))) pe_int) pa_nil)) (pv 1)))))), ?_⟩
    obtain ⟨u0, v1, v2⟩ := ok
    have hm : (0 : Int) < m := by omega
    have hw : m.natAbs < 2 ^ 40 := by
      have : (2 : Nat) ^ 40 = 1099511627776 := by decide
      omega
    refine ⟨_, rfl, b, _, 0, _, rfl, rfl, SqL.of hb, rfl, _, _, rfl, rfl, _, rfl, ?_⟩
    refine ite2 (fun c => ?_) (fun c => ?_)
    · refine ⟨_, rfl, b, _, 0, _, rfl, rfl, SqL.of hb, rfl, .inl ⟨_, rfl, _, rfl, _, _, rfl, rfl, hm, ?_⟩⟩
      refine ⟨_, rfl, b, _, 0, _, rfl, rfl, SqL.of hb, rfl, _, rfl, _, _, rfl, rfl, wide_div hm hw (by decide) (by decide), ?_⟩
      refine ⟨_, rfl, b, _, 0, 0, rfl, rfl, hb, rfl, _, rfl, ?_⟩
      exact k _ _ _ (Int.emod_nonneg _ (by omega)) (Int.emod_lt_of_pos _ hm) ⟨Int.ediv_nonneg u0 (by omega), v1, v2⟩
    · refine ⟨_, rfl, b, _, 1, _, rfl, rfl, SqL.of hb, rfl, _, _, rfl, rfl, .inl (by constructor <;> omega), _, _, rfl, rfl, .inl ⟨_, rfl, _, _, rfl, rfl, (by show (0 : Int) < 2147483563; decide), ?_⟩⟩
      have a1 := Int.emod_nonneg (v * 40014 + 11) (by decide : (2147483563 : Int) ≠ 0)
      have a2 := Int.emod_lt_of_pos (v * 40014 + 11) (by decide : (0 : Int) < 2147483563)
      refine ⟨_, rfl, _, _, rfl, rfl, .inl (by constructor <;> omega), _, _, rfl, rfl, .inl ⟨_, rfl, _, _, rfl, rfl, (by show (0 : Int) < 2147483629; decide), _, _, rfl, rfl, ?_⟩⟩
      refine ⟨_, rfl, b, _, 1, 1, rfl, rfl, hb, rfl, ?_⟩
      have b1 := Int.emod_nonneg ((v * 40014 + 11) % 2147483563 * 40692 + 2903) (by decide : (2147483629 : Int) ≠ 0)
      have b2 := Int.emod_lt_of_pos ((v * 40014 + 11) % 2147483563 * 40692 + 2903) (by decide : (0 : Int) < 2147483629)
      refine ⟨_, rfl, _, _, rfl, rfl, .inl (by constructor <;> omega), _, rfl, b, _, 1, _, rfl, rfl, SqL.of upd_same, rfl, _, _, rfl, rfl, _, _, rfl, rfl, wide_div (b := 14) (by decide) (by decide) (by decide) (by decide), .inl ⟨_, rfl, _, rfl, _, _, rfl, rfl, hm, ?_⟩⟩
      exact k _ _ _ (Int.emod_nonneg _ (by omega)) (Int.emod_lt_of_pos _ hm) ⟨u0, by omega, by omega⟩
theorem ok_oneOf {f : Addr} {fd : FuncData} (F : Fun K "_law_one_of" "_law_one_of" sOneOf f fd) (T : Blt mg) (c : Cal P w K mg base CX0 "_law_choose" 1 ["_law_box", "_law_many"] spChoose) : FnOk P w K mg base CX0 2 f fd ["_law_box", "_law_some"] (spOneOf K) := by
  obtain ⟨fC, fdC, GC, mC, kC, bC⟩ := c
  refine F.ok scOneOf (fun vs H Q E h => ?_) (fun cdv A outer s H vs Q E hr h => ?_)
  · obtain ⟨b, l, u, v, xs, rfl, _⟩ := h
    rfl
  · obtain ⟨b, l, u, v, xs, rfl, hb, ok, ne, hS, x1, x2, k⟩ := h
    refine ⟨_, pss_one (ps_ret (pe_ix ix_list (pv 1) (pe_call GC hr rfl mC kC bC .nil pass0 (pa_cons (pv 0) (pa_cons (pe_callB call_len_seq (by rfl) T.len PySem.boot_len (pa_cons (pv 1) pa_nil)) pa_nil))) (fun _ _ => rfl))), ?_⟩
    refine ⟨_, rfl, _, rfl, _, rfl, l, _, rfl, .inl hS, b, u, v, _, rfl, hb, ok, (by omega), (by omega), fun d u' v' d0 d1 ok' => ?_⟩
    have hj : d.toNat < xs.length := by omega
    refine ⟨l, xs, d, xs[d.toNat], rfl, rfl, ?_, ?_, k _ _ _ (List.getElem_mem hj) ok'⟩
    · exact seqL_ne ne hS
    · have e : ixN xs.length d = some d.toNat := by
        unfold ixN
        rw [if_pos d0, if_pos (by omega)]
      show (ixN xs.length d).bind (fun j => xs[j]?) = some xs[d.toNat]
      rw [e]
      exact List.getElem?_eq_getElem hj
theorem ok_seed {f : Addr} {fd : FuncData} (F : Fun K "_law_seed" "_law_seed" sSeed f fd) (T : Blt mg) : FnOk P w K mg base CX0 1 f fd ["_law_script", "_law_k"] (spSeed K) := by
  refine F.ok scSeed (fun vs H Q E h => ?_) (fun cdv A outer s H vs Q E hr h => ?_)
  · obtain ⟨a, ns, k, rfl, _⟩ := h
    rfl
  · obtain ⟨a, ns, k, rfl, hS, hl, k0, k1, go⟩ := h
    refine ⟨_, pss_cons (ps_set (i := 2) scSeed.nd rfl (Or.inl rfl) (pe_op op_add (pe_op op_mul pe_int (pv 1)) pe_int))
      (pss_cons (ps_if (pt_cmpR op_lt (pv 1) (pe_callB call_len_seq (by rfl) T.len PySem.boot_len (pa_cons (pv 0) pa_nil)) (nomark _))
        (pss_one (ps_set (i := 2) scSeed.nd rfl (Or.inl rfl) (pe_callB call_abs (by rfl) T.abs (by decide +kernel) (pa_cons (pe_ix ix_list (pv 0) (pv 1) (fun _ _ => rfl)) pa_nil))))
        (pss_one (ps_if (pt_cmpR op_gt (pe_callB call_len_seq (by rfl) T.len PySem.boot_len (pa_cons (pv 0) pa_nil)) pe_int (nomark _))
          (pss_one (ps_set (i := 2) scSeed.nd rfl (Or.inl rfl) (pe_op op_add (pv 2) (pe_op op_mul (pe_op op_mod (pe_callTy call_int1 (by rfl) T.int (by decide +kernel) (pa_cons (pe_callB call_abs (by rfl) T.abs (by decide +kernel) (pa_cons (pe_ix ix_list (pv 0) (pe_op op_mod (pe_callTy call_int1 (by rfl) T.int (by decide +kernel) (pa_cons (pv 1) pa_nil)) (pe_callB call_len_seq (by rfl) T.len PySem.boot_len (pa_cons (pv 0) pa_nil))) (fun _ _ => rfl)) pa_nil)) pa_nil)) pe_int) pe_int))))
          pss_nil)))
      (pss_one (ps_ret (pe_lst (pa_cons (pe_ifExp (pt_cmpR op_ge (pv 2) (pe_op op_pow pe_int pe_int) (nomark _)) (pv 2) pe_int)
        (pa_cons (pe_op op_add (pe_op op_mod (pe_callTy call_int1 (by rfl) T.int (by decide +kernel) (pa_cons (pe_op op_add (pe_op op_mul (pe_op op_mod (pe_callTy call_int1 (by rfl) T.int (by decide +kernel) (pa_cons (pv 2) pa_nil)) pe_int) pe_int) (pe_op op_mul pe_int (pv 1))) pa_nil)) pe_int) pe_int) pa_nil)))))), ?_⟩
    have hk1 : -(2 ^ 64) < (7411 : Int) ∧ (7411 : Int) < 2 ^ 64 := by constructor <;> decide
    refine ⟨_, rfl, _, _, rfl, rfl, .inl hk1, _, _, rfl, rfl, ?_⟩
    refine ⟨_, rfl, _, rfl, a, _, rfl, .inl hS, _, _, rfl, rfl, _, rfl, ?_⟩
    rw [List.length_map]
    refine ite2 (fun c => ?wayA) (fun c => ?wayB)
    case' wayA =>
      have c' : k < (ns.length : Int) := of_decide_eq_true c
      have hj : k.toNat < ns.length := by omega
      refine ⟨_, rfl, _, rfl, a, _, k, .int ns[k.toNat], rfl, rfl, hS, atI_ints k0 hj, _, rfl, ?_⟩
      have hc : 0 ≤ (if ns[k.toNat] < 0 then -ns[k.toNat] else ns[k.toNat]) := by split <;> omega
      generalize (if ns[k.toNat] < 0 then -ns[k.toNat] else ns[k.toNat]) = cell at hc
    case' wayB =>
      refine ⟨_, rfl, a, _, rfl, .inl hS, _, _, rfl, rfl, _, rfl, ?_⟩
      rw [List.length_map]
      refine ite2 (fun c2 => ?wayC) (fun c2 => ?wayD)
    case' wayC =>
      have c' : (0 : Int) < (ns.length : Int) := of_decide_eq_true c2
      have r0 := Int.emod_nonneg k (show (ns.length : Int) ≠ 0 by omega)
      have r1 := Int.emod_lt_of_pos k c'
      have hj : (k % (ns.length : Int)).toNat < ns.length := by omega
      refine ⟨_, rfl, _, rfl, _, rfl, .inl ⟨_, rfl, _, rfl, a, _, rfl, .inl hS, _, _, rfl, rfl, (by rw [List.length_map]; exact c'), ?_⟩⟩
      rw [List.length_map]
      refine ⟨a, _, k % (ns.length : Int), .int ns[(k % (ns.length : Int)).toNat], rfl, rfl, hS, atI_ints r0 hj, _, rfl, .inl ⟨_, rfl, _, _, rfl, rfl, (by show (0 : Int) < 2147483629; decide), _, _, rfl, rfl, .inr (by constructor <;> decide), _, _, rfl, rfl, ?_⟩⟩
      generalize (if ns[(k % (ns.length : Int)).toNat] < 0 then -ns[(k % (ns.length : Int)).toNat] else ns[(k % (ns.length : Int)).toNat]) = z
      have z0 := Int.emod_nonneg z (by decide : (2147483629 : Int) ≠ 0)
      have hc : 0 ≤ 7411 * k + 29 + z % 2147483629 * 40093 := by omega
      generalize 7411 * k + 29 + z % 2147483629 * 40093 = cell at hc
    case' wayD =>
      have hc : 0 ≤ 7411 * k + 29 := by omega
      generalize 7411 * k + 29 = cell at hc
    all_goals (
      refine ⟨_, rfl, _, _, rfl, rfl, ⟨by decide, by decide, by decide⟩, _, _, rfl, rfl, _, rfl, ?_⟩
      have e1 := Int.emod_nonneg cell (by decide : (2147483629 : Int) ≠ 0)
      have e2 := Int.emod_lt_of_pos cell (by decide : (0 : Int) < 2147483629)
      have f1 := Int.emod_nonneg (cell % 2147483629 * 48271 + 20021 * k) (by decide : (2147483629 : Int) ≠ 0)
      have f2 := Int.emod_lt_of_pos (cell % 2147483629 * 48271 + 20021 * k) (by decide : (0 : Int) < 2147483629)
      refine ite2 (fun _ => ⟨_, rfl, ?_⟩) (fun _ => ?_)
      all_goals (
        refine ⟨_, rfl, .inl ⟨_, rfl, _, _, rfl, rfl, (by show (0 : Int) < 2147483629; decide), _, _, rfl, rfl, .inl (by constructor <;> omega), _, rfl, _, _, rfl, rfl, .inl (by constructor <;> decide), _, _, rfl, rfl, .inl ⟨_, rfl, _, _, rfl, rfl, (by show (0 : Int) < 2147483629; decide), _, _, rfl, rfl, (by show 2 ≤ sizeLine; decide), fun p hp => ?_⟩⟩⟩
        exact go p _ _ hp ⟨by omega, by omega, by omega⟩))
end
end V3

set_option Elab.async false
set_option linter.all false
set_option maxRecDepth 100000
namespace V3
open PySem L2
abbrev sIsInt : Stmt := top 1
abbrev sIsNum : Stmt := top 2
abbrev sIsAmt : Stmt := top 3
abbrev sImInit : Stmt := inClass (top 6) 0
abbrev sBInit : Stmt := inClass (top 11) 0
abbrev sBStr : Stmt := inClass (top 11) 2
abbrev sTInit : Stmt := inClass (top 12) 0
abbrev sTStr : Stmt := inClass (top 12) 2
abbrev sRInit : Stmt := inClass (top 13) 0
abbrev sRStr : Stmt := inClass (top 13) 2
/-- any value: none of it too great -/
inductive AV (H : Hp) : V → Prop where
  | non : AV H .non
  | bl (b : Bool) : AV H (.bl b)
  | int (i : Int) (h : i.natAbs ≤ 1000000000000) : AV H (.int i)
  | str (z : Str) : AV H (.str z)
  | lst {a : Addr} {xs : List V} (h : H a = some (.lst xs)) : AV H (.ref a)
  | tup {a : Addr} {xs : List V} (h : H a = some (.tup xs)) : AV H (.ref a)
theorem AV.same {H H' : Hp} {v : V} (h : AV H v) (s : Same H H') : AV H' v := by
  cases h with
  | non => exact .non
  | bl b => exact .bl b
  | int i h => exact .int i h
  | str z => exact .str z
  | lst h => exact .lst (s _ _ h)
  | tup h => exact .tup (s _ _ h)
def isNum : V → Int → Bool
  | .int i, n => decide (n ≤ i)
  | _, _ => false
def isI : V → Bool
  | .int _ => true
  | .bl _ => true
  | _ => false
def isB : V → Bool
  | .bl _ => true
  | _ => false
theorem av_ty {K : PySem.W.Frag} {H : Hp} {v : V} (h : AV H v) : ∃ t, TyX K H v t ∧ PySem.W.kitOne K t (.type "int") = some (isI v) ∧ PySem.W.kitOne K t (.type "bool") = some (isB v) := by
  cases h with
  | non => exact ⟨_, .base .non, (show PySem.W.kitOne K (.type "NoneType") (.type "int") = some false from kit_ty (by decide +kernel)), (show PySem.W.kitOne K (.type "NoneType") (.type "bool") = some false from kit_ty (by decide +kernel))⟩
  | bl b => exact ⟨_, .base (.bl b), (show PySem.W.kitOne K (.type "bool") (.type "int") = some true from kit_ty (by decide +kernel)), (show PySem.W.kitOne K (.type "bool") (.type "bool") = some true from kit_ty (by decide +kernel))⟩
  | int i h => exact ⟨_, .base (.int i), (show PySem.W.kitOne K (.type "int") (.type "int") = some true from kit_ty (by decide +kernel)), (show PySem.W.kitOne K (.type "int") (.type "bool") = some false from kit_ty (by decide +kernel))⟩
  | str z => exact ⟨_, .base (.str z), (show PySem.W.kitOne K (.type "str") (.type "int") = some false from kit_ty (by decide +kernel)), (show PySem.W.kitOne K (.type "str") (.type "bool") = some false from kit_ty (by decide +kernel))⟩
  | lst h => exact ⟨_, .base (.lst h), (show PySem.W.kitOne K (.type "list") (.type "int") = some false from kit_ty (by decide +kernel)), (show PySem.W.kitOne K (.type "list") (.type "bool") = some false from kit_ty (by decide +kernel))⟩
  | tup h => exact ⟨_, .base (.tup h), (show PySem.W.kitOne K (.type "tuple") (.type "int") = some false from kit_ty (by decide +kernel)), (show PySem.W.kitOne K (.type "tuple") (.type "bool") = some false from kit_ty (by decide +kernel))⟩
theorem num_of {v : V} {n : Int} (h : isNum v n = true) : ∃ i : Int, v = .int i ∧ n ≤ i := by
  cases v with
  | int i => exact ⟨i, rfl, of_decide_eq_true h⟩
  | _ => cases h
structure BltB (mg : Str → Option Value) : Prop where
  isi : mg "isinstance" = none
  int : mg "int" = none
  bool : mg "bool" = none
def isIntV : V → Bool
  | .int _ => true
  | _ => false
def spInt : Sp := fun vs H Q _ => ∃ v, vs = [v] ∧ AV H v ∧ Q (.bl (isIntV v)) H
def spNum : Sp := fun vs H Q _ => ∃ v, vs = [v] ∧ AV H v ∧ Q (.bl (isNum v 0)) H
def spAmt : Sp := fun vs H Q _ => ∃ v, vs = [v] ∧ AV H v ∧ Q (.bl (isNum v 1)) H
section
variable {P : Program} {w : World} {K : PySem.W.Frag} {mg : Str → Option Value} {base : Heap}
theorem scIsNum : FnScope ["value"] ["value"] (defScope sIsNum) := ⟨rfl, rfl, rfl, by decide +kernel, rfl, by decide +kernel, by decide +kernel⟩
theorem scIsAmt : FnScope ["value"] ["value"] (defScope sIsAmt) := ⟨rfl, rfl, rfl, by decide +kernel, rfl, by decide +kernel, by decide +kernel⟩
theorem scIsInt : FnScope ["value"] ["value"] (defScope sIsInt) := ⟨rfl, rfl, rfl, by decide +kernel, rfl, by decide +kernel, by decide +kernel⟩
theorem ok_isInt {f : Addr} {fd : FuncData} (F : Fun K "is_integer" "is_integer" sIsInt f fd) (T : BltB mg) : FnOk P w K mg base CX0 1 f fd ["value"] spInt := by
  refine F.ok scIsInt (fun vs H Q E h => ?_) (fun cdv A outer s H vs Q E hr h => ?_)
  · obtain ⟨v, rfl, _⟩ := h
    rfl
  · obtain ⟨v, rfl, av, q⟩ := h
    obtain ⟨t, ty, k1, k2⟩ := av_ty (K := K) av
    refine ⟨_, pss_one (ps_ret (pe_and (pe_callB call_isi (by rfl) T.isi (by decide +kernel) (pa_cons (pv 0) (pa_cons (pe_bltn (v := .ty "int") (by rfl) T.int (by decide +kernel) rfl) pa_nil)))
      (pe_one (pe_not (pe_callB call_isi (by rfl) T.isi (by decide +kernel) (pa_cons (pv 0) (pa_cons (pe_bltn (v := .ty "bool") (by rfl) T.bool (by decide +kernel) rfl) pa_nil))))))), ?_⟩
    refine ⟨_, rfl, _, _, t, _, _, rfl, .ty "int", ty, k1, _, rfl, ?_⟩
    cases v with
    | int i =>
      refine iteT ?_
      exact ⟨_, rfl, _, _, t, _, _, rfl, .ty "bool", ty, k2, _, rfl, q⟩
    | bl b =>
      refine iteT ?_
      exact ⟨_, rfl, _, _, t, _, _, rfl, .ty "bool", ty, k2, _, rfl, q⟩
    | non => exact iteF q
    | str z => exact iteF q
    | ref a => exact iteF q
    | byt z => exact iteF q
    | flt z => exact iteF q
    | ty z => exact iteF q
theorem ok_isNum {f : Addr} {fd : FuncData} (F : Fun K "is_number" "is_number" sIsNum f fd) (c : Cal P w K mg base CX0 "is_integer" 1 ["value"] spInt) : FnOk P w K mg base CX0 2 f fd ["value"] spNum := by
  obtain ⟨fI, fdI, GI, mI, kI, bI⟩ := c
  refine F.ok scIsNum (fun vs H Q E h => ?_) (fun cdv A outer s H vs Q E hr h => ?_)
  · obtain ⟨v, rfl, _⟩ := h
    rfl
  · obtain ⟨v, rfl, av, q⟩ := h
    refine ⟨_, pss_one (ps_ret (pe_and (pe_call GI hr rfl mI kI bI .nil pass0 (pa_cons (pv 0) pa_nil)) (pe_one (pe_cmpR op_ge (pv 0) pe_int (nomark _))))), ?_⟩
    refine ⟨_, rfl, v, rfl, av, _, rfl, ?_⟩
    cases v with
    | int i => exact iteT ⟨_, rfl, _, _, rfl, rfl, q⟩
    | bl b => exact iteF q
    | non => exact iteF q
    | str z => exact iteF q
    | ref a => exact iteF q
    | byt z => exact iteF q
    | flt z => exact iteF q
    | ty z => exact iteF q
theorem ok_isAmt {f : Addr} {fd : FuncData} (F : Fun K "is_amount" "is_amount" sIsAmt f fd) (c : Cal P w K mg base CX0 "is_number" 2 ["value"] spNum) : FnOk P w K mg base CX0 3 f fd ["value"] spAmt := by
  obtain ⟨fN, fdN, GN, mN, kN, bN⟩ := c
  refine F.ok scIsAmt (fun vs H Q E h => ?_) (fun cdv A outer s H vs Q E hr h => ?_)
  · obtain ⟨v, rfl, _⟩ := h
    rfl
  · obtain ⟨v, rfl, av, q⟩ := h
    refine ⟨_, pss_one (ps_ret (pe_and (pe_call GN hr rfl mN kN bN .nil pass0 (pa_cons (pv 0) pa_nil)) (pe_one (pe_cmpR op_gt (pv 0) pe_int (nomark _))))), ?_⟩
    refine ⟨_, rfl, v, rfl, av, _, rfl, ?_⟩
    cases e : isNum v 0 with
    | false =>
      refine iteF ?_
      have z : isNum v 1 = false := by
        cases v with
        | int i =>
          have h1 : ¬ (0 : Int) ≤ i := of_decide_eq_false e
          exact decide_eq_false (by omega)
        | _ => rfl
      rw [z] at q
      exact q
    | true =>
      obtain ⟨i, rfl, hi⟩ := num_of e
      refine iteT ⟨_, rfl, _, _, rfl, rfl, ?_⟩
      have z : isNum (.int i) 1 = decide (0 < i) := by
        show decide (1 ≤ i) = decide (0 < i)
        by_cases c : 0 < i
        · rw [decide_eq_true c, decide_eq_true (show 1 ≤ i by omega)]
        · rw [decide_eq_false c, decide_eq_false (show ¬ 1 ≤ i by omega)]
      rw [z] at q
      exact q
end
end V3

set_option Elab.async false
set_option linter.all false
set_option maxRecDepth 100000
namespace V3
open PySem L2
/-! the error -/
def spIM (C : Addr) : Sp := fun vs H Q _ => ∃ (a : Addr) (y : V), vs = [.ref a, y] ∧ H a = some (exo a C none) ∧
  ∀ d, H d = none → d ≠ a → Q .non (upd (upd H d (exd d [("word", y)])) a (exo a C (some d)))
/-- what the module says of InvalidMove -/
structure ImTxt (P : Program) (w : World) (K : PySem.W.Frag) (mg : Str → Option Value) (base : Heap) (C : Addr) : Prop where
  g : mg "InvalidMove" = some (.ref C)
  o : OexC K C
  no : PySem.W.findIn K (.ref C) "word" = some none
  ini : ∃ (f : Addr) (fd : FuncData), FnOk P w K mg base CX0 1 f fd ["self", "word"] (spIM C) ∧ PySem.W.findIn K (.ref C) "__init__" = some (some (.ref f)) ∧ PySem.W.typeIn K (.ref f) = some (.type "function") ∧ Binds K fd ["self", "word"] []
/-- behind a raise: an error with the word, all else as it was -/
def Er (C : Addr) (H : Hp) (E : XK) (word : Str) : Prop := ∀ (d : Addr) (H' : Hp), Same H H' → H' d = some (.xd [("word", .str word)]) → E (.ref C) (some d) H'
section
variable {P : Program} {w : World} {K : PySem.W.Frag} {mg : Str → Option Value} {base : Heap}
theorem scImInit : FnScope ["self", "word"] ["self", "word"] (defScope sImInit) := ⟨rfl, rfl, rfl, by decide +kernel, rfl, by decide +kernel, by decide +kernel⟩
theorem ok_imInit {f C : Addr} {fd : FuncData} (F : Fun K "__init__" "InvalidMove.__init__" sImInit f fd) (o : OexC K C) (no : PySem.W.findIn K (.ref C) "word" = some none) : FnOk P w K mg base CX0 1 f fd ["self", "word"] (spIM C) := by
  refine F.ok scImInit (fun vs H Q E h => ?_) (fun cdv A outer s H vs Q E hr h => ?_)
  · obtain ⟨a, y, rfl, _⟩ := h
    rfl
  · obtain ⟨a, y, rfl, ha, q⟩ := h
    refine ⟨_, pss_one (ps_ost (pv 0) (pv 1)), ?_⟩
    exact ⟨_, rfl, _, rfl, a, C, rfl, o, no, .inl ⟨ha, fun dx h1 h2 => q dx h1 h2⟩⟩
theorem raise_same {H : Hp} {a d : Addr} {o1 o2 o3 o4 : HO} (na : H a = none) (nd : upd H a o1 d = none) (ne : d ≠ a) : Same H (upd (del (upd (upd (upd H a o1) d o2) a o3) a) d o4) := by
  intro b o e
  have ba : b ≠ a := fun z => by
    rw [z, na] at e
    cases e
  have hd : H d = none := by
    rw [upd_ne ne] at nd
    exact nd
  have bd : b ≠ d := fun z => by
    rw [z, hd] at e
    cases e
  rw [upd_ne bd, del_ne ba, upd_ne ba, upd_ne bd, upd_ne ba]
  exact e
/-- raise InvalidMove("..") in a def's own frame -/
theorem er_read {C : Addr} {H : Hp} {E : XK} {word : Str} (h : Er C H E word) : ∀ a, H a = none → spIM C (.ref a :: ([V.str word] ++ [])) (upd H a (exo a C none))
    (fun v H2 => v = .non ∧ ∃ (d : Addr) (fs : List (Str × V)), H2 a = some (exo a C (some d)) ∧ H2 d = some (exd d fs) ∧ H d = none ∧ E (.ref C) (some d) (upd (del H2 a) d (.xd fs))) (fun _ _ _ => False) := by
  intro a na
  refine ⟨a, _, rfl, upd_same, fun d nd ne => ⟨rfl, d, [("word", .str word)], upd_same, ?_, ?_, ?_⟩⟩
  · rw [upd_ne ne]
    exact upd_same
  · rw [upd_ne ne] at nd
    exact nd
  · exact h d _ (raise_same na nd ne) upd_same
/-! Begin -/
def spBegin (C CM : Addr) : Sp := fun vs H Q E => ∃ (x dx : Addr) (v : V), vs = [.ref x, v] ∧ H x = some (.ins C dx []) ∧ AV H v ∧
  (isNum v 1 = true → Q .non (upd H x (.ins C dx [("amount", v)]))) ∧ (isNum v 1 = false → Er CM H E "amount")
theorem scBInit : FnScope ["self", "amount"] ["self", "amount"] (defScope sBInit) := ⟨rfl, rfl, rfl, by decide +kernel, rfl, by decide +kernel, by decide +kernel⟩
abbrev CalNum (P : Program) (w : World) (K : PySem.W.Frag) (mg : Str → Option Value) (base : Heap) : Prop := Cal P w K mg base CX0 "is_number" 2 ["value"] spNum
abbrev CalAmt (P : Program) (w : World) (K : PySem.W.Frag) (mg : Str → Option Value) (base : Heap) : Prop := Cal P w K mg base CX0 "is_amount" 3 ["value"] spAmt
theorem ok_bInit {f C CM : Addr} {fd : FuncData} (F : Fun K "__init__" "Begin.__init__" sBInit f fd) (cl : Cls K C) (nA : NoAttr K C "amount") (cA : CalAmt P w K mg base) (M : ImTxt P w K mg base CM) : FnOk P w K mg base (L2.CX P w) 4 f fd ["self", "amount"] (spBegin C CM) := by
  obtain ⟨fA, fdA, GA, mA, kA, bA⟩ := cA
  obtain ⟨fI, fdI, GI, iI, tI, bI⟩ := M.ini
  refine F.okX scBInit (fun vs H Q E h => ?_) (fun cdv A outer s H vs Q E hr h => ?_)
  · obtain ⟨x, dx, v, rfl, _⟩ := h
    rfl
  · obtain ⟨x, dx, v, rfl, hx, av, q1, q2⟩ := h
    refine ⟨_, pss_cons (ps_if (pt_not (pt_val (pe_call GA hr rfl mA kA bA .nil pass0 (pa_cons (pv 1) pa_nil)))) (pss_one (ps_raise rfl (takes_of rfl rfl rfl rfl) (pmk_oex M.o iI tI GI (hr.mono (by decide)) bI .nil pass0 rfl M.g (by exact (pa_cons pe_str pa_nil))))) pss_nil)
      (pss_one (ps_fld (pv 0) (pv 1) rfl)), ?_⟩
    refine ⟨_, rfl, v, rfl, av, _, rfl, ?_⟩
    cases e : isNum v 1 with
    | true => exact iteF ⟨_, rfl, _, rfl, x, C, dx, _, rfl, hx, cl, nA, (by show 0 < 1000; decide), q1 e⟩
    | false => exact iteT ⟨(by show 1 ≤ 1000; decide), er_read (q2 e)⟩
/-! Take, Right -/
def two (a v : V) : List (Str × V) := [("at", a), ("amount", v)]
theorem ne_at : ¬ (("at" : Str) = "amount") := by decide +kernel
theorem put_two (a v : V) : putF "amount" v (putF "at" a []) = two a v := by
  show (if ("at" : Str) = "amount" then [(("at" : Str), v)] else (("at" : Str), a) :: putF "amount" v []) = two a v
  rw [if_neg ne_at]
  rfl
theorem two_at (a v : V) : (two a v).lookup ("at" : Str) = some a := by
  rw [← put_two, lookup_putF, if_neg ne_at, lookup_putF, if_pos rfl]
theorem two_am (a v : V) : (two a v).lookup ("amount" : Str) = some v := by
  rw [← put_two, lookup_putF, if_pos rfl]
def spTake (C CM : Addr) : Sp := fun vs H Q E => ∃ (x dx : Addr) (a v : V), vs = [.ref x, a, v] ∧ H x = some (.ins C dx []) ∧ AV H a ∧ AV H v ∧
  (isNum a 0 = true → (v = .non ∨ isNum v 1 = true) → Q .non (upd H x (.ins C dx (two a v)))) ∧ (isNum a 0 = false → Er CM H E "at") ∧
  (isNum a 0 = true → ¬ v = .non → isNum v 1 = false → Er CM H E "amount")
def spRight (C CM : Addr) : Sp := fun vs H Q E => ∃ (x dx : Addr) (a v : V), vs = [.ref x, a, v] ∧ H x = some (.ins C dx []) ∧ AV H a ∧ AV H v ∧
  (isNum a 0 = true → isNum v 1 = true → Q .non (upd H x (.ins C dx (two a v)))) ∧ (isNum a 0 = false → Er CM H E "at") ∧
  (isNum a 0 = true → isNum v 1 = false → Er CM H E "amount")
theorem scTInit : FnScope ["self", "at", "amount"] ["self", "at", "amount"] (defScope sTInit) := ⟨rfl, rfl, rfl, by decide +kernel, rfl, by decide +kernel, by decide +kernel⟩
theorem scRInit : FnScope ["self", "at", "amount"] ["self", "at", "amount"] (defScope sRInit) := ⟨rfl, rfl, rfl, by decide +kernel, rfl, by decide +kernel, by decide +kernel⟩
theorem ok_tInit {f C CM : Addr} {fd : FuncData} {dvs : List V} (F : FunD K "__init__" "Take.__init__" (defArgs sTInit) (defBody sTInit) (defScope sTInit) dvs [] f fd) (cl : Cls K C) (nT : NoAttr K C "at") (nA : NoAttr K C "amount") (cN : CalNum P w K mg base) (cA : CalAmt P w K mg base) (M : ImTxt P w K mg base CM) : FnOk P w K mg base (L2.CX P w) 4 f fd ["self", "at", "amount"] (spTake C CM) := by
  obtain ⟨fN, fdN, GN, mN, kN, bN⟩ := cN
  obtain ⟨fA, fdA, GA, mA, kA, bA⟩ := cA
  obtain ⟨fI, fdI, GI, iI, tI, bI⟩ := M.ini
  refine F.ok scTInit (fun vs H Q E h => ?_) (fun cdv A outer s H vs Q E hr h => ?_)
  · obtain ⟨x, dx, a, v, rfl, _⟩ := h
    rfl
  · obtain ⟨x, dx, a, v, rfl, hx, aa, av, q1, q2, q3⟩ := h
    refine ⟨_, pss_cons (ps_if (pt_not (pt_val (pe_call GN (hr.mono (by decide)) rfl mN kN bN .nil pass0 (pa_cons (pv 1) pa_nil)))) (pss_one (ps_raise rfl (takes_of rfl rfl rfl rfl) (pmk_oex M.o iI tI GI (hr.mono (by decide)) bI .nil pass0 rfl M.g (by exact (pa_cons pe_str pa_nil))))) pss_nil)
      (pss_cons (ps_if (PW.pt (pw_and (pt_cmpR op_notN (pv 2) pe_non (nomark _)) (pw_and1 (pt_not (pt_val (pe_call GA hr rfl mA kA bA .nil pass0 (pa_cons (pv 2) pa_nil))))))) (pss_one (ps_raise rfl (takes_of rfl rfl rfl rfl) (pmk_oex M.o iI tI GI (hr.mono (by decide)) bI .nil pass0 rfl M.g (by exact (pa_cons pe_str pa_nil))))) pss_nil)
      (pss_cons (ps_fld (pv 0) (pv 1) rfl) (pss_one (ps_fld (pv 0) (pv 2) rfl)))), ?_⟩
    refine ⟨_, rfl, a, rfl, aa, _, rfl, ?_⟩
    cases e : isNum a 0 with
    | false => exact iteT ⟨(by show 1 ≤ 1000; decide), er_read (q2 e)⟩
    | true =>
      have stores : (v = .non ∨ isNum v 1 = true) → Q .non (upd (upd H x (.ins C dx (putF "at" a []))) x (.ins C dx (putF "amount" v (putF "at" a [])))) := fun z => by
        rw [upd_upd, put_two]
        exact q1 e z
      refine iteF ⟨_, rfl, rfl, _, rfl, ?_⟩
      by_cases c : v = .non
      · rw [decide_eq_true c]
        exact iteF (iteF ⟨_, rfl, _, rfl, x, C, dx, _, rfl, hx, cl, nT, (by show 0 < 1000; decide), _, rfl, _, rfl, x, C, dx, _, rfl, upd_same, cl, nA, (by show 1 < 1000; decide), stores (.inl c)⟩)
      · rw [decide_eq_false c]
        refine iteT ⟨_, rfl, v, rfl, av, _, rfl, ?_⟩
        cases e2 : isNum v 1 with
        | false => exact iteT ⟨(by show 1 ≤ 1000; decide), er_read (q3 e c e2)⟩
        | true => exact iteF ⟨_, rfl, _, rfl, x, C, dx, _, rfl, hx, cl, nT, (by show 0 < 1000; decide), _, rfl, _, rfl, x, C, dx, _, rfl, upd_same, cl, nA, (by show 1 < 1000; decide), stores (.inr e2)⟩
theorem ok_rInit {f C CM : Addr} {fd : FuncData} (F : Fun K "__init__" "Right.__init__" sRInit f fd) (cl : Cls K C) (nT : NoAttr K C "at") (nA : NoAttr K C "amount") (cN : CalNum P w K mg base) (cA : CalAmt P w K mg base) (M : ImTxt P w K mg base CM) : FnOk P w K mg base (L2.CX P w) 4 f fd ["self", "at", "amount"] (spRight C CM) := by
  obtain ⟨fN, fdN, GN, mN, kN, bN⟩ := cN
  obtain ⟨fA, fdA, GA, mA, kA, bA⟩ := cA
  obtain ⟨fI, fdI, GI, iI, tI, bI⟩ := M.ini
  refine F.okX scRInit (fun vs H Q E h => ?_) (fun cdv A outer s H vs Q E hr h => ?_)
  · obtain ⟨x, dx, a, v, rfl, _⟩ := h
    rfl
  · obtain ⟨x, dx, a, v, rfl, hx, aa, av, q1, q2, q3⟩ := h
    refine ⟨_, pss_cons (ps_if (pt_not (pt_val (pe_call GN (hr.mono (by decide)) rfl mN kN bN .nil pass0 (pa_cons (pv 1) pa_nil)))) (pss_one (ps_raise rfl (takes_of rfl rfl rfl rfl) (pmk_oex M.o iI tI GI (hr.mono (by decide)) bI .nil pass0 rfl M.g (by exact (pa_cons pe_str pa_nil))))) pss_nil)
      (pss_cons (ps_if (pt_not (pt_val (pe_call GA hr rfl mA kA bA .nil pass0 (pa_cons (pv 2) pa_nil)))) (pss_one (ps_raise rfl (takes_of rfl rfl rfl rfl) (pmk_oex M.o iI tI GI (hr.mono (by decide)) bI .nil pass0 rfl M.g (by exact (pa_cons pe_str pa_nil))))) pss_nil)
      (pss_cons (ps_fld (pv 0) (pv 1) rfl) (pss_one (ps_fld (pv 0) (pv 2) rfl)))), ?_⟩
    refine ⟨_, rfl, a, rfl, aa, _, rfl, ?_⟩
    cases e : isNum a 0 with
    | false => exact iteT ⟨(by show 1 ≤ 1000; decide), er_read (q2 e)⟩
    | true =>
      refine iteF ⟨_, rfl, v, rfl, av, _, rfl, ?_⟩
      cases e2 : isNum v 1 with
      | false => exact iteT ⟨(by show 1 ≤ 1000; decide), er_read (q3 e e2)⟩
      | true =>
        have stores : Q .non (upd (upd H x (.ins C dx (putF "at" a []))) x (.ins C dx (putF "amount" v (putF "at" a [])))) := by
          rw [upd_upd, put_two]
          exact q1 e e2
        exact iteF ⟨_, rfl, _, rfl, x, C, dx, _, rfl, hx, cl, nT, (by show 0 < 1000; decide), _, rfl, _, rfl, x, C, dx, _, rfl, upd_same, cl, nA, (by show 1 < 1000; decide), stores⟩
/-! the texts -/
def num (i : Int) : Str := Str.ofString (toString i)
def Am (i : Int) : Prop := i.natAbs ≤ 1000000000000
theorem am_log {i : Int} (h : Am i) : i.natAbs.log2 < 1920 := Nat.lt_of_lt_of_le (PySem.Flt.log2_lt_of (k := 40) (by decide) (by
  have : (2 : Nat) ^ 40 = 1099511627776 := by decide
  unfold Am at h
  omega)) (by decide)
theorem num_len {i : Int} (h : Am i) : (num i).length ≤ 1921 := PyProof.Rows.int_text_len_1921 (am_log h)
theorem app_len (x y : Str) : (x ++ y).length = x.length + y.length := PySem.Str.length_append x y
def bText (i : Int) : Str := Str.empty ++ "begin " ++ num i
def tText (i : Int) : Str := Str.empty ++ "take " ++ num i
def tbText (i j : Int) : Str := Str.empty ++ "take " ++ num i ++ " by " ++ num j
def rText (i j : Int) : Str := Str.empty ++ "right " ++ num i ++ " to " ++ num j
def spBStr (C : Addr) : Sp := fun vs H Q _ => ∃ (x dx : Addr) (i : Int), vs = [.ref x] ∧ H x = some (.ins C dx [("amount", .int i)]) ∧ Am i ∧ Q (.str (bText i)) H
def spTStr (C : Addr) : Sp := fun vs H Q _ => ∃ (x dx : Addr) (i : Int) (v : V), vs = [.ref x] ∧ H x = some (.ins C dx (two (.int i) v)) ∧ Am i ∧
  ((v = .non ∧ Q (.str (tText i)) H) ∨ ∃ j, v = .int j ∧ Am j ∧ Q (.str (tbText i j)) H)
def spRStr (C : Addr) : Sp := fun vs H Q _ => ∃ (x dx : Addr) (i j : Int), vs = [.ref x] ∧ H x = some (.ins C dx (two (.int i) (.int j))) ∧ Am i ∧ Am j ∧ Q (.str (rText i j)) H
theorem scBStr : FnScope ["self"] ["self"] (defScope sBStr) := ⟨rfl, rfl, rfl, by decide +kernel, rfl, by decide +kernel, by decide +kernel⟩
theorem scTStr : FnScope ["self"] ["self"] (defScope sTStr) := ⟨rfl, rfl, rfl, by decide +kernel, rfl, by decide +kernel, by decide +kernel⟩
theorem scRStr : FnScope ["self"] ["self"] (defScope sRStr) := ⟨rfl, rfl, rfl, by decide +kernel, rfl, by decide +kernel, by decide +kernel⟩
theorem small {n : Nat} (h : n ≤ 10000) : n ≤ sizeLine := Nat.le_trans h (by decide)
theorem ok_bStr {f C : Addr} {fd : FuncData} (F : Fun K "__str__" "Begin.__str__" sBStr f fd) (cl : Cls K C) (nA : NoAttr K C "amount") : FnOk P w K mg base CX0 1 f fd ["self"] (spBStr C) := by
  refine F.ok scBStr (fun vs H Q E h => ?_) (fun cdv A outer s H vs Q E hr h => ?_)
  · obtain ⟨x, dx, i, rfl, _⟩ := h
    rfl
  · obtain ⟨x, dx, i, rfl, hx, am, q⟩ := h
    have l := num_len am
    refine ⟨_, pss_one (ps_ret (pe_joined (.cons pe_str (.cons (pe_fmt (pe_fld (pv 0) rfl)) .nil)))), ?_⟩
    have e1 : ("begin " : Str).length = 6 := by decide +kernel
    have e0 : (Str.empty).length = 0 := rfl
    refine ⟨_, rfl, small (by rw [app_len, e1, e0]; decide), _, rfl, x, C, dx, _, _, rfl, hx, cl, nA, rfl, .inr ⟨i, rfl, am_log am, _, rfl, small ?_, q⟩⟩
    show (Str.empty ++ "begin " ++ num i).length ≤ 10000
    rw [app_len, app_len, e1, e0]
    omega
end
end V3

set_option Elab.async false
set_option linter.all false
set_option maxRecDepth 100000
namespace V3
open PySem L2
abbrev sAny : Stmt := top 18
abbrev sRefused : Stmt := top 19
abbrev sLawNum : Stmt := top 20
abbrev sLaw : Stmt := top 21
section
variable {P : Program} {w : World} {K : PySem.W.Frag} {mg : Str → Option Value} {base : Heap}
theorem ok_tStr {f C : Addr} {fd : FuncData} (F : Fun K "__str__" "Take.__str__" sTStr f fd) (cl : Cls K C) (nT : NoAttr K C "at") (nA : NoAttr K C "amount") : FnOk P w K mg base CX0 1 f fd ["self"] (spTStr C) := by
  refine F.ok scTStr (fun vs H Q E h => ?_) (fun cdv A outer s H vs Q E hr h => ?_)
  · obtain ⟨x, dx, i, v, rfl, _⟩ := h
    rfl
  · obtain ⟨x, dx, i, v, rfl, hx, am, q⟩ := h
    have l := num_len am
    have e1 : ("take " : Str).length = 5 := by decide +kernel
    have e2 : (" by " : Str).length = 4 := by decide +kernel
    have e0 : (Str.empty).length = 0 := rfl
    refine ⟨_, pss_cons (ps_if (pt_cmpR op_isN (pe_fld (pv 0) rfl) pe_non (nomark _)) (pss_one (ps_ret (pe_joined (.cons pe_str (.cons (pe_fmt (pe_fld (pv 0) rfl)) .nil))))) pss_nil)
      (pss_one (ps_ret (pe_joined (.cons pe_str (.cons (pe_fmt (pe_fld (pv 0) rfl)) (.cons pe_str (.cons (pe_fmt (pe_fld (pv 0) rfl)) .nil))))))), ?_⟩
    refine ⟨_, rfl, x, C, dx, _, _, rfl, hx, cl, nA, two_am _ _, rfl, _, rfl, ?_⟩
    have l1 : (Str.empty ++ "take " ++ num i).length ≤ 5000 := by
      rw [app_len, app_len, e1, e0]
      omega
    rcases q with ⟨rfl, q⟩ | ⟨j, rfl, aj, q⟩
    · rw [decide_eq_true rfl]
      exact iteT ⟨_, rfl, small (by rw [app_len, e1, e0]; decide), _, rfl, x, C, dx, _, _, rfl, hx, cl, nT, two_at _ _, .inr ⟨i, rfl, am_log am, _, rfl, small (Nat.le_trans l1 (by decide)), q⟩⟩
    · rw [decide_eq_false (fun z => nomatch z)]
      have lj := num_len aj
      have l2 : (Str.empty ++ "take " ++ num i ++ " by ").length ≤ 6000 := by
        rw [app_len, e2]
        omega
      refine iteF ⟨_, rfl, small (by rw [app_len, e1, e0]; decide), _, rfl, x, C, dx, _, _, rfl, hx, cl, nT, two_at _ _, .inr ⟨i, rfl, am_log am, _, rfl, small (Nat.le_trans l1 (by decide)), _, rfl, small (Nat.le_trans l2 (by decide)), _, rfl, x, C, dx, _, _, rfl, hx, cl, nA, two_am _ _, .inr ⟨j, rfl, am_log aj, _, rfl, small ?_, q⟩⟩⟩
      show (Str.empty ++ "take " ++ num i ++ " by " ++ num j).length ≤ 10000
      rw [app_len]
      omega
theorem ok_rStr {f C : Addr} {fd : FuncData} (F : Fun K "__str__" "Right.__str__" sRStr f fd) (cl : Cls K C) (nT : NoAttr K C "at") (nA : NoAttr K C "amount") : FnOk P w K mg base CX0 1 f fd ["self"] (spRStr C) := by
  refine F.ok scRStr (fun vs H Q E h => ?_) (fun cdv A outer s H vs Q E hr h => ?_)
  · obtain ⟨x, dx, i, j, rfl, _⟩ := h
    rfl
  · obtain ⟨x, dx, i, j, rfl, hx, am, aj, q⟩ := h
    have l := num_len am
    have lj := num_len aj
    have e1 : ("right " : Str).length = 6 := by decide +kernel
    have e2 : (" to " : Str).length = 4 := by decide +kernel
    have e0 : (Str.empty).length = 0 := rfl
    have l1 : (Str.empty ++ "right " ++ num i).length ≤ 5000 := by
      rw [app_len, app_len, e1, e0]
      omega
    have l2 : (Str.empty ++ "right " ++ num i ++ " to ").length ≤ 6000 := by
      rw [app_len, e2]
      omega
    refine ⟨_, pss_one (ps_ret (pe_joined (.cons pe_str (.cons (pe_fmt (pe_fld (pv 0) rfl)) (.cons pe_str (.cons (pe_fmt (pe_fld (pv 0) rfl)) .nil)))))), ?_⟩
    refine ⟨_, rfl, small (by rw [app_len, e1, e0]; decide), _, rfl, x, C, dx, _, _, rfl, hx, cl, nT, two_at _ _, .inr ⟨i, rfl, am_log am, _, rfl, small (Nat.le_trans l1 (by decide)), _, rfl, small (Nat.le_trans l2 (by decide)), _, rfl, x, C, dx, _, _, rfl, hx, cl, nA, two_am _ _, .inr ⟨j, rfl, am_log aj, _, rfl, small ?_, q⟩⟩⟩
    show (Str.empty ++ "right " ++ num i ++ " to " ++ num j).length ≤ 10000
    rw [app_len]
    omega
/-! any values -/
/-- all that was tracked is as it was, but what stands at b -/
def SameX (b : Addr) (H H' : Hp) : Prop := ∀ c o, c ≠ b → H c = some o → H' c = some o
theorem SameX.refl {b : Addr} {H : Hp} : SameX b H H := fun _ _ _ h => h
theorem SameX.trans {b : Addr} {H H1 H2 : Hp} (s : SameX b H H1) (t : SameX b H1 H2) : SameX b H H2 := fun c o n h => t c o n (s c o n h)
theorem SameX.of {b : Addr} {H H' : Hp} (s : Same H H') : SameX b H H' := fun c o _ h => s c o h
theorem SameX.box {b : Addr} {H : Hp} {o : HO} : SameX b H (upd H b o) := fun c _ n h => by rw [upd_ne n]; exact h
theorem SameX.new {b p : Addr} {H : Hp} {o : HO} (hp : H p = none) : SameX b H (upd H p o) := fun c u n h => by rw [upd_ne (ne_of_none h hp)]; exact h
theorem AV.samex {b : Addr} {H H' : Hp} {v : V} (h : AV H v) (n : v ≠ .ref b) (s : SameX b H H') : AV H' v := by
  cases h with
  | non => exact .non
  | bl b => exact .bl b
  | int i h => exact .int i h
  | str z => exact .str z
  | @lst a xs h => exact .lst (s _ _ (fun z => n (by rw [z])) h)
  | @tup a xs h => exact .tup (s _ _ (fun z => n (by rw [z])) h)
def spAny (e : Nat) : Sp := fun vs H Q _ => ∃ (b : Addr) (u v : Int), vs = [.ref b, .int (e : Int)] ∧ H b = some (box u v) ∧ BoxOk u v ∧
  ∀ (y : V) (H' : Hp) (u' v' : Int), SameX b H H' → H' b = some (box u' v') → BoxOk u' v' → AV H' y → y ≠ .ref b → Q y H'
structure BltC (mg : Str → Option Value) : Prop where
  range : mg "range" = none
  tuple : mg "tuple" = none
abbrev CalChoose (P : Program) (w : World) (K : PySem.W.Frag) (mg : Str → Option Value) (base : Heap) : Prop := Cal P w K mg base CX0 "_law_choose" 1 ["_law_box", "_law_many"] spChoose
abbrev CalOneOf (P : Program) (w : World) (K : PySem.W.Frag) (mg : Str → Option Value) (base : Heap) : Prop := Cal P w K mg base CX0 "_law_one_of" 2 ["_law_box", "_law_some"] (spOneOf K)
theorem scAny : FnScope ["_law_box", "_law_deep", "_law_form", "_law_odd", "_law_some", "_law_turn"] ["_law_box", "_law_deep"] (defScope sAny) := ⟨rfl, rfl, rfl, by decide +kernel, rfl, by decide +kernel, by decide +kernel⟩
/-- one turn deeper: what the def asks of itself; nothing at the lowest depth -/
def AnyBelow (P : Program) (w : World) (K : PySem.W.Frag) (mg : Str → Option Value) (base : Heap) (f : Addr) (fd : FuncData) (e : Nat) : Prop :=
  FnOk P w K mg base CX0 (3 + e) f fd ["_law_box", "_law_deep"] (match e with | 0 => fun vs H _ _ => vs.length = 2 ∧ False | e + 1 => spAny e)
end
end V3

set_option Elab.async false
set_option linter.all false
set_option maxRecDepth 100000
namespace V3
open PySem L2
section
variable {P : Program} {w : World} {K : PySem.W.Frag} {mg : Str → Option Value} {base : Heap}
theorem box_ne {H : Hp} {b p : Addr} {o : HO} (hb : H b = some o) (hp : H p = none) : b ≠ p := ne_of_none hb hp
theorem any_step {f : Addr} {fd : FuncData} (e : Nat) (F : Fun K "_law_anything" "_law_anything" sAny f fd) (T : BltC mg) (cC : CalChoose P w K mg base) (cO : CalOneOf P w K mg base)
    (m : mg "_law_anything" = some (.ref f)) (b : Binds K fd ["_law_box", "_law_deep"] []) (spB : Sp) (G : FnOk P w K mg base CX0 (2 + e) f fd ["_law_box", "_law_deep"] spB) (hB : e = 0 ∨ ∃ e', e = e' + 1 ∧ spB = spAny e') :
    FnOk P w K mg base CX0 (3 + e) f fd ["_law_box", "_law_deep"] (spAny e) := by
  obtain ⟨fC, fdC, GC, mC, kC, bC⟩ := cC
  obtain ⟨fO, fdO, GO, mO, kO, bO⟩ := cO
  have z : 3 + e = (2 + e) + 1 := by omega
  rw [z]
  refine F.ok scAny (fun vs H Q E h => ?_) (fun cdv A outer s H vs Q E hr h => ?_)
  · obtain ⟨b, u, v, rfl, _⟩ := h
    rfl
  · obtain ⟨bx, u, v, rfl, hb, ok, k⟩ := h
    refine ⟨_, pss_cons (ps_set (i := 2) scAny.nd rfl (Or.inl rfl) (pe_call GC (hr.mono (by omega)) rfl mC kC bC .nil pass0 (pa_cons (pv 0) (pa_cons pe_int pa_nil))))
      (pss_cons (ps_if (PW.pt (pw_or (pt_cmpR op_lt (pv 1) pe_int (nomark _)) (pw_or1 (pt_cmpR op_lt (pv 2) pe_int (nomark _)))))
        (pss_cons (ps_set (i := 3) scAny.nd rfl (Or.inl rfl) (pe_lst (pa_cons pe_non (pa_cons pe_bl (pa_cons pe_bl (pa_cons pe_int (pa_cons pe_int (pa_cons pe_int (pa_cons (pe_un un_neg pe_int) (pa_cons (pe_op op_pow pe_int pe_int) (pa_cons pe_str (pa_cons pe_str (pa_cons pe_str (pa_cons (pe_tup pa_nil) (pa_cons (pe_lst pa_nil) (pa_cons pe_str (pa_cons (pe_tup (pa_cons pe_str pa_nil)) pa_nil)))))))))))))))))
          (pss_one (ps_ret (pe_call GO (hr.mono (by omega)) rfl mO kO bO .nil pass0 (pa_cons (pv 0) (pa_cons (pv 3) pa_nil))))))
        pss_nil)
      (pss_cons (ps_setLc (i := 4) (own := [("_law_turn", 5)]) (g := gName 5) (tt := tYes) (by rfl) scAny.nd rfl rfl (sw_true rfl rfl rfl (by decide +kernel))
          (pi_range1 (by rfl) T.range (pa_cons (pe_call GC (hr.mono (by omega)) rfl mC kC bC .nil pass0 (pa_cons (pv 0) (pa_cons pe_int pa_nil))) pa_nil))
          (blkOk_by (own := [("_law_turn", 5)]) (N := ["_law_box", "_law_deep", "_law_form", "_law_odd", "_law_some", "_law_turn"]) (sc := defScope sAny) (by decide +kernel))
          (fun _ _ _ _ _ => pg_name (i := 5) scAny.nd rfl (Or.inl rfl)) (fun _ _ _ _ _ => pts_nil)
          (fun _ _ _ _ _ => pe_call G hr rfl m F.kp b .nil pass0 (pa_cons (pv 0) (pa_cons (pe_op op_sub (pv 1) pe_int) pa_nil))))
      (pss_one (ps_ret (pe_ifExp (pt_cmpR op_lt (pv 2) pe_int (nomark _)) (pe_callTy call_tuple_of (by rfl) T.tuple (by decide +kernel) (pa_cons (pv 4) pa_nil)) (pv 4)))))), ?_⟩
    refine ⟨_, rfl, bx, u, v, 8, rfl, hb, ok, (by decide), (by decide), fun d u1 v1 d0 d8 ok1 => ?_⟩
    refine ⟨_, rfl, _, _, rfl, rfl, _, rfl, ?_⟩
    have S1 : SameX bx H (upd H bx (box u1 v1)) := SameX.box
    have hb1 : upd H bx (box u1 v1) bx = some (box u1 v1) := upd_same
    generalize upd H bx (box u1 v1) = H1 at S1 hb1
    refine ite2 (fun c => iteT ?wayA) (fun c => ⟨_, rfl, _, _, rfl, rfl, _, rfl, ite2 (fun c5 => ?wayB) (fun c5 => ?wayC)⟩)
    case wayC =>
      have e1 : ¬ (e : Int) < 1 := of_decide_eq_false (by simpa using c)
      obtain ⟨e', he, hs⟩ : ∃ e', e = e' + 1 ∧ spB = spAny e' := by
        rcases hB with h | h
        · omega
        · exact h
      subst hs
      refine ⟨_, rfl, bx, u1, v1, 4, rfl, hb1, ok1, (by decide), (by decide), fun d2 u2 v2 q0 q4 ok2 => ?_⟩
      have S2 : SameX bx H (upd H1 bx (box u2 v2)) := S1.trans SameX.box
      have hb2 : upd H1 bx (box u2 v2) bx = some (box u2 v2) := upd_same
      generalize upd H1 bx (box u2 v2) = H2 at S2 hb2
      refine ⟨d2, rfl, by omega, by omega, fun D nD => ?_⟩
      have nbD : bx ≠ D := box_ne hb2 nD
      refine lc_range (lo := 0) (n := d2.toNat) (fun i Hh => ∃ acc u v, SameX bx H2 Hh ∧ Hh bx = some (box u v) ∧ BoxOk u v ∧ Hh D = some (.lst acc) ∧ acc.length ≤ i) ?_ ?_ ?_
      · exact ⟨[], u2, v2, SameX.new nD, by rw [upd_ne nbD]; exact hb2, ok2, upd_same, Nat.le_refl _⟩
      · rintro i Hh hi ⟨acc, u3, v3, S3, hb3, ok3, hD, ha⟩
        refine ⟨rfl, ?_⟩
        unfold tYes
        dsimp only
        refine iteT ?_
        refine ⟨_, rfl, _, rfl, _, _, rfl, rfl, bx, u3, v3, ?_, hb3, ok3, fun y H' u' v' S4 hb4 ok4 ay ny => ?_⟩
        · show [V.ref bx, V.int ((e : Int) - 1)] ++ [] = [V.ref bx, V.int (e' : Int)]
          rw [he]
          simp
        · have hD4 : H' D = some (.lst acc) := S4 D _ (fun q => nbD q.symm) hD
          refine ⟨acc, hD4, small1000 (by omega), acc ++ [y], u', v', ?_, by rw [upd_ne nbD]; exact hb4, ok4, upd_same, by rw [List.length_append, List.length_singleton]; omega⟩
          intro cc o nc hc
          rw [upd_ne (ne_of_none hc nD)]
          exact S4 cc o nc (S3 cc o nc hc)
      · rintro Hh ⟨acc, u3, v3, S3, hb3, ok3, hD, ha⟩
        refine ⟨_, rfl, _, _, rfl, rfl, _, rfl, ite2 (fun _ => ?_) (fun _ => ?_)⟩
        · refine ⟨_, rfl, D, acc, rfl, .inl ⟨SqL.of hD, fun l nl => ?_⟩⟩
          have nbl : bx ≠ l := box_ne hb3 nl
          exact k _ _ u3 v3 ((S2.trans S3).trans (SameX.new nl)) (by rw [upd_ne nbl]; exact hb3) ok3 (.tup upd_same) (fun q => nbl (by injection q with q; exact q.symm))
        · exact ⟨_, rfl, k _ _ u3 v3 (S2.trans S3) hb3 ok3 (.lst hD) (fun q => nbD (by injection q with q; exact q.symm))⟩
    all_goals (
      refine ⟨_, rfl, _, _, rfl, rfl, ⟨by decide, by decide, by decide⟩, (by show 0 ≤ sizeLine; decide), fun p1 n1 => ⟨(by show 0 ≤ sizeLine; decide), fun p2 n2 => ⟨(by show 1 ≤ sizeLine; decide), fun p3 n3 => ⟨(by show 15 ≤ sizeLine; decide), fun l nl => ?_⟩⟩⟩⟩
      have b1 : bx ≠ p1 := box_ne hb1 n1
      have hb2 : upd H1 p1 (.tup []) bx = some (box u1 v1) := by rw [upd_ne b1]; exact hb1
      have S2 : SameX bx H (upd H1 p1 (.tup [])) := S1.trans (SameX.new n1)
      have a1 : upd H1 p1 (.tup []) p1 = some (.tup []) := upd_same
      generalize upd H1 p1 (.tup []) = H2 at n2 n3 nl hb2 S2 a1 ⊢
      have b2 : bx ≠ p2 := box_ne hb2 n2
      have hb3 : upd H2 p2 (.lst []) bx = some (box u1 v1) := by rw [upd_ne b2]; exact hb2
      have S3 : SameX bx H (upd H2 p2 (.lst [])) := S2.trans (SameX.new n2)
      have a2 : upd H2 p2 (.lst []) p2 = some (.lst []) := upd_same
      have a1' : upd H2 p2 (.lst []) p1 = some (.tup []) := by rw [upd_ne (ne_of_none a1 n2)]; exact a1
      generalize upd H2 p2 (.lst []) = H3 at n3 nl hb3 S3 a2 a1' ⊢
      have b3 : bx ≠ p3 := box_ne hb3 n3
      have hb4 : upd H3 p3 (.tup [.str "shut"]) bx = some (box u1 v1) := by rw [upd_ne b3]; exact hb3
      have S4 : SameX bx H (upd H3 p3 (.tup [.str "shut"])) := S3.trans (SameX.new n3)
      have c3 : upd H3 p3 (.tup [.str "shut"]) p3 = some (.tup [.str "shut"]) := upd_same
      have c2 : upd H3 p3 (.tup [.str "shut"]) p2 = some (.lst []) := by rw [upd_ne (ne_of_none a2 n3)]; exact a2
      have c1 : upd H3 p3 (.tup [.str "shut"]) p1 = some (.tup []) := by rw [upd_ne (ne_of_none a1' n3)]; exact a1'
      generalize upd H3 p3 (.tup [.str "shut"]) = H4 at nl hb4 S4 c1 c2 c3 ⊢
      have bl : bx ≠ l := box_ne hb4 nl
      refine ⟨_, rfl, _, rfl, bx, l, u1, v1, _, rfl, (by rw [upd_ne bl]; exact hb4), ok1, (fun q => bl q.symm), SqL.of upd_same, (by show 1 ≤ 15; decide), (by show 15 ≤ 1000; decide), fun x u' v' hx ok' => ?_⟩
      have d1 : ∀ o : HO, upd (upd H4 l o) bx (box u' v') p1 = some (.tup []) := fun o => by rw [upd_ne (Ne.symm b1), upd_ne (ne_of_none c1 nl)]; exact c1
      have d2 : ∀ o : HO, upd (upd H4 l o) bx (box u' v') p2 = some (.lst []) := fun o => by rw [upd_ne (Ne.symm b2), upd_ne (ne_of_none c2 nl)]; exact c2
      have d3 : ∀ o : HO, upd (upd H4 l o) bx (box u' v') p3 = some (.tup [.str "shut"]) := fun o => by rw [upd_ne (Ne.symm b3), upd_ne (ne_of_none c3 nl)]; exact c3
      refine k x _ u' v' ((S4.trans (SameX.new nl)).trans SameX.box) upd_same ok' ?_ ?_
      · simp only [List.mem_cons, List.not_mem_nil, or_false] at hx
        rcases hx with rfl | rfl | rfl | rfl | rfl | rfl | rfl | rfl | rfl | rfl | rfl | rfl | rfl | rfl | rfl
        all_goals first | exact .non | exact .bl _ | exact .str _ | exact .tup (d1 _) | exact .lst (d2 _) | exact .tup (d3 _) | exact .int _ (by decide)
      · simp only [List.mem_cons, List.not_mem_nil, or_false] at hx
        rcases hx with rfl | rfl | rfl | rfl | rfl | rfl | rfl | rfl | rfl | rfl | rfl | rfl | rfl | rfl | rfl
        all_goals (intro q; first | (cases q; done) | (injection q with q; first | exact b1 q.symm | exact b2 q.symm | exact b3 q.symm)))
end
end V3

set_option Elab.async false
set_option linter.all false
set_option maxRecDepth 100000
namespace V3
open PySem L2
section
variable {P : Program} {w : World} {K : PySem.W.Frag} {mg : Str → Option Value} {base : Heap}
theorem ok_any {f : Addr} {fd : FuncData} (F : Fun K "_law_anything" "_law_anything" sAny f fd) (T : BltC mg) (cC : CalChoose P w K mg base) (cO : CalOneOf P w K mg base)
    (m : mg "_law_anything" = some (.ref f)) (b : Binds K fd ["_law_box", "_law_deep"] []) : ∀ e : Nat, FnOk P w K mg base CX0 (3 + e) f fd ["_law_box", "_law_deep"] (spAny e)
  | 0 => any_step 0 F T cC cO m b (fun _ _ _ _ => False) ⟨fun _ _ _ _ h => h.elim, fun _ _ _ _ _ _ _ _ _ _ _ _ _ h => h.elim⟩ (.inl rfl)
  | e + 1 => any_step (e + 1) F T cC cO m b (spAny e) ((ok_any F T cC cO m b e).mono (by omega)) (.inr ⟨e, rfl, rfl⟩)
/-! the law's own reading of a number -/
def spLawNum : Sp := fun vs H Q _ => ∃ (v : V) (n : Int), vs = [v, .int n] ∧ AV H v ∧ Q (.bl (isNum v n)) H
theorem scLawNum : FnScope ["_law_value", "_law_least_one"] ["_law_value", "_law_least_one"] (defScope sLawNum) := ⟨rfl, rfl, rfl, by decide +kernel, rfl, by decide +kernel, by decide +kernel⟩
theorem ok_lawNum {f : Addr} {fd : FuncData} (F : Fun K "_law_is_number" "_law_is_number" sLawNum f fd) (T : BltB mg) : FnOk P w K mg base CX0 1 f fd ["_law_value", "_law_least_one"] spLawNum := by
  refine F.ok scLawNum (fun vs H Q E h => ?_) (fun cdv A outer s H vs Q E hr h => ?_)
  · obtain ⟨v, n, rfl, _⟩ := h
    rfl
  · obtain ⟨v, n, rfl, av, q⟩ := h
    obtain ⟨t, ty, k1, k2⟩ := av_ty (K := K) av
    refine ⟨_, pss_one (ps_ret (pe_and (pe_callB call_isi (by rfl) T.isi (by decide +kernel) (pa_cons (pv 0) (pa_cons (pe_bltn (v := .ty "int") (by rfl) T.int (by decide +kernel) rfl) pa_nil)))
      (pe_and (pe_not (pe_callB call_isi (by rfl) T.isi (by decide +kernel) (pa_cons (pv 0) (pa_cons (pe_bltn (v := .ty "bool") (by rfl) T.bool (by decide +kernel) rfl) pa_nil)))) (pe_one (pe_cmpR op_ge (pv 0) (pv 1) (nomark _)))))), ?_⟩
    refine ⟨_, rfl, _, _, t, _, _, rfl, .ty "int", ty, k1, _, rfl, ?_⟩
    cases v with
    | int i =>
      refine iteT ?_
      refine ⟨_, rfl, _, _, t, _, _, rfl, .ty "bool", ty, k2, _, rfl, _, rfl, iteT ?_⟩
      exact ⟨_, rfl, _, rfl, _, _, rfl, rfl, q⟩
    | bl b =>
      refine iteT ?_
      exact ⟨_, rfl, _, _, t, _, _, rfl, .ty "bool", ty, k2, _, rfl, _, rfl, iteF q⟩
    | non => exact iteF q
    | str z => exact iteF q
    | ref a => exact iteF q
    | byt z => exact iteF q
    | flt z => exact iteF q
    | ty z => exact iteF q
/-! what is made, or the word of the first that is wrong -/
def due (f : Int) (a v : V) : Str :=
  if f = 0 then (if isNum v 1 = true then "made" else "amount")
  else if isNum a 0 = true then (if f = 1 ∧ v = .non ∨ isNum v 1 = true then "made" else "amount") else "at"
theorem made_same {H : Hp} {y dy : Addr} {o1 o2 : HO} (ny : H y = none) (ndy : H dy = none) : Same H (upd (upd H dy o1) y o2) := fun b o e => by
  rw [upd_ne (ne_of_none e ny), upd_ne (ne_of_none e ndy)]
  exact e
theorem made_same2 {H : Hp} {y dy : Addr} {o1 o2 o3 : HO} (ny : H y = none) (ndy : H dy = none) : Same H (upd (upd (upd H dy o1) y o2) y o3) := fun b o e => by
  rw [upd_ne (ne_of_none e ny), upd_ne (ne_of_none e ny), upd_ne (ne_of_none e ndy)]
  exact e
theorem av_int {H : Hp} {i : Int} (h : AV H (.int i)) : Am i := by
  cases h with
  | int _ h => exact h
theorem str_ne {x : Str} (h : 0 < x.length) : ¬ V.str x = V.str "" := fun z => by
  injection z with z
  rw [z] at h
  exact absurd h (by decide +kernel)
theorem bText_ne (i : Int) : ¬ V.str (bText i) = V.str "" := str_ne (by
  have e1 : ("begin " : Str).length = 6 := by decide +kernel
  unfold bText
  rw [app_len, app_len, e1]
  omega)
theorem tText_ne (i : Int) : ¬ V.str (tText i) = V.str "" := str_ne (by
  have e1 : ("take " : Str).length = 5 := by decide +kernel
  unfold tText
  rw [app_len, app_len, e1]
  omega)
theorem tbText_ne (i j : Int) : ¬ V.str (tbText i j) = V.str "" := str_ne (by
  have e1 : ("take " : Str).length = 5 := by decide +kernel
  unfold tbText
  rw [app_len, app_len, app_len, app_len, e1]
  omega)
theorem rText_ne (i j : Int) : ¬ V.str (rText i j) = V.str "" := str_ne (by
  have e1 : ("right " : Str).length = 6 := by decide +kernel
  unfold rText
  rw [app_len, app_len, app_len, app_len, e1]
  omega)
def spRefused : Sp := fun vs H Q _ => ∃ (f : Int) (a v : V), vs = [.int f, a, v] ∧ (f = 0 ∨ f = 1 ∨ f = 2) ∧ AV H a ∧ AV H v ∧ ∀ H', Same H H' → Q (.str (due f a v)) H'
/-- a class of moves: how it is made, its text -/
structure MvTxt (P : Program) (w : World) (K : PySem.W.Frag) (mg : Str → Option Value) (base : Heap) (name : Str) (ps : List Str) (C : Addr) (spI spS : Sp) : Prop where
  g : mg name = some (.ref C)
  ini : ∃ (f : Addr) (fd : FuncData), FnOk P w K mg base (L2.CX P w) 4 f fd ps spI ∧ Mk K C f ∧ Binds K fd ps []
  str : ∃ (f : Addr) (fd : FuncData), FnOk P w K mg base CX0 1 f fd ["self"] spS ∧ PySem.W.findIn K (.ref C) "__str__" = some (some (.ref f)) ∧ PySem.W.isFn K (.ref f) = true ∧ Binds K fd ["self"] []
structure ErTxt (K : PySem.W.Frag) (mg : Str → Option Value) (CM CB CR CT : Addr) : Prop where
  x : XClass K CM
  f : XfC K CM
  no : PySem.W.findIn K (.ref CM) "word" = some none
  gB : mg "BookError" = some (.ref CB)
  gR : mg "InvalidRow" = some (.ref CR)
  gT : mg "InvalidText" = some (.ref CT)
  iB : PySem.W.kitOne K (.ref CM) (.ref CB) = some true
  iRT : PySem.W.kitAny K (.ref CM) [.ref CR, .ref CT] = some false
  te : PySem.W.exmOne K (.ref CM) (.ref CM) = some true
  str : mg "str" = none
  isi : mg "isinstance" = none
/-- 'made' if str(C(..)) != '' else 'odd' -/
def tMade (C : Addr) (spI spS : Sp) (W : WX) (ta : TA) : TE :=
  tIf (tTest (tOp rNe (tCB (rStrO C spS E0) (tCons (tMakeS C spI [] (WE W) ta) tNil)) (tC (.str "")))) (tC (.str "made")) (tC (.str "odd"))
theorem pe_made {X : Cx} {C f1 f2 : Addr} {name : Str} {fd1 fd2 : FuncData} {ps : List Str} {spI spS : Sp} {W : WX} {ta : TA} {e : Expr} {es : List Expr} {p1 p2 p3 p4 p5 p6 p7 p8 p9 : Pos} {j1 j2 j3 : Nat}
    (G1 : FnOk X.prog X.w X.K X.mg X.base (L2.CX X.prog X.w) 4 f1 fd1 ps spI) (M1 : Mk X.K C f1) (b1 : Binds X.K fd1 ps []) (gC : X.mg name = some (.ref C)) (hC : Gl X name)
    (G2 : FnOk X.prog X.w X.K X.mg X.base CX0 1 f2 fd2 ["self"] spS) (S2 : PySem.W.findIn X.K (.ref C) "__str__" = some (some (.ref f2))) (i2 : PySem.W.isFn X.K (.ref f2) = true) (b2 : Binds X.K fd2 ["self"] [])
    (hr : Room 5 X.A) (hS : Gl X "str") (mS : X.mg "str" = none) (tk : Takes X W) (ha : PA X (e :: es) ta)
    (hdb : (name == ("__debug__" : Str)) = false := by decide)
    (he : starEach (e :: es) X.env = (false, eval e X.env) :: starEach es X.env := by rfl) (hpl : (backTo p3 (starEach es X.env)).any (·.1) = false := by rfl) :
    PE X (.IfExp (.Compare (.Call (.Name "str" p1) [.Call (.Name name p2) (e :: es) [] p3] [] p4) [.NotEq] [.Constant (.str "") j1 p5] p6) (.Constant (.str "made") j2 p7) (.Constant (.str "odd") j3 p8) p9) (tMade C spI spS W ta) := by
  have made : PE X (.Call (.Name name p2) (e :: es) [] p3) (tMakeS C spI [] (WE W) ta) := pe_makeS M1 G1 hr hC gC b1 .nil (fun σ => passAt tk σ) ha hdb he hpl
  have hr3 : Room 3 X.A := hr.mono (by decide)
  exact pe_ifExp (pt_cmpR op_ne (pe_callTy (call_strO G2 S2 i2 b2 pass0 hr3) hS mS (by decide +kernel) (pa_cons made pa_nil)) pe_str (nomark _)) pe_str pe_str
def t_body (CB CT CR CM : Addr) (W : WX) : TS :=
  tIfS (tTest (tOp rEq (tVar 0) (tC (.int 0)))) (tAsg (tMade CB (spBegin CB CM) (spBStr CB) W (tCons (tVar 2) tNil)) (gName 3))
    (tIfS (tTest (tOp rEq (tVar 0) (tC (.int 1)))) (tAsg (tMade CT (spTake CT CM) (spTStr CT) W (tCons (tVar 1) (tCons (tVar 2) tNil))) (gName 3))
      (tAsg (tMade CR (spRight CR CM) (spRStr CR) W (tCons (tVar 1) (tCons (tVar 2) tNil))) (gName 3)))
def t_suite (K : PySem.W.Frag) (CM CB CR CT : Addr) : Addr → Value → Option Addr → TS := fun a cls d =>
  tSeq (tAsg (tCB (rIsXT K CM a cls d) (tCons (tVar 4) (tCons (tTup (tCons (tC (.ref CR)) (tCons (tC (.ref CT)) tNil))) tNil))) (gName 5))
    (tAsg (tIf (tAnd (tB (tCB (rIsX K CM a cls d) (tCons (tVar 4) (tCons (tC (.ref CB)) tNil)))) (tNot (tB (tVar 5)))) (tXf a cls d CM "word" (tVar 4)) (tC (.str "odd"))) (gName 3))
def t_try (K : PySem.W.Frag) (BC TC RC CM CB CR CT : Addr) : TS := fun D σ H =>
  t_body BC TC RC CM (wAs K (.ref CM) 4 (t_suite K CM CB CR CT) (fun _ _ _ _ => False) D) D σ H
def t_refused (K : PySem.W.Frag) (BC TC RC CM CB CR CT : Addr) : TS :=
  tSeq (tAsg (tC (.str "made")) (gName 3)) (tSeq (t_try K BC TC RC CM CB CR CT) (tRet (tVar 3)))
def tryBody (s : Stmt) : List Stmt := match s with
  | .Try b _ _ _ _ => b
  | _ => []
def trySuite (s : Stmt) : List Stmt := match s with
  | .Try _ (.ExceptHandler _ _ b _ :: _) _ _ _ => b
  | _ => []
abbrev sTry : Stmt := (defBody sRefused).getD 1 (.Pass ⟨0, 0, 0, 0⟩)
theorem scRefused : FnScope ["_law_form", "_law_at", "_law_amount", "_law_found", "e", "_law_others"] ["_law_form", "_law_at", "_law_amount"] (defScope sRefused) := ⟨rfl, rfl, rfl, by decide +kernel, rfl, by decide +kernel, by decide +kernel⟩
theorem ok_refused {f BC TC RC CM CB CR CT : Addr} {fd : FuncData} (F : Fun K "_law_refused" "_law_refused" sRefused f fd) (T : ErTxt K mg CM CB CR CT) (gM : mg "InvalidMove" = some (.ref CM))
    (mB : MvTxt P w K mg base "Begin" ["self", "amount"] BC (spBegin BC CM) (spBStr BC)) (mT : MvTxt P w K mg base "Take" ["self", "at", "amount"] TC (spTake TC CM) (spTStr TC)) (mR : MvTxt P w K mg base "Right" ["self", "at", "amount"] RC (spRight RC CM) (spRStr RC)) :
    FnOk P w K mg base CX0 6 f fd ["_law_form", "_law_at", "_law_amount"] spRefused := by
  obtain ⟨f1, fd1, G1, M1, b1⟩ := mB.ini
  obtain ⟨f2, fd2, G2, S2, i2, b2⟩ := mB.str
  obtain ⟨f3, fd3, G3, M3, b3⟩ := mT.ini
  obtain ⟨f4, fd4, G4, S4, i4, b4⟩ := mT.str
  obtain ⟨f5, fd5, G5, M5, b5⟩ := mR.ini
  obtain ⟨f6, fd6, G6, S6, i6, b6⟩ := mR.str
  refine F.ok scRefused (fun vs H Q E h => ?_) (fun cdv A outer s H vs Q E hr h => ?_)
  · obtain ⟨f, a, v, rfl, _⟩ := h
    rfl
  · obtain ⟨fm, a, v, rfl, hf, aa, av, k⟩ := h
    have hr3 : Room 3 _ := hr.mono (by decide)
    refine ⟨t_refused K BC TC RC CM CB CR CT, ?_, ?_⟩
    · have made1 : ∀ (W : WX) (pn : List (Addr × Obj)) (xe : Value → Shared → Prop), Takes ((cxOf CX0 P w K mg base ["_law_form", "_law_at", "_law_amount", "_law_found", "e", "_law_others"] "_law_refused" (defScope sRefused) f cdv A outer s H E).nox.tr pn xe) W →
          PSs ((cxOf CX0 P w K mg base ["_law_form", "_law_at", "_law_amount", "_law_found", "e", "_law_others"] "_law_refused" (defScope sRefused) f cdv A outer s H E).nox.tr pn xe) (tryBody sTry) (t_body BC TC RC CM W) := by
        intro W pn xe tk
        exact pss_one (ps_if (pt_cmpR op_eq (pv 0) pe_int (nomark _))
          (pss_one (ps_set (i := 3) scRefused.nd rfl (Or.inl rfl) (by exact (pe_made G1 M1 b1 mB.g rfl G2 S2 i2 b2 hr rfl T.str tk (by exact (pa_cons (pv 2) pa_nil))))))
          (pss_one (ps_if (pt_cmpR op_eq (pv 0) pe_int (nomark _))
            (pss_one (ps_set (i := 3) scRefused.nd rfl (Or.inl rfl) (by exact (pe_made G3 M3 b3 mT.g rfl G4 S4 i4 b4 hr rfl T.str tk (by exact (pa_cons (pv 1) (pa_cons (pv 2) pa_nil)))))))
            (pss_one (ps_set (i := 3) scRefused.nd rfl (Or.inl rfl) (by exact (pe_made G5 M5 b5 mR.g rfl G6 S6 i6 b6 hr rfl T.str tk (by exact (pa_cons (pv 1) (pa_cons (pv 2) pa_nil))))))))))
      have suite1 : ∀ (ax : Addr) (oe : Obj) (cls : Value) (d : Option Addr) (pn : List (Addr × Obj)), Zc cls d oe → (∃ vs, oe.data = .fields vs) →
          PSs ((cxOf CX0 P w K mg base ["_law_form", "_law_at", "_law_amount", "_law_found", "e", "_law_others"] "_law_refused" (defScope sRefused) f cdv A outer s H E).nox.suite ax ((ax, oe) :: pn)) (trySuite sTry) (t_suite K CM CB CR CT ax cls d) := by
        intro ax oe cls d pn hz hfl
        exact pss_cons (ps_set (i := 5) scRefused.nd rfl (Or.inl rfl) (by exact (pe_callB (call_isXT T.x hz hfl) (by rfl) T.isi (by decide +kernel) (by exact (pa_cons (pv 4) (pa_cons (pe_tup (by exact (pa_cons (pe_glob rfl T.gR rfl) (pa_cons (pe_glob rfl T.gT rfl) pa_nil)))) pa_nil))))))
          (pss_one (ps_set (i := 3) scRefused.nd rfl (Or.inl rfl) (by exact (pe_ifExp (PW.pt (pw_and (pt_val (pe_callB (call_isX T.x hz hfl) (by rfl) T.isi (by decide +kernel) (by exact (pa_cons (pv 4) (pa_cons (pe_glob rfl T.gB rfl) pa_nil))))) (pw_and1 (pt_not (pt_val (pv 5)))))) (pe_xf T.f T.no hz hfl (pv 4)) pe_str))))
      have try1 : PS (cxOf CX0 P w K mg base ["_law_form", "_law_at", "_law_amount", "_law_found", "e", "_law_others"] "_law_refused" (defScope sRefused) f cdv A outer s H E).nox sTry (t_try K BC TC RC CM CB CR CT) :=
        ps_try_as (i := 4) (tb := fun W => t_body BC TC RC CM W) (ts := t_suite K CM CB CR CT) (Wout := fun _ _ _ _ => False) rfl rfl scRefused.nd rfl rfl ⟨rfl, by decide, Or.inl gM⟩ takes0
          (fun W pn xe tk _ => made1 W pn xe tk) (fun ax oe cls d pn hz hfl => suite1 ax oe cls d pn hz hfl)
      exact pss_cons (ps_set (i := 3) scRefused.nd rfl (Or.inl rfl) pe_str) (pss_cons try1 (pss_one (ps_ret (pv 3))))
    · have caught : ∀ (word : Str) (D : Ends) (d : Addr) (H' : Hp), H' d = some (.xd [("word", .str word)]) → (∀ (H2 : Hp) (o5 : Option V), Same H' H2 → D.nx [some (.int fm), some a, some v, some (.str word), none, o5] H2) →
          wAs K (.ref CM) 4 (t_suite K CM CB CR CT) (fun _ _ _ _ => False) D (.ref CM) (some d) [some (.int fm), some a, some v, some (.str "made"), none, none] H' := by
        intro word D d H' hd go
        refine ⟨true, T.te, fun _ ax nax => ?_, fun q => Bool.noConfusion q⟩
        refine ⟨_, rfl, (by show 2 ≤ sizeLine; decide), fun tp ntp => ?_⟩
        have ne : d ≠ tp := ne_of_none hd ntp
        have hd2 : upd H' tp (.tup [.ref CR, .ref CT]) d = some (.xd [("word", .str word)]) := by
          rw [upd_ne ne]
          exact hd
        have sm : Same H' (upd H' tp (.tup [.ref CR, .ref CT])) := fun b o e => by
          rw [upd_ne (ne_of_none e ntp)]
          exact e
        refine ⟨d, _, tp, _, _, _, rfl, rfl, hd2, rfl, upd_same, .cons (.own CR) (.cons (.own CT) .nil), T.iRT, ?_⟩
        refine ⟨_, rfl, d, _, _, _, _, rfl, rfl, hd2, rfl, .own CB, T.iB, _, rfl, iteT ⟨_, rfl, _, rfl, ?_⟩⟩
        refine iteT ⟨_, rfl, rfl, rfl, d, _, _, rfl, hd2, rfl, ?_⟩
        exact go _ _ sm
      have done : ∀ (word : Str) (o4 o5 : Option V) (H' : Hp), due fm a v = word → Same H H' → tRet (tVar 3) { nx := fun _ H' => Q .non H', rt := Q } [some (.int fm), some a, some v, some (.str word), o4, o5] H' :=
        fun word o4 o5 H' e sm => ⟨_, rfl, by rw [← e]; exact k H' sm⟩
      rcases hf with rfl | rfl | rfl
      · refine ⟨_, rfl, rfl, _, rfl, ite2 (fun _ => ?_) (fun c => absurd (decide_eq_true rfl) c)⟩
        refine ⟨_, rfl, fun y dy ny ndy ne => ⟨y, dy, v, rfl, upd_same, av.same (made_same ny ndy), fun e => ⟨rfl, ?_⟩, fun e d H' sm hd => ?_⟩⟩
        · obtain ⟨i, rfl, _⟩ := num_of e
          refine ⟨y, dy, _, rfl, upd_same, y, dy, i, rfl, upd_same, av_int av, _, rfl, rfl, _, rfl, ?_⟩
          rw [decide_eq_false (bText_ne i)]
          exact iteT (done _ _ _ _ (by unfold due; rw [if_pos rfl, if_pos e]) (made_same2 ny ndy))
        · exact caught _ _ d H' hd fun H2 o5 s2 => done _ _ _ _ (by unfold due; rw [if_pos rfl, if_neg (by rw [e]; decide)]) ((made_same ny ndy).trans (sm.trans s2))
      · refine ⟨_, rfl, rfl, _, rfl, ite2 (fun c => absurd (of_decide_eq_true c) (by intro z; injection z with z; exact absurd z (by decide))) (fun _ => ?_)⟩
        refine ⟨_, rfl, rfl, _, rfl, ite2 (fun _ => ?_) (fun c => absurd (decide_eq_true rfl) c)⟩
        refine ⟨_, rfl, _, rfl, fun y dy ny ndy ne => ⟨y, dy, a, v, rfl, upd_same, aa.same (made_same ny ndy), av.same (made_same ny ndy), fun e e2 => ⟨rfl, ?_⟩, fun e d H' sm hd => ?_, fun e c e2 d H' sm hd => ?_⟩⟩
        · obtain ⟨i, rfl, _⟩ := num_of e
          have dd : due 1 (.int i) v = "made" := by
            unfold due
            rw [if_neg (by decide), if_pos e, if_pos (e2.elim (fun z => .inl ⟨rfl, z⟩) .inr)]
          rcases e2 with rfl | e2
          · refine ⟨y, dy, _, rfl, upd_same, y, dy, i, _, rfl, upd_same, av_int aa, .inl ⟨rfl, _, rfl, rfl, _, rfl, ?_⟩⟩
            rw [decide_eq_false (tText_ne i)]
            exact iteT (done _ _ _ _ dd (made_same2 ny ndy))
          · obtain ⟨j, rfl, _⟩ := num_of e2
            refine ⟨y, dy, _, rfl, upd_same, y, dy, i, _, rfl, upd_same, av_int aa, .inr ⟨j, rfl, av_int av, _, rfl, rfl, _, rfl, ?_⟩⟩
            rw [decide_eq_false (tbText_ne i j)]
            exact iteT (done _ _ _ _ dd (made_same2 ny ndy))
        · exact caught _ _ d H' hd fun H2 o5 s2 => done _ _ _ _ (by unfold due; rw [if_neg (by decide), if_neg (by rw [e]; decide)]) ((made_same ny ndy).trans (sm.trans s2))
        · exact caught _ _ d H' hd fun H2 o5 s2 => done _ _ _ _ (by unfold due; rw [if_neg (by decide), if_pos e, if_neg (by intro z; rcases z with ⟨_, z⟩ | z; exact c z; rw [e2] at z; cases z)]) ((made_same ny ndy).trans (sm.trans s2))
      · refine ⟨_, rfl, rfl, _, rfl, ite2 (fun c => absurd (of_decide_eq_true c) (by intro z; injection z with z; exact absurd z (by decide))) (fun _ => ?_)⟩
        refine ⟨_, rfl, rfl, _, rfl, ite2 (fun c => absurd (of_decide_eq_true c) (by intro z; injection z with z; exact absurd z (by decide))) (fun _ => ?_)⟩
        refine ⟨_, rfl, _, rfl, fun y dy ny ndy ne => ⟨y, dy, a, v, rfl, upd_same, aa.same (made_same ny ndy), av.same (made_same ny ndy), fun e e2 => ⟨rfl, ?_⟩, fun e d H' sm hd => ?_, fun e e2 d H' sm hd => ?_⟩⟩
        · obtain ⟨i, rfl, _⟩ := num_of e
          have dd : due 2 (.int i) v = "made" := by
            unfold due
            rw [if_neg (by decide), if_pos e, if_pos (.inr e2)]
          obtain ⟨j, rfl, _⟩ := num_of e2
          refine ⟨y, dy, _, rfl, upd_same, y, dy, i, j, rfl, upd_same, av_int aa, av_int av, _, rfl, rfl, _, rfl, ?_⟩
          rw [decide_eq_false (rText_ne i j)]
          exact iteT (done _ _ _ _ dd (made_same2 ny ndy))
        · exact caught _ _ d H' hd fun H2 o5 s2 => done _ _ _ _ (by unfold due; rw [if_neg (by decide), if_neg (by rw [e]; decide)]) ((made_same ny ndy).trans (sm.trans s2))
        · exact caught _ _ d H' hd fun H2 o5 s2 => done _ _ _ _ (by unfold due; rw [if_neg (by decide), if_pos e, if_neg (by intro z; rcases z with ⟨z, _⟩ | z; exact absurd z (by decide); rw [e2] at z; cases z)]) ((made_same ny ndy).trans (sm.trans s2))
end
end V3

set_option Elab.async false
set_option linter.all false
set_option maxRecDepth 100000
namespace V3
open PySem L2
theorem if_slot {i : Nat} {c : Bool} {x y : Str} {σ : L2.St} {H : Hp} {Q : VK} (h : σ[i]? = some (some (.bl c))) (q : Q (.str (if c = true then x else y)) H) : tIf (tB (tVar i)) (tC (.str x)) (tC (.str y)) σ H Q := by
  refine ⟨_, h, _, rfl, ?_⟩
  cases c with
  | true => exact iteT q
  | false => exact iteF q
theorem if_or {i j : Nat} {c : Bool} {v : V} {x y : Str} {σ : L2.St} {H : Hp} {Q : VK} (h : σ[i]? = some (some (.bl c))) (h2 : σ[j]? = some (some v)) (q : Q (.str (if (c || decide (v = .non)) = true then x else y)) H) :
    tIf (tOr (tB (tVar i)) (tTest (tOp (fun x y H Q => y = .non ∧ Q (.bl (decide (x = .non))) H) (tVar j) (tC .non)))) (tC (.str x)) (tC (.str y)) σ H Q := by
  refine ⟨_, h, _, rfl, ?_⟩
  cases c with
  | true => exact iteT (iteT q)
  | false =>
    refine iteF ⟨_, h2, rfl, _, rfl, ?_⟩
    cases e : decide (v = .non) with
    | true =>
      rw [e] at q
      exact iteT q
    | false =>
      rw [e] at q
      exact iteF q
theorem if_num {i j : Nat} {a : V} {S : Str} {y : Str} {σ : L2.St} {H : Hp} {Q : VK} (h : σ[i]? = some (some a)) (h2 : σ[j]? = some (some (.str S))) (aa : AV H a) (q : Q (.str (if isNum a 0 = true then S else y)) H) :
    tIf (tB (tCall spLawNum [] E0 (tCons (tVar i) (tCons (tC (.int 0)) tNil)))) (tVar j) (tC (.str y)) σ H Q := by
  refine ⟨_, h, a, 0, rfl, aa, _, rfl, ?_⟩
  cases e : isNum a 0 with
  | true =>
    rw [e] at q
    exact iteT ⟨_, h2, q⟩
  | false =>
    rw [e] at q
    exact iteF q
theorem due0 (a v : V) : due 0 a v = (if isNum v 1 = true then ("made" : Str) else ("amount" : Str)) := by
  unfold due
  rw [if_pos rfl]
theorem due1 (a v : V) : due 1 a v = (if isNum a 0 = true then (if (isNum v 1 || decide (v = .non)) = true then ("made" : Str) else ("amount" : Str)) else ("at" : Str)) := by
  unfold due
  rw [if_neg (by decide)]
  by_cases e : isNum a 0 = true
  · rw [if_pos e, if_pos e]
    by_cases c : v = .non
    · rw [if_pos (.inl ⟨rfl, c⟩), if_pos (by rw [decide_eq_true c]; simp)]
    · by_cases e2 : isNum v 1 = true
      · rw [if_pos (.inr e2), if_pos (by rw [e2]; simp)]
      · rw [if_neg (by intro z; rcases z with ⟨_, z⟩ | z; exact c z; exact e2 z), if_neg (by rw [decide_eq_false c]; simpa using e2)]
  · rw [if_neg e, if_neg e]
theorem due2 (a v : V) : due 2 a v = (if isNum a 0 = true then (if isNum v 1 = true then ("made" : Str) else ("amount" : Str)) else ("at" : Str)) := by
  unfold due
  rw [if_neg (by decide)]
  by_cases e : isNum a 0 = true
  · rw [if_pos e, if_pos e]
    by_cases e2 : isNum v 1 = true
    · rw [if_pos (.inr e2), if_pos e2]
    · rw [if_neg (by intro z; rcases z with ⟨z, _⟩ | z; exact absurd z (by decide); exact e2 z), if_neg e2]
  · rw [if_neg e, if_neg e]
def spLaw (K : PySem.W.Frag) : Sp := fun vs H Q _ => ∃ (a : Addr) (ns : List Int), vs = [.ref a] ∧ SqL K H a (ns.map V.int) ∧ ns.length ≤ 63 ∧ ∀ H', Q (.bl true) H'
structure BltL (mg : Str → Option Value) : Prop where
  len : mg "len" = none
  range : mg "range" = none
  max : mg "max" = none
  min : mg "min" = none
section
variable {P : Program} {w : World} {K : PySem.W.Frag} {mg : Str → Option Value} {base : Heap}
theorem scLaw : FnScope ["_law_script", "_law_k", "_law_box", "_law_turn", "_law_at", "_law_amount", "_law_fine", "_law_due"] ["_law_script"] (defScope sLaw) := ⟨rfl, rfl, rfl, by decide +kernel, rfl, by decide +kernel, by decide +kernel⟩
theorem ok_law {f : Addr} {fd : FuncData} (F : Fun K "law" "law" sLaw f fd) (T : BltL mg) (cS : Cal P w K mg base CX0 "_law_seed" 1 ["_law_script", "_law_k"] (spSeed K)) (cO : CalOneOf P w K mg base)
    (cA : Cal P w K mg base CX0 "_law_anything" 6 ["_law_box", "_law_deep"] (spAny 3)) (cN : Cal P w K mg base CX0 "_law_is_number" 1 ["_law_value", "_law_least_one"] spLawNum)
    (cR : Cal P w K mg base CX0 "_law_refused" 6 ["_law_form", "_law_at", "_law_amount"] spRefused) : FnOk P w K mg base CX0 8 f fd ["_law_script"] (spLaw K) := by
  obtain ⟨fS, fdS, GS, mS, kS, bS⟩ := cS
  obtain ⟨fO, fdO, GO, mO, kO, bO⟩ := cO
  obtain ⟨fA, fdA, GA, mA, kA, bA⟩ := cA
  obtain ⟨fN, fdN, GN, mN, kN, bN⟩ := cN
  obtain ⟨fR, fdR, GR, mR, kR, bR⟩ := cR
  refine F.ok scLaw (fun vs H Q E h => ?_) (fun cdv A outer s H vs Q E hr h => ?_)
  · obtain ⟨a, ns, rfl, _⟩ := h
    rfl
  · obtain ⟨a, ns, rfl, hS, hl, k⟩ := h
    have hr1 : Room 1 _ := hr.mono (by decide)
    have hr2 : Room 2 _ := hr.mono (by decide)
    have hr6 : Room 6 _ := hr.mono (by decide)
    refine ⟨_, pss_cons (ps_for PassesOwn.never rfl (pi_range1 (by rfl) T.range (pa_cons (pe_callB (call_max2 rfl) (by rfl) T.max (by decide +kernel) (pa_cons pe_int (pa_cons (pe_callB (call_min2 rfl) (by rfl) T.min (by decide +kernel) (pa_cons pe_int (pa_cons (pe_callB call_len_seq (by rfl) T.len PySem.boot_len (pa_cons (pv 0) pa_nil)) pa_nil))) pa_nil))) pa_nil)) (pg_name (i := 1) scLaw.nd rfl (Or.inl rfl))
        (pss_cons (ps_set (i := 2) scLaw.nd rfl (Or.inl rfl) (pe_call GS hr1 rfl mS kS bS .nil pass0 (pa_cons (pv 0) (pa_cons (pv 1) pa_nil))))
        (pss_one (ps_for PassesOwn.never rfl (pi_range1 (by rfl) T.range (pa_cons pe_int pa_nil)) (pg_name (i := 3) scLaw.nd rfl (Or.inl rfl))
          (pss_cons (ps_set (i := 4) scLaw.nd rfl (Or.inl rfl) (pe_call GO hr2 rfl mO kO bO .nil pass0 (pa_cons (pv 2) (pa_cons (pe_lst (pa_cons pe_int (pa_cons pe_int (pa_cons pe_int (pa_cons (pe_op op_pow pe_int pe_int) (pa_cons (pe_call GA (hr.mono (by decide)) rfl mA kA bA .nil pass0 (pa_cons (pv 2) (pa_cons pe_int pa_nil))) pa_nil)))))) pa_nil))))
          (pss_cons (ps_set (i := 5) scLaw.nd rfl (Or.inl rfl) (pe_call GO hr2 rfl mO kO bO .nil pass0 (pa_cons (pv 2) (pa_cons (pe_lst (pa_cons pe_int (pa_cons pe_int (pa_cons (pe_op op_pow pe_int pe_int) (pa_cons pe_int (pa_cons pe_non (pa_cons (pe_call GA (hr.mono (by decide)) rfl mA kA bA .nil pass0 (pa_cons (pv 2) (pa_cons pe_int pa_nil))) pa_nil))))))) pa_nil))))
          (pss_cons (ps_set (i := 6) scLaw.nd rfl (Or.inl rfl) (pe_call GN hr1 rfl mN kN bN .nil pass0 (pa_cons (pv 5) (pa_cons pe_int pa_nil))))
          (pss_cons (ps_if (pt_cmpR op_ne (pe_call GR hr6 rfl mR kR bR .nil pass0 (pa_cons pe_int (pa_cons (pv 4) (pa_cons (pv 5) pa_nil)))) (pe_ifExp (pt_val (pv 6)) pe_str pe_str) (nomark _)) (pss_one (ps_ret pe_bl)) pss_nil)
          (pss_cons (ps_set (i := 7) scLaw.nd rfl (Or.inl rfl) (pe_ifExp (PW.pt (pw_or (pt_val (pv 6)) (pw_or1 (pt_cmpR op_isN (pv 5) pe_non (nomark _))))) pe_str pe_str))
          (pss_cons (ps_if (pt_cmpR op_ne (pe_call GR hr6 rfl mR kR bR .nil pass0 (pa_cons pe_int (pa_cons (pv 4) (pa_cons (pv 5) pa_nil)))) (pe_ifExp (pt_val (pe_call GN hr1 rfl mN kN bN .nil pass0 (pa_cons (pv 4) (pa_cons pe_int pa_nil)))) (pv 7) pe_str) (nomark _)) (pss_one (ps_ret pe_bl)) pss_nil)
          (pss_cons (ps_set (i := 7) scLaw.nd rfl (Or.inl rfl) (pe_ifExp (pt_val (pv 6)) pe_str pe_str))
          (pss_one (ps_if (pt_cmpR op_ne (pe_call GR hr6 rfl mR kR bR .nil pass0 (pa_cons pe_int (pa_cons (pv 4) (pa_cons (pv 5) pa_nil)))) (pe_ifExp (pt_val (pe_call GN hr1 rfl mN kN bN .nil pass0 (pa_cons (pv 4) (pa_cons pe_int pa_nil)))) (pv 7) pe_str) (nomark _)) (pss_one (ps_ret pe_bl)) pss_nil)))))))))))))
      (pss_one (ps_ret pe_bl)), ?_⟩
    refine ⟨_, rfl, a, _, rfl, .inl hS, _, _, rfl, _, _, rfl, ?_⟩
    rw [List.length_map]
    have hn : (if (if (ns.length : Int) < 5 then (ns.length : Int) else 5) > 2 then (if (ns.length : Int) < 5 then (ns.length : Int) else 5) else 2) ≤ 5 ∧ 2 ≤ (if (if (ns.length : Int) < 5 then (ns.length : Int) else 5) > 2 then (if (ns.length : Int) < 5 then (ns.length : Int) else 5) else 2) := by
      constructor <;> (split <;> (try split) <;> omega)
    generalize (if (if (ns.length : Int) < 5 then (ns.length : Int) else 5) > 2 then (if (ns.length : Int) < 5 then (ns.length : Int) else 5) else 2) = n at hn
    refine ⟨n, rfl, by omega, by omega, for_range (lo := 0) (n := n.toNat) (fun i σ H' => (∃ o1 o2 o3 o4 o5 o6 o7 : Option V, σ = [some (.ref a), o1, o2, o3, o4, o5, o6, o7]) ∧ Same H H') ⟨⟨_, _, _, _, _, _, _, rfl⟩, Same.refl H⟩ ?_ ?_⟩
    · rintro i σ H0 hi ⟨⟨o1, o2, o3, o4, o5, o6, o7, rfl⟩, s0⟩
      refine ⟨_, rfl, _, rfl, a, ns, _, rfl, s0.seq hS, hl, by omega, by omega, fun p u v np ok => ?_⟩
      have s1 : Same H (upd H0 p (box u v)) := fun b o e => by
        rw [upd_ne (ne_of_none (s0 b o e) np)]
        exact s0 b o e
      have hp : H p = none := s0.free np
      refine ⟨12, rfl, by decide, by decide, for_range (lo := 0) (n := 12) (fun j σ H' => (∃ o3 o4 o5 o6 o7 : Option V, σ = [some (.ref a), some (.int (0 + (i : Int))), some (.ref p), o3, o4, o5, o6, o7]) ∧ SameX p H H' ∧ ∃ u v, BoxOk u v ∧ H' p = some (box u v)) ⟨⟨_, _, _, _, _, rfl⟩, SameX.of s1, u, v, ok, upd_same⟩ ?_ ?_⟩
      · clear ok u v s1 s0
        rintro j σ H1 hj ⟨⟨o3, o4, o5, o6, o7, rfl⟩, s1, u, v, ok, hb⟩
        -- at
        refine ⟨_, rfl, _, _, rfl, rfl, ⟨by decide, by decide, by decide⟩, _, rfl, p, u, v, rfl, hb, ok, fun y H2 u2 v2 s2 hb2 ok2 ay ny => ?_⟩
        refine ⟨(by show 5 ≤ sizeLine; decide), fun l nl => ?_⟩
        have npl : p ≠ l := ne_of_none hb2 nl
        refine ⟨p, l, u2, v2, _, rfl, (by rw [upd_ne npl]; exact hb2), ok2, (fun q => npl q.symm), SqL.of upd_same, (by show 1 ≤ 5; decide), (by show 5 ≤ 1000; decide), fun at_ u3 v3 hat ok3 => ?_⟩
        have s3 : ∀ o : HO, SameX p H2 (upd (upd H2 l o) p (box u3 v3)) := fun o => (SameX.new nl).trans SameX.box
        have ha : ∀ H' : Hp, SameX p H2 H' → AV H' at_ := by
          intro H' s
          simp only [List.mem_cons, List.not_mem_nil, or_false] at hat
          rcases hat with rfl | rfl | rfl | rfl | rfl
          all_goals first | exact .int _ (by decide) | exact ay.samex ny s
        have na : at_ ≠ .ref p := by
          simp only [List.mem_cons, List.not_mem_nil, or_false] at hat
          rcases hat with rfl | rfl | rfl | rfl | rfl
          all_goals first | exact ny | (intro q; cases q)
        -- amount
        refine ⟨_, rfl, _, _, rfl, rfl, ⟨by decide, by decide, by decide⟩, _, rfl, p, u3, v3, rfl, upd_same, ok3, fun y2 H4 u4 v4 s4 hb4 ok4 ay2 ny2 => ?_⟩
        have s24 : SameX p H2 H4 := (s3 _).trans s4
        refine ⟨(by show 6 ≤ sizeLine; decide), fun l2 nl2 => ?_⟩
        have npl2 : p ≠ l2 := ne_of_none hb4 nl2
        refine ⟨p, l2, u4, v4, _, rfl, (by rw [upd_ne npl2]; exact hb4), ok4, (fun q => npl2 q.symm), SqL.of upd_same, (by show 1 ≤ 6; decide), (by show 6 ≤ 1000; decide), fun am u5 v5 ham ok5 => ?_⟩
        have s5 : ∀ o : HO, SameX p H4 (upd (upd H4 l2 o) p (box u5 v5)) := fun o => (SameX.new nl2).trans SameX.box
        have hm : ∀ H' : Hp, SameX p H4 H' → AV H' am := by
          intro H' s
          simp only [List.mem_cons, List.not_mem_nil, or_false] at ham
          rcases ham with rfl | rfl | rfl | rfl | rfl | rfl
          all_goals first | exact .int _ (by decide) | exact .non | exact ay2.samex ny2 s
        have nm : am ≠ .ref p := by
          simp only [List.mem_cons, List.not_mem_nil, or_false] at ham
          rcases ham with rfl | rfl | rfl | rfl | rfl | rfl
          all_goals first | exact ny2 | (intro q; cases q)
        have S0 : SameX p H1 H2 := s2
        -- fine, the three tries
        refine ⟨_, rfl, am, 1, rfl, hm _ (s5 _), ?_⟩
        refine ⟨_, rfl, _, rfl, 0, at_, am, rfl, .inl rfl, ha _ (s24.trans (s5 _)), hm _ (s5 _), fun H6 s6 => ?_⟩
        refine if_slot rfl ⟨rfl, _, rfl, ?_⟩
        rw [decide_eq_true (congrArg V.str (due0 at_ am))]
        refine iteF (if_or rfl rfl ?_)
        have s56 : SameX p H4 H6 := (s5 _).trans (SameX.of s6)
        refine ⟨_, rfl, _, rfl, 1, at_, am, rfl, .inr (.inl rfl), ha _ (s24.trans s56), hm _ s56, fun H7 s7 => ?_⟩
        have s57 : SameX p H4 H7 := s56.trans (SameX.of s7)
        refine if_num rfl rfl (ha _ (s24.trans s57)) ⟨rfl, _, rfl, ?_⟩
        rw [decide_eq_true (congrArg V.str (due1 at_ am))]
        refine iteF (if_slot rfl ?_)
        refine ⟨_, rfl, _, rfl, 2, at_, am, rfl, .inr (.inr rfl), ha _ (s24.trans s57), hm _ s57, fun H8 s8 => ?_⟩
        have s58 : SameX p H4 H8 := s57.trans (SameX.of s8)
        refine if_num rfl rfl (ha _ (s24.trans s58)) ⟨rfl, _, rfl, ?_⟩
        rw [decide_eq_true (congrArg V.str (due2 at_ am))]
        refine iteF ⟨⟨_, _, _, _, _, rfl⟩, s1.trans (s2.trans (s24.trans s58)), u5, v5, ok5, ?_⟩
        exact s8 _ _ (s7 _ _ (s6 _ _ upd_same))
      · rintro σ H' ⟨⟨o3, o4, o5, o6, o7, rfl⟩, s2, _⟩
        exact ⟨⟨_, _, _, _, _, _, _, rfl⟩, fun b o e => s2 b o (fun z => by rw [z, hp] at e; cases e) e⟩
    · rintro σ H' ⟨⟨o1, o2, o3, o4, o5, o6, o7, rfl⟩, s0⟩
      exact k _
end
end V3

set_option Elab.async false
set_option linter.all false
set_option maxRecDepth 100000
namespace V3
open PySem L2
theorem kit_ref {K : PySem.W.Frag} {t C : Addr} {b : Bool} (h1 : PySem.W.isClsIn K C = true) (h2 : PySem.W.typeIn K (.ref C) = some (.type "type")) (h3 : PySem.W.subIn K (.ref t) (.ref C) = some b) (h4 : PySem.W.subIn K (.ref t) (.ref t) = some true) :
    PySem.W.kitOne K (.ref t) (.ref C) = some b := by
  unfold PySem.W.kitOne
  by_cases e : t = C
  · subst e
    rw [h4] at h3
    injection h3 with h3
    subst h3
    rw [if_pos (by simp)]
  · have n : (Value.ref t == Value.ref C) = false := by
      refine Bool.eq_false_iff.mpr fun q => e ?_
      exact Value.ref.inj (beq_iff_eq.mp q)
    rw [n, if_neg Bool.false_ne_true]
    have q : ((PySem.W.clsIn K C).isSome && PySem.W.typeIn K (.ref C) == some (.type "type")) = true := by
      have z : (PySem.W.clsIn K C).isSome = true := h1
      rw [z, h2] <;> rfl
    show (if ((PySem.W.clsIn K C).isSome && PySem.W.typeIn K (.ref C) == some (.type "type")) = true then PySem.W.subIn K (.ref t) (.ref C) else none) = some b
    rw [if_pos q]
    exact h3
theorem all_mk {l : PySem.W.OpenLaw} {w : World} {K : PySem.W.Frag} {h : Heap} {mg : Str → Option Value} {fa f_int f_num f_amt f_seed f_choose f_one f_any f_ref f_ln f_law CM CK CR CT BC TC RC f_im f_bi f_bs f_ti f_ts f_ri f_rs : Addr} (X : K.In h) (G : h.Ns mainGlobals mg) (hfa : mg "law" = some (.ref fa))
    {od_f_int an_f_int : Option Addr} {sl_f_int : Array (Option Value)} {oc_f_int kV_f_int dc_f_int pm_f_int cd_f_int ct_f_int : Value}
    {od_f_num an_f_num : Option Addr} {sl_f_num : Array (Option Value)} {oc_f_num kV_f_num dc_f_num pm_f_num cd_f_num ct_f_num : Value}
    {od_f_amt an_f_amt : Option Addr} {sl_f_amt : Array (Option Value)} {oc_f_amt kV_f_amt dc_f_amt pm_f_amt cd_f_amt ct_f_amt : Value}
    {od_f_seed an_f_seed : Option Addr} {sl_f_seed : Array (Option Value)} {oc_f_seed kV_f_seed dc_f_seed pm_f_seed cd_f_seed ct_f_seed : Value}
    {od_f_choose an_f_choose : Option Addr} {sl_f_choose : Array (Option Value)} {oc_f_choose kV_f_choose dc_f_choose pm_f_choose cd_f_choose ct_f_choose : Value}
    {od_f_one an_f_one : Option Addr} {sl_f_one : Array (Option Value)} {oc_f_one kV_f_one dc_f_one pm_f_one cd_f_one ct_f_one : Value}
    {od_f_any an_f_any : Option Addr} {sl_f_any : Array (Option Value)} {oc_f_any kV_f_any dc_f_any pm_f_any cd_f_any ct_f_any : Value}
    {od_f_ref an_f_ref : Option Addr} {sl_f_ref : Array (Option Value)} {oc_f_ref kV_f_ref dc_f_ref pm_f_ref cd_f_ref ct_f_ref : Value}
    {od_f_ln an_f_ln : Option Addr} {sl_f_ln : Array (Option Value)} {oc_f_ln kV_f_ln dc_f_ln pm_f_ln cd_f_ln ct_f_ln : Value}
    {od_f_law an_f_law : Option Addr} {sl_f_law : Array (Option Value)} {oc_f_law kV_f_law dc_f_law pm_f_law cd_f_law ct_f_law : Value}
    {nm_CM q_CM : Str} {N_CM : Addr} {bs_CM bm_CM : List Value} {sn_CM : List Str} {sub_CM : List Value} {ab_CM : Bool} {col_CM : Option Bool} {dd_CM : Option Addr} {m0_CM m1_CM m2_CM m3_CM m5_CM : Option Value}
    {od_f_im an_f_im : Option Addr} {sl_f_im : Array (Option Value)} {oc_f_im kV_f_im dc_f_im pm_f_im cd_f_im ct_f_im : Value}
    {od_f_bi an_f_bi : Option Addr} {sl_f_bi : Array (Option Value)} {oc_f_bi kV_f_bi dc_f_bi pm_f_bi cd_f_bi ct_f_bi : Value}
    {od_f_bs an_f_bs : Option Addr} {sl_f_bs : Array (Option Value)} {oc_f_bs kV_f_bs dc_f_bs pm_f_bs cd_f_bs ct_f_bs : Value}
    {od_f_ti an_f_ti dd_f_ti : Option Addr} {sl_f_ti ds_f_ti : Array (Option Value)} {oc_f_ti kV_f_ti dc_f_ti pm_f_ti cd_f_ti ct_f_ti : Value} {T_f_ti : Addr} {n_f_ti : Nat}
    {od_f_ts an_f_ts : Option Addr} {sl_f_ts : Array (Option Value)} {oc_f_ts kV_f_ts dc_f_ts pm_f_ts cd_f_ts ct_f_ts : Value}
    {od_f_ri an_f_ri : Option Addr} {sl_f_ri : Array (Option Value)} {oc_f_ri kV_f_ri dc_f_ri pm_f_ri cd_f_ri ct_f_ri : Value}
    {od_f_rs an_f_rs : Option Addr} {sl_f_rs : Array (Option Value)} {oc_f_rs kV_f_rs dc_f_rs pm_f_rs cd_f_rs ct_f_rs : Value}
    (g_f_int : PySem.W.nsIn K mainGlobals "is_integer" = some (some (.ref f_int)))
    (l_f_int : K.lookup f_int = some ⟨oc_f_int, od_f_int, .func (PySem.W.fnOf "is_integer" "is_integer" (defArgs sIsInt) (defBody sIsInt) (defScope sIsInt) .none kV_f_int dc_f_int pm_f_int an_f_int cd_f_int ct_f_int), sl_f_int⟩)
    (c_f_int : PySem.W.codeIn K cd_f_int "is_integer" = true)
    (k_f_int : PySem.W.keepIn K (.ref f_int) = true)
    (g_f_num : PySem.W.nsIn K mainGlobals "is_number" = some (some (.ref f_num)))
    (l_f_num : K.lookup f_num = some ⟨oc_f_num, od_f_num, .func (PySem.W.fnOf "is_number" "is_number" (defArgs sIsNum) (defBody sIsNum) (defScope sIsNum) .none kV_f_num dc_f_num pm_f_num an_f_num cd_f_num ct_f_num), sl_f_num⟩)
    (c_f_num : PySem.W.codeIn K cd_f_num "is_number" = true)
    (k_f_num : PySem.W.keepIn K (.ref f_num) = true)
    (g_f_amt : PySem.W.nsIn K mainGlobals "is_amount" = some (some (.ref f_amt)))
    (l_f_amt : K.lookup f_amt = some ⟨oc_f_amt, od_f_amt, .func (PySem.W.fnOf "is_amount" "is_amount" (defArgs sIsAmt) (defBody sIsAmt) (defScope sIsAmt) .none kV_f_amt dc_f_amt pm_f_amt an_f_amt cd_f_amt ct_f_amt), sl_f_amt⟩)
    (c_f_amt : PySem.W.codeIn K cd_f_amt "is_amount" = true)
    (k_f_amt : PySem.W.keepIn K (.ref f_amt) = true)
    (g_f_seed : PySem.W.nsIn K mainGlobals "_law_seed" = some (some (.ref f_seed)))
    (l_f_seed : K.lookup f_seed = some ⟨oc_f_seed, od_f_seed, .func (PySem.W.fnOf "_law_seed" "_law_seed" (defArgs sSeed) (defBody sSeed) (defScope sSeed) .none kV_f_seed dc_f_seed pm_f_seed an_f_seed cd_f_seed ct_f_seed), sl_f_seed⟩)
    (c_f_seed : PySem.W.codeIn K cd_f_seed "_law_seed" = true)
    (k_f_seed : PySem.W.keepIn K (.ref f_seed) = true)
    (g_f_choose : PySem.W.nsIn K mainGlobals "_law_choose" = some (some (.ref f_choose)))
    (l_f_choose : K.lookup f_choose = some ⟨oc_f_choose, od_f_choose, .func (PySem.W.fnOf "_law_choose" "_law_choose" (defArgs sChoose) (defBody sChoose) (defScope sChoose) .none kV_f_choose dc_f_choose pm_f_choose an_f_choose cd_f_choose ct_f_choose), sl_f_choose⟩)
    (c_f_choose : PySem.W.codeIn K cd_f_choose "_law_choose" = true)
    (k_f_choose : PySem.W.keepIn K (.ref f_choose) = true)
    (g_f_one : PySem.W.nsIn K mainGlobals "_law_one_of" = some (some (.ref f_one)))
    (l_f_one : K.lookup f_one = some ⟨oc_f_one, od_f_one, .func (PySem.W.fnOf "_law_one_of" "_law_one_of" (defArgs sOneOf) (defBody sOneOf) (defScope sOneOf) .none kV_f_one dc_f_one pm_f_one an_f_one cd_f_one ct_f_one), sl_f_one⟩)
    (c_f_one : PySem.W.codeIn K cd_f_one "_law_one_of" = true)
    (k_f_one : PySem.W.keepIn K (.ref f_one) = true)
    (g_f_any : PySem.W.nsIn K mainGlobals "_law_anything" = some (some (.ref f_any)))
    (l_f_any : K.lookup f_any = some ⟨oc_f_any, od_f_any, .func (PySem.W.fnOf "_law_anything" "_law_anything" (defArgs sAny) (defBody sAny) (defScope sAny) .none kV_f_any dc_f_any pm_f_any an_f_any cd_f_any ct_f_any), sl_f_any⟩)
    (c_f_any : PySem.W.codeIn K cd_f_any "_law_anything" = true)
    (k_f_any : PySem.W.keepIn K (.ref f_any) = true)
    (g_f_ref : PySem.W.nsIn K mainGlobals "_law_refused" = some (some (.ref f_ref)))
    (l_f_ref : K.lookup f_ref = some ⟨oc_f_ref, od_f_ref, .func (PySem.W.fnOf "_law_refused" "_law_refused" (defArgs sRefused) (defBody sRefused) (defScope sRefused) .none kV_f_ref dc_f_ref pm_f_ref an_f_ref cd_f_ref ct_f_ref), sl_f_ref⟩)
    (c_f_ref : PySem.W.codeIn K cd_f_ref "_law_refused" = true)
    (k_f_ref : PySem.W.keepIn K (.ref f_ref) = true)
    (g_f_ln : PySem.W.nsIn K mainGlobals "_law_is_number" = some (some (.ref f_ln)))
    (l_f_ln : K.lookup f_ln = some ⟨oc_f_ln, od_f_ln, .func (PySem.W.fnOf "_law_is_number" "_law_is_number" (defArgs sLawNum) (defBody sLawNum) (defScope sLawNum) .none kV_f_ln dc_f_ln pm_f_ln an_f_ln cd_f_ln ct_f_ln), sl_f_ln⟩)
    (c_f_ln : PySem.W.codeIn K cd_f_ln "_law_is_number" = true)
    (k_f_ln : PySem.W.keepIn K (.ref f_ln) = true)
    (g_f_law : PySem.W.nsIn K mainGlobals "law" = some (some (.ref f_law)))
    (l_f_law : K.lookup f_law = some ⟨oc_f_law, od_f_law, .func (PySem.W.fnOf "law" "law" (defArgs sLaw) (defBody sLaw) (defScope sLaw) .none kV_f_law dc_f_law pm_f_law an_f_law cd_f_law ct_f_law), sl_f_law⟩)
    (c_f_law : PySem.W.codeIn K cd_f_law "law" = true)
    (k_f_law : PySem.W.keepIn K (.ref f_law) = true)
    (g_CM : PySem.W.nsIn K mainGlobals "InvalidMove" = some (some (.ref CM)))
    (g_CK : PySem.W.nsIn K mainGlobals "BookError" = some (some (.ref CK)))
    (g_CR : PySem.W.nsIn K mainGlobals "InvalidRow" = some (some (.ref CR)))
    (g_CT : PySem.W.nsIn K mainGlobals "InvalidText" = some (some (.ref CT)))
    (g_BC : PySem.W.nsIn K mainGlobals "Begin" = some (some (.ref BC)))
    (g_TC : PySem.W.nsIn K mainGlobals "Take" = some (some (.ref TC)))
    (g_RC : PySem.W.nsIn K mainGlobals "Right" = some (some (.ref RC)))
    (x_CM : K.lookup CM = some (PySem.excClassObj nm_CM q_CM CM N_CM bs_CM bm_CM true sn_CM sub_CM ab_CM col_CM dd_CM m0_CM m1_CM m2_CM m3_CM m5_CM "ValueError.__new__"))
    (xb_CM : PySem.HandSPX.refsVE bm_CM = true)
    (xsa_CM : PySem.W.findIn K (.ref CM) "__setattr__" = some (some (.builtin "object.__setattr__")))
    (xga_CM : PySem.W.findIn K (.ref CM) "__getattribute__" = some (some (.builtin "BaseException.__getattribute__")))
    (xgg_CM : PySem.W.findIn K (.ref CM) "__getattr__" = some none)
    (xex_CM : PySem.W.subIn K (.ref CM) (.type "BaseException") = some true)
    (xty_CM : PySem.W.typeIn K (.ref CM) = some (.type "type"))
    (xkc_CM : PySem.W.keepIn K (.ref CM) = true)
    (xhd_CM : PySem.W.hasDictIn K CM = true)
    (xis_CM : PySem.W.isClsIn K CM = true)
    (xca_CM : PySem.W.findIn K (.ref CM) "__class__" = some (some (.builtin "object.__class__")))
    (xgn_CM : PySem.W.specialIn K (.builtin "object.__class__") "__get__" = some (some (.builtin "getset_descriptor.__get__")))
    (xtk_CM : PySem.W.takesIn K (.builtin "object.__class__") = some true)
    (xmo_CM : PySem.W.mroIn K CM (.type "object") = some true)
    (xss_CM : PySem.W.subIn K (.ref CM) (.ref CM) = some true)
    (no_CM_word : PySem.W.findIn K (.ref CM) "word" = some none)
    (a_f_im : PySem.W.findIn K (.ref CM) "__init__" = some (some (.ref f_im)))
    (tf_im : PySem.W.typeIn K (.ref f_im) = some (.type "function"))
    (l_f_im : K.lookup f_im = some ⟨oc_f_im, od_f_im, .func (PySem.W.fnOf "__init__" "InvalidMove.__init__" (defArgs sImInit) (defBody sImInit) (defScope sImInit) .none kV_f_im dc_f_im pm_f_im an_f_im cd_f_im ct_f_im), sl_f_im⟩)
    (c_f_im : PySem.W.codeIn K cd_f_im "InvalidMove.__init__" = true)
    (k_f_im : PySem.W.keepIn K (.ref f_im) = true)
    (is_CK : PySem.W.isClsIn K CK = true)
    (ty_CK : PySem.W.typeIn K (.ref CK) = some (.type "type"))
    (su_CK : PySem.W.subIn K (.ref CM) (.ref CK) = some true)
    (is_CR : PySem.W.isClsIn K CR = true)
    (ty_CR : PySem.W.typeIn K (.ref CR) = some (.type "type"))
    (su_CR : PySem.W.subIn K (.ref CM) (.ref CR) = some false)
    (is_CT : PySem.W.isClsIn K CT = true)
    (ty_CT : PySem.W.typeIn K (.ref CT) = some (.type "type"))
    (su_CT : PySem.W.subIn K (.ref CM) (.ref CT) = some false)
    (pg_BC : PySem.W.plainGet K BC Str.empty = true)
    (hd_BC : PySem.W.hasDictIn K BC = true)
    (po_BC : PySem.W.plainOver K BC = true)
    (sa_BC : PySem.W.findIn K (.ref BC) "__setattr__" = some (some (.builtin "object.__setattr__")))
    (mk_BC : PySem.W.makesIn K BC = true)
    (kc_BC : PySem.W.keepIn K (.ref BC) = true)
    (pg_TC : PySem.W.plainGet K TC Str.empty = true)
    (hd_TC : PySem.W.hasDictIn K TC = true)
    (po_TC : PySem.W.plainOver K TC = true)
    (sa_TC : PySem.W.findIn K (.ref TC) "__setattr__" = some (some (.builtin "object.__setattr__")))
    (mk_TC : PySem.W.makesIn K TC = true)
    (kc_TC : PySem.W.keepIn K (.ref TC) = true)
    (pg_RC : PySem.W.plainGet K RC Str.empty = true)
    (hd_RC : PySem.W.hasDictIn K RC = true)
    (po_RC : PySem.W.plainOver K RC = true)
    (sa_RC : PySem.W.findIn K (.ref RC) "__setattr__" = some (some (.builtin "object.__setattr__")))
    (mk_RC : PySem.W.makesIn K RC = true)
    (kc_RC : PySem.W.keepIn K (.ref RC) = true)
    (no_BC_amount : PySem.W.findIn K (.ref BC) "amount" = some none)
    (no_TC_at : PySem.W.findIn K (.ref TC) "at" = some none)
    (no_TC_amount : PySem.W.findIn K (.ref TC) "amount" = some none)
    (no_RC_at : PySem.W.findIn K (.ref RC) "at" = some none)
    (no_RC_amount : PySem.W.findIn K (.ref RC) "amount" = some none)
    (a_f_bi : PySem.W.findIn K (.ref BC) "__init__" = some (some (.ref f_bi)))
    (i_f_bi : PySem.W.isFn K (.ref f_bi) = true)
    (l_f_bi : K.lookup f_bi = some ⟨oc_f_bi, od_f_bi, .func (PySem.W.fnOf "__init__" "Begin.__init__" (defArgs sBInit) (defBody sBInit) (defScope sBInit) .none kV_f_bi dc_f_bi pm_f_bi an_f_bi cd_f_bi ct_f_bi), sl_f_bi⟩)
    (c_f_bi : PySem.W.codeIn K cd_f_bi "Begin.__init__" = true)
    (k_f_bi : PySem.W.keepIn K (.ref f_bi) = true)
    (a_f_bs : PySem.W.findIn K (.ref BC) "__str__" = some (some (.ref f_bs)))
    (i_f_bs : PySem.W.isFn K (.ref f_bs) = true)
    (l_f_bs : K.lookup f_bs = some ⟨oc_f_bs, od_f_bs, .func (PySem.W.fnOf "__str__" "Begin.__str__" (defArgs sBStr) (defBody sBStr) (defScope sBStr) .none kV_f_bs dc_f_bs pm_f_bs an_f_bs cd_f_bs ct_f_bs), sl_f_bs⟩)
    (c_f_bs : PySem.W.codeIn K cd_f_bs "Begin.__str__" = true)
    (k_f_bs : PySem.W.keepIn K (.ref f_bs) = true)
    (a_f_ti : PySem.W.findIn K (.ref TC) "__init__" = some (some (.ref f_ti)))
    (i_f_ti : PySem.W.isFn K (.ref f_ti) = true)
    (l_f_ti : K.lookup f_ti = some ⟨oc_f_ti, od_f_ti, .func (PySem.W.fnOf "__init__" "Take.__init__" (defArgs sTInit) (defBody sTInit) (defScope sTInit) (.ref T_f_ti) kV_f_ti dc_f_ti pm_f_ti an_f_ti cd_f_ti ct_f_ti), sl_f_ti⟩)
    (c_f_ti : PySem.W.codeIn K cd_f_ti "Take.__init__" = true)
    (k_f_ti : PySem.W.keepIn K (.ref f_ti) = true)
    (t_f_ti : K.lookup T_f_ti = some ⟨.type "tuple", dd_f_ti, .seq #[.none] n_f_ti, ds_f_ti⟩)
    (a_f_ts : PySem.W.findIn K (.ref TC) "__str__" = some (some (.ref f_ts)))
    (i_f_ts : PySem.W.isFn K (.ref f_ts) = true)
    (l_f_ts : K.lookup f_ts = some ⟨oc_f_ts, od_f_ts, .func (PySem.W.fnOf "__str__" "Take.__str__" (defArgs sTStr) (defBody sTStr) (defScope sTStr) .none kV_f_ts dc_f_ts pm_f_ts an_f_ts cd_f_ts ct_f_ts), sl_f_ts⟩)
    (c_f_ts : PySem.W.codeIn K cd_f_ts "Take.__str__" = true)
    (k_f_ts : PySem.W.keepIn K (.ref f_ts) = true)
    (a_f_ri : PySem.W.findIn K (.ref RC) "__init__" = some (some (.ref f_ri)))
    (i_f_ri : PySem.W.isFn K (.ref f_ri) = true)
    (l_f_ri : K.lookup f_ri = some ⟨oc_f_ri, od_f_ri, .func (PySem.W.fnOf "__init__" "Right.__init__" (defArgs sRInit) (defBody sRInit) (defScope sRInit) .none kV_f_ri dc_f_ri pm_f_ri an_f_ri cd_f_ri ct_f_ri), sl_f_ri⟩)
    (c_f_ri : PySem.W.codeIn K cd_f_ri "Right.__init__" = true)
    (k_f_ri : PySem.W.keepIn K (.ref f_ri) = true)
    (a_f_rs : PySem.W.findIn K (.ref RC) "__str__" = some (some (.ref f_rs)))
    (i_f_rs : PySem.W.isFn K (.ref f_rs) = true)
    (l_f_rs : K.lookup f_rs = some ⟨oc_f_rs, od_f_rs, .func (PySem.W.fnOf "__str__" "Right.__str__" (defArgs sRStr) (defBody sRStr) (defScope sRStr) .none kV_f_rs dc_f_rs pm_f_rs an_f_rs cd_f_rs ct_f_rs), sl_f_rs⟩)
    (c_f_rs : PySem.W.codeIn K cd_f_rs "Right.__str__" = true)
    (k_f_rs : PySem.W.keepIn K (.ref f_rs) = true)
    (z_len : PySem.W.nsIn K mainGlobals "len" = some none)
    (z_abs : PySem.W.nsIn K mainGlobals "abs" = some none)
    (z_int : PySem.W.nsIn K mainGlobals "int" = some none)
    (z_isinstance : PySem.W.nsIn K mainGlobals "isinstance" = some none)
    (z_bool : PySem.W.nsIn K mainGlobals "bool" = some none)
    (z_range : PySem.W.nsIn K mainGlobals "range" = some none)
    (z_tuple : PySem.W.nsIn K mainGlobals "tuple" = some none)
    (z_str : PySem.W.nsIn K mainGlobals "str" = some none)
    (z_max : PySem.W.nsIn K mainGlobals "max" = some none)
    (z_min : PySem.W.nsIn K mainGlobals "min" = some none)
    : ∃ fd : FuncData, (∀ (s : Shared) (v : Value), BindsTo s fd ⟨[v], []⟩ [("_law_script", v)]) ∧ ∀ base : Heap, K.In base → base.Ns mainGlobals mg → FnOk l.prog w K mg base CX0 8 fa fd ["_law_script"] (spLaw K) := by
  have e := hfa.symm.trans (PySem.W.mg_of X G g_f_law)
  cases e
  have F_f_int := fun_mk (st := sIsInt) l_f_int c_f_int k_f_int
  have b_f_int := F_f_int.binds (ps := ["value"]) fun _ _ _ _ _ _ us hl => match us, hl with | [_], _ => rfl
  have F_f_num := fun_mk (st := sIsNum) l_f_num c_f_num k_f_num
  have b_f_num := F_f_num.binds (ps := ["value"]) fun _ _ _ _ _ _ us hl => match us, hl with | [_], _ => rfl
  have F_f_amt := fun_mk (st := sIsAmt) l_f_amt c_f_amt k_f_amt
  have b_f_amt := F_f_amt.binds (ps := ["value"]) fun _ _ _ _ _ _ us hl => match us, hl with | [_], _ => rfl
  have F_f_seed := fun_mk (st := sSeed) l_f_seed c_f_seed k_f_seed
  have b_f_seed := F_f_seed.binds (ps := ["_law_script", "_law_k"]) fun _ _ _ _ _ _ us hl => match us, hl with | [_, _], _ => rfl
  have F_f_choose := fun_mk (st := sChoose) l_f_choose c_f_choose k_f_choose
  have b_f_choose := F_f_choose.binds (ps := ["_law_box", "_law_many"]) fun _ _ _ _ _ _ us hl => match us, hl with | [_, _], _ => rfl
  have F_f_one := fun_mk (st := sOneOf) l_f_one c_f_one k_f_one
  have b_f_one := F_f_one.binds (ps := ["_law_box", "_law_some"]) fun _ _ _ _ _ _ us hl => match us, hl with | [_, _], _ => rfl
  have F_f_any := fun_mk (st := sAny) l_f_any c_f_any k_f_any
  have b_f_any := F_f_any.binds (ps := ["_law_box", "_law_deep"]) fun _ _ _ _ _ _ us hl => match us, hl with | [_, _], _ => rfl
  have F_f_ref := fun_mk (st := sRefused) l_f_ref c_f_ref k_f_ref
  have b_f_ref := F_f_ref.binds (ps := ["_law_form", "_law_at", "_law_amount"]) fun _ _ _ _ _ _ us hl => match us, hl with | [_, _, _], _ => rfl
  have F_f_ln := fun_mk (st := sLawNum) l_f_ln c_f_ln k_f_ln
  have b_f_ln := F_f_ln.binds (ps := ["_law_value", "_law_least_one"]) fun _ _ _ _ _ _ us hl => match us, hl with | [_, _], _ => rfl
  have F_f_law := fun_mk (st := sLaw) l_f_law c_f_law k_f_law
  have b_f_law := F_f_law.binds (ps := ["_law_script"]) fun _ _ _ _ _ _ us hl => match us, hl with | [_], _ => rfl
  have ox_CM : OexC K CM := ⟨⟨_, _, _, _, _, _, _, _, _, _, _, _, _, _, _, x_CM, xb_CM⟩, xsa_CM, xex_CM, xty_CM, xkc_CM⟩
  have xc_CM : XClass K CM := ⟨xis_CM, xga_CM, xgg_CM, xex_CM, xca_CM, xgn_CM, xtk_CM, xmo_CM⟩
  have xf_CM : XfC K CM := ⟨xga_CM, xgg_CM, xex_CM, xhd_CM⟩
  have F_f_im := fun_mk (st := sImInit) l_f_im c_f_im k_f_im
  have b_f_im := F_f_im.binds (ps := ["self", "word"]) fun _ _ _ _ _ _ us hl => match us, hl with | [_, _], _ => rfl
  have cl_BC : Cls K BC := ⟨pg_BC, hd_BC, po_BC, sa_BC⟩
  have cl_TC : Cls K TC := ⟨pg_TC, hd_TC, po_TC, sa_TC⟩
  have cl_RC : Cls K RC := ⟨pg_RC, hd_RC, po_RC, sa_RC⟩
  have F_f_bi := fun_mk (st := sBInit) l_f_bi c_f_bi k_f_bi
  have b_f_bi := F_f_bi.binds (ps := ["self", "amount"]) fun _ _ _ _ _ _ us hl => match us, hl with | [_, _], _ => rfl
  have F_f_bs := fun_mk (st := sBStr) l_f_bs c_f_bs k_f_bs
  have b_f_bs := F_f_bs.binds (ps := ["self"]) fun _ _ _ _ _ _ us hl => match us, hl with | [_], _ => rfl
  have F_f_ti : FunD K "__init__" "Take.__init__" (defArgs sTInit) (defBody sTInit) (defScope sTInit) [.non] [] f_ti _ := ⟨⟨_, _, _, _, _, _, _, _, _, _, rfl, l_f_ti, c_f_ti, .inr ⟨by simp, T_f_ti, _, [.none], n_f_ti, rfl, t_f_ti, rfl, .cons rfl .nil⟩, .inl rfl⟩, k_f_ti⟩
  obtain ⟨ds_, vds_, b_f_ti⟩ := F_f_ti.binds1 (ps := ["self", "at", "amount"]) 3 1 (by simp) rfl (fun _ _ _ _ _ _ _ us its hu hi => by
    match us, its, hu, hi with
    | [_, _, _], [_], _, _ => exact ⟨_, rfl, rfl⟩)
  cases vds_
  have F_f_ts := fun_mk (st := sTStr) l_f_ts c_f_ts k_f_ts
  have b_f_ts := F_f_ts.binds (ps := ["self"]) fun _ _ _ _ _ _ us hl => match us, hl with | [_], _ => rfl
  have F_f_ri := fun_mk (st := sRInit) l_f_ri c_f_ri k_f_ri
  have b_f_ri := F_f_ri.binds (ps := ["self", "at", "amount"]) fun _ _ _ _ _ _ us hl => match us, hl with | [_, _, _], _ => rfl
  have F_f_rs := fun_mk (st := sRStr) l_f_rs c_f_rs k_f_rs
  have b_f_rs := F_f_rs.binds (ps := ["self"]) fun _ _ _ _ _ _ us hl => match us, hl with | [_], _ => rfl
  have TA : Blt mg := ⟨PySem.W.mg_none_of X G z_len, PySem.W.mg_none_of X G z_abs, PySem.W.mg_none_of X G z_int⟩
  have TB : BltB mg := ⟨PySem.W.mg_none_of X G z_isinstance, PySem.W.mg_none_of X G z_int, PySem.W.mg_none_of X G z_bool⟩
  have TC' : BltC mg := ⟨PySem.W.mg_none_of X G z_range, PySem.W.mg_none_of X G z_tuple⟩
  have TL : BltL mg := ⟨PySem.W.mg_none_of X G z_len, PySem.W.mg_none_of X G z_range, PySem.W.mg_none_of X G z_max, PySem.W.mg_none_of X G z_min⟩
  have te : PySem.W.exmOne K (.ref CM) (.ref CM) = some true := by
    have e1 : (PySem.W.subIn K (.ref CM) (.type "BaseException") == some true) = true := by rw [xex_CM] <;> rfl
    have e2 : ((PySem.W.clsIn K CM).isSome && PySem.W.typeIn K (.ref CM) == some (.type "type")) = true := by
      have q : (PySem.W.clsIn K CM).isSome = true := xis_CM
      rw [q, xty_CM] <;> rfl
    show (if (PySem.W.subIn K (.ref CM) (.type "BaseException") == some true) = true then (if ((PySem.W.clsIn K CM).isSome && PySem.W.typeIn K (.ref CM) == some (.type "type")) = true then PySem.W.subIn K (.ref CM) (.ref CM) else none) else none) = some true
    rw [if_pos e1, if_pos e2]
    exact xss_CM
  have iB : PySem.W.kitOne K (.ref CM) (.ref CK) = some true := kit_ref is_CK ty_CK su_CK xss_CM
  have iRT : PySem.W.kitAny K (.ref CM) [.ref CR, .ref CT] = some false := kitAny_cons (kit_ref is_CR ty_CR su_CR xss_CM) (fun _ => kitAny_cons (kit_ref is_CT ty_CT su_CT xss_CM) (fun _ => kitAny_nil) (fun z => nomatch z)) (fun z => nomatch z)
  have TE : ErTxt K mg CM CK CR CT := ⟨xc_CM, xf_CM, no_CM_word, PySem.W.mg_of X G g_CK, PySem.W.mg_of X G g_CR, PySem.W.mg_of X G g_CT, iB, iRT, te, PySem.W.mg_none_of X G z_str, PySem.W.mg_none_of X G z_isinstance⟩
  refine ⟨PySem.W.fnOf "law" "law" (defArgs sLaw) (defBody sLaw) (defScope sLaw) .none kV_f_law dc_f_law pm_f_law an_f_law cd_f_law ct_f_law, fun s v => .of_eq rfl, fun base _ _ => ?_⟩
  have cI : Cal l.prog w K mg base CX0 "is_integer" 1 ["value"] spInt := ⟨f_int, _, ok_isInt F_f_int TB, PySem.W.mg_of X G g_f_int, k_f_int, b_f_int⟩
  have cN : CalNum l.prog w K mg base := ⟨f_num, _, ok_isNum F_f_num cI, PySem.W.mg_of X G g_f_num, k_f_num, b_f_num⟩
  have cA : CalAmt l.prog w K mg base := ⟨f_amt, _, ok_isAmt F_f_amt cN, PySem.W.mg_of X G g_f_amt, k_f_amt, b_f_amt⟩
  have cC : CalChoose l.prog w K mg base := ⟨f_choose, _, ok_choose F_f_choose TA, PySem.W.mg_of X G g_f_choose, k_f_choose, b_f_choose⟩
  have cO : CalOneOf l.prog w K mg base := ⟨f_one, _, ok_oneOf F_f_one TA cC, PySem.W.mg_of X G g_f_one, k_f_one, b_f_one⟩
  have cS : Cal l.prog w K mg base CX0 "_law_seed" 1 ["_law_script", "_law_k"] (spSeed K) := ⟨f_seed, _, ok_seed F_f_seed TA, PySem.W.mg_of X G g_f_seed, k_f_seed, b_f_seed⟩
  have cY : Cal l.prog w K mg base CX0 "_law_anything" 6 ["_law_box", "_law_deep"] (spAny 3) := ⟨f_any, _, ok_any F_f_any TC' cC cO (PySem.W.mg_of X G g_f_any) b_f_any 3, PySem.W.mg_of X G g_f_any, k_f_any, b_f_any⟩
  have cL : Cal l.prog w K mg base CX0 "_law_is_number" 1 ["_law_value", "_law_least_one"] spLawNum := ⟨f_ln, _, ok_lawNum F_f_ln TB, PySem.W.mg_of X G g_f_ln, k_f_ln, b_f_ln⟩
  have im : ImTxt l.prog w K mg base CM := ⟨PySem.W.mg_of X G g_CM, ox_CM, no_CM_word, f_im, _, ok_imInit F_f_im ox_CM no_CM_word, a_f_im, tf_im, b_f_im⟩
  have mB : MvTxt l.prog w K mg base "Begin" ["self", "amount"] BC (spBegin BC CM) (spBStr BC) := ⟨PySem.W.mg_of X G g_BC, ⟨f_bi, _, ok_bInit F_f_bi cl_BC no_BC_amount cA im, ⟨mk_BC, a_f_bi, i_f_bi, kc_BC⟩, b_f_bi⟩, ⟨f_bs, _, ok_bStr F_f_bs cl_BC no_BC_amount, a_f_bs, i_f_bs, b_f_bs⟩⟩
  have mT : MvTxt l.prog w K mg base "Take" ["self", "at", "amount"] TC (spTake TC CM) (spTStr TC) := ⟨PySem.W.mg_of X G g_TC, ⟨f_ti, _, ok_tInit F_f_ti cl_TC no_TC_at no_TC_amount cN cA im, ⟨mk_TC, a_f_ti, i_f_ti, kc_TC⟩, b_f_ti⟩, ⟨f_ts, _, ok_tStr F_f_ts cl_TC no_TC_at no_TC_amount, a_f_ts, i_f_ts, b_f_ts⟩⟩
  have mR : MvTxt l.prog w K mg base "Right" ["self", "at", "amount"] RC (spRight RC CM) (spRStr RC) := ⟨PySem.W.mg_of X G g_RC, ⟨f_ri, _, ok_rInit F_f_ri cl_RC no_RC_at no_RC_amount cN cA im, ⟨mk_RC, a_f_ri, i_f_ri, kc_RC⟩, b_f_ri⟩, ⟨f_rs, _, ok_rStr F_f_rs cl_RC no_RC_at no_RC_amount, a_f_rs, i_f_rs, b_f_rs⟩⟩
  have cR : Cal l.prog w K mg base CX0 "_law_refused" 6 ["_law_form", "_law_at", "_law_amount"] spRefused := ⟨f_ref, _, ok_refused F_f_ref TE (PySem.W.mg_of X G g_CM) mB mT mR, PySem.W.mg_of X G g_f_ref, k_f_ref, b_f_ref⟩
  exact ok_law F_f_law TL cS cO cY cL cR
theorem walk {l : PySem.W.OpenLaw} {q : Program} {loose : List Str} {XP : (Str → Option Value) → Heap → Prop} {YP : World → Heap → Prop} {d : DefRec} {K : Params → PySem.W.Frag} (hn : l.most = some 63) (hdf : d.params.defaults = [])
    (hY : ∀ (w : World) (h : Heap), YP w h → (K w.params).In h)
    (F : ∀ (w : World) (mg : Str → Option Value) (fa : Addr) (h : Heap), (K w.params).In h → h.Ns mainGlobals mg → mg d.name = some (.ref fa) →
      ∃ fd : FuncData, (∀ (s : Shared) (u : Value), BindsTo s fd ⟨[u], []⟩ [("_law_script", u)]) ∧ ∀ base : Heap, (K w.params).In base → base.Ns mainGlobals mg → FnOk l.prog w (K w.params) mg base CX0 8 fa fd ["_law_script"] (spLaw (K w.params))) :
    PySem.W.WalkO q loose XP YP l.row.toRowW d [] (fun f vs => PySem.call f vs) :=
  L2.walk_of (n := 63) (k := 8) (x := "_law_script") (CX := fun _ => CX0) (sp := fun w => spLaw (K w.params)) hn (by decide) hdf ⟨rfl, by decide, by decide⟩ hY F (fun _ _ a ns hl _ hS => ⟨a, ns, rfl, hS, hl, fun _ => rfl⟩) fun _ _ _ _ _ z => z
end V3

open PySem PySem.W PyProof.Rows in
set_option maxRecDepth 100000 in
set_option maxHeartbeats 0 in
theorem PySem.Challenge.cw_contrabooks_k03_moves_refused_holds : PySem.Challenge.rw_contrabooks_k03_moves_refused.Holds := by
  w_on; o_law; k_head; (case hw => w_witness2)
  k_fill
  refine V3.walk (l := PySem.Challenge.rw_contrabooks_k03_moves_refused) rfl rfl (fun w h Y => PySem.W.kIn_of Y) ?F
  case F =>
    intro w mg fa h KX G hmg
    refine' V3.all_mk KX G hmg ?g_f_int ?l_f_int ?c_f_int ?k_f_int ?g_f_num ?l_f_num ?c_f_num ?k_f_num ?g_f_amt ?l_f_amt ?c_f_amt ?k_f_amt ?g_f_seed ?l_f_seed ?c_f_seed ?k_f_seed ?g_f_choose ?l_f_choose ?c_f_choose ?k_f_choose ?g_f_one ?l_f_one ?c_f_one ?k_f_one ?g_f_any ?l_f_any ?c_f_any ?k_f_any ?g_f_ref ?l_f_ref ?c_f_ref ?k_f_ref ?g_f_ln ?l_f_ln ?c_f_ln ?k_f_ln ?g_f_law ?l_f_law ?c_f_law ?k_f_law ?g_CM ?g_CK ?g_CR ?g_CT ?g_BC ?g_TC ?g_RC ?x_CM ?xb_CM ?xsa_CM ?xga_CM ?xgg_CM ?xex_CM ?xty_CM ?xkc_CM ?xhd_CM ?xis_CM ?xca_CM ?xgn_CM ?xtk_CM ?xmo_CM ?xss_CM ?no_CM_word ?a_f_im ?tf_im ?l_f_im ?c_f_im ?k_f_im ?is_CK ?ty_CK ?su_CK ?is_CR ?ty_CR ?su_CR ?is_CT ?ty_CT ?su_CT ?pg_BC ?hd_BC ?po_BC ?sa_BC ?mk_BC ?kc_BC ?pg_TC ?hd_TC ?po_TC ?sa_TC ?mk_TC ?kc_TC ?pg_RC ?hd_RC ?po_RC ?sa_RC ?mk_RC ?kc_RC ?no_BC_amount ?no_TC_at ?no_TC_amount ?no_RC_at ?no_RC_amount ?a_f_bi ?i_f_bi ?l_f_bi ?c_f_bi ?k_f_bi ?a_f_bs ?i_f_bs ?l_f_bs ?c_f_bs ?k_f_bs ?a_f_ti ?i_f_ti ?l_f_ti ?c_f_ti ?k_f_ti ?t_f_ti ?a_f_ts ?i_f_ts ?l_f_ts ?c_f_ts ?k_f_ts ?a_f_ri ?i_f_ri ?l_f_ri ?c_f_ri ?k_f_ri ?a_f_rs ?i_f_rs ?l_f_rs ?c_f_rs ?k_f_rs ?z_len ?z_abs ?z_int ?z_isinstance ?z_bool ?z_range ?z_tuple ?z_str ?z_max ?z_min
    (case g_f_int => k_is)
    (case l_f_int => k_is)
    (case c_f_int => k_is)
    (case k_f_int => k_is)
    (case g_f_num => k_is)
    (case l_f_num => k_is)
    (case c_f_num => k_is)
    (case k_f_num => k_is)
    (case g_f_amt => k_is)
    (case l_f_amt => k_is)
    (case c_f_amt => k_is)
    (case k_f_amt => k_is)
    (case g_f_seed => k_is)
    (case l_f_seed => k_is)
    (case c_f_seed => k_is)
    (case k_f_seed => k_is)
    (case g_f_choose => k_is)
    (case l_f_choose => k_is)
    (case c_f_choose => k_is)
    (case k_f_choose => k_is)
    (case g_f_one => k_is)
    (case l_f_one => k_is)
    (case c_f_one => k_is)
    (case k_f_one => k_is)
    (case g_f_any => k_is)
    (case l_f_any => k_is)
    (case c_f_any => k_is)
    (case k_f_any => k_is)
    (case g_f_ref => k_is)
    (case l_f_ref => k_is)
    (case c_f_ref => k_is)
    (case k_f_ref => k_is)
    (case g_f_ln => k_is)
    (case l_f_ln => k_is)
    (case c_f_ln => k_is)
    (case k_f_ln => k_is)
    (case g_f_law => k_is)
    (case l_f_law => k_is)
    (case c_f_law => k_is)
    (case k_f_law => k_is)
    (case g_CM => k_is)
    (case g_CK => k_is)
    (case g_CR => k_is)
    (case g_CT => k_is)
    (case g_BC => k_is)
    (case g_TC => k_is)
    (case g_RC => k_is)
    (case x_CM => k_is)
    (case xb_CM => decide +kernel)
    (case xsa_CM => k_is)
    (case xga_CM => k_is)
    (case xgg_CM => k_is)
    (case xex_CM => k_is)
    (case xty_CM => k_is)
    (case xkc_CM => k_is)
    (case xhd_CM => k_is)
    (case xis_CM => k_is)
    (case xca_CM => k_is)
    (case xgn_CM => k_is)
    (case xtk_CM => k_is)
    (case xmo_CM => k_is)
    (case xss_CM => first | rfl | k_is)
    (case no_CM_word => k_is)
    (case a_f_im => k_is)
    (case tf_im => k_is)
    (case l_f_im => k_is)
    (case c_f_im => k_is)
    (case k_f_im => k_is)
    (case is_CK => k_is)
    (case ty_CK => k_is)
    (case su_CK => k_is)
    (case is_CR => k_is)
    (case ty_CR => k_is)
    (case su_CR => k_is)
    (case is_CT => k_is)
    (case ty_CT => k_is)
    (case su_CT => k_is)
    (case pg_BC => k_is)
    (case hd_BC => k_is)
    (case po_BC => k_is)
    (case sa_BC => k_is)
    (case mk_BC => k_is)
    (case kc_BC => k_is)
    (case pg_TC => k_is)
    (case hd_TC => k_is)
    (case po_TC => k_is)
    (case sa_TC => k_is)
    (case mk_TC => k_is)
    (case kc_TC => k_is)
    (case pg_RC => k_is)
    (case hd_RC => k_is)
    (case po_RC => k_is)
    (case sa_RC => k_is)
    (case mk_RC => k_is)
    (case kc_RC => k_is)
    (case no_BC_amount => k_is)
    (case no_TC_at => k_is)
    (case no_TC_amount => k_is)
    (case no_RC_at => k_is)
    (case no_RC_amount => k_is)
    (case a_f_bi => k_is)
    (case i_f_bi => k_is)
    (case l_f_bi => k_is)
    (case c_f_bi => k_is)
    (case k_f_bi => k_is)
    (case a_f_bs => k_is)
    (case i_f_bs => k_is)
    (case l_f_bs => k_is)
    (case c_f_bs => k_is)
    (case k_f_bs => k_is)
    (case a_f_ti => k_is)
    (case i_f_ti => k_is)
    (case l_f_ti => k_is)
    (case c_f_ti => k_is)
    (case k_f_ti => k_is)
    (case t_f_ti => k_is)
    (case a_f_ts => k_is)
    (case i_f_ts => k_is)
    (case l_f_ts => k_is)
    (case c_f_ts => k_is)
    (case k_f_ts => k_is)
    (case a_f_ri => k_is)
    (case i_f_ri => k_is)
    (case l_f_ri => k_is)
    (case c_f_ri => k_is)
    (case k_f_ri => k_is)
    (case a_f_rs => k_is)
    (case i_f_rs => k_is)
    (case l_f_rs => k_is)
    (case c_f_rs => k_is)
    (case k_f_rs => k_is)
    (case z_len => k_is)
    (case z_abs => k_is)
    (case z_int => k_is)
    (case z_isinstance => k_is)
    (case z_bool => k_is)
    (case z_range => k_is)
    (case z_tuple => k_is)
    (case z_str => k_is)
    (case z_max => k_is)
    (case z_min => k_is)
#print axioms PySem.Challenge.cw_contrabooks_k03_moves_refused_holds
