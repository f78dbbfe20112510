import PyProof.Rows.All
import Wide.All
import OpenK.AllK
import Wide.FinOn
import HandS.ForExc
import HandS.Comp
import HandS.Dict
import HandS.Iter
import HandS.Text
import HandS.Wide
import HandS.FStr
import HandS.IsInst
import HandS.ExcInit
import HandS.ExcField
import HandS.OwnEq
import KE.KCallOwn
import KE.KExcIs
import PyProof.NeKinds
import HandS.RaiseMore
import HandS.ExcIs
import HandS.Star
import HandS.ClsMeth
import HandS.StrMore
import PyProof.InstEq
import PyProof.Rows.NestShow
import HandS.Ends
import HandS.Zip
import HandS.Walk
import HandS.Defaults
import PySem.Challenge.RW_contrabooks_k10_rows_of_houses_and_repor
set_option Elab.async false
set_option linter.all false
set_option maxRecDepth 100000
/-! Rules of our own over the hand layer: an object made whose making may raise, within a try; str(o) by its own def; isinstance of a caught error with fields. -/
namespace V3
open PySem L2 PyProof.Rows
section
variable {X : Cx} {CX : CXT} {k : Nat} {f C : Addr} {fd : FuncData} {ps : List Str} {sp : Sp} {E : L2.St → XK} {x : Str} {p pos : Pos} {e : Expr} {es : List Expr} {t : TA} {dvs : List V} {ds : List Value}
theorem make_at {pins : List (Addr × Obj)} {σ : L2.St} {H : Hp} {s : Shared} {Q : VK}
    {us : List Value} {vs : List V} (M : Mk X.K C f)
    (F : FnOk X.prog X.w X.K X.mg X.base CX k f fd ps sp)
    (room : Room (k + 1) X.A) (bi : Binds X.K fd ps ds) (va : Vals dvs ds)
    (out : PassesAt CX X σ (E σ)) (I : Inv X pins σ H s) (r : Vals vs us)
    (h : ∀ y dy, H y = none → H dy = none → dy ≠ y →
      sp (.ref y :: (vs ++ dvs)) (upd (upd H dy (.own y)) y (.ins C dy []))
        (fun v H2 => v = .non ∧ Q (.ref y) H2) (E σ)) :
    wpAny (model X.prog X.w) X.A (call (.ref C) us) (EP X pins σ Q) X.xe s := by
  have want := h (s.heap.objs.size + 1) s.heap.objs.size
    (I.hok.fresh (Nat.le_succ _)) (I.hok.fresh (Nat.le_refl _))
    (Nat.ne_of_lt (Nat.lt_succ_self _))
  have J := Inv.made (C := C) I
  have rr : Vals (V.ref (s.heap.objs.size + 1) :: (vs ++ dvs))
      (Value.ref (s.heap.objs.size + 1) :: (us ++ ds)) := .cons rfl (r.append va)
  have len : (Value.ref (s.heap.objs.size + 1) :: us ++ ds).length = ps.length := by
    have q := rr.length
    rw [F.len _ _ _ _ want] at q
    exact q.symm
  have bound := bi _ (Value.ref (s.heap.objs.size + 1) :: us) J.kIn len
  have ran := F.run _ X.stack _ _ ⟨Value.ref (s.heap.objs.size + 1) :: us, []⟩
    (Value.ref (s.heap.objs.size + 1) :: (us ++ ds)) _ _ (E σ)
    (room.make C us []) (J.env0.make C us []) bound rr want
  refine wpAny_call (make_map (f := f) I.kIn M.makes M.init
    (beq_iff_eq.mp M.fn) (codeAny_mono ran fun res s' hq => ?_))
  match res, hq with
  | .error err, hq => exact out pins _ _ err s' J hq
  | .ok (.ret u), hq =>
    obtain ⟨v, H', I3, rv, ev, q3⟩ := J.after hq
    subst ev
    exact ⟨rv, ⟨V.ref (s.heap.objs.size + 1), H', I3, rfl, q3⟩⟩
  | .ok .next, hq => exact hq.elim
  | .ok .brk, hq => exact hq.elim
  | .ok .cont, hq => exact hq.elim
/-- C(e, ..) where what its making raises is wished for at the slots -/
def tMakeS (C : Addr) (sp : Sp) (dvs : List V) (E : L2.St → XK) (t : TA) : TE :=
  fun σ H Q => t σ H fun vs H1 => ∀ y dy, H1 y = none → H1 dy = none → dy ≠ y →
    sp (.ref y :: (vs ++ dvs)) (upd (upd H1 dy (.own y)) y (.ins C dy []))
      (fun v H2 => v = .non ∧ Q (.ref y) H2) (E σ)
theorem pe_makeS (M : Mk X.K C f) (F : FnOk X.prog X.w X.K X.mg X.base CX k f fd ps sp)
    (room : Room (k + 1) X.A) (hg : Gl X x) (hm : X.mg x = some (.ref C))
    (bi : Binds X.K fd ps ds) (va : Vals dvs ds) (out : ∀ σ, PassesAt CX X σ (E σ))
    (ha : PA X (e :: es) t) (hdb : (x == ("__debug__" : Str)) = false := by decide)
    (he : starEach (e :: es) X.env = (false, eval e X.env) :: starEach es X.env := by rfl)
    (hpl : (backTo pos (starEach es X.env)).any (·.1) = false := by rfl) :
    PE X (.Call (.Name x p) (e :: es) [] pos) (tMakeS C sp dvs E t) := by
  refine ⟨fun pins s σ H Q I h => wpAny_Call_Name_kw (ld_glob I hg hm ?_ hdb)⟩
  refine PySem.W.callWith_K (h₀ := X.base) I.ok.mod.kin M.kp ?_ he hpl
  exact thn (ha.run pos pins s σ H _ I h) fun us s1 ⟨vs, H1, I1, r, q⟩ =>
    ⟨I1.kIn, make_at M F room bi va (out σ) I1 r q⟩
end
/-! str(o), o of an own class with its own __str__ -/
section
variable {X : Cx} {CX : CXT} {n : Nat} {f C : Addr} {fd : FuncData} {ps : List Str} {sp : Sp} {E : XK}
theorem room2 {A : Around} (r : Room (n + 2) A) : Room n A.in1.in1 := Room.in1 (k := n) (Room.in1 (k := n + 1) r)
def rStrO (C : Addr) (sp : Sp) (E : XK) : List V → Hp → VK → Prop := fun xs H Q =>
  ∃ a dx fs, xs = [.ref a] ∧ H a = some (.ins C dx fs) ∧
    sp [.ref a] H (fun v H' => ∃ y : Str, v = .str y ∧ Q (.str y) H') E
theorem call_strO (F : FnOk X.prog X.w X.K X.mg X.base CX n f fd ps sp)
    (at_ : PySem.W.findIn X.K (.ref C) "__str__" = some (some (.ref f)))
    (isf : PySem.W.isFn X.K (.ref f) = true) (bi : Binds X.K fd ps [])
    (out : Passes CX X E) (room : Room (n + 2) X.A) : CallR X (.type "str") (rStrO C sp E) := by
  intro pins s σ H xs us Q I r h
  obtain ⟨a, dx, fs, rfl, ha, want⟩ := h
  cases r with
  | cons r1 rn =>
    cases rn
    cases r1
    obtain ⟨mA, O, _⟩ := ins_get I.hok ha
    obtain ⟨od, J, _⟩ := O.look
    have rr := room2 room
    refine PySem.W.kso_call rr.units0 I.kIn J at_ isf ?_
    have e0 : Env0 X.prog X.w X.K X.mg X.base X.A.in1.in1 X.stack s H := I.env0.in1.in1
    have len := F.len _ _ _ _ want
    have bound : BindsTo s fd ⟨[.ref a], []⟩ (ps.zip [Value.ref a]) := by
      have b := bi s [.ref a] I.kIn (by simpa using len)
      simpa using b
    have ran := F.run X.A.in1.in1 X.stack s H ⟨[.ref a], []⟩ [.ref a] [.ref a] _ E rr e0 bound (.cons rfl .nil) want
    refine wpAny_call (codeAny_mono ran fun res s' hq => ?_)
    match res, hq with
    | .error err, hq => exact out pins σ H s err s' I hq
    | .ok (.ret u), hq =>
      obtain ⟨v, H', I', rv, y, ev, q⟩ := I.after hq
      subst ev
      obtain ⟨t, rfl⟩ := rv
      exact ⟨.str y, H', I', ⟨t, rfl⟩, q⟩
    | .ok .next, hq => exact hq.elim
    | .ok .brk, hq => exact hq.elim
    | .ok .cont, hq => exact hq.elim
end
/-! isinstance(e, c), isinstance(e, (c, ..)), e the error that the suite holds -/
structure XClass (K : PySem.W.Frag) (D : Addr) : Prop where
  is : (PySem.W.clsIn K D).isSome = true
  ga : PySem.W.findIn K (.ref D) "__getattribute__" = some (some (.builtin "BaseException.__getattribute__"))
  gt : PySem.W.findIn K (.ref D) "__getattr__" = some none
  sb : PySem.W.subIn K (.ref D) (.type "BaseException") = some true
  ca : PySem.W.findIn K (.ref D) "__class__" = some (some (.builtin "object.__class__"))
  gn : PySem.W.specialIn K (.builtin "object.__class__") "__get__" = some (some (.builtin "getset_descriptor.__get__"))
  tk : PySem.W.takesIn K (.builtin "object.__class__") = some true
  mo : PySem.W.mroIn K D (.type "object") = some true
section
variable {X : Cx} {a D : Addr} {oe : Obj} {pn : List (Addr × Obj)} {d : Option Addr}
theorem held_at {pins : List (Addr × Obj)} {σ : L2.St} {H : Hp} {s : Shared} {dd : Addr} {fs : List (Str × V)}
    (hz : Zc (.ref D) (some dd) oe) (hf : ∃ vs, oe.data = .fields vs)
    (I : Inv (X.suite a ((a, oe) :: pn)) pins σ H s) (hd : H dd = some (.xd fs)) :
    ∃ od : Obj, PySem.W.InstAt s.heap a oe D (some od) := by
  obtain ⟨ha, _⟩ := I.pin (a, oe) (List.mem_append_left _ List.mem_cons_self)
  obtain ⟨vs, hv⟩ := hf
  have hx : ObjOk X.prog X.w H s.heap dd (.xd fs) := I.hok dd _ hd
  obtain ⟨mA, hns, _⟩ := hx
  obtain ⟨od, ho, _⟩ := lookIn_ns hns
  exact ⟨od, ha, hz.1, by unfold PySem.W.notCls; rw [hv] <;> rfl, by rw [hz.2]; exact ho⟩
def rIsX (K : PySem.W.Frag) (D a : Addr) (cls : Value) (d : Option Addr) : List V → Hp → VK → Prop := fun xs H Q =>
  ∃ (dd : Addr) (fs : List (Str × V)) (c : V) (u : Value) (b : Bool), cls = .ref D ∧ d = some dd ∧ H dd = some (.xd fs) ∧
    xs = [.ref a, c] ∧ ClsV c u ∧ PySem.W.kitOne K (.ref D) u = some b ∧ Q (.bl b) H
theorem call_isX {cls : Value} (T : XClass X.K D) (hz : Zc cls d oe) (hf : ∃ vs, oe.data = .fields vs) :
    CallR (X.suite a ((a, oe) :: pn)) (.builtin "isinstance") (rIsX X.K D a cls d) := by
  intro pins s σ H xs us Q I r h
  obtain ⟨dd, fs, c, u, b, rfl, rfl, hd, rfl, k, e, q⟩ := h
  obtain ⟨u1, u2, rfl, r1, r2⟩ := vals2 r
  cases (show u1 = Value.ref a from r1)
  have e2 := k.eq r2
  subst e2
  obtain ⟨od, J⟩ := held_at hz hf I hd
  exact PySem.W.kia_one (PySem.W.kitx_exc T.is T.ga T.gt T.sb T.ca T.gn T.tk T.mo) I.kIn J e (fun z => nomatch z)
    fun tk => ⟨.bl b, H, I.tok tk, rfl, q⟩
def rIsXT (K : PySem.W.Frag) (D a : Addr) (cls : Value) (d : Option Addr) : List V → Hp → VK → Prop := fun xs H Q =>
  ∃ (dd : Addr) (fs : List (Str × V)) (tp : Addr) (cs : List V) (us : List Value) (b : Bool), cls = .ref D ∧ d = some dd ∧ H dd = some (.xd fs) ∧
    xs = [.ref a, .ref tp] ∧ H tp = some (.tup cs) ∧ Paired ClsV cs us ∧ PySem.W.kitAny K (.ref D) us = some b ∧ Q (.bl b) H
theorem call_isXT {cls : Value} (T : XClass X.K D) (hz : Zc cls d oe) (hf : ∃ vs, oe.data = .fields vs) :
    CallR (X.suite a ((a, oe) :: pn)) (.builtin "isinstance") (rIsXT X.K D a cls d) := by
  intro pins s σ H xs us Q I r h
  obtain ⟨dd, fs, tp, cs, ws, b, rfl, rfl, hd, rfl, hT, k, e, q⟩ := h
  obtain ⟨u1, u2, rfl, r1, r2⟩ := vals2 r
  cases (show u1 = Value.ref a from r1)
  cases (show u2 = Value.ref tp from r2)
  obtain ⟨od, J⟩ := held_at hz hf I hd
  have okT : ObjOk X.prog X.w H s.heap tp (.tup cs) := I.hok tp _ hT
  obtain ⟨_, items, vals, ob, got, isT, m, dat⟩ := okT
  have same := ClsV.all k vals
  subst same
  obtain ⟨c0, d0, dt0, s0⟩ := ob
  simp only at isT dat
  subst isT dat
  exact PySem.W.kia_tup (PySem.W.kitx_exc T.is T.ga T.gt T.sb T.ca T.gn T.tk T.mo) I.kIn J got e (fun z => nomatch z)
    fun tk => ⟨.bl b, H, I.tok tk, rfl, q⟩
end
end V3

set_option Elab.async false
set_option linter.all false
set_option maxRecDepth 100000
/-! Further rules of our own: C() without an own __init__, len(o) by an own __len__, repr of small values, a list against the empty one. -/
namespace V3
open PySem L2 PyProof.Rows
section
variable {X : Cx} {C : Addr} {x : Str} {p pos : Pos}
/-- what a class without an own __init__ must have to be made -/
structure Mk0 (K : PySem.W.Frag) (C : Addr) : Prop where
  makes : PySem.W.makesIn K C = true
  ini : PySem.W.findIn K (.ref C) "__init__" = some (some (.builtin "object.__init__"))
  kp : PySem.W.keepIn K (.ref C) = true
def tNew (C : Addr) : TE := fun σ H Q => ∀ y dy, H y = none → H dy = none → dy ≠ y → Q (.ref y) (upd (upd H dy (.own y)) y (.ins C dy []))
theorem pe_new0 (M : Mk0 X.K C) (hg : Gl X x) (hm : X.mg x = some (.ref C)) (hdb : (x == ("__debug__" : Str)) = false := by decide) :
    PE X (.Call (.Name x p) [] [] pos) (tNew C) := by
  refine ⟨fun pins s σ H Q I h => wpAny_Call_Name_kw (ld_glob I hg hm ?_ hdb)⟩
  refine PySem.W.callWith_K0 I.kIn M.kp ?_
  have J := Inv.made (C := C) I
  have want := h (s.heap.objs.size + 1) s.heap.objs.size (I.hok.fresh (Nat.le_succ _)) (I.hok.fresh (Nat.le_refl _)) (Nat.ne_of_lt (Nat.lt_succ_self _))
  show wpAny _ _ (call (.ref C) []) _ _ _
  have KX := I.kIn
  refine wpAny_call (make_map0 KX M.makes M.ini (fun self => PySem.W.Looks.of_pure (PySem.W.oi_bind self)) ?_)
  have Y := PySem.W.makes_of (M := model X.prog X.w) KX M.makes
  obtain ⟨hh, g, d, t, os⟩ := s
  have own : ((hh.push PySem.W.emptyDict).push (PySem.W.instObj C hh.objs.size)).get? (hh.objs.size + 1) = some (PySem.W.instObj C hh.objs.size) := by heap_get
  have ty : PySem.W.Looks (model X.prog X.w) ((hh.push PySem.W.emptyDict).push (PySem.W.instObj C hh.objs.size)) (typeOf (.ref (hh.objs.size + 1))) (.ref C) :=
    (PySem.W.Looks.ld own).andThen .now
  have sub : PySem.W.Looks (model X.prog X.w) ((hh.push PySem.W.emptyDict).push (PySem.W.instObj C hh.objs.size)) (isInstance (.ref (hh.objs.size + 1)) (.type "object")) true := ty.andThen (Y.top.keeps fun b o e => Heap.get?_push_of_some _ (Heap.get?_push_of_some _ e))
  refine codeAny_call_builtin PySem.W.oi_plain PySem.W.entry_oi
    (@PySem.W.check_slot (model X.prog X.w) _ _ _ "object.__init__" "object" "__init__" (.ref (hh.objs.size + 1)) [] [] _
      PySem.W.oi_kind PySem.W.oi_split sub (PySem.W.oi_args (.ref (hh.objs.size + 1))) ?_)
  rw [PySem.W.oi_run]
  exact wpAny_pure (And.intro rfl ⟨V.ref (hh.objs.size + 1), _, J, rfl, want⟩)
end
section
variable {X : Cx} {CX : CXT} {n : Nat} {f C : Addr} {fd : FuncData} {ps : List Str} {sp : Sp} {E : XK}
/-- len(o), o of a class with its own __len__ -/
def rLenO (C : Addr) (sp : Sp) (E : XK) : List V → Hp → VK → Prop := fun xs H Q =>
  ∃ a dx fs, xs = [.ref a] ∧ H a = some (.ins C dx fs) ∧ sp [.ref a] H (fun v H' => ∃ i : Int, v = .int i ∧ (0 ≤ i ∧ i < 2 ^ 63) ∧ Q (.int i) H') E
theorem call_lenO (F : FnOk X.prog X.w X.K X.mg X.base CX n f fd ps sp) (at_ : PySem.W.findIn X.K (.ref C) "__len__" = some (some (.ref f)))
    (isf : PySem.W.isFn X.K (.ref f) = true) (bi : Binds X.K fd ps []) (out : Passes CX X E) (room : Room (n + 1) X.A) : CallR X (.builtin "len") (rLenO C sp E) := by
  intro pins s σ H xs us Q I r h
  obtain ⟨a, dx, fs, rfl, ha, want⟩ := h
  cases r with
  | cons r1 rn =>
    cases rn
    cases r1
    obtain ⟨mA, O, _⟩ := ins_get I.hok ha
    obtain ⟨od, J, _⟩ := O.look
    obtain ⟨m, hF⟩ := I.fr
    have rr : Room n X.A.in1 := Room.in1 (k := n) room
    refine PySem.W.len_K hF I.ok.mod.kin J at_ isf ?_
    have e0 : Env0 X.prog X.w X.K X.mg X.base X.A.in1 X.stack s H := I.env0.in1
    have len := F.len _ _ _ _ want
    have bound : BindsTo s fd ⟨[.ref a], []⟩ (ps.zip [Value.ref a]) := by
      have b := bi s [.ref a] I.kIn (by simpa using len)
      simpa using b
    have ran := F.run X.A.in1 X.stack s H ⟨[.ref a], []⟩ [.ref a] [.ref a] _ E rr e0 bound (.cons rfl .nil) want
    refine wpAny_call (codeAny_mono ran fun res s' hq => ?_)
    match res, hq with
    | .error err, hq => exact out pins σ H s err s' I hq
    | .ok (.ret u), hq =>
      obtain ⟨v, H', I', rv, i, ev, hi, q⟩ := I.after hq
      subst ev
      obtain ⟨t, rfl⟩ := rv
      exact ⟨hi, .int i, H', I'.tok _, ⟨_, rfl⟩, q⟩
    | .ok .next, hq => exact hq.elim
    | .ok .brk, hq => exact hq.elim
    | .ok .cont, hq => exact hq.elim
end
section
variable {X : Cx}
theorem call_repr_str : CallR X (.builtin "repr") (fun xs H Q => ∃ z : Str, xs = [.str z] ∧ (reprText z).length ≤ sizeLine ∧ Q (.str (reprText z)) H) := by
  intro pins s σ H xs us Q I r h
  obtain ⟨z, rfl, hz, q⟩ := h
  obtain ⟨u, rfl, t, rfl⟩ := vals1 r
  exact PySem.P.repr_of_str ⟨.str _, H, I.tok _, ⟨_, rfl⟩, q⟩ hz
/-- an int or a text -/
def rRepr : List V → Hp → VK → Prop := fun xs H Q => (∃ i : Int, xs = [.int i] ∧ i.natAbs.log2 < 1920 ∧ Q (.str (toString i)) H) ∨
  (∃ z : Str, xs = [.str z] ∧ (reprText z).length ≤ sizeLine ∧ Q (.str (reprText z)) H)
theorem call_reprIS : CallR X (.builtin "repr") rRepr := by
  intro pins s σ H xs us Q I r h
  rcases h with h | h
  · exact SkE.call_repr_int pins s σ H xs us Q I r h
  · exact call_repr_str pins s σ H xs us Q I r h
/-- xs != [] -/
def rNeE : R2 := fun x y H Q => ∃ l b xs, x = .ref l ∧ y = .ref b ∧ H l = some (.lst xs) ∧ H b = some (.lst []) ∧ Q (.bl (!xs.isEmpty)) H
theorem op_neE (hu : X.A.units < cLine) : OpR X (compareOp .NotEq) rNeE := by
  intro pins s σ H x y v u Q I rx ry h
  obtain ⟨l, b, xs, rfl, rfl, hl, hb, q⟩ := h
  cases rx
  cases ry
  obtain ⟨z, its, k, r, e⟩ := I.hok l _ hl
  obtain ⟨z2, its2, k2, r2, e2⟩ := I.hok b _ hb
  cases r2
  have L1 : s.heap.IsList l its.toArray := ⟨_, e, rfl, k, rfl⟩
  have L2' : s.heap.IsList b ([] : List Value).toArray := ⟨_, e2, rfl, k2, rfl⟩
  refine PySem.W.cmp_ofNotEq ?_
  cases r with
  | nil =>
    have c := PySem.SeqAt.RcNeAt.lists (e := fun _ => true) L1 L2' rfl hu (fun j h1 _ => absurd h1 (Nat.not_lt_zero _))
    exact c X.prog X.w X.xe _ ⟨.bl false, H, I, rfl, q⟩
  | @cons x0 u0 xs0 us0 r0 rr =>
    have c := PySem.SeqAt.RcNeAt.lists_lengths L1 L2' (by simp) hu
    exact c X.prog X.w X.xe _ ⟨.bl true, H, I, rfl, q⟩
end
end V3

set_option Elab.async false
set_option linter.all false
set_option maxRecDepth 100000
namespace V3
open PySem L2
def top (i : Nat) : Stmt := PySem.Challenge.pw_contrabooks_k10_rows_of_houses_and_repor.main.body.getD i (.Pass ⟨0, 0, 0, 0⟩)
abbrev sSeed : Stmt := top 18
abbrev sChoose : Stmt := top 19
abbrev sOneOf : Stmt := top 20
/-- the box of draws: two numbers -/
def BoxOk (u v : Int) : Prop := 0 ≤ u ∧ 1 ≤ v ∧ v ≤ 2147483629
def box (u v : Int) : HO := .lst [.int u, .int v]
def BoxAt (H : Hp) (b : Addr) : Prop := ∃ u v, BoxOk u v ∧ H b = some (box u v)
def spSeed (K : PySem.W.Frag) : Sp := fun vs H Q _ => ∃ (a : Addr) (ns : List Int) (k : Int), vs = [.ref a, .int k] ∧ SqL K H a (ns.map V.int) ∧ ns.length ≤ 63 ∧ 0 ≤ k ∧ k ≤ 100 ∧
  ∀ (p : Addr) (u v : Int), H p = none → BoxOk u v → Q (.ref p) (upd H p (box u v))
def spChoose : Sp := fun vs H Q _ => ∃ (b : Addr) (u v m : Int), vs = [.ref b, .int m] ∧ H b = some (box u v) ∧ BoxOk u v ∧ 1 ≤ m ∧ m ≤ 1000000000000 ∧
  ∀ d u' v' : Int, 0 ≤ d → d < m → BoxOk u' v' → Q (.int d) (upd H b (box u' v'))
def spOneOf (K : PySem.W.Frag) : Sp := fun vs H Q _ => ∃ (b l : Addr) (u v : Int) (xs : List V), vs = [.ref b, .ref l] ∧ H b = some (box u v) ∧ BoxOk u v ∧ l ≠ b ∧ SqL K H l xs ∧ 1 ≤ xs.length ∧ xs.length ≤ 1000 ∧
  ∀ (x : V) (u' v' : Int), x ∈ xs → BoxOk u' v' → Q x (upd H b (box u' v'))
structure Blt (mg : Str → Option Value) : Prop where
  len : mg "len" = none
  abs : mg "abs" = none
  int : mg "int" = none
/-- a def that stands at a name of the module -/
def Cal (P : Program) (w : World) (K : PySem.W.Frag) (mg : Str → Option Value) (base : Heap) (CX : CXT) (name : Str) (k : Nat) (ps : List Str) (sp : Sp) : Prop :=
  ∃ (f : Addr) (fd : FuncData), FnOk P w K mg base CX k f fd ps sp ∧ mg name = some (.ref f) ∧ PySem.W.keepIn K (.ref f) = true ∧ Binds K fd ps []
theorem seqL_ne {K : PySem.W.Frag} {H : Hp} {l b : Addr} {o : HO} {xs : List V} (ne : l ≠ b) (h : SqL K H l xs) : SqL K (upd H b o) l xs := by
  rcases h with (h | ⟨o, h⟩) | h
  · exact .inl (.inl (by rw [upd_ne ne]; exact h))
  · exact .inl (.inr ⟨o, by rw [upd_ne ne]; exact h⟩)
  · exact .inr h
theorem atI_ints {ns : List Int} {i : Int} (h0 : 0 ≤ i) (hj : i.toNat < ns.length) : atI (ns.map V.int) i = some (.int ns[i.toNat]) := by
  have e : ixN (ns.map V.int).length i = some i.toNat := by
    unfold ixN
    rw [if_pos h0, if_pos (by rw [List.length_map]; omega)]
  show (ixN (ns.map V.int).length i).bind (fun j => (ns.map V.int)[j]?) = some (.int ns[i.toNat])
  rw [e]
  show (ns.map V.int)[i.toNat]? = some (.int ns[i.toNat])
  rw [List.getElem?_map, List.getElem?_eq_getElem hj]
  rfl
section
variable {P : Program} {w : World} {K : PySem.W.Frag} {mg : Str → Option Value} {base : Heap}
theorem scSeed : FnScope ["_law_script", "_law_k", "_law_cell"] ["_law_script", "_law_k"] (defScope sSeed) := ⟨rfl, rfl, rfl, by decide +kernel, rfl, by decide +kernel, by decide +kernel⟩
theorem scChoose : FnScope ["_law_box", "_law_many", "_law_digit", "_law_first"] ["_law_box", "_law_many"] (defScope sChoose) := ⟨rfl, rfl, rfl, by decide +kernel, rfl, by decide +kernel, by decide +kernel⟩
theorem scOneOf : FnScope ["_law_box", "_law_some"] ["_law_box", "_law_some"] (defScope sOneOf) := ⟨rfl, rfl, rfl, by decide +kernel, rfl, by decide +kernel, by decide +kernel⟩
theorem ok_choose {f : Addr} {fd : FuncData} (F : Fun K "_law_choose" "_law_choose" sChoose f fd) (T : Blt mg) : FnOk P w K mg base CX0 1 f fd ["_law_box", "_law_many"] spChoose := by
  refine F.ok scChoose (fun vs H Q E h => ?_) (fun cdv A outer s H vs Q E hr h => ?_)
  · obtain ⟨b, u, v, m, rfl, _⟩ := h
    rfl
  · obtain ⟨b, u, v, m, rfl, hb, ok, m1, m2, k⟩ := h
    refine ⟨_, pss_cons (ps_if (pt_cmpR op_gt (pe_ix ix_list (pv 0) pe_int (fun _ _ => rfl)) pe_int (nomark _))
        (pss_cons (ps_set (i := 2) scChoose.nd rfl (Or.inl rfl) (pe_op op_mod (pe_callTy call_int1 (by rfl) T.int (by decide +kernel) (pa_cons (pe_ix ix_list (pv 0) pe_int (fun _ _ => rfl)) pa_nil)) (pv 1)))
        (pss_cons (ps_asg (pe_op op_fdivW (pe_ix ix_list (pv 0) pe_int (fun _ _ => rfl)) (pv 1)) (pg_sub (pv 0) pe_int set_list))
        (pss_one (ps_ret (pv 2))))) pss_nil)
      (pss_cons (ps_set (i := 3) scChoose.nd rfl (Or.inl rfl) (pe_op op_mod (pe_callTy call_int1 (by rfl) T.int (by decide +kernel) (pa_cons (pe_op op_add (pe_op op_mul (pe_ix ix_list (pv 0) pe_int (fun _ _ => rfl)) pe_int) pe_int) pa_nil)) pe_int))
      (pss_cons (ps_asg (pe_op op_add (pe_op op_mod (pe_callTy call_int1 (by rfl) T.int (by decide +kernel) (pa_cons (pe_op op_add (pe_op op_mul (pv 3) pe_int) pe_int) pa_nil)) pe_int) pe_int) (pg_sub (pv 0) pe_int set_list))
      (pss_one (ps_ret (pe_op op_mod (pe_callTy call_int1 (by rfl) T.int (by decide +kernel) (pa_cons (pe_op op_fdivW (pe_op op_add (pe_op op_mul (pv 3) pe_int) (pe_ix ix_list (pv 0) pe_int (fun _ _ => rfl))) pe_int) pa_nil)) (pv 1)))))), ?_⟩
    obtain ⟨u0, v1, v2⟩ := ok
    have hm : (0 : Int) < m := by omega
    have hw : m.natAbs < 2 ^ 40 := by
      have : (2 : Nat) ^ 40 = 1099511627776 := by decide
      omega
    refine ⟨_, rfl, b, _, 0, _, rfl, rfl, SqL.of hb, rfl, _, _, rfl, rfl, _, rfl, ?_⟩
    refine ite2 (fun c => ?_) (fun c => ?_)
    · refine ⟨_, rfl, b, _, 0, _, rfl, rfl, SqL.of hb, rfl, .inl ⟨_, rfl, _, rfl, _, _, rfl, rfl, hm, ?_⟩⟩
      refine ⟨_, rfl, b, _, 0, _, rfl, rfl, SqL.of hb, rfl, _, rfl, _, _, rfl, rfl, wide_div hm hw (by decide) (by decide), ?_⟩
      refine ⟨_, rfl, b, _, 0, 0, rfl, rfl, hb, rfl, _, rfl, ?_⟩
      exact k _ _ _ (Int.emod_nonneg _ (by omega)) (Int.emod_lt_of_pos _ hm) ⟨Int.ediv_nonneg u0 (by omega), v1, v2⟩
    · refine ⟨_, rfl, b, _, 1, _, rfl, rfl, SqL.of hb, rfl, _, _, rfl, rfl, .inl (by constructor <;> omega), _, _, rfl, rfl, .inl ⟨_, rfl, _, _, rfl, rfl, (by show (0 : Int) < 2147483563; decide), ?_⟩⟩
      have a1 := Int.emod_nonneg (v * 40014 + 11) (by decide : (2147483563 : Int) ≠ 0)
      have a2 := Int.emod_lt_of_pos (v * 40014 + 11) (by decide : (0 : Int) < 2147483563)
      refine ⟨_, rfl, _, _, rfl, rfl, .inl (by constructor <;> omega), _, _, rfl, rfl, .inl ⟨_, rfl, _, _, rfl, rfl, (by show (0 : Int) < 2147483629; decide), _, _, rfl, rfl, ?_⟩⟩
      refine ⟨_, rfl, b, _, 1, 1, rfl, rfl, hb, rfl, ?_⟩
      have b1 := Int.emod_nonneg ((v * 40014 + 11) % 2147483563 * 40692 + 2903) (by decide : (2147483629 : Int) ≠ 0)
      have b2 := Int.emod_lt_of_pos ((v * 40014 + 11) % 2147483563 * 40692 + 2903) (by decide : (0 : Int) < 2147483629)
      refine ⟨_, rfl, _, _, rfl, rfl, .inl (by constructor <;> omega), _, rfl, b, _, 1, _, rfl, rfl, SqL.of upd_same, rfl, _, _, rfl, rfl, _, _, rfl, rfl, wide_div (b := 14) (by decide) (by decide) (by decide) (by decide), .inl ⟨_, rfl, _, rfl, _, _, rfl, rfl, hm, ?_⟩⟩
      exact k _ _ _ (Int.emod_nonneg _ (by omega)) (Int.emod_lt_of_pos _ hm) ⟨u0, by omega, by omega⟩
theorem ok_oneOf {f : Addr} {fd : FuncData} (F : Fun K "_law_one_of" "_law_one_of" sOneOf f fd) (T : Blt mg) (c : Cal P w K mg base CX0 "_law_choose" 1 ["_law_box", "_law_many"] spChoose) : FnOk P w K mg base CX0 2 f fd ["_law_box", "_law_some"] (spOneOf K) := by
  obtain ⟨fC, fdC, GC, mC, kC, bC⟩ := c
  refine F.ok scOneOf (fun vs H Q E h => ?_) (fun cdv A outer s H vs Q E hr h => ?_)
  · obtain ⟨b, l, u, v, xs, rfl, _⟩ := h
    rfl
  · obtain ⟨b, l, u, v, xs, rfl, hb, ok, ne, hS, x1, x2, k⟩ := h
    refine ⟨_, pss_one (ps_ret (pe_ix ix_list (pv 1) (pe_call GC hr rfl mC kC bC .nil pass0 (pa_cons (pv 0) (pa_cons (pe_callB call_len_seq (by rfl) T.len PySem.boot_len (pa_cons (pv 1) pa_nil)) pa_nil))) (fun _ _ => rfl))), ?_⟩
    refine ⟨_, rfl, _, rfl, _, rfl, l, _, rfl, .inl hS, b, u, v, _, rfl, hb, ok, (by omega), (by omega), fun d u' v' d0 d1 ok' => ?_⟩
    have hj : d.toNat < xs.length := by omega
    refine ⟨l, xs, d, xs[d.toNat], rfl, rfl, ?_, ?_, k _ _ _ (List.getElem_mem hj) ok'⟩
    · exact seqL_ne ne hS
    · have e : ixN xs.length d = some d.toNat := by
        unfold ixN
        rw [if_pos d0, if_pos (by omega)]
      show (ixN xs.length d).bind (fun j => xs[j]?) = some xs[d.toNat]
      rw [e]
      exact List.getElem?_eq_getElem hj
theorem ok_seed {f : Addr} {fd : FuncData} (F : Fun K "_law_seed" "_law_seed" sSeed f fd) (T : Blt mg) : FnOk P w K mg base CX0 1 f fd ["_law_script", "_law_k"] (spSeed K) := by
  refine F.ok scSeed (fun vs H Q E h => ?_) (fun cdv A outer s H vs Q E hr h => ?_)
  · obtain ⟨a, ns, k, rfl, _⟩ := h
    rfl
  · obtain ⟨a, ns, k, rfl, hS, hl, k0, k1, go⟩ := h
    refine ⟨_, pss_cons (ps_set (i := 2) scSeed.nd rfl (Or.inl rfl) (pe_op op_add (pe_op op_mul pe_int (pv 1)) pe_int))
      (pss_cons (ps_if (pt_cmpR op_lt (pv 1) (pe_callB call_len_seq (by rfl) T.len PySem.boot_len (pa_cons (pv 0) pa_nil)) (nomark _))
        (pss_one (ps_set (i := 2) scSeed.nd rfl (Or.inl rfl) (pe_callB call_abs (by rfl) T.abs (by decide +kernel) (pa_cons (pe_ix ix_list (pv 0) (pv 1) (fun _ _ => rfl)) pa_nil))))
        (pss_one (ps_if (pt_cmpR op_gt (pe_callB call_len_seq (by rfl) T.len PySem.boot_len (pa_cons (pv 0) pa_nil)) pe_int (nomark _))
          (pss_one (ps_set (i := 2) scSeed.nd rfl (Or.inl rfl) (pe_op op_add (pv 2) (pe_op op_mul (pe_op op_mod (pe_callTy call_int1 (by rfl) T.int (by decide +kernel) (pa_cons (pe_callB call_abs (by rfl) T.abs (by decide +kernel) (pa_cons (pe_ix ix_list (pv 0) (pe_op op_mod (pe_callTy call_int1 (by rfl) T.int (by decide +kernel) (pa_cons (pv 1) pa_nil)) (pe_callB call_len_seq (by rfl) T.len PySem.boot_len (pa_cons (pv 0) pa_nil))) (fun _ _ => rfl)) pa_nil)) pa_nil)) pe_int) pe_int))))
          pss_nil)))
      (pss_one (ps_ret (pe_lst (pa_cons (pe_ifExp (pt_cmpR op_ge (pv 2) (pe_op op_pow pe_int pe_int) (nomark _)) (pv 2) pe_int)
        (pa_cons (pe_op op_add (pe_op op_mod (pe_callTy call_int1 (by rfl) T.int (by decide +kernel) (pa_cons (pe_op op_add (pe_op op_mul (pe_op op_mod (pe_callTy call_int1 (by rfl) T.int (by decide +kernel) (pa_cons (pv 2) pa_nil)) pe_int) pe_int) (pe_op op_mul pe_int (pv 1))) pa_nil)) pe_int) pe_int) pa_nil)))))), ?_⟩
    have hk1 : -(2 ^ 64) < (7411 : Int) ∧ (7411 : Int) < 2 ^ 64 := by constructor <;> decide
    refine ⟨_, rfl, _, _, rfl, rfl, .inl hk1, _, _, rfl, rfl, ?_⟩
    refine ⟨_, rfl, _, rfl, a, _, rfl, .inl hS, _, _, rfl, rfl, _, rfl, ?_⟩
    rw [List.length_map]
    refine ite2 (fun c => ?wayA) (fun c => ?wayB)
    case' wayA =>
      have c' : k < (ns.length : Int) := of_decide_eq_true c
      have hj : k.toNat < ns.length := by omega
      refine ⟨_, rfl, _, rfl, a, _, k, .int ns[k.toNat], rfl, rfl, hS, atI_ints k0 hj, _, rfl, ?_⟩
      have hc : 0 ≤ (if ns[k.toNat] < 0 then -ns[k.toNat] else ns[k.toNat]) := by split <;> omega
      generalize (if ns[k.toNat] < 0 then -ns[k.toNat] else ns[k.toNat]) = cell at hc
    case' wayB =>
      refine ⟨_, rfl, a, _, rfl, .inl hS, _, _, rfl, rfl, _, rfl, ?_⟩
      rw [List.length_map]
      refine ite2 (fun c2 => ?wayC) (fun c2 => ?wayD)
    case' wayC =>
      have c' : (0 : Int) < (ns.length : Int) := of_decide_eq_true c2
      have r0 := Int.emod_nonneg k (show (ns.length : Int) ≠ 0 by omega)
      have r1 := Int.emod_lt_of_pos k c'
      have hj : (k % (ns.length : Int)).toNat < ns.length := by omega
      refine ⟨_, rfl, _, rfl, _, rfl, .inl ⟨_, rfl, _, rfl, a, _, rfl, .inl hS, _, _, rfl, rfl, (by rw [List.length_map]; exact c'), ?_⟩⟩
      rw [List.length_map]
      refine ⟨a, _, k % (ns.length : Int), .int ns[(k % (ns.length : Int)).toNat], rfl, rfl, hS, atI_ints r0 hj, _, rfl, .inl ⟨_, rfl, _, _, rfl, rfl, (by show (0 : Int) < 2147483629; decide), _, _, rfl, rfl, .inr (by constructor <;> decide), _, _, rfl, rfl, ?_⟩⟩
      generalize (if ns[(k % (ns.length : Int)).toNat] < 0 then -ns[(k % (ns.length : Int)).toNat] else ns[(k % (ns.length : Int)).toNat]) = z
      have z0 := Int.emod_nonneg z (by decide : (2147483629 : Int) ≠ 0)
      have hc : 0 ≤ 7411 * k + 29 + z % 2147483629 * 40093 := by omega
      generalize 7411 * k + 29 + z % 2147483629 * 40093 = cell at hc
    case' wayD =>
      have hc : 0 ≤ 7411 * k + 29 := by omega
      generalize 7411 * k + 29 = cell at hc
    all_goals (
      refine ⟨_, rfl, _, _, rfl, rfl, ⟨by decide, by decide, by decide⟩, _, _, rfl, rfl, _, rfl, ?_⟩
      have e1 := Int.emod_nonneg cell (by decide : (2147483629 : Int) ≠ 0)
      have e2 := Int.emod_lt_of_pos cell (by decide : (0 : Int) < 2147483629)
      have f1 := Int.emod_nonneg (cell % 2147483629 * 48271 + 20021 * k) (by decide : (2147483629 : Int) ≠ 0)
      have f2 := Int.emod_lt_of_pos (cell % 2147483629 * 48271 + 20021 * k) (by decide : (0 : Int) < 2147483629)
      refine ite2 (fun _ => ⟨_, rfl, ?_⟩) (fun _ => ?_)
      all_goals (
        refine ⟨_, rfl, .inl ⟨_, rfl, _, _, rfl, rfl, (by show (0 : Int) < 2147483629; decide), _, _, rfl, rfl, .inl (by constructor <;> omega), _, rfl, _, _, rfl, rfl, .inl (by constructor <;> decide), _, _, rfl, rfl, .inl ⟨_, rfl, _, _, rfl, rfl, (by show (0 : Int) < 2147483629; decide), _, _, rfl, rfl, (by show 2 ≤ sizeLine; decide), fun p hp => ?_⟩⟩⟩
        exact go p _ _ hp ⟨by omega, by omega, by omega⟩))
end
end V3

set_option Elab.async false
set_option linter.all false
set_option maxRecDepth 100000
/-! Further rules of our own: xs[a:b:k]; a class that stands in a local name, called. -/
namespace V3
open PySem PySem.Spec PyProof.Rows L2
/-- the items of xs[lo:hi:st] -/
def stepV (xs : List V) (lo hi st : Option Int) : List V :=
  (sliceRange (sliceBounds lo hi st xs.length).1 (sliceBounds lo hi st xs.length).2.1 (sliceBounds lo hi st xs.length).2.2).filterMap (fun i => xs[i]?)
theorem vals_pick {xs : List V} {us : List Value} (r : Vals xs us) : ∀ idx : List Nat, Vals (idx.filterMap (fun i => xs[i]?)) (idx.filterMap (fun i => us.toArray[i]?))
  | [] => .nil
  | i :: idx => by
    have ih := vals_pick r idx
    rw [List.filterMap_cons, List.filterMap_cons]
    cases e : xs[i]? with
    | none =>
      have e2 : us.toArray[i]? = none := by
        rw [List.getElem?_toArray]
        exact r.none_of e
      rw [e2]
      exact ih
    | some x =>
      obtain ⟨u, hu, ru⟩ := r.get e
      have e2 : us.toArray[i]? = some u := by
        rw [List.getElem?_toArray]
        exact hu
      rw [e2]
      exact .cons ru ih
section
variable {X : Cx} {e : Expr} {te : TE} {lo hi st : Option Expr} {tl th ts : TO} {p2 pos : Pos}
def tStep (K : PySem.W.Frag) (te : TE) (tl th ts : TO) : TE := fun σ H Q => te σ H fun x H1 => tl σ H1 fun l H2 => th σ H2 fun u H3 => ts σ H3 fun k H4 =>
  ∃ a xs, x = .ref a ∧ SqL K H4 a xs ∧ k ≠ some 0 ∧ (stepV xs l u k).length ≤ sizeLine ∧ ∀ p, H4 p = none → Q (.ref p) (upd H4 p (.lst (stepV xs l u k)))
theorem pe_step (he : PE X e te) (hl : PO X lo tl) (hu : PO X hi th) (hk : PO X st ts)
    (hop : ∀ (o : Value) (n : Addr), subscripted (.Slice lo hi st p2) false o (.ref n) = operate [o, .ref n] (getItem o (.ref n)) := by intro _ _; with_unfolding_all rfl) :
    PE X (.Subscript e (.Slice lo hi st p2) pos) (tStep X.K te tl th ts) := by
  refine ⟨fun pins s σ H Q I h => ?_⟩
  refine Subscript_ (thn (he.run pins s σ H _ I h) fun v s1 ⟨x, H1, I1, r1, q1⟩ => ?_)
  refine wpAny_Slice (thn (hl.run pins s1 σ H1 _ I1 q1) fun vl s2 ⟨l, H2, I2, pl, q2⟩ =>
    thn (hu.run pins s2 σ H2 _ I2 q2) fun vu s3 ⟨u, H3, I3, pu, q3⟩ =>
    thn (hk.run pins s3 σ H3 _ I3 q3) fun vk s4 ⟨k, H4, I4, pk, q4⟩ => ?_)
  obtain ⟨a, xs, rfl, hx, hk0, hsz, q⟩ := q4
  have J : Inv X pins σ H4 { s4 with heap := s4.heap.push { cls := .type "slice", data := .fields #[vl, vu, vk] } } := I4.kept (t' := s4.toks) fun b ob q => Heap.get?_push_of_some _ q
  cases r1
  obtain ⟨its, r, ht, hz⟩ := J.list hx
  have hlen := r.length
  have got : wpAny (model X.prog X.w) X.A (getItem (.ref a) (.ref s4.heap.objs.size)) (EP X pins σ Q) X.xe { s4 with heap := s4.heap.push { cls := .type "slice", data := .fields #[vl, vu, vk] } } := by
    refine wpAny_getItem_list_slice ht.isList (Heap.IsSliceOf.new ..) pl pu pk hk0 ?_ (by rw [List.size_toArray] <;> omega)
    have e : slicePick its.toArray l u k = ((sliceRange (sliceBounds l u k xs.length).1 (sliceBounds l u k xs.length).2.1 (sliceBounds l u k xs.length).2.2).filterMap (fun i => its.toArray[i]?)).toArray := by
      unfold slicePick
      rw [List.size_toArray, ← hlen]
    rw [e]
    refine ⟨.ref (s4.heap.push _).objs.size, _, J.laid (t' := s4.toks) (o := .lst (stepV xs l u k)) (fun b ob q => Heap.get?_push_of_some _ q) (Nat.le_refl _) ?_, rfl, q _ (J.hok.fresh (Nat.le_refl _))⟩
    exact ⟨hsz, _, 0, vals_pick r _, Heap.get?_push_size _ rfl⟩
  show wpAny (model X.prog X.w) X.A (subscriptTail e (.Slice lo hi st p2) (.ref a) (.ref s4.heap.objs.size)) (EP X pins σ Q) X.xe { s4 with heap := s4.heap.push { cls := .type "slice", data := .fields #[vl, vu, vk] } }
  exact tail_any (ops := [.ref a, .ref s4.heap.objs.size]) ht.isList.typeIs slot_list_getitem.lookup got (hop _ _)
end
section
variable {X : Cx} {CX : CXT} {k i : Nat} {f C : Addr} {fd : FuncData} {ps : List Str} {sp : Sp} {E : XK} {x : Str} {p pos : Pos} {e : Expr} {es : List Expr} {t : TA} {dvs : List V} {ds : List Value}
/-- c(e, ..), c a local name that holds the class at C -/
def tMakeL (i : Nat) (C : Addr) (sp : Sp) (dvs : List V) (E : XK) (t : TA) : TE := fun σ H Q => σ[i]? = some (some (.ref C)) ∧ tMake C sp dvs E t σ H Q
theorem pe_makeL (M : Mk X.K C f) (F : FnOk X.prog X.w X.K X.mg X.base CX k f fd ps sp) (room : Room (k + 1) X.A) (hN : X.N[i]? = some x) (hv : Vis X.env.scope x)
    (bi : Binds X.K fd ps ds) (va : Vals dvs ds) (out : Passes CX X E) (ha : PA X (e :: es) t)
    (hdb : (x == ("__debug__" : Str)) = false := by decide) (hcd : (x == ("__classdict__" : Str)) = false := by decide)
    (he : starEach (e :: es) X.env = (false, eval e X.env) :: starEach es X.env := by rfl) (hpl : (backTo pos (starEach es X.env)).any (·.1) = false := by rfl) :
    PE X (.Call (.Name x p) (e :: es) [] pos) (tMakeL i C sp dvs E t) := by
  refine ⟨fun pins s σ H Q I h => ?_⟩
  obtain ⟨at_, want⟩ := h
  refine wpAny_Call_Name_kw (thn ((pe_var (pos := p) hN hv hdb hcd).run pins s σ H (fun v H1 => v = .ref C ∧ H1 = H) I ⟨.ref C, at_, rfl, rfl⟩) fun u s1 ⟨v, H1, I1, r1, q1⟩ => ?_)
  obtain ⟨rfl, rfl⟩ := q1
  cases r1
  refine PySem.W.callWith_K (h₀ := X.base) I.ok.mod.kin M.kp ?_ he hpl
  exact thn (ha.run pos pins s1 σ _ _ I1 want) fun us s2 ⟨vs, H2, I2, r, q⟩ => ⟨I2.kIn, run_make M F room bi va out I2 r q⟩
end
end V3

set_option Elab.async false
set_option linter.all false
set_option maxRecDepth 100000
/-! == and != of objects of our own classes, by their own __eq__, whatever it answers. -/
namespace V3
open PySem PySem.Spec PyProof.Rows L2
section
variable {prog : Program} {w : World} {A : Around} {E : Value → Shared → Prop} {s : Shared} {K : PySem.W.Frag} {x C L f : Addr} {h₀ : Heap} {m : Str → Option Value} {ox : Obj} {od : Option Obj} {name : Str} {b tb : Value}
theorem ifBound_B {M : Model} {args : List Value} {id : String} {Q : Option Value → Shared → Prop} (X : K.In s.heap) (I : PySem.W.InstAt s.heap x ox C od) (hs : PySem.W.findIn K (.ref C) name = some (some (.builtin id)))
    (hb : ∀ self, bindSpecial (.builtin id) self = pure (.builtin id, [self]))
    (h : wpAny M A (call (.builtin id) (.ref x :: args)) (fun v => Q (some v)) E s) : wpAny M A (callSpecialIfBound? (.ref x) name args) Q E s := by
  simp only [callSpecialIfBound?, bindSpecialIfBound?]
  refine wpAny_holding (wpAny_bind (wpAny_bind (wpAny_bind (I.type.here ((PySem.W.looks_findIn X hs).here ?_)))))
  simp only [hb]
  refine wpAny_bind (wpAny_askSetting (wpAny_ite ?_))
  have fin : wpAny M A (call (.builtin id) ([.ref x] ++ args) >>= fun v => pure (some v)) Q E s := wpAny_bind (wpAny_mono h (fun v s' h' => wpAny_pure h') fun _ _ h' => h')
  split
  · exact wpAny_bind (wpAny_pure (wpAny_pure fin))
  · exact wpAny_tryCatch (wpAny_bind (wpAny_pure (wpAny_pure fin)))
theorem ne_entry {Q : Fin → Shared → Prop} (hu : A.units < cLine) (X : K.In s.heap) (I : PySem.W.InstAt s.heap x ox C od) (hs : PySem.W.findIn K (.ref C) "__eq__" = some (some (.ref f))) (hf : PySem.W.isFn K (.ref f) = true)
    (h : wpAny (model prog w) A (call (.ref f) [.ref x, b]) (fun v s' => ∃ r, v = .bool r ∧ Q (.done (.ret (.bool (!r)))) s') E s) :
    wpAny (model prog w) A (Builtin.«object.__ne__» ⟨[.ref x, b], []⟩) Q E s := by
  unfold Builtin.«object.__ne__»
  repeat (first | with_reducible refine wpAny_cRoomFor hu ?_ | with_reducible refine wpAny_bind (PySem.W.ifBound_K X I hs hf (wpAny_mono h (fun v s' hv => ?_) fun _ _ e => e)) | wp_step)
  obtain ⟨r, rfl, q⟩ := hv
  repeat wp_step
  exact q
theorem ne_K {Q : Value → Shared → Prop} (hu : A.units + 1 < cLine) (F : PyProof.Rows.Fr h₀ L s.heap m) (X₀ : K.In h₀) (I : PySem.W.InstAt s.heap x ox C od) (hb : PySem.W.Looks (model prog w) s.heap (typeOf b) tb) (hn : PySem.W.notFirst K C tb = true)
    (hs : PySem.W.findIn K (.ref C) "__eq__" = some (some (.ref f))) (hf : PySem.W.isFn K (.ref f) = true)
    (hne : PySem.W.findIn K (.ref C) "__ne__" = some (some (.builtin "object.__ne__"))) (hob : PySem.W.subIn K (.ref C) (.type "object") = some true)
    (h : wpAny (model prog w) A.in1 (call (.ref f) [.ref x, b]) (fun v s' => ∃ r, v = .bool r ∧ Q (.bool (!r)) s') E s) : wpAny (model prog w) A (richCompare .NotEq (.ref x) b) Q E s := by
  have X := X₀.keeps F.keep
  have hu0 : A.units < cLine := Nat.lt_of_succ_lt hu
  have one : wpAny (model prog w) A (tryCompare (.ref x) "__ne__" b) (fun r s' => ∃ v, r = some v ∧ Q v s') E s := by
    unfold tryCompare
    refine wpAny_bind (ifBound_B X I hne (fun self => PySem.F.cmp_object.ne.bind self) ?_)
    refine wpAny_call (codeAny_call_builtin PySem.F.cmp_object.ne.plain PySem.F.cmpEntry_ne (PySem.W.check_slot PySem.F.cmpKind_ne PySem.F.cmpSplit_ne (I.type.andThen (PySem.W.looks_subIn X hob)) (PySem.F.cmpArgs_ne _ _) (ne_entry (A := A.in1) hu X I hs hf ?_)))
    refine wpAny_mono h (fun v s' hv => ?_) fun _ _ e => e
    obtain ⟨r, rfl, q⟩ := hv
    exact ⟨r, rfl, wpAny_pure ⟨_, rfl, q⟩⟩
  unfold richCompare
  simp only [oneThing_ref]
  refine wpAny_holding (wpAny_bind (wpAny_cRoomFor hu0 ?_))
  refine wpAny_bind (I.type.here (wpAny_bind (hb.here ?_)))
  split
  · rename_i q
    have e : PySem.W.subIn K tb (.ref C) = some false := by
      rcases Bool.or_eq_true_iff.mp hn with e | e
      · rw [beq_iff_eq.mp e] at q; simp at q
      · exact beq_iff_eq.mp e
    refine wpAny_bind ((PySem.W.looks_subIn X e).here ?_)
    simp only [Bool.false_eq_true, if_false]
    refine wpAny_bind (wpAny_mono one (fun r s' z => ?_) fun _ _ e => e)
    obtain ⟨v, rfl, hq⟩ := z
    exact wpAny_pure hq
  · refine wpAny_bind (wpAny_pure ?_)
    simp only [Bool.false_eq_true, if_false]
    refine wpAny_bind (wpAny_mono one (fun r s' z => ?_) fun _ _ e => e)
    obtain ⟨v, rfl, hq⟩ := z
    exact wpAny_pure hq
end
/-- a class with an own __eq__ at f and the __ne__ of object -/
structure EqCls (K : PySem.W.Frag) (C f : Addr) : Prop where
  eq : PySem.W.findIn K (.ref C) "__eq__" = some (some (.ref f))
  fn : PySem.W.isFn K (.ref f) = true
  ne : PySem.W.findIn K (.ref C) "__ne__" = some (some (.builtin "object.__ne__"))
  ob : PySem.W.subIn K (.ref C) (.type "object") = some true
section
variable {X : Cx} {CX : CXT} {n : Nat} {f C D : Addr} {fd : FuncData} {ps : List Str} {sp : Sp} {E : XK}
/-- f called at a pair, somewhere below the running body -/
theorem run_own {A : Around} {pins : List (Addr × Obj)} {s : Shared} {σ : L2.St} {H : Hp} {x y : V} {u v : Value} {Q : VK} (sb : Sub X n A) (F : FnOk X.prog X.w X.K X.mg X.base CX n f fd ps sp) (hb : Binds X.K fd ps []) (hx : Passes CX X E)
    (I : Inv X pins σ H s) (rx : RelV x u) (ry : RelV y v) (h : sp [x, y] H Q E) : wpAny (model X.prog X.w) A (call (.ref f) [u, v]) (EP X pins σ Q) X.xe s := by
  have e0 : Env0 X.prog X.w X.K X.mg X.base A X.stack s H := by
    have e := I.env0
    exact ⟨by rw [sb.fr]; exact e.frames, e.mod, e.bs, e.bsz, e.funs, e.frf, e.hok, e.bare⟩
  have hl := F.len _ _ _ _ h
  have r2 : Vals [x, y] [u, v] := .cons rx (.cons ry .nil)
  refine wpAny_call (codeAny_mono (F.run A X.stack s H ⟨[u, v], []⟩ [u, v] [x, y] _ E sb.room e0 (by
    have := hb s [u, v] I.kIn (by simpa using hl)
    simpa using this) r2 h) fun r s' hq => ?_)
  cases r with
  | error e => exact hx pins σ H s e s' I hq
  | ok fl =>
    cases fl with
    | ret w =>
      obtain ⟨z, H', I', rz, q⟩ := I.after hq
      exact ⟨z, H', I', rz, q⟩
    | next => exact False.elim hq
    | brk => exact False.elim hq
    | cont => exact False.elim hq
/-- x == y, x an object whose class has the own __eq__ -/
def rEqO (K : PySem.W.Frag) (n : Nat) (FF : Addr → Sp → XK → Prop) (neg : Bool) : R2 := fun x y H Q => ∃ (a C dx : Addr) (fs : List (Str × V)) (b D dy : Addr) (gs : List (Str × V)) (sp : Sp) (E : XK), x = .ref a ∧ y = .ref b ∧ H a = some (.ins C dx fs) ∧ H b = some (.ins D dy gs) ∧
  FF C sp E ∧ PySem.W.notFirst K C (.ref D) = true ∧ sp [x, y] H (fun v H' => ∃ r : Bool, v = .bl r ∧ Q (.bl (r != neg)) H') E
theorem op_eqO {FF : Addr → Sp → XK → Prop} (hF : ∀ C sp E, FF C sp E → ∃ (CX : CXT) (f : Addr) (fd : FuncData) (ps : List Str), FnOk X.prog X.w X.K X.mg X.base CX n f fd ps sp ∧ EqCls X.K C f ∧ Binds X.K fd ps [] ∧ Passes CX X E) (hr : Room n X.A) :
    OpR X (compareOp .Eq) (rEqO X.K n FF false) := by
  intro pins s σ H x y v u Q I rx ry hq
  obtain ⟨a, C, dx, fs, b, D, dy, gs, sp, E, rfl, rfl, ha, hb, ff, hn, hsp⟩ := hq
  obtain ⟨CX, f, fd, ps, F, ec, bi, hx⟩ := hF C sp E ff
  cases rx
  cases ry
  obtain ⟨mA, J, _⟩ := ins_get I.hok ha
  obtain ⟨mB, J', _⟩ := ins_get I.hok hb
  obtain ⟨od, J, _⟩ := J.look
  obtain ⟨od', J', _⟩ := J'.look
  obtain ⟨m, hF⟩ := I.fr
  show wpAny (model X.prog X.w) X.A (richCompare .Eq (.ref a) (.ref b)) (EP X pins σ Q) X.xe s
  refine PySem.W.cmp_K (op := .Eq) (tb := .ref D) hr.units0 hF I.ok.mod.kin J J'.type hn ec.eq ec.fn ?_
  refine wpAny_mono (run_own (x := .ref a) (y := .ref b) ⟨hr, rfl⟩ F bi hx I rfl rfl hsp) (fun w s' q => ?_) fun _ _ e => e
  obtain ⟨z, H', I', rz, r, ez, q⟩ := q
  subst ez
  cases rz
  refine ⟨.bl r, H', I', rfl, ?_⟩
  have e : (r != false) = r := by cases r <;> rfl
  rw [e] at q
  exact q
theorem op_neO {FF : Addr → Sp → XK → Prop} (hF : ∀ C sp E, FF C sp E → ∃ (CX : CXT) (f : Addr) (fd : FuncData) (ps : List Str), FnOk X.prog X.w X.K X.mg X.base CX n f fd ps sp ∧ EqCls X.K C f ∧ Binds X.K fd ps [] ∧ Passes CX X E) (hr : Room (n + 1) X.A) :
    OpR X (compareOp .NotEq) (rEqO X.K n FF true) := by
  intro pins s σ H x y v u Q I rx ry hq
  obtain ⟨a, C, dx, fs, b, D, dy, gs, sp, E, rfl, rfl, ha, hb, ff, hn, hsp⟩ := hq
  obtain ⟨CX, f, fd, ps, F, ec, bi, hx⟩ := hF C sp E ff
  cases rx
  cases ry
  obtain ⟨mA, J, _⟩ := ins_get I.hok ha
  obtain ⟨mB, J', _⟩ := ins_get I.hok hb
  obtain ⟨od, J, _⟩ := J.look
  obtain ⟨od', J', _⟩ := J'.look
  obtain ⟨m, hF⟩ := I.fr
  show wpAny (model X.prog X.w) X.A (richCompare .NotEq (.ref a) (.ref b)) (EP X pins σ Q) X.xe s
  refine ne_K (tb := .ref D) (by have := hr.units; omega) hF I.ok.mod.kin J J'.type hn ec.eq ec.fn ec.ne ec.ob ?_
  refine wpAny_mono (run_own (x := .ref a) (y := .ref b) (A := X.A.in1) ⟨hr.in1, rfl⟩ F bi hx I rfl rfl hsp) (fun w s' q => ?_) fun _ _ e => e
  obtain ⟨z, H', I', rz, r, ez, q⟩ := q
  subst ez
  cases rz
  refine ⟨r, rfl, .bl (!r), H', I', rfl, ?_⟩
  have e : (r != true) = !r := by cases r <;> rfl
  rw [e] at q
  exact q
end
end V3

set_option Elab.async false
set_option linter.all false
set_option maxRecDepth 100000
/-! functions that are called where no repr is under way: repr of nested lists and tuples -/
namespace V3
open PySem PySem.Spec PyProof.Rows L2
def NoG (A : Around) : Prop := A.guards = some []
theorem NoG.deeper {A : Around} (h : NoG A) (e : Env) : NoG (A.deeper e) := h
/-- what a def promises to such callers -/
structure FnG (P : Program) (w : World) (K : PySem.W.Frag)
    (mg : Str → Option Value) (base : Heap) (CX : CXT) (k : Nat)
    (f : Addr) (fd : FuncData) (ps : List Str) (sp : Sp) : Prop where
  len : ∀ vs H Q E, sp vs H Q E → vs.length = ps.length
  run : ∀ (A : Around) (up : List Env) (s : Shared) (H : Hp) (args : Args)
    (us : List Value) (vs : List V) (Q : VK) (E : XK),
    NoG A → Room k A → Env0 P w K mg base A up s H →
    BindsTo s fd args (ps.zip us) → Vals vs us → sp vs H Q E →
    codeAny (model P w) A (.call (.ref f) args) (CR CX up P w H s Q E) s
theorem FnG.of {P : Program} {w : World} {K : PySem.W.Frag} {mg : Str → Option Value} {base : Heap}
    {CX : CXT} {k : Nat} {f : Addr} {fd : FuncData} {ps : List Str} {sp : Sp}
    (F : FnOk P w K mg base CX k f fd ps sp) : FnG P w K mg base CX k f fd ps sp :=
  ⟨F.len, fun A up s H args us vs Q E _ => F.run A up s H args us vs Q E⟩
theorem FnG.up {P : Program} {w : World} {K : PySem.W.Frag} {mg : Str → Option Value} {base : Heap}
    {CX : CXT} {j k : Nat} {f : Addr} {fd : FuncData} {ps : List Str} {sp : Sp}
    (F : FnG P w K mg base CX j f fd ps sp) (h : j ≤ k) : FnG P w K mg base CX k f fd ps sp :=
  ⟨F.len, fun A up s H args us vs Q E g r => F.run A up s H args us vs Q E g (r.mono h)⟩
section
variable {P : Program} {w : World} {K : PySem.W.Frag} {mg : Str → Option Value} {base : Heap}
/-- the rule for a def of the text -/
theorem fnG {CX : CXT} {k : Nat} {f : Addr} {x qual : Str} {st : Stmt} {fd : FuncData}
    {N ps : List Str} {sp : Sp} (F : Fun K x qual st f fd) (S : FnScope N ps (defScope st))
    (len : ∀ vs H Q E, sp vs H Q E → vs.length = ps.length)
    (hbody : ∀ (cdv : Value) (A : Around) (up : List Env) (s : Shared) (H : Hp)
      (vs : List V) (Q : VK) (E : XK),
      NoG A → Room k (A.deeper (envOfC qual (defScope st) s.heap.objs.size f cdv)) →
      sp vs H Q E →
      ∃ t, PSs (cxOf CX P w K mg base N qual (defScope st) f cdv A up s H E) (defBody st) t ∧
        t { nx := fun _ H' => Q .non H', rt := Q } (start N vs) H) :
    FnG P w K mg base CX (k + 1) f fd ps sp := by
  obtain ⟨oc, od, kV, doc, pm, an, cdv, ct, osl, rfl, lk, hcd⟩ := F.ex
  refine ⟨len, fun A up s H args us vs Q E g room e0 bnd rel want => ?_⟩
  have nlen := len _ _ _ _ want
  have old := fun b o e => (e0.bs b o e).1
  have KX : K.In s.heap := e0.mod.kin.keeps old
  have lim := e0.mod.nolimit.keeps old
  have known : ∀ y ∈ ps.zip us, (defScope st).names.lookup y.1 = some .local ∨
      ((defScope st).names.lookup y.1 = some .cell ∧
        ((cellsFrom (s.heap.objs.size + 1) (defScope st).names []).lookup y.1).isSome = true) := by
    rintro ⟨n, v⟩ hy
    exact (S.par n (List.of_mem_zip hy).1).imp id fun q => ⟨q, PySem.W.cellsFrom_some _ _ _ (.inl q)⟩
  refine codeAny_call_function room.depth (KX _ _ lk) rfl S.co S.gen rfl
    (PySem.W.codeRec_of KX hcd) (bnd _ _ _ _ ?_)
  refine wpAny_newFunctionEnv_cells S.kind known fun env same s1 x => ?_
  subst same
  refine ⟨lim.keeps x.toInCall.keep, codeAny_func ?_⟩
  obtain ⟨t, ht, hq⟩ := hbody cdv A up s H vs Q E g (room.deeper _) want
  have I := inv_start (CX := CX) (E := E) S room.hd e0 nlen rel x
  refine wpAny_mono (ht.run [] s1 (start N vs) H _ I hq) (fun fl s' hs => ?_) fun e s' hs => hs
  match fl, hs with
  | .ret u, hs =>
    obtain ⟨v, σ', H', J, rv, q⟩ := hs
    exact ⟨v, H', J.os, J.bare, J.base, J.hok, rv, q⟩
  | .next, hs =>
    obtain ⟨σ', H', J, q⟩ := hs
    exact ⟨.non, H', J.os, J.bare, J.base, J.hok, rfl, q⟩
  | .brk, hs =>
    obtain ⟨_, _, _, q⟩ := hs
    exact q.elim
  | .cont, hs =>
    obtain ⟨_, _, _, q⟩ := hs
    exact q.elim
end
section
variable {X : Cx} {CX : CXT} {k : Nat} {f : Addr} {fd : FuncData} {ps : List Str} {sp : Sp}
  {dvs : List V} {ds : List Value} {E : XK} {x : Str} {p pos : Pos} {e : Expr} {es : List Expr} {t : TA}
theorem runG {pins : List (Addr × Obj)} {σ : L2.St} {H : Hp} {s : Shared} {Q : VK}
    {us : List Value} {vs : List V} (F : FnG X.prog X.w X.K X.mg X.base CX k f fd ps sp)
    (g : NoG X.A) (room : Room k X.A) (bi : Binds X.K fd ps ds) (va : Vals dvs ds)
    (out : Passes CX X E) (I : Inv X pins σ H s) (r : Vals vs us) (want : sp (vs ++ dvs) H Q E) :
    wpAny (model X.prog X.w) X.A (call (.ref f) us) (EP X pins σ Q) X.xe s := by
  have r2 := r.append va
  have nlen := r2.length.symm.trans (F.len _ _ _ _ want)
  have ran := F.run X.A X.stack s H ⟨us, []⟩ _ _ Q E g room I.env0 (bi s us I.kIn nlen) r2 want
  refine wpAny_call (codeAny_mono ran fun res s' hq => ?_)
  match res, hq with
  | .error err, hq => exact out pins σ H s err s' I hq
  | .ok (.ret u), hq => exact I.after hq
  | .ok .next, hq => exact hq.elim
  | .ok .brk, hq => exact hq.elim
  | .ok .cont, hq => exact hq.elim
/-- f(e, ..) -/
theorem pe_callG (F : FnG X.prog X.w X.K X.mg X.base CX k f fd ps sp) (g : NoG X.A)
    (room : Room k X.A) (hg : Gl X x) (hm : X.mg x = some (.ref f))
    (kp : PySem.W.keepIn X.K (.ref f) = true) (bi : Binds X.K fd ps ds) (va : Vals dvs ds)
    (out : Passes CX X E) (ha : PA X (e :: es) t)
    (hdb : (x == ("__debug__" : Str)) = false := by decide)
    (he : starEach (e :: es) X.env = (false, eval e X.env) :: starEach es X.env := by rfl)
    (hpl : (backTo pos (starEach es X.env)).any (·.1) = false := by rfl) :
    PE X (.Call (.Name x p) (e :: es) [] pos) (tCall sp dvs E t) := by
  refine ⟨fun pins s σ H Q I h => wpAny_Call_Name_kw (ld_glob I hg hm ?_ hdb)⟩
  refine PySem.W.callWith_K (h₀ := X.base) I.ok.mod.kin kp ?_ he hpl
  exact thn (ha.run pos pins s σ H _ I h) fun us s1 ⟨vs, H1, I1, r, q⟩ =>
    ⟨I1.kIn, runG F g room bi va out I1 r q⟩
/-- repr(v), v nested data -/
def rReprD (K : PySem.W.Frag) (A : Around) : List V → Hp → VK → Prop := fun xs H Q =>
  ∃ (a : Addr) (d : PyData), xs = [.ref a] ∧ Dp K H (.ref a) d ∧ d.showable = true ∧
    d.hasDict = false ∧ A.units + (d.depth + 1) < cLine ∧ d.shown.length ≤ sizeLine ∧ Q (.str d.shown) H
theorem call_reprD (g : NoG X.A) : CallR X (.builtin "repr") (rReprD X.K X.A) := by
  intro pins s σ H xs us Q I r h
  obtain ⟨a, d, rfl, hd, sh, nd, hu, hz, q⟩ := h
  obtain ⟨u, rfl, ru⟩ := vals1 r
  obtain ⟨as, rd⟩ := hd.reads I d _ _ ru
  cases ru
  exact repr_of_reads' rd sh (PyData.noDict_hsm nd) g hu (fun _ _ e => e)
    (fun h' u tk hk => ⟨.str d.shown, H, I.kept (t' := tk) hk, ⟨u, rfl⟩, q⟩) hz
end
end V3

set_option Elab.async false
set_option linter.all false
set_option maxRecDepth 100000
/-! the law's own call, where no repr is under way -/
namespace V3
open PySem PySem.Spec PyProof.Rows L2
section
variable {P : Program} {w : World} {K : PySem.W.Frag} {mg mb : Str → Option Value} {k : Nat}
  {fa a : Addr} {fd : FuncData} {x : Str} {sp : Sp} {s1 : Shared} {vs : List Value} {ns : List Int}
/-- nothing but the script is followed -/
structure Lone (H : Hp) (a : Addr) : Prop where
  only : Only H
  here : ∀ b, H b ≠ none → b = a
theorem law_from {H : Hp} (KX : K.In s1.heap) (hns : s1.heap.Ns mainGlobals mg)
    (hb : s1.heap.Ns builtinsNs mb) (hbb : ∀ y : Str, y ≠ "__name__" → mb y = bootBuiltins y)
    (lim : s1.heap.NoLimit) (gens : s1.gens = #[])
    (ha : s1.heap.get? a = some { cls := .type "list", data := .seq vs.toArray })
    (room : Room k callerA)
    (F : ∀ base : Heap, K.In base → base.Ns mainGlobals mg → FnG P w K mg base CX0 k fa fd [x] sp)
    (bi : ∀ (s : Shared) (u : Value), BindsTo s fd ⟨[u], []⟩ [(x, u)])
    (want : sp [.ref a] H (fun v _ => v = .bl true) fun _ _ _ => False)
    (lone : Lone H a) (hok : HOk P w H s1.heap) (free : H a ≠ none → K.lookup a = none) :
    codeAny (model P w) callerA (.call (.ref fa) ⟨[.ref a], []⟩)
      (fun r s' => r = .ok (.ret (.bool true)) ∧ OldK s1.heap s'.heap ∧ s'.os = s1.os ∧ AllBare s'.gens) s1 := by
  have at_a : ∀ {b : Addr}, H b ≠ none → b = a := fun {b} h => lone.here b h
  have kept : ∀ {b : Addr} {o : Obj}, s1.heap.get? b = some o → (b = a → H b = none) →
      (hidT s1.heap H).get? b = some o := by
    intro b o e n
    by_cases q : H b = none
    · exact hidT_get e q
    · exact hidT_get e (n (at_a q))
  have nsK : ∀ {b : Addr} {m : Str → Option Value}, s1.heap.Ns b m → (hidT s1.heap H).Ns b m := by
    rintro b m ⟨o, es, ep, e, d, r⟩
    refine ⟨o, es, ep, kept e fun z => ?_, d, r⟩
    subst z
    rw [ha] at e
    cases e
    exact nomatch d
  have hKb : K.In (hidT s1.heap H) := by
    intro b o e
    refine kept (KX b o e) fun z => ?_
    subst z
    by_cases q : H b = none
    · exact q
    · rw [free q] at e
      cases e
  obtain ⟨mc, c1, c2⟩ := lim
  have hM : Mod K mg (hidT s1.heap H) := ⟨hKb, nsK hns, ⟨mb, nsK hb, hbb⟩, mc, nsK c1, c2⟩
  have e0 : Env0 P w K mg (hidT s1.heap H) callerA [] s1 H :=
    ⟨rfl, hM, fun b o e => of_hidT e, Nat.le_of_eq (hidT_size _ _), trivial,
      fun b hb => (nomatch hb), hok, AllBare.of_eq gens⟩
  have ran := (F _ hKb (nsK hns)).run callerA [] s1 H ⟨[.ref a], []⟩ [.ref a] [.ref a] _ _ rfl room e0
    (bi s1 (.ref a)) (.cons rfl .nil) want
  refine codeAny_mono ran fun r s' h => ?_
  match r, h with
  | .error e, h => exact h.elim
  | .ok .next, h => exact h.elim
  | .ok .brk, h => exact h.elim
  | .ok .cont, h => exact h.elim
  | .ok (.ret u), h =>
    obtain ⟨v, H', os, bare, un, hok', r', q⟩ := h
    have q' : v = .bl true := q
    subst q'
    have r2 : u = Value.bool true := r'
    subst r2
    refine ⟨rfl, OldK.of_keep fun b o e => ?_, os, bare⟩
    cases hb : H b with
    | none => exact un.keep b o e hb (fun z => by cases z) (by simp)
    | some u =>
      rcases lone.only b with z | ⟨ob, xs, z⟩
      · rw [hb] at z
        cases z
      · obtain ⟨g1, _⟩ := hok b _ z
        obtain ⟨g2, _⟩ := hok' b _ (un.frzs b ob _ z)
        rw [e] at g1
        cases g1
        exact g2
theorem law_callG (KX : K.In s1.heap) (hns : s1.heap.Ns mainGlobals mg)
    (hb : s1.heap.Ns builtinsNs mb) (hbb : ∀ y : Str, y ≠ "__name__" → mb y = bootBuiltins y)
    (lim : s1.heap.NoLimit) (gens : s1.gens = #[])
    (ha : s1.heap.get? a = some { cls := .type "list", data := .seq vs.toArray })
    (whole : IntsAre vs ns) (few : ns.length ≤ sizeLine) (room : Room k callerA)
    (F : ∀ base : Heap, K.In base → base.Ns mainGlobals mg → FnG P w K mg base CX0 k fa fd [x] sp)
    (bi : ∀ (s : Shared) (u : Value), BindsTo s fd ⟨[u], []⟩ [(x, u)])
    (want : ∀ H : Hp, Only H → SqL K H a (ns.map V.int) → sp [.ref a] H (fun v _ => v = .bl true) fun _ _ _ => False) :
    codeAny (model P w) callerA (.call (.ref fa) ⟨[.ref a], []⟩)
      (fun r s' => r = .ok (.ret (.bool true)) ∧ OldK s1.heap s'.heap ∧ s'.os = s1.os ∧ AllBare s'.gens) s1 := by
  have rv := vals_ints whole
  have nv := whole.length
  cases hk : K.lookup a with
  | some o =>
    have e := KX a o hk
    rw [ha] at e
    cases e
    have o0 : Only (fun _ => none) := fun _ => .inl rfl
    refine law_from KX hns hb hbb lim gens ha room F bi (want _ o0 (.inr ⟨_, vs.toArray, _, hk, rfl, rfl, rfl, ?_, ?_⟩)) ⟨o0, ?_⟩ ?_ ?_
    · rw [List.size_toArray, nv]
      exact few
    · simpa using rv
    · intro b z
      exact absurd rfl z
    · intro b u z
      have z2 : (none : Option HO) = some u := z
      cases z2
    · intro z
      exact absurd rfl z
  | none =>
    let Ha : Hp := fun b => if b = a then some (.frz { cls := .type "list", data := .seq vs.toArray } (.lst (ns.map V.int))) else none
    have yes : Ha a = some (.frz { cls := .type "list", data := .seq vs.toArray } (.lst (ns.map V.int))) := if_pos rfl
    have no : ∀ b, b ≠ a → Ha b = none := fun b n => if_neg n
    have o0 : Only Ha := by
      intro b
      by_cases z : b = a
      · subst z
        exact .inr ⟨_, _, yes⟩
      · exact .inl (no b z)
    refine law_from (H := Ha) KX hns hb hbb lim gens ha room F bi (want _ o0 (.inl (.inr ⟨_, yes⟩))) ⟨o0, ?_⟩ ?_ fun _ => hk
    · intro b z
      by_cases q : b = a
      · exact q
      · exact absurd (no b q) z
    · intro b u z
      by_cases q : b = a
      · subst q
        rw [yes] at z
        cases z
        exact ⟨ha, by rw [List.length_map]; exact few, vs, _, rv, ha⟩
      · rw [no b q] at z
        cases z
end
/-- the walk from such a promise -/
theorem walk_ofG {l : PySem.W.OpenLaw} {n k : Nat} {q : Program} {loose : List Str}
    {XP : (Str → Option Value) → Heap → Prop} {YP : World → Heap → Prop} {d : DefRec}
    {K : Params → PySem.W.Frag} {sp : World → Sp} {x : Str}
    (hn : l.most = some n) (small : n ≤ sizeLine) (hdf : d.params.defaults = []) (room : Room k callerA)
    (hY : ∀ (w : World) (h : Heap), YP w h → (K w.params).In h)
    (F : ∀ (w : World) (mg : Str → Option Value) (fa : Addr) (h : Heap), (K w.params).In h →
      h.Ns mainGlobals mg → mg d.name = some (.ref fa) →
      ∃ fd : FuncData, (∀ (s : Shared) (u : Value), BindsTo s fd ⟨[u], []⟩ [(x, u)]) ∧
        ∀ base : Heap, (K w.params).In base → base.Ns mainGlobals mg →
          FnG l.prog w (K w.params) mg base CX0 k fa fd [x] (sp w))
    (hsp : ∀ (w : World) (H : Hp) (a : Addr) (ns : List Int), ns.length ≤ n → Only H →
      SqL (K w.params) H a (ns.map V.int) → sp w [.ref a] H (fun v _ => v = .bl true) fun _ _ _ => False) :
    PySem.W.WalkO q loose XP YP l.row.toRowW d [] (fun f vs => PySem.call f vs) := by
  refine Att.attach_call hn hdf fun w s0 s1 mg mb fa o pm cd doc a vs ns G Y ho hd hcd hmg hobj whole len gens => ?_
  have KX := hY w _ Y
  obtain ⟨fd, bi, hF⟩ := F w mg fa _ KX G.T.g hmg
  exact law_callG KX G.T.g G.T.b G.T.builtins G.T.nolimit gens hobj whole (Nat.le_trans len small) room hF bi
    fun H hO hS => hsp w H a ns len hO hS
end V3

set_option Elab.async false
set_option linter.all false
set_option maxRecDepth 100000
/-! x in (a, b, ..), where none of the items is x: each item's own == is run -/
namespace V3
open PySem PySem.SeqAt
open AutoSeq1 (wpAny_loadPart')
open MeetsSeq MeetsSeq2 MeetsSeq3 SeqRoads2
section
variable {prog : Program} {w : World} {A : Around} {R : Result → Shared → Prop}
theorem tuple_none (l : Addr) (items : Array Value) (n : Nat) (dd : Option Addr) (sl : Array (Option Value)) (x : Value) (I : Nat → Shared → Prop)
    (turn : ∀ i (h : i < items.size) s, I i s →
      wpAny (model prog w) A.in1 (eqBool items[i] x) (fun r s' => r = false ∧ I (i + 1) s') (fun e s' => R (.error e) s') s)
    (fin : ∀ s, I items.size s → R (.ok (.ret (.bool false))) s) {s : Shared}
    (hl : s.heap.get? l = some { cls := .type "tuple", dict := dd, data := .seq items n, slots := sl }) (h : I 0 s) :
    wpAny (model prog w) A.in1 (Builtin.«tuple.__contains__» ⟨[.ref l, x], []⟩) (GQ.FinOf prog w A R) (fun e s' => R (.error e) s') s := by
  have h0 := h
  obtain ⟨hp, g, d, tk, os⟩ := s
  wp_walk using wpAny_loadPart' hl, wpAny_forIn_array _ (fun rest b s' => b.1 = none ∧ ∃ i, rest = items.toList.drop i ∧ i ≤ items.size ∧ I i s') _
  case turn =>
    rintro y rest b s' ⟨hb, i, hz, hi, hI⟩
    have lt : i < items.toList.length := by
      rcases Nat.lt_or_ge i items.toList.length with q | q
      · exact q
      · rw [List.drop_of_length_le q] at hz
        cases hz
    have lt2 : i < items.size := by simpa using lt
    rw [List.drop_eq_getElem_cons lt] at hz
    injection hz with hy hr
    have hy2 : y = items[i] := by simpa using hy
    subst hy2
    refine wpAny_bind (wpAny_mono (turn i lt2 s' hI) (fun r s2 q => ?_) fun _ _ z => z)
    obtain ⟨rfl, q⟩ := q
    wp_walk
    exact ⟨rfl, i + 1, hr, lt2, q⟩
  case fin =>
    rintro ⟨b1, b2⟩ s' ⟨hb, i, hz, hi, hI⟩
    simp only at hb
    subst hb
    have ge : items.size ≤ i := by
      rcases Nat.lt_or_ge i items.toList.length with q | q
      · rw [List.drop_eq_getElem_cons q] at hz
        cases hz
      · simpa using q
    have e : i = items.size := by omega
    have hR := fin s' (e ▸ hI)
    wp_walk
    first | exact hR | exact ⟨_, rfl, hR⟩ | simpa using hR
  case h =>
    exact ⟨rfl, 0, rfl, Nat.zero_le _, h0⟩
end
end V3

set_option Elab.async false
set_option linter.all false
set_option maxRecDepth 100000
namespace V3
open PySem PySem.SeqAt
open AutoSeq1 (wpAny_loadPart')
section
variable {prog : Program} {w : World} {A : Around} {E : Value → Shared → Prop} {s : Shared} {x : Addr} {o : Obj}
theorem str_declines {z : Str} {t : Tok} {Q : Shared → Prop} (ho : s.heap.get? x = some o) (hd : o.data = .plain) (hq : Q s) :
    wpAny (model prog w) A (call (.builtin "str.__eq__") [.str z t, .ref x]) (fun v s' => v = .notImplemented ∧ Q s') E s := by
  refine GQ.call_here F.slot_str_eq (typeIs_str s z t) F.entry_str_eq (F.args_str_eq_2 _ _) ?_
  obtain ⟨c, dd, da, sl⟩ := o
  simp only at hd
  subst hd
  obtain ⟨hp, g, d, tk, os⟩ := s
  unfold Builtin.«str.__eq__» Builtin.Str.strCompare
  wp_walk using wpAny_load ho
  exact ⟨rfl, hq⟩
theorem none_declines {Q : Shared → Prop} (hq : Q s) :
    wpAny (model prog w) A (call (.builtin "NoneType.__eq__") [.none, .ref x]) (fun v s' => v = .notImplemented ∧ Q s') E s := by
  refine GQ.call_here F.slot_NoneType_eq (typeIs_none s) F.entry_NoneType_eq (F.args_NoneType_eq_2 _ _) ?_
  obtain ⟨hp, g, d, tk, os⟩ := s
  unfold Builtin.«NoneType.__eq__»
  wp_walk
  exact ⟨rfl, hq⟩
theorem tup_declines {K : PySem.W.Frag} {C p : Addr} {od : Option Obj} {items : Array Value} {Q : Shared → Prop} (X : K.In s.heap) (I : PySem.W.InstAt s.heap x o C od) (hs : PySem.W.subIn K (.ref C) (.type "tuple") = some false) (hp : s.heap.IsTuple p items) (hq : Q s) :
    wpAny (model prog w) A (call (.builtin "tuple.__eq__") [.ref p, .ref x]) (fun v s' => v = .notImplemented ∧ Q s') E s := by
  obtain ⟨⟨c1, d1, da, sl⟩, ho, hc, n, hd⟩ := id hp
  simp only at hc hd
  subst hc hd
  refine GQ.call_here F.slot_tuple_eq ⟨_, ho, rfl⟩ F.entry_tuple_eq (F.args_tuple_eq_2 _ _) ?_
  obtain ⟨hh, g, d, tk, os⟩ := s
  wp_walk
  refine wpAny_loadPart I.at_ (wpAny_pure ?_)
  rw [I.cls]
  refine (PySem.W.looks_subIn X hs).here ?_
  wp_walk
  exact ⟨rfl, hq⟩
end
/-! a == b by the own __eq__ of b, where that of a declines -/
section
variable {prog : Program} {w : World} {A : Around} {E : Value → Shared → Prop} {s : Shared} {K : PySem.W.Frag} {x C L f : Addr} {h₀ : Heap} {m : Str → Option Value} {ox : Obj} {od : Option Obj} {a : Value} {T id : String}
theorem turned_K {Q : Value → Shared → Prop} (hu : A.units < cLine) (F : PyProof.Rows.Fr h₀ L s.heap m) (X₀ : K.In h₀) (I : PySem.W.InstAt s.heap x ox C od) (hT : s.TypeIs a T) (sl : Slot T "__eq__" id)
    (one : oneThing? .Eq a (.ref x) = none) (hs : PySem.W.subIn K (.ref C) (.type T) = some false)
    (no : ∀ {Q : Shared → Prop}, Q s → wpAny (model prog w) A (call (.builtin id) [a, .ref x]) (fun v s' => v = .notImplemented ∧ Q s') E s)
    (he : PySem.W.findIn K (.ref C) "__eq__" = some (some (.ref f))) (hf : PySem.W.isFn K (.ref f) = true)
    (h : wpAny (model prog w) A (call (.ref f) [.ref x, a]) (fun v s' => ∃ r, v = .bool r ∧ Q (.bool r) s') E s) : wpAny (model prog w) A (richCompare .Eq a (.ref x)) Q E s := by
  have X := X₀.keeps F.keep
  unfold richCompare
  simp only [one]
  refine wpAny_holding (wpAny_bind (wpAny_cRoomFor hu ?_))
  refine wpAny_bind (wpAny_typeOf hT (wpAny_bind (I.type.here ?_)))
  split
  · refine wpAny_bind ((PySem.W.looks_subIn X hs).here ?_)
    simp only [Bool.false_eq_true, if_false]
    refine wpAny_bind (wpAny_tryCompare_declines hT sl (no ?_))
    simp only [Bool.not_false, if_true]
    have two : wpAny (model prog w) A (tryCompare (.ref x) "__eq__" a) (fun r s' => ∃ v, r = some v ∧ Q v s') E s := by
      unfold tryCompare
      refine wpAny_bind (PySem.W.ifBound_K X I he hf (wpAny_mono h (fun v s' hv => ?_) fun _ _ e => e))
      obtain ⟨r, rfl, q⟩ := hv
      exact wpAny_pure ⟨_, rfl, q⟩
    refine wpAny_bind (wpAny_mono two (fun r s' z => ?_) fun _ _ e => e)
    obtain ⟨v, rfl, hq⟩ := z
    exact wpAny_pure hq
  · rename_i q
    exact absurd (by simp) q
end
end V3

set_option Elab.async false
set_option linter.all false
set_option maxRecDepth 100000
namespace V3
open PySem PySem.Spec PyProof.Rows L2
/-- what of a class is wanted where its objects stand behind texts, None and tuples -/
structure Behind (K : PySem.W.Frag) (C : Addr) : Prop where
  s : PySem.W.subIn K (.ref C) (.type "str") = some false
  n : PySem.W.subIn K (.ref C) (.type "NoneType") = some false
  t : PySem.W.subIn K (.ref C) (.type "tuple") = some false
inductive Plain (H : Hp) : V → Prop where
  | str (z : Str) : Plain H (.str z)
  | non : Plain H .non
  | tup {b : Addr} {ys : List V} (h : H b = some (.tup ys)) : Plain H (.ref b)
section
variable {prog : Program} {w : World} {A : Around} {E : Value → Shared → Prop} {s : Shared}
theorem eqB_str {z : Str} {t : Tok} {a : Addr} {Q : Bool → Shared → Prop} (h : wpAny (model prog w) A (richCompare .Eq (.str z t) (.ref a)) (fun v s' => ∃ r, v = .bool r ∧ Q r s') E s) :
    wpAny (model prog w) A (eqBool (.str z t) (.ref a)) Q E s := by
  unfold eqBool
  refine wpAny_holding (wpAny_ite_split (fun q => absurd (eq_of_beq q) (fun e => nomatch e)) fun _ => ?_)
  refine wpAny_bind (wpAny_mono h (fun v s' hv => ?_) fun _ _ x => x)
  obtain ⟨r, rfl, q⟩ := hv
  exact wpAny_truthy_bool q
theorem eqB_non {a : Addr} {Q : Bool → Shared → Prop} (h : wpAny (model prog w) A (richCompare .Eq .none (.ref a)) (fun v s' => ∃ r, v = .bool r ∧ Q r s') E s) :
    wpAny (model prog w) A (eqBool .none (.ref a)) Q E s := by
  unfold eqBool
  refine wpAny_holding (wpAny_ite_split (fun q => absurd (eq_of_beq q) (fun e => nomatch e)) fun _ => ?_)
  refine wpAny_bind (wpAny_mono h (fun v s' hv => ?_) fun _ _ x => x)
  obtain ⟨r, rfl, q⟩ := hv
  exact wpAny_truthy_bool q
end
section
variable {X : Cx} {n : Nat}
/-- x in (..), x of an own class, no item equal to it -/
def rInO (K : PySem.W.Frag) (FF : Addr → Sp → XK → Prop) : R2 := fun x y H Q => ∃ (a p C dx : Addr) (fs : List (Str × V)) (xs : List V) (sp : Sp) (E : XK), x = .ref a ∧ y = .ref p ∧ H a = some (.ins C dx fs) ∧ H p = some (.tup xs) ∧
  (∀ z ∈ xs, Plain H z) ∧ Behind K C ∧ FF C sp E ∧ (∀ z ∈ xs, sp [.ref a, z] H (fun v H' => v = .bl false ∧ H' = H) E) ∧ Q (.bl false) H
theorem op_inO {FF : Addr → Sp → XK → Prop} (hF : ∀ C sp E, FF C sp E → ∃ (CX : CXT) (f : Addr) (fd : FuncData) (ps : List Str), FnOk X.prog X.w X.K X.mg X.base CX n f fd ps sp ∧ EqCls X.K C f ∧ Binds X.K fd ps [] ∧ Passes CX X E) (hr : Room (n + 1) X.A) :
    OpR X (compareOp .In) (rInO X.K FF) := by
  intro pins s σ H x y v u Q I rx ry hq
  obtain ⟨a, p, C, dx, fs, xs, sp, E, rfl, rfl, ha, hp, pl, bh, ff, hsp, q⟩ := hq
  obtain ⟨CX, f, fd, ps, F, ec, bi, hx⟩ := hF C sp E ff
  cases rx
  cases ry
  obtain ⟨its, rv, ht, hz⟩ := I.tuple (SqT.of hp)
  obtain ⟨⟨c0, dd, da, sl⟩, ho, hc, m, hd⟩ := id ht
  simp only at hc hd
  subst hc hd
  show wpAny (model X.prog X.w) X.A (do return .bool (← contains (.ref p) (.ref a))) (EP X pins σ Q) X.xe s
  refine wpAny_bind (wpAny_contains_slot ⟨_, ho, rfl⟩ PySem.F.slot_tuple_contains (wpAny_mono (GQ.call_here (Q := fun v s' => v = .bool false ∧ Inv X pins σ H s') PySem.F.slot_tuple_contains ⟨_, ho, rfl⟩ PySem.F.entry_tuple_contains (PySem.F.args_tuple_contains_2 _ _)
    (tuple_none p its.toArray m dd sl (.ref a) (fun _ s' => Inv X pins σ H s') ?_ (fun s' J => ⟨rfl, J⟩) ho I)) (fun v s' hv => ?_) fun _ _ e => e))
  · intro i hi s' J
    have hi2 : i < its.length := by simpa using hi
    have hi3 : i < xs.length := by rw [rv.length]; exact hi2
    obtain ⟨u, hu, ru⟩ := rv.get (List.getElem?_eq_getElem hi3)
    have eu : its.toArray[i] = u := by
      rw [List.getElem?_eq_getElem hi2] at hu
      simpa using Option.some.inj hu
    rw [eu]
    have mem : xs[i] ∈ xs := List.getElem_mem hi3
    have pz := pl _ mem
    have own := hsp _ mem
    generalize xs[i] = z at ru pz own
    obtain ⟨mA, O, _⟩ := ins_get J.hok ha
    obtain ⟨od, IA, _⟩ := O.look
    obtain ⟨mm, hFr⟩ := J.fr
    have run : wpAny (model X.prog X.w) X.A.in1 (call (.ref f) [.ref a, u]) (fun v s2 => ∃ r, v = .bool r ∧ r = false ∧ Inv X pins σ H s2) X.xe s' :=
      wpAny_mono (run_own (x := .ref a) (y := z) ⟨hr.in1, rfl⟩ F bi hx J rfl ru own) (fun w s2 k => by
        obtain ⟨z2, H', J2, rz, ez, eH⟩ := k
        subst ez
        subst eH
        cases rz
        exact ⟨false, rfl, rfl, J2⟩) fun _ _ e => e
    have hu1 : X.A.in1.units < cLine := hr.in1.units0
    cases pz with
    | str zz =>
      obtain ⟨t, rfl⟩ := ru
      refine eqB_str (turned_K (T := "str") hu1 hFr J.ok.mod.kin IA (typeIs_str _ _ _) PySem.F.slot_str_eq rfl bh.s (fun k => str_declines IA.at_ rfl k) ec.eq ec.fn (wpAny_mono run (fun v s2 k => ?_) fun _ _ e => e))
      obtain ⟨r, rfl, e, J2⟩ := k
      exact ⟨r, rfl, r, rfl, e, J2⟩
    | non =>
      cases ru
      refine eqB_non (turned_K (T := "NoneType") hu1 hFr J.ok.mod.kin IA (typeIs_none _) PySem.F.slot_NoneType_eq rfl bh.n (fun k => none_declines k) ec.eq ec.fn (wpAny_mono run (fun v s2 k => ?_) fun _ _ e => e))
      obtain ⟨r, rfl, e, J2⟩ := k
      exact ⟨r, rfl, r, rfl, e, J2⟩
    | @tup b ys hb =>
      cases ru
      obtain ⟨its2, r2, ht2, hz2⟩ := J.tuple (SqT.of hb)
      have ne : b ≠ a := by
        intro e
        subst e
        rw [ha] at hb
        cases hb
      obtain ⟨o2, ho2, hc2, _⟩ := id ht2
      refine GQ.eqBool_refG ne (turned_K (T := "tuple") hu1 hFr J.ok.mod.kin IA ⟨o2, ho2, hc2⟩ PySem.F.slot_tuple_eq (by first | rfl | simp [oneThing_ref]) bh.t (fun k => tup_declines J.kIn IA bh.t ht2 k) ec.eq ec.fn (wpAny_mono run (fun v s2 k => ?_) fun _ _ e => e))
      obtain ⟨r, rfl, e, J2⟩ := k
      exact ⟨r, rfl, r, rfl, e, J2⟩
  · obtain ⟨rfl, J⟩ := hv
    exact wpAny_truthy_bool (wpAny_pure ⟨.bl false, H, J, rfl, q⟩)
end
end V3

set_option Elab.async false
set_option linter.all false
set_option maxRecDepth 100000
namespace V3
open PySem L2 TL
def num (i : Int) : Str := Str.ofString (toString i)
def Am (i : Int) : Prop := i.natAbs ≤ 1000000000000
theorem am_log {i : Int} (h : Am i) : i.natAbs.log2 < 1920 := Nat.lt_of_lt_of_le (PySem.Flt.log2_lt_of (k := 40) (by decide) (by
  have : (2 : Nat) ^ 40 = 1099511627776 := by decide
  unfold Am at h
  omega)) (by decide)
theorem num_len {i : Int} (h : Am i) : (num i).length ≤ 1921 := PyProof.Rows.int_text_len_1921 (am_log h)
theorem app_len (x y : Str) : (x ++ y).length = x.length + y.length := PySem.Str.length_append x y
theorem small {n : Nat} (h : n ≤ 10000) : n ≤ sizeLine := Nat.le_trans h (by decide)
def sp1 : Str := " "
theorem tl_num' {t : Int} (h : 0 ≤ t) : tl (num t) = numL t.toNat := by
  have e : ((t.toNat : Nat) : Int) = t := by omega
  have z := tl_num t.toNat
  rw [e] at z
  exact z
theorem num_free {t : Int} {s : Nat} (h : 0 ≤ t) (hs : s < 48 ∨ 57 < s) : s ∉ tl (num t) := by
  rw [tl_num' h]
  exact numL_free hs
theorem sp_tl : tl sp1 = [32] := by decide +kernel
theorem Same.new {p : Addr} {H : Hp} {o : HO} (hp : H p = none) : Same H (upd H p o) := fun c u h => by rw [upd_ne (ne_of_none h hp)]; exact h
theorem made_same {H : Hp} {y dy : Addr} {o1 o2 : HO} (ny : H y = none) (ndy : H dy = none) : Same H (upd (upd H dy o1) y o2) := fun b o e => by
  rw [upd_ne (ne_of_none e ny), upd_ne (ne_of_none e ndy)]
  exact e
theorem made_same2 {H : Hp} {y dy : Addr} {o1 o2 o3 : HO} (ny : H y = none) (ndy : H dy = none) : Same H (upd (upd (upd H dy o1) y o2) y o3) := fun b o e => by
  rw [upd_ne (ne_of_none e ny), upd_ne (ne_of_none e ny), upd_ne (ne_of_none e ndy)]
  exact e
def SameX (b : Addr) (H H' : Hp) : Prop := ∀ c o, c ≠ b → H c = some o → H' c = some o
theorem SameX.refl {b : Addr} {H : Hp} : SameX b H H := fun _ _ _ h => h
theorem SameX.trans {b : Addr} {H H1 H2 : Hp} (s : SameX b H H1) (t : SameX b H1 H2) : SameX b H H2 := fun c o n h => t c o n (s c o n h)
theorem SameX.of {b : Addr} {H H' : Hp} (s : Same H H') : SameX b H H' := fun c o _ h => s c o h
theorem SameX.box {b : Addr} {H : Hp} {o : HO} : SameX b H (upd H b o) := fun c _ n h => by rw [upd_ne n]; exact h
def Pre (b : Addr) (H H' : Hp) : Prop := SameX b H H' ∧ ∃ u v, BoxOk u v ∧ H' b = some (box u v)
theorem Pre.trans {b : Addr} {H H1 H2 : Hp} (s : Pre b H H1) (t : Pre b H1 H2) : Pre b H H2 := ⟨s.1.trans t.1, t.2⟩
theorem Pre.then {b : Addr} {H H1 H2 : Hp} (s : Pre b H H1) (t : Same H1 H2) : Pre b H H2 := by
  obtain ⟨h, u, v, ok, e⟩ := s
  exact ⟨h.trans (SameX.of t), u, v, ok, t _ _ e⟩
theorem Pre.box {b : Addr} {H : Hp} {u v : Int} (ok : BoxOk u v) : Pre b H (upd H b (box u v)) := ⟨SameX.box, u, v, ok, upd_same⟩
theorem Pre.start {b : Addr} {H : Hp} {u v : Int} (ok : BoxOk u v) (h : H b = some (V3.box u v)) : Pre b H H := ⟨SameX.refl, u, v, ok, h⟩
def Keep (H H' : Hp) : Prop := ∀ c o, (∀ xs, o ≠ .lst xs) → H c = some o → H' c = some o
theorem Keep.of {H H' : Hp} (s : Same H H') : Keep H H' := fun c o _ h => s c o h
theorem Keep.lst {H : Hp} {D : Addr} {xs : List V} {o : HO} (hD : H D = some (.lst xs)) : Keep H (upd H D o) := fun c u n h => by
  have nc : c ≠ D := fun e => by
    subst e
    rw [hD] at h
    injection h with h
    exact n _ h.symm
  rw [upd_ne nc]
  exact h
theorem Keep.pre {H H' : Hp} {b : Addr} {xs : List V} (hb : H b = some (.lst xs)) (s : SameX b H H') : Keep H H' := fun c u n h => by
  have nc : c ≠ b := fun e => by
    subst e
    rw [hb] at h
    injection h with h
    exact n _ h.symm
  exact s c u nc h
theorem at_end {α : Type} {xs : List α} {x y : α} {i : Nat} (h : (xs ++ [x])[i]? = some y) : (i < xs.length ∧ xs[i]? = some y) ∨ (i = xs.length ∧ y = x) := by
  by_cases c : i < xs.length
  · exact .inl ⟨c, by rw [List.getElem?_append_left c] at h; exact h⟩
  · rw [List.getElem?_append_right (by omega)] at h
    obtain ⟨l, e⟩ := List.getElem?_eq_some_iff.mp h
    have z : i - xs.length = 0 := by simpa using l
    exact .inr ⟨by omega, by simp [z] at e; exact e.symm⟩
theorem at_old {α : Type} {xs : List α} {x y : α} {i : Nat} (h : xs[i]? = some y) : (xs ++ [x])[i]? = some y := by
  have l := (List.getElem?_eq_some_iff.mp h).1
  rw [List.getElem?_append_left l]
  exact h
theorem at_new {α : Type} {xs : List α} {x : α} {n : Nat} (h : xs.length = n) : (xs ++ [x])[n]? = some x := by
  subst h
  simp
theorem take_next {α : Type} {ms : List α} {m : α} {i : Nat} (h : ms[i]? = some m) : ms.take (i + 1) = ms.take i ++ [m] := by
  rw [List.take_add_one, h]
  rfl
theorem Same.upn {H H1 : Hp} {b : Addr} {o : HO} (s : Same H H1) (nb : H b = none) : Same H (upd H1 b o) := fun c u e => by
  rw [upd_ne (ne_of_none e nb)]
  exact s c u e
theorem Pre.all {b : Addr} {H H' : Hp} (p : Pre b H H') (n : H b = none) : Same H H' := fun c o h => p.1 c o (ne_of_none h n) h
end V3

set_option Elab.async false
set_option linter.all false
set_option maxRecDepth 100000
namespace V3
open PySem L2 TL
/-! rows of houses and of reports: their words and texts -/
def kindL : List Str := ["first", "new", "minus", "plus"]
def stateL : List Str := ["open", "shut"]
def deedL : List Str := ["whole", "part", "right"]
def placeL : List Str := ["now", "there"]
def whoseL : List Str := ["own", "target", "top", "deed"]
inductive Rw where
  | lt (k s d p : Str)
  | ct (k : Str) (w : Int) (o : Str)
  deriving DecidableEq
def Wt (w : Int) : Prop := w = -1 ∨ w = 0 ∨ w = 1
def Rw.ok : Rw → Prop
  | .lt k s d p => k ∈ kindL ∧ s ∈ stateL ∧ d ∈ deedL ∧ p ∈ placeL ∧ (d = "right" → k = "first" ∨ k = "new")
  | .ct k w o => k ∈ kindL ∧ Wt w ∧ o ∈ whoseL
def Rw.words : Rw → List Str
  | .lt k s d p => [k, s, d, p]
  | .ct k w o => [k, num w, o]
def Rw.text (m : Rw) : Str := Str.join sp1 m.words
def Rw.kind : Rw → Nat
  | .lt _ _ _ _ => 0
  | .ct _ _ _ => 1
theorem all_free : ∀ p ∈ kindL ++ stateL ++ deedL ++ placeL ++ whoseL ++ [num (-1), num 0, num 1], (32 ∉ tl p ∧ 10 ∉ tl p) ∧ p.length ≤ 6 := by decide +kernel
theorem wt_word {w : Int} (h : Wt w) : num w ∈ [num (-1), num 0, num 1] := by
  rcases h with rfl | rfl | rfl <;> simp
theorem word_ok {m : Rw} (h : m.ok) : ∀ p ∈ m.words, (32 ∉ tl p ∧ 10 ∉ tl p) ∧ p.length ≤ 6 := by
  intro p hp
  refine all_free p ?_
  cases m with
  | lt k s d q =>
    obtain ⟨a, b, c, e, _⟩ := h
    simp only [Rw.words, List.mem_cons, List.not_mem_nil, or_false] at hp
    simp only [List.mem_append]
    rcases hp with rfl | rfl | rfl | rfl
    · exact .inl (.inl (.inl (.inl (.inl a))))
    · exact .inl (.inl (.inl (.inl (.inr b))))
    · exact .inl (.inl (.inl (.inr c)))
    · exact .inl (.inl (.inr e))
  | ct k w o =>
    obtain ⟨a, b, c⟩ := h
    simp only [Rw.words, List.mem_cons, List.not_mem_nil, or_false] at hp
    simp only [List.mem_append]
    rcases hp with rfl | rfl | rfl
    · exact .inl (.inl (.inl (.inl (.inl a))))
    · exact .inr (wt_word b)
    · exact .inl (.inr c)
theorem rw_ne (m : Rw) : m.words ≠ [] := by cases m <;> exact (fun z => nomatch z)
theorem rw_split {m : Rw} (h : m.ok) : Txt.split m.text sp1 = m.words := by
  unfold Rw.text
  have z := split_join sp_tl (by decide +kernel) (rw_ne m) fun p hp => (word_ok h p hp).1.1
  rw [join_eq] at z
  exact z
theorem wt_inj {v w : Int} (hv : Wt v) (hw : Wt w) (e : num v = num w) : v = w := by
  have d1 : num (-1) ≠ num 0 := by decide +kernel
  have d2 : num (-1) ≠ num 1 := by decide +kernel
  have d3 : num 0 ≠ num 1 := by decide +kernel
  rcases hv with rfl | rfl | rfl <;> rcases hw with rfl | rfl | rfl <;> first | rfl | exact absurd e d1 | exact absurd e d2 | exact absurd e d3 | exact absurd e.symm d1 | exact absurd e.symm d2 | exact absurd e.symm d3
theorem rw_inj {m n : Rw} (hm : m.ok) (hn : n.ok) (h : m.text = n.text) : m = n := by
  have e : m.words = n.words := by rw [← rw_split hm, ← rw_split hn, h]
  cases m with
  | lt k s d p =>
    cases n with
    | lt k' s' d' p' =>
      simp only [Rw.words, List.cons.injEq, and_true] at e
      obtain ⟨rfl, rfl, rfl, rfl⟩ := e
      rfl
    | ct k' w' o' => simp [Rw.words] at e
  | ct k w o =>
    cases n with
    | lt k' s' d' p' => simp [Rw.words] at e
    | ct k' w' o' =>
      simp only [Rw.words, List.cons.injEq, and_true] at e
      obtain ⟨rfl, ew, rfl⟩ := e
      rw [wt_inj hm.2.1 hn.2.1 ew]
theorem rw_dec {m n : Rw} (hm : m.ok) (hn : n.ok) : decide (m.text = n.text) = decide (m = n) := by
  by_cases h : m = n
  · rw [h, decide_eq_true rfl, decide_eq_true rfl]
  · rw [decide_eq_false h, decide_eq_false (fun e => h (rw_inj hm hn e))]
/-- what the two classes write -/
theorem let_text (k s d p : Str) : Str.empty ++ k ++ " " ++ s ++ " " ++ d ++ " " ++ p = (Rw.lt k s d p).text := ext_tl (by
  unfold Rw.text
  rw [tl_join]
  have e : tl (" " : Str) = [32] := by decide +kernel
  simp only [tl_append, Rw.words, List.map, joinL, sp_tl, e]
  simp [Str.empty, tl])
theorem cnt_text (k : Str) (w : Int) (o : Str) : Str.empty ++ k ++ " " ++ num w ++ " " ++ o = (Rw.ct k w o).text := ext_tl (by
  unfold Rw.text
  rw [tl_join]
  have e : tl (" " : Str) = [32] := by decide +kernel
  simp only [tl_append, Rw.words, List.map, joinL, sp_tl, e]
  simp [Str.empty, tl])
theorem inV_str {k : Str} {L : List Str} : inV (.str k) (L.map V.str) = decide (k ∈ L) := by
  induction L with
  | nil => rfl
  | cons a r ih =>
    have e : inV (.str k) ((a :: r).map V.str) = (a == k || inV (.str k) (r.map V.str)) := rfl
    rw [e, ih]
    by_cases q : k = a
    · subst q
      simp
    · have z : (a == k) = false := Bool.eq_false_iff.mpr fun w => q (eq_of_beq w).symm
      rw [z]
      simp [q]
theorem flat_strs (L : List Str) : (L.map V.str).all flatV = true := by
  induction L with
  | nil => rfl
  | cons a r ih => simpa [flatV] using ih
/-- fields -/
theorem putF_ne {f g : Str} {v x : V} {r : List (Str × V)} (h : g ≠ f) : putF f v ((g, x) :: r) = (g, x) :: putF f v r := by
  show (if g = f then _ else _) = _
  rw [if_neg h]
theorem lk_ne {f g : Str} {v : V} {r : List (Str × V)} (h : (g == f) = false) : List.lookup g ((f, v) :: r) = List.lookup g r := by
  simp [List.lookup, h]
structure Rc where
  L : Addr
  C : Addr
def Rc.at (c : Rc) : Nat → Addr
  | 0 => c.L
  | _ => c.C
def letF (k s d p : V) : List (Str × V) := [("kind", k), ("state", s), ("deed", d), ("place", p)]
def cntF (k w o : V) : List (Str × V) := [("kind", k), ("weight", w), ("whose", o)]
def Rw.fs : Rw → List (Str × V)
  | .lt k s d p => letF (.str k) (.str s) (.str d) (.str p)
  | .ct k w o => cntF (.str k) (.int w) (.str o)
def Rw.obj (c : Rc) (dx : Addr) (m : Rw) : HO := .ins (c.at m.kind) dx m.fs
def RwAt (c : Rc) (H : Hp) (v : V) (m : Rw) : Prop := ∃ x dx, v = .ref x ∧ H x = some (m.obj c dx)
theorem RwAt.keep {c : Rc} {H H' : Hp} {v : V} {m : Rw} (h : RwAt c H v m) (s : Keep H H') : RwAt c H' v m := by
  obtain ⟨x, dx, e, hx⟩ := h
  exact ⟨x, dx, e, s _ _ (fun _ z => by cases z) hx⟩
theorem RwAt.same {c : Rc} {H H' : Hp} {v : V} {m : Rw} (h : RwAt c H v m) (s : Same H H') : RwAt c H' v m := h.keep (Keep.of s)
theorem rkind_lt (m : Rw) : m.kind < 2 := by cases m <;> (simp only [Rw.kind]; omega)
theorem let_put (k s d p : V) : putF "place" p (putF "deed" d (putF "state" s (putF "kind" k []))) = letF k s d p := by
  have a1 : ("kind" : Str) ≠ "state" := by decide +kernel
  have a2 : ("kind" : Str) ≠ "deed" := by decide +kernel
  have a3 : ("kind" : Str) ≠ "place" := by decide +kernel
  have a4 : ("state" : Str) ≠ "deed" := by decide +kernel
  have a5 : ("state" : Str) ≠ "place" := by decide +kernel
  have a6 : ("deed" : Str) ≠ "place" := by decide +kernel
  show putF "place" p (putF "deed" d (putF "state" s [("kind", k)])) = _
  rw [putF_ne a1]
  show putF "place" p (putF "deed" d [("kind", k), ("state", s)]) = _
  rw [putF_ne a2, putF_ne a4]
  show putF "place" p [("kind", k), ("state", s), ("deed", d)] = _
  rw [putF_ne a3, putF_ne a5, putF_ne a6]
  rfl
theorem cnt_put (k w o : V) : putF "whose" o (putF "weight" w (putF "kind" k [])) = cntF k w o := by
  have a1 : ("kind" : Str) ≠ "weight" := by decide +kernel
  have a2 : ("kind" : Str) ≠ "whose" := by decide +kernel
  have a3 : ("weight" : Str) ≠ "whose" := by decide +kernel
  show putF "whose" o (putF "weight" w [("kind", k)]) = _
  rw [putF_ne a1]
  show putF "whose" o [("kind", k), ("weight", w)] = _
  rw [putF_ne a2, putF_ne a3]
  rfl
theorem let_kind (k s d p : V) : (letF k s d p).lookup ("kind" : Str) = some k := rfl
theorem let_state (k s d p : V) : (letF k s d p).lookup ("state" : Str) = some s := by
  unfold letF
  rw [lk_ne (by decide +kernel)]
  rfl
theorem let_deed (k s d p : V) : (letF k s d p).lookup ("deed" : Str) = some d := by
  unfold letF
  rw [lk_ne (by decide +kernel), lk_ne (by decide +kernel)]
  rfl
theorem let_place (k s d p : V) : (letF k s d p).lookup ("place" : Str) = some p := by
  unfold letF
  rw [lk_ne (by decide +kernel), lk_ne (by decide +kernel), lk_ne (by decide +kernel)]
  rfl
theorem cnt_kind (k w o : V) : (cntF k w o).lookup ("kind" : Str) = some k := rfl
theorem cnt_weight (k w o : V) : (cntF k w o).lookup ("weight" : Str) = some w := by
  unfold cntF
  rw [lk_ne (by decide +kernel)]
  rfl
theorem cnt_whose (k w o : V) : (cntF k w o).lookup ("whose" : Str) = some o := by
  unfold cntF
  rw [lk_ne (by decide +kernel), lk_ne (by decide +kernel)]
  rfl
end V3

set_option Elab.async false
set_option linter.all false
set_option maxRecDepth 100000
namespace V3
open PySem L2 TL
abbrev sIsInt : Stmt := top 1
abbrev sWrongWord : Stmt := top 11
abbrev sWrongPart : Stmt := top 16
abbrev sLInit : Stmt := inClass (top 10) 0
abbrev sLStr : Stmt := inClass (top 10) 2
abbrev sLEq : Stmt := inClass (top 10) 1
abbrev sCInit : Stmt := inClass (top 15) 0
abbrev sCStr : Stmt := inClass (top 15) 2
abbrev sCEq : Stmt := inClass (top 15) 1
/-! the classes of rows -/
structure RowT (K : PySem.W.Frag) (mg : Str → Option Value) (KA SA DA PA WA OA : Addr) : Prop where
  kinds : mg "KINDS" = some (.ref KA)
  states : mg "STATES" = some (.ref SA)
  deeds : mg "DEEDS" = some (.ref DA)
  places : mg "PLACES" = some (.ref PA)
  weights : mg "WEIGHTS" = some (.ref WA)
  whose : mg "WHOSE" = some (.ref OA)
  tK : ∀ H, SqT K H KA (kindL.map V.str)
  tS : ∀ H, SqT K H SA (stateL.map V.str)
  tD : ∀ H, SqT K H DA (deedL.map V.str)
  tP : ∀ H, SqT K H PA (placeL.map V.str)
  tW : ∀ H, SqT K H WA [.int (-1), .int 0, .int 1]
  tO : ∀ H, SqT K H OA (whoseL.map V.str)
structure BltR (mg : Str → Option Value) : Prop where
  isi : mg "isinstance" = none
  int : mg "int" = none
  bool : mg "bool" = none
  str : mg "str" = none
def spIntI : Sp := fun vs H Q _ => ∃ i : Int, vs = [.int i] ∧ Q (.bl true) H
def spWord : Sp := fun vs H Q _ => ∃ k s d p, vs = [.str k, .str s, .str d, .str p] ∧ (Rw.lt k s d p).ok ∧ ∀ H', Same H H' → Q .non H'
def spPart : Sp := fun vs H Q _ => ∃ k w o, vs = [.str k, .int w, .str o] ∧ (Rw.ct k w o).ok ∧ Q .non H
def spLInit (c : Rc) : Sp := fun vs H Q _ => ∃ x dx k s d p, vs = [.ref x, .str k, .str s, .str d, .str p] ∧ H x = some (.ins c.L dx []) ∧ (Rw.lt k s d p).ok ∧ ∀ H', SameX x H H' → H' x = some ((Rw.lt k s d p).obj c dx) → Q .non H'
def spCInit (c : Rc) : Sp := fun vs H Q _ => ∃ x dx k w o, vs = [.ref x, .str k, .int w, .str o] ∧ H x = some (.ins c.C dx []) ∧ (Rw.ct k w o).ok ∧ ∀ H', SameX x H H' → H' x = some ((Rw.ct k w o).obj c dx) → Q .non H'
def spRS (c : Rc) (k : Nat) : Sp := fun vs H Q _ => ∃ (x dx : Addr) (m : Rw), vs = [.ref x] ∧ H x = some (m.obj c dx) ∧ m.kind = k ∧ m.ok ∧ Q (.str m.text) H
def spREq (c : Rc) (k : Nat) : Sp := fun vs H Q _ => ∃ (u v : V) (m n : Rw), vs = [u, v] ∧ m.kind = k ∧ RwAt c H u m ∧ RwAt c H v n ∧ m.ok ∧ n.ok ∧ Q (.bl (decide (m = n))) H
theorem lt_put {f : Str} {v : V} {n : Nat} : ∀ {fs : List (Str × V)}, fs.length < n → (putF f v fs).length < n + 1
  | [], h => by
    show 1 < n + 1
    have : 0 < n := h
    omega
  | (g, x) :: r, h => by
    show (if g = f then (g, v) :: r else (g, x) :: putF f v r).length < n + 1
    have l : r.length + 1 < n := h
    split
    · show r.length + 1 < n + 1
      omega
    · have z := lt_put (f := f) (v := v) (n := n - 1) (fs := r) (by omega)
      show (putF f v r).length + 1 < n + 1
      omega
theorem SameX.upd {x : Addr} {H H' : Hp} {o : HO} (s : SameX x H H') : SameX x H (upd H' x o) := fun c u n h => by
  rw [upd_ne n]
  exact s c u n h
/-- what an object's class must have of its fields -/
structure LetC (K : PySem.W.Frag) (c : Rc) : Prop where
  cl : Cls K c.L
  k : NoAttr K c.L "kind"
  s : NoAttr K c.L "state"
  d : NoAttr K c.L "deed"
  p : NoAttr K c.L "place"
structure CntC (K : PySem.W.Frag) (c : Rc) : Prop where
  cl : Cls K c.C
  k : NoAttr K c.C "kind"
  w : NoAttr K c.C "weight"
  o : NoAttr K c.C "whose"
section
variable {P : Program} {w : World} {K : PySem.W.Frag} {mg : Str → Option Value} {base : Heap} {KA SA DA PA WA OA : Addr}
theorem scIsInt : FnScope ["value"] ["value"] (defScope sIsInt) := ⟨rfl, rfl, rfl, by decide +kernel, rfl, by decide +kernel, by decide +kernel⟩
theorem scWord : FnScope ["kind", "state", "deed", "place"] ["kind", "state", "deed", "place"] (defScope sWrongWord) := ⟨rfl, rfl, rfl, by decide +kernel, rfl, by decide +kernel, by decide +kernel⟩
theorem scPart : FnScope ["kind", "weight", "whose"] ["kind", "weight", "whose"] (defScope sWrongPart) := ⟨rfl, rfl, rfl, by decide +kernel, rfl, by decide +kernel, by decide +kernel⟩
theorem scLInit : FnScope ["self", "kind", "state", "deed", "place", "wrong"] ["self", "kind", "state", "deed", "place"] (defScope sLInit) := ⟨rfl, rfl, rfl, by decide +kernel, rfl, by decide +kernel, by decide +kernel⟩
theorem scCInit : FnScope ["self", "kind", "weight", "whose", "wrong"] ["self", "kind", "weight", "whose"] (defScope sCInit) := ⟨rfl, rfl, rfl, by decide +kernel, rfl, by decide +kernel, by decide +kernel⟩
theorem scLStr : FnScope ["self"] ["self"] (defScope sLStr) := ⟨rfl, rfl, rfl, by decide +kernel, rfl, by decide +kernel, by decide +kernel⟩
theorem scCStr : FnScope ["self"] ["self"] (defScope sCStr) := ⟨rfl, rfl, rfl, by decide +kernel, rfl, by decide +kernel, by decide +kernel⟩
theorem scLEq : FnScope ["self", "other"] ["self", "other"] (defScope sLEq) := ⟨rfl, rfl, rfl, by decide +kernel, rfl, by decide +kernel, by decide +kernel⟩
theorem scCEq : FnScope ["self", "other"] ["self", "other"] (defScope sCEq) := ⟨rfl, rfl, rfl, by decide +kernel, rfl, by decide +kernel, by decide +kernel⟩
theorem ok_intI {f : Addr} {fd : FuncData} (F : Fun K "is_integer" "is_integer" sIsInt f fd) (T : BltR mg) : FnOk P w K mg base CX0 1 f fd ["value"] spIntI := by
  refine F.ok scIsInt (fun vs H Q E h => ?_) (fun cdv A outer s H vs Q E hr h => ?_)
  · obtain ⟨v, rfl, _⟩ := h
    rfl
  · obtain ⟨i, rfl, q⟩ := h
    refine ⟨_, pss_one (ps_ret (pe_and (pe_callB call_isi (by rfl) T.isi (by decide +kernel) (pa_cons (pv 0) (pa_cons (pe_bltn (v := .ty "int") (by rfl) T.int (by decide +kernel) rfl) pa_nil)))
      (pe_one (pe_not (pe_callB call_isi (by rfl) T.isi (by decide +kernel) (pa_cons (pv 0) (pa_cons (pe_bltn (v := .ty "bool") (by rfl) T.bool (by decide +kernel) rfl) pa_nil))))))), ?_⟩
    refine ⟨_, rfl, _, _, _, _, _, rfl, .ty "int", .base (.int i), (show PySem.W.kitOne K (.type "int") (.type "int") = some true from kit_ty (by decide +kernel)), _, rfl, iteT ?_⟩
    exact ⟨_, rfl, _, _, _, _, _, rfl, .ty "bool", .base (.int i), (show PySem.W.kitOne K (.type "int") (.type "bool") = some false from kit_ty (by decide +kernel)), _, rfl, q⟩
theorem ok_word {f : Addr} {fd : FuncData} (F : Fun K "wrong_word" "wrong_word" sWrongWord f fd) (T : RowT K mg KA SA DA PA WA OA) : FnOk P w K mg base CX0 1 f fd ["kind", "state", "deed", "place"] spWord := by
  refine F.ok scWord (fun vs H Q E h => ?_) (fun cdv A outer s H vs Q E hr h => ?_)
  · obtain ⟨k, s, d, p, rfl, _⟩ := h
    rfl
  · obtain ⟨k, s, d, p, rfl, ⟨k1, s1, d1, p1, r1⟩, q⟩ := h
    refine ⟨_, pss_cons (ps_if (pt_cmpR op_notIn_seq (pv 0) (pe_glob (v := .ref KA) rfl T.kinds rfl) rfl) (pss_one (ps_ret pe_str)) pss_nil)
      (pss_cons (ps_if (pt_cmpR op_notIn_seq (pv 1) (pe_glob (v := .ref SA) rfl T.states rfl) rfl) (pss_one (ps_ret pe_str)) pss_nil)
      (pss_cons (ps_if (PW.pt (pw_or (pt_cmpR op_notIn_seq (pv 2) (pe_glob (v := .ref DA) rfl T.deeds rfl) rfl) (pw_or1 (PW.pt (pw_and (pt_cmpR op_eq (pv 2) pe_str (nomark _)) (pw_and1 (pt_cmpR op_in_seq (pv 0) (pe_tup (pa_cons pe_str (pa_cons pe_str pa_nil))) rfl))))))) (pss_one (ps_ret pe_str)) pss_nil)
      (pss_cons (ps_if (pt_cmpR op_notIn_seq (pv 3) (pe_glob (v := .ref PA) rfl T.places rfl) rfl) (pss_one (ps_ret pe_str)) pss_nil)
      (pss_one (ps_ret pe_non))))), ?_⟩
    refine ⟨_, rfl, KA, _, rfl, .inr (T.tK _), rfl, flat_strs _, _, rfl, ?_⟩
    rw [inV_str, decide_eq_true k1]
    refine iteF ⟨_, rfl, SA, _, rfl, .inr (T.tS _), rfl, flat_strs _, _, rfl, ?_⟩
    rw [inV_str, decide_eq_true s1]
    refine iteF ⟨_, rfl, DA, _, rfl, .inr (T.tD _), rfl, flat_strs _, _, rfl, ?_⟩
    rw [inV_str, decide_eq_true d1]
    refine iteF ⟨_, rfl, rfl, _, rfl, ?_⟩
    have last : ∀ H', Same H H' → Q .non H' := q
    by_cases e : d = "right"
    · subst e
      rw [decide_eq_true rfl]
      refine iteT ⟨_, rfl, (by show 2 ≤ sizeLine; decide), fun t nt => ⟨t, _, rfl, .inr (SqT.of upd_same), rfl, rfl, _, rfl, ?_⟩⟩
      have z : inV (.str k) [.str "minus", .str "plus"] = false := by
        rcases r1 rfl with rfl | rfl <;> decide +kernel
      have z2 : (if false = true then !inV (V.str k) [.str "minus", .str "plus"] else inV (V.str k) [.str "minus", .str "plus"]) = false := by rw [if_neg Bool.false_ne_true, z]
      rw [z2]
      refine iteF ⟨_, rfl, PA, _, rfl, .inr (T.tP _), rfl, flat_strs _, _, rfl, ?_⟩
      rw [inV_str, decide_eq_true p1]
      exact iteF (last _ (Same.new nt))
    · have e2 : decide (V.str d = V.str "right") = false := decide_eq_false (fun z => e (by injection z))
      rw [e2]
      refine iteF ⟨_, rfl, PA, _, rfl, .inr (T.tP _), rfl, flat_strs _, _, rfl, ?_⟩
      rw [inV_str, decide_eq_true p1]
      exact iteF (last _ (Same.refl H))
theorem ok_part {f : Addr} {fd : FuncData} (F : Fun K "wrong_part" "wrong_part" sWrongPart f fd) (T : RowT K mg KA SA DA PA WA OA) (cI : Cal P w K mg base CX0 "is_integer" 1 ["value"] spIntI) : FnOk P w K mg base CX0 2 f fd ["kind", "weight", "whose"] spPart := by
  obtain ⟨fI, fdI, GI, mI, kI, bI⟩ := cI
  refine F.ok scPart (fun vs H Q E h => ?_) (fun cdv A outer s H vs Q E hr h => ?_)
  · obtain ⟨k, w, o, rfl, _⟩ := h
    rfl
  · obtain ⟨k, w, o, rfl, ⟨k1, w1, o1⟩, q⟩ := h
    refine ⟨_, pss_cons (ps_if (pt_cmpR op_notIn_seq (pv 0) (pe_glob (v := .ref KA) rfl T.kinds rfl) rfl) (pss_one (ps_ret pe_str)) pss_nil)
      (pss_cons (ps_if (pt_not (PW.pt (pw_and (pt_val (pe_call GI hr rfl mI kI bI .nil pass0 (pa_cons (pv 1) pa_nil))) (pw_and1 (pt_cmpR op_in_seq (pv 1) (pe_glob (v := .ref WA) rfl T.weights rfl) rfl))))) (pss_one (ps_ret pe_str)) pss_nil)
      (pss_cons (ps_if (pt_cmpR op_notIn_seq (pv 2) (pe_glob (v := .ref OA) rfl T.whose rfl) rfl) (pss_one (ps_ret pe_str)) pss_nil)
      (pss_one (ps_ret pe_non)))), ?_⟩
    refine ⟨_, rfl, KA, _, rfl, .inr (T.tK _), rfl, flat_strs _, _, rfl, ?_⟩
    rw [inV_str, decide_eq_true k1]
    refine iteF ⟨_, rfl, w, rfl, _, rfl, iteT ⟨_, rfl, WA, _, rfl, .inr (T.tW _), rfl, rfl, _, rfl, ?_⟩⟩
    have z : inV (.int w) [.int (-1), .int 0, .int 1] = true := by
      rcases w1 with rfl | rfl | rfl <;> decide +kernel
    have z2 : (if false = true then !inV (V.int w) [.int (-1), .int 0, .int 1] else inV (V.int w) [.int (-1), .int 0, .int 1]) = true := by rw [if_neg Bool.false_ne_true, z]
    rw [z2]
    refine iteF ⟨_, rfl, OA, _, rfl, .inr (T.tO _), rfl, flat_strs _, _, rfl, ?_⟩
    rw [inV_str, decide_eq_true o1]
    exact iteF q
theorem ok_lInit {f : Addr} {c : Rc} {fd : FuncData} (F : Fun K "__init__" "Let.__init__" sLInit f fd) (L : LetC K c) (cW : Cal P w K mg base CX0 "wrong_word" 1 ["kind", "state", "deed", "place"] spWord) : FnOk P w K mg base CX0 2 f fd ["self", "kind", "state", "deed", "place"] (spLInit c) := by
  obtain ⟨fW, fdW, GW, mW, kW, bW⟩ := cW
  refine F.ok scLInit (fun vs H Q E h => ?_) (fun cdv A outer s H vs Q E hr h => ?_)
  · obtain ⟨x, dx, k, s, d, p, rfl, _⟩ := h
    rfl
  · obtain ⟨x, dx, k, s, d, p, rfl, hx, ok, q⟩ := h
    refine ⟨_, pss_cons (ps_set (i := 5) scLInit.nd rfl (Or.inl rfl) (pe_call GW hr rfl mW kW bW .nil pass0 (pa_cons (pv 1) (pa_cons (pv 2) (pa_cons (pv 3) (pa_cons (pv 4) pa_nil))))))
      (pss_cons (ps_if (pt_cmpR op_notN (pv 5) pe_non (nomark _)) (pss_one ps_never) pss_nil)
      (pss_cons (ps_fld (pv 0) (pv 1) rfl)
      (pss_cons (ps_fld (pv 0) (pv 2) rfl)
      (pss_cons (ps_fld (pv 0) (pv 3) rfl)
      (pss_one (ps_fld (pv 0) (pv 4) rfl)))))), ?_⟩
    refine ⟨_, rfl, _, rfl, _, rfl, _, rfl, k, s, d, p, rfl, ok, fun H1 s1 => ?_⟩
    refine ⟨_, rfl, rfl, _, rfl, iteF ?_⟩
    have hx1 := s1 _ _ hx
    refine ⟨_, rfl, _, rfl, x, c.L, dx, _, rfl, hx1, L.cl, L.k, (by show 0 < 1000; decide), ?_⟩
    refine ⟨_, rfl, _, rfl, x, c.L, dx, _, rfl, upd_same, L.cl, L.s, (by show 1 < 1000; decide), ?_⟩
    rw [upd_upd]
    refine ⟨_, rfl, _, rfl, x, c.L, dx, _, rfl, upd_same, L.cl, L.d, (lt_put (n := 999) (lt_put (n := 998) (by show 0 < 998; decide))), ?_⟩
    rw [upd_upd]
    refine ⟨_, rfl, _, rfl, x, c.L, dx, _, rfl, upd_same, L.cl, L.p, (lt_put (n := 999) (lt_put (n := 998) (lt_put (n := 997) (by show 0 < 997; decide)))), ?_⟩
    rw [upd_upd, let_put]
    exact q _ (SameX.of s1).upd upd_same
theorem ok_cInit {f : Addr} {c : Rc} {fd : FuncData} (F : Fun K "__init__" "Count.__init__" sCInit f fd) (L : CntC K c) (cW : Cal P w K mg base CX0 "wrong_part" 2 ["kind", "weight", "whose"] spPart) : FnOk P w K mg base CX0 3 f fd ["self", "kind", "weight", "whose"] (spCInit c) := by
  obtain ⟨fW, fdW, GW, mW, kW, bW⟩ := cW
  refine F.ok scCInit (fun vs H Q E h => ?_) (fun cdv A outer s H vs Q E hr h => ?_)
  · obtain ⟨x, dx, k, w, o, rfl, _⟩ := h
    rfl
  · obtain ⟨x, dx, k, w, o, rfl, hx, ok, q⟩ := h
    refine ⟨_, pss_cons (ps_set (i := 4) scCInit.nd rfl (Or.inl rfl) (pe_call GW hr rfl mW kW bW .nil pass0 (pa_cons (pv 1) (pa_cons (pv 2) (pa_cons (pv 3) pa_nil)))))
      (pss_cons (ps_if (pt_cmpR op_notN (pv 4) pe_non (nomark _)) (pss_one ps_never) pss_nil)
      (pss_cons (ps_fld (pv 0) (pv 1) rfl)
      (pss_cons (ps_fld (pv 0) (pv 2) rfl)
      (pss_one (ps_fld (pv 0) (pv 3) rfl))))), ?_⟩
    refine ⟨_, rfl, _, rfl, _, rfl, k, w, o, rfl, ok, ?_⟩
    refine ⟨_, rfl, rfl, _, rfl, iteF ?_⟩
    refine ⟨_, rfl, _, rfl, x, c.C, dx, _, rfl, hx, L.cl, L.k, (by show 0 < 1000; decide), ?_⟩
    refine ⟨_, rfl, _, rfl, x, c.C, dx, _, rfl, upd_same, L.cl, L.w, (by show 1 < 1000; decide), ?_⟩
    rw [upd_upd]
    refine ⟨_, rfl, _, rfl, x, c.C, dx, _, rfl, upd_same, L.cl, L.o, (lt_put (n := 999) (lt_put (n := 998) (by show 0 < 998; decide))), ?_⟩
    rw [upd_upd, cnt_put]
    exact q _ SameX.box upd_same
theorem ok_lStr {f : Addr} {c : Rc} {fd : FuncData} (F : Fun K "__str__" "Let.__str__" sLStr f fd) (L : LetC K c) : FnOk P w K mg base CX0 1 f fd ["self"] (spRS c 0) := by
  refine F.ok scLStr (fun vs H Q E h => ?_) (fun cdv A outer s H vs Q E hr h => ?_)
  · obtain ⟨x, dx, m, rfl, _⟩ := h
    rfl
  · obtain ⟨x, dx, m, rfl, hx, hk, ok, q⟩ := h
    cases m with
    | ct k w o => cases hk
    | lt k s d p =>
      have l : ∀ z ∈ (Rw.lt k s d p).words, z.length ≤ 6 := fun z hz => (word_ok ok z hz).2
      simp only [Rw.words, List.mem_cons, List.not_mem_nil, or_false, forall_eq_or_imp, forall_eq] at l
      obtain ⟨l1, l2, l3, l4⟩ := l
      have l0 : (Str.empty).length = 0 := rfl
      have lb : (" " : Str).length = 1 := by decide +kernel
      refine ⟨_, (pss_one (ps_ret (pe_joined (.cons (pe_fmt (pe_fld (pv 0) rfl)) (.cons pe_str (.cons (pe_fmt (pe_fld (pv 0) rfl)) (.cons pe_str (.cons (pe_fmt (pe_fld (pv 0) rfl)) (.cons pe_str (.cons (pe_fmt (pe_fld (pv 0) rfl)) .nil)))))))))), ?_⟩
      refine ⟨_, rfl, x, c.L, dx, _, _, rfl, hx, L.cl, L.k, let_kind .., .inl ⟨k, rfl, small (by omega), _, rfl, small (by rw [app_len]; omega), ?_⟩⟩
      refine ⟨_, rfl, small (by simp only [app_len]; omega), ?_⟩
      refine ⟨_, rfl, x, c.L, dx, _, _, rfl, hx, L.cl, L.s, let_state .., .inl ⟨s, rfl, small (by omega), _, rfl, small (by simp only [app_len]; omega), ?_⟩⟩
      refine ⟨_, rfl, small (by simp only [app_len]; omega), ?_⟩
      refine ⟨_, rfl, x, c.L, dx, _, _, rfl, hx, L.cl, L.d, let_deed .., .inl ⟨d, rfl, small (by omega), _, rfl, small (by simp only [app_len]; omega), ?_⟩⟩
      refine ⟨_, rfl, small (by simp only [app_len]; omega), ?_⟩
      refine ⟨_, rfl, x, c.L, dx, _, _, rfl, hx, L.cl, L.p, let_place .., .inl ⟨p, rfl, small (by omega), _, rfl, small (by simp only [app_len]; omega), ?_⟩⟩
      rw [← let_text] at q
      exact q
theorem ok_cStr {f : Addr} {c : Rc} {fd : FuncData} (F : Fun K "__str__" "Count.__str__" sCStr f fd) (L : CntC K c) : FnOk P w K mg base CX0 1 f fd ["self"] (spRS c 1) := by
  refine F.ok scCStr (fun vs H Q E h => ?_) (fun cdv A outer s H vs Q E hr h => ?_)
  · obtain ⟨x, dx, m, rfl, _⟩ := h
    rfl
  · obtain ⟨x, dx, m, rfl, hx, hk, ok, q⟩ := h
    cases m with
    | lt k s d p => cases hk
    | ct k w o =>
      have l : ∀ z ∈ (Rw.ct k w o).words, z.length ≤ 6 := fun z hz => (word_ok ok z hz).2
      simp only [Rw.words, List.mem_cons, List.not_mem_nil, or_false, forall_eq_or_imp, forall_eq] at l
      obtain ⟨l1, l2, l3⟩ := l
      have l0 : (Str.empty).length = 0 := rfl
      have lb : (" " : Str).length = 1 := by decide +kernel
      have am : Am w := by
        rcases ok.2.1 with rfl | rfl | rfl <;> (unfold Am; decide)
      refine ⟨_, (pss_one (ps_ret (pe_joined (.cons (pe_fmt (pe_fld (pv 0) rfl)) (.cons pe_str (.cons (pe_fmt (pe_fld (pv 0) rfl)) (.cons pe_str (.cons (pe_fmt (pe_fld (pv 0) rfl)) .nil)))))))), ?_⟩
      refine ⟨_, rfl, x, c.C, dx, _, _, rfl, hx, L.cl, L.k, cnt_kind .., .inl ⟨k, rfl, small (by omega), _, rfl, small (by rw [app_len]; omega), ?_⟩⟩
      refine ⟨_, rfl, small (by simp only [app_len]; omega), ?_⟩
      refine ⟨_, rfl, x, c.C, dx, _, _, rfl, hx, L.cl, L.w, cnt_weight .., .inr ⟨w, rfl, am_log am, num w, rfl, small (by simp only [app_len]; omega), ?_⟩⟩
      refine ⟨_, rfl, small (by simp only [app_len]; omega), ?_⟩
      refine ⟨_, rfl, x, c.C, dx, _, _, rfl, hx, L.cl, L.o, cnt_whose .., .inl ⟨o, rfl, small (by omega), _, rfl, small (by simp only [app_len]; omega), ?_⟩⟩
      rw [← cnt_text] at q
      exact q
end
structure StrR (P : Program) (w : World) (K : PySem.W.Frag) (mg : Str → Option Value) (base : Heap) (c : Rc) : Prop where
  s : ∀ k, k < 2 → ∃ (f : Addr) (fd : FuncData), FnOk P w K mg base CX0 1 f fd ["self"] (spRS c k) ∧ PySem.W.findIn K (.ref (c.at k)) "__str__" = some (some (.ref f)) ∧ PySem.W.isFn K (.ref f) = true ∧ Binds K fd ["self"] []
def rStrR (c : Rc) : List V → Hp → VK → Prop := fun xs H Q => ∃ v m, xs = [v] ∧ RwAt c H v m ∧ m.ok ∧ Q (.str m.text) H
theorem call_strR {X : Cx} {c : Rc} (T : StrR X.prog X.w X.K X.mg X.base c) (room : Room 3 X.A) : CallR X (.type "str") (rStrR c) := by
  intro pins s σ H xs us Q I r h
  obtain ⟨v, m, rfl, ⟨x, dx, rfl, hx⟩, ok, q⟩ := h
  obtain ⟨f, fd, G, at_, isf, bi⟩ := T.s m.kind (rkind_lt m)
  refine call_strO (E := fun _ _ _ => False) G at_ isf bi pass0 room pins s σ H _ us Q I r ⟨x, dx, m.fs, rfl, hx, x, dx, m, rfl, hx, rfl, ok, _, rfl, q⟩
/-- what of the classes of rows is == and isinstance -/
structure RwCls (K : PySem.W.Frag) (c : Rc) : Prop where
  cl : ∀ k, k < 2 → Cls K (c.at k) ∧ PySem.W.findIn K (.ref (c.at k)) "__class__" = some (some (.builtin "object.__class__")) ∧ PySem.W.mroIn K (c.at k) (.type "object") = some true
  ki : ∀ k, k < 2 → ∀ j, j < 2 → PySem.W.kitOne K (.ref (c.at k)) (.ref (c.at j)) = some (decide (k = j))
  gn : PySem.W.specialIn K (.builtin "object.__class__") "__get__" = some (some (.builtin "getset_descriptor.__get__"))
  tk : PySem.W.takesIn K (.builtin "object.__class__") = some true
  nf : ∀ k, k < 2 → ∀ j, j < 2 → PySem.W.notFirst K (c.at k) (.ref (c.at j)) = true
theorem dec_str (a b : Str) : decide (V.str a = V.str b) = decide (a = b) := by
  by_cases h : a = b
  · rw [h, decide_eq_true rfl, decide_eq_true rfl]
  · rw [decide_eq_false h, decide_eq_false (fun z => h (by injection z))]
section
variable {P : Program} {w : World} {K : PySem.W.Frag} {mg : Str → Option Value} {base : Heap}
theorem req_run {c : Rc} {k : Nat} {H : Hp} {u v : V} {m n : Rw} {Q : VK} (C : RwCls K c) (ek : m.kind = k) (hu : RwAt c H u m) (hv : RwAt c H v n) (mo : m.ok) (no : n.ok) (q : Q (.bl (decide (m = n))) H) :
    tAndV (tCB (rIsi K) (tCons (tVar 1) (tCons (tC (.ref (c.at k))) tNil))) (tOp rEq (tCB (rStrR c) (tCons (tVar 0) tNil)) (tCB (rStrR c) (tCons (tVar 1) tNil))) (start ["self", "other"] [u, v]) H Q := by
  obtain ⟨y, dy, rfl, hy⟩ := id hv
  obtain ⟨cl, ca, mr⟩ := C.cl n.kind (rkind_lt n)
  subst ek
  refine ⟨_, rfl, _, _, _, _, _, rfl, .own (c.at m.kind), .base (.ins hy cl ca C.gn C.tk mr), C.ki _ (rkind_lt n) _ (rkind_lt m), _, rfl, ?_⟩
  by_cases e : n.kind = m.kind
  · rw [decide_eq_true e]
    refine iteT ⟨_, rfl, u, m, rfl, hu, mo, _, rfl, _, n, rfl, hv, no, rfl, ?_⟩
    rw [dec_str, rw_dec mo no]
    exact q
  · have d : m ≠ n := fun z => e (by rw [z])
    rw [decide_eq_false d] at q
    rw [decide_eq_false e]
    exact iteF q
theorem ok_lEq {f : Addr} {c : Rc} {fd : FuncData} (F : Fun K "__eq__" "Let.__eq__" sLEq f fd) (T : BltR mg) (S : StrR P w K mg base c) (C : RwCls K c) (g : mg "Let" = some (.ref c.L)) : FnOk P w K mg base CX0 4 f fd ["self", "other"] (spREq c 0) := by
  refine F.ok scLEq (fun vs H Q E h => ?_) (fun cdv A outer s H vs Q E hr h => ?_)
  · obtain ⟨u, v, m, n, rfl, _⟩ := h
    rfl
  · obtain ⟨u, v, m, n, rfl, em, hu, hv, mo, no, q⟩ := h
    exact ⟨_, pss_one (ps_ret (pe_and (pe_callB call_isi (by rfl) T.isi (by decide +kernel) (pa_cons (pv 1) (pa_cons (pe_glob (v := .ref c.L) rfl g rfl) pa_nil))) (pe_one (pe_cmpR op_eq (pe_callTy (call_strR S hr) (by rfl) T.str (by decide +kernel) (pa_cons (pv 0) pa_nil)) (pe_callTy (call_strR S hr) (by rfl) T.str (by decide +kernel) (pa_cons (pv 1) pa_nil)) (nomark _))))),
      req_run (k := 0) C em hu hv mo no q⟩
theorem ok_cEq {f : Addr} {c : Rc} {fd : FuncData} (F : Fun K "__eq__" "Count.__eq__" sCEq f fd) (T : BltR mg) (S : StrR P w K mg base c) (C : RwCls K c) (g : mg "Count" = some (.ref c.C)) : FnOk P w K mg base CX0 4 f fd ["self", "other"] (spREq c 1) := by
  refine F.ok scCEq (fun vs H Q E h => ?_) (fun cdv A outer s H vs Q E hr h => ?_)
  · obtain ⟨u, v, m, n, rfl, _⟩ := h
    rfl
  · obtain ⟨u, v, m, n, rfl, em, hu, hv, mo, no, q⟩ := h
    exact ⟨_, pss_one (ps_ret (pe_and (pe_callB call_isi (by rfl) T.isi (by decide +kernel) (pa_cons (pv 1) (pa_cons (pe_glob (v := .ref c.C) rfl g rfl) pa_nil))) (pe_one (pe_cmpR op_eq (pe_callTy (call_strR S hr) (by rfl) T.str (by decide +kernel) (pa_cons (pv 0) pa_nil)) (pe_callTy (call_strR S hr) (by rfl) T.str (by decide +kernel) (pa_cons (pv 1) pa_nil)) (nomark _))))),
      req_run (k := 1) C em hu hv mo no q⟩
/-- == with what is no row -/
def spRNe : Sp := fun vs H Q _ => ∃ (u z : V), vs = [u, z] ∧ Plain H z ∧ Q (.bl false) H
structure RwNot (K : PySem.W.Frag) (C : Addr) : Prop where
  s : PySem.W.kitOne K (.type "str") (.ref C) = some false
  n : PySem.W.kitOne K (.type "NoneType") (.ref C) = some false
  t : PySem.W.kitOne K (.type "tuple") (.ref C) = some false
theorem rplain_ty {C : Addr} {H : Hp} {z : V} (N : RwNot K C) (h : Plain H z) : ∃ t, TyX K H z t ∧ PySem.W.kitOne K t (.ref C) = some false := by
  cases h with
  | str z => exact ⟨_, .base (.str z), N.s⟩
  | non => exact ⟨_, .base .non, N.n⟩
  | tup h => exact ⟨_, .base (.tup h), N.t⟩
theorem ok_ln {f : Addr} {c : Rc} {fd : FuncData} (F : Fun K "__eq__" "Let.__eq__" sLEq f fd) (T : BltR mg) (S : StrR P w K mg base c) (N : RwNot K c.L) (g : mg "Let" = some (.ref c.L)) : FnOk P w K mg base CX0 4 f fd ["self", "other"] spRNe := by
  refine F.ok scLEq (fun vs H Q E h => ?_) (fun cdv A outer s H vs Q E hr h => ?_)
  · obtain ⟨u, z, rfl, _⟩ := h
    rfl
  · obtain ⟨u, z, rfl, pz, q⟩ := h
    obtain ⟨t, ty, ki⟩ := rplain_ty (K := K) N pz
    exact ⟨_, pss_one (ps_ret (pe_and (pe_callB call_isi (by rfl) T.isi (by decide +kernel) (pa_cons (pv 1) (pa_cons (pe_glob (v := .ref c.L) rfl g rfl) pa_nil))) (pe_one (pe_cmpR op_eq (pe_callTy (call_strR S hr) (by rfl) T.str (by decide +kernel) (pa_cons (pv 0) pa_nil)) (pe_callTy (call_strR S hr) (by rfl) T.str (by decide +kernel) (pa_cons (pv 1) pa_nil)) (nomark _))))),
      _, rfl, _, _, _, _, _, rfl, .own c.L, ty, ki, _, rfl, iteF q⟩
theorem ok_cn {f : Addr} {c : Rc} {fd : FuncData} (F : Fun K "__eq__" "Count.__eq__" sCEq f fd) (T : BltR mg) (S : StrR P w K mg base c) (N : RwNot K c.C) (g : mg "Count" = some (.ref c.C)) : FnOk P w K mg base CX0 4 f fd ["self", "other"] spRNe := by
  refine F.ok scCEq (fun vs H Q E h => ?_) (fun cdv A outer s H vs Q E hr h => ?_)
  · obtain ⟨u, z, rfl, _⟩ := h
    rfl
  · obtain ⟨u, z, rfl, pz, q⟩ := h
    obtain ⟨t, ty, ki⟩ := rplain_ty (K := K) N pz
    exact ⟨_, pss_one (ps_ret (pe_and (pe_callB call_isi (by rfl) T.isi (by decide +kernel) (pa_cons (pv 1) (pa_cons (pe_glob (v := .ref c.C) rfl g rfl) pa_nil))) (pe_one (pe_cmpR op_eq (pe_callTy (call_strR S hr) (by rfl) T.str (by decide +kernel) (pa_cons (pv 0) pa_nil)) (pe_callTy (call_strR S hr) (by rfl) T.str (by decide +kernel) (pa_cons (pv 1) pa_nil)) (nomark _))))),
      _, rfl, _, _, _, _, _, rfl, .own c.C, ty, ki, _, rfl, iteF q⟩
end
/-! == , !=, in for the law -/
def FFr (c : Rc) : Addr → Sp → XK → Prop := fun C sp _ => ∃ k, k < 2 ∧ C = c.at k ∧ sp = spREq c k
structure EqR (P : Program) (w : World) (K : PySem.W.Frag) (mg : Str → Option Value) (base : Heap) (c : Rc) : Prop where
  e : ∀ k, k < 2 → ∃ (f : Addr) (fd : FuncData), FnOk P w K mg base CX0 4 f fd ["self", "other"] (spREq c k) ∧ EqCls K (c.at k) f ∧ Binds K fd ["self", "other"] []
theorem own_R {X : Cx} {c : Rc} (T : EqR X.prog X.w X.K X.mg X.base c) : ∀ C sp E, FFr c C sp E → ∃ (CX : CXT) (f : Addr) (fd : FuncData) (ps : List Str), FnOk X.prog X.w X.K X.mg X.base CX 4 f fd ps sp ∧ EqCls X.K C f ∧ Binds X.K fd ps [] ∧ Passes CX X E := fun C sp E h => by
  obtain ⟨k, hk, rfl, rfl⟩ := h
  obtain ⟨f, fd, F, ec, bi⟩ := T.e k hk
  exact ⟨CX0, f, fd, _, F, ec, bi, fun _ _ _ _ _ _ _ h => h.elim⟩
theorem op_eqR {X : Cx} {c : Rc} (T : EqR X.prog X.w X.K X.mg X.base c) (hr : Room 4 X.A) : OpR X (compareOp .Eq) (rEqO X.K 4 (FFr c) false) := op_eqO (own_R T) hr
theorem op_neR {X : Cx} {c : Rc} (T : EqR X.prog X.w X.K X.mg X.base c) (hr : Room 5 X.A) : OpR X (compareOp .NotEq) (rEqO X.K 4 (FFr c) true) := op_neO (own_R T) hr
theorem eqR_at {K : PySem.W.Frag} {c : Rc} {H : Hp} {u v : V} {m n : Rw} {neg : Bool} {R : VK} (C : RwCls K c) (a6 : RwAt c H u m) (a8 : RwAt c H v n) (mo : m.ok) (no : n.ok) (k : R (.bl (decide (m = n) != neg)) H) : rEqO K 4 (FFr c) neg u v H R := by
  obtain ⟨x, dx, rfl, hx⟩ := id a6
  obtain ⟨y, dy, rfl, hy⟩ := id a8
  exact ⟨x, c.at m.kind, dx, m.fs, y, c.at n.kind, dy, n.fs, spREq c m.kind, E0, rfl, rfl, hx, hy, ⟨m.kind, rkind_lt m, rfl, rfl⟩, C.nf _ (rkind_lt m) _ (rkind_lt n), _, _, m, n, rfl, rfl, a6, a8, mo, no, _, rfl, k⟩
def FFq (c : Rc) : Addr → Sp → XK → Prop := fun C sp _ => ∃ k, k < 2 ∧ C = c.at k ∧ sp = spRNe
structure NeR (P : Program) (w : World) (K : PySem.W.Frag) (mg : Str → Option Value) (base : Heap) (c : Rc) : Prop where
  e : ∀ k, k < 2 → ∃ (f : Addr) (fd : FuncData), FnOk P w K mg base CX0 4 f fd ["self", "other"] spRNe ∧ EqCls K (c.at k) f ∧ Binds K fd ["self", "other"] []
theorem op_inR {X : Cx} {c : Rc} (T : NeR X.prog X.w X.K X.mg X.base c) (hr : Room 5 X.A) : OpR X (compareOp .In) (rInO X.K (FFq c)) := op_inO (fun C sp E h => by
  obtain ⟨k, hk, rfl, rfl⟩ := h
  obtain ⟨f, fd, F, ec, bi⟩ := T.e k hk
  exact ⟨CX0, f, fd, _, F, ec, bi, fun _ _ _ _ _ _ _ h => h.elim⟩) hr
theorem inR_at {K : PySem.W.Frag} {c : Rc} {H : Hp} {u : V} {p : Addr} {xs : List V} {m : Rw} {R : VK} (B : ∀ k, k < 2 → Behind K (c.at k)) (a6 : RwAt c H u m) (hp : H p = some (.tup xs)) (pl : ∀ z ∈ xs, Plain H z) (k : R (.bl false) H) : rInO K (FFq c) u (.ref p) H R := by
  obtain ⟨x, dx, rfl, hx⟩ := id a6
  exact ⟨x, p, c.at m.kind, dx, m.fs, xs, spRNe, E0, rfl, rfl, hx, hp, pl, B _ (rkind_lt m), ⟨m.kind, rkind_lt m, rfl, rfl⟩, fun z hz => ⟨_, z, rfl, pl z hz, rfl, rfl⟩, k⟩
end V3

set_option Elab.async false
set_option linter.all false
set_option maxRecDepth 100000
namespace V3
open PySem L2 TL
abbrev sRows : Stmt := top 21
abbrev sRepText : Stmt := top 22
abbrev sLetOf : Stmt := top 23
abbrev sCntRow : Stmt := top 24
section
variable {X : Cx} {e : Expr} {o : Expr} {to te : TE}
def rJoinK (K : PySem.W.Frag) : V → List V → Hp → VK → Prop := fun x xs H Q => ∃ a p, ∃ ys : List Str, x = .str a ∧ xs = [.ref p] ∧ (SqL K H p (ys.map V.str) ∨ SqT K H p (ys.map V.str)) ∧
  (ys.map (·.length)).sum + ys.length * a.length ≤ 16777216 ∧ Q (.str (Txt.join a ys)) H
/-- the same rules, K said -/
theorem pe_joinK {K : PySem.W.Frag} {apos pos : Pos} (ho : PE X o to) (he : PE X e te) (hK : X.K = K := by rfl) (hs : starEach [e] X.env = [(false, eval e X.env)] := by rfl) (hbase : attributeBase o "join" X.env (eval o X.env) = eval o X.env := by rfl) (hline : (apos.endLine == pos.line) = true := by rfl) :
    PE X (.Call (.Attribute o "join" apos) [e] [] pos) (tM1 (rJoinK K) to te) := by
  subst hK
  exact pe_join ho he hs hbase hline
theorem pe_ixT {K : PySem.W.Frag} {a b : Expr} {ta tb : TE} {pos : Pos} (ha : PE X a ta) (hb : PE X b tb) (hs : PlainIx b) (hK : X.K = K := by rfl) : PE X (.Subscript a b pos) (tOp (rIxT K) ta tb) := by
  subst hK
  exact pe_ix ix_tup ha hb hs
theorem pe_ixL {K : PySem.W.Frag} {a b : Expr} {ta tb : TE} {pos : Pos} (ha : PE X a ta) (hb : PE X b tb) (hs : PlainIx b) (hK : X.K = K := by rfl) : PE X (.Subscript a b pos) (tOp (rIxL K) ta tb) := by
  subst hK
  exact pe_ix ix_list ha hb hs
end
/-- a list of values that stand for those of another list -/
def Ls {α : Type} (R : V → α → Prop) (vs : List V) (ms : List α) : Prop := vs.length = ms.length ∧ ∀ (i : Nat) (m : α), ms[i]? = some m → ∃ v, vs[i]? = some v ∧ R v m
theorem Ls.nil {α : Type} {R : V → α → Prop} : Ls R [] [] := ⟨rfl, fun i m h => by simp at h⟩
theorem Ls.imp {α : Type} {R R' : V → α → Prop} {vs : List V} {ms : List α} (d : Ls R vs ms) (h : ∀ v m, R v m → R' v m) : Ls R' vs ms := ⟨d.1, fun i m e => by
  obtain ⟨v, e', r⟩ := d.2 i m e
  exact ⟨v, e', h _ _ r⟩⟩
theorem Ls.push {α : Type} {R : V → α → Prop} {vs : List V} {ms : List α} {v : V} {m : α} (d : Ls R vs ms) (t : R v m) : Ls R (vs ++ [v]) (ms ++ [m]) := by
  refine ⟨by simp [d.1], fun i n hn => ?_⟩
  rcases at_end hn with ⟨_, q⟩ | ⟨rfl, rfl⟩
  · obtain ⟨w, e, t'⟩ := d.2 i n q
    exact ⟨w, at_old e, t'⟩
  · exact ⟨v, at_new d.1, t⟩
theorem Ls.get {α : Type} {R : V → α → Prop} {vs : List V} {ms : List α} {v : V} {i : Nat} (d : Ls R vs ms) (h : vs[i]? = some v) : ∃ m, ms[i]? = some m ∧ R v m := by
  have l := (List.getElem?_eq_some_iff.mp h).1
  have e := List.getElem?_eq_getElem (l := ms) (i := i) (by rw [← d.1]; exact l)
  obtain ⟨w, q, t⟩ := d.2 i _ e
  rw [h] at q
  injection q with q
  subst q
  exact ⟨_, e, t⟩
theorem Ls.get2 {α : Type} {R : V → α → Prop} {vs : List V} {ms : List α} {v : V} {i : Nat} {m : α} (d : Ls R vs ms) (h : vs[i]? = some v) (hm : ms[i]? = some m) : R v m := by
  obtain ⟨w, q, t⟩ := d.2 i _ hm
  rw [h] at q
  injection q with q
  subst q
  exact t
/-- the tuple of a row -/
def Rw.tupV : Rw → List V
  | .lt k s d p => [.str k, .str s, .str d, .str p]
  | .ct k w o => [.str k, .int w, .str o]
def TpAt (H : Hp) (v : V) (m : Rw) : Prop := ∃ p, v = .ref p ∧ H p = some (.tup m.tupV)
theorem TpAt.keep {H H' : Hp} {v : V} {m : Rw} (h : TpAt H v m) (s : Keep H H') : TpAt H' v m := by
  obtain ⟨p, e, hp⟩ := h
  exact ⟨p, e, s _ _ (fun _ z => by cases z) hp⟩
theorem TpAt.same {H H' : Hp} {v : V} {m : Rw} (h : TpAt H v m) (s : Same H H') : TpAt H' v m := h.keep (Keep.of s)
/-- tuples of rows, each of them a row of a kind -/
def RowLs (kd : Nat) (H : Hp) (vs : List V) (ms : List Rw) : Prop := Ls (fun v m => TpAt H v m ∧ m.ok ∧ m.kind = kd) vs ms
theorem RowLs.keep {kd : Nat} {H H' : Hp} {vs : List V} {ms : List Rw} (d : RowLs kd H vs ms) (s : Keep H H') : RowLs kd H' vs ms := d.imp fun _ _ h => ⟨h.1.keep s, h.2⟩
def spRows : Sp := fun vs H Q _ => ∃ (b : Addr) (u v : Int) (n : Int), vs = [.ref b, .int n] ∧ H b = some (box u v) ∧ BoxOk u v ∧ 0 ≤ n ∧ n ≤ 100 ∧
  ∀ (D : Addr) (xs : List V) (ms : List Rw) (H' : Hp), Pre b H H' → H' D = some (.lst xs) → D ≠ b → (∀ c o, c ≠ b → H c = some o → c ≠ D) → RowLs 0 H' xs ms → (ms.length : Int) = n → Q (.ref D) H'
def spCntRow : Sp := fun vs H Q _ => ∃ (b : Addr) (u v : Int), vs = [.ref b] ∧ H b = some (box u v) ∧ BoxOk u v ∧ ∀ (x : V) (m : Rw) (H' : Hp), Pre b H H' → TpAt H' x m → m.ok → m.kind = 1 → Q x H'
def spLetOf (c : Rc) : Sp := fun vs H Q _ => ∃ (v : V) (m : Rw), vs = [v] ∧ TpAt H v m ∧ m.ok ∧ m.kind = 0 ∧ ∀ (x : V) (H' : Hp), Same H H' → RwAt c H' x m → Q x H'
def spRepText1 : Sp := fun vs H Q _ => ∃ (q : Addr) (v : V) (m : Rw), vs = [.ref q] ∧ H q = some (.tup [v]) ∧ TpAt H v m ∧ m.ok ∧ m.kind = 1 ∧ ∀ H', Same H H' → Q (.str m.text) H'
structure MkR (P : Program) (w : World) (K : PySem.W.Frag) (mg : Str → Option Value) (base : Heap) (name : Str) (ps : List Str) (C : Addr) (k : Nat) (spI : Sp) : Prop where
  g : mg name = some (.ref C)
  ini : ∃ (f : Addr) (fd : FuncData), FnOk P w K mg base CX0 k f fd ps spI ∧ Mk K C f ∧ Binds K fd ps []
structure BltG (mg : Str → Option Value) : Prop where
  range : mg "range" = none
  str : mg "str" = none
theorem mk_let {c : Rc} {x dx : Addr} {H : Hp} {k s d p : Str} {R : VK} {E : XK} (ok : (Rw.lt k s d p).ok) (nx : H x = none) (ndx : H dx = none) (q : ∀ H', Same H H' → RwAt c H' (.ref x) (.lt k s d p) → R .non H') :
    spLInit c [.ref x, .str k, .str s, .str d, .str p] (upd (upd H dx (.own x)) x (.ins c.L dx [])) R E :=
  ⟨x, dx, k, s, d, p, rfl, upd_same, ok, fun H' s' hx => q H' (fun a o e => s' a o (ne_of_none e nx) (made_same nx ndx a o e)) ⟨x, dx, rfl, hx⟩⟩
theorem mk_cnt {c : Rc} {x dx : Addr} {H : Hp} {k : Str} {w : Int} {o : Str} {R : VK} {E : XK} (ok : (Rw.ct k w o).ok) (nx : H x = none) (ndx : H dx = none) (q : ∀ H', Same H H' → RwAt c H' (.ref x) (.ct k w o) → R .non H') :
    spCInit c [.ref x, .str k, .int w, .str o] (upd (upd H dx (.own x)) x (.ins c.C dx [])) R E :=
  ⟨x, dx, k, w, o, rfl, upd_same, ok, fun H' s' hx => q H' (fun a o e => s' a o (ne_of_none e nx) (made_same nx ndx a o e)) ⟨x, dx, rfl, hx⟩⟩
/-- one of a list, by the box -/
theorem oneOf_at {K : PySem.W.Frag} {b l : Addr} {u v : Int} {H : Hp} {xs : List V} {Q : VK} (hb : H b = some (box u v)) (ok : BoxOk u v) (ne : l ≠ b) (hl : H l = some (.lst xs)) (h1 : 1 ≤ xs.length) (h2 : xs.length ≤ 1000)
    (k : ∀ x H', x ∈ xs → Pre b H H' → Q x H') : spOneOf K [.ref b, .ref l] H Q E :=
  ⟨b, l, u, v, xs, rfl, hb, ok, ne, SqL.of hl, h1, h2, fun x _ _ hx ok' => k x _ hx (Pre.box ok')⟩
theorem oneOf_new {K : PySem.W.Frag} {b l : Addr} {u v : Int} {H : Hp} {xs : List V} {Q : VK} (hb : H b = some (box u v)) (ok : BoxOk u v) (nl : H l = none) (h1 : 1 ≤ xs.length) (h2 : xs.length ≤ 1000)
    (k : ∀ x H', x ∈ xs → Pre b H H' → Q x H') : spOneOf K [.ref b, .ref l] (upd H l (.lst xs)) Q E0 := by
  have nbl : b ≠ l := ne_of_none hb nl
  refine oneOf_at (by rw [upd_ne nbl]; exact hb) ok (Ne.symm nbl) upd_same h1 h2 fun x H' hx p => k x H' hx ⟨fun c o n e => p.1 c o n (by rw [upd_ne (ne_of_none e nl)]; exact e), p.2⟩
section
variable {P : Program} {w : World} {K : PySem.W.Frag} {mg : Str → Option Value} {base : Heap}
abbrev CalOne (P : Program) (w : World) (K : PySem.W.Frag) (mg : Str → Option Value) (base : Heap) : Prop := Cal P w K mg base CX0 "_law_one_of" 2 ["_law_box", "_law_some"] (spOneOf K)
theorem scRows : FnScope ["_law_box", "_law_many", "_law_found", "_law_turn", "_law_kind", "_law_deeds", "_law_state"] ["_law_box", "_law_many"] (defScope sRows) := ⟨rfl, rfl, rfl, by decide +kernel, rfl, by decide +kernel, by decide +kernel⟩
theorem scCntRow : FnScope ["_law_box", "_law_kind"] ["_law_box"] (defScope sCntRow) := ⟨rfl, rfl, rfl, by decide +kernel, rfl, by decide +kernel, by decide +kernel⟩
theorem scLetOf : FnScope ["_law_row"] ["_law_row"] (defScope sLetOf) := ⟨rfl, rfl, rfl, by decide +kernel, rfl, by decide +kernel, by decide +kernel⟩
theorem scRepText : FnScope ["_law_report", "_law_row"] ["_law_report"] (defScope sRepText) := ⟨rfl, rfl, rfl, by decide +kernel, rfl, by decide +kernel, by decide +kernel⟩
theorem ok_letOf {f : Addr} {c : Rc} {fd : FuncData} (F : Fun K "_law_let_of" "_law_let_of" sLetOf f fd) (ML : MkR P w K mg base "Let" ["self", "kind", "state", "deed", "place"] c.L 3 (spLInit c)) : FnOk P w K mg base CX0 5 f fd ["_law_row"] (spLetOf c) := by
  obtain ⟨f1, fd1, G1, M1, b1⟩ := ML.ini
  refine F.ok scLetOf (fun vs H Q E h => ?_) (fun cdv A outer s H vs Q E hr h => ?_)
  · obtain ⟨v, m, rfl, _⟩ := h
    rfl
  · obtain ⟨v, m, rfl, ⟨p, rfl, hp⟩, ok, ek, q⟩ := h
    cases m with
    | ct _ _ _ => cases ek
    | lt k s d pl =>
      refine ⟨_, pss_one (ps_ret (pe_make (E := fun _ _ _ => False) M1 G1 hr rfl ML.g b1 .nil pass0 (pa_cons (pe_ix ix_tup (pv 0) pe_int (fun _ _ => rfl)) (pa_cons (pe_ix ix_tup (pv 0) pe_int (fun _ _ => rfl)) (pa_cons (pe_ix ix_tup (pv 0) pe_int (fun _ _ => rfl)) (pa_cons (pe_ix ix_tup (pv 0) pe_int (fun _ _ => rfl)) pa_nil)))))), ?_⟩
      refine ⟨_, rfl, p, _, 0, .str k, rfl, rfl, SqT.of hp, rfl, _, rfl, p, _, 1, .str s, rfl, rfl, SqT.of hp, rfl, _, rfl, p, _, 2, .str d, rfl, rfl, SqT.of hp, rfl, _, rfl, p, _, 3, .str pl, rfl, rfl, SqT.of hp, rfl, ?_⟩
      exact fun x dx nx ndx _ => mk_let ok nx ndx fun H' s' a => ⟨rfl, q _ _ s' a⟩
theorem ok_cntRow {f : Addr} {fd : FuncData} (F : Fun K "_law_count_row" "_law_count_row" sCntRow f fd) (cO : CalOne P w K mg base) : FnOk P w K mg base CX0 3 f fd ["_law_box"] spCntRow := by
  obtain ⟨fO, fdO, GO, mO, kO, bO⟩ := cO
  refine F.ok scCntRow (fun vs H Q E h => ?_) (fun cdv A outer s H vs Q E hr h => ?_)
  · obtain ⟨b, u, v, rfl, _⟩ := h
    rfl
  · obtain ⟨b, u, v, rfl, hb, bk, k⟩ := h
    refine ⟨_, pss_cons (ps_set (i := 1) scCntRow.nd rfl (Or.inl rfl) (pe_call GO hr rfl mO kO bO .nil pass0 (pa_cons (pv 0) (pa_cons (pe_lst (pa_cons pe_str (pa_cons pe_str (pa_cons pe_str (pa_cons pe_str pa_nil))))) pa_nil))))
      (pss_one (ps_ret (pe_tup (pa_cons (pv 1) (pa_cons (pe_call GO hr rfl mO kO bO .nil pass0 (pa_cons (pv 0) (pa_cons (pe_lst (pa_cons (pe_un un_neg pe_int) (pa_cons pe_int (pa_cons pe_int pa_nil)))) pa_nil))) (pa_cons (pe_call GO hr rfl mO kO bO .nil pass0 (pa_cons (pv 0) (pa_cons (pe_lst (pa_cons pe_str (pa_cons pe_str (pa_cons pe_str (pa_cons pe_str pa_nil))))) pa_nil))) pa_nil)))))), ?_⟩
    refine ⟨_, rfl, (by show 4 ≤ sizeLine; decide), fun l1 n1 => oneOf_new hb bk n1 (by decide) (by decide) fun x1 H1 i1 p1 => ?_⟩
    have hx1 : ∃ k, x1 = .str k ∧ k ∈ kindL := by
      simp only [List.mem_cons, List.not_mem_nil, or_false] at i1
      rcases i1 with rfl | rfl | rfl | rfl <;> exact ⟨_, rfl, by decide +kernel⟩
    obtain ⟨kd, rfl, hk⟩ := hx1
    obtain ⟨_, u1, v1, bk1, hb1⟩ := id p1
    refine ⟨_, rfl, _, rfl, _, rfl, (by show 3 ≤ sizeLine; decide), fun l2 n2 => ?_⟩
    dsimp only [tNil]
    refine oneOf_new hb1 bk1 n2 (by decide) (by decide) fun x2 H2 i2 p2 => ?_
    have hx2 : ∃ w, x2 = .int w ∧ Wt w := by
      simp only [List.mem_cons, List.not_mem_nil, or_false] at i2
      rcases i2 with rfl | rfl | rfl
      · exact ⟨_, rfl, .inl rfl⟩
      · exact ⟨_, rfl, .inr (.inl rfl)⟩
      · exact ⟨_, rfl, .inr (.inr rfl)⟩
    obtain ⟨wt, rfl, hw⟩ := hx2
    obtain ⟨_, u2, v2, bk2, hb2⟩ := id p2
    refine ⟨_, rfl, (by show 4 ≤ sizeLine; decide), fun l3 n3 => ?_⟩
    dsimp only [tNil]
    refine oneOf_new hb2 bk2 n3 (by decide) (by decide) fun x3 H3 i3 p3 => ?_
    have hx3 : ∃ k, x3 = .str k ∧ k ∈ whoseL := by
      simp only [List.mem_cons, List.not_mem_nil, or_false] at i3
      rcases i3 with rfl | rfl | rfl | rfl <;> exact ⟨_, rfl, by decide +kernel⟩
    obtain ⟨wh, rfl, ho⟩ := hx3
    refine ⟨(by show 3 ≤ sizeLine; decide), fun t nt => ?_⟩
    exact k _ (.ct kd wt wh) _ (((p1.trans p2).trans p3).then (Same.new nt)) ⟨t, rfl, upd_same⟩ ⟨hk, hw, ho⟩ rfl
theorem ok_rows {f : Addr} {fd : FuncData} (F : Fun K "_law_rows" "_law_rows" sRows f fd) (T : BltG mg) (cO : CalOne P w K mg base) : FnOk P w K mg base CX0 3 f fd ["_law_box", "_law_many"] spRows := by
  obtain ⟨fO, fdO, GO, mO, kO, bO⟩ := cO
  refine F.ok scRows (fun vs H Q E h => ?_) (fun cdv A outer s H vs Q E hr h => ?_)
  · obtain ⟨b, u, v, n, rfl, _⟩ := h
    rfl
  · obtain ⟨b, u, v, n, rfl, hb, bk, n0, n1, k⟩ := h
    refine ⟨_, pss_cons (ps_set (i := 2) scRows.nd rfl (Or.inl rfl) (pe_lst pa_nil))
      (pss_cons (ps_for PassesOwn.never rfl (pi_range1 (by rfl) T.range (pa_cons (pv 1) pa_nil)) (pg_name (i := 3) scRows.nd rfl (Or.inl rfl))
      (pss_cons (ps_set (i := 4) scRows.nd rfl (Or.inl rfl) (pe_call GO hr rfl mO kO bO .nil pass0 (pa_cons (pv 0) (pa_cons (pe_lst (pa_cons pe_str (pa_cons pe_str (pa_cons pe_str (pa_cons pe_str (pa_cons pe_str (pa_cons pe_str pa_nil))))))) pa_nil))))
      (pss_cons (ps_set (i := 5) scRows.nd rfl (Or.inl rfl) (pe_ifExp (pt_cmpR op_in_seq (pv 4) (pe_tup (pa_cons pe_str (pa_cons pe_str pa_nil))) rfl) (pe_lst (pa_cons pe_str (pa_cons pe_str pa_nil))) (pe_lst (pa_cons pe_str (pa_cons pe_str (pa_cons pe_str pa_nil))))))
      (pss_cons (ps_set (i := 6) scRows.nd rfl (Or.inl rfl) (pe_call GO hr rfl mO kO bO .nil pass0 (pa_cons (pv 0) (pa_cons (pe_lst (pa_cons pe_str (pa_cons pe_str (pa_cons pe_str pa_nil)))) pa_nil))))
      (pss_one (ps_expr (pe_bm PySem.F.plainAttrs_list PySem.F.slot_list_append PySem.F.type_list_append mt_append (pv 2) (pa_cons (pe_tup (pa_cons (pv 4) (pa_cons (pv 6) (pa_cons (pe_call GO hr rfl mO kO bO .nil pass0 (pa_cons (pv 0) (pa_cons (pv 5) pa_nil))) (pa_cons (pe_call GO hr rfl mO kO bO .nil pass0 (pa_cons (pv 0) (pa_cons (pe_lst (pa_cons pe_str (pa_cons pe_str (pa_cons pe_str (pa_cons pe_str pa_nil))))) pa_nil))) pa_nil))))) pa_nil))))))))
      (pss_one (ps_ret (pv 2)))), ?_⟩
    refine ⟨(by show 0 ≤ sizeLine; decide), fun D nD => ?_⟩
    have nbD : b ≠ D := ne_of_none hb nD
    have nD0 : ∀ c o, c ≠ b → H c = some o → c ≠ D := fun c o _ e => ne_of_none e nD
    refine ⟨_, rfl, n, rfl, by omega, by omega, for_range (lo := 0) (n := n.toNat) (fun i σ H' => (∃ o3 o4 o5 o6 : Option V, σ = [some (.ref b), some (.int n), some (.ref D), o3, o4, o5, o6]) ∧ ∃ xs ms, Pre b H H' ∧ H' D = some (.lst xs) ∧ RowLs 0 H' xs ms ∧ ms.length = i) ?_ ?_ ?_⟩
    · exact ⟨⟨_, _, _, _, rfl⟩, [], [], ⟨SameX.of (Same.new nD), u, v, bk, by rw [upd_ne nbD]; exact hb⟩, upd_same, Ls.nil, rfl⟩
    · rintro i σ H0 hi ⟨⟨o3, o4, o5, o6, rfl⟩, xs, ms, p0, hD, rl, lm⟩
      obtain ⟨_, u0, v0, bk0, hb0⟩ := id p0
      refine ⟨_, rfl, (by show 6 ≤ sizeLine; decide), fun l1 n1 => oneOf_new hb0 bk0 n1 (by decide) (by decide) fun x1 H1 i1 p1 => ?_⟩
      have hx1 : ∃ k, x1 = .str k ∧ k ∈ kindL := by
        simp only [List.mem_cons, List.not_mem_nil, or_false] at i1
        rcases i1 with rfl | rfl | rfl | rfl | rfl | rfl <;> exact ⟨_, rfl, by decide +kernel⟩
      obtain ⟨kd, rfl, hk⟩ := hx1
      obtain ⟨_, u1, v1, bk1, hb1⟩ := id p1
      refine ⟨_, rfl, (by show 2 ≤ sizeLine; decide), fun t1 nt1 => ⟨t1, _, rfl, .inr (SqT.of upd_same), rfl, rfl, _, rfl, ?_⟩⟩
      have p2 : Pre b H1 (upd H1 t1 (.tup [.str "minus", .str "plus"])) := ⟨SameX.of (Same.new nt1), u1, v1, bk1, by rw [upd_ne (ne_of_none hb1 nt1)]; exact hb1⟩
      generalize upd H1 t1 (.tup [.str "minus", .str "plus"]) = H2 at p2
      obtain ⟨_, u2, v2, bk2, hb2⟩ := id p2
      have e0 : (if false = true then !inV (V.str kd) [.str "minus", .str "plus"] else inV (V.str kd) [.str "minus", .str "plus"]) = inV (V.str kd) [.str "minus", .str "plus"] := if_neg Bool.false_ne_true
      rw [e0]
      refine ite2 (fun c => ⟨(by show 2 ≤ sizeLine; decide), fun l2 n2 => ?wayA⟩) (fun c => ⟨(by show 3 ≤ sizeLine; decide), fun l2 n2 => ?wayB⟩)
      case' wayA =>
        have dl : ∀ z ∈ [V.str "whole", .str "part"], ∃ d, z = .str d ∧ d ∈ deedL ∧ (d = "right" → kd = "first" ∨ kd = "new") := by
          intro z hz
          simp only [List.mem_cons, List.not_mem_nil, or_false] at hz
          rcases hz with rfl | rfl
          · exact ⟨_, rfl, by decide +kernel, fun e => absurd e (by decide +kernel)⟩
          · exact ⟨_, rfl, by decide +kernel, fun e => absurd e (by decide +kernel)⟩
        have ll : 1 ≤ [V.str "whole", .str "part"].length ∧ [V.str "whole", .str "part"].length ≤ 1000 := by decide
        generalize [V.str "whole", .str "part"] = deeds at dl ll
      case' wayB =>
        have kf : kd = "first" ∨ kd = "new" := by
          have q : ∀ z ∈ kindL, inV (.str z) [.str "minus", .str "plus"] = false → z = "first" ∨ z = "new" := by decide +kernel
          exact q kd hk (Bool.eq_false_iff.mpr c)
        have dl : ∀ z ∈ [V.str "whole", .str "part", .str "right"], ∃ d, z = .str d ∧ d ∈ deedL ∧ (d = "right" → kd = "first" ∨ kd = "new") := by
          intro z hz
          simp only [List.mem_cons, List.not_mem_nil, or_false] at hz
          rcases hz with rfl | rfl | rfl <;> exact ⟨_, rfl, by decide +kernel, fun _ => kf⟩
        have ll : 1 ≤ [V.str "whole", .str "part", .str "right"].length ∧ [V.str "whole", .str "part", .str "right"].length ≤ 1000 := by decide
        generalize [V.str "whole", .str "part", .str "right"] = deeds at dl ll
      all_goals
        have p3 : Pre b H2 (upd H2 l2 (.lst deeds)) := ⟨SameX.of (Same.new n2), u2, v2, bk2, by rw [upd_ne (ne_of_none hb2 n2)]; exact hb2⟩
        have hl2 : upd H2 l2 (.lst deeds) l2 = some (.lst deeds) := upd_same
        have nlb : l2 ≠ b := Ne.symm (ne_of_none hb2 n2)
        have nlD : D ≠ l2 := ne_of_none ((p1.trans p2).1 D _ (Ne.symm nbD) hD) n2
        generalize upd H2 l2 (.lst deeds) = H3 at p3 hl2
        obtain ⟨_, u3, v3, bk3, hb3⟩ := id p3
        refine ⟨_, rfl, (by show 3 ≤ sizeLine; decide), fun l4 n4 => oneOf_new hb3 bk3 n4 (by decide) (by decide) fun x4 H4 i4 p4 => ?_⟩
        have hx4 : ∃ s, x4 = .str s ∧ s ∈ stateL := by
          simp only [List.mem_cons, List.not_mem_nil, or_false] at i4
          rcases i4 with rfl | rfl | rfl <;> exact ⟨_, rfl, by decide +kernel⟩
        obtain ⟨st, rfl, hs⟩ := hx4
        obtain ⟨_, u4, v4, bk4, hb4⟩ := id p4
        have pD4 : Pre b H0 H4 := ((p1.trans p2).trans p3).trans p4
        have hD4 := pD4.1 D _ (Ne.symm nbD) hD
        refine ⟨_, rfl, .inl ⟨rfl, _, SqL.of hD4⟩, _, rfl, _, rfl, _, rfl, _, rfl, ?_⟩
        dsimp only [tNil]
        refine oneOf_at hb4 bk4 nlb (p4.1 _ _ nlb hl2) ll.1 ll.2 fun x5 H5 i5 p5 => ?_
        obtain ⟨dd, rfl, hd, hdr⟩ := dl _ i5
        obtain ⟨_, u5, v5, bk5, hb5⟩ := id p5
        refine ⟨_, rfl, (by show 4 ≤ sizeLine; decide), fun l6 n6 => ?_⟩
        dsimp only [tNil]
        refine oneOf_new hb5 bk5 n6 (by decide) (by decide) fun x6 H6 i6 p6 => ?_
        have hx6 : ∃ s, x6 = .str s ∧ s ∈ placeL := by
          simp only [List.mem_cons, List.not_mem_nil, or_false] at i6
          rcases i6 with rfl | rfl | rfl | rfl <;> exact ⟨_, rfl, by decide +kernel⟩
        obtain ⟨pl, rfl, hp⟩ := hx6
        refine ⟨(by show 4 ≤ sizeLine; decide), fun t7 n7 => ?_⟩
        have p7 : Pre b H0 (upd H6 t7 (.tup [.str kd, .str st, .str dd, .str pl])) := ((pD4.trans p5).trans p6).then (Same.new n7)
        have t7a : TpAt (upd H6 t7 (.tup [.str kd, .str st, .str dd, .str pl])) (.ref t7) (.lt kd st dd pl) := ⟨t7, rfl, upd_same⟩
        generalize upd H6 t7 (.tup [.str kd, .str st, .str dd, .str pl]) = H7 at p7 t7a
        have hD7 := p7.1 D _ (Ne.symm nbD) hD
        have pA := p0.trans p7
        obtain ⟨sa, ua, va, bka, hba⟩ := id pA
        refine ⟨D, xs, _, rfl, rfl, hD7, small1000 (by rw [rl.1]; omega), ⟨_, _, _, _, rfl⟩, xs ++ [.ref t7], ms ++ [.lt kd st dd pl], ⟨fun c o n e => by rw [upd_ne (nD0 c o n e)]; exact sa c o n e, ua, va, bka, by rw [upd_ne nbD]; exact hba⟩, upd_same, ?_, by simp [lm]⟩
        exact RowLs.keep (kd := 0) (Ls.push (rl.keep (Keep.pre hb0 p7.1)) ⟨t7a, ⟨hk, hs, hd, hp, hdr⟩, rfl⟩) (Keep.lst hD7)
    · rintro σ H' ⟨⟨o3, o4, o5, o6, rfl⟩, xs, ms, p0, hD, rl, lm⟩
      exact ⟨_, rfl, k D xs ms H' p0 hD (Ne.symm nbD) nD0 rl (by rw [lm]; omega)⟩
theorem ok_repText1 {f : Addr} {fd : FuncData} (F : Fun K "_law_report_text" "_law_report_text" sRepText f fd) (T : BltG mg) : FnOk P w K mg base CX0 1 f fd ["_law_report"] spRepText1 := by
  refine F.ok scRepText (fun vs H Q E h => ?_) (fun cdv A outer s H vs Q E hr h => ?_)
  · obtain ⟨q, v, m, rfl, _⟩ := h
    rfl
  · obtain ⟨q, v, m, rfl, hq, tp, ok, ek, k⟩ := h
    cases m with
    | lt _ _ _ _ => cases ek
    | ct kd wt wh =>
      have l : ∀ z ∈ (Rw.ct kd wt wh).words, z.length ≤ 6 := fun z hz => (word_ok ok z hz).2
      have am : Am wt := by
        rcases ok.2.1 with rfl | rfl | rfl <;> (unfold Am; decide)
      simp only [Rw.words, List.mem_cons, List.not_mem_nil, or_false, forall_eq_or_imp, forall_eq] at l
      obtain ⟨l1, l2, l3⟩ := l
      have lb : (" " : Str).length = 1 := by decide +kernel
      have ln : ("\n" : Str).length = 1 := by decide +kernel
      refine ⟨_, (pss_one (ps_ret (pe_join pe_str (pe_lc (own := [("_law_row", 1)]) (g := gName 1) (tt := tYes) (by rfl) scRepText.nd (pi_tup (pv 0)) (blkOk_by (own := [("_law_row", 1)]) (N := ["_law_report", "_law_row"]) (sc := defScope sRepText) (by decide +kernel)) (fun _ _ _ _ _ => (pg_name (i := 1) scRepText.nd rfl (Or.inl rfl))) (fun _ _ _ _ _ => pts_nil) (fun _ _ _ _ _ => (pe_joinK (K := K) pe_str (pe_lst (pa_cons (pe_ixT (K := K) (pv 1) pe_int (fun _ _ => rfl)) (pa_cons (pe_callTy call_str_int (by rfl) T.str (by decide +kernel) (pa_cons (pe_ixT (K := K) (pv 1) pe_int (fun _ _ => rfl)) pa_nil)) (pa_cons (pe_ixT (K := K) (pv 1) pe_int (fun _ _ => rfl)) pa_nil)))))))))), ?_⟩
      refine ⟨⟨_, rfl⟩, _, rfl, q, rfl, ⟨_, SqT.of hq⟩, fun D nD => ?_⟩
      refine lc_tup (K := K) (a := q) (xs := [v]) (fun i Hh => Same H Hh ∧ Hh D = some (.lst (([V.str (Rw.ct kd wt wh).text]).take i))) ⟨Same.new nD, upd_same⟩ (fun _ Hh _ z => SqT.of (z.1 _ _ hq)) ?_ ?_
      · rintro i x Hh hx ⟨s1, hD⟩
        have ei : i = 0 ∧ x = v := by
          have l := (List.getElem?_eq_some_iff.mp hx).1
          have z : i = 0 := by
            have : i < 1 := l
            omega
          subst z
          exact ⟨rfl, (Option.some.inj hx).symm⟩
        obtain ⟨rfl, rfl⟩ := ei
        refine ⟨rfl, ?_⟩
        unfold tYes
        dsimp only
        refine iteT ?_
        obtain ⟨p, rfl, hp⟩ := tp.same s1
        refine ⟨⟨_, rfl⟩, _, rfl, p, _, 0, .str kd, rfl, rfl, SqT.of hp, rfl, _, rfl, p, _, 1, .int wt, rfl, rfl, SqT.of hp, rfl, wt, rfl, am_log am, _, rfl, p, _, 2, .str wh, rfl, rfl, SqT.of hp, rfl, (by show 3 ≤ sizeLine; decide), fun t nt => ?_⟩
        refine ⟨_, t, [kd, num wt, wh], rfl, rfl, .inl (SqL.of upd_same), ?_, ?_⟩
        · simp only [List.map, List.sum_cons, List.sum_nil, List.length_cons, List.length_nil, lb]
          omega
        · have e : Txt.join (" " : Str) [kd, num wt, wh] = (Rw.ct kd wt wh).text := join_eq _ _
          rw [e]
          have hD' : upd Hh t (.lst [.str kd, .str (num wt), .str wh]) D = some (.lst []) := by rw [upd_ne (ne_of_none hD nt)]; exact hD
          exact ⟨[], hD', by show 0 < sizeLine; decide, Same.upn (Same.upn s1 (s1.free nt)) nD, upd_same⟩
      · rintro H1 ⟨s1, hD⟩
        refine ⟨_, D, [(Rw.ct kd wt wh).text], rfl, rfl, .inl (SqL.of hD), ?_, ?_⟩
        · have e : (Rw.ct kd wt wh).text.length ≤ 100 := by
            rw [← cnt_text]
            have l0 : (Str.empty).length = 0 := rfl
            simp only [app_len]
            omega
          simp only [List.map, List.sum_cons, List.sum_nil, List.length_cons, List.length_nil, ln]
          omega
        · have e : Txt.join ("\n" : Str) [(Rw.ct kd wt wh).text] = (Rw.ct kd wt wh).text := ext_tl (by
            rw [join_eq, tl_join]
            simp [joinL])
          rw [e]
          exact k _ s1
end
end V3

set_option Elab.async false
set_option linter.all false
set_option maxRecDepth 100000
namespace V3
open PySem L2 TL
abbrev sLetsRight : Stmt := top 25
abbrev sCntsRight : Stmt := top 26
/-! plain data: lists of truths, tuples of rows -/
def bV (bs : List Bool) : List V := bs.map V.bl
def bD (bs : List Bool) : List PyData := bs.map PyData.bool
theorem dp_bools {K : PySem.W.Frag} {H : Hp} : ∀ bs : List Bool, DpAll K H (bV bs) (bD bs)
  | [] => .nil
  | b :: r => .cons (.bl b) (dp_bools r)
theorem lay_bools : ∀ bs : List Bool, PyData.canLayAll0 (bD bs) = true
  | [] => rfl
  | b :: r => by
    show (PyData.canLay0 (.bool b) && PyData.canLayAll0 (bD r)) = true
    rw [lay_bools r]
    rfl
theorem deep_bools : ∀ bs : List Bool, PyData.depthAll (bD bs) = 0
  | [] => by simp [bD, PyData.depthAll]
  | b :: r => by
    have e : bD (b :: r) = .bool b :: bD r := rfl
    rw [e]
    simp [PyData.depthAll, PyData.depth, deep_bools r]
theorem bools_shaped (bs : List Bool) : SeqAt.shaped (.list (bD bs)) = true := by
  simp [SeqAt.shaped, PyData.canLay0, lay_bools, PyData.depth, deep_bools]
theorem bools_eqvAll : ∀ bs : List Bool, PyData.eqvAll (bD bs) (bD bs) = true
  | [] => by simp [bD, PyData.eqvAll]
  | b :: r => by
    have e : bD (b :: r) = .bool b :: bD r := rfl
    rw [e]
    simp [PyData.eqvAll, PyData.eqv, bools_eqvAll r]
theorem bools_eqv (bs : List Bool) : PyData.eqv (.list (bD bs)) (.list (bD bs)) = true := by
  simp [PyData.eqv, bools_eqvAll]
def Rw.tupD : Rw → List PyData
  | .lt k s d p => [.str k, .str s, .str d, .str p]
  | .ct k w o => [.str k, .int w, .str o]
theorem rw_dp {K : PySem.W.Frag} {H : Hp} (m : Rw) : DpAll K H m.tupV m.tupD := by
  cases m with
  | lt k s d p => exact .cons (.str _) (.cons (.str _) (.cons (.str _) (.cons (.str _) .nil)))
  | ct k w o => exact .cons (.str _) (.cons (.int _) (.cons (.str _) .nil))
theorem word_lay : ∀ p ∈ kindL ++ stateL ++ deedL ++ placeL ++ whoseL, PyData.canLay0 (.str p) = true := by decide +kernel
theorem rw_shaped {m : Rw} (h : m.ok) : SeqAt.shaped (.tuple m.tupD) = true := by
  have ki : ∀ i : Int, PyData.canLay0 (.int i) = true := fun i => by simp [PyData.canLay0]
  have kt : ∀ xs : List PyData, PyData.canLay0 (.tuple xs) = PyData.canLayAll0 xs := fun xs => by simp [PyData.canLay0]
  cases m with
  | lt k s d p =>
    obtain ⟨a, b, c, e, _⟩ := h
    have q1 := word_lay k (by simp only [List.mem_append]; exact .inl (.inl (.inl (.inl a))))
    have q2 := word_lay s (by simp only [List.mem_append]; exact .inl (.inl (.inl (.inr b))))
    have q3 := word_lay d (by simp only [List.mem_append]; exact .inl (.inl (.inr c)))
    have q4 := word_lay p (by simp only [List.mem_append]; exact .inl (.inr e))
    simp [SeqAt.shaped, Rw.tupD, kt, PyData.canLayAll0, q1, q2, q3, q4, PyData.depth, PyData.depthAll]
  | ct k w o =>
    obtain ⟨a, b, c⟩ := h
    have q1 := word_lay k (by simp only [List.mem_append]; exact .inl (.inl (.inl (.inl a))))
    have q2 := word_lay o (by simp only [List.mem_append]; exact .inr c)
    simp [SeqAt.shaped, Rw.tupD, kt, PyData.canLayAll0, q1, q2, ki, PyData.depth, PyData.depthAll]
theorem beq_dec (a b : Str) : (a == b) = decide (a = b) := by
  by_cases h : a = b
  · rw [decide_eq_true h, h]
    simp
  · rw [decide_eq_false h]
    simpa using h
theorem beq_deci (a b : Int) : (a == b) = decide (a = b) := by
  by_cases h : a = b
  · rw [decide_eq_true h, h]
    simp
  · rw [decide_eq_false h]
    simpa using h
theorem rw_eqv (m n : Rw) : PyData.eqv (.tuple m.tupD) (.tuple n.tupD) = decide (m = n) := by
  cases m with
  | lt k s d p =>
    cases n with
    | lt k' s' d' p' => simp [PyData.eqv, PyData.eqvAll, Rw.tupD, beq_dec]
    | ct k' w' o' => simp [PyData.eqv, PyData.eqvAll, Rw.tupD]
  | ct k w o =>
    cases n with
    | lt k' s' d' p' => simp [PyData.eqv, PyData.eqvAll, Rw.tupD]
    | ct k' w' o' => simp [PyData.eqv, PyData.eqvAll, Rw.tupD, beq_dec, beq_deci]
theorem rw_eqv_same (m : Rw) : PyData.eqv (.tuple m.tupD) (.tuple m.tupD) = true := by rw [rw_eqv, decide_eq_true rfl]
end V3

set_option Elab.async false
set_option linter.all false
set_option maxRecDepth 100000
namespace V3
open PySem L2 TL
structure BltL (mg : Str → Option Value) : Prop where
  zip : mg "zip" = none
  str : mg "str" = none
  repr : mg "repr" = none
/-- all that is needed of the classes of rows -/
structure RwEnv (P : Program) (w : World) (K : PySem.W.Frag) (mg : Str → Option Value) (base : Heap) (c : Rc) : Prop where
  C : RwCls K c
  EQ : EqR P w K mg base c
  ST : StrR P w K mg base c
  NE : NeR P w K mg base c
  B : ∀ k, k < 2 → Behind K (c.at k)
  LC : LetC K c
  CC : CntC K c
def spLetsR : Sp := fun vs H Q _ => ∃ (q : Addr) (xs : List V) (ms : List Rw), vs = [.ref q] ∧ H q = some (.lst xs) ∧ RowLs 0 H xs ms ∧ ms.length ≤ 200 ∧ ∀ H', Same H H' → Q (.bl true) H'
def spCntsR : Sp := fun vs H Q _ => ∃ (q : Addr) (xs : List V) (ms : List Rw), vs = [.ref q] ∧ H q = some (.lst xs) ∧ RowLs 1 H xs ms ∧ ms.length ≤ 200 ∧ ∀ H', Same H H' → Q (.bl true) H'
/-- whether each row is this one -/
def eqs (m : Rw) (ms : List Rw) : List Bool := ms.map fun n => decide (m = n)
theorem eqs_next {m n : Rw} {ms : List Rw} {i : Nat} (h : ms[i]? = some n) : bV ((eqs m ms).take (i + 1)) = bV ((eqs m ms).take i) ++ [.bl (decide (m = n))] := by
  have e : (eqs m ms)[i]? = some (decide (m = n)) := by
    unfold eqs
    rw [List.getElem?_map, h]
    rfl
  rw [take_next e]
  simp [bV]
theorem word_shown : ∀ p ∈ kindL ++ whoseL, PyData.showable (.str p) = true ∧ (reprText p).length ≤ 100 := by decide +kernel
theorem cnt_shown {k : Str} {wt : Int} {o : Str} (h : (Rw.ct k wt o).ok) : PyData.showable (.tuple (Rw.ct k wt o).tupD) = true ∧ PyData.hasDict (.tuple (Rw.ct k wt o).tupD) = false ∧ PyData.depth (.tuple (Rw.ct k wt o).tupD) = 1 ∧ (PyData.shown (.tuple (Rw.ct k wt o).tupD)).length ≤ sizeLine := by
  obtain ⟨a, b, c⟩ := h
  have q1 := word_shown k (by simp only [List.mem_append]; exact .inl a)
  have q2 := word_shown o (by simp only [List.mem_append]; exact .inr c)
  have am : Am wt := by
    rcases b with rfl | rfl | rfl <;> (unfold Am; decide)
  refine ⟨?_, ?_, ?_, ?_⟩
  · simp [Rw.tupD, PyData.showable, PyData.showableAll, am_log am, q1.1, q2.1]
  · simp [Rw.tupD, PyData.hasDict, PyData.hasDictAll]
  · simp [Rw.tupD, PyData.depth, PyData.depthAll]
  · have e : PyData.shown (.tuple (Rw.ct k wt o).tupD) = tupleText [reprText k, num wt, reprText o] := by simp [Rw.tupD, PyData.shown, PyData.shownAll, num]
    rw [e]
    have l := num_len am
    refine small (Nat.le_trans (tupleText_len_le _) ?_)
    simp only [List.map, List.sum_cons, List.sum_nil, List.length_cons, List.length_nil]
    omega
theorem eqs_all (m : Rw) (ms : List Rw) {n : Nat} (h : ms.length ≤ n) : (eqs m ms).take n = eqs m ms := List.take_of_length_le (by unfold eqs; rw [List.length_map]; exact h)
theorem eqs_len {m : Rw} {ms : List Rw} {i : Nat} (h : ms.length ≤ 200) : (bV ((eqs m ms).take i)).length < sizeLine := small1000 (by
  unfold bV eqs
  rw [List.length_map, List.length_take, List.length_map]
  omega)
section
variable {P : Program} {w : World} {K : PySem.W.Frag} {mg : Str → Option Value} {base : Heap}
theorem lets_take {c : Rc} {H1 Hh H2 : Hp} {D : Addr} {xs : List V} {ms : List Rw} {i : Nat} {m : Rw} {y : V} (nD : H1 D = none) (s : Same H1 Hh) (hD : Hh D = some (.lst xs)) (md : Ls (RwAt c Hh) xs (ms.take i)) (hm : ms[i]? = some m) (lm : ms.length ≤ 200)
    (s2 : Same Hh H2) (a : RwAt c H2 y m) : ∃ acc, H2 D = some (.lst acc) ∧ acc.length < sizeLine ∧ ∃ zs, Same H1 (upd H2 D (.lst (acc ++ [y]))) ∧ upd H2 D (.lst (acc ++ [y])) D = some (.lst zs) ∧ Ls (RwAt c (upd H2 D (.lst (acc ++ [y])))) zs (ms.take (i + 1)) := by
  have hD2 := s2 _ _ hD
  refine ⟨xs, hD2, small1000 (by rw [md.1, List.length_take]; omega), xs ++ [y], Same.upn (s.trans s2) nD, upd_same, ?_⟩
  rw [take_next hm]
  exact ((md.imp fun _ _ h => h.same s2).push a).imp fun _ _ h => h.keep (Keep.lst hD2)
abbrev NLR : List Str := ["_law_rows_here", "_law_made", "_law_one", "_law_row", "_law_other"]
theorem scLetsR : FnScope NLR ["_law_rows_here"] (defScope sLetsRight) := ⟨rfl, rfl, rfl, by decide +kernel, rfl, by decide +kernel, by decide +kernel⟩
theorem scCntsR : FnScope NLR ["_law_rows_here"] (defScope sCntsRight) := ⟨rfl, rfl, rfl, by decide +kernel, rfl, by decide +kernel, by decide +kernel⟩
theorem ok_letsR {f : Addr} {c : Rc} {fd : FuncData} (F : Fun K "_law_lets_right" "_law_lets_right" sLetsRight f fd) (T : BltL mg) (R : RwEnv P w K mg base c) (cL : Cal P w K mg base CX0 "_law_let_of" 5 ["_law_row"] (spLetOf c)) : FnOk P w K mg base CX0 6 f fd ["_law_rows_here"] spLetsR := by
  obtain ⟨fL, fdL, GL, mL, kL, bL⟩ := cL
  refine F.ok scLetsR (fun vs H Q E h => ?_) (fun cdv A outer s H vs Q E hr h => ?_)
  · obtain ⟨q, xs, ms, rfl, _⟩ := h
    rfl
  · obtain ⟨q, vs, ms, rfl, hq, rl, lm, k⟩ := h
    have hr3 : Room 3 _ := hr.mono (by decide)
    have hr4 : Room 4 _ := hr.mono (by decide)
    refine ⟨_, pss_cons (ps_setLc (i := 1) (own := [("_law_row", 3)]) (g := gName 3) (tt := tYes) (by rfl) scLetsR.nd rfl rfl (sw_true rfl rfl rfl (by decide +kernel)) (pi_list (pv 0)) (blkOk_by (own := [("_law_row", 3)]) (N := NLR) (sc := defScope sLetsRight) (by decide +kernel)) (fun _ _ _ _ _ => (pg_name (i := 3) scLetsR.nd rfl (Or.inl rfl))) (fun _ _ _ _ _ => pts_nil) (fun _ _ _ _ _ => (pe_call GL hr rfl mL kL bL .nil pass0 (pa_cons (pv 3) pa_nil))))
      (pss_cons (ps_for PassesOwn.never rfl (pi_zip (by rfl) T.zip (pa_cons (pv 1) (pa_cons (pv 0) pa_nil))) (pg_tup rfl (pgs_cons (pg_name (i := 2) scLetsR.nd rfl (Or.inr rfl)) (pgs_cons (pg_name (i := 3) scLetsR.nd rfl (Or.inr rfl)) pgs_nil)))
      (pss_cons (ps_if (PW.pt (pw_or (pt_cmpR (op_neD hr.units) (pe_tup (pa_cons (pe_fld (pv 2) rfl) (pa_cons (pe_fld (pv 2) rfl) (pa_cons (pe_fld (pv 2) rfl) (pa_cons (pe_fld (pv 2) rfl) pa_nil))))) (pv 3) (nomark _)) (pw_or1 (pt_cmpR op_ne (pe_callTy (call_strR R.ST hr3) (by rfl) T.str (by decide +kernel) (pa_cons (pv 2) pa_nil)) (pe_join pe_str (pv 3)) (nomark _))))) (pss_one (ps_ret pe_bl)) pss_nil)
      (pss_cons (ps_if (pt_cmpR (op_neD hr.units) (pe_lc (own := [("_law_other", 4)]) (g := gName 4) (tt := tYes) (te := tOp (rEqO K 4 (FFr c) false) (tVar 2) (tVar 4)) (by rfl) scLetsR.nd (pi_list (pv 1)) (blkOk_by (own := [("_law_other", 4)]) (N := NLR) (sc := defScope sLetsRight) (by decide +kernel)) (fun _ _ _ _ _ => (pg_name (i := 4) scLetsR.nd rfl (Or.inl rfl))) (fun _ _ _ _ _ => pts_nil) (fun _ _ _ _ _ => (pe_cmpR (op_eqR R.EQ hr4) (pv 2) (pv 4) (nomark _)))) (pe_lc (own := [("_law_other", 4)]) (g := gName 4) (tt := tYes) (te := tOp (rEqD K) (tVar 3) (tVar 4)) (by rfl) scLetsR.nd (pi_list (pv 0)) (blkOk_by (own := [("_law_other", 4)]) (N := NLR) (sc := defScope sLetsRight) (by decide +kernel)) (fun _ _ _ _ _ => (pg_name (i := 4) scLetsR.nd rfl (Or.inl rfl))) (fun _ _ _ _ _ => pts_nil) (fun _ _ _ _ _ => (pe_cmpR (op_eqD hr.units) (pv 3) (pv 4) (nomark _)))) (nomark _)) (pss_one (ps_ret pe_bl)) pss_nil)
      (pss_one (ps_if (pt_cmpR (op_inR R.NE hr) (pv 2) (pe_tup (pa_cons (pv 3) (pa_cons (pe_callTy (call_strR R.ST hr3) (by rfl) T.str (by decide +kernel) (pa_cons (pv 2) pa_nil)) (pa_cons pe_non pa_nil)))) rfl) (pss_one (ps_ret pe_bl)) pss_nil)))))
      (pss_one (ps_ret pe_bl))), ?_⟩
    refine ⟨_, rfl, q, rfl, ⟨_, SqL.of hq⟩, fun D nD => ?_⟩
    refine lc_list (a := q) (xs := vs) (fun i Hh => ∃ xs, Same H Hh ∧ Hh D = some (.lst xs) ∧ Ls (RwAt c Hh) xs (ms.take i)) ⟨[], Same.new nD, upd_same, Ls.nil⟩ (fun i Hh _ ⟨xs, s, _, _⟩ => SqL.of (s _ _ hq)) ?_ ?_
    · rintro i x Hh hx ⟨xs, s1, hD, md⟩
      refine ⟨rfl, ?_⟩
      unfold tYes
      dsimp only
      refine iteT ?_
      obtain ⟨m, hm, tp, mok, mk⟩ := rl.get hx
      exact ⟨_, rfl, x, m, rfl, tp.same s1, mok, mk, fun y H2 s2 a => lets_take nD s1 hD md hm lm s2 a⟩
    rintro H1 ⟨xs, s1, hD, md⟩
    rw [List.take_of_length_le (by rw [rl.1]; exact Nat.le_refl _)] at md
    have hq1 := s1 _ _ hq
    have rl1 : RowLs 0 H1 vs ms := rl.keep (Keep.of s1)
    have lxs : xs.length = vs.length := by rw [md.1, rl1.1]
    refine ⟨_, rfl, _, rfl, D, q, xs, vs, rfl, SqL.of hD, SqL.of hq1, for_it (walk_zip (K := K) (a := D) (b := q) (xs := xs) (ys := vs) rfl) (fun _ σ H' => (∃ o2 o3 o4 : Option V, σ = [some (.ref q), some (.ref D), o2, o3, o4]) ∧ Same H1 H') ⟨⟨_, _, _, rfl⟩, Same.refl H1⟩ (fun _ σ Hh _ z => ⟨SqL.of (z.2 _ _ hD), SqL.of (z.2 _ _ hq1)⟩) ?_ ?_⟩
    · rintro j x σ Hh H' hj ⟨⟨o2, o3, o4, rfl⟩, s2⟩ ⟨T1, y, v, rfl, nT, rfl, hy, hv⟩
      refine ⟨T1, _, rfl, SqT.of upd_same, rfl, _, _, rfl, _, _, rfl, rfl, ?_⟩
      have s3 : Same H1 (upd Hh T1 (.tup [y, v])) := Same.upn s2 (s2.free nT)
      generalize upd Hh T1 (.tup [y, v]) = H3 at s3
      obtain ⟨m, hm, tp, mok, mk⟩ := rl1.get hv
      have ya := md.get2 hy hm
      have t3 := tp.same s3
      have a3 := ya.same s3
      have lst : ∀ {Hx : Hp} {R' : VK}, TpAt Hx v m → (∀ H', Same Hx H' → True) → True := fun _ _ => trivial
      -- its fields and text
      cases m with
      | ct _ _ _ => cases mk
      | lt kd st dd pl =>
        obtain ⟨xo, dx, rfl, hx⟩ := id a3
        obtain ⟨p, rfl, hp⟩ := id t3
        refine ⟨_, rfl, xo, c.L, dx, _, _, rfl, hx, R.LC.cl, R.LC.k, let_kind .., _, rfl, xo, c.L, dx, _, _, rfl, hx, R.LC.cl, R.LC.s, let_state .., _, rfl, xo, c.L, dx, _, _, rfl, hx, R.LC.cl, R.LC.d, let_deed .., _, rfl, xo, c.L, dx, _, _, rfl, hx, R.LC.cl, R.LC.p, let_place .., (by show 4 ≤ sizeLine; decide), fun t nt => ?_⟩
        have s4 : Same H3 (upd H3 t (.tup (Rw.lt kd st dd pl).tupV)) := Same.new nt
        have ht : upd H3 t (.tup (Rw.lt kd st dd pl).tupV) t = some (.tup (Rw.lt kd st dd pl).tupV) := upd_same
        show tVar 3 _ (upd H3 t (.tup (Rw.lt kd st dd pl).tupV)) _
        generalize upd H3 t (.tup (Rw.lt kd st dd pl).tupV) = H4 at s4 ht
        have hp4 := s4 _ _ hp
        have a4 := a3.same s4
        have t4 := t3.same s4
        refine ⟨_, rfl, _, _, .tup (SqT.of ht) (rw_dp _), .tup (SqT.of hp4) (rw_dp _), rw_shaped mok, rw_shaped mok, _, rfl, ?_⟩
        rw [rw_eqv_same]
        refine iteF ⟨_, rfl, _, _, rfl, a4, mok, ⟨_, rfl⟩, _, rfl, _, p, (Rw.lt kd st dd pl).words, rfl, rfl, .inr (SqT.of hp4), ?_, ?_⟩
        · have l : ∀ z ∈ (Rw.lt kd st dd pl).words, z.length ≤ 6 := fun z hz => (word_ok mok z hz).2
          simp only [Rw.words, List.mem_cons, List.not_mem_nil, or_false, forall_eq_or_imp, forall_eq] at l
          have lb : (" " : Str).length = 1 := by decide +kernel
          simp only [Rw.words, List.map, List.sum_cons, List.sum_nil, List.length_cons, List.length_nil, lb]
          omega
        have ej : Txt.join (" " : Str) (Rw.lt kd st dd pl).words = (Rw.lt kd st dd pl).text := join_eq _ _
        rw [ej]
        refine ⟨rfl, _, rfl, ?_⟩
        rw [show ∀ z : V, (!decide (z = z)) = false from fun z => by simp]
        refine iteF ?_
        have s5 : Same H1 H4 := s3.trans s4
        clear s3 s4 ht hx hp t3 a3 nt hp4
        generalize Rw.lt kd st dd pl = m at a4 t4 mok hm ya tp
        -- the others
        have hD4 := s5 _ _ hD
        have hq4 := s5 _ _ hq1
        refine ⟨_, rfl, D, rfl, ⟨_, SqL.of hD4⟩, fun D3 nD3 => lc_list (a := D) (xs := xs) (fun i Hh => Same H4 Hh ∧ Hh D3 = some (.lst (bV ((eqs m ms).take i)))) ⟨Same.new nD3, upd_same⟩ (fun i Hh _ z => SqL.of (z.1 _ _ hD4)) ?_ ?_⟩
        · rintro i z Hh hz ⟨s6, hD3⟩
          refine ⟨rfl, ?_⟩
          unfold tYes
          dsimp only
          refine iteT ?_
          obtain ⟨n, hn, na⟩ := md.get hz
          obtain ⟨_, _, _, nok, _⟩ := rl1.2 i n hn
          refine ⟨_, rfl, _, rfl, eqR_at R.C (a4.same s6) (na.same (s5.trans s6)) mok nok ⟨_, hD3, eqs_len lm, Same.upn s6 nD3, ?_⟩⟩
          rw [eqs_next hn]
          rw [show (decide (m = n) != false) = decide (m = n) from by cases decide (m = n) <;> rfl]
          exact upd_same
        rintro H6 ⟨s6, hD3⟩
        rw [eqs_all m ms (by rw [md.1]; exact Nat.le_refl _)] at hD3
        have s7 := s5.trans s6
        have hq6 := s6 _ _ hq4
        have t6 := t4.same s6
        have a6 := a4.same s6
        refine ⟨_, rfl, q, rfl, ⟨_, SqL.of hq6⟩, fun D5 nD5 => lc_list (a := q) (xs := vs) (fun i Hh => Same H6 Hh ∧ Hh D5 = some (.lst (bV ((eqs m ms).take i)))) ⟨Same.new nD5, upd_same⟩ (fun i Hh _ z => SqL.of (z.1 _ _ hq6)) ?_ ?_⟩
        · rintro i z Hh hz ⟨s8, hD5⟩
          refine ⟨rfl, ?_⟩
          unfold tYes
          dsimp only
          refine iteT ?_
          obtain ⟨n, hn, nt, nok, nk⟩ := rl1.get hz
          obtain ⟨pa, ea, hpa⟩ := t6.same s8
          obtain ⟨pb, rfl, hpb⟩ := nt.same (s7.trans s8)
          refine ⟨_, congrArg some (congrArg some ea), _, rfl, _, _, .tup (SqT.of hpa) (rw_dp m), .tup (SqT.of hpb) (rw_dp n), rw_shaped mok, rw_shaped nok, _, hD5, eqs_len lm, Same.upn s8 nD5, ?_⟩
          rw [eqs_next hn, rw_eqv]
          exact upd_same
        rintro H8 ⟨s8, hD5⟩
        rw [eqs_all m ms (by rw [rl1.1]; exact Nat.le_refl _)] at hD5
        refine ⟨_, _, .lst (SqL.of (s8 _ _ hD3)) (dp_bools _), .lst (SqL.of hD5) (dp_bools _), bools_shaped _, bools_shaped _, _, rfl, ?_⟩
        rw [bools_eqv]
        refine iteF ?_
        have a8 := a6.same s8
        have t8 := t6.same s8
        obtain ⟨p8, e8, hp8⟩ := id t8
        cases e8
        refine ⟨_, rfl, _, rfl, _, rfl, _, m, rfl, a8, mok, (by show 3 ≤ sizeLine; decide), fun t9 n9 => ?_⟩
        have s9 := Same.new (o := .tup [.ref p, .str m.text, .non]) n9
        refine inR_at R.B (a8.same s9) upd_same ?_ ⟨_, rfl, iteF ⟨⟨_, _, _, rfl⟩, (s7.trans s8).trans s9⟩⟩
        intro z hz
        simp only [List.mem_cons, List.not_mem_nil, or_false] at hz
        rcases hz with rfl | rfl | rfl
        · exact .tup (s9 _ _ hp8)
        · exact .str _
        · exact .non
    · rintro σ H2 ⟨⟨o2, o3, o4, rfl⟩, s2⟩
      exact k _ (s1.trans s2)
theorem ok_cntsR {f : Addr} {c : Rc} {fd : FuncData} (F : Fun K "_law_counts_right" "_law_counts_right" sCntsRight f fd) (T : BltL mg) (R : RwEnv P w K mg base c) (MC : MkR P w K mg base "Count" ["self", "kind", "weight", "whose"] c.C 3 (spCInit c)) (cX : Cal P w K mg base CX0 "_law_report_text" 1 ["_law_report"] spRepText1) : FnG P w K mg base CX0 6 f fd ["_law_rows_here"] spCntsR := by
  obtain ⟨f2, fd2, G2, M2, b2⟩ := MC.ini
  obtain ⟨fX, fdX, GX, mX, kX, bX⟩ := cX
  refine fnG F scCntsR (fun vs H Q E h => ?_) (fun cdv A up s H vs Q E g hr h => ?_)
  · obtain ⟨q, xs, ms, rfl, _⟩ := h
    rfl
  · obtain ⟨q, vs, ms, rfl, hq, rl, lm, k⟩ := h
    have hr1 : Room 1 _ := hr.mono (by decide)
    have hr3 : Room 3 _ := hr.mono (by decide)
    have hr4 : Room 4 _ := hr.mono (by decide)
    refine ⟨_, PSs.nox (pss_cons (ps_setLc (i := 1) (own := [("_law_row", 3)]) (g := gName 3) (tt := tYes) (by rfl) scCntsR.nd rfl rfl (sw_true rfl rfl rfl (by decide +kernel)) (pi_list (pv 0)) (blkOk_by (own := [("_law_row", 3)]) (N := NLR) (sc := defScope sCntsRight) (by decide +kernel)) (fun _ _ _ _ _ => (pg_name (i := 3) scCntsR.nd rfl (Or.inl rfl))) (fun _ _ _ _ _ => pts_nil) (fun _ _ _ _ _ => (pe_make (E := fun _ _ _ => False) M2 G2 hr4 rfl MC.g b2 .nil pass0 (pa_cons (pe_ixT (K := K) (pv 3) pe_int (fun _ _ => rfl)) (pa_cons (pe_ixT (K := K) (pv 3) pe_int (fun _ _ => rfl)) (pa_cons (pe_ixT (K := K) (pv 3) pe_int (fun _ _ => rfl)) pa_nil))))))
      (pss_cons (ps_for PassesOwn.never rfl (pi_zip (by rfl) T.zip (pa_cons (pv 1) (pa_cons (pv 0) pa_nil))) (pg_tup rfl (pgs_cons (pg_name (i := 2) scCntsR.nd rfl (Or.inr rfl)) (pgs_cons (pg_name (i := 3) scCntsR.nd rfl (Or.inr rfl)) pgs_nil)))
      (pss_cons (ps_if (PW.pt (pw_or (pt_cmpR op_ne (pe_callB (call_reprD g) (by rfl) T.repr (by decide +kernel) (pa_cons (pe_tup (pa_cons (pe_fld (pv 2) rfl) (pa_cons (pe_fld (pv 2) rfl) (pa_cons (pe_fld (pv 2) rfl) pa_nil)))) pa_nil)) (pe_callB (call_reprD g) (by rfl) T.repr (by decide +kernel) (pa_cons (pv 3) pa_nil)) (nomark _)) (pw_or1 (pt_cmpR op_ne (pe_callTy (call_strR R.ST hr3) (by rfl) T.str (by decide +kernel) (pa_cons (pv 2) pa_nil)) (pe_call GX hr1 rfl mX kX bX .nil pass0 (pa_cons (pe_tup (pa_cons (pv 3) pa_nil)) pa_nil)) (nomark _))))) (pss_one (ps_ret pe_bl)) pss_nil)
      (pss_cons (ps_if (pt_cmpR (op_neD hr.units) (pe_lc (own := [("_law_other", 4)]) (g := gName 4) (tt := tYes) (te := tOp (rEqO K 4 (FFr c) false) (tVar 2) (tVar 4)) (by rfl) scCntsR.nd (pi_list (pv 1)) (blkOk_by (own := [("_law_other", 4)]) (N := NLR) (sc := defScope sCntsRight) (by decide +kernel)) (fun _ _ _ _ _ => (pg_name (i := 4) scCntsR.nd rfl (Or.inl rfl))) (fun _ _ _ _ _ => pts_nil) (fun _ _ _ _ _ => (pe_cmpR (op_eqR R.EQ hr4) (pv 2) (pv 4) (nomark _)))) (pe_lc (own := [("_law_other", 4)]) (g := gName 4) (tt := tYes) (te := tOp (rEqD K) (tVar 3) (tVar 4)) (by rfl) scCntsR.nd (pi_list (pv 0)) (blkOk_by (own := [("_law_other", 4)]) (N := NLR) (sc := defScope sCntsRight) (by decide +kernel)) (fun _ _ _ _ _ => (pg_name (i := 4) scCntsR.nd rfl (Or.inl rfl))) (fun _ _ _ _ _ => pts_nil) (fun _ _ _ _ _ => (pe_cmpR (op_eqD hr.units) (pv 3) (pv 4) (nomark _)))) (nomark _)) (pss_one (ps_ret pe_bl)) pss_nil)
      (pss_one (ps_if (pt_cmpR (op_inR R.NE hr) (pv 2) (pe_tup (pa_cons (pv 3) (pa_cons (pe_callTy (call_strR R.ST hr3) (by rfl) T.str (by decide +kernel) (pa_cons (pv 2) pa_nil)) (pa_cons pe_non pa_nil)))) rfl) (pss_one (ps_ret pe_bl)) pss_nil)))))
      (pss_one (ps_ret pe_bl)))), ?_⟩
    refine ⟨_, rfl, q, rfl, ⟨_, SqL.of hq⟩, fun D nD => ?_⟩
    refine lc_list (a := q) (xs := vs) (fun i Hh => ∃ xs, Same H Hh ∧ Hh D = some (.lst xs) ∧ Ls (RwAt c Hh) xs (ms.take i)) ⟨[], Same.new nD, upd_same, Ls.nil⟩ (fun i Hh _ ⟨xs, s, _, _⟩ => SqL.of (s _ _ hq)) ?_ ?_
    · rintro i x Hh hx ⟨xs, s1, hD, md⟩
      refine ⟨rfl, ?_⟩
      unfold tYes
      dsimp only
      refine iteT ?_
      obtain ⟨m, hm, tp, mok, mk⟩ := rl.get hx
      obtain ⟨p, rfl, hp⟩ := tp.same s1
      cases m with
      | lt _ _ _ _ => cases mk
      | ct kd wt wh => exact ⟨_, rfl, p, _, 0, .str kd, rfl, rfl, SqT.of hp, rfl, _, rfl, p, _, 1, .int wt, rfl, rfl, SqT.of hp, rfl, _, rfl, p, _, 2, .str wh, rfl, rfl, SqT.of hp, rfl, fun x dx nx ndx _ => mk_cnt mok nx ndx fun H2 s2 a => ⟨rfl, lets_take nD s1 hD md hm lm s2 a⟩⟩
    rintro H1 ⟨xs, s1, hD, md⟩
    rw [List.take_of_length_le (by rw [rl.1]; exact Nat.le_refl _)] at md
    have hq1 := s1 _ _ hq
    have rl1 : RowLs 1 H1 vs ms := rl.keep (Keep.of s1)
    have lxs : xs.length = vs.length := by rw [md.1, rl1.1]
    refine ⟨_, rfl, _, rfl, D, q, xs, vs, rfl, SqL.of hD, SqL.of hq1, for_it (walk_zip (K := K) (a := D) (b := q) (xs := xs) (ys := vs) rfl) (fun _ σ H' => (∃ o2 o3 o4 : Option V, σ = [some (.ref q), some (.ref D), o2, o3, o4]) ∧ Same H1 H') ⟨⟨_, _, _, rfl⟩, Same.refl H1⟩ (fun _ σ Hh _ z => ⟨SqL.of (z.2 _ _ hD), SqL.of (z.2 _ _ hq1)⟩) ?_ ?_⟩
    · rintro j x σ Hh H' hj ⟨⟨o2, o3, o4, rfl⟩, s2⟩ ⟨T1, y, v, rfl, nT, rfl, hy, hv⟩
      refine ⟨T1, _, rfl, SqT.of upd_same, rfl, _, _, rfl, _, _, rfl, rfl, ?_⟩
      have s3 : Same H1 (upd Hh T1 (.tup [y, v])) := Same.upn s2 (s2.free nT)
      generalize upd Hh T1 (.tup [y, v]) = H3 at s3
      obtain ⟨m, hm, tp, mok, mk⟩ := rl1.get hv
      have ya := md.get2 hy hm
      have t3 := tp.same s3
      have a3 := ya.same s3
      have lst : ∀ {Hx : Hp} {R' : VK}, TpAt Hx v m → (∀ H', Same Hx H' → True) → True := fun _ _ => trivial
      -- its fields and text
      cases m with
      | lt _ _ _ _ => cases mk
      | ct kd wt wh =>
        obtain ⟨xo, dx, rfl, hx⟩ := id a3
        obtain ⟨p, rfl, hp⟩ := id t3
        obtain ⟨d1, d2, d3, d4⟩ := cnt_shown mok
        have un := hr.units
        refine ⟨_, rfl, xo, c.C, dx, _, _, rfl, hx, R.CC.cl, R.CC.k, cnt_kind .., _, rfl, xo, c.C, dx, _, _, rfl, hx, R.CC.cl, R.CC.w, cnt_weight .., _, rfl, xo, c.C, dx, _, _, rfl, hx, R.CC.cl, R.CC.o, cnt_whose .., (by show 3 ≤ sizeLine; decide), fun t nt => ?_⟩
        have s4 : Same H3 (upd H3 t (.tup (Rw.ct kd wt wh).tupV)) := Same.new nt
        have ht : upd H3 t (.tup (Rw.ct kd wt wh).tupV) t = some (.tup (Rw.ct kd wt wh).tupV) := upd_same
        refine ⟨t, _, rfl, .tup (SqT.of ht) (rw_dp _), d1, d2, by rw [d3]; exact Nat.lt_of_le_of_lt (Nat.add_le_add_left (by decide : 1 + 1 ≤ 64) _) un, d4, ?_⟩
        show tVar 3 _ (upd H3 t (.tup (Rw.ct kd wt wh).tupV)) _
        generalize upd H3 t (.tup (Rw.ct kd wt wh).tupV) = H4 at s4 ht
        have hp4 := s4 _ _ hp
        have a4 := a3.same s4
        have t4 := t3.same s4
        refine ⟨_, rfl, p, _, rfl, .tup (SqT.of hp4) (rw_dp _), d1, d2, by rw [d3]; exact Nat.lt_of_le_of_lt (Nat.add_le_add_left (by decide : 1 + 1 ≤ 64) _) un, d4, rfl, _, rfl, ?_⟩
        rw [show ∀ z : V, (!decide (z = z)) = false from fun z => by simp]
        refine iteF ⟨_, rfl, _, _, rfl, a4, mok, _, rfl, (by show 1 ≤ sizeLine; decide), fun t5 n5 => ?_⟩
        have s5a : Same H4 (upd H4 t5 (.tup [.ref p])) := Same.new n5
        refine ⟨t5, .ref p, _, rfl, upd_same, t4.same s5a, mok, rfl, fun H5 s5b => ?_⟩
        have s45 := s5a.trans s5b
        have s4' := s4.trans s45
        have hp4 := s45 _ _ hp4
        have a4 := a4.same s45
        have t4 := t4.same s45
        clear s4 s5a s5b
        generalize H5 = H4' at s4' s45 hp4 a4 t4 ⊢
        refine ⟨rfl, _, rfl, ?_⟩
        rw [show ∀ z : V, (!decide (z = z)) = false from fun z => by simp]
        refine iteF ?_
        have s5 : Same H1 H4' := s3.trans s4'
        clear s3 s4' s45 ht hx hp t3 a3 nt hp4 d1 d2 d3 d4
        generalize Rw.ct kd wt wh = m at a4 t4 mok hm ya tp
        -- the others
        have hD4 := s5 _ _ hD
        have hq4 := s5 _ _ hq1
        refine ⟨_, rfl, D, rfl, ⟨_, SqL.of hD4⟩, fun D3 nD3 => lc_list (a := D) (xs := xs) (fun i Hh => Same H4' Hh ∧ Hh D3 = some (.lst (bV ((eqs m ms).take i)))) ⟨Same.new nD3, upd_same⟩ (fun i Hh _ z => SqL.of (z.1 _ _ hD4)) ?_ ?_⟩
        · rintro i z Hh hz ⟨s6, hD3⟩
          refine ⟨rfl, ?_⟩
          unfold tYes
          dsimp only
          refine iteT ?_
          obtain ⟨n, hn, na⟩ := md.get hz
          obtain ⟨_, _, _, nok, _⟩ := rl1.2 i n hn
          refine ⟨_, rfl, _, rfl, eqR_at R.C (a4.same s6) (na.same (s5.trans s6)) mok nok ⟨_, hD3, eqs_len lm, Same.upn s6 nD3, ?_⟩⟩
          rw [eqs_next hn]
          rw [show (decide (m = n) != false) = decide (m = n) from by cases decide (m = n) <;> rfl]
          exact upd_same
        rintro H6 ⟨s6, hD3⟩
        rw [eqs_all m ms (by rw [md.1]; exact Nat.le_refl _)] at hD3
        have s7 := s5.trans s6
        have hq6 := s6 _ _ hq4
        have t6 := t4.same s6
        have a6 := a4.same s6
        refine ⟨_, rfl, q, rfl, ⟨_, SqL.of hq6⟩, fun D5 nD5 => lc_list (a := q) (xs := vs) (fun i Hh => Same H6 Hh ∧ Hh D5 = some (.lst (bV ((eqs m ms).take i)))) ⟨Same.new nD5, upd_same⟩ (fun i Hh _ z => SqL.of (z.1 _ _ hq6)) ?_ ?_⟩
        · rintro i z Hh hz ⟨s8, hD5⟩
          refine ⟨rfl, ?_⟩
          unfold tYes
          dsimp only
          refine iteT ?_
          obtain ⟨n, hn, nt, nok, nk⟩ := rl1.get hz
          obtain ⟨pa, ea, hpa⟩ := t6.same s8
          obtain ⟨pb, rfl, hpb⟩ := nt.same (s7.trans s8)
          refine ⟨_, congrArg some (congrArg some ea), _, rfl, _, _, .tup (SqT.of hpa) (rw_dp m), .tup (SqT.of hpb) (rw_dp n), rw_shaped mok, rw_shaped nok, _, hD5, eqs_len lm, Same.upn s8 nD5, ?_⟩
          rw [eqs_next hn, rw_eqv]
          exact upd_same
        rintro H8 ⟨s8, hD5⟩
        rw [eqs_all m ms (by rw [rl1.1]; exact Nat.le_refl _)] at hD5
        refine ⟨_, _, .lst (SqL.of (s8 _ _ hD3)) (dp_bools _), .lst (SqL.of hD5) (dp_bools _), bools_shaped _, bools_shaped _, _, rfl, ?_⟩
        rw [bools_eqv]
        refine iteF ?_
        have a8 := a6.same s8
        have t8 := t6.same s8
        obtain ⟨p8, e8, hp8⟩ := id t8
        cases e8
        refine ⟨_, rfl, _, rfl, _, rfl, _, m, rfl, a8, mok, (by show 3 ≤ sizeLine; decide), fun t9 n9 => ?_⟩
        have s9 := Same.new (o := .tup [.ref p, .str m.text, .non]) n9
        refine inR_at R.B (a8.same s9) upd_same ?_ ⟨_, rfl, iteF ⟨⟨_, _, _, rfl⟩, (s7.trans s8).trans s9⟩⟩
        intro z hz
        simp only [List.mem_cons, List.not_mem_nil, or_false] at hz
        rcases hz with rfl | rfl | rfl
        · exact .tup (s9 _ _ hp8)
        · exact .str _
        · exact .non
    · rintro σ H2 ⟨⟨o2, o3, o4, rfl⟩, s2⟩
      exact k _ (s1.trans s2)
end
end V3

set_option Elab.async false
set_option linter.all false
set_option maxRecDepth 100000
namespace V3
open PySem L2 TL
abbrev sLaw : Stmt := top 27
structure BltW (mg : Str → Option Value) : Prop where
  len : mg "len" = none
  range : mg "range" = none
  max : mg "max" = none
  min : mg "min" = none
  str : mg "str" = none
def spLaw (K : PySem.W.Frag) : Sp := fun vs H Q _ => ∃ (a : Addr) (ns : List Int), vs = [.ref a] ∧ SqL K H a (ns.map V.int) ∧ ns.length ≤ 63 ∧ ∀ H', Q (.bl true) H'
theorem cut_first {xs : List V} (h : 1 ≤ xs.length) : cutV xs none (some 1) = xs.take 1 := by
  have e1 : HT.sIx xs.length 0 none = 0 := by simp [HT.sIx]
  have e2 : HT.sIx xs.length xs.length (some 1) = 1 := by
    simp [HT.sIx]
    omega
  unfold cutV
  rw [e1, e2]
  simp
theorem Ls.more {α : Type} {R : V → α → Prop} {vs : List V} {ms : List α} (d : Ls R vs ms) : Ls R (vs ++ vs.take 1) (ms ++ ms.take 1) := by
  cases vs with
  | nil =>
    cases ms with
    | nil => exact d
    | cons m r => exact absurd d.1 (by simp)
  | cons v r =>
    cases ms with
    | nil => exact absurd d.1 (by simp)
    | cons m r' =>
      obtain ⟨w, e, t⟩ := d.2 0 m rfl
      cases e
      exact d.push t
theorem RowLs.more {kd : Nat} {H : Hp} {vs : List V} {ms : List Rw} (d : RowLs kd H vs ms) (h : 1 ≤ vs.length) : RowLs kd H (vs ++ cutV vs none (some 1)) (ms ++ ms.take 1) := by
  rw [cut_first h]
  exact Ls.more d
section
variable {P : Program} {w : World} {K : PySem.W.Frag} {mg : Str → Option Value} {base : Heap}
abbrev NL : List Str := ["_law_script", "_law_k", "_law_box", "_law_rows_here", "_law_counts", "_law_turn"]
theorem scLaw : FnScope NL ["_law_script"] (defScope sLaw) := ⟨rfl, rfl, rfl, by decide +kernel, rfl, by decide +kernel, by decide +kernel⟩
theorem ok_law {f : Addr} {c : Rc} {fd : FuncData} (F : Fun K "law" "law" sLaw f fd) (T : BltW mg) (R : RwEnv P w K mg base c)
    (cS : Cal P w K mg base CX0 "_law_seed" 1 ["_law_script", "_law_k"] (spSeed K)) (cR : Cal P w K mg base CX0 "_law_rows" 3 ["_law_box", "_law_many"] spRows) (cD : Cal P w K mg base CX0 "_law_count_row" 3 ["_law_box"] spCntRow)
    (cL : Cal P w K mg base CX0 "_law_let_of" 5 ["_law_row"] (spLetOf c)) (ML : MkR P w K mg base "Let" ["self", "kind", "state", "deed", "place"] c.L 3 (spLInit c)) (MC : MkR P w K mg base "Count" ["self", "kind", "weight", "whose"] c.C 3 (spCInit c))
    (cLR : Cal P w K mg base CX0 "_law_lets_right" 6 ["_law_rows_here"] spLetsR)
    (cG : ∃ (f : Addr) (fd : FuncData), FnG P w K mg base CX0 6 f fd ["_law_rows_here"] spCntsR ∧ mg "_law_counts_right" = some (.ref f) ∧ PySem.W.keepIn K (.ref f) = true ∧ Binds K fd ["_law_rows_here"] []) :
    FnG P w K mg base CX0 7 f fd ["_law_script"] (spLaw K) := by
  obtain ⟨fS, fdS, GS, mS, kS, bS⟩ := cS
  obtain ⟨fR, fdR, GR, mR, kR, bR⟩ := cR
  obtain ⟨fD, fdD, GD, mD, kD, bD⟩ := cD
  obtain ⟨fL, fdL, GL, mL, kL, bL⟩ := cL
  obtain ⟨fLR, fdLR, GLR, mLR, kLR, bLR⟩ := cLR
  obtain ⟨fCR, fdCR, GCR, mCR, kCR, bCR⟩ := cG
  obtain ⟨f1, fd1, G1, M1, b1⟩ := ML.ini
  obtain ⟨f2, fd2, G2, M2, b2⟩ := MC.ini
  refine fnG F scLaw (fun vs H Q E h => ?_) (fun cdv A up s H vs Q E g hr h => ?_)
  · obtain ⟨a, ns, rfl, _⟩ := h
    rfl
  · obtain ⟨a, ns, rfl, hS, hl, k⟩ := h
    have hr1 : Room 1 _ := hr.mono (by decide)
    have hr3 : Room 3 _ := hr.mono (by decide)
    have hr4 : Room 4 _ := hr.mono (by decide)
    have hr5 : Room 5 _ := hr.mono (by decide)
    refine ⟨_, PSs.nox (pss_cons (ps_for PassesOwn.never rfl (pi_range1 (by rfl) T.range (pa_cons (pe_callB (call_max2 rfl) (by rfl) T.max (by decide +kernel) (pa_cons pe_int (pa_cons (pe_callB (call_min2 rfl) (by rfl) T.min (by decide +kernel) (pa_cons pe_int (pa_cons (pe_callB call_len_seq (by rfl) T.len PySem.boot_len (pa_cons (pv 0) pa_nil)) pa_nil))) pa_nil))) pa_nil)) (pg_name (i := 1) scLaw.nd rfl (Or.inl rfl))
      (pss_cons (ps_set (i := 2) scLaw.nd rfl (Or.inr rfl) (pe_call GS hr1 rfl mS kS bS .nil pass0 (pa_cons (pv 0) (pa_cons (pv 1) pa_nil))))
      (pss_cons (ps_par (i := 3) (j := 4) rfl scLaw.nd rfl rfl (by decide) rfl rfl (pa_cons (pe_call GR hr3 rfl mR kR bR .nil pass0 (pa_cons (pv 2) (pa_cons pe_int pa_nil))) (pa_cons (pe_lc (own := [("_law_turn", 5)]) (g := gName 5) (tt := tYes) (by rfl) scLaw.nd (pi_range1 (by rfl) T.range (pa_cons pe_int pa_nil)) (blkOk_by (own := [("_law_turn", 5)]) (N := NL) (sc := defScope sLaw) (by decide +kernel)) (fun _ _ _ _ _ => (pg_name (i := 5) scLaw.nd rfl (Or.inl rfl))) (fun _ _ _ _ _ => pts_nil) (fun _ _ _ _ _ => (pe_call GD hr3 rfl mD kD bD .nil pass0 (pa_cons (pv 2) pa_nil)))) pa_nil)) (by rfl))
      (pss_cons (ps_if (PW.pt (pw_or (pt_not (pt_val (pe_call GLR hr rfl mLR kLR bLR .nil pass0 (pa_cons (pe_op op_cat (pv 3) (pe_slice sl_list (pv 3) po_none (po_some pe_int))) pa_nil)))) (pw_or1 (pt_not (pt_val (pe_callG GCR g hr rfl mCR kCR bCR .nil pass0 (pa_cons (pe_op op_cat (pv 4) (pe_slice sl_list (pv 4) po_none (po_some pe_int))) pa_nil))))))) (pss_one (ps_ret pe_bl)) pss_nil)
      (pss_one (ps_if (pt_cmpR (op_eqR R.EQ hr4) (pe_call GL hr5 rfl mL kL bL .nil pass0 (pa_cons (pe_ix ix_list (pv 3) pe_int (fun _ _ => rfl)) pa_nil)) (pe_make (E := fun _ _ _ => False) M2 G2 hr4 rfl MC.g b2 .nil pass0 (pa_cons (pe_ix ix_tup (pe_ix ix_list (pv 4) pe_int (fun _ _ => rfl)) pe_int (fun _ _ => rfl)) (pa_cons (pe_ix ix_tup (pe_ix ix_list (pv 4) pe_int (fun _ _ => rfl)) pe_int (fun _ _ => rfl)) (pa_cons (pe_ix ix_tup (pe_ix ix_list (pv 4) pe_int (fun _ _ => rfl)) pe_int (fun _ _ => rfl)) pa_nil)))) (nomark _)) (pss_one (ps_ret pe_bl)) pss_nil))))))
      (pss_cons (ps_if (pt_cmpR op_ne (pe_callTy (call_strR R.ST hr3) (by rfl) T.str (by decide +kernel) (pa_cons (pe_make (E := fun _ _ _ => False) M1 G1 hr4 rfl ML.g b1 .nil pass0 (pa_cons pe_str (pa_cons pe_str (pa_cons pe_str (pa_cons pe_str pa_nil))))) pa_nil)) pe_str (nomark _)) (pss_one (ps_ret pe_bl)) pss_nil)
      (pss_one (ps_ret (pe_cmpR op_eq (pe_callTy (call_strR R.ST hr3) (by rfl) T.str (by decide +kernel) (pa_cons (pe_make (E := fun _ _ _ => False) M2 G2 hr4 rfl MC.g b2 .nil pass0 (pa_cons pe_str (pa_cons (pe_un un_neg pe_int) (pa_cons pe_str pa_nil)))) pa_nil)) pe_str (nomark _)))))), ?_⟩
    refine ⟨_, rfl, a, _, rfl, .inl hS, _, _, rfl, _, _, rfl, ?_⟩
    rw [List.length_map]
    have hn : (if (if (ns.length : Int) < 5 then (ns.length : Int) else 5) > 2 then (if (ns.length : Int) < 5 then (ns.length : Int) else 5) else 2) ≤ 5 ∧ 2 ≤ (if (if (ns.length : Int) < 5 then (ns.length : Int) else 5) > 2 then (if (ns.length : Int) < 5 then (ns.length : Int) else 5) else 2) := by
      constructor <;> (split <;> (try split) <;> omega)
    generalize (if (if (ns.length : Int) < 5 then (ns.length : Int) else 5) > 2 then (if (ns.length : Int) < 5 then (ns.length : Int) else 5) else 2) = n at hn
    refine ⟨n, rfl, by omega, by omega, for_range (lo := 0) (n := n.toNat) (fun i σ H' => (∃ o1 o2 o3 o4 o5 : Option V, σ = [some (.ref a), o1, o2, o3, o4, o5]) ∧ Same H H') ⟨⟨_, _, _, _, _, rfl⟩, Same.refl H⟩ ?_ ?_⟩
    · rintro i σ H0 hi ⟨⟨o1, o2, o3, o4, o5, rfl⟩, s0⟩
      refine ⟨_, rfl, _, rfl, a, ns, _, rfl, s0.seq hS, hl, by omega, by omega, fun b u v nb ok => ?_⟩
      have s1 : Same H (upd H0 b (box u v)) := fun c o e => by
        rw [upd_ne (ne_of_none (s0 c o e) nb)]
        exact s0 c o e
      have hb0 : H b = none := s0.free nb
      have hb1 : upd H0 b (box u v) b = some (box u v) := upd_same
      generalize upd H0 b (box u v) = H1 at s1 hb1
      refine ⟨_, rfl, b, u, v, 6, rfl, hb1, ok, (by decide), (by decide), fun D xs ms H2 p2 hD nDb nD0 rl lm => ?_⟩
      obtain ⟨_, u2, v2, ok2, hb2⟩ := id p2
      refine ⟨6, rfl, by decide, by decide, fun D2 nD2 => ?_⟩
      have nbD2 : b ≠ D2 := ne_of_none hb2 nD2
      have nD20 : ∀ c o, c ≠ b → H2 c = some o → c ≠ D2 := fun c o _ e => ne_of_none e nD2
      refine lc_range (lo := 0) (n := 6) (fun i Hh => ∃ ys ns, Pre b H2 Hh ∧ Hh D2 = some (.lst ys) ∧ RowLs 1 Hh ys ns ∧ ns.length = i) ?_ ?_ ?_
      · exact ⟨[], [], ⟨SameX.of (Same.new nD2), u2, v2, ok2, by rw [upd_ne nbD2]; exact hb2⟩, upd_same, Ls.nil, rfl⟩
      · rintro i2 Hh hi2 ⟨ys, ns, S3, hD2, dr, ln⟩
        refine ⟨rfl, ?_⟩
        unfold tYes
        dsimp only
        refine iteT ?_
        obtain ⟨sx, u3, v3, ok3, hb3⟩ := id S3
        refine ⟨_, rfl, b, u3, v3, rfl, hb3, ok3, fun p m H4 S4 tp mok mk => ?_⟩
        have S5 : Pre b H2 H4 := S3.trans S4
        have hD4 : H4 D2 = some (.lst ys) := S4.1 D2 _ (Ne.symm nbD2) hD2
        obtain ⟨sy, u4, v4, ok4, hb4⟩ := id S5
        refine ⟨ys, hD4, small1000 (by rw [dr.1]; omega), ys ++ [p], ns ++ [m], ⟨fun c o n e => by rw [upd_ne (nD20 c o n e)]; exact sy c o n e, u4, v4, ok4, by rw [upd_ne nbD2]; exact hb4⟩, upd_same, RowLs.keep (kd := 1) (Ls.push (dr.keep (Keep.pre hb3 S4.1)) ⟨tp, mok, mk⟩) (Keep.lst hD4), by simp [ln]⟩
      rintro H3 ⟨ys, ns, P3, hD2, dr, ln⟩
      have s3 : Same H H3 := fun c o e => P3.1 c o (ne_of_none e hb0) (p2.1 c o (ne_of_none e hb0) (s1 c o e))
      have hD3 := P3.1 D _ nDb hD
      have rl3 : RowLs 0 H3 xs ms := rl.keep (Keep.pre hb2 P3.1)
      have lx : xs.length = 6 := by rw [rl3.1]; omega
      have ly : ys.length = 6 := by rw [dr.1]; exact ln
      clear P3 rl p2 hD s1 hb1 hb2 nD20 nD0
      refine ⟨_, _, rfl, ?_⟩
      -- the lets
      refine ⟨_, rfl, _, rfl, 1, rfl, D, xs, rfl, SqL.of hD3, fun p np => ?_⟩
      have s4 : Same H3 (upd H3 p (.lst (cutV xs none (some 1)))) := Same.new np
      have hp : upd H3 p (.lst (cutV xs none (some 1))) p = some (.lst (cutV xs none (some 1))) := upd_same
      generalize upd H3 p (.lst (cutV xs none (some 1))) = H4 at s4 hp
      have lc := cutV_length xs none (some 1)
      refine ⟨D, p, xs, _, rfl, rfl, s4 _ _ hD3, hp, Nat.le_trans (show xs.length + (cutV xs none (some 1)).length ≤ 1000 by omega) (by decide), fun q nq => ?_⟩
      have s5 : Same H4 (upd H4 q (.lst (xs ++ cutV xs none (some 1)))) := Same.new nq
      have hq : upd H4 q (.lst (xs ++ cutV xs none (some 1))) q = some (.lst (xs ++ cutV xs none (some 1))) := upd_same
      generalize upd H4 q (.lst (xs ++ cutV xs none (some 1))) = H5 at s5 hq
      have s35 := s4.trans s5
      refine ⟨q, _, ms ++ ms.take 1, rfl, hq, RowLs.more (rl3.keep (Keep.of s35)) (by omega), (by rw [List.length_append, List.length_take]; omega), fun H6 s6 => ⟨_, rfl, iteF ?_⟩⟩
      have s36 := s35.trans s6
      clear s4 hp s5 hq s35 s6
      -- the counts
      have hD6 := s36 _ _ hD2
      have dr6 : RowLs 1 H6 ys ns := dr.keep (Keep.of s36)
      refine ⟨_, rfl, _, rfl, 1, rfl, D2, ys, rfl, SqL.of hD6, fun p2 np2 => ?_⟩
      have s7 : Same H6 (upd H6 p2 (.lst (cutV ys none (some 1)))) := Same.new np2
      have hp2 : upd H6 p2 (.lst (cutV ys none (some 1))) p2 = some (.lst (cutV ys none (some 1))) := upd_same
      generalize upd H6 p2 (.lst (cutV ys none (some 1))) = H7 at s7 hp2
      have lc2 := cutV_length ys none (some 1)
      refine ⟨D2, p2, ys, _, rfl, rfl, s7 _ _ hD6, hp2, Nat.le_trans (show ys.length + (cutV ys none (some 1)).length ≤ 1000 by omega) (by decide), fun q2 nq2 => ?_⟩
      have s8 : Same H7 (upd H7 q2 (.lst (ys ++ cutV ys none (some 1)))) := Same.new nq2
      have hq2 : upd H7 q2 (.lst (ys ++ cutV ys none (some 1))) q2 = some (.lst (ys ++ cutV ys none (some 1))) := upd_same
      generalize upd H7 q2 (.lst (ys ++ cutV ys none (some 1))) = H8 at s8 hq2
      have s68 := s7.trans s8
      refine ⟨q2, _, ns ++ ns.take 1, rfl, hq2, RowLs.more (dr6.keep (Keep.of s68)) (by omega), (by rw [List.length_append, List.length_take]; omega), fun H9 s9 => ⟨_, rfl, iteF ?_⟩⟩
      have s39 := s36.trans (s68.trans s9)
      have s69 := s68.trans s9
      clear s7 hp2 s8 hq2 s68 s9
      -- the first let, the first count
      have hD9 := s39 _ _ hD3
      have rl9 : RowLs 0 H9 xs ms := rl3.keep (Keep.of s39)
      have hE9 := s69 _ _ hD6
      have dr9 : RowLs 1 H9 ys ns := dr6.keep (Keep.of s69)
      have x0 : xs[0]? = some xs[0] := List.getElem?_eq_getElem (by omega)
      have y0 : ys[0]? = some ys[0] := List.getElem?_eq_getElem (by omega)
      obtain ⟨m, hm, tm, mok, mk⟩ := rl9.get x0
      obtain ⟨n2, hn2, tn, nok, nk⟩ := dr9.get y0
      have ax : atI xs 0 = some xs[0] := by
        show (ixN xs.length 0).bind (fun j => xs[j]?) = _
        have e : ixN xs.length 0 = some 0 := by
          unfold ixN
          rw [if_pos (by decide), if_pos (by show (0 : Int) < _; omega)]
          rfl
        rw [e]
        exact x0
      have ay : atI ys 0 = some ys[0] := by
        show (ixN ys.length 0).bind (fun j => ys[j]?) = _
        have e : ixN ys.length 0 = some 0 := by
          unfold ixN
          rw [if_pos (by decide), if_pos (by show (0 : Int) < _; omega)]
          rfl
        rw [e]
        exact y0
      refine ⟨_, rfl, D, xs, 0, _, rfl, rfl, SqL.of hD9, ax, _, m, rfl, tm, mok, mk, fun y H10 s10 a10 => ?_⟩
      cases n2 with
      | lt _ _ _ _ => cases nk
      | ct kd wt wh =>
        obtain ⟨pt, et, hpt⟩ := tn.same s10
        have hE10 := s10 _ _ hE9
        rw [et] at ay
        refine ⟨_, rfl, D2, ys, 0, _, rfl, rfl, SqL.of hE10, ay, pt, _, 0, .str kd, rfl, rfl, SqT.of hpt, rfl, _, rfl, D2, ys, 0, _, rfl, rfl, SqL.of hE10, ay, pt, _, 1, .int wt, rfl, rfl, SqT.of hpt, rfl, _, rfl, D2, ys, 0, _, rfl, rfl, SqL.of hE10, ay, pt, _, 2, .str wh, rfl, rfl, SqT.of hpt, rfl, ?_⟩
        refine fun x dx nx ndx _ => mk_cnt nok nx ndx fun H11 s11 a11 => ⟨rfl, ?_⟩
        refine eqR_at R.C (a10.same s11) a11 mok nok ⟨_, rfl, ?_⟩
        have d : m ≠ Rw.ct kd wt wh := fun e => by
          rw [e] at mk
          cases mk
        rw [decide_eq_false d]
        exact iteF ⟨⟨_, _, _, _, _, rfl⟩, s3.trans (s39.trans (s10.trans s11))⟩
    · rintro σ H2 ⟨⟨o1, o2, o3, o4, o5, rfl⟩, s0⟩
      have okL : (Rw.lt "plus" "shut" "part" "there").ok := ⟨by decide +kernel, by decide +kernel, by decide +kernel, by decide +kernel, fun e => absurd e (by decide +kernel)⟩
      have okC : (Rw.ct "new" (-1) "top").ok := ⟨by decide +kernel, .inl rfl, by decide +kernel⟩
      refine fun x1 d1 nx1 nd1 _ => mk_let okL nx1 nd1 fun H3 s3 a3 => ⟨rfl, _, _, rfl, a3, okL, rfl, _, rfl, ?_⟩
      have e1 : (Rw.lt "plus" "shut" "part" "there").text = "plus shut part there" := by decide +kernel
      have e2 : (Rw.ct "new" (-1) "top").text = "new -1 top" := by decide +kernel
      rw [e1]
      rw [show ∀ z : V, (!decide (z = z)) = false from fun z => by simp]
      refine iteF ?_
      refine ⟨_, rfl, ?_⟩
      refine fun x2 d2 nx2 nd2 _ => mk_cnt okC nx2 nd2 fun H4 s4 a4 => ⟨rfl, _, _, rfl, a4, okC, rfl, ?_⟩
      rw [e2]
      rw [show ∀ z : V, decide (z = z) = true from fun z => by simp]
      exact k _
end
end V3

set_option Elab.async false
set_option maxHeartbeats 4000000
set_option linter.all false
set_option maxRecDepth 100000
namespace V3
open PySem L2
theorem kit_ref {K : PySem.W.Frag} {t C : Addr} {b : Bool} (h1 : PySem.W.isClsIn K C = true) (h2 : PySem.W.typeIn K (.ref C) = some (.type "type")) (h3 : PySem.W.subIn K (.ref t) (.ref C) = some b) (h4 : PySem.W.subIn K (.ref t) (.ref t) = some true) :
    PySem.W.kitOne K (.ref t) (.ref C) = some b := by
  unfold PySem.W.kitOne
  by_cases e : t = C
  · subst e
    rw [h4] at h3
    injection h3 with h3
    subst h3
    rw [if_pos (by simp)]
  · have n : (Value.ref t == Value.ref C) = false := by
      refine Bool.eq_false_iff.mpr fun q => e ?_
      exact Value.ref.inj (beq_iff_eq.mp q)
    rw [n, if_neg Bool.false_ne_true]
    have q : ((PySem.W.clsIn K C).isSome && PySem.W.typeIn K (.ref C) == some (.type "type")) = true := by
      have z : (PySem.W.clsIn K C).isSome = true := h1
      rw [z, h2] <;> rfl
    show (if ((PySem.W.clsIn K C).isSome && PySem.W.typeIn K (.ref C) == some (.type "type")) = true then PySem.W.subIn K (.ref t) (.ref C) else none) = some b
    rw [if_pos q]
    exact h3
theorem nf_same {K : PySem.W.Frag} {C : Addr} : PySem.W.notFirst K C (.ref C) = true := by simp [PySem.W.notFirst]
theorem nf_other {K : PySem.W.Frag} {C D : Addr} (h : PySem.W.subIn K (.ref D) (.ref C) = some false) : PySem.W.notFirst K C (.ref D) = true := by
  unfold PySem.W.notFirst
  rw [h]
  simp
theorem kit_base {K : PySem.W.Frag} {t : String} {C : Addr} {b : Bool} (h1 : PySem.W.isClsIn K C = true) (h2 : PySem.W.typeIn K (.ref C) = some (.type "type")) (h3 : PySem.W.subIn K (.type t) (.ref C) = some b) :
    PySem.W.kitOne K (.type t) (.ref C) = some b := by
  unfold PySem.W.kitOne
  have n : (Value.type t == Value.ref C) = false := by
    refine Bool.eq_false_iff.mpr fun q => ?_
    cases beq_iff_eq.mp q
  rw [n, if_neg Bool.false_ne_true]
  have q : ((PySem.W.clsIn K C).isSome && PySem.W.typeIn K (.ref C) == some (.type "type")) = true := by
    have z : (PySem.W.clsIn K C).isSome = true := h1
    rw [z, h2] <;> rfl
  show (if ((PySem.W.clsIn K C).isSome && PySem.W.typeIn K (.ref C) == some (.type "type")) = true then PySem.W.subIn K (.type t) (.ref C) else none) = some b
  rw [if_pos q]
  exact h3
theorem all_mk {l : PySem.W.OpenLaw} {w : World} {K : PySem.W.Frag} {h : Heap} {mg : Str → Option Value} {fa f_int f_ww f_wp f_seed f_choose f_one f_rows f_rt f_lo f_cr f_lr f_kr f_law LC CC f_li f_le f_ls f_ci f_ce f_cs KA SA DA PA WA OA : Addr} (X : K.In h) (G : h.Ns mainGlobals mg) (hfa : mg "law" = some (.ref fa))
    {od_f_int an_f_int : Option Addr} {sl_f_int : Array (Option Value)} {oc_f_int kV_f_int dc_f_int pm_f_int cd_f_int ct_f_int : Value}
    {od_f_ww an_f_ww : Option Addr} {sl_f_ww : Array (Option Value)} {oc_f_ww kV_f_ww dc_f_ww pm_f_ww cd_f_ww ct_f_ww : Value}
    {od_f_wp an_f_wp : Option Addr} {sl_f_wp : Array (Option Value)} {oc_f_wp kV_f_wp dc_f_wp pm_f_wp cd_f_wp ct_f_wp : Value}
    {od_f_seed an_f_seed : Option Addr} {sl_f_seed : Array (Option Value)} {oc_f_seed kV_f_seed dc_f_seed pm_f_seed cd_f_seed ct_f_seed : Value}
    {od_f_choose an_f_choose : Option Addr} {sl_f_choose : Array (Option Value)} {oc_f_choose kV_f_choose dc_f_choose pm_f_choose cd_f_choose ct_f_choose : Value}
    {od_f_one an_f_one : Option Addr} {sl_f_one : Array (Option Value)} {oc_f_one kV_f_one dc_f_one pm_f_one cd_f_one ct_f_one : Value}
    {od_f_rows an_f_rows : Option Addr} {sl_f_rows : Array (Option Value)} {oc_f_rows kV_f_rows dc_f_rows pm_f_rows cd_f_rows ct_f_rows : Value}
    {od_f_rt an_f_rt : Option Addr} {sl_f_rt : Array (Option Value)} {oc_f_rt kV_f_rt dc_f_rt pm_f_rt cd_f_rt ct_f_rt : Value}
    {od_f_lo an_f_lo : Option Addr} {sl_f_lo : Array (Option Value)} {oc_f_lo kV_f_lo dc_f_lo pm_f_lo cd_f_lo ct_f_lo : Value}
    {od_f_cr an_f_cr : Option Addr} {sl_f_cr : Array (Option Value)} {oc_f_cr kV_f_cr dc_f_cr pm_f_cr cd_f_cr ct_f_cr : Value}
    {od_f_lr an_f_lr : Option Addr} {sl_f_lr : Array (Option Value)} {oc_f_lr kV_f_lr dc_f_lr pm_f_lr cd_f_lr ct_f_lr : Value}
    {od_f_kr an_f_kr : Option Addr} {sl_f_kr : Array (Option Value)} {oc_f_kr kV_f_kr dc_f_kr pm_f_kr cd_f_kr ct_f_kr : Value}
    {od_f_law an_f_law : Option Addr} {sl_f_law : Array (Option Value)} {oc_f_law kV_f_law dc_f_law pm_f_law cd_f_law ct_f_law : Value}
    {od_f_li an_f_li : Option Addr} {sl_f_li : Array (Option Value)} {oc_f_li kV_f_li dc_f_li pm_f_li cd_f_li ct_f_li : Value}
    {od_f_le an_f_le : Option Addr} {sl_f_le : Array (Option Value)} {oc_f_le kV_f_le dc_f_le pm_f_le cd_f_le ct_f_le : Value}
    {od_f_ls an_f_ls : Option Addr} {sl_f_ls : Array (Option Value)} {oc_f_ls kV_f_ls dc_f_ls pm_f_ls cd_f_ls ct_f_ls : Value}
    {od_f_ci an_f_ci : Option Addr} {sl_f_ci : Array (Option Value)} {oc_f_ci kV_f_ci dc_f_ci pm_f_ci cd_f_ci ct_f_ci : Value}
    {od_f_ce an_f_ce : Option Addr} {sl_f_ce : Array (Option Value)} {oc_f_ce kV_f_ce dc_f_ce pm_f_ce cd_f_ce ct_f_ce : Value}
    {od_f_cs an_f_cs : Option Addr} {sl_f_cs : Array (Option Value)} {oc_f_cs kV_f_cs dc_f_cs pm_f_cs cd_f_cs ct_f_cs : Value}
    {t0_KA t1_KA t2_KA t3_KA : Tok} {dd_KA : Option Addr} {n_KA : Nat} {ds_KA : Array (Option Value)}
    {t0_SA t1_SA : Tok} {dd_SA : Option Addr} {n_SA : Nat} {ds_SA : Array (Option Value)}
    {t0_DA t1_DA t2_DA : Tok} {dd_DA : Option Addr} {n_DA : Nat} {ds_DA : Array (Option Value)}
    {t0_PA t1_PA : Tok} {dd_PA : Option Addr} {n_PA : Nat} {ds_PA : Array (Option Value)}
    {t0_WA t1_WA t2_WA : Tok} {dd_WA : Option Addr} {n_WA : Nat} {ds_WA : Array (Option Value)}
    {t0_OA t1_OA t2_OA t3_OA : Tok} {dd_OA : Option Addr} {n_OA : Nat} {ds_OA : Array (Option Value)}
    (g_f_int : PySem.W.nsIn K mainGlobals "is_integer" = some (some (.ref f_int)))
    (l_f_int : K.lookup f_int = some ⟨oc_f_int, od_f_int, .func (PySem.W.fnOf "is_integer" "is_integer" (defArgs sIsInt) (defBody sIsInt) (defScope sIsInt) .none kV_f_int dc_f_int pm_f_int an_f_int cd_f_int ct_f_int), sl_f_int⟩)
    (c_f_int : PySem.W.codeIn K cd_f_int "is_integer" = true)
    (k_f_int : PySem.W.keepIn K (.ref f_int) = true)
    (g_f_ww : PySem.W.nsIn K mainGlobals "wrong_word" = some (some (.ref f_ww)))
    (l_f_ww : K.lookup f_ww = some ⟨oc_f_ww, od_f_ww, .func (PySem.W.fnOf "wrong_word" "wrong_word" (defArgs sWrongWord) (defBody sWrongWord) (defScope sWrongWord) .none kV_f_ww dc_f_ww pm_f_ww an_f_ww cd_f_ww ct_f_ww), sl_f_ww⟩)
    (c_f_ww : PySem.W.codeIn K cd_f_ww "wrong_word" = true)
    (k_f_ww : PySem.W.keepIn K (.ref f_ww) = true)
    (g_f_wp : PySem.W.nsIn K mainGlobals "wrong_part" = some (some (.ref f_wp)))
    (l_f_wp : K.lookup f_wp = some ⟨oc_f_wp, od_f_wp, .func (PySem.W.fnOf "wrong_part" "wrong_part" (defArgs sWrongPart) (defBody sWrongPart) (defScope sWrongPart) .none kV_f_wp dc_f_wp pm_f_wp an_f_wp cd_f_wp ct_f_wp), sl_f_wp⟩)
    (c_f_wp : PySem.W.codeIn K cd_f_wp "wrong_part" = true)
    (k_f_wp : PySem.W.keepIn K (.ref f_wp) = true)
    (g_f_seed : PySem.W.nsIn K mainGlobals "_law_seed" = some (some (.ref f_seed)))
    (l_f_seed : K.lookup f_seed = some ⟨oc_f_seed, od_f_seed, .func (PySem.W.fnOf "_law_seed" "_law_seed" (defArgs sSeed) (defBody sSeed) (defScope sSeed) .none kV_f_seed dc_f_seed pm_f_seed an_f_seed cd_f_seed ct_f_seed), sl_f_seed⟩)
    (c_f_seed : PySem.W.codeIn K cd_f_seed "_law_seed" = true)
    (k_f_seed : PySem.W.keepIn K (.ref f_seed) = true)
    (g_f_choose : PySem.W.nsIn K mainGlobals "_law_choose" = some (some (.ref f_choose)))
    (l_f_choose : K.lookup f_choose = some ⟨oc_f_choose, od_f_choose, .func (PySem.W.fnOf "_law_choose" "_law_choose" (defArgs sChoose) (defBody sChoose) (defScope sChoose) .none kV_f_choose dc_f_choose pm_f_choose an_f_choose cd_f_choose ct_f_choose), sl_f_choose⟩)
    (c_f_choose : PySem.W.codeIn K cd_f_choose "_law_choose" = true)
    (k_f_choose : PySem.W.keepIn K (.ref f_choose) = true)
    (g_f_one : PySem.W.nsIn K mainGlobals "_law_one_of" = some (some (.ref f_one)))
    (l_f_one : K.lookup f_one = some ⟨oc_f_one, od_f_one, .func (PySem.W.fnOf "_law_one_of" "_law_one_of" (defArgs sOneOf) (defBody sOneOf) (defScope sOneOf) .none kV_f_one dc_f_one pm_f_one an_f_one cd_f_one ct_f_one), sl_f_one⟩)
    (c_f_one : PySem.W.codeIn K cd_f_one "_law_one_of" = true)
    (k_f_one : PySem.W.keepIn K (.ref f_one) = true)
    (g_f_rows : PySem.W.nsIn K mainGlobals "_law_rows" = some (some (.ref f_rows)))
    (l_f_rows : K.lookup f_rows = some ⟨oc_f_rows, od_f_rows, .func (PySem.W.fnOf "_law_rows" "_law_rows" (defArgs sRows) (defBody sRows) (defScope sRows) .none kV_f_rows dc_f_rows pm_f_rows an_f_rows cd_f_rows ct_f_rows), sl_f_rows⟩)
    (c_f_rows : PySem.W.codeIn K cd_f_rows "_law_rows" = true)
    (k_f_rows : PySem.W.keepIn K (.ref f_rows) = true)
    (g_f_rt : PySem.W.nsIn K mainGlobals "_law_report_text" = some (some (.ref f_rt)))
    (l_f_rt : K.lookup f_rt = some ⟨oc_f_rt, od_f_rt, .func (PySem.W.fnOf "_law_report_text" "_law_report_text" (defArgs sRepText) (defBody sRepText) (defScope sRepText) .none kV_f_rt dc_f_rt pm_f_rt an_f_rt cd_f_rt ct_f_rt), sl_f_rt⟩)
    (c_f_rt : PySem.W.codeIn K cd_f_rt "_law_report_text" = true)
    (k_f_rt : PySem.W.keepIn K (.ref f_rt) = true)
    (g_f_lo : PySem.W.nsIn K mainGlobals "_law_let_of" = some (some (.ref f_lo)))
    (l_f_lo : K.lookup f_lo = some ⟨oc_f_lo, od_f_lo, .func (PySem.W.fnOf "_law_let_of" "_law_let_of" (defArgs sLetOf) (defBody sLetOf) (defScope sLetOf) .none kV_f_lo dc_f_lo pm_f_lo an_f_lo cd_f_lo ct_f_lo), sl_f_lo⟩)
    (c_f_lo : PySem.W.codeIn K cd_f_lo "_law_let_of" = true)
    (k_f_lo : PySem.W.keepIn K (.ref f_lo) = true)
    (g_f_cr : PySem.W.nsIn K mainGlobals "_law_count_row" = some (some (.ref f_cr)))
    (l_f_cr : K.lookup f_cr = some ⟨oc_f_cr, od_f_cr, .func (PySem.W.fnOf "_law_count_row" "_law_count_row" (defArgs sCntRow) (defBody sCntRow) (defScope sCntRow) .none kV_f_cr dc_f_cr pm_f_cr an_f_cr cd_f_cr ct_f_cr), sl_f_cr⟩)
    (c_f_cr : PySem.W.codeIn K cd_f_cr "_law_count_row" = true)
    (k_f_cr : PySem.W.keepIn K (.ref f_cr) = true)
    (g_f_lr : PySem.W.nsIn K mainGlobals "_law_lets_right" = some (some (.ref f_lr)))
    (l_f_lr : K.lookup f_lr = some ⟨oc_f_lr, od_f_lr, .func (PySem.W.fnOf "_law_lets_right" "_law_lets_right" (defArgs sLetsRight) (defBody sLetsRight) (defScope sLetsRight) .none kV_f_lr dc_f_lr pm_f_lr an_f_lr cd_f_lr ct_f_lr), sl_f_lr⟩)
    (c_f_lr : PySem.W.codeIn K cd_f_lr "_law_lets_right" = true)
    (k_f_lr : PySem.W.keepIn K (.ref f_lr) = true)
    (g_f_kr : PySem.W.nsIn K mainGlobals "_law_counts_right" = some (some (.ref f_kr)))
    (l_f_kr : K.lookup f_kr = some ⟨oc_f_kr, od_f_kr, .func (PySem.W.fnOf "_law_counts_right" "_law_counts_right" (defArgs sCntsRight) (defBody sCntsRight) (defScope sCntsRight) .none kV_f_kr dc_f_kr pm_f_kr an_f_kr cd_f_kr ct_f_kr), sl_f_kr⟩)
    (c_f_kr : PySem.W.codeIn K cd_f_kr "_law_counts_right" = true)
    (k_f_kr : PySem.W.keepIn K (.ref f_kr) = true)
    (g_f_law : PySem.W.nsIn K mainGlobals "law" = some (some (.ref f_law)))
    (l_f_law : K.lookup f_law = some ⟨oc_f_law, od_f_law, .func (PySem.W.fnOf "law" "law" (defArgs sLaw) (defBody sLaw) (defScope sLaw) .none kV_f_law dc_f_law pm_f_law an_f_law cd_f_law ct_f_law), sl_f_law⟩)
    (c_f_law : PySem.W.codeIn K cd_f_law "law" = true)
    (k_f_law : PySem.W.keepIn K (.ref f_law) = true)
    (g_LC : PySem.W.nsIn K mainGlobals "Let" = some (some (.ref LC)))
    (g_CC : PySem.W.nsIn K mainGlobals "Count" = some (some (.ref CC)))
    (gn : PySem.W.specialIn K (.builtin "object.__class__") "__get__" = some (some (.builtin "getset_descriptor.__get__")))
    (tk : PySem.W.takesIn K (.builtin "object.__class__") = some true)
    (pg_LC : PySem.W.plainGet K LC Str.empty = true)
    (hd_LC : PySem.W.hasDictIn K LC = true)
    (po_LC : PySem.W.plainOver K LC = true)
    (sa_LC : PySem.W.findIn K (.ref LC) "__setattr__" = some (some (.builtin "object.__setattr__")))
    (mk_LC : PySem.W.makesIn K LC = true)
    (kc_LC : PySem.W.keepIn K (.ref LC) = true)
    (ca_LC : PySem.W.findIn K (.ref LC) "__class__" = some (some (.builtin "object.__class__")))
    (mo_LC : PySem.W.mroIn K LC (.type "object") = some true)
    (ss_LC : PySem.W.subIn K (.ref LC) (.ref LC) = some true)
    (ne_LC : PySem.W.findIn K (.ref LC) "__ne__" = some (some (.builtin "object.__ne__")))
    (ob_LC : PySem.W.subIn K (.ref LC) (.type "object") = some true)
    (ic_LC : PySem.W.isClsIn K LC = true)
    (tc_LC : PySem.W.typeIn K (.ref LC) = some (.type "type"))
    (su_CC_LC : PySem.W.subIn K (.ref CC) (.ref LC) = some false)
    (bh_LC_str : PySem.W.subIn K (.ref LC) (.type "str") = some false)
    (mt_LC_str : PySem.W.subIn K (.type "str") (.ref LC) = some false)
    (bh_LC_NoneType : PySem.W.subIn K (.ref LC) (.type "NoneType") = some false)
    (mt_LC_NoneType : PySem.W.subIn K (.type "NoneType") (.ref LC) = some false)
    (bh_LC_tuple : PySem.W.subIn K (.ref LC) (.type "tuple") = some false)
    (mt_LC_tuple : PySem.W.subIn K (.type "tuple") (.ref LC) = some false)
    (pg_CC : PySem.W.plainGet K CC Str.empty = true)
    (hd_CC : PySem.W.hasDictIn K CC = true)
    (po_CC : PySem.W.plainOver K CC = true)
    (sa_CC : PySem.W.findIn K (.ref CC) "__setattr__" = some (some (.builtin "object.__setattr__")))
    (mk_CC : PySem.W.makesIn K CC = true)
    (kc_CC : PySem.W.keepIn K (.ref CC) = true)
    (ca_CC : PySem.W.findIn K (.ref CC) "__class__" = some (some (.builtin "object.__class__")))
    (mo_CC : PySem.W.mroIn K CC (.type "object") = some true)
    (ss_CC : PySem.W.subIn K (.ref CC) (.ref CC) = some true)
    (ne_CC : PySem.W.findIn K (.ref CC) "__ne__" = some (some (.builtin "object.__ne__")))
    (ob_CC : PySem.W.subIn K (.ref CC) (.type "object") = some true)
    (ic_CC : PySem.W.isClsIn K CC = true)
    (tc_CC : PySem.W.typeIn K (.ref CC) = some (.type "type"))
    (su_LC_CC : PySem.W.subIn K (.ref LC) (.ref CC) = some false)
    (bh_CC_str : PySem.W.subIn K (.ref CC) (.type "str") = some false)
    (mt_CC_str : PySem.W.subIn K (.type "str") (.ref CC) = some false)
    (bh_CC_NoneType : PySem.W.subIn K (.ref CC) (.type "NoneType") = some false)
    (mt_CC_NoneType : PySem.W.subIn K (.type "NoneType") (.ref CC) = some false)
    (bh_CC_tuple : PySem.W.subIn K (.ref CC) (.type "tuple") = some false)
    (mt_CC_tuple : PySem.W.subIn K (.type "tuple") (.ref CC) = some false)
    (no_LC_kind : PySem.W.findIn K (.ref LC) "kind" = some none)
    (no_LC_state : PySem.W.findIn K (.ref LC) "state" = some none)
    (no_LC_deed : PySem.W.findIn K (.ref LC) "deed" = some none)
    (no_LC_place : PySem.W.findIn K (.ref LC) "place" = some none)
    (no_CC_kind : PySem.W.findIn K (.ref CC) "kind" = some none)
    (no_CC_weight : PySem.W.findIn K (.ref CC) "weight" = some none)
    (no_CC_whose : PySem.W.findIn K (.ref CC) "whose" = some none)
    (a_f_li : PySem.W.findIn K (.ref LC) "__init__" = some (some (.ref f_li)))
    (i_f_li : PySem.W.isFn K (.ref f_li) = true)
    (l_f_li : K.lookup f_li = some ⟨oc_f_li, od_f_li, .func (PySem.W.fnOf "__init__" "Let.__init__" (defArgs sLInit) (defBody sLInit) (defScope sLInit) .none kV_f_li dc_f_li pm_f_li an_f_li cd_f_li ct_f_li), sl_f_li⟩)
    (c_f_li : PySem.W.codeIn K cd_f_li "Let.__init__" = true)
    (k_f_li : PySem.W.keepIn K (.ref f_li) = true)
    (a_f_le : PySem.W.findIn K (.ref LC) "__eq__" = some (some (.ref f_le)))
    (i_f_le : PySem.W.isFn K (.ref f_le) = true)
    (l_f_le : K.lookup f_le = some ⟨oc_f_le, od_f_le, .func (PySem.W.fnOf "__eq__" "Let.__eq__" (defArgs sLEq) (defBody sLEq) (defScope sLEq) .none kV_f_le dc_f_le pm_f_le an_f_le cd_f_le ct_f_le), sl_f_le⟩)
    (c_f_le : PySem.W.codeIn K cd_f_le "Let.__eq__" = true)
    (k_f_le : PySem.W.keepIn K (.ref f_le) = true)
    (a_f_ls : PySem.W.findIn K (.ref LC) "__str__" = some (some (.ref f_ls)))
    (i_f_ls : PySem.W.isFn K (.ref f_ls) = true)
    (l_f_ls : K.lookup f_ls = some ⟨oc_f_ls, od_f_ls, .func (PySem.W.fnOf "__str__" "Let.__str__" (defArgs sLStr) (defBody sLStr) (defScope sLStr) .none kV_f_ls dc_f_ls pm_f_ls an_f_ls cd_f_ls ct_f_ls), sl_f_ls⟩)
    (c_f_ls : PySem.W.codeIn K cd_f_ls "Let.__str__" = true)
    (k_f_ls : PySem.W.keepIn K (.ref f_ls) = true)
    (a_f_ci : PySem.W.findIn K (.ref CC) "__init__" = some (some (.ref f_ci)))
    (i_f_ci : PySem.W.isFn K (.ref f_ci) = true)
    (l_f_ci : K.lookup f_ci = some ⟨oc_f_ci, od_f_ci, .func (PySem.W.fnOf "__init__" "Count.__init__" (defArgs sCInit) (defBody sCInit) (defScope sCInit) .none kV_f_ci dc_f_ci pm_f_ci an_f_ci cd_f_ci ct_f_ci), sl_f_ci⟩)
    (c_f_ci : PySem.W.codeIn K cd_f_ci "Count.__init__" = true)
    (k_f_ci : PySem.W.keepIn K (.ref f_ci) = true)
    (a_f_ce : PySem.W.findIn K (.ref CC) "__eq__" = some (some (.ref f_ce)))
    (i_f_ce : PySem.W.isFn K (.ref f_ce) = true)
    (l_f_ce : K.lookup f_ce = some ⟨oc_f_ce, od_f_ce, .func (PySem.W.fnOf "__eq__" "Count.__eq__" (defArgs sCEq) (defBody sCEq) (defScope sCEq) .none kV_f_ce dc_f_ce pm_f_ce an_f_ce cd_f_ce ct_f_ce), sl_f_ce⟩)
    (c_f_ce : PySem.W.codeIn K cd_f_ce "Count.__eq__" = true)
    (k_f_ce : PySem.W.keepIn K (.ref f_ce) = true)
    (a_f_cs : PySem.W.findIn K (.ref CC) "__str__" = some (some (.ref f_cs)))
    (i_f_cs : PySem.W.isFn K (.ref f_cs) = true)
    (l_f_cs : K.lookup f_cs = some ⟨oc_f_cs, od_f_cs, .func (PySem.W.fnOf "__str__" "Count.__str__" (defArgs sCStr) (defBody sCStr) (defScope sCStr) .none kV_f_cs dc_f_cs pm_f_cs an_f_cs cd_f_cs ct_f_cs), sl_f_cs⟩)
    (c_f_cs : PySem.W.codeIn K cd_f_cs "Count.__str__" = true)
    (k_f_cs : PySem.W.keepIn K (.ref f_cs) = true)
    (g_KA : PySem.W.nsIn K mainGlobals "KINDS" = some (some (.ref KA)))
    (q_KA : K.lookup KA = some ⟨.type "tuple", dd_KA, .seq #[.str "first" t0_KA, .str "new" t1_KA, .str "minus" t2_KA, .str "plus" t3_KA] n_KA, ds_KA⟩)
    (g_SA : PySem.W.nsIn K mainGlobals "STATES" = some (some (.ref SA)))
    (q_SA : K.lookup SA = some ⟨.type "tuple", dd_SA, .seq #[.str "open" t0_SA, .str "shut" t1_SA] n_SA, ds_SA⟩)
    (g_DA : PySem.W.nsIn K mainGlobals "DEEDS" = some (some (.ref DA)))
    (q_DA : K.lookup DA = some ⟨.type "tuple", dd_DA, .seq #[.str "whole" t0_DA, .str "part" t1_DA, .str "right" t2_DA] n_DA, ds_DA⟩)
    (g_PA : PySem.W.nsIn K mainGlobals "PLACES" = some (some (.ref PA)))
    (q_PA : K.lookup PA = some ⟨.type "tuple", dd_PA, .seq #[.str "now" t0_PA, .str "there" t1_PA] n_PA, ds_PA⟩)
    (g_WA : PySem.W.nsIn K mainGlobals "WEIGHTS" = some (some (.ref WA)))
    (q_WA : K.lookup WA = some ⟨.type "tuple", dd_WA, .seq #[.int (-1) t0_WA, .int (0) t1_WA, .int (1) t2_WA] n_WA, ds_WA⟩)
    (g_OA : PySem.W.nsIn K mainGlobals "WHOSE" = some (some (.ref OA)))
    (q_OA : K.lookup OA = some ⟨.type "tuple", dd_OA, .seq #[.str "own" t0_OA, .str "target" t1_OA, .str "top" t2_OA, .str "deed" t3_OA] n_OA, ds_OA⟩)
    (z_len : PySem.W.nsIn K mainGlobals "len" = some none)
    (z_abs : PySem.W.nsIn K mainGlobals "abs" = some none)
    (z_int : PySem.W.nsIn K mainGlobals "int" = some none)
    (z_isinstance : PySem.W.nsIn K mainGlobals "isinstance" = some none)
    (z_bool : PySem.W.nsIn K mainGlobals "bool" = some none)
    (z_range : PySem.W.nsIn K mainGlobals "range" = some none)
    (z_max : PySem.W.nsIn K mainGlobals "max" = some none)
    (z_min : PySem.W.nsIn K mainGlobals "min" = some none)
    (z_str : PySem.W.nsIn K mainGlobals "str" = some none)
    (z_zip : PySem.W.nsIn K mainGlobals "zip" = some none)
    (z_repr : PySem.W.nsIn K mainGlobals "repr" = some none)
    : ∃ fd : FuncData, (∀ (s : Shared) (v : Value), BindsTo s fd ⟨[v], []⟩ [("_law_script", v)]) ∧ ∀ base : Heap, K.In base → base.Ns mainGlobals mg → FnG l.prog w K mg base CX0 7 fa fd ["_law_script"] (spLaw K) := by
  have e := hfa.symm.trans (PySem.W.mg_of X G g_f_law)
  cases e
  have F_f_int := fun_mk (st := sIsInt) l_f_int c_f_int k_f_int
  have b_f_int := F_f_int.binds (ps := ["value"]) fun _ _ _ _ _ _ us hl => match us, hl with | [_], _ => rfl
  have F_f_ww := fun_mk (st := sWrongWord) l_f_ww c_f_ww k_f_ww
  have b_f_ww := F_f_ww.binds (ps := ["kind", "state", "deed", "place"]) fun _ _ _ _ _ _ us hl => match us, hl with | [_, _, _, _], _ => rfl
  have F_f_wp := fun_mk (st := sWrongPart) l_f_wp c_f_wp k_f_wp
  have b_f_wp := F_f_wp.binds (ps := ["kind", "weight", "whose"]) fun _ _ _ _ _ _ us hl => match us, hl with | [_, _, _], _ => rfl
  have F_f_seed := fun_mk (st := sSeed) l_f_seed c_f_seed k_f_seed
  have b_f_seed := F_f_seed.binds (ps := ["_law_script", "_law_k"]) fun _ _ _ _ _ _ us hl => match us, hl with | [_, _], _ => rfl
  have F_f_choose := fun_mk (st := sChoose) l_f_choose c_f_choose k_f_choose
  have b_f_choose := F_f_choose.binds (ps := ["_law_box", "_law_many"]) fun _ _ _ _ _ _ us hl => match us, hl with | [_, _], _ => rfl
  have F_f_one := fun_mk (st := sOneOf) l_f_one c_f_one k_f_one
  have b_f_one := F_f_one.binds (ps := ["_law_box", "_law_some"]) fun _ _ _ _ _ _ us hl => match us, hl with | [_, _], _ => rfl
  have F_f_rows := fun_mk (st := sRows) l_f_rows c_f_rows k_f_rows
  have b_f_rows := F_f_rows.binds (ps := ["_law_box", "_law_many"]) fun _ _ _ _ _ _ us hl => match us, hl with | [_, _], _ => rfl
  have F_f_rt := fun_mk (st := sRepText) l_f_rt c_f_rt k_f_rt
  have b_f_rt := F_f_rt.binds (ps := ["_law_report"]) fun _ _ _ _ _ _ us hl => match us, hl with | [_], _ => rfl
  have F_f_lo := fun_mk (st := sLetOf) l_f_lo c_f_lo k_f_lo
  have b_f_lo := F_f_lo.binds (ps := ["_law_row"]) fun _ _ _ _ _ _ us hl => match us, hl with | [_], _ => rfl
  have F_f_cr := fun_mk (st := sCntRow) l_f_cr c_f_cr k_f_cr
  have b_f_cr := F_f_cr.binds (ps := ["_law_box"]) fun _ _ _ _ _ _ us hl => match us, hl with | [_], _ => rfl
  have F_f_lr := fun_mk (st := sLetsRight) l_f_lr c_f_lr k_f_lr
  have b_f_lr := F_f_lr.binds (ps := ["_law_rows_here"]) fun _ _ _ _ _ _ us hl => match us, hl with | [_], _ => rfl
  have F_f_kr := fun_mk (st := sCntsRight) l_f_kr c_f_kr k_f_kr
  have b_f_kr := F_f_kr.binds (ps := ["_law_rows_here"]) fun _ _ _ _ _ _ us hl => match us, hl with | [_], _ => rfl
  have F_f_law := fun_mk (st := sLaw) l_f_law c_f_law k_f_law
  have b_f_law := F_f_law.binds (ps := ["_law_script"]) fun _ _ _ _ _ _ us hl => match us, hl with | [_], _ => rfl
  have cl_LC : Cls K LC := ⟨pg_LC, hd_LC, po_LC, sa_LC⟩
  have cl_CC : Cls K CC := ⟨pg_CC, hd_CC, po_CC, sa_CC⟩
  have F_f_li := fun_mk (st := sLInit) l_f_li c_f_li k_f_li
  have b_f_li := F_f_li.binds (ps := ["self", "kind", "state", "deed", "place"]) fun _ _ _ _ _ _ us hl => match us, hl with | [_, _, _, _, _], _ => rfl
  have F_f_le := fun_mk (st := sLEq) l_f_le c_f_le k_f_le
  have b_f_le := F_f_le.binds (ps := ["self", "other"]) fun _ _ _ _ _ _ us hl => match us, hl with | [_, _], _ => rfl
  have F_f_ls := fun_mk (st := sLStr) l_f_ls c_f_ls k_f_ls
  have b_f_ls := F_f_ls.binds (ps := ["self"]) fun _ _ _ _ _ _ us hl => match us, hl with | [_], _ => rfl
  have F_f_ci := fun_mk (st := sCInit) l_f_ci c_f_ci k_f_ci
  have b_f_ci := F_f_ci.binds (ps := ["self", "kind", "weight", "whose"]) fun _ _ _ _ _ _ us hl => match us, hl with | [_, _, _, _], _ => rfl
  have F_f_ce := fun_mk (st := sCEq) l_f_ce c_f_ce k_f_ce
  have b_f_ce := F_f_ce.binds (ps := ["self", "other"]) fun _ _ _ _ _ _ us hl => match us, hl with | [_, _], _ => rfl
  have F_f_cs := fun_mk (st := sCStr) l_f_cs c_f_cs k_f_cs
  have b_f_cs := F_f_cs.binds (ps := ["self"]) fun _ _ _ _ _ _ us hl => match us, hl with | [_], _ => rfl
  have TA : Blt mg := ⟨PySem.W.mg_none_of X G z_len, PySem.W.mg_none_of X G z_abs, PySem.W.mg_none_of X G z_int⟩
  have TR : BltR mg := ⟨PySem.W.mg_none_of X G z_isinstance, PySem.W.mg_none_of X G z_int, PySem.W.mg_none_of X G z_bool, PySem.W.mg_none_of X G z_str⟩
  have TG : BltG mg := ⟨PySem.W.mg_none_of X G z_range, PySem.W.mg_none_of X G z_str⟩
  have TL : BltL mg := ⟨PySem.W.mg_none_of X G z_zip, PySem.W.mg_none_of X G z_str, PySem.W.mg_none_of X G z_repr⟩
  have TW : BltW mg := ⟨PySem.W.mg_none_of X G z_len, PySem.W.mg_none_of X G z_range, PySem.W.mg_none_of X G z_max, PySem.W.mg_none_of X G z_min, PySem.W.mg_none_of X G z_str⟩
  have RT : RowT K mg KA SA DA PA WA OA := ⟨PySem.W.mg_of X G g_KA, PySem.W.mg_of X G g_SA, PySem.W.mg_of X G g_DA, PySem.W.mg_of X G g_PA, PySem.W.mg_of X G g_WA, PySem.W.mg_of X G g_OA, fun _ => .inr ⟨_, _, _, q_KA, rfl, rfl, by show 4 ≤ sizeLine; decide, (.cons ⟨_, rfl⟩ (.cons ⟨_, rfl⟩ (.cons ⟨_, rfl⟩ (.cons ⟨_, rfl⟩ .nil))))⟩, fun _ => .inr ⟨_, _, _, q_SA, rfl, rfl, by show 2 ≤ sizeLine; decide, (.cons ⟨_, rfl⟩ (.cons ⟨_, rfl⟩ .nil))⟩, fun _ => .inr ⟨_, _, _, q_DA, rfl, rfl, by show 3 ≤ sizeLine; decide, (.cons ⟨_, rfl⟩ (.cons ⟨_, rfl⟩ (.cons ⟨_, rfl⟩ .nil)))⟩, fun _ => .inr ⟨_, _, _, q_PA, rfl, rfl, by show 2 ≤ sizeLine; decide, (.cons ⟨_, rfl⟩ (.cons ⟨_, rfl⟩ .nil))⟩, fun _ => .inr ⟨_, _, _, q_WA, rfl, rfl, by show 3 ≤ sizeLine; decide, (.cons ⟨_, rfl⟩ (.cons ⟨_, rfl⟩ (.cons ⟨_, rfl⟩ .nil)))⟩, fun _ => .inr ⟨_, _, _, q_OA, rfl, rfl, by show 4 ≤ sizeLine; decide, (.cons ⟨_, rfl⟩ (.cons ⟨_, rfl⟩ (.cons ⟨_, rfl⟩ (.cons ⟨_, rfl⟩ .nil))))⟩⟩
  have CLS : RwCls K ⟨LC, CC⟩ := ⟨fun k hk => match k, hk with
    | 0, _ => ⟨cl_LC, ca_LC, mo_LC⟩
    | 1, _ => ⟨cl_CC, ca_CC, mo_CC⟩, fun k hk j hj => match k, hk with
    | 0, _ => match j, hj with | 0, _ => kit_ref ic_LC tc_LC ss_LC ss_LC | 1, _ => kit_ref ic_CC tc_CC su_LC_CC ss_LC
    | 1, _ => match j, hj with | 0, _ => kit_ref ic_LC tc_LC su_CC_LC ss_CC | 1, _ => kit_ref ic_CC tc_CC ss_CC ss_CC, gn, tk, fun k hk j hj => match k, hk with
    | 0, _ => match j, hj with | 0, _ => nf_same | 1, _ => nf_other su_CC_LC
    | 1, _ => match j, hj with | 0, _ => nf_other su_LC_CC | 1, _ => nf_same⟩
  have BH : ∀ k, k < 2 → Behind K (Rc.at ⟨LC, CC⟩ k) := fun k hk => match k, hk with
    | 0, _ => ⟨bh_LC_str, bh_LC_NoneType, bh_LC_tuple⟩
    | 1, _ => ⟨bh_CC_str, bh_CC_NoneType, bh_CC_tuple⟩
  have NL : RwNot K LC := ⟨kit_base ic_LC tc_LC mt_LC_str, kit_base ic_LC tc_LC mt_LC_NoneType, kit_base ic_LC tc_LC mt_LC_tuple⟩
  have NC : RwNot K CC := ⟨kit_base ic_CC tc_CC mt_CC_str, kit_base ic_CC tc_CC mt_CC_NoneType, kit_base ic_CC tc_CC mt_CC_tuple⟩
  have FL : LetC K ⟨LC, CC⟩ := ⟨cl_LC, no_LC_kind, no_LC_state, no_LC_deed, no_LC_place⟩
  have FC : CntC K ⟨LC, CC⟩ := ⟨cl_CC, no_CC_kind, no_CC_weight, no_CC_whose⟩
  refine ⟨PySem.W.fnOf "law" "law" (defArgs sLaw) (defBody sLaw) (defScope sLaw) .none kV_f_law dc_f_law pm_f_law an_f_law cd_f_law ct_f_law, fun s v => .of_eq rfl, fun base _ _ => ?_⟩
  have cI : Cal l.prog w K mg base CX0 "is_integer" 1 ["value"] spIntI := ⟨f_int, _, ok_intI F_f_int TR, PySem.W.mg_of X G g_f_int, k_f_int, b_f_int⟩
  have cW : Cal l.prog w K mg base CX0 "wrong_word" 1 ["kind", "state", "deed", "place"] spWord := ⟨f_ww, _, ok_word F_f_ww RT, PySem.W.mg_of X G g_f_ww, k_f_ww, b_f_ww⟩
  have cP : Cal l.prog w K mg base CX0 "wrong_part" 2 ["kind", "weight", "whose"] spPart := ⟨f_wp, _, ok_part F_f_wp RT cI, PySem.W.mg_of X G g_f_wp, k_f_wp, b_f_wp⟩
  have cC : Cal l.prog w K mg base CX0 "_law_choose" 1 ["_law_box", "_law_many"] spChoose := ⟨f_choose, _, ok_choose F_f_choose TA, PySem.W.mg_of X G g_f_choose, k_f_choose, b_f_choose⟩
  have cS : Cal l.prog w K mg base CX0 "_law_seed" 1 ["_law_script", "_law_k"] (spSeed K) := ⟨f_seed, _, ok_seed F_f_seed TA, PySem.W.mg_of X G g_f_seed, k_f_seed, b_f_seed⟩
  have cO : CalOne l.prog w K mg base := ⟨f_one, _, ok_oneOf F_f_one TA cC, PySem.W.mg_of X G g_f_one, k_f_one, b_f_one⟩
  have ML : MkR l.prog w K mg base "Let" ["self", "kind", "state", "deed", "place"] LC 3 (spLInit ⟨LC, CC⟩) := ⟨PySem.W.mg_of X G g_LC, f_li, _, (ok_lInit F_f_li FL cW).mono (by decide), ⟨mk_LC, a_f_li, i_f_li, kc_LC⟩, b_f_li⟩
  have MC : MkR l.prog w K mg base "Count" ["self", "kind", "weight", "whose"] CC 3 (spCInit ⟨LC, CC⟩) := ⟨PySem.W.mg_of X G g_CC, f_ci, _, ok_cInit F_f_ci FC cP, ⟨mk_CC, a_f_ci, i_f_ci, kc_CC⟩, b_f_ci⟩
  have ST : StrR l.prog w K mg base ⟨LC, CC⟩ := ⟨fun k hk => match k, hk with
    | 0, _ => ⟨f_ls, _, ok_lStr F_f_ls FL, a_f_ls, i_f_ls, b_f_ls⟩
    | 1, _ => ⟨f_cs, _, ok_cStr F_f_cs FC, a_f_cs, i_f_cs, b_f_cs⟩⟩
  have EQ : EqR l.prog w K mg base ⟨LC, CC⟩ := ⟨fun k hk => match k, hk with
    | 0, _ => ⟨f_le, _, ok_lEq F_f_le TR ST CLS (PySem.W.mg_of X G g_LC), ⟨a_f_le, i_f_le, ne_LC, ob_LC⟩, b_f_le⟩
    | 1, _ => ⟨f_ce, _, ok_cEq F_f_ce TR ST CLS (PySem.W.mg_of X G g_CC), ⟨a_f_ce, i_f_ce, ne_CC, ob_CC⟩, b_f_ce⟩⟩
  have NE : NeR l.prog w K mg base ⟨LC, CC⟩ := ⟨fun k hk => match k, hk with
    | 0, _ => ⟨f_le, _, ok_ln (c := ⟨LC, CC⟩) F_f_le TR ST NL (PySem.W.mg_of X G g_LC), ⟨a_f_le, i_f_le, ne_LC, ob_LC⟩, b_f_le⟩
    | 1, _ => ⟨f_ce, _, ok_cn (c := ⟨LC, CC⟩) F_f_ce TR ST NC (PySem.W.mg_of X G g_CC), ⟨a_f_ce, i_f_ce, ne_CC, ob_CC⟩, b_f_ce⟩⟩
  have RE : RwEnv l.prog w K mg base ⟨LC, CC⟩ := ⟨CLS, EQ, ST, NE, BH, FL, FC⟩
  have cR : Cal l.prog w K mg base CX0 "_law_rows" 3 ["_law_box", "_law_many"] spRows := ⟨f_rows, _, ok_rows F_f_rows TG cO, PySem.W.mg_of X G g_f_rows, k_f_rows, b_f_rows⟩
  have cD : Cal l.prog w K mg base CX0 "_law_count_row" 3 ["_law_box"] spCntRow := ⟨f_cr, _, ok_cntRow F_f_cr cO, PySem.W.mg_of X G g_f_cr, k_f_cr, b_f_cr⟩
  have cL : Cal l.prog w K mg base CX0 "_law_let_of" 5 ["_law_row"] (spLetOf ⟨LC, CC⟩) := ⟨f_lo, _, ok_letOf F_f_lo ML, PySem.W.mg_of X G g_f_lo, k_f_lo, b_f_lo⟩
  have cX : Cal l.prog w K mg base CX0 "_law_report_text" 1 ["_law_report"] spRepText1 := ⟨f_rt, _, ok_repText1 F_f_rt TG, PySem.W.mg_of X G g_f_rt, k_f_rt, b_f_rt⟩
  have cLR : Cal l.prog w K mg base CX0 "_law_lets_right" 6 ["_law_rows_here"] spLetsR := ⟨f_lr, _, ok_letsR F_f_lr TL RE cL, PySem.W.mg_of X G g_f_lr, k_f_lr, b_f_lr⟩
  exact ok_law F_f_law TW RE cS cR cD cL ML MC cLR ⟨f_kr, _, ok_cntsR F_f_kr TL RE MC cX, PySem.W.mg_of X G g_f_kr, k_f_kr, b_f_kr⟩
theorem walk {l : PySem.W.OpenLaw} {q : Program} {loose : List Str} {XP : (Str → Option Value) → Heap → Prop} {YP : World → Heap → Prop} {d : DefRec} {K : Params → PySem.W.Frag} (hn : l.most = some 63) (hdf : d.params.defaults = [])
    (hY : ∀ (w : World) (h : Heap), YP w h → (K w.params).In h)
    (F : ∀ (w : World) (mg : Str → Option Value) (fa : Addr) (h : Heap), (K w.params).In h → h.Ns mainGlobals mg → mg d.name = some (.ref fa) →
      ∃ fd : FuncData, (∀ (s : Shared) (u : Value), BindsTo s fd ⟨[u], []⟩ [("_law_script", u)]) ∧ ∀ base : Heap, (K w.params).In base → base.Ns mainGlobals mg → FnG l.prog w (K w.params) mg base CX0 7 fa fd ["_law_script"] (spLaw (K w.params))) :
    PySem.W.WalkO q loose XP YP l.row.toRowW d [] (fun f vs => PySem.call f vs) :=
  walk_ofG (n := 63) (k := 7) (x := "_law_script") (sp := fun w => spLaw (K w.params)) hn (by decide) hdf ⟨rfl, by decide, by decide⟩ hY F (fun _ _ a ns hl _ hS => ⟨a, ns, rfl, hS, hl, fun _ => rfl⟩)
end V3

open PySem PySem.W PyProof.Rows in
set_option maxRecDepth 100000 in
set_option maxHeartbeats 0 in
theorem PySem.Challenge.cw_contrabooks_k10_rows_of_houses_and_repor_holds : PySem.Challenge.rw_contrabooks_k10_rows_of_houses_and_repor.Holds := by
  w_on; o_law; k_head; (case hw => w_witness2)
  k_fill
  refine V3.walk (l := PySem.Challenge.rw_contrabooks_k10_rows_of_houses_and_repor) rfl rfl (fun w h Y => PySem.W.kIn_of Y) ?F
  case F =>
    intro w mg fa h KX G hmg
    refine' V3.all_mk KX G hmg ?g_f_int ?l_f_int ?c_f_int ?k_f_int ?g_f_ww ?l_f_ww ?c_f_ww ?k_f_ww ?g_f_wp ?l_f_wp ?c_f_wp ?k_f_wp ?g_f_seed ?l_f_seed ?c_f_seed ?k_f_seed ?g_f_choose ?l_f_choose ?c_f_choose ?k_f_choose ?g_f_one ?l_f_one ?c_f_one ?k_f_one ?g_f_rows ?l_f_rows ?c_f_rows ?k_f_rows ?g_f_rt ?l_f_rt ?c_f_rt ?k_f_rt ?g_f_lo ?l_f_lo ?c_f_lo ?k_f_lo ?g_f_cr ?l_f_cr ?c_f_cr ?k_f_cr ?g_f_lr ?l_f_lr ?c_f_lr ?k_f_lr ?g_f_kr ?l_f_kr ?c_f_kr ?k_f_kr ?g_f_law ?l_f_law ?c_f_law ?k_f_law ?g_LC ?g_CC ?gn ?tk ?pg_LC ?hd_LC ?po_LC ?sa_LC ?mk_LC ?kc_LC ?ca_LC ?mo_LC ?ss_LC ?ne_LC ?ob_LC ?ic_LC ?tc_LC ?su_CC_LC ?bh_LC_str ?mt_LC_str ?bh_LC_NoneType ?mt_LC_NoneType ?bh_LC_tuple ?mt_LC_tuple ?pg_CC ?hd_CC ?po_CC ?sa_CC ?mk_CC ?kc_CC ?ca_CC ?mo_CC ?ss_CC ?ne_CC ?ob_CC ?ic_CC ?tc_CC ?su_LC_CC ?bh_CC_str ?mt_CC_str ?bh_CC_NoneType ?mt_CC_NoneType ?bh_CC_tuple ?mt_CC_tuple ?no_LC_kind ?no_LC_state ?no_LC_deed ?no_LC_place ?no_CC_kind ?no_CC_weight ?no_CC_whose ?a_f_li ?i_f_li ?l_f_li ?c_f_li ?k_f_li ?a_f_le ?i_f_le ?l_f_le ?c_f_le ?k_f_le ?a_f_ls ?i_f_ls ?l_f_ls ?c_f_ls ?k_f_ls ?a_f_ci ?i_f_ci ?l_f_ci ?c_f_ci ?k_f_ci ?a_f_ce ?i_f_ce ?l_f_ce ?c_f_ce ?k_f_ce ?a_f_cs ?i_f_cs ?l_f_cs ?c_f_cs ?k_f_cs ?g_KA ?q_KA ?g_SA ?q_SA ?g_DA ?q_DA ?g_PA ?q_PA ?g_WA ?q_WA ?g_OA ?q_OA ?z_len ?z_abs ?z_int ?z_isinstance ?z_bool ?z_range ?z_max ?z_min ?z_str ?z_zip ?z_repr
    (case g_f_int => k_is)
    (case l_f_int => k_is)
    (case c_f_int => k_is)
    (case k_f_int => k_is)
    (case g_f_ww => k_is)
    (case l_f_ww => k_is)
    (case c_f_ww => k_is)
    (case k_f_ww => k_is)
    (case g_f_wp => k_is)
    (case l_f_wp => k_is)
    (case c_f_wp => k_is)
    (case k_f_wp => k_is)
    (case g_f_seed => k_is)
    (case l_f_seed => k_is)
    (case c_f_seed => k_is)
    (case k_f_seed => k_is)
    (case g_f_choose => k_is)
    (case l_f_choose => k_is)
    (case c_f_choose => k_is)
    (case k_f_choose => k_is)
    (case g_f_one => k_is)
    (case l_f_one => k_is)
    (case c_f_one => k_is)
    (case k_f_one => k_is)
    (case g_f_rows => k_is)
    (case l_f_rows => k_is)
    (case c_f_rows => k_is)
    (case k_f_rows => k_is)
    (case g_f_rt => k_is)
    (case l_f_rt => k_is)
    (case c_f_rt => k_is)
    (case k_f_rt => k_is)
    (case g_f_lo => k_is)
    (case l_f_lo => k_is)
    (case c_f_lo => k_is)
    (case k_f_lo => k_is)
    (case g_f_cr => k_is)
    (case l_f_cr => k_is)
    (case c_f_cr => k_is)
    (case k_f_cr => k_is)
    (case g_f_lr => k_is)
    (case l_f_lr => k_is)
    (case c_f_lr => k_is)
    (case k_f_lr => k_is)
    (case g_f_kr => k_is)
    (case l_f_kr => k_is)
    (case c_f_kr => k_is)
    (case k_f_kr => k_is)
    (case g_f_law => k_is)
    (case l_f_law => k_is)
    (case c_f_law => k_is)
    (case k_f_law => k_is)
    (case g_LC => k_is)
    (case g_CC => k_is)
    (case gn => k_is)
    (case tk => k_is)
    (case pg_LC => k_is)
    (case hd_LC => k_is)
    (case po_LC => k_is)
    (case sa_LC => k_is)
    (case mk_LC => k_is)
    (case kc_LC => k_is)
    (case ca_LC => k_is)
    (case mo_LC => k_is)
    (case ss_LC => first | rfl | k_is)
    (case ne_LC => k_is)
    (case ob_LC => k_is)
    (case ic_LC => k_is)
    (case tc_LC => k_is)
    (case su_CC_LC => k_is)
    (case bh_LC_str => k_is)
    (case mt_LC_str => k_is)
    (case bh_LC_NoneType => k_is)
    (case mt_LC_NoneType => k_is)
    (case bh_LC_tuple => k_is)
    (case mt_LC_tuple => k_is)
    (case pg_CC => k_is)
    (case hd_CC => k_is)
    (case po_CC => k_is)
    (case sa_CC => k_is)
    (case mk_CC => k_is)
    (case kc_CC => k_is)
    (case ca_CC => k_is)
    (case mo_CC => k_is)
    (case ss_CC => first | rfl | k_is)
    (case ne_CC => k_is)
    (case ob_CC => k_is)
    (case ic_CC => k_is)
    (case tc_CC => k_is)
    (case su_LC_CC => k_is)
    (case bh_CC_str => k_is)
    (case mt_CC_str => k_is)
    (case bh_CC_NoneType => k_is)
    (case mt_CC_NoneType => k_is)
    (case bh_CC_tuple => k_is)
    (case mt_CC_tuple => k_is)
    (case no_LC_kind => k_is)
    (case no_LC_state => k_is)
    (case no_LC_deed => k_is)
    (case no_LC_place => k_is)
    (case no_CC_kind => k_is)
    (case no_CC_weight => k_is)
    (case no_CC_whose => k_is)
    (case a_f_li => k_is)
    (case i_f_li => k_is)
    (case l_f_li => k_is)
    (case c_f_li => k_is)
    (case k_f_li => k_is)
    (case a_f_le => k_is)
    (case i_f_le => k_is)
    (case l_f_le => k_is)
    (case c_f_le => k_is)
    (case k_f_le => k_is)
    (case a_f_ls => k_is)
    (case i_f_ls => k_is)
    (case l_f_ls => k_is)
    (case c_f_ls => k_is)
    (case k_f_ls => k_is)
    (case a_f_ci => k_is)
    (case i_f_ci => k_is)
    (case l_f_ci => k_is)
    (case c_f_ci => k_is)
    (case k_f_ci => k_is)
    (case a_f_ce => k_is)
    (case i_f_ce => k_is)
    (case l_f_ce => k_is)
    (case c_f_ce => k_is)
    (case k_f_ce => k_is)
    (case a_f_cs => k_is)
    (case i_f_cs => k_is)
    (case l_f_cs => k_is)
    (case c_f_cs => k_is)
    (case k_f_cs => k_is)
    (case g_KA => k_is)
    (case q_KA => k_is)
    (case g_SA => k_is)
    (case q_SA => k_is)
    (case g_DA => k_is)
    (case q_DA => k_is)
    (case g_PA => k_is)
    (case q_PA => k_is)
    (case g_WA => k_is)
    (case q_WA => k_is)
    (case g_OA => k_is)
    (case q_OA => k_is)
    (case z_len => k_is)
    (case z_abs => k_is)
    (case z_int => k_is)
    (case z_isinstance => k_is)
    (case z_bool => k_is)
    (case z_range => k_is)
    (case z_max => k_is)
    (case z_min => k_is)
    (case z_str => k_is)
    (case z_zip => k_is)
    (case z_repr => k_is)
#print axioms PySem.Challenge.cw_contrabooks_k10_rows_of_houses_and_repor_holds
