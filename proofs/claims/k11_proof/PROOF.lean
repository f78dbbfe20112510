import PyProof.Rows.All
import Wide.All
import OpenK.AllK
import Wide.FinOn
import HandS.ForExc
import HandS.Comp
import HandS.Dict
import HandS.Iter
import HandS.Text
import HandS.Wide
import HandS.FStr
import HandS.IsInst
import HandS.ExcInit
import HandS.ExcField
import HandS.OwnEq
import KE.KCallOwn
import KE.KExcIs
import PyProof.NeKinds
import HandS.RaiseMore
import HandS.Star
import HandS.ClsMeth
import HandS.StrMore
import PyProof.InstEq
import PyProof.Rows.NestShow
import HandS.Ends
import HandS.ExcIs
import HandS.Zip
import HandS.Walk
import HandS.Defaults
import HandS.TupAny
import OpenK.KMeth
import HandS.Base
import HandS.Call
import HandS.List
import KE.GoesNew
import KE.GoesEnum
import HandS.Style
import HandS.ForMost
import HandS.Lambda
import KE.KStateDown
import HandS.Exc
import HandS.Words
import HandS.Head0
import HandS.Head1
import HandS.Head2
import HandS.HeadHook1
import HandS.EndTab
import PySem.Challenge.RW_contrabooks_k11_rows_refused
set_option Elab.async false
set_option linter.all false
set_option maxRecDepth 100000
/-! Rules of our own over the hand layer: an object made whose making may raise, within a try; str(o) by its own def; isinstance of a caught error with fields. -/
namespace V3
open PySem L2 PyProof.Rows
section
variable {X : Cx} {CX : CXT} {k : Nat} {f C : Addr} {fd : FuncData} {ps : List Str} {sp : Sp} {E : L2.St → XK} {x : Str} {p pos : Pos} {e : Expr} {es : List Expr} {t : TA} {dvs : List V} {ds : List Value}
theorem make_at {pins : List (Addr × Obj)} {σ : L2.St} {H : Hp} {s : Shared} {Q : VK}
    {us : List Value} {vs : List V} (M : Mk X.K C f)
    (F : FnOk X.prog X.w X.K X.mg X.base CX k f fd ps sp)
    (room : Room (k + 1) X.A) (bi : Binds X.K fd ps ds) (va : Vals dvs ds)
    (out : PassesAt CX X σ (E σ)) (I : Inv X pins σ H s) (r : Vals vs us)
    (h : ∀ y dy, H y = none → H dy = none → dy ≠ y →
      sp (.ref y :: (vs ++ dvs)) (upd (upd H dy (.own y)) y (.ins C dy []))
        (fun v H2 => v = .non ∧ Q (.ref y) H2) (E σ)) :
    wpAny (model X.prog X.w) X.A (call (.ref C) us) (EP X pins σ Q) X.xe s := by
  have want := h (s.heap.objs.size + 1) s.heap.objs.size
    (I.hok.fresh (Nat.le_succ _)) (I.hok.fresh (Nat.le_refl _))
    (Nat.ne_of_lt (Nat.lt_succ_self _))
  have J := Inv.made (C := C) I
  have rr : Vals (V.ref (s.heap.objs.size + 1) :: (vs ++ dvs))
      (Value.ref (s.heap.objs.size + 1) :: (us ++ ds)) := .cons rfl (r.append va)
  have len : (Value.ref (s.heap.objs.size + 1) :: us ++ ds).length = ps.length := by
    have q := rr.length
    rw [F.len _ _ _ _ want] at q
    exact q.symm
  have bound := bi _ (Value.ref (s.heap.objs.size + 1) :: us) J.kIn len
  have ran := F.run _ X.stack _ _ ⟨Value.ref (s.heap.objs.size + 1) :: us, []⟩
    (Value.ref (s.heap.objs.size + 1) :: (us ++ ds)) _ _ (E σ)
    (room.make C us []) (J.env0.make C us []) bound rr want
  refine wpAny_call (make_map (f := f) I.kIn M.makes M.init
    (beq_iff_eq.mp M.fn) (codeAny_mono ran fun res s' hq => ?_))
  match res, hq with
  | .error err, hq => exact out pins _ _ err s' J hq
  | .ok (.ret u), hq =>
    obtain ⟨v, H', I3, rv, ev, q3⟩ := J.after hq
    subst ev
    exact ⟨rv, ⟨V.ref (s.heap.objs.size + 1), H', I3, rfl, q3⟩⟩
  | .ok .next, hq => exact hq.elim
  | .ok .brk, hq => exact hq.elim
  | .ok .cont, hq => exact hq.elim
/-- C(e, ..) where what its making raises is wished for at the slots -/
def tMakeS (C : Addr) (sp : Sp) (dvs : List V) (E : L2.St → XK) (t : TA) : TE :=
  fun σ H Q => t σ H fun vs H1 => ∀ y dy, H1 y = none → H1 dy = none → dy ≠ y →
    sp (.ref y :: (vs ++ dvs)) (upd (upd H1 dy (.own y)) y (.ins C dy []))
      (fun v H2 => v = .non ∧ Q (.ref y) H2) (E σ)
theorem pe_makeS (M : Mk X.K C f) (F : FnOk X.prog X.w X.K X.mg X.base CX k f fd ps sp)
    (room : Room (k + 1) X.A) (hg : Gl X x) (hm : X.mg x = some (.ref C))
    (bi : Binds X.K fd ps ds) (va : Vals dvs ds) (out : ∀ σ, PassesAt CX X σ (E σ))
    (ha : PA X (e :: es) t) (hdb : (x == ("__debug__" : Str)) = false := by decide)
    (he : starEach (e :: es) X.env = (false, eval e X.env) :: starEach es X.env := by rfl)
    (hpl : (backTo pos (starEach es X.env)).any (·.1) = false := by rfl) :
    PE X (.Call (.Name x p) (e :: es) [] pos) (tMakeS C sp dvs E t) := by
  refine ⟨fun pins s σ H Q I h => wpAny_Call_Name_kw (ld_glob I hg hm ?_ hdb)⟩
  refine PySem.W.callWith_K (h₀ := X.base) I.ok.mod.kin M.kp ?_ he hpl
  exact thn (ha.run pos pins s σ H _ I h) fun us s1 ⟨vs, H1, I1, r, q⟩ =>
    ⟨I1.kIn, make_at M F room bi va (out σ) I1 r q⟩
end
/-! str(o), o of an own class with its own __str__ -/
section
variable {X : Cx} {CX : CXT} {n : Nat} {f C : Addr} {fd : FuncData} {ps : List Str} {sp : Sp} {E : XK}
theorem room2 {A : Around} (r : Room (n + 2) A) : Room n A.in1.in1 := Room.in1 (k := n) (Room.in1 (k := n + 1) r)
def rStrO (C : Addr) (sp : Sp) (E : XK) : List V → Hp → VK → Prop := fun xs H Q =>
  ∃ a dx fs, xs = [.ref a] ∧ H a = some (.ins C dx fs) ∧
    sp [.ref a] H (fun v H' => ∃ y : Str, v = .str y ∧ Q (.str y) H') E
theorem call_strO (F : FnOk X.prog X.w X.K X.mg X.base CX n f fd ps sp)
    (at_ : PySem.W.findIn X.K (.ref C) "__str__" = some (some (.ref f)))
    (isf : PySem.W.isFn X.K (.ref f) = true) (bi : Binds X.K fd ps [])
    (out : Passes CX X E) (room : Room (n + 2) X.A) : CallR X (.type "str") (rStrO C sp E) := by
  intro pins s σ H xs us Q I r h
  obtain ⟨a, dx, fs, rfl, ha, want⟩ := h
  cases r with
  | cons r1 rn =>
    cases rn
    cases r1
    obtain ⟨mA, O, _⟩ := ins_get I.hok ha
    obtain ⟨od, J, _⟩ := O.look
    have rr := room2 room
    refine PySem.W.kso_call rr.units0 I.kIn J at_ isf ?_
    have e0 : Env0 X.prog X.w X.K X.mg X.base X.A.in1.in1 X.stack s H := I.env0.in1.in1
    have len := F.len _ _ _ _ want
    have bound : BindsTo s fd ⟨[.ref a], []⟩ (ps.zip [Value.ref a]) := by
      have b := bi s [.ref a] I.kIn (by simpa using len)
      simpa using b
    have ran := F.run X.A.in1.in1 X.stack s H ⟨[.ref a], []⟩ [.ref a] [.ref a] _ E rr e0 bound (.cons rfl .nil) want
    refine wpAny_call (codeAny_mono ran fun res s' hq => ?_)
    match res, hq with
    | .error err, hq => exact out pins σ H s err s' I hq
    | .ok (.ret u), hq =>
      obtain ⟨v, H', I', rv, y, ev, q⟩ := I.after hq
      subst ev
      obtain ⟨t, rfl⟩ := rv
      exact ⟨.str y, H', I', ⟨t, rfl⟩, q⟩
    | .ok .next, hq => exact hq.elim
    | .ok .brk, hq => exact hq.elim
    | .ok .cont, hq => exact hq.elim
end
/-! isinstance(e, c), isinstance(e, (c, ..)), e the error that the suite holds -/
structure XClass (K : PySem.W.Frag) (D : Addr) : Prop where
  is : (PySem.W.clsIn K D).isSome = true
  ga : PySem.W.findIn K (.ref D) "__getattribute__" = some (some (.builtin "BaseException.__getattribute__"))
  gt : PySem.W.findIn K (.ref D) "__getattr__" = some none
  sb : PySem.W.subIn K (.ref D) (.type "BaseException") = some true
  ca : PySem.W.findIn K (.ref D) "__class__" = some (some (.builtin "object.__class__"))
  gn : PySem.W.specialIn K (.builtin "object.__class__") "__get__" = some (some (.builtin "getset_descriptor.__get__"))
  tk : PySem.W.takesIn K (.builtin "object.__class__") = some true
  mo : PySem.W.mroIn K D (.type "object") = some true
section
variable {X : Cx} {a D : Addr} {oe : Obj} {pn : List (Addr × Obj)} {d : Option Addr}
theorem held_at {pins : List (Addr × Obj)} {σ : L2.St} {H : Hp} {s : Shared} {dd : Addr} {fs : List (Str × V)}
    (hz : Zc (.ref D) (some dd) oe) (hf : ∃ vs, oe.data = .fields vs)
    (I : Inv (X.suite a ((a, oe) :: pn)) pins σ H s) (hd : H dd = some (.xd fs)) :
    ∃ od : Obj, PySem.W.InstAt s.heap a oe D (some od) := by
  obtain ⟨ha, _⟩ := I.pin (a, oe) (List.mem_append_left _ List.mem_cons_self)
  obtain ⟨vs, hv⟩ := hf
  have hx : ObjOk X.prog X.w H s.heap dd (.xd fs) := I.hok dd _ hd
  obtain ⟨mA, hns, _⟩ := hx
  obtain ⟨od, ho, _⟩ := lookIn_ns hns
  exact ⟨od, ha, hz.1, by unfold PySem.W.notCls; rw [hv] <;> rfl, by rw [hz.2]; exact ho⟩
def rIsX (K : PySem.W.Frag) (D a : Addr) (cls : Value) (d : Option Addr) : List V → Hp → VK → Prop := fun xs H Q =>
  ∃ (dd : Addr) (fs : List (Str × V)) (c : V) (u : Value) (b : Bool), cls = .ref D ∧ d = some dd ∧ H dd = some (.xd fs) ∧
    xs = [.ref a, c] ∧ ClsV c u ∧ PySem.W.kitOne K (.ref D) u = some b ∧ Q (.bl b) H
theorem call_isX {cls : Value} (T : XClass X.K D) (hz : Zc cls d oe) (hf : ∃ vs, oe.data = .fields vs) :
    CallR (X.suite a ((a, oe) :: pn)) (.builtin "isinstance") (rIsX X.K D a cls d) := by
  intro pins s σ H xs us Q I r h
  obtain ⟨dd, fs, c, u, b, rfl, rfl, hd, rfl, k, e, q⟩ := h
  obtain ⟨u1, u2, rfl, r1, r2⟩ := vals2 r
  cases (show u1 = Value.ref a from r1)
  have e2 := k.eq r2
  subst e2
  obtain ⟨od, J⟩ := held_at hz hf I hd
  exact PySem.W.kia_one (PySem.W.kitx_exc T.is T.ga T.gt T.sb T.ca T.gn T.tk T.mo) I.kIn J e (fun z => nomatch z)
    fun tk => ⟨.bl b, H, I.tok tk, rfl, q⟩
def rIsXT (K : PySem.W.Frag) (D a : Addr) (cls : Value) (d : Option Addr) : List V → Hp → VK → Prop := fun xs H Q =>
  ∃ (dd : Addr) (fs : List (Str × V)) (tp : Addr) (cs : List V) (us : List Value) (b : Bool), cls = .ref D ∧ d = some dd ∧ H dd = some (.xd fs) ∧
    xs = [.ref a, .ref tp] ∧ H tp = some (.tup cs) ∧ Paired ClsV cs us ∧ PySem.W.kitAny K (.ref D) us = some b ∧ Q (.bl b) H
theorem call_isXT {cls : Value} (T : XClass X.K D) (hz : Zc cls d oe) (hf : ∃ vs, oe.data = .fields vs) :
    CallR (X.suite a ((a, oe) :: pn)) (.builtin "isinstance") (rIsXT X.K D a cls d) := by
  intro pins s σ H xs us Q I r h
  obtain ⟨dd, fs, tp, cs, ws, b, rfl, rfl, hd, rfl, hT, k, e, q⟩ := h
  obtain ⟨u1, u2, rfl, r1, r2⟩ := vals2 r
  cases (show u1 = Value.ref a from r1)
  cases (show u2 = Value.ref tp from r2)
  obtain ⟨od, J⟩ := held_at hz hf I hd
  have okT : ObjOk X.prog X.w H s.heap tp (.tup cs) := I.hok tp _ hT
  obtain ⟨_, items, vals, ob, got, isT, m, dat⟩ := okT
  have same := ClsV.all k vals
  subst same
  obtain ⟨c0, d0, dt0, s0⟩ := ob
  simp only at isT dat
  subst isT dat
  exact PySem.W.kia_tup (PySem.W.kitx_exc T.is T.ga T.gt T.sb T.ca T.gn T.tk T.mo) I.kIn J got e (fun z => nomatch z)
    fun tk => ⟨.bl b, H, I.tok tk, rfl, q⟩
end
end V3

set_option Elab.async false
set_option linter.all false
set_option maxRecDepth 100000
/-! Further rules of our own: C() without an own __init__, len(o) by an own __len__, repr of small values, a list against the empty one. -/
namespace V3
open PySem L2 PyProof.Rows
section
variable {X : Cx} {C : Addr} {x : Str} {p pos : Pos}
/-- what a class without an own __init__ must have to be made -/
structure Mk0 (K : PySem.W.Frag) (C : Addr) : Prop where
  makes : PySem.W.makesIn K C = true
  ini : PySem.W.findIn K (.ref C) "__init__" = some (some (.builtin "object.__init__"))
  kp : PySem.W.keepIn K (.ref C) = true
def tNew (C : Addr) : TE := fun σ H Q => ∀ y dy, H y = none → H dy = none → dy ≠ y → Q (.ref y) (upd (upd H dy (.own y)) y (.ins C dy []))
theorem pe_new0 (M : Mk0 X.K C) (hg : Gl X x) (hm : X.mg x = some (.ref C)) (hdb : (x == ("__debug__" : Str)) = false := by decide) :
    PE X (.Call (.Name x p) [] [] pos) (tNew C) := by
  refine ⟨fun pins s σ H Q I h => wpAny_Call_Name_kw (ld_glob I hg hm ?_ hdb)⟩
  refine PySem.W.callWith_K0 I.kIn M.kp ?_
  have J := Inv.made (C := C) I
  have want := h (s.heap.objs.size + 1) s.heap.objs.size (I.hok.fresh (Nat.le_succ _)) (I.hok.fresh (Nat.le_refl _)) (Nat.ne_of_lt (Nat.lt_succ_self _))
  show wpAny _ _ (call (.ref C) []) _ _ _
  have KX := I.kIn
  refine wpAny_call (make_map0 KX M.makes M.ini (fun self => PySem.W.Looks.of_pure (PySem.W.oi_bind self)) ?_)
  have Y := PySem.W.makes_of (M := model X.prog X.w) KX M.makes
  obtain ⟨hh, g, d, t, os⟩ := s
  have own : ((hh.push PySem.W.emptyDict).push (PySem.W.instObj C hh.objs.size)).get? (hh.objs.size + 1) = some (PySem.W.instObj C hh.objs.size) := by heap_get
  have ty : PySem.W.Looks (model X.prog X.w) ((hh.push PySem.W.emptyDict).push (PySem.W.instObj C hh.objs.size)) (typeOf (.ref (hh.objs.size + 1))) (.ref C) :=
    (PySem.W.Looks.ld own).andThen .now
  have sub : PySem.W.Looks (model X.prog X.w) ((hh.push PySem.W.emptyDict).push (PySem.W.instObj C hh.objs.size)) (isInstance (.ref (hh.objs.size + 1)) (.type "object")) true := ty.andThen (Y.top.keeps fun b o e => Heap.get?_push_of_some _ (Heap.get?_push_of_some _ e))
  refine codeAny_call_builtin PySem.W.oi_plain PySem.W.entry_oi
    (@PySem.W.check_slot (model X.prog X.w) _ _ _ "object.__init__" "object" "__init__" (.ref (hh.objs.size + 1)) [] [] _
      PySem.W.oi_kind PySem.W.oi_split sub (PySem.W.oi_args (.ref (hh.objs.size + 1))) ?_)
  rw [PySem.W.oi_run]
  exact wpAny_pure (And.intro rfl ⟨V.ref (hh.objs.size + 1), _, J, rfl, want⟩)
end
section
variable {X : Cx} {CX : CXT} {n : Nat} {f C : Addr} {fd : FuncData} {ps : List Str} {sp : Sp} {E : XK}
/-- len(o), o of a class with its own __len__ -/
def rLenO (C : Addr) (sp : Sp) (E : XK) : List V → Hp → VK → Prop := fun xs H Q =>
  ∃ a dx fs, xs = [.ref a] ∧ H a = some (.ins C dx fs) ∧ sp [.ref a] H (fun v H' => ∃ i : Int, v = .int i ∧ (0 ≤ i ∧ i < 2 ^ 63) ∧ Q (.int i) H') E
theorem call_lenO (F : FnOk X.prog X.w X.K X.mg X.base CX n f fd ps sp) (at_ : PySem.W.findIn X.K (.ref C) "__len__" = some (some (.ref f)))
    (isf : PySem.W.isFn X.K (.ref f) = true) (bi : Binds X.K fd ps []) (out : Passes CX X E) (room : Room (n + 1) X.A) : CallR X (.builtin "len") (rLenO C sp E) := by
  intro pins s σ H xs us Q I r h
  obtain ⟨a, dx, fs, rfl, ha, want⟩ := h
  cases r with
  | cons r1 rn =>
    cases rn
    cases r1
    obtain ⟨mA, O, _⟩ := ins_get I.hok ha
    obtain ⟨od, J, _⟩ := O.look
    obtain ⟨m, hF⟩ := I.fr
    have rr : Room n X.A.in1 := Room.in1 (k := n) room
    refine PySem.W.len_K hF I.ok.mod.kin J at_ isf ?_
    have e0 : Env0 X.prog X.w X.K X.mg X.base X.A.in1 X.stack s H := I.env0.in1
    have len := F.len _ _ _ _ want
    have bound : BindsTo s fd ⟨[.ref a], []⟩ (ps.zip [Value.ref a]) := by
      have b := bi s [.ref a] I.kIn (by simpa using len)
      simpa using b
    have ran := F.run X.A.in1 X.stack s H ⟨[.ref a], []⟩ [.ref a] [.ref a] _ E rr e0 bound (.cons rfl .nil) want
    refine wpAny_call (codeAny_mono ran fun res s' hq => ?_)
    match res, hq with
    | .error err, hq => exact out pins σ H s err s' I hq
    | .ok (.ret u), hq =>
      obtain ⟨v, H', I', rv, i, ev, hi, q⟩ := I.after hq
      subst ev
      obtain ⟨t, rfl⟩ := rv
      exact ⟨hi, .int i, H', I'.tok _, ⟨_, rfl⟩, q⟩
    | .ok .next, hq => exact hq.elim
    | .ok .brk, hq => exact hq.elim
    | .ok .cont, hq => exact hq.elim
end
section
variable {X : Cx}
theorem call_repr_str : CallR X (.builtin "repr") (fun xs H Q => ∃ z : Str, xs = [.str z] ∧ (reprText z).length ≤ sizeLine ∧ Q (.str (reprText z)) H) := by
  intro pins s σ H xs us Q I r h
  obtain ⟨z, rfl, hz, q⟩ := h
  obtain ⟨u, rfl, t, rfl⟩ := vals1 r
  exact PySem.P.repr_of_str ⟨.str _, H, I.tok _, ⟨_, rfl⟩, q⟩ hz
/-- an int or a text -/
def rRepr : List V → Hp → VK → Prop := fun xs H Q => (∃ i : Int, xs = [.int i] ∧ i.natAbs.log2 < 1920 ∧ Q (.str (toString i)) H) ∨
  (∃ z : Str, xs = [.str z] ∧ (reprText z).length ≤ sizeLine ∧ Q (.str (reprText z)) H)
theorem call_reprIS : CallR X (.builtin "repr") rRepr := by
  intro pins s σ H xs us Q I r h
  rcases h with h | h
  · exact SkE.call_repr_int pins s σ H xs us Q I r h
  · exact call_repr_str pins s σ H xs us Q I r h
/-- xs != [] -/
def rNeE : R2 := fun x y H Q => ∃ l b xs, x = .ref l ∧ y = .ref b ∧ H l = some (.lst xs) ∧ H b = some (.lst []) ∧ Q (.bl (!xs.isEmpty)) H
theorem op_neE (hu : X.A.units < cLine) : OpR X (compareOp .NotEq) rNeE := by
  intro pins s σ H x y v u Q I rx ry h
  obtain ⟨l, b, xs, rfl, rfl, hl, hb, q⟩ := h
  cases rx
  cases ry
  obtain ⟨z, its, k, r, e⟩ := I.hok l _ hl
  obtain ⟨z2, its2, k2, r2, e2⟩ := I.hok b _ hb
  cases r2
  have L1 : s.heap.IsList l its.toArray := ⟨_, e, rfl, k, rfl⟩
  have L2' : s.heap.IsList b ([] : List Value).toArray := ⟨_, e2, rfl, k2, rfl⟩
  refine PySem.W.cmp_ofNotEq ?_
  cases r with
  | nil =>
    have c := PySem.SeqAt.RcNeAt.lists (e := fun _ => true) L1 L2' rfl hu (fun j h1 _ => absurd h1 (Nat.not_lt_zero _))
    exact c X.prog X.w X.xe _ ⟨.bl false, H, I, rfl, q⟩
  | @cons x0 u0 xs0 us0 r0 rr =>
    have c := PySem.SeqAt.RcNeAt.lists_lengths L1 L2' (by simp) hu
    exact c X.prog X.w X.xe _ ⟨.bl true, H, I, rfl, q⟩
end
end V3

set_option Elab.async false
set_option linter.all false
set_option maxRecDepth 100000
/-! Further rules of our own: xs[a:b:k]; a class that stands in a local name, called. -/
namespace V3
open PySem PySem.Spec PyProof.Rows L2
/-- the items of xs[lo:hi:st] -/
def stepV (xs : List V) (lo hi st : Option Int) : List V :=
  (sliceRange (sliceBounds lo hi st xs.length).1 (sliceBounds lo hi st xs.length).2.1 (sliceBounds lo hi st xs.length).2.2).filterMap (fun i => xs[i]?)
theorem vals_pick {xs : List V} {us : List Value} (r : Vals xs us) : ∀ idx : List Nat, Vals (idx.filterMap (fun i => xs[i]?)) (idx.filterMap (fun i => us.toArray[i]?))
  | [] => .nil
  | i :: idx => by
    have ih := vals_pick r idx
    rw [List.filterMap_cons, List.filterMap_cons]
    cases e : xs[i]? with
    | none =>
      have e2 : us.toArray[i]? = none := by
        rw [List.getElem?_toArray]
        exact r.none_of e
      rw [e2]
      exact ih
    | some x =>
      obtain ⟨u, hu, ru⟩ := r.get e
      have e2 : us.toArray[i]? = some u := by
        rw [List.getElem?_toArray]
        exact hu
      rw [e2]
      exact .cons ru ih
section
variable {X : Cx} {e : Expr} {te : TE} {lo hi st : Option Expr} {tl th ts : TO} {p2 pos : Pos}
def tStep (K : PySem.W.Frag) (te : TE) (tl th ts : TO) : TE := fun σ H Q => te σ H fun x H1 => tl σ H1 fun l H2 => th σ H2 fun u H3 => ts σ H3 fun k H4 =>
  ∃ a xs, x = .ref a ∧ SqL K H4 a xs ∧ k ≠ some 0 ∧ (stepV xs l u k).length ≤ sizeLine ∧ ∀ p, H4 p = none → Q (.ref p) (upd H4 p (.lst (stepV xs l u k)))
theorem pe_step (he : PE X e te) (hl : PO X lo tl) (hu : PO X hi th) (hk : PO X st ts)
    (hop : ∀ (o : Value) (n : Addr), subscripted (.Slice lo hi st p2) false o (.ref n) = operate [o, .ref n] (getItem o (.ref n)) := by intro _ _; with_unfolding_all rfl) :
    PE X (.Subscript e (.Slice lo hi st p2) pos) (tStep X.K te tl th ts) := by
  refine ⟨fun pins s σ H Q I h => ?_⟩
  refine Subscript_ (thn (he.run pins s σ H _ I h) fun v s1 ⟨x, H1, I1, r1, q1⟩ => ?_)
  refine wpAny_Slice (thn (hl.run pins s1 σ H1 _ I1 q1) fun vl s2 ⟨l, H2, I2, pl, q2⟩ =>
    thn (hu.run pins s2 σ H2 _ I2 q2) fun vu s3 ⟨u, H3, I3, pu, q3⟩ =>
    thn (hk.run pins s3 σ H3 _ I3 q3) fun vk s4 ⟨k, H4, I4, pk, q4⟩ => ?_)
  obtain ⟨a, xs, rfl, hx, hk0, hsz, q⟩ := q4
  have J : Inv X pins σ H4 { s4 with heap := s4.heap.push { cls := .type "slice", data := .fields #[vl, vu, vk] } } := I4.kept (t' := s4.toks) fun b ob q => Heap.get?_push_of_some _ q
  cases r1
  obtain ⟨its, r, ht, hz⟩ := J.list hx
  have hlen := r.length
  have got : wpAny (model X.prog X.w) X.A (getItem (.ref a) (.ref s4.heap.objs.size)) (EP X pins σ Q) X.xe { s4 with heap := s4.heap.push { cls := .type "slice", data := .fields #[vl, vu, vk] } } := by
    refine wpAny_getItem_list_slice ht.isList (Heap.IsSliceOf.new ..) pl pu pk hk0 ?_ (by rw [List.size_toArray] <;> omega)
    have e : slicePick its.toArray l u k = ((sliceRange (sliceBounds l u k xs.length).1 (sliceBounds l u k xs.length).2.1 (sliceBounds l u k xs.length).2.2).filterMap (fun i => its.toArray[i]?)).toArray := by
      unfold slicePick
      rw [List.size_toArray, ← hlen]
    rw [e]
    refine ⟨.ref (s4.heap.push _).objs.size, _, J.laid (t' := s4.toks) (o := .lst (stepV xs l u k)) (fun b ob q => Heap.get?_push_of_some _ q) (Nat.le_refl _) ?_, rfl, q _ (J.hok.fresh (Nat.le_refl _))⟩
    exact ⟨hsz, _, 0, vals_pick r _, Heap.get?_push_size _ rfl⟩
  show wpAny (model X.prog X.w) X.A (subscriptTail e (.Slice lo hi st p2) (.ref a) (.ref s4.heap.objs.size)) (EP X pins σ Q) X.xe { s4 with heap := s4.heap.push { cls := .type "slice", data := .fields #[vl, vu, vk] } }
  exact tail_any (ops := [.ref a, .ref s4.heap.objs.size]) ht.isList.typeIs slot_list_getitem.lookup got (hop _ _)
end
section
variable {X : Cx} {CX : CXT} {k i : Nat} {f C : Addr} {fd : FuncData} {ps : List Str} {sp : Sp} {E : XK} {x : Str} {p pos : Pos} {e : Expr} {es : List Expr} {t : TA} {dvs : List V} {ds : List Value}
/-- c(e, ..), c a local name that holds the class at C -/
def tMakeL (i : Nat) (C : Addr) (sp : Sp) (dvs : List V) (E : XK) (t : TA) : TE := fun σ H Q => σ[i]? = some (some (.ref C)) ∧ tMake C sp dvs E t σ H Q
theorem pe_makeL (M : Mk X.K C f) (F : FnOk X.prog X.w X.K X.mg X.base CX k f fd ps sp) (room : Room (k + 1) X.A) (hN : X.N[i]? = some x) (hv : Vis X.env.scope x)
    (bi : Binds X.K fd ps ds) (va : Vals dvs ds) (out : Passes CX X E) (ha : PA X (e :: es) t)
    (hdb : (x == ("__debug__" : Str)) = false := by decide) (hcd : (x == ("__classdict__" : Str)) = false := by decide)
    (he : starEach (e :: es) X.env = (false, eval e X.env) :: starEach es X.env := by rfl) (hpl : (backTo pos (starEach es X.env)).any (·.1) = false := by rfl) :
    PE X (.Call (.Name x p) (e :: es) [] pos) (tMakeL i C sp dvs E t) := by
  refine ⟨fun pins s σ H Q I h => ?_⟩
  obtain ⟨at_, want⟩ := h
  refine wpAny_Call_Name_kw (thn ((pe_var (pos := p) hN hv hdb hcd).run pins s σ H (fun v H1 => v = .ref C ∧ H1 = H) I ⟨.ref C, at_, rfl, rfl⟩) fun u s1 ⟨v, H1, I1, r1, q1⟩ => ?_)
  obtain ⟨rfl, rfl⟩ := q1
  cases r1
  refine PySem.W.callWith_K (h₀ := X.base) I.ok.mod.kin M.kp ?_ he hpl
  exact thn (ha.run pos pins s1 σ _ _ I1 want) fun us s2 ⟨vs, H2, I2, r, q⟩ => ⟨I2.kIn, run_make M F room bi va out I2 r q⟩
end
end V3

set_option Elab.async false
set_option linter.all false
set_option maxRecDepth 100000
/-! == and != of objects of our own classes, by their own __eq__, whatever it answers. -/
namespace V3
open PySem PySem.Spec PyProof.Rows L2
section
variable {prog : Program} {w : World} {A : Around} {E : Value → Shared → Prop} {s : Shared} {K : PySem.W.Frag} {x C L f : Addr} {h₀ : Heap} {m : Str → Option Value} {ox : Obj} {od : Option Obj} {name : Str} {b tb : Value}
theorem ifBound_B {M : Model} {args : List Value} {id : String} {Q : Option Value → Shared → Prop} (X : K.In s.heap) (I : PySem.W.InstAt s.heap x ox C od) (hs : PySem.W.findIn K (.ref C) name = some (some (.builtin id)))
    (hb : ∀ self, bindSpecial (.builtin id) self = pure (.builtin id, [self]))
    (h : wpAny M A (call (.builtin id) (.ref x :: args)) (fun v => Q (some v)) E s) : wpAny M A (callSpecialIfBound? (.ref x) name args) Q E s := by
  simp only [callSpecialIfBound?, bindSpecialIfBound?]
  refine wpAny_holding (wpAny_bind (wpAny_bind (wpAny_bind (I.type.here ((PySem.W.looks_findIn X hs).here ?_)))))
  simp only [hb]
  refine wpAny_bind (wpAny_askSetting (wpAny_ite ?_))
  have fin : wpAny M A (call (.builtin id) ([.ref x] ++ args) >>= fun v => pure (some v)) Q E s := wpAny_bind (wpAny_mono h (fun v s' h' => wpAny_pure h') fun _ _ h' => h')
  split
  · exact wpAny_bind (wpAny_pure (wpAny_pure fin))
  · exact wpAny_tryCatch (wpAny_bind (wpAny_pure (wpAny_pure fin)))
theorem ne_entry {Q : Fin → Shared → Prop} (hu : A.units < cLine) (X : K.In s.heap) (I : PySem.W.InstAt s.heap x ox C od) (hs : PySem.W.findIn K (.ref C) "__eq__" = some (some (.ref f))) (hf : PySem.W.isFn K (.ref f) = true)
    (h : wpAny (model prog w) A (call (.ref f) [.ref x, b]) (fun v s' => ∃ r, v = .bool r ∧ Q (.done (.ret (.bool (!r)))) s') E s) :
    wpAny (model prog w) A (Builtin.«object.__ne__» ⟨[.ref x, b], []⟩) Q E s := by
  unfold Builtin.«object.__ne__»
  repeat (first | with_reducible refine wpAny_cRoomFor hu ?_ | with_reducible refine wpAny_bind (PySem.W.ifBound_K X I hs hf (wpAny_mono h (fun v s' hv => ?_) fun _ _ e => e)) | wp_step)
  obtain ⟨r, rfl, q⟩ := hv
  repeat wp_step
  exact q
theorem ne_K {Q : Value → Shared → Prop} (hu : A.units + 1 < cLine) (F : PyProof.Rows.Fr h₀ L s.heap m) (X₀ : K.In h₀) (I : PySem.W.InstAt s.heap x ox C od) (hb : PySem.W.Looks (model prog w) s.heap (typeOf b) tb) (hn : PySem.W.notFirst K C tb = true)
    (hs : PySem.W.findIn K (.ref C) "__eq__" = some (some (.ref f))) (hf : PySem.W.isFn K (.ref f) = true)
    (hne : PySem.W.findIn K (.ref C) "__ne__" = some (some (.builtin "object.__ne__"))) (hob : PySem.W.subIn K (.ref C) (.type "object") = some true)
    (h : wpAny (model prog w) A.in1 (call (.ref f) [.ref x, b]) (fun v s' => ∃ r, v = .bool r ∧ Q (.bool (!r)) s') E s) : wpAny (model prog w) A (richCompare .NotEq (.ref x) b) Q E s := by
  have X := X₀.keeps F.keep
  have hu0 : A.units < cLine := Nat.lt_of_succ_lt hu
  have one : wpAny (model prog w) A (tryCompare (.ref x) "__ne__" b) (fun r s' => ∃ v, r = some v ∧ Q v s') E s := by
    unfold tryCompare
    refine wpAny_bind (ifBound_B X I hne (fun self => PySem.F.cmp_object.ne.bind self) ?_)
    refine wpAny_call (codeAny_call_builtin PySem.F.cmp_object.ne.plain PySem.F.cmpEntry_ne (PySem.W.check_slot PySem.F.cmpKind_ne PySem.F.cmpSplit_ne (I.type.andThen (PySem.W.looks_subIn X hob)) (PySem.F.cmpArgs_ne _ _) (ne_entry (A := A.in1) hu X I hs hf ?_)))
    refine wpAny_mono h (fun v s' hv => ?_) fun _ _ e => e
    obtain ⟨r, rfl, q⟩ := hv
    exact ⟨r, rfl, wpAny_pure ⟨_, rfl, q⟩⟩
  unfold richCompare
  simp only [oneThing_ref]
  refine wpAny_holding (wpAny_bind (wpAny_cRoomFor hu0 ?_))
  refine wpAny_bind (I.type.here (wpAny_bind (hb.here ?_)))
  split
  · rename_i q
    have e : PySem.W.subIn K tb (.ref C) = some false := by
      rcases Bool.or_eq_true_iff.mp hn with e | e
      · rw [beq_iff_eq.mp e] at q; simp at q
      · exact beq_iff_eq.mp e
    refine wpAny_bind ((PySem.W.looks_subIn X e).here ?_)
    simp only [Bool.false_eq_true, if_false]
    refine wpAny_bind (wpAny_mono one (fun r s' z => ?_) fun _ _ e => e)
    obtain ⟨v, rfl, hq⟩ := z
    exact wpAny_pure hq
  · refine wpAny_bind (wpAny_pure ?_)
    simp only [Bool.false_eq_true, if_false]
    refine wpAny_bind (wpAny_mono one (fun r s' z => ?_) fun _ _ e => e)
    obtain ⟨v, rfl, hq⟩ := z
    exact wpAny_pure hq
end
/-- a class with an own __eq__ at f and the __ne__ of object -/
structure EqCls (K : PySem.W.Frag) (C f : Addr) : Prop where
  eq : PySem.W.findIn K (.ref C) "__eq__" = some (some (.ref f))
  fn : PySem.W.isFn K (.ref f) = true
  ne : PySem.W.findIn K (.ref C) "__ne__" = some (some (.builtin "object.__ne__"))
  ob : PySem.W.subIn K (.ref C) (.type "object") = some true
section
variable {X : Cx} {CX : CXT} {n : Nat} {f C D : Addr} {fd : FuncData} {ps : List Str} {sp : Sp} {E : XK}
/-- f called at a pair, somewhere below the running body -/
theorem run_own {A : Around} {pins : List (Addr × Obj)} {s : Shared} {σ : L2.St} {H : Hp} {x y : V} {u v : Value} {Q : VK} (sb : Sub X n A) (F : FnOk X.prog X.w X.K X.mg X.base CX n f fd ps sp) (hb : Binds X.K fd ps []) (hx : Passes CX X E)
    (I : Inv X pins σ H s) (rx : RelV x u) (ry : RelV y v) (h : sp [x, y] H Q E) : wpAny (model X.prog X.w) A (call (.ref f) [u, v]) (EP X pins σ Q) X.xe s := by
  have e0 : Env0 X.prog X.w X.K X.mg X.base A X.stack s H := by
    have e := I.env0
    exact ⟨by rw [sb.fr]; exact e.frames, e.mod, e.bs, e.bsz, e.funs, e.frf, e.hok, e.bare⟩
  have hl := F.len _ _ _ _ h
  have r2 : Vals [x, y] [u, v] := .cons rx (.cons ry .nil)
  refine wpAny_call (codeAny_mono (F.run A X.stack s H ⟨[u, v], []⟩ [u, v] [x, y] _ E sb.room e0 (by
    have := hb s [u, v] I.kIn (by simpa using hl)
    simpa using this) r2 h) fun r s' hq => ?_)
  cases r with
  | error e => exact hx pins σ H s e s' I hq
  | ok fl =>
    cases fl with
    | ret w =>
      obtain ⟨z, H', I', rz, q⟩ := I.after hq
      exact ⟨z, H', I', rz, q⟩
    | next => exact False.elim hq
    | brk => exact False.elim hq
    | cont => exact False.elim hq
/-- x == y, x an object whose class has the own __eq__ -/
def rEqO (K : PySem.W.Frag) (n : Nat) (FF : Addr → Sp → XK → Prop) (neg : Bool) : R2 := fun x y H Q => ∃ (a C dx : Addr) (fs : List (Str × V)) (b D dy : Addr) (gs : List (Str × V)) (sp : Sp) (E : XK), x = .ref a ∧ y = .ref b ∧ H a = some (.ins C dx fs) ∧ H b = some (.ins D dy gs) ∧
  FF C sp E ∧ PySem.W.notFirst K C (.ref D) = true ∧ sp [x, y] H (fun v H' => ∃ r : Bool, v = .bl r ∧ Q (.bl (r != neg)) H') E
theorem op_eqO {FF : Addr → Sp → XK → Prop} (hF : ∀ C sp E, FF C sp E → ∃ (CX : CXT) (f : Addr) (fd : FuncData) (ps : List Str), FnOk X.prog X.w X.K X.mg X.base CX n f fd ps sp ∧ EqCls X.K C f ∧ Binds X.K fd ps [] ∧ Passes CX X E) (hr : Room n X.A) :
    OpR X (compareOp .Eq) (rEqO X.K n FF false) := by
  intro pins s σ H x y v u Q I rx ry hq
  obtain ⟨a, C, dx, fs, b, D, dy, gs, sp, E, rfl, rfl, ha, hb, ff, hn, hsp⟩ := hq
  obtain ⟨CX, f, fd, ps, F, ec, bi, hx⟩ := hF C sp E ff
  cases rx
  cases ry
  obtain ⟨mA, J, _⟩ := ins_get I.hok ha
  obtain ⟨mB, J', _⟩ := ins_get I.hok hb
  obtain ⟨od, J, _⟩ := J.look
  obtain ⟨od', J', _⟩ := J'.look
  obtain ⟨m, hF⟩ := I.fr
  show wpAny (model X.prog X.w) X.A (richCompare .Eq (.ref a) (.ref b)) (EP X pins σ Q) X.xe s
  refine PySem.W.cmp_K (op := .Eq) (tb := .ref D) hr.units0 hF I.ok.mod.kin J J'.type hn ec.eq ec.fn ?_
  refine wpAny_mono (run_own (x := .ref a) (y := .ref b) ⟨hr, rfl⟩ F bi hx I rfl rfl hsp) (fun w s' q => ?_) fun _ _ e => e
  obtain ⟨z, H', I', rz, r, ez, q⟩ := q
  subst ez
  cases rz
  refine ⟨.bl r, H', I', rfl, ?_⟩
  have e : (r != false) = r := by cases r <;> rfl
  rw [e] at q
  exact q
theorem op_neO {FF : Addr → Sp → XK → Prop} (hF : ∀ C sp E, FF C sp E → ∃ (CX : CXT) (f : Addr) (fd : FuncData) (ps : List Str), FnOk X.prog X.w X.K X.mg X.base CX n f fd ps sp ∧ EqCls X.K C f ∧ Binds X.K fd ps [] ∧ Passes CX X E) (hr : Room (n + 1) X.A) :
    OpR X (compareOp .NotEq) (rEqO X.K n FF true) := by
  intro pins s σ H x y v u Q I rx ry hq
  obtain ⟨a, C, dx, fs, b, D, dy, gs, sp, E, rfl, rfl, ha, hb, ff, hn, hsp⟩ := hq
  obtain ⟨CX, f, fd, ps, F, ec, bi, hx⟩ := hF C sp E ff
  cases rx
  cases ry
  obtain ⟨mA, J, _⟩ := ins_get I.hok ha
  obtain ⟨mB, J', _⟩ := ins_get I.hok hb
  obtain ⟨od, J, _⟩ := J.look
  obtain ⟨od', J', _⟩ := J'.look
  obtain ⟨m, hF⟩ := I.fr
  show wpAny (model X.prog X.w) X.A (richCompare .NotEq (.ref a) (.ref b)) (EP X pins σ Q) X.xe s
  refine ne_K (tb := .ref D) (by have := hr.units; omega) hF I.ok.mod.kin J J'.type hn ec.eq ec.fn ec.ne ec.ob ?_
  refine wpAny_mono (run_own (x := .ref a) (y := .ref b) (A := X.A.in1) ⟨hr.in1, rfl⟩ F bi hx I rfl rfl hsp) (fun w s' q => ?_) fun _ _ e => e
  obtain ⟨z, H', I', rz, r, ez, q⟩ := q
  subst ez
  cases rz
  refine ⟨r, rfl, .bl (!r), H', I', rfl, ?_⟩
  have e : (r != true) = !r := by cases r <;> rfl
  rw [e] at q
  exact q
end
end V3

set_option Elab.async false
set_option linter.all false
set_option maxRecDepth 100000
/-! functions that are called where no repr is under way: repr of nested lists and tuples -/
namespace V3
open PySem PySem.Spec PyProof.Rows L2
def NoG (A : Around) : Prop := A.guards = some []
theorem NoG.deeper {A : Around} (h : NoG A) (e : Env) : NoG (A.deeper e) := h
/-- what a def promises to such callers -/
structure FnG (P : Program) (w : World) (K : PySem.W.Frag)
    (mg : Str → Option Value) (base : Heap) (CX : CXT) (k : Nat)
    (f : Addr) (fd : FuncData) (ps : List Str) (sp : Sp) : Prop where
  len : ∀ vs H Q E, sp vs H Q E → vs.length = ps.length
  run : ∀ (A : Around) (up : List Env) (s : Shared) (H : Hp) (args : Args)
    (us : List Value) (vs : List V) (Q : VK) (E : XK),
    NoG A → Room k A → Env0 P w K mg base A up s H →
    BindsTo s fd args (ps.zip us) → Vals vs us → sp vs H Q E →
    codeAny (model P w) A (.call (.ref f) args) (CR CX up P w H s Q E) s
theorem FnG.of {P : Program} {w : World} {K : PySem.W.Frag} {mg : Str → Option Value} {base : Heap}
    {CX : CXT} {k : Nat} {f : Addr} {fd : FuncData} {ps : List Str} {sp : Sp}
    (F : FnOk P w K mg base CX k f fd ps sp) : FnG P w K mg base CX k f fd ps sp :=
  ⟨F.len, fun A up s H args us vs Q E _ => F.run A up s H args us vs Q E⟩
theorem FnG.up {P : Program} {w : World} {K : PySem.W.Frag} {mg : Str → Option Value} {base : Heap}
    {CX : CXT} {j k : Nat} {f : Addr} {fd : FuncData} {ps : List Str} {sp : Sp}
    (F : FnG P w K mg base CX j f fd ps sp) (h : j ≤ k) : FnG P w K mg base CX k f fd ps sp :=
  ⟨F.len, fun A up s H args us vs Q E g r => F.run A up s H args us vs Q E g (r.mono h)⟩
section
variable {P : Program} {w : World} {K : PySem.W.Frag} {mg : Str → Option Value} {base : Heap}
/-- the rule for a def of the text -/
theorem fnG {CX : CXT} {k : Nat} {f : Addr} {x qual : Str} {st : Stmt} {fd : FuncData}
    {N ps : List Str} {sp : Sp} (F : Fun K x qual st f fd) (S : FnScope N ps (defScope st))
    (len : ∀ vs H Q E, sp vs H Q E → vs.length = ps.length)
    (hbody : ∀ (cdv : Value) (A : Around) (up : List Env) (s : Shared) (H : Hp)
      (vs : List V) (Q : VK) (E : XK),
      NoG A → Room k (A.deeper (envOfC qual (defScope st) s.heap.objs.size f cdv)) →
      sp vs H Q E →
      ∃ t, PSs (cxOf CX P w K mg base N qual (defScope st) f cdv A up s H E) (defBody st) t ∧
        t { nx := fun _ H' => Q .non H', rt := Q } (start N vs) H) :
    FnG P w K mg base CX (k + 1) f fd ps sp := by
  obtain ⟨oc, od, kV, doc, pm, an, cdv, ct, osl, rfl, lk, hcd⟩ := F.ex
  refine ⟨len, fun A up s H args us vs Q E g room e0 bnd rel want => ?_⟩
  have nlen := len _ _ _ _ want
  have old := fun b o e => (e0.bs b o e).1
  have KX : K.In s.heap := e0.mod.kin.keeps old
  have lim := e0.mod.nolimit.keeps old
  have known : ∀ y ∈ ps.zip us, (defScope st).names.lookup y.1 = some .local ∨
      ((defScope st).names.lookup y.1 = some .cell ∧
        ((cellsFrom (s.heap.objs.size + 1) (defScope st).names []).lookup y.1).isSome = true) := by
    rintro ⟨n, v⟩ hy
    exact (S.par n (List.of_mem_zip hy).1).imp id fun q => ⟨q, PySem.W.cellsFrom_some _ _ _ (.inl q)⟩
  refine codeAny_call_function room.depth (KX _ _ lk) rfl S.co S.gen rfl
    (PySem.W.codeRec_of KX hcd) (bnd _ _ _ _ ?_)
  refine wpAny_newFunctionEnv_cells S.kind known fun env same s1 x => ?_
  subst same
  refine ⟨lim.keeps x.toInCall.keep, codeAny_func ?_⟩
  obtain ⟨t, ht, hq⟩ := hbody cdv A up s H vs Q E g (room.deeper _) want
  have I := inv_start (CX := CX) (E := E) S room.hd e0 nlen rel x
  refine wpAny_mono (ht.run [] s1 (start N vs) H _ I hq) (fun fl s' hs => ?_) fun e s' hs => hs
  match fl, hs with
  | .ret u, hs =>
    obtain ⟨v, σ', H', J, rv, q⟩ := hs
    exact ⟨v, H', J.os, J.bare, J.base, J.hok, rv, q⟩
  | .next, hs =>
    obtain ⟨σ', H', J, q⟩ := hs
    exact ⟨.non, H', J.os, J.bare, J.base, J.hok, rfl, q⟩
  | .brk, hs =>
    obtain ⟨_, _, _, q⟩ := hs
    exact q.elim
  | .cont, hs =>
    obtain ⟨_, _, _, q⟩ := hs
    exact q.elim
end
section
variable {X : Cx} {CX : CXT} {k : Nat} {f : Addr} {fd : FuncData} {ps : List Str} {sp : Sp}
  {dvs : List V} {ds : List Value} {E : XK} {x : Str} {p pos : Pos} {e : Expr} {es : List Expr} {t : TA}
theorem runG {pins : List (Addr × Obj)} {σ : L2.St} {H : Hp} {s : Shared} {Q : VK}
    {us : List Value} {vs : List V} (F : FnG X.prog X.w X.K X.mg X.base CX k f fd ps sp)
    (g : NoG X.A) (room : Room k X.A) (bi : Binds X.K fd ps ds) (va : Vals dvs ds)
    (out : Passes CX X E) (I : Inv X pins σ H s) (r : Vals vs us) (want : sp (vs ++ dvs) H Q E) :
    wpAny (model X.prog X.w) X.A (call (.ref f) us) (EP X pins σ Q) X.xe s := by
  have r2 := r.append va
  have nlen := r2.length.symm.trans (F.len _ _ _ _ want)
  have ran := F.run X.A X.stack s H ⟨us, []⟩ _ _ Q E g room I.env0 (bi s us I.kIn nlen) r2 want
  refine wpAny_call (codeAny_mono ran fun res s' hq => ?_)
  match res, hq with
  | .error err, hq => exact out pins σ H s err s' I hq
  | .ok (.ret u), hq => exact I.after hq
  | .ok .next, hq => exact hq.elim
  | .ok .brk, hq => exact hq.elim
  | .ok .cont, hq => exact hq.elim
/-- f(e, ..) -/
theorem pe_callG (F : FnG X.prog X.w X.K X.mg X.base CX k f fd ps sp) (g : NoG X.A)
    (room : Room k X.A) (hg : Gl X x) (hm : X.mg x = some (.ref f))
    (kp : PySem.W.keepIn X.K (.ref f) = true) (bi : Binds X.K fd ps ds) (va : Vals dvs ds)
    (out : Passes CX X E) (ha : PA X (e :: es) t)
    (hdb : (x == ("__debug__" : Str)) = false := by decide)
    (he : starEach (e :: es) X.env = (false, eval e X.env) :: starEach es X.env := by rfl)
    (hpl : (backTo pos (starEach es X.env)).any (·.1) = false := by rfl) :
    PE X (.Call (.Name x p) (e :: es) [] pos) (tCall sp dvs E t) := by
  refine ⟨fun pins s σ H Q I h => wpAny_Call_Name_kw (ld_glob I hg hm ?_ hdb)⟩
  refine PySem.W.callWith_K (h₀ := X.base) I.ok.mod.kin kp ?_ he hpl
  exact thn (ha.run pos pins s σ H _ I h) fun us s1 ⟨vs, H1, I1, r, q⟩ =>
    ⟨I1.kIn, runG F g room bi va out I1 r q⟩
/-- repr(v), v nested data -/
def rReprD (K : PySem.W.Frag) (A : Around) : List V → Hp → VK → Prop := fun xs H Q =>
  ∃ (a : Addr) (d : PyData), xs = [.ref a] ∧ Dp K H (.ref a) d ∧ d.showable = true ∧
    d.hasDict = false ∧ A.units + (d.depth + 1) < cLine ∧ d.shown.length ≤ sizeLine ∧ Q (.str d.shown) H
theorem call_reprD (g : NoG X.A) : CallR X (.builtin "repr") (rReprD X.K X.A) := by
  intro pins s σ H xs us Q I r h
  obtain ⟨a, d, rfl, hd, sh, nd, hu, hz, q⟩ := h
  obtain ⟨u, rfl, ru⟩ := vals1 r
  obtain ⟨as, rd⟩ := hd.reads I d _ _ ru
  cases ru
  exact repr_of_reads' rd sh (PyData.noDict_hsm nd) g hu (fun _ _ e => e)
    (fun h' u tk hk => ⟨.str d.shown, H, I.kept (t' := tk) hk, ⟨u, rfl⟩, q⟩) hz
end
end V3

set_option Elab.async false
set_option linter.all false
set_option maxRecDepth 100000
/-! the law's own call, where no repr is under way -/
namespace V3
open PySem PySem.Spec PyProof.Rows L2
section
variable {P : Program} {w : World} {K : PySem.W.Frag} {mg mb : Str → Option Value} {k : Nat}
  {fa a : Addr} {fd : FuncData} {x : Str} {sp : Sp} {s1 : Shared} {vs : List Value} {ns : List Int}
/-- nothing but the script is followed -/
structure Lone (H : Hp) (a : Addr) : Prop where
  only : Only H
  here : ∀ b, H b ≠ none → b = a
theorem law_from {H : Hp} (KX : K.In s1.heap) (hns : s1.heap.Ns mainGlobals mg)
    (hb : s1.heap.Ns builtinsNs mb) (hbb : ∀ y : Str, y ≠ "__name__" → mb y = bootBuiltins y)
    (lim : s1.heap.NoLimit) (gens : s1.gens = #[])
    (ha : s1.heap.get? a = some { cls := .type "list", data := .seq vs.toArray })
    (room : Room k callerA)
    (F : ∀ base : Heap, K.In base → base.Ns mainGlobals mg → FnG P w K mg base CX0 k fa fd [x] sp)
    (bi : ∀ (s : Shared) (u : Value), BindsTo s fd ⟨[u], []⟩ [(x, u)])
    (want : sp [.ref a] H (fun v _ => v = .bl true) fun _ _ _ => False)
    (lone : Lone H a) (hok : HOk P w H s1.heap) (free : H a ≠ none → K.lookup a = none) :
    codeAny (model P w) callerA (.call (.ref fa) ⟨[.ref a], []⟩)
      (fun r s' => r = .ok (.ret (.bool true)) ∧ OldK s1.heap s'.heap ∧ s'.os = s1.os ∧ AllBare s'.gens) s1 := by
  have at_a : ∀ {b : Addr}, H b ≠ none → b = a := fun {b} h => lone.here b h
  have kept : ∀ {b : Addr} {o : Obj}, s1.heap.get? b = some o → (b = a → H b = none) →
      (hidT s1.heap H).get? b = some o := by
    intro b o e n
    by_cases q : H b = none
    · exact hidT_get e q
    · exact hidT_get e (n (at_a q))
  have nsK : ∀ {b : Addr} {m : Str → Option Value}, s1.heap.Ns b m → (hidT s1.heap H).Ns b m := by
    rintro b m ⟨o, es, ep, e, d, r⟩
    refine ⟨o, es, ep, kept e fun z => ?_, d, r⟩
    subst z
    rw [ha] at e
    cases e
    exact nomatch d
  have hKb : K.In (hidT s1.heap H) := by
    intro b o e
    refine kept (KX b o e) fun z => ?_
    subst z
    by_cases q : H b = none
    · exact q
    · rw [free q] at e
      cases e
  obtain ⟨mc, c1, c2⟩ := lim
  have hM : Mod K mg (hidT s1.heap H) := ⟨hKb, nsK hns, ⟨mb, nsK hb, hbb⟩, mc, nsK c1, c2⟩
  have e0 : Env0 P w K mg (hidT s1.heap H) callerA [] s1 H :=
    ⟨rfl, hM, fun b o e => of_hidT e, Nat.le_of_eq (hidT_size _ _), trivial,
      fun b hb => (nomatch hb), hok, AllBare.of_eq gens⟩
  have ran := (F _ hKb (nsK hns)).run callerA [] s1 H ⟨[.ref a], []⟩ [.ref a] [.ref a] _ _ rfl room e0
    (bi s1 (.ref a)) (.cons rfl .nil) want
  refine codeAny_mono ran fun r s' h => ?_
  match r, h with
  | .error e, h => exact h.elim
  | .ok .next, h => exact h.elim
  | .ok .brk, h => exact h.elim
  | .ok .cont, h => exact h.elim
  | .ok (.ret u), h =>
    obtain ⟨v, H', os, bare, un, hok', r', q⟩ := h
    have q' : v = .bl true := q
    subst q'
    have r2 : u = Value.bool true := r'
    subst r2
    refine ⟨rfl, OldK.of_keep fun b o e => ?_, os, bare⟩
    cases hb : H b with
    | none => exact un.keep b o e hb (fun z => by cases z) (by simp)
    | some u =>
      rcases lone.only b with z | ⟨ob, xs, z⟩
      · rw [hb] at z
        cases z
      · obtain ⟨g1, _⟩ := hok b _ z
        obtain ⟨g2, _⟩ := hok' b _ (un.frzs b ob _ z)
        rw [e] at g1
        cases g1
        exact g2
theorem law_callG (KX : K.In s1.heap) (hns : s1.heap.Ns mainGlobals mg)
    (hb : s1.heap.Ns builtinsNs mb) (hbb : ∀ y : Str, y ≠ "__name__" → mb y = bootBuiltins y)
    (lim : s1.heap.NoLimit) (gens : s1.gens = #[])
    (ha : s1.heap.get? a = some { cls := .type "list", data := .seq vs.toArray })
    (whole : IntsAre vs ns) (few : ns.length ≤ sizeLine) (room : Room k callerA)
    (F : ∀ base : Heap, K.In base → base.Ns mainGlobals mg → FnG P w K mg base CX0 k fa fd [x] sp)
    (bi : ∀ (s : Shared) (u : Value), BindsTo s fd ⟨[u], []⟩ [(x, u)])
    (want : ∀ H : Hp, Only H → SqL K H a (ns.map V.int) → sp [.ref a] H (fun v _ => v = .bl true) fun _ _ _ => False) :
    codeAny (model P w) callerA (.call (.ref fa) ⟨[.ref a], []⟩)
      (fun r s' => r = .ok (.ret (.bool true)) ∧ OldK s1.heap s'.heap ∧ s'.os = s1.os ∧ AllBare s'.gens) s1 := by
  have rv := vals_ints whole
  have nv := whole.length
  cases hk : K.lookup a with
  | some o =>
    have e := KX a o hk
    rw [ha] at e
    cases e
    have o0 : Only (fun _ => none) := fun _ => .inl rfl
    refine law_from KX hns hb hbb lim gens ha room F bi (want _ o0 (.inr ⟨_, vs.toArray, _, hk, rfl, rfl, rfl, ?_, ?_⟩)) ⟨o0, ?_⟩ ?_ ?_
    · rw [List.size_toArray, nv]
      exact few
    · simpa using rv
    · intro b z
      exact absurd rfl z
    · intro b u z
      have z2 : (none : Option HO) = some u := z
      cases z2
    · intro z
      exact absurd rfl z
  | none =>
    let Ha : Hp := fun b => if b = a then some (.frz { cls := .type "list", data := .seq vs.toArray } (.lst (ns.map V.int))) else none
    have yes : Ha a = some (.frz { cls := .type "list", data := .seq vs.toArray } (.lst (ns.map V.int))) := if_pos rfl
    have no : ∀ b, b ≠ a → Ha b = none := fun b n => if_neg n
    have o0 : Only Ha := by
      intro b
      by_cases z : b = a
      · subst z
        exact .inr ⟨_, _, yes⟩
      · exact .inl (no b z)
    refine law_from (H := Ha) KX hns hb hbb lim gens ha room F bi (want _ o0 (.inl (.inr ⟨_, yes⟩))) ⟨o0, ?_⟩ ?_ fun _ => hk
    · intro b z
      by_cases q : b = a
      · exact q
      · exact absurd (no b q) z
    · intro b u z
      by_cases q : b = a
      · subst q
        rw [yes] at z
        cases z
        exact ⟨ha, by rw [List.length_map]; exact few, vs, _, rv, ha⟩
      · rw [no b q] at z
        cases z
end
/-- the walk from such a promise -/
theorem walk_ofG {l : PySem.W.OpenLaw} {n k : Nat} {q : Program} {loose : List Str}
    {XP : (Str → Option Value) → Heap → Prop} {YP : World → Heap → Prop} {d : DefRec}
    {K : Params → PySem.W.Frag} {sp : World → Sp} {x : Str}
    (hn : l.most = some n) (small : n ≤ sizeLine) (hdf : d.params.defaults = []) (room : Room k callerA)
    (hY : ∀ (w : World) (h : Heap), YP w h → (K w.params).In h)
    (F : ∀ (w : World) (mg : Str → Option Value) (fa : Addr) (h : Heap), (K w.params).In h →
      h.Ns mainGlobals mg → mg d.name = some (.ref fa) →
      ∃ fd : FuncData, (∀ (s : Shared) (u : Value), BindsTo s fd ⟨[u], []⟩ [(x, u)]) ∧
        ∀ base : Heap, (K w.params).In base → base.Ns mainGlobals mg →
          FnG l.prog w (K w.params) mg base CX0 k fa fd [x] (sp w))
    (hsp : ∀ (w : World) (H : Hp) (a : Addr) (ns : List Int), ns.length ≤ n → Only H →
      SqL (K w.params) H a (ns.map V.int) → sp w [.ref a] H (fun v _ => v = .bl true) fun _ _ _ => False) :
    PySem.W.WalkO q loose XP YP l.row.toRowW d [] (fun f vs => PySem.call f vs) := by
  refine Att.attach_call hn hdf fun w s0 s1 mg mb fa o pm cd doc a vs ns G Y ho hd hcd hmg hobj whole len gens => ?_
  have KX := hY w _ Y
  obtain ⟨fd, bi, hF⟩ := F w mg fa _ KX G.T.g hmg
  exact law_callG KX G.T.g G.T.b G.T.builtins G.T.nolimit gens hobj whole (Nat.le_trans len small) room hF bi
    fun H hO hS => hsp w H a ns len hO hS
end V3

set_option Elab.async false
set_option linter.all false
set_option maxRecDepth 100000
/-! x in (a, b, ..), where none of the items is x: each item's own == is run -/
namespace V3
open PySem PySem.SeqAt
open AutoSeq1 (wpAny_loadPart')
open MeetsSeq MeetsSeq2 MeetsSeq3 SeqRoads2
section
variable {prog : Program} {w : World} {A : Around} {R : Result → Shared → Prop}
theorem tuple_none (l : Addr) (items : Array Value) (n : Nat) (dd : Option Addr) (sl : Array (Option Value)) (x : Value) (I : Nat → Shared → Prop)
    (turn : ∀ i (h : i < items.size) s, I i s →
      wpAny (model prog w) A.in1 (eqBool items[i] x) (fun r s' => r = false ∧ I (i + 1) s') (fun e s' => R (.error e) s') s)
    (fin : ∀ s, I items.size s → R (.ok (.ret (.bool false))) s) {s : Shared}
    (hl : s.heap.get? l = some { cls := .type "tuple", dict := dd, data := .seq items n, slots := sl }) (h : I 0 s) :
    wpAny (model prog w) A.in1 (Builtin.«tuple.__contains__» ⟨[.ref l, x], []⟩) (GQ.FinOf prog w A R) (fun e s' => R (.error e) s') s := by
  have h0 := h
  obtain ⟨hp, g, d, tk, os⟩ := s
  wp_walk using wpAny_loadPart' hl, wpAny_forIn_array _ (fun rest b s' => b.1 = none ∧ ∃ i, rest = items.toList.drop i ∧ i ≤ items.size ∧ I i s') _
  case turn =>
    rintro y rest b s' ⟨hb, i, hz, hi, hI⟩
    have lt : i < items.toList.length := by
      rcases Nat.lt_or_ge i items.toList.length with q | q
      · exact q
      · rw [List.drop_of_length_le q] at hz
        cases hz
    have lt2 : i < items.size := by simpa using lt
    rw [List.drop_eq_getElem_cons lt] at hz
    injection hz with hy hr
    have hy2 : y = items[i] := by simpa using hy
    subst hy2
    refine wpAny_bind (wpAny_mono (turn i lt2 s' hI) (fun r s2 q => ?_) fun _ _ z => z)
    obtain ⟨rfl, q⟩ := q
    wp_walk
    exact ⟨rfl, i + 1, hr, lt2, q⟩
  case fin =>
    rintro ⟨b1, b2⟩ s' ⟨hb, i, hz, hi, hI⟩
    simp only at hb
    subst hb
    have ge : items.size ≤ i := by
      rcases Nat.lt_or_ge i items.toList.length with q | q
      · rw [List.drop_eq_getElem_cons q] at hz
        cases hz
      · simpa using q
    have e : i = items.size := by omega
    have hR := fin s' (e ▸ hI)
    wp_walk
    first | exact hR | exact ⟨_, rfl, hR⟩ | simpa using hR
  case h =>
    exact ⟨rfl, 0, rfl, Nat.zero_le _, h0⟩
end
end V3

set_option Elab.async false
set_option linter.all false
set_option maxRecDepth 100000
namespace V3
open PySem PySem.SeqAt
open AutoSeq1 (wpAny_loadPart')
section
variable {prog : Program} {w : World} {A : Around} {E : Value → Shared → Prop} {s : Shared} {x : Addr} {o : Obj}
theorem str_declines {z : Str} {t : Tok} {Q : Shared → Prop} (ho : s.heap.get? x = some o) (hd : o.data = .plain) (hq : Q s) :
    wpAny (model prog w) A (call (.builtin "str.__eq__") [.str z t, .ref x]) (fun v s' => v = .notImplemented ∧ Q s') E s := by
  refine GQ.call_here F.slot_str_eq (typeIs_str s z t) F.entry_str_eq (F.args_str_eq_2 _ _) ?_
  obtain ⟨c, dd, da, sl⟩ := o
  simp only at hd
  subst hd
  obtain ⟨hp, g, d, tk, os⟩ := s
  unfold Builtin.«str.__eq__» Builtin.Str.strCompare
  wp_walk using wpAny_load ho
  exact ⟨rfl, hq⟩
theorem none_declines {Q : Shared → Prop} (hq : Q s) :
    wpAny (model prog w) A (call (.builtin "NoneType.__eq__") [.none, .ref x]) (fun v s' => v = .notImplemented ∧ Q s') E s := by
  refine GQ.call_here F.slot_NoneType_eq (typeIs_none s) F.entry_NoneType_eq (F.args_NoneType_eq_2 _ _) ?_
  obtain ⟨hp, g, d, tk, os⟩ := s
  unfold Builtin.«NoneType.__eq__»
  wp_walk
  exact ⟨rfl, hq⟩
theorem tup_declines {K : PySem.W.Frag} {C p : Addr} {od : Option Obj} {items : Array Value} {Q : Shared → Prop} (X : K.In s.heap) (I : PySem.W.InstAt s.heap x o C od) (hs : PySem.W.subIn K (.ref C) (.type "tuple") = some false) (hp : s.heap.IsTuple p items) (hq : Q s) :
    wpAny (model prog w) A (call (.builtin "tuple.__eq__") [.ref p, .ref x]) (fun v s' => v = .notImplemented ∧ Q s') E s := by
  obtain ⟨⟨c1, d1, da, sl⟩, ho, hc, n, hd⟩ := id hp
  simp only at hc hd
  subst hc hd
  refine GQ.call_here F.slot_tuple_eq ⟨_, ho, rfl⟩ F.entry_tuple_eq (F.args_tuple_eq_2 _ _) ?_
  obtain ⟨hh, g, d, tk, os⟩ := s
  wp_walk
  refine wpAny_loadPart I.at_ (wpAny_pure ?_)
  rw [I.cls]
  refine (PySem.W.looks_subIn X hs).here ?_
  wp_walk
  exact ⟨rfl, hq⟩
end
/-! a == b by the own __eq__ of b, where that of a declines -/
section
variable {prog : Program} {w : World} {A : Around} {E : Value → Shared → Prop} {s : Shared} {K : PySem.W.Frag} {x C L f : Addr} {h₀ : Heap} {m : Str → Option Value} {ox : Obj} {od : Option Obj} {a : Value} {T id : String}
theorem turned_K {Q : Value → Shared → Prop} (hu : A.units < cLine) (F : PyProof.Rows.Fr h₀ L s.heap m) (X₀ : K.In h₀) (I : PySem.W.InstAt s.heap x ox C od) (hT : s.TypeIs a T) (sl : Slot T "__eq__" id)
    (one : oneThing? .Eq a (.ref x) = none) (hs : PySem.W.subIn K (.ref C) (.type T) = some false)
    (no : ∀ {Q : Shared → Prop}, Q s → wpAny (model prog w) A (call (.builtin id) [a, .ref x]) (fun v s' => v = .notImplemented ∧ Q s') E s)
    (he : PySem.W.findIn K (.ref C) "__eq__" = some (some (.ref f))) (hf : PySem.W.isFn K (.ref f) = true)
    (h : wpAny (model prog w) A (call (.ref f) [.ref x, a]) (fun v s' => ∃ r, v = .bool r ∧ Q (.bool r) s') E s) : wpAny (model prog w) A (richCompare .Eq a (.ref x)) Q E s := by
  have X := X₀.keeps F.keep
  unfold richCompare
  simp only [one]
  refine wpAny_holding (wpAny_bind (wpAny_cRoomFor hu ?_))
  refine wpAny_bind (wpAny_typeOf hT (wpAny_bind (I.type.here ?_)))
  split
  · refine wpAny_bind ((PySem.W.looks_subIn X hs).here ?_)
    simp only [Bool.false_eq_true, if_false]
    refine wpAny_bind (wpAny_tryCompare_declines hT sl (no ?_))
    simp only [Bool.not_false, if_true]
    have two : wpAny (model prog w) A (tryCompare (.ref x) "__eq__" a) (fun r s' => ∃ v, r = some v ∧ Q v s') E s := by
      unfold tryCompare
      refine wpAny_bind (PySem.W.ifBound_K X I he hf (wpAny_mono h (fun v s' hv => ?_) fun _ _ e => e))
      obtain ⟨r, rfl, q⟩ := hv
      exact wpAny_pure ⟨_, rfl, q⟩
    refine wpAny_bind (wpAny_mono two (fun r s' z => ?_) fun _ _ e => e)
    obtain ⟨v, rfl, hq⟩ := z
    exact wpAny_pure hq
  · rename_i q
    exact absurd (by simp) q
end
end V3

set_option Elab.async false
set_option linter.all false
set_option maxRecDepth 100000
namespace V3
open PySem PySem.Spec PyProof.Rows L2
/-- what of a class is wanted where its objects stand behind texts, None and tuples -/
structure Behind (K : PySem.W.Frag) (C : Addr) : Prop where
  s : PySem.W.subIn K (.ref C) (.type "str") = some false
  n : PySem.W.subIn K (.ref C) (.type "NoneType") = some false
  t : PySem.W.subIn K (.ref C) (.type "tuple") = some false
inductive Plain (H : Hp) : V → Prop where
  | str (z : Str) : Plain H (.str z)
  | non : Plain H .non
  | tup {b : Addr} {ys : List V} (h : H b = some (.tup ys)) : Plain H (.ref b)
section
variable {prog : Program} {w : World} {A : Around} {E : Value → Shared → Prop} {s : Shared}
theorem eqB_str {z : Str} {t : Tok} {a : Addr} {Q : Bool → Shared → Prop} (h : wpAny (model prog w) A (richCompare .Eq (.str z t) (.ref a)) (fun v s' => ∃ r, v = .bool r ∧ Q r s') E s) :
    wpAny (model prog w) A (eqBool (.str z t) (.ref a)) Q E s := by
  unfold eqBool
  refine wpAny_holding (wpAny_ite_split (fun q => absurd (eq_of_beq q) (fun e => nomatch e)) fun _ => ?_)
  refine wpAny_bind (wpAny_mono h (fun v s' hv => ?_) fun _ _ x => x)
  obtain ⟨r, rfl, q⟩ := hv
  exact wpAny_truthy_bool q
theorem eqB_non {a : Addr} {Q : Bool → Shared → Prop} (h : wpAny (model prog w) A (richCompare .Eq .none (.ref a)) (fun v s' => ∃ r, v = .bool r ∧ Q r s') E s) :
    wpAny (model prog w) A (eqBool .none (.ref a)) Q E s := by
  unfold eqBool
  refine wpAny_holding (wpAny_ite_split (fun q => absurd (eq_of_beq q) (fun e => nomatch e)) fun _ => ?_)
  refine wpAny_bind (wpAny_mono h (fun v s' hv => ?_) fun _ _ x => x)
  obtain ⟨r, rfl, q⟩ := hv
  exact wpAny_truthy_bool q
end
section
variable {X : Cx} {n : Nat}
/-- x in (..), x of an own class, no item equal to it -/
def rInO (K : PySem.W.Frag) (FF : Addr → Sp → XK → Prop) : R2 := fun x y H Q => ∃ (a p C dx : Addr) (fs : List (Str × V)) (xs : List V) (sp : Sp) (E : XK), x = .ref a ∧ y = .ref p ∧ H a = some (.ins C dx fs) ∧ H p = some (.tup xs) ∧
  (∀ z ∈ xs, Plain H z) ∧ Behind K C ∧ FF C sp E ∧ (∀ z ∈ xs, sp [.ref a, z] H (fun v H' => v = .bl false ∧ H' = H) E) ∧ Q (.bl false) H
theorem op_inO {FF : Addr → Sp → XK → Prop} (hF : ∀ C sp E, FF C sp E → ∃ (CX : CXT) (f : Addr) (fd : FuncData) (ps : List Str), FnOk X.prog X.w X.K X.mg X.base CX n f fd ps sp ∧ EqCls X.K C f ∧ Binds X.K fd ps [] ∧ Passes CX X E) (hr : Room (n + 1) X.A) :
    OpR X (compareOp .In) (rInO X.K FF) := by
  intro pins s σ H x y v u Q I rx ry hq
  obtain ⟨a, p, C, dx, fs, xs, sp, E, rfl, rfl, ha, hp, pl, bh, ff, hsp, q⟩ := hq
  obtain ⟨CX, f, fd, ps, F, ec, bi, hx⟩ := hF C sp E ff
  cases rx
  cases ry
  obtain ⟨its, rv, ht, hz⟩ := I.tuple (SqT.of hp)
  obtain ⟨⟨c0, dd, da, sl⟩, ho, hc, m, hd⟩ := id ht
  simp only at hc hd
  subst hc hd
  show wpAny (model X.prog X.w) X.A (do return .bool (← contains (.ref p) (.ref a))) (EP X pins σ Q) X.xe s
  refine wpAny_bind (wpAny_contains_slot ⟨_, ho, rfl⟩ PySem.F.slot_tuple_contains (wpAny_mono (GQ.call_here (Q := fun v s' => v = .bool false ∧ Inv X pins σ H s') PySem.F.slot_tuple_contains ⟨_, ho, rfl⟩ PySem.F.entry_tuple_contains (PySem.F.args_tuple_contains_2 _ _)
    (tuple_none p its.toArray m dd sl (.ref a) (fun _ s' => Inv X pins σ H s') ?_ (fun s' J => ⟨rfl, J⟩) ho I)) (fun v s' hv => ?_) fun _ _ e => e))
  · intro i hi s' J
    have hi2 : i < its.length := by simpa using hi
    have hi3 : i < xs.length := by rw [rv.length]; exact hi2
    obtain ⟨u, hu, ru⟩ := rv.get (List.getElem?_eq_getElem hi3)
    have eu : its.toArray[i] = u := by
      rw [List.getElem?_eq_getElem hi2] at hu
      simpa using Option.some.inj hu
    rw [eu]
    have mem : xs[i] ∈ xs := List.getElem_mem hi3
    have pz := pl _ mem
    have own := hsp _ mem
    generalize xs[i] = z at ru pz own
    obtain ⟨mA, O, _⟩ := ins_get J.hok ha
    obtain ⟨od, IA, _⟩ := O.look
    obtain ⟨mm, hFr⟩ := J.fr
    have run : wpAny (model X.prog X.w) X.A.in1 (call (.ref f) [.ref a, u]) (fun v s2 => ∃ r, v = .bool r ∧ r = false ∧ Inv X pins σ H s2) X.xe s' :=
      wpAny_mono (run_own (x := .ref a) (y := z) ⟨hr.in1, rfl⟩ F bi hx J rfl ru own) (fun w s2 k => by
        obtain ⟨z2, H', J2, rz, ez, eH⟩ := k
        subst ez
        subst eH
        cases rz
        exact ⟨false, rfl, rfl, J2⟩) fun _ _ e => e
    have hu1 : X.A.in1.units < cLine := hr.in1.units0
    cases pz with
    | str zz =>
      obtain ⟨t, rfl⟩ := ru
      refine eqB_str (turned_K (T := "str") hu1 hFr J.ok.mod.kin IA (typeIs_str _ _ _) PySem.F.slot_str_eq rfl bh.s (fun k => str_declines IA.at_ rfl k) ec.eq ec.fn (wpAny_mono run (fun v s2 k => ?_) fun _ _ e => e))
      obtain ⟨r, rfl, e, J2⟩ := k
      exact ⟨r, rfl, r, rfl, e, J2⟩
    | non =>
      cases ru
      refine eqB_non (turned_K (T := "NoneType") hu1 hFr J.ok.mod.kin IA (typeIs_none _) PySem.F.slot_NoneType_eq rfl bh.n (fun k => none_declines k) ec.eq ec.fn (wpAny_mono run (fun v s2 k => ?_) fun _ _ e => e))
      obtain ⟨r, rfl, e, J2⟩ := k
      exact ⟨r, rfl, r, rfl, e, J2⟩
    | @tup b ys hb =>
      cases ru
      obtain ⟨its2, r2, ht2, hz2⟩ := J.tuple (SqT.of hb)
      have ne : b ≠ a := by
        intro e
        subst e
        rw [ha] at hb
        cases hb
      obtain ⟨o2, ho2, hc2, _⟩ := id ht2
      refine GQ.eqBool_refG ne (turned_K (T := "tuple") hu1 hFr J.ok.mod.kin IA ⟨o2, ho2, hc2⟩ PySem.F.slot_tuple_eq (by first | rfl | simp [oneThing_ref]) bh.t (fun k => tup_declines J.kIn IA bh.t ht2 k) ec.eq ec.fn (wpAny_mono run (fun v s2 k => ?_) fun _ _ e => e))
      obtain ⟨r, rfl, e, J2⟩ := k
      exact ⟨r, rfl, r, rfl, e, J2⟩
  · obtain ⟨rfl, J⟩ := hv
    exact wpAny_truthy_bool (wpAny_pure ⟨.bl false, H, J, rfl, q⟩)
end
end V3

set_option Elab.async false
set_option linter.all false
set_option maxRecDepth 100000
namespace V3
open PySem L2
def top (i : Nat) : Stmt := PySem.Challenge.pw_contrabooks_k11_rows_refused.main.body.getD i (.Pass ⟨0, 0, 0, 0⟩)
abbrev sSeed : Stmt := top 19
abbrev sChoose : Stmt := top 20
abbrev sOneOf : Stmt := top 21
/-- the box of draws: two numbers -/
def BoxOk (u v : Int) : Prop := 0 ≤ u ∧ 1 ≤ v ∧ v ≤ 2147483629
def box (u v : Int) : HO := .lst [.int u, .int v]
def BoxAt (H : Hp) (b : Addr) : Prop := ∃ u v, BoxOk u v ∧ H b = some (box u v)
def spSeed (K : PySem.W.Frag) : Sp := fun vs H Q _ => ∃ (a : Addr) (ns : List Int) (k : Int), vs = [.ref a, .int k] ∧ SqL K H a (ns.map V.int) ∧ ns.length ≤ 63 ∧ 0 ≤ k ∧ k ≤ 100 ∧
  ∀ (p : Addr) (u v : Int), H p = none → BoxOk u v → Q (.ref p) (upd H p (box u v))
def spChoose : Sp := fun vs H Q _ => ∃ (b : Addr) (u v m : Int), vs = [.ref b, .int m] ∧ H b = some (box u v) ∧ BoxOk u v ∧ 1 ≤ m ∧ m ≤ 10000000000000000000000000000000000000000 ∧
  ∀ d u' v' : Int, 0 ≤ d → d < m → BoxOk u' v' → Q (.int d) (upd H b (box u' v'))
def spOneOf (K : PySem.W.Frag) : Sp := fun vs H Q _ => ∃ (b l : Addr) (u v : Int) (xs : List V), vs = [.ref b, .ref l] ∧ H b = some (box u v) ∧ BoxOk u v ∧ l ≠ b ∧ SqL K H l xs ∧ 1 ≤ xs.length ∧ xs.length ≤ 1000 ∧
  ∀ (x : V) (u' v' : Int), x ∈ xs → BoxOk u' v' → Q x (upd H b (box u' v'))
structure Blt (mg : Str → Option Value) : Prop where
  len : mg "len" = none
  abs : mg "abs" = none
  int : mg "int" = none
/-- a def that stands at a name of the module -/
def Cal (P : Program) (w : World) (K : PySem.W.Frag) (mg : Str → Option Value) (base : Heap) (CX : CXT) (name : Str) (k : Nat) (ps : List Str) (sp : Sp) : Prop :=
  ∃ (f : Addr) (fd : FuncData), FnOk P w K mg base CX k f fd ps sp ∧ mg name = some (.ref f) ∧ PySem.W.keepIn K (.ref f) = true ∧ Binds K fd ps []
theorem seqL_ne {K : PySem.W.Frag} {H : Hp} {l b : Addr} {o : HO} {xs : List V} (ne : l ≠ b) (h : SqL K H l xs) : SqL K (upd H b o) l xs := by
  rcases h with (h | ⟨o, h⟩) | h
  · exact .inl (.inl (by rw [upd_ne ne]; exact h))
  · exact .inl (.inr ⟨o, by rw [upd_ne ne]; exact h⟩)
  · exact .inr h
theorem atI_ints {ns : List Int} {i : Int} (h0 : 0 ≤ i) (hj : i.toNat < ns.length) : atI (ns.map V.int) i = some (.int ns[i.toNat]) := by
  have e : ixN (ns.map V.int).length i = some i.toNat := by
    unfold ixN
    rw [if_pos h0, if_pos (by rw [List.length_map]; omega)]
  show (ixN (ns.map V.int).length i).bind (fun j => (ns.map V.int)[j]?) = some (.int ns[i.toNat])
  rw [e]
  show (ns.map V.int)[i.toNat]? = some (.int ns[i.toNat])
  rw [List.getElem?_map, List.getElem?_eq_getElem hj]
  rfl
section
variable {P : Program} {w : World} {K : PySem.W.Frag} {mg : Str → Option Value} {base : Heap}
theorem scSeed : FnScope ["_law_script", "_law_k", "_law_cell"] ["_law_script", "_law_k"] (defScope sSeed) := ⟨rfl, rfl, rfl, by decide +kernel, rfl, by decide +kernel, by decide +kernel⟩
theorem scChoose : FnScope ["_law_box", "_law_many", "_law_digit", "_law_first"] ["_law_box", "_law_many"] (defScope sChoose) := ⟨rfl, rfl, rfl, by decide +kernel, rfl, by decide +kernel, by decide +kernel⟩
theorem scOneOf : FnScope ["_law_box", "_law_some"] ["_law_box", "_law_some"] (defScope sOneOf) := ⟨rfl, rfl, rfl, by decide +kernel, rfl, by decide +kernel, by decide +kernel⟩
theorem ok_choose {f : Addr} {fd : FuncData} (F : Fun K "_law_choose" "_law_choose" sChoose f fd) (T : Blt mg) : FnOk P w K mg base CX0 1 f fd ["_law_box", "_law_many"] spChoose := by
  refine F.ok scChoose (fun vs H Q E h => ?_) (fun cdv A outer s H vs Q E hr h => ?_)
  · obtain ⟨b, u, v, m, rfl, _⟩ := h
    rfl
  · obtain ⟨b, u, v, m, rfl, hb, ok, m1, m2, k⟩ := h
    refine ⟨_, pss_cons (ps_if (pt_cmpR op_gt (pe_ix ix_list (pv 0) pe_int (fun _ _ => rfl)) pe_int (nomark _))
        (pss_cons (ps_set (i := 2) scChoose.nd rfl (Or.inl rfl) (pe_op op_mod (pe_callTy call_int1 (by rfl) T.int (by decide +kernel) (pa_cons (pe_ix ix_list (pv 0) pe_int (fun _ _ => rfl)) pa_nil)) (pv 1)))
        (pss_cons (ps_asg (pe_op op_fdivW (pe_ix ix_list (pv 0) pe_int (fun _ _ => rfl)) (pv 1)) (pg_sub (pv 0) pe_int set_list))
        (pss_one (ps_ret (pv 2))))) pss_nil)
      (pss_cons (ps_set (i := 3) scChoose.nd rfl (Or.inl rfl) (pe_op op_mod (pe_callTy call_int1 (by rfl) T.int (by decide +kernel) (pa_cons (pe_op op_add (pe_op op_mul (pe_ix ix_list (pv 0) pe_int (fun _ _ => rfl)) pe_int) pe_int) pa_nil)) pe_int))
      (pss_cons (ps_asg (pe_op op_add (pe_op op_mod (pe_callTy call_int1 (by rfl) T.int (by decide +kernel) (pa_cons (pe_op op_add (pe_op op_mul (pv 3) pe_int) pe_int) pa_nil)) pe_int) pe_int) (pg_sub (pv 0) pe_int set_list))
      (pss_one (ps_ret (pe_op op_mod (pe_callTy call_int1 (by rfl) T.int (by decide +kernel) (pa_cons (pe_op op_fdivW (pe_op op_add (pe_op op_mul (pv 3) pe_int) (pe_ix ix_list (pv 0) pe_int (fun _ _ => rfl))) pe_int) pa_nil)) (pv 1)))))), ?_⟩
    obtain ⟨u0, v1, v2⟩ := ok
    have hm : (0 : Int) < m := by omega
    have hw : m.natAbs < 2 ^ 140 := by
      have : (2 : Nat) ^ 140 = 1393796574908163946345982392040522594123776 := by decide
      omega
    refine ⟨_, rfl, b, _, 0, _, rfl, rfl, SqL.of hb, rfl, _, _, rfl, rfl, _, rfl, ?_⟩
    refine ite2 (fun c => ?_) (fun c => ?_)
    · refine ⟨_, rfl, b, _, 0, _, rfl, rfl, SqL.of hb, rfl, .inl ⟨_, rfl, _, rfl, _, _, rfl, rfl, hm, ?_⟩⟩
      refine ⟨_, rfl, b, _, 0, _, rfl, rfl, SqL.of hb, rfl, _, rfl, _, _, rfl, rfl, wide_div hm hw (by decide) (by decide), ?_⟩
      refine ⟨_, rfl, b, _, 0, 0, rfl, rfl, hb, rfl, _, rfl, ?_⟩
      exact k _ _ _ (Int.emod_nonneg _ (by omega)) (Int.emod_lt_of_pos _ hm) ⟨Int.ediv_nonneg u0 (by omega), v1, v2⟩
    · refine ⟨_, rfl, b, _, 1, _, rfl, rfl, SqL.of hb, rfl, _, _, rfl, rfl, .inl (by constructor <;> omega), _, _, rfl, rfl, .inl ⟨_, rfl, _, _, rfl, rfl, (by show (0 : Int) < 2147483563; decide), ?_⟩⟩
      have a1 := Int.emod_nonneg (v * 40014 + 11) (by decide : (2147483563 : Int) ≠ 0)
      have a2 := Int.emod_lt_of_pos (v * 40014 + 11) (by decide : (0 : Int) < 2147483563)
      refine ⟨_, rfl, _, _, rfl, rfl, .inl (by constructor <;> omega), _, _, rfl, rfl, .inl ⟨_, rfl, _, _, rfl, rfl, (by show (0 : Int) < 2147483629; decide), _, _, rfl, rfl, ?_⟩⟩
      refine ⟨_, rfl, b, _, 1, 1, rfl, rfl, hb, rfl, ?_⟩
      have b1 := Int.emod_nonneg ((v * 40014 + 11) % 2147483563 * 40692 + 2903) (by decide : (2147483629 : Int) ≠ 0)
      have b2 := Int.emod_lt_of_pos ((v * 40014 + 11) % 2147483563 * 40692 + 2903) (by decide : (0 : Int) < 2147483629)
      refine ⟨_, rfl, _, _, rfl, rfl, .inl (by constructor <;> omega), _, rfl, b, _, 1, _, rfl, rfl, SqL.of upd_same, rfl, _, _, rfl, rfl, _, _, rfl, rfl, wide_div (b := 14) (by decide) (by decide) (by decide) (by decide), .inl ⟨_, rfl, _, rfl, _, _, rfl, rfl, hm, ?_⟩⟩
      exact k _ _ _ (Int.emod_nonneg _ (by omega)) (Int.emod_lt_of_pos _ hm) ⟨u0, by omega, by omega⟩
theorem ok_oneOf {f : Addr} {fd : FuncData} (F : Fun K "_law_one_of" "_law_one_of" sOneOf f fd) (T : Blt mg) (c : Cal P w K mg base CX0 "_law_choose" 1 ["_law_box", "_law_many"] spChoose) : FnOk P w K mg base CX0 2 f fd ["_law_box", "_law_some"] (spOneOf K) := by
  obtain ⟨fC, fdC, GC, mC, kC, bC⟩ := c
  refine F.ok scOneOf (fun vs H Q E h => ?_) (fun cdv A outer s H vs Q E hr h => ?_)
  · obtain ⟨b, l, u, v, xs, rfl, _⟩ := h
    rfl
  · obtain ⟨b, l, u, v, xs, rfl, hb, ok, ne, hS, x1, x2, k⟩ := h
    refine ⟨_, pss_one (ps_ret (pe_ix ix_list (pv 1) (pe_call GC hr rfl mC kC bC .nil pass0 (pa_cons (pv 0) (pa_cons (pe_callB call_len_seq (by rfl) T.len PySem.boot_len (pa_cons (pv 1) pa_nil)) pa_nil))) (fun _ _ => rfl))), ?_⟩
    refine ⟨_, rfl, _, rfl, _, rfl, l, _, rfl, .inl hS, b, u, v, _, rfl, hb, ok, (by omega), (by omega), fun d u' v' d0 d1 ok' => ?_⟩
    have hj : d.toNat < xs.length := by omega
    refine ⟨l, xs, d, xs[d.toNat], rfl, rfl, ?_, ?_, k _ _ _ (List.getElem_mem hj) ok'⟩
    · exact seqL_ne ne hS
    · have e : ixN xs.length d = some d.toNat := by
        unfold ixN
        rw [if_pos d0, if_pos (by omega)]
      show (ixN xs.length d).bind (fun j => xs[j]?) = some xs[d.toNat]
      rw [e]
      exact List.getElem?_eq_getElem hj
theorem ok_seed {f : Addr} {fd : FuncData} (F : Fun K "_law_seed" "_law_seed" sSeed f fd) (T : Blt mg) : FnOk P w K mg base CX0 1 f fd ["_law_script", "_law_k"] (spSeed K) := by
  refine F.ok scSeed (fun vs H Q E h => ?_) (fun cdv A outer s H vs Q E hr h => ?_)
  · obtain ⟨a, ns, k, rfl, _⟩ := h
    rfl
  · obtain ⟨a, ns, k, rfl, hS, hl, k0, k1, go⟩ := h
    refine ⟨_, pss_cons (ps_set (i := 2) scSeed.nd rfl (Or.inl rfl) (pe_op op_add (pe_op op_mul pe_int (pv 1)) pe_int))
      (pss_cons (ps_if (pt_cmpR op_lt (pv 1) (pe_callB call_len_seq (by rfl) T.len PySem.boot_len (pa_cons (pv 0) pa_nil)) (nomark _))
        (pss_one (ps_set (i := 2) scSeed.nd rfl (Or.inl rfl) (pe_callB call_abs (by rfl) T.abs (by decide +kernel) (pa_cons (pe_ix ix_list (pv 0) (pv 1) (fun _ _ => rfl)) pa_nil))))
        (pss_one (ps_if (pt_cmpR op_gt (pe_callB call_len_seq (by rfl) T.len PySem.boot_len (pa_cons (pv 0) pa_nil)) pe_int (nomark _))
          (pss_one (ps_set (i := 2) scSeed.nd rfl (Or.inl rfl) (pe_op op_add (pv 2) (pe_op op_mul (pe_op op_mod (pe_callTy call_int1 (by rfl) T.int (by decide +kernel) (pa_cons (pe_callB call_abs (by rfl) T.abs (by decide +kernel) (pa_cons (pe_ix ix_list (pv 0) (pe_op op_mod (pe_callTy call_int1 (by rfl) T.int (by decide +kernel) (pa_cons (pv 1) pa_nil)) (pe_callB call_len_seq (by rfl) T.len PySem.boot_len (pa_cons (pv 0) pa_nil))) (fun _ _ => rfl)) pa_nil)) pa_nil)) pe_int) pe_int))))
          pss_nil)))
      (pss_one (ps_ret (pe_lst (pa_cons (pe_ifExp (pt_cmpR op_ge (pv 2) (pe_op op_pow pe_int pe_int) (nomark _)) (pv 2) pe_int)
        (pa_cons (pe_op op_add (pe_op op_mod (pe_callTy call_int1 (by rfl) T.int (by decide +kernel) (pa_cons (pe_op op_add (pe_op op_mul (pe_op op_mod (pe_callTy call_int1 (by rfl) T.int (by decide +kernel) (pa_cons (pv 2) pa_nil)) pe_int) pe_int) (pe_op op_mul pe_int (pv 1))) pa_nil)) pe_int) pe_int) pa_nil)))))), ?_⟩
    have hk1 : -(2 ^ 64) < (7411 : Int) ∧ (7411 : Int) < 2 ^ 64 := by constructor <;> decide
    refine ⟨_, rfl, _, _, rfl, rfl, .inl hk1, _, _, rfl, rfl, ?_⟩
    refine ⟨_, rfl, _, rfl, a, _, rfl, .inl hS, _, _, rfl, rfl, _, rfl, ?_⟩
    rw [List.length_map]
    refine ite2 (fun c => ?wayA) (fun c => ?wayB)
    case' wayA =>
      have c' : k < (ns.length : Int) := of_decide_eq_true c
      have hj : k.toNat < ns.length := by omega
      refine ⟨_, rfl, _, rfl, a, _, k, .int ns[k.toNat], rfl, rfl, hS, atI_ints k0 hj, _, rfl, ?_⟩
      have hc : 0 ≤ (if ns[k.toNat] < 0 then -ns[k.toNat] else ns[k.toNat]) := by split <;> omega
      generalize (if ns[k.toNat] < 0 then -ns[k.toNat] else ns[k.toNat]) = cell at hc
    case' wayB =>
      refine ⟨_, rfl, a, _, rfl, .inl hS, _, _, rfl, rfl, _, rfl, ?_⟩
      rw [List.length_map]
      refine ite2 (fun c2 => ?wayC) (fun c2 => ?wayD)
    case' wayC =>
      have c' : (0 : Int) < (ns.length : Int) := of_decide_eq_true c2
      have r0 := Int.emod_nonneg k (show (ns.length : Int) ≠ 0 by omega)
      have r1 := Int.emod_lt_of_pos k c'
      have hj : (k % (ns.length : Int)).toNat < ns.length := by omega
      refine ⟨_, rfl, _, rfl, _, rfl, .inl ⟨_, rfl, _, rfl, a, _, rfl, .inl hS, _, _, rfl, rfl, (by rw [List.length_map]; exact c'), ?_⟩⟩
      rw [List.length_map]
      refine ⟨a, _, k % (ns.length : Int), .int ns[(k % (ns.length : Int)).toNat], rfl, rfl, hS, atI_ints r0 hj, _, rfl, .inl ⟨_, rfl, _, _, rfl, rfl, (by show (0 : Int) < 2147483629; decide), _, _, rfl, rfl, .inr (by constructor <;> decide), _, _, rfl, rfl, ?_⟩⟩
      generalize (if ns[(k % (ns.length : Int)).toNat] < 0 then -ns[(k % (ns.length : Int)).toNat] else ns[(k % (ns.length : Int)).toNat]) = z
      have z0 := Int.emod_nonneg z (by decide : (2147483629 : Int) ≠ 0)
      have hc : 0 ≤ 7411 * k + 29 + z % 2147483629 * 40093 := by omega
      generalize 7411 * k + 29 + z % 2147483629 * 40093 = cell at hc
    case' wayD =>
      have hc : 0 ≤ 7411 * k + 29 := by omega
      generalize 7411 * k + 29 = cell at hc
    all_goals (
      refine ⟨_, rfl, _, _, rfl, rfl, ⟨by decide, by decide, by decide⟩, _, _, rfl, rfl, _, rfl, ?_⟩
      have e1 := Int.emod_nonneg cell (by decide : (2147483629 : Int) ≠ 0)
      have e2 := Int.emod_lt_of_pos cell (by decide : (0 : Int) < 2147483629)
      have f1 := Int.emod_nonneg (cell % 2147483629 * 48271 + 20021 * k) (by decide : (2147483629 : Int) ≠ 0)
      have f2 := Int.emod_lt_of_pos (cell % 2147483629 * 48271 + 20021 * k) (by decide : (0 : Int) < 2147483629)
      refine ite2 (fun _ => ⟨_, rfl, ?_⟩) (fun _ => ?_)
      all_goals (
        refine ⟨_, rfl, .inl ⟨_, rfl, _, _, rfl, rfl, (by show (0 : Int) < 2147483629; decide), _, _, rfl, rfl, .inl (by constructor <;> omega), _, rfl, _, _, rfl, rfl, .inl (by constructor <;> decide), _, _, rfl, rfl, .inl ⟨_, rfl, _, _, rfl, rfl, (by show (0 : Int) < 2147483629; decide), _, _, rfl, rfl, (by show 2 ≤ sizeLine; decide), fun p hp => ?_⟩⟩⟩
        exact go p _ _ hp ⟨by omega, by omega, by omega⟩))
end
end V3

set_option Elab.async false
set_option linter.all false
set_option maxRecDepth 100000
namespace V3
open PySem L2 TL
def num (i : Int) : Str := Str.ofString (toString i)
def Am (i : Int) : Prop := i.natAbs ≤ 10000000000000000000000000000000000000000
theorem am_log {i : Int} (h : Am i) : i.natAbs.log2 < 1920 := Nat.lt_of_lt_of_le (PySem.Flt.log2_lt_of (k := 140) (by decide) (by
  have : (2 : Nat) ^ 140 = 1393796574908163946345982392040522594123776 := by decide
  unfold Am at h
  omega)) (by decide)
theorem num_len {i : Int} (h : Am i) : (num i).length ≤ 1921 := PyProof.Rows.int_text_len_1921 (am_log h)
theorem app_len (x y : Str) : (x ++ y).length = x.length + y.length := PySem.Str.length_append x y
theorem small {n : Nat} (h : n ≤ 10000) : n ≤ sizeLine := Nat.le_trans h (by decide)
def sp1 : Str := " "
theorem tl_num' {t : Int} (h : 0 ≤ t) : tl (num t) = numL t.toNat := by
  have e : ((t.toNat : Nat) : Int) = t := by omega
  have z := tl_num t.toNat
  rw [e] at z
  exact z
theorem num_free {t : Int} {s : Nat} (h : 0 ≤ t) (hs : s < 48 ∨ 57 < s) : s ∉ tl (num t) := by
  rw [tl_num' h]
  exact numL_free hs
theorem sp_tl : tl sp1 = [32] := by decide +kernel
theorem Same.new {p : Addr} {H : Hp} {o : HO} (hp : H p = none) : Same H (upd H p o) := fun c u h => by rw [upd_ne (ne_of_none h hp)]; exact h
theorem made_same {H : Hp} {y dy : Addr} {o1 o2 : HO} (ny : H y = none) (ndy : H dy = none) : Same H (upd (upd H dy o1) y o2) := fun b o e => by
  rw [upd_ne (ne_of_none e ny), upd_ne (ne_of_none e ndy)]
  exact e
theorem made_same2 {H : Hp} {y dy : Addr} {o1 o2 o3 : HO} (ny : H y = none) (ndy : H dy = none) : Same H (upd (upd (upd H dy o1) y o2) y o3) := fun b o e => by
  rw [upd_ne (ne_of_none e ny), upd_ne (ne_of_none e ny), upd_ne (ne_of_none e ndy)]
  exact e
def SameX (b : Addr) (H H' : Hp) : Prop := ∀ c o, c ≠ b → H c = some o → H' c = some o
theorem SameX.refl {b : Addr} {H : Hp} : SameX b H H := fun _ _ _ h => h
theorem SameX.trans {b : Addr} {H H1 H2 : Hp} (s : SameX b H H1) (t : SameX b H1 H2) : SameX b H H2 := fun c o n h => t c o n (s c o n h)
theorem SameX.of {b : Addr} {H H' : Hp} (s : Same H H') : SameX b H H' := fun c o _ h => s c o h
theorem SameX.box {b : Addr} {H : Hp} {o : HO} : SameX b H (upd H b o) := fun c _ n h => by rw [upd_ne n]; exact h
def Pre (b : Addr) (H H' : Hp) : Prop := SameX b H H' ∧ ∃ u v, BoxOk u v ∧ H' b = some (box u v)
theorem Pre.trans {b : Addr} {H H1 H2 : Hp} (s : Pre b H H1) (t : Pre b H1 H2) : Pre b H H2 := ⟨s.1.trans t.1, t.2⟩
theorem Pre.then {b : Addr} {H H1 H2 : Hp} (s : Pre b H H1) (t : Same H1 H2) : Pre b H H2 := by
  obtain ⟨h, u, v, ok, e⟩ := s
  exact ⟨h.trans (SameX.of t), u, v, ok, t _ _ e⟩
theorem Pre.box {b : Addr} {H : Hp} {u v : Int} (ok : BoxOk u v) : Pre b H (upd H b (box u v)) := ⟨SameX.box, u, v, ok, upd_same⟩
theorem Pre.start {b : Addr} {H : Hp} {u v : Int} (ok : BoxOk u v) (h : H b = some (V3.box u v)) : Pre b H H := ⟨SameX.refl, u, v, ok, h⟩
def Keep (H H' : Hp) : Prop := ∀ c o, (∀ xs, o ≠ .lst xs) → H c = some o → H' c = some o
theorem Keep.of {H H' : Hp} (s : Same H H') : Keep H H' := fun c o _ h => s c o h
theorem Keep.lst {H : Hp} {D : Addr} {xs : List V} {o : HO} (hD : H D = some (.lst xs)) : Keep H (upd H D o) := fun c u n h => by
  have nc : c ≠ D := fun e => by
    subst e
    rw [hD] at h
    injection h with h
    exact n _ h.symm
  rw [upd_ne nc]
  exact h
theorem Keep.pre {H H' : Hp} {b : Addr} {xs : List V} (hb : H b = some (.lst xs)) (s : SameX b H H') : Keep H H' := fun c u n h => by
  have nc : c ≠ b := fun e => by
    subst e
    rw [hb] at h
    injection h with h
    exact n _ h.symm
  exact s c u nc h
theorem at_end {α : Type} {xs : List α} {x y : α} {i : Nat} (h : (xs ++ [x])[i]? = some y) : (i < xs.length ∧ xs[i]? = some y) ∨ (i = xs.length ∧ y = x) := by
  by_cases c : i < xs.length
  · exact .inl ⟨c, by rw [List.getElem?_append_left c] at h; exact h⟩
  · rw [List.getElem?_append_right (by omega)] at h
    obtain ⟨l, e⟩ := List.getElem?_eq_some_iff.mp h
    have z : i - xs.length = 0 := by simpa using l
    exact .inr ⟨by omega, by simp [z] at e; exact e.symm⟩
theorem at_old {α : Type} {xs : List α} {x y : α} {i : Nat} (h : xs[i]? = some y) : (xs ++ [x])[i]? = some y := by
  have l := (List.getElem?_eq_some_iff.mp h).1
  rw [List.getElem?_append_left l]
  exact h
theorem at_new {α : Type} {xs : List α} {x : α} {n : Nat} (h : xs.length = n) : (xs ++ [x])[n]? = some x := by
  subst h
  simp
theorem take_next {α : Type} {ms : List α} {m : α} {i : Nat} (h : ms[i]? = some m) : ms.take (i + 1) = ms.take i ++ [m] := by
  rw [List.take_add_one, h]
  rfl
theorem Same.upn {H H1 : Hp} {b : Addr} {o : HO} (s : Same H H1) (nb : H b = none) : Same H (upd H1 b o) := fun c u e => by
  rw [upd_ne (ne_of_none e nb)]
  exact s c u e
theorem Pre.all {b : Addr} {H H' : Hp} (p : Pre b H H') (n : H b = none) : Same H H' := fun c o h => p.1 c o (ne_of_none h n) h
end V3

set_option Elab.async false
set_option linter.all false
set_option maxRecDepth 100000
namespace V3
open PySem L2 TL
/-! rows of houses and of reports: their words and texts -/
def kindL : List Str := ["first", "new", "minus", "plus"]
def stateL : List Str := ["open", "shut"]
def deedL : List Str := ["whole", "part", "right"]
def placeL : List Str := ["now", "there"]
def whoseL : List Str := ["own", "target", "top", "deed"]
inductive Rw where
  | lt (k s d p : Str)
  | ct (k : Str) (w : Int) (o : Str)
  deriving DecidableEq
def Wt (w : Int) : Prop := w = -1 ∨ w = 0 ∨ w = 1
def Rw.ok : Rw → Prop
  | .lt k s d p => k ∈ kindL ∧ s ∈ stateL ∧ d ∈ deedL ∧ p ∈ placeL ∧ (d = "right" → k = "first" ∨ k = "new")
  | .ct k w o => k ∈ kindL ∧ Wt w ∧ o ∈ whoseL
def Rw.words : Rw → List Str
  | .lt k s d p => [k, s, d, p]
  | .ct k w o => [k, num w, o]
def Rw.text (m : Rw) : Str := Str.join sp1 m.words
def Rw.kind : Rw → Nat
  | .lt _ _ _ _ => 0
  | .ct _ _ _ => 1
theorem all_free : ∀ p ∈ kindL ++ stateL ++ deedL ++ placeL ++ whoseL ++ [num (-1), num 0, num 1], (32 ∉ tl p ∧ 10 ∉ tl p) ∧ p.length ≤ 6 := by decide +kernel
theorem wt_word {w : Int} (h : Wt w) : num w ∈ [num (-1), num 0, num 1] := by
  rcases h with rfl | rfl | rfl <;> simp
theorem word_ok {m : Rw} (h : m.ok) : ∀ p ∈ m.words, (32 ∉ tl p ∧ 10 ∉ tl p) ∧ p.length ≤ 6 := by
  intro p hp
  refine all_free p ?_
  cases m with
  | lt k s d q =>
    obtain ⟨a, b, c, e, _⟩ := h
    simp only [Rw.words, List.mem_cons, List.not_mem_nil, or_false] at hp
    simp only [List.mem_append]
    rcases hp with rfl | rfl | rfl | rfl
    · exact .inl (.inl (.inl (.inl (.inl a))))
    · exact .inl (.inl (.inl (.inl (.inr b))))
    · exact .inl (.inl (.inl (.inr c)))
    · exact .inl (.inl (.inr e))
  | ct k w o =>
    obtain ⟨a, b, c⟩ := h
    simp only [Rw.words, List.mem_cons, List.not_mem_nil, or_false] at hp
    simp only [List.mem_append]
    rcases hp with rfl | rfl | rfl
    · exact .inl (.inl (.inl (.inl (.inl a))))
    · exact .inr (wt_word b)
    · exact .inl (.inr c)
theorem rw_ne (m : Rw) : m.words ≠ [] := by cases m <;> exact (fun z => nomatch z)
theorem rw_split {m : Rw} (h : m.ok) : Txt.split m.text sp1 = m.words := by
  unfold Rw.text
  have z := split_join sp_tl (by decide +kernel) (rw_ne m) fun p hp => (word_ok h p hp).1.1
  rw [join_eq] at z
  exact z
theorem wt_inj {v w : Int} (hv : Wt v) (hw : Wt w) (e : num v = num w) : v = w := by
  have d1 : num (-1) ≠ num 0 := by decide +kernel
  have d2 : num (-1) ≠ num 1 := by decide +kernel
  have d3 : num 0 ≠ num 1 := by decide +kernel
  rcases hv with rfl | rfl | rfl <;> rcases hw with rfl | rfl | rfl <;> first | rfl | exact absurd e d1 | exact absurd e d2 | exact absurd e d3 | exact absurd e.symm d1 | exact absurd e.symm d2 | exact absurd e.symm d3
theorem rw_inj {m n : Rw} (hm : m.ok) (hn : n.ok) (h : m.text = n.text) : m = n := by
  have e : m.words = n.words := by rw [← rw_split hm, ← rw_split hn, h]
  cases m with
  | lt k s d p =>
    cases n with
    | lt k' s' d' p' =>
      simp only [Rw.words, List.cons.injEq, and_true] at e
      obtain ⟨rfl, rfl, rfl, rfl⟩ := e
      rfl
    | ct k' w' o' => simp [Rw.words] at e
  | ct k w o =>
    cases n with
    | lt k' s' d' p' => simp [Rw.words] at e
    | ct k' w' o' =>
      simp only [Rw.words, List.cons.injEq, and_true] at e
      obtain ⟨rfl, ew, rfl⟩ := e
      rw [wt_inj hm.2.1 hn.2.1 ew]
theorem rw_dec {m n : Rw} (hm : m.ok) (hn : n.ok) : decide (m.text = n.text) = decide (m = n) := by
  by_cases h : m = n
  · rw [h, decide_eq_true rfl, decide_eq_true rfl]
  · rw [decide_eq_false h, decide_eq_false (fun e => h (rw_inj hm hn e))]
/-- what the two classes write -/
theorem let_text (k s d p : Str) : Str.empty ++ k ++ " " ++ s ++ " " ++ d ++ " " ++ p = (Rw.lt k s d p).text := ext_tl (by
  unfold Rw.text
  rw [tl_join]
  have e : tl (" " : Str) = [32] := by decide +kernel
  simp only [tl_append, Rw.words, List.map, joinL, sp_tl, e]
  simp [Str.empty, tl])
theorem cnt_text (k : Str) (w : Int) (o : Str) : Str.empty ++ k ++ " " ++ num w ++ " " ++ o = (Rw.ct k w o).text := ext_tl (by
  unfold Rw.text
  rw [tl_join]
  have e : tl (" " : Str) = [32] := by decide +kernel
  simp only [tl_append, Rw.words, List.map, joinL, sp_tl, e]
  simp [Str.empty, tl])
theorem inV_str {k : Str} {L : List Str} : inV (.str k) (L.map V.str) = decide (k ∈ L) := by
  induction L with
  | nil => rfl
  | cons a r ih =>
    have e : inV (.str k) ((a :: r).map V.str) = (a == k || inV (.str k) (r.map V.str)) := rfl
    rw [e, ih]
    by_cases q : k = a
    · subst q
      simp
    · have z : (a == k) = false := Bool.eq_false_iff.mpr fun w => q (eq_of_beq w).symm
      rw [z]
      simp [q]
theorem flat_strs (L : List Str) : (L.map V.str).all flatV = true := by
  induction L with
  | nil => rfl
  | cons a r ih => simpa [flatV] using ih
/-- fields -/
theorem putF_ne {f g : Str} {v x : V} {r : List (Str × V)} (h : g ≠ f) : putF f v ((g, x) :: r) = (g, x) :: putF f v r := by
  show (if g = f then _ else _) = _
  rw [if_neg h]
theorem lk_ne {f g : Str} {v : V} {r : List (Str × V)} (h : (g == f) = false) : List.lookup g ((f, v) :: r) = List.lookup g r := by
  simp [List.lookup, h]
structure Rc where
  L : Addr
  C : Addr
def Rc.at (c : Rc) : Nat → Addr
  | 0 => c.L
  | _ => c.C
def letF (k s d p : V) : List (Str × V) := [("kind", k), ("state", s), ("deed", d), ("place", p)]
def cntF (k w o : V) : List (Str × V) := [("kind", k), ("weight", w), ("whose", o)]
def Rw.fs : Rw → List (Str × V)
  | .lt k s d p => letF (.str k) (.str s) (.str d) (.str p)
  | .ct k w o => cntF (.str k) (.int w) (.str o)
def Rw.obj (c : Rc) (dx : Addr) (m : Rw) : HO := .ins (c.at m.kind) dx m.fs
def RwAt (c : Rc) (H : Hp) (v : V) (m : Rw) : Prop := ∃ x dx, v = .ref x ∧ H x = some (m.obj c dx)
theorem RwAt.keep {c : Rc} {H H' : Hp} {v : V} {m : Rw} (h : RwAt c H v m) (s : Keep H H') : RwAt c H' v m := by
  obtain ⟨x, dx, e, hx⟩ := h
  exact ⟨x, dx, e, s _ _ (fun _ z => by cases z) hx⟩
theorem RwAt.same {c : Rc} {H H' : Hp} {v : V} {m : Rw} (h : RwAt c H v m) (s : Same H H') : RwAt c H' v m := h.keep (Keep.of s)
theorem rkind_lt (m : Rw) : m.kind < 2 := by cases m <;> (simp only [Rw.kind]; omega)
theorem let_put (k s d p : V) : putF "place" p (putF "deed" d (putF "state" s (putF "kind" k []))) = letF k s d p := by
  have a1 : ("kind" : Str) ≠ "state" := by decide +kernel
  have a2 : ("kind" : Str) ≠ "deed" := by decide +kernel
  have a3 : ("kind" : Str) ≠ "place" := by decide +kernel
  have a4 : ("state" : Str) ≠ "deed" := by decide +kernel
  have a5 : ("state" : Str) ≠ "place" := by decide +kernel
  have a6 : ("deed" : Str) ≠ "place" := by decide +kernel
  show putF "place" p (putF "deed" d (putF "state" s [("kind", k)])) = _
  rw [putF_ne a1]
  show putF "place" p (putF "deed" d [("kind", k), ("state", s)]) = _
  rw [putF_ne a2, putF_ne a4]
  show putF "place" p [("kind", k), ("state", s), ("deed", d)] = _
  rw [putF_ne a3, putF_ne a5, putF_ne a6]
  rfl
theorem cnt_put (k w o : V) : putF "whose" o (putF "weight" w (putF "kind" k [])) = cntF k w o := by
  have a1 : ("kind" : Str) ≠ "weight" := by decide +kernel
  have a2 : ("kind" : Str) ≠ "whose" := by decide +kernel
  have a3 : ("weight" : Str) ≠ "whose" := by decide +kernel
  show putF "whose" o (putF "weight" w [("kind", k)]) = _
  rw [putF_ne a1]
  show putF "whose" o [("kind", k), ("weight", w)] = _
  rw [putF_ne a2, putF_ne a3]
  rfl
theorem let_kind (k s d p : V) : (letF k s d p).lookup ("kind" : Str) = some k := rfl
theorem let_state (k s d p : V) : (letF k s d p).lookup ("state" : Str) = some s := by
  unfold letF
  rw [lk_ne (by decide +kernel)]
  rfl
theorem let_deed (k s d p : V) : (letF k s d p).lookup ("deed" : Str) = some d := by
  unfold letF
  rw [lk_ne (by decide +kernel), lk_ne (by decide +kernel)]
  rfl
theorem let_place (k s d p : V) : (letF k s d p).lookup ("place" : Str) = some p := by
  unfold letF
  rw [lk_ne (by decide +kernel), lk_ne (by decide +kernel), lk_ne (by decide +kernel)]
  rfl
theorem cnt_kind (k w o : V) : (cntF k w o).lookup ("kind" : Str) = some k := rfl
theorem cnt_weight (k w o : V) : (cntF k w o).lookup ("weight" : Str) = some w := by
  unfold cntF
  rw [lk_ne (by decide +kernel)]
  rfl
theorem cnt_whose (k w o : V) : (cntF k w o).lookup ("whose" : Str) = some o := by
  unfold cntF
  rw [lk_ne (by decide +kernel), lk_ne (by decide +kernel)]
  rfl
end V3

set_option Elab.async false
set_option linter.all false
set_option maxRecDepth 100000
namespace V3
open PySem L2
abbrev sIsInt : Stmt := top 1
-- no sIsNum
theorem scIsInt : FnScope ["value"] ["value"] (defScope sIsInt) := ⟨rfl, rfl, rfl, by decide +kernel, rfl, by decide +kernel, by decide +kernel⟩
end V3

set_option Elab.async false
set_option linter.all false
set_option maxRecDepth 100000
namespace V3
open PySem L2
-- no sIsAmt
-- no sImInit
-- no sBInit
-- no sBStr
-- no sTInit
-- no sTStr
-- no sRInit
-- no sRStr
/-- any value: none of it too great -/
inductive AV (H : Hp) : V → Prop where
  | non : AV H .non
  | bl (b : Bool) : AV H (.bl b)
  | int (i : Int) (h : i.natAbs ≤ 10000000000000000000000000000000000000000) : AV H (.int i)
  | str (z : Str) : AV H (.str z)
  | lst {a : Addr} {xs : List V} (h : H a = some (.lst xs)) : AV H (.ref a)
  | tup {a : Addr} {xs : List V} (h : H a = some (.tup xs)) : AV H (.ref a)
theorem AV.same {H H' : Hp} {v : V} (h : AV H v) (s : Same H H') : AV H' v := by
  cases h with
  | non => exact .non
  | bl b => exact .bl b
  | int i h => exact .int i h
  | str z => exact .str z
  | lst h => exact .lst (s _ _ h)
  | tup h => exact .tup (s _ _ h)
def isNum : V → Int → Bool
  | .int i, n => decide (n ≤ i)
  | _, _ => false
def isI : V → Bool
  | .int _ => true
  | .bl _ => true
  | _ => false
def isB : V → Bool
  | .bl _ => true
  | _ => false
theorem av_ty {K : PySem.W.Frag} {H : Hp} {v : V} (h : AV H v) : ∃ t, TyX K H v t ∧ PySem.W.kitOne K t (.type "int") = some (isI v) ∧ PySem.W.kitOne K t (.type "bool") = some (isB v) := by
  cases h with
  | non => exact ⟨_, .base .non, (show PySem.W.kitOne K (.type "NoneType") (.type "int") = some false from kit_ty (by decide +kernel)), (show PySem.W.kitOne K (.type "NoneType") (.type "bool") = some false from kit_ty (by decide +kernel))⟩
  | bl b => exact ⟨_, .base (.bl b), (show PySem.W.kitOne K (.type "bool") (.type "int") = some true from kit_ty (by decide +kernel)), (show PySem.W.kitOne K (.type "bool") (.type "bool") = some true from kit_ty (by decide +kernel))⟩
  | int i h => exact ⟨_, .base (.int i), (show PySem.W.kitOne K (.type "int") (.type "int") = some true from kit_ty (by decide +kernel)), (show PySem.W.kitOne K (.type "int") (.type "bool") = some false from kit_ty (by decide +kernel))⟩
  | str z => exact ⟨_, .base (.str z), (show PySem.W.kitOne K (.type "str") (.type "int") = some false from kit_ty (by decide +kernel)), (show PySem.W.kitOne K (.type "str") (.type "bool") = some false from kit_ty (by decide +kernel))⟩
  | lst h => exact ⟨_, .base (.lst h), (show PySem.W.kitOne K (.type "list") (.type "int") = some false from kit_ty (by decide +kernel)), (show PySem.W.kitOne K (.type "list") (.type "bool") = some false from kit_ty (by decide +kernel))⟩
  | tup h => exact ⟨_, .base (.tup h), (show PySem.W.kitOne K (.type "tuple") (.type "int") = some false from kit_ty (by decide +kernel)), (show PySem.W.kitOne K (.type "tuple") (.type "bool") = some false from kit_ty (by decide +kernel))⟩
theorem num_of {v : V} {n : Int} (h : isNum v n = true) : ∃ i : Int, v = .int i ∧ n ≤ i := by
  cases v with
  | int i => exact ⟨i, rfl, of_decide_eq_true h⟩
  | _ => cases h
structure BltB (mg : Str → Option Value) : Prop where
  isi : mg "isinstance" = none
  int : mg "int" = none
  bool : mg "bool" = none
def isIntV : V → Bool
  | .int _ => true
  | _ => false
def spInt : Sp := fun vs H Q _ => ∃ v, vs = [v] ∧ AV H v ∧ Q (.bl (isIntV v)) H
def spNum : Sp := fun vs H Q _ => ∃ v, vs = [v] ∧ AV H v ∧ Q (.bl (isNum v 0)) H
def spAmt : Sp := fun vs H Q _ => ∃ v, vs = [v] ∧ AV H v ∧ Q (.bl (isNum v 1)) H
section
variable {P : Program} {w : World} {K : PySem.W.Frag} {mg : Str → Option Value} {base : Heap}
theorem ok_isInt {f : Addr} {fd : FuncData} (F : Fun K "is_integer" "is_integer" sIsInt f fd) (T : BltB mg) : FnOk P w K mg base CX0 1 f fd ["value"] spInt := by
  refine F.ok scIsInt (fun vs H Q E h => ?_) (fun cdv A outer s H vs Q E hr h => ?_)
  · obtain ⟨v, rfl, _⟩ := h
    rfl
  · obtain ⟨v, rfl, av, q⟩ := h
    obtain ⟨t, ty, k1, k2⟩ := av_ty (K := K) av
    refine ⟨_, pss_one (ps_ret (pe_and (pe_callB call_isi (by rfl) T.isi (by decide +kernel) (pa_cons (pv 0) (pa_cons (pe_bltn (v := .ty "int") (by rfl) T.int (by decide +kernel) rfl) pa_nil)))
      (pe_one (pe_not (pe_callB call_isi (by rfl) T.isi (by decide +kernel) (pa_cons (pv 0) (pa_cons (pe_bltn (v := .ty "bool") (by rfl) T.bool (by decide +kernel) rfl) pa_nil))))))), ?_⟩
    refine ⟨_, rfl, _, _, t, _, _, rfl, .ty "int", ty, k1, _, rfl, ?_⟩
    cases v with
    | int i =>
      refine iteT ?_
      exact ⟨_, rfl, _, _, t, _, _, rfl, .ty "bool", ty, k2, _, rfl, q⟩
    | bl b =>
      refine iteT ?_
      exact ⟨_, rfl, _, _, t, _, _, rfl, .ty "bool", ty, k2, _, rfl, q⟩
    | non => exact iteF q
    | str z => exact iteF q
    | ref a => exact iteF q
    | byt z => exact iteF q
    | flt z => exact iteF q
    | ty z => exact iteF q
end
end V3

set_option Elab.async false
set_option linter.all false
set_option maxRecDepth 100000
namespace V3
open PySem L2
/-! the error -/
def spIM (C : Addr) : Sp := fun vs H Q _ => ∃ (a : Addr) (y : V), vs = [.ref a, y] ∧ H a = some (exo a C none) ∧
  ∀ d, H d = none → d ≠ a → Q .non (upd (upd H d (exd d [("word", y)])) a (exo a C (some d)))
/-- what the module says of InvalidMove -/
structure ImTxt (P : Program) (w : World) (K : PySem.W.Frag) (mg : Str → Option Value) (base : Heap) (C : Addr) : Prop where
  g : mg "InvalidMove" = some (.ref C)
  o : OexC K C
  no : PySem.W.findIn K (.ref C) "word" = some none
  ini : ∃ (f : Addr) (fd : FuncData), FnOk P w K mg base CX0 1 f fd ["self", "word"] (spIM C) ∧ PySem.W.findIn K (.ref C) "__init__" = some (some (.ref f)) ∧ PySem.W.typeIn K (.ref f) = some (.type "function") ∧ Binds K fd ["self", "word"] []
/-- behind a raise: an error with the word, all else as it was -/
def Er (C : Addr) (H : Hp) (E : XK) (word : Str) : Prop := ∀ (d : Addr) (H' : Hp), Same H H' → H' d = some (.xd [("word", .str word)]) → E (.ref C) (some d) H'
section
variable {P : Program} {w : World} {K : PySem.W.Frag} {mg : Str → Option Value} {base : Heap}
theorem raise_same {H : Hp} {a d : Addr} {o1 o2 o3 o4 : HO} (na : H a = none) (nd : upd H a o1 d = none) (ne : d ≠ a) : Same H (upd (del (upd (upd (upd H a o1) d o2) a o3) a) d o4) := by
  intro b o e
  have ba : b ≠ a := fun z => by
    rw [z, na] at e
    cases e
  have hd : H d = none := by
    rw [upd_ne ne] at nd
    exact nd
  have bd : b ≠ d := fun z => by
    rw [z, hd] at e
    cases e
  rw [upd_ne bd, del_ne ba, upd_ne ba, upd_ne bd, upd_ne ba]
  exact e
/-- raise InvalidMove("..") in a def's own frame -/
theorem er_read {C : Addr} {H : Hp} {E : XK} {word : Str} (h : Er C H E word) : ∀ a, H a = none → spIM C (.ref a :: ([V.str word] ++ [])) (upd H a (exo a C none))
    (fun v H2 => v = .non ∧ ∃ (d : Addr) (fs : List (Str × V)), H2 a = some (exo a C (some d)) ∧ H2 d = some (exd d fs) ∧ H d = none ∧ E (.ref C) (some d) (upd (del H2 a) d (.xd fs))) (fun _ _ _ => False) := by
  intro a na
  refine ⟨a, _, rfl, upd_same, fun d nd ne => ⟨rfl, d, [("word", .str word)], upd_same, ?_, ?_, ?_⟩⟩
  · rw [upd_ne ne]
    exact upd_same
  · rw [upd_ne ne] at nd
    exact nd
  · exact h d _ (raise_same na nd ne) upd_same
/-! Begin -/
def spBegin (C CM : Addr) : Sp := fun vs H Q E => ∃ (x dx : Addr) (v : V), vs = [.ref x, v] ∧ H x = some (.ins C dx []) ∧ AV H v ∧
  (isNum v 1 = true → Q .non (upd H x (.ins C dx [("amount", v)]))) ∧ (isNum v 1 = false → Er CM H E "amount")
abbrev CalNum (P : Program) (w : World) (K : PySem.W.Frag) (mg : Str → Option Value) (base : Heap) : Prop := Cal P w K mg base CX0 "is_number" 2 ["value"] spNum
abbrev CalAmt (P : Program) (w : World) (K : PySem.W.Frag) (mg : Str → Option Value) (base : Heap) : Prop := Cal P w K mg base CX0 "is_amount" 3 ["value"] spAmt
/-! Take, Right -/
def two (a v : V) : List (Str × V) := [("at", a), ("amount", v)]
theorem ne_at : ¬ (("at" : Str) = "amount") := by decide +kernel
theorem put_two (a v : V) : putF "amount" v (putF "at" a []) = two a v := by
  show (if ("at" : Str) = "amount" then [(("at" : Str), v)] else (("at" : Str), a) :: putF "amount" v []) = two a v
  rw [if_neg ne_at]
  rfl
theorem two_at (a v : V) : (two a v).lookup ("at" : Str) = some a := by
  rw [← put_two, lookup_putF, if_neg ne_at, lookup_putF, if_pos rfl]
theorem two_am (a v : V) : (two a v).lookup ("amount" : Str) = some v := by
  rw [← put_two, lookup_putF, if_pos rfl]
def spTake (C CM : Addr) : Sp := fun vs H Q E => ∃ (x dx : Addr) (a v : V), vs = [.ref x, a, v] ∧ H x = some (.ins C dx []) ∧ AV H a ∧ AV H v ∧
  (isNum a 0 = true → (v = .non ∨ isNum v 1 = true) → Q .non (upd H x (.ins C dx (two a v)))) ∧ (isNum a 0 = false → Er CM H E "at") ∧
  (isNum a 0 = true → ¬ v = .non → isNum v 1 = false → Er CM H E "amount")
def spRight (C CM : Addr) : Sp := fun vs H Q E => ∃ (x dx : Addr) (a v : V), vs = [.ref x, a, v] ∧ H x = some (.ins C dx []) ∧ AV H a ∧ AV H v ∧
  (isNum a 0 = true → isNum v 1 = true → Q .non (upd H x (.ins C dx (two a v)))) ∧ (isNum a 0 = false → Er CM H E "at") ∧
  (isNum a 0 = true → isNum v 1 = false → Er CM H E "amount")
/-! the texts -/
def bText (i : Int) : Str := Str.empty ++ "begin " ++ num i
def tText (i : Int) : Str := Str.empty ++ "take " ++ num i
def tbText (i j : Int) : Str := Str.empty ++ "take " ++ num i ++ " by " ++ num j
def rText (i j : Int) : Str := Str.empty ++ "right " ++ num i ++ " to " ++ num j
def spBStr (C : Addr) : Sp := fun vs H Q _ => ∃ (x dx : Addr) (i : Int), vs = [.ref x] ∧ H x = some (.ins C dx [("amount", .int i)]) ∧ Am i ∧ Q (.str (bText i)) H
def spTStr (C : Addr) : Sp := fun vs H Q _ => ∃ (x dx : Addr) (i : Int) (v : V), vs = [.ref x] ∧ H x = some (.ins C dx (two (.int i) v)) ∧ Am i ∧
  ((v = .non ∧ Q (.str (tText i)) H) ∨ ∃ j, v = .int j ∧ Am j ∧ Q (.str (tbText i j)) H)
def spRStr (C : Addr) : Sp := fun vs H Q _ => ∃ (x dx : Addr) (i j : Int), vs = [.ref x] ∧ H x = some (.ins C dx (two (.int i) (.int j))) ∧ Am i ∧ Am j ∧ Q (.str (rText i j)) H
end
end V3

set_option Elab.async false
set_option linter.all false
set_option maxRecDepth 100000
namespace V3
open PySem L2
-- no sAny
/-! values whose type is known; the moves' classes are mv, all known ones cs -/
inductive TK (cs : List Addr) (H : Hp) : V → Prop where
  | non : TK cs H .non
  | bl (b : Bool) : TK cs H (.bl b)
  | int (i : Int) : TK cs H (.int i)
  | str (z : Str) : TK cs H (.str z)
  | lst {a : Addr} {xs : List V} (h : H a = some (.lst xs)) : TK cs H (.ref a)
  | tup {a : Addr} {xs : List V} (h : H a = some (.tup xs)) : TK cs H (.ref a)
  | ins {a C dx : Addr} {fs : List (Str × V)} (h : H a = some (.ins C dx fs)) (c : C ∈ cs) : TK cs H (.ref a)
def seqOf : Option HO → Option (List V)
  | some (.lst xs) => some xs
  | some (.tup xs) => some xs
  | _ => none
def itemsOf (H : Hp) : V → Option (List V)
  | .ref a => seqOf (H a)
  | _ => none
def AW (cs : List Addr) (H : Hp) (v : V) : Prop := TK cs H v ∧ ∀ xs, itemsOf H v = some xs → xs.length ≤ 100 ∧ ∀ z ∈ xs, TK cs H z
/-- all but the box is as it was, and there is a box -/
theorem TK.same {cs : List Addr} {H H' : Hp} {v : V} (h : TK cs H v) (s : Same H H') : TK cs H' v := by
  cases h with
  | non => exact .non
  | bl b => exact .bl b
  | int i => exact .int i
  | str z => exact .str z
  | lst h => exact .lst (s _ _ h)
  | tup h => exact .tup (s _ _ h)
  | ins h c => exact .ins (s _ _ h) c
theorem TK.pre {cs : List Addr} {b : Addr} {H H' : Hp} {v : V} (h : TK cs H v) (s : Pre b H H') : TK cs H' v := by
  obtain ⟨s, u, w, _, e⟩ := s
  have key : ∀ {a : Addr} {o : HO}, H a = some o → (∀ o, H' a = some o → o = (box u w) ∨ H a = some o) → True := fun _ _ => trivial
  cases h with
  | non => exact .non
  | bl b => exact .bl b
  | int i => exact .int i
  | str z => exact .str z
  | @lst a xs h =>
    by_cases q : a = b
    · rw [q]
      exact .lst e
    · exact .lst (s _ _ q h)
  | @tup a xs h =>
    by_cases q : a = b
    · rw [q]
      exact .lst e
    · exact .tup (s _ _ q h)
  | @ins a C dx fs h c =>
    by_cases q : a = b
    · rw [q]
      exact .lst e
    · exact .ins (s _ _ q h) c
theorem TK.updl {cs : List Addr} {H : Hp} {D : Addr} {xs : List V} {v : V} (h : TK cs H v) : TK cs (upd H D (.lst xs)) v := by
  cases h with
  | non => exact .non
  | bl b => exact .bl b
  | int i => exact .int i
  | str z => exact .str z
  | @lst a xs h =>
    by_cases q : a = D
    · rw [q]
      exact .lst upd_same
    · exact .lst (by rw [upd_ne q]; exact h)
  | @tup a xs h =>
    by_cases q : a = D
    · rw [q]
      exact .lst upd_same
    · exact .tup (by rw [upd_ne q]; exact h)
  | @ins a C dx fs h c =>
    by_cases q : a = D
    · rw [q]
      exact .lst upd_same
    · exact .ins (by rw [upd_ne q]; exact h) c
/-- what stands at a reference of known type -/
theorem TK.at {cs : List Addr} {H : Hp} {a : Addr} (h : TK cs H (.ref a)) : ∃ o, H a = some o ∧ ((∃ xs, o = .lst xs) ∨ (∃ xs, o = .tup xs) ∨ ∃ C dx fs, o = .ins C dx fs ∧ C ∈ cs) := by
  cases h with
  | lst h => exact ⟨_, h, .inl ⟨_, rfl⟩⟩
  | tup h => exact ⟨_, h, .inr (.inl ⟨_, rfl⟩)⟩
  | ins h c => exact ⟨_, h, .inr (.inr ⟨_, _, _, rfl, c⟩)⟩
theorem items_at {H H' : Hp} {a : Addr} (e : H' a = H a) : itemsOf H' (.ref a) = itemsOf H (.ref a) := by
  show seqOf (H' a) = seqOf (H a)
  rw [e]
theorem items_none {H : Hp} {v : V} (n : ∀ a, v ≠ .ref a) : itemsOf H v = none := by
  cases v with
  | ref a => exact absurd rfl (n a)
  | _ => rfl
theorem items_same {cs : List Addr} {H H' : Hp} {v : V} (h : TK cs H v) (s : Same H H') : itemsOf H' v = itemsOf H v := by
  by_cases n : ∃ a, v = .ref a
  · obtain ⟨a, rfl⟩ := n
    obtain ⟨o, e, _⟩ := h.at
    exact items_at ((s _ _ e).trans e.symm)
  · rw [items_none (fun a z => n ⟨a, z⟩), items_none (fun a z => n ⟨a, z⟩)]
theorem AW.same {cs : List Addr} {H H' : Hp} {v : V} (h : AW cs H v) (s : Same H H') : AW cs H' v := by
  refine ⟨h.1.same s, fun xs e => ?_⟩
  rw [items_same h.1 s] at e
  exact ⟨(h.2 xs e).1, fun z hz => ((h.2 xs e).2 z hz).same s⟩
theorem AW.pre {cs : List Addr} {b : Addr} {H H' : Hp} {v : V} (h : AW cs H v) (s : Pre b H H') : AW cs H' v := by
  refine ⟨h.1.pre s, fun xs e => ?_⟩
  by_cases n : ∃ a, v = .ref a
  · obtain ⟨a, rfl⟩ := n
    by_cases q : a = b
    · subst q
      obtain ⟨_, u, w, _, eb⟩ := s
      have z : itemsOf H' (.ref a) = some [.int u, .int w] := by
        show seqOf (H' a) = _
        rw [eb]
        rfl
      rw [z] at e
      injection e with e
      subst e
      refine ⟨by show 2 ≤ 100; decide, fun z hz => ?_⟩
      simp only [List.mem_cons, List.not_mem_nil, or_false] at hz
      rcases hz with rfl | rfl
      · exact .int _
      · exact .int _
    · obtain ⟨o, eo, _⟩ := h.1.at
      rw [items_at ((s.1 _ _ q eo).trans eo.symm)] at e
      exact ⟨(h.2 xs e).1, fun z hz => ((h.2 xs e).2 z hz).pre s⟩
  · rw [items_none (fun a z => n ⟨a, z⟩)] at e
    cases e
theorem AW.flat {cs : List Addr} {H : Hp} {v : V} (h : TK cs H v) (n : ∀ a, v ≠ .ref a) : AW cs H v := ⟨h, fun xs e => by
  rw [items_none n] at e
  cases e⟩
theorem AW.lst {cs : List Addr} {H : Hp} {a : Addr} {xs : List V} (h : H a = some (.lst xs)) (l : xs.length ≤ 100) (k : ∀ z ∈ xs, TK cs H z) : AW cs H (.ref a) := by
  refine ⟨.lst h, fun ys e => ?_⟩
  have z : itemsOf H (.ref a) = some xs := by
    show seqOf (H a) = _
    rw [h]
    rfl
  rw [z] at e
  injection e with e
  subst e
  exact ⟨l, k⟩
theorem AW.tup {cs : List Addr} {H : Hp} {a : Addr} {xs : List V} (h : H a = some (.tup xs)) (l : xs.length ≤ 100) (k : ∀ z ∈ xs, TK cs H z) : AW cs H (.ref a) := by
  refine ⟨.tup h, fun ys e => ?_⟩
  have z : itemsOf H (.ref a) = some xs := by
    show seqOf (H a) = _
    rw [h]
    rfl
  rw [z] at e
  injection e with e
  subst e
  exact ⟨l, k⟩
theorem AW.ins {cs : List Addr} {H : Hp} {a C dx : Addr} {fs : List (Str × V)} (h : H a = some (.ins C dx fs)) (c : C ∈ cs) : AW cs H (.ref a) := by
  refine ⟨.ins h c, fun ys e => ?_⟩
  have z : itemsOf H (.ref a) = none := by
    show seqOf (H a) = _
    rw [h]
    rfl
  rw [z] at e
  cases e
def spAny (cs : List Addr) (e : Nat) : Sp := fun vs H Q _ => ∃ (b : Addr) (u v : Int), vs = [.ref b, .int (e : Int)] ∧ H b = some (box u v) ∧ BoxOk u v ∧
  ∀ (y : V) (H' : Hp), Pre b H H' → AW cs H' y → Q y H'
structure BltC (mg : Str → Option Value) : Prop where
  range : mg "range" = none
  tuple : mg "tuple" = none
abbrev CalChoose (P : Program) (w : World) (K : PySem.W.Frag) (mg : Str → Option Value) (base : Heap) : Prop := Cal P w K mg base CX0 "_law_choose" 1 ["_law_box", "_law_many"] spChoose
abbrev CalOneOf (P : Program) (w : World) (K : PySem.W.Frag) (mg : Str → Option Value) (base : Heap) : Prop := Cal P w K mg base CX0 "_law_one_of" 2 ["_law_box", "_law_some"] (spOneOf K)
section
variable {P : Program} {w : World} {K : PySem.W.Frag} {mg : Str → Option Value} {base : Heap}
end
end V3

set_option Elab.async false
set_option linter.all false
set_option maxRecDepth 100000
/-! x + y by an own __add__; x[i], x[a:b:c] by an own __getitem__. -/
namespace V3
open PySem PySem.Spec PyProof.Rows L2
section
variable {X : Cx} {n : Nat}
theorem vals_back {z : V} {u : Value} {Q : Value → Shared → Prop} {s' : Shared} (r : RelV z u) (q : Q u s') : PySem.W.CmpBack Q u s' := by
  cases z with
  | non => cases r; exact q
  | bl b => cases r; exact q
  | int i => obtain ⟨t, rfl⟩ := r; exact q
  | str i => obtain ⟨t, rfl⟩ := r; exact q
  | byt i => obtain ⟨t, rfl⟩ := r; exact q
  | flt i => obtain ⟨t, rfl⟩ := r; exact q
  | ref a => cases r; exact q
  | ty a => cases r; exact q
/-- a class with an own method at f for a binary operator -/
structure BinCls (K : PySem.W.Frag) (C f : Addr) (op : Operator) : Prop where
  sf : PySem.W.selfFirst K C = true
  at_ : PySem.W.findIn K (.ref C) (PySem.dunder op.info.2) = some (some (.ref f))
  fn : PySem.W.isFn K (.ref f) = true
/-- x op y, both of one class -/
def rBinS (FF : Addr → Sp → XK → Prop) : R2 := fun x y H Q => ∃ (a C dx : Addr) (fs : List (Str × V)) (b dy : Addr) (gs : List (Str × V)) (sp : Sp) (E : XK), x = .ref a ∧ y = .ref b ∧ H a = some (.ins C dx fs) ∧ H b = some (.ins C dy gs) ∧
  FF C sp E ∧ sp [x, y] H Q E
theorem op_binS {op : Operator} {FF : Addr → Sp → XK → Prop} (hF : ∀ C sp E, FF C sp E → ∃ (CX : CXT) (f : Addr) (fd : FuncData) (ps : List Str), FnOk X.prog X.w X.K X.mg X.base CX n f fd ps sp ∧ BinCls X.K C f op ∧ Binds X.K fd ps [] ∧ Passes CX X E) (hr : Room n X.A) :
    OpR X (binaryOp op) (rBinS FF) := by
  intro pins s σ H x y v u Q I rx ry hq
  obtain ⟨a, C, dx, fs, b, dy, gs, sp, E, rfl, rfl, ha, hb, ff, hsp⟩ := hq
  obtain ⟨CX, f, fd, ps, F, ec, bi, hx⟩ := hF C sp E ff
  cases rx
  cases ry
  obtain ⟨mA, J, _⟩ := ins_get I.hok ha
  obtain ⟨mB, J', _⟩ := ins_get I.hok hb
  obtain ⟨od, J, _⟩ := J.look
  obtain ⟨od', J', _⟩ := J'.look
  obtain ⟨m, hF⟩ := I.fr
  refine PySem.W.binop_K hF I.ok.mod.kin J J'.type ec.sf ec.at_ ec.fn ?_
  refine wpAny_mono (run_own (x := .ref a) (y := .ref b) ⟨hr, rfl⟩ F bi hx I rfl rfl hsp) (fun w s' q => ?_) fun _ _ e => e
  obtain ⟨z, H', I', rz, q⟩ := q
  exact vals_back rz ⟨z, H', I', rz, q⟩
/-- a class with an own __getitem__ at f -/
structure GetCls (K : PySem.W.Frag) (C f : Addr) : Prop where
  at_ : PySem.W.findIn K (.ref C) "__getitem__" = some (some (.ref f))
  fn : PySem.W.isFn K (.ref f) = true
  fi : PySem.W.fnIn K f = true
def rIxO (FF : Addr → Sp → XK → Prop) : R2 := fun x y H Q => ∃ (a C dx : Addr) (fs : List (Str × V)) (sp : Sp) (E : XK), x = .ref a ∧ H a = some (.ins C dx fs) ∧ FF C sp E ∧ sp [x, y] H Q E
/-- the call that x[i] makes -/
theorem sub_own {FF : Addr → Sp → XK → Prop} (hF : ∀ C sp E, FF C sp E → ∃ (CX : CXT) (f : Addr) (fd : FuncData) (ps : List Str), FnOk X.prog X.w X.K X.mg X.base CX n f fd ps sp ∧ GetCls X.K C f ∧ Binds X.K fd ps [] ∧ Passes CX X E) (hr : Room (n + 1) X.A)
    {value slice : Expr} {pins : List (Addr × Obj)} {s : Shared} {σ : L2.St} {H : Hp} {x y : V} {v u : Value} {Q : VK} (I : Inv X pins σ H s) (rx : RelV x v) (ry : RelV y u) (hq : rIxO FF x y H Q)
    (hsl : ∀ a : Addr, subscripted slice true (.ref a) u = runValue (.builtin "lifetime.subscript" ⟨[.ref a, u], []⟩)) : wpAny (model X.prog X.w) X.A (subscriptTail value slice v u) (EP X pins σ Q) X.xe s := by
  obtain ⟨a, C, dx, fs, sp, E, rfl, ha, ff, hsp⟩ := hq
  obtain ⟨CX, f, fd, ps, F, ec, bi, hx⟩ := hF C sp E ff
  cases rx
  obtain ⟨mA, J, _⟩ := ins_get I.hok ha
  obtain ⟨od, J, _⟩ := J.look
  obtain ⟨m, hF⟩ := I.fr
  refine PySem.W.sub_K hF I.ok.mod.kin J ec.at_ ec.fi ec.fn ?_ (hsl a)
  exact run_own (x := .ref a) (y := y) (A := X.A.in1) ⟨hr.in1, rfl⟩ F bi hx I rfl ry hsp
/-- x[i] -/
theorem pe_ixO {FF : Addr → Sp → XK → Prop} (hF : ∀ C sp E, FF C sp E → ∃ (CX : CXT) (f : Addr) (fd : FuncData) (ps : List Str), FnOk X.prog X.w X.K X.mg X.base CX n f fd ps sp ∧ GetCls X.K C f ∧ Binds X.K fd ps [] ∧ Passes CX X E) (hr : Room (n + 1) X.A)
    {a b : Expr} {ta tb : TE} {pos : Pos} (ha : PE X a ta) (hb : PE X b tb)
    (hsl : ∀ (o : Addr) (u : Value), subscripted b true (.ref o) u = runValue (.builtin "lifetime.subscript" ⟨[.ref o, u], []⟩) := by intro _ _; with_unfolding_all rfl) : PE X (.Subscript a b pos) (tOp (rIxO FF) ta tb) := by
  refine ⟨fun pins s σ H Q I h => ?_⟩
  exact Subscript_ (binT ha hb I h fun v u s2 x y H2 I2 rx ry q => sub_own hF hr I2 rx ry q fun o => hsl o u)
/-- a slice object -/
def SlH (p : Addr) (lo hi st : Option Int) : HO := .ext fun h => ∃ vl vu vk, h.IsSliceOf p vl vu vk ∧ IsPart vl lo ∧ IsPart vu hi ∧ IsPart vk st
def tSlO (FF : Addr → Sp → XK → Prop) (te : TE) (tl th ts : TO) : TE := fun σ H Q => te σ H fun x H1 => tl σ H1 fun l H2 => th σ H2 fun u H3 => ts σ H3 fun k H4 =>
  ∀ p, H4 p = none → rIxO FF x (.ref p) (upd H4 p (SlH p l u k)) Q
theorem po_no : PO X none tNoPart := ⟨fun pins s σ H Q I h => by
  rw [evalPart_none]
  exact wpAny_pure ⟨none, H, I, .none, h⟩⟩
/-- x[a:b:c] -/
theorem pe_slO {FF : Addr → Sp → XK → Prop} (hF : ∀ C sp E, FF C sp E → ∃ (CX : CXT) (f : Addr) (fd : FuncData) (ps : List Str), FnOk X.prog X.w X.K X.mg X.base CX n f fd ps sp ∧ GetCls X.K C f ∧ Binds X.K fd ps [] ∧ Passes CX X E) (hr : Room (n + 1) X.A)
    {e : Expr} {te : TE} {lo hi st : Option Expr} {tl th ts : TO} {p2 pos : Pos} (he : PE X e te) (hl : PO X lo tl) (hu : PO X hi th) (hk : PO X st ts)
    (hsl : ∀ (o : Addr) (u : Value), subscripted (.Slice lo hi st p2) true (.ref o) u = runValue (.builtin "lifetime.subscript" ⟨[.ref o, u], []⟩) := by intro _ _; with_unfolding_all rfl) :
    PE X (.Subscript e (.Slice lo hi st p2) pos) (tSlO FF te tl th ts) := by
  refine ⟨fun pins s σ H Q I h => ?_⟩
  refine Subscript_ (thn (he.run pins s σ H _ I h) fun v s1 ⟨x, H1, I1, r1, q1⟩ => ?_)
  refine wpAny_Slice (thn (hl.run pins s1 σ H1 _ I1 q1) fun vl s2 ⟨l, H2, I2, pl, q2⟩ =>
    thn (hu.run pins s2 σ H2 _ I2 q2) fun vu s3 ⟨u, H3, I3, pu, q3⟩ =>
    thn (hk.run pins s3 σ H3 _ I3 q3) fun vk s4 ⟨k, H4, I4, pk, q4⟩ => ?_)
  have J : Inv X pins σ (upd H4 s4.heap.objs.size (SlH s4.heap.objs.size l u k)) { s4 with heap := s4.heap.push { cls := .type "slice", data := .fields #[vl, vu, vk] } } :=
    I4.laid (t' := s4.toks) (o := SlH s4.heap.objs.size l u k) (fun b ob q => Heap.get?_push_of_some _ q) (Nat.le_refl _)
      ⟨⟨vl, vu, vk, Heap.IsSliceOf.new .., pl, pu, pk⟩, ⟨_, Heap.get?_push_size _ rfl⟩, fun h1 h2 ⟨a, b, c, ⟨o, ho, hc, hd⟩, p1, p2, p3⟩ kp => ⟨a, b, c, ⟨o, kp o ho, hc, hd⟩, p1, p2, p3⟩⟩
  exact sub_own (y := .ref s4.heap.objs.size) hF hr J r1 rfl (q4 _ (I4.hok.fresh (Nat.le_refl _))) fun o => hsl o _
end
end V3

set_option Elab.async false
set_option linter.all false
set_option maxRecDepth 100000
/-! slices of tuples, with any step. -/
namespace HT
open PySem PySem.Spec PyProof.Rows
section
variable {prog : Program} {w : World} {A : Around} {E : Value → Shared → Prop} {s : Shared}
theorem sliceApplied_any {sl : Addr} {vl vu vk : Value} {lo hi st : Option Int} {n : Nat} {Q : Int × Int × Nat → Shared → Prop} (hs : s.heap.IsSliceOf sl vl vu vk) (pl : IsPart vl lo) (pu : IsPart vu hi) (pk : IsPart vk st) (h0 : st ≠ some 0)
    (h : Q ((Builtin.Slice.sliceAdjust lo hi (st.getD 1) (n : Int)).1, st.getD 1, Builtin.Slice.slicePlaces (Builtin.Slice.sliceAdjust lo hi (st.getD 1) (n : Int)).1 (Builtin.Slice.sliceAdjust lo hi (st.getD 1) (n : Int)).2 (st.getD 1)) s) : wpAny (model prog w) A (Builtin.Slice.sliceApplied (.ref sl) (pure (n : Int))) Q E s := by
  obtain ⟨os, hos, hcs, hds⟩ := id hs
  unfold Builtin.Slice.sliceApplied Builtin.Slice.sliceFields
  refine wpAny_bind (wpAny_bind (wpAny_field hos hds (x := vl) rfl (wpAny_bind (wpAny_field hos hds (x := vu) rfl (wpAny_bind (wpAny_field hos hds (x := vk) rfl (wpAny_pure ?_)))))))
  refine wpAny_bind (slicePart_ pk ?_)
  have hc : ¬ ((st.getD 1 == 0) = true) := by
    cases st with
    | none => decide
    | some c =>
      intro q
      exact h0 (by rw [show c = 0 from eq_of_beq q])
  show wpAny _ _ (if (st.getD 1 == 0) = true then _ else _) _ _ s
  rw [if_neg hc]
  refine wpAny_bind (slicePart_ pl (wpAny_bind (slicePart_ pu (wpAny_bind (wpAny_pure ?_)))))
  exact wpAny_pure h
/-- the places of a slice -/
def idxT (lo hi st : Option Int) (n : Nat) : List Nat :=
  (List.range (Builtin.Slice.slicePlaces (Builtin.Slice.sliceAdjust lo hi (st.getD 1) (n : Int)).1 (Builtin.Slice.sliceAdjust lo hi (st.getD 1) (n : Int)).2 (st.getD 1))).map fun (k : Nat) => ((Builtin.Slice.sliceAdjust lo hi (st.getD 1) (n : Int)).1 + (k : Int) * st.getD 1).toNat
theorem getItem_tuple_any {t sl : Addr} {items : Array Value} {vl vu vk : Value} {lo hi st : Option Int} {Q : Value → Shared → Prop} (ht : IsTup s.heap t items) (hs : s.heap.IsSliceOf sl vl vu vk) (pl : IsPart vl lo) (pu : IsPart vu hi) (pk : IsPart vk st) (h0 : st ≠ some 0)
    (hsz : ((idxT lo hi st items.size).filterMap fun i => items[i]?).length ≤ sizeLine)
    (hw : (idxT lo hi st items.size) = List.range items.size → Q (.ref t) s)
    (h : Q (.ref s.heap.objs.size) { s with heap := s.heap.push { cls := .type "tuple", data := .seq ((idxT lo hi st items.size).filterMap fun i => items[i]?).toArray } })
    : wpAny (model prog w) A (getItem (.ref t) (.ref sl)) Q E s := by
  obtain ⟨os, hos, hcs, hds⟩ := id hs
  have hTs : s.TypeIs (.ref sl) "slice" := ⟨os, hos, hcs⟩
  unfold getItem
  try with_reducible refine wpAny_holding ?_
  first | refine wpAny_bind (wpAny_pure ?_) | skip
  refine wpAny_bind (wpAny_sequenceKey ht.typeIs (by decide) ?_)
  refine wpAny_bind (wpAny_callSpecial?_slot (name := Str.ofString "__getitem__") ht.typeIs PyProof.Rows.slot_tuple_getitem
    (wpAny_call_entry PyProof.Rows.slot_tuple_getitem ht.typeIs entry_tuple_getitem ?_ (args_tuple_getitem _ _)))
  show wpAny _ _ (Builtin.Tuple.tupleItemsOf (.ref t) >>= _) _ _ s
  refine wpAny_bind (tupleItemsOf_ ht ?_)
  refine wpAny_bind (wpAny_typeOf hTs ?_)
  rw [if_pos (by decide)]
  refine wpAny_bind (sliceApplied_any hs pl pu pk h0 ?_)
  unfold idxT at hsz hw h
  rw [List.filterMap_map] at hsz h
  generalize (Builtin.Slice.sliceAdjust lo hi (st.getD 1) ((items.size : Nat) : Int)).1 = a at hsz hw h ⊢
  generalize (Builtin.Slice.sliceAdjust lo hi (st.getD 1) ((items.size : Nat) : Int)).2 = b at hsz hw h ⊢
  generalize st.getD 1 = c at hsz hw h ⊢
  generalize Builtin.Slice.slicePlaces a b c = n at hsz hw h ⊢
  show wpAny _ _ (if (a == 0 && c == 1 && n == items.size) = true then _ else _) _ _ s
  by_cases q : (a == 0 && c == 1 && n == items.size) = true
  · rw [if_pos q]
    rw [Bool.and_eq_true, Bool.and_eq_true] at q
    have q1 : a = 0 := eq_of_beq q.1.1
    have q2 : c = 1 := eq_of_beq q.1.2
    have q3 : n = items.size := eq_of_beq q.2
    subst q1 q2 q3
    have hQ := hw (by
      have e : (fun (k : Nat) => ((0 : Int) + (k : Int) * 1).toNat) = id := by
        funext k
        show ((0 : Int) + (k : Int) * 1).toNat = k
        omega
      rw [e, List.map_id])
    refine wpAny_bind ?_
    show wpAny _ _ (typeOf (.ref t) >>= fun T => pure (T == .type "tuple")) _ _ s
    refine wpAny_bind (wpAny_typeOf ht.typeIs (wpAny_pure ?_))
    first
      | rw [if_pos (by decide)]
      | simp only [beq_self_eq_true, if_true]
    first
      | exact wpAny_bind (wpAny_rule (wpAny_pure ⟨_, rfl, wpAny_pure hQ⟩))
      | exact wpAny_bind (wpAny_rule (wpAny_bind (wpAny_pure (wpAny_pure ⟨_, rfl, wpAny_pure hQ⟩))))
  · rw [if_neg q]
    have htake : sizeOk (.seq (((List.range n).filterMap ((fun i => items[i]?) ∘ fun (k : Nat) => (a + (k : Int) * c).toNat))).toArray) := by
      show ((List.range n).filterMap ((fun i => items[i]?) ∘ fun (k : Nat) => (a + (k : Int) * c).toNat)).toArray.size ≤ sizeLine
      rw [List.size_toArray]
      exact hsz
    first
      | exact wpAny_bind (m := Builtin.Tuple.tupleExact _) (wpAny_newObj_type (wpAny_pure ⟨_, rfl, wpAny_pure h⟩) htake)
      | exact wpAny_bind (m := Builtin.Tuple.tupleExact _) (wpAny_newObj_type (wpAny_bind (wpAny_pure (wpAny_pure ⟨_, rfl, wpAny_pure h⟩))) htake)
      | exact wpAny_bind (wpAny_bind (m := Builtin.Tuple.tupleExact _) (wpAny_newObj_type (wpAny_pure (wpAny_pure ⟨_, rfl, wpAny_pure h⟩)) htake))
      | exact wpAny_bind (wpAny_bind (m := Builtin.Tuple.tupleExact _) (wpAny_newObj_type (wpAny_pure ⟨_, rfl, wpAny_pure h⟩) htake))
end
end HT

set_option Elab.async false
set_option linter.all false
set_option maxRecDepth 100000
/-! slices of tuples, at the level of values -/
namespace V3
open PySem PySem.Spec PyProof.Rows L2
/-- what a slice picks -/
def stepL {α : Type} (xs : List α) (lo hi st : Option Int) : List α := (HT.idxT lo hi st xs.length).filterMap fun i => xs[i]?
theorem pick_self {α : Type} (xs : List α) : (List.range xs.length).filterMap (fun i => xs[i]?) = xs := by
  have z := pick_run xs.toArray 0 xs.length
  rw [List.filterMap_map] at z
  have e : ((fun x => xs.toArray[x]?) ∘ fun x => 0 + x) = fun i => xs[i]? := by
    funext i
    simp
  rw [e] at z
  simpa using z
theorem fm_congr {α β : Type} {f g : α → Option β} : ∀ {xs : List α}, (∀ x ∈ xs, f x = g x) → xs.filterMap f = xs.filterMap g
  | [], _ => rfl
  | x :: r, h => by
    have e := h x (List.mem_cons_self ..)
    have ih := fm_congr (xs := r) fun y hy => h y (List.mem_cons_of_mem _ hy)
    rw [List.filterMap_cons, List.filterMap_cons, e, ih]
theorem step_len {α : Type} (xs : List α) {lo hi st : Option Int} : (stepL xs lo hi st).length ≤ (HT.idxT lo hi st xs.length).length := List.length_filterMap_le ..
theorem step_one {α : Type} (xs : List α) (lo hi : Option Int) : stepL xs lo hi none = (xs.drop (HT.sIx xs.length 0 lo)).take (HT.sIx xs.length xs.length hi - HT.sIx xs.length 0 lo) := by
  unfold stepL HT.idxT
  show List.filterMap (fun i => xs[i]?) (List.map (fun (k : Nat) => ((Builtin.Slice.sliceAdjust lo hi 1 (xs.length : Int)).1 + (k : Int) * 1).toNat) (List.range (Builtin.Slice.slicePlaces (Builtin.Slice.sliceAdjust lo hi 1 (xs.length : Int)).1 (Builtin.Slice.sliceAdjust lo hi 1 (xs.length : Int)).2 1))) = _
  rw [HT.adjust_gen lo hi xs.length]
  show List.filterMap (fun i => xs[i]?) (List.map (fun (k : Nat) => (((HT.sIx xs.length 0 lo : Nat) : Int) + (k : Int) * 1).toNat) (List.range (Builtin.Slice.slicePlaces ((HT.sIx xs.length 0 lo : Nat) : Int) ((HT.sIx xs.length xs.length hi : Nat) : Int) 1))) = _
  rw [HT.places_gen]
  generalize HT.sIx xs.length 0 lo = i
  generalize HT.sIx xs.length xs.length hi - i = k
  have z := pick_run xs.toArray i k
  have e : (fun (k : Nat) => ((i : Int) + (k : Int) * 1).toNat) = fun x => i + x := by
    funext m
    omega
  rw [e]
  simpa using z
theorem step_to {α : Type} (xs : List α) {k : Nat} (h : k ≤ xs.length) : stepL xs none (some (k : Int)) none = xs.take k := by
  rw [step_one, HT.sIx_nat, HT.sIx_none, Nat.min_eq_left h]
  simp
theorem step_from {α : Type} (xs : List α) {k : Nat} (h : k ≤ xs.length) : stepL xs (some (k : Int)) none none = xs.drop k := by
  rw [step_one, HT.sIx_nat, HT.sIx_none, Nat.min_eq_left h]
  exact List.take_of_length_le (by rw [List.length_drop]; exact Nat.le_refl _)
theorem step_back {α : Type} (xs : List α) : stepL xs none none (some (-1)) = xs.reverse := by
  unfold stepL HT.idxT
  have a1 : Builtin.Slice.sliceAdjust none none ((some (-1 : Int)).getD 1) (xs.length : Int) = ((xs.length : Int) - 1, -1) := by
    simp [Builtin.Slice.sliceAdjust]
  have a2 : Builtin.Slice.slicePlaces ((xs.length : Int) - 1) (-1) ((some (-1 : Int)).getD 1) = xs.length := by
    unfold Builtin.Slice.slicePlaces
    simp
    omega
  rw [a1]
  show List.filterMap (fun i => xs[i]?) (List.map (fun (k : Nat) => ((xs.length : Int) - 1 + (k : Int) * (some (-1 : Int)).getD 1).toNat) (List.range (Builtin.Slice.slicePlaces ((xs.length : Int) - 1) (-1) ((some (-1 : Int)).getD 1)))) = _
  rw [a2, List.filterMap_map]
  have z := pick_self xs.reverse
  rw [List.length_reverse] at z
  refine Eq.trans (fm_congr fun k hk => ?_) z
  have lt : k < xs.length := List.mem_range.mp hk
  rw [List.getElem?_reverse lt]
  have e : ((xs.length : Int) - 1 + (k : Int) * (some (-1 : Int)).getD 1).toNat = xs.length - 1 - k := by
    show ((xs.length : Int) - 1 + (k : Int) * (-1)).toNat = _
    omega
  show xs[((xs.length : Int) - 1 + (k : Int) * (some (-1 : Int)).getD 1).toNat]? = _
  rw [e]
theorem vals_idx {xs : List V} {us : List Value} (r : Vals xs us) : ∀ idx : List Nat, Vals (idx.filterMap fun i => xs[i]?) (idx.filterMap fun i => us.toArray[i]?) := vals_pick r
section
variable {X : Cx}
/-- what t[slice] wants -/
def wSl (K : PySem.W.Frag) (p : Addr) (xs : List V) (lo hi st : Option Int) (H : Hp) (Q : VK) : Prop := SqT K H p xs ∧ st ≠ some 0 ∧ (stepL xs lo hi st).length ≤ sizeLine ∧
  (HT.idxT lo hi st xs.length = List.range xs.length → Q (.ref p) H) ∧ ∀ r, H r = none → Q (.ref r) (upd H r (.tup (stepL xs lo hi st)))
theorem run_sl {pins : List (Addr × Obj)} {s : Shared} {σ : L2.St} {H : Hp} {p sl : Addr} {xs : List V} {vl vu vk : Value} {lo hi st : Option Int} {Q : VK} (I : Inv X pins σ H s) (hs : s.heap.IsSliceOf sl vl vu vk) (pl : IsPart vl lo) (pu : IsPart vu hi) (pk : IsPart vk st)
    (h : wSl X.K p xs lo hi st H Q) : ∃ items : Array Value, IsTup s.heap p items ∧ wpAny (model X.prog X.w) X.A (getItem (.ref p) (.ref sl)) (EP X pins σ Q) X.xe s := by
  obtain ⟨hx, h0, hz, hw, hq⟩ := h
  obtain ⟨its, r, ht, hsz⟩ := I.tuple hx
  have ln : xs.length = its.toArray.size := by rw [List.size_toArray]; exact r.length
  refine ⟨its.toArray, ht, HT.getItem_tuple_any ht hs pl pu pk h0 ?_ (fun e => ?_) ?_⟩
  · unfold stepL at hz
    rw [ln] at hz
    rw [← (vals_idx r _).length]
    exact hz
  · exact ⟨.ref p, H, I, rfl, hw (by rw [ln]; exact e)⟩
  · have v := vals_idx r (HT.idxT lo hi st its.toArray.size)
    rw [← ln] at v ⊢
    refine ⟨.ref s.heap.objs.size, _, I.laid (t' := s.toks) (o := .tup (stepL xs lo hi st)) (fun b ob q => Heap.get?_push_of_some _ q) (Nat.le_refl _) ?_, rfl, hq _ (I.hok.fresh (Nat.le_refl _))⟩
    exact ⟨hz, _, v, ⟨_, Heap.get?_push_size _ rfl, rfl, _, rfl⟩⟩
/-- t[a:b:c] -/
def tStepT (K : PySem.W.Frag) (te : TE) (tl th ts : TO) : TE := fun σ H Q => te σ H fun x H1 => tl σ H1 fun l H2 => th σ H2 fun u H3 => ts σ H3 fun k H4 => ∃ p xs, x = .ref p ∧ wSl K p xs l u k H4 Q
theorem pe_stepT {e : Expr} {te : TE} {lo hi st : Option Expr} {tl th ts : TO} {p2 pos : Pos} (he : PE X e te) (hl : PO X lo tl) (hu : PO X hi th) (hk : PO X st ts)
    (hop : ∀ (o : Value) (n : Addr), subscripted (.Slice lo hi st p2) false o (.ref n) = operate [o, .ref n] (getItem o (.ref n)) := by intro _ _; with_unfolding_all rfl) :
    PE X (.Subscript e (.Slice lo hi st p2) pos) (tStepT X.K te tl th ts) := by
  refine ⟨fun pins s σ H Q I h => ?_⟩
  refine Subscript_ (thn (he.run pins s σ H _ I h) fun v s1 ⟨x, H1, I1, r1, q1⟩ => ?_)
  refine wpAny_Slice (thn (hl.run pins s1 σ H1 _ I1 q1) fun vl s2 ⟨l, H2, I2, pl, q2⟩ =>
    thn (hu.run pins s2 σ H2 _ I2 q2) fun vu s3 ⟨u, H3, I3, pu, q3⟩ =>
    thn (hk.run pins s3 σ H3 _ I3 q3) fun vk s4 ⟨k, H4, I4, pk, q4⟩ => ?_)
  obtain ⟨p, xs, rfl, w⟩ := q4
  have J : Inv X pins σ H4 { s4 with heap := s4.heap.push { cls := .type "slice", data := .fields #[vl, vu, vk] } } := I4.kept (t' := s4.toks) fun b ob q => Heap.get?_push_of_some _ q
  cases r1
  obtain ⟨items, ht, got⟩ := run_sl J (Heap.IsSliceOf.new ..) pl pu pk w
  exact tail_any (ops := [.ref p, .ref s4.heap.objs.size]) ht.typeIs slot_tuple_getitem.lookup got (hop _ _)
/-- t[s], s a slice -/
def rIxSl (K : PySem.W.Frag) : R2 := fun x y H Q => ∃ p q xs lo hi st, x = .ref p ∧ y = .ref q ∧ H q = some (SlH q lo hi st) ∧ wSl K p xs lo hi st H Q
theorem ix_slice : IxR X (rIxSl X.K) := by
  intro value slice pins s σ H x y v u Q I rx ry h hs
  obtain ⟨p, q, xs, lo, hi, st, rfl, rfl, hq, w⟩ := h
  cases rx
  cases ry
  obtain ⟨⟨vl, vu, vk, so, pl, pu, pk⟩, _, _⟩ := I.hok _ _ hq
  obtain ⟨items, ht, got⟩ := run_sl I so pl pu pk w
  exact tail_any (ops := [.ref p, .ref q]) ht.typeIs slot_tuple_getitem.lookup got hs
end
end V3

set_option Elab.async false
set_option linter.all false
set_option maxRecDepth 100000
/-! readings that leave all as it was: what they answer -/
namespace V3
open PySem L2
def EvV (W : Hp → Prop) (σ : L2.St) (te : TE) (R : V → Hp → Prop) : Prop := ∀ H Q, W H → (∀ v H', Same H H' → W H' → R v H' → Q v H') → te σ H Q
def EvB (W : Hp → Prop) (σ : L2.St) (tt : TT) (b : Bool) : Prop := ∀ H Q, W H → (∀ H', Same H H' → W H' → Q b H') → tt σ H Q
def EvO (W : Hp → Prop) (σ : L2.St) (tO : TO) (o : Option Int) : Prop := ∀ H Q, W H → (∀ H', Same H H' → W H' → Q o H') → tO σ H Q
def StV (R : V → Hp → Prop) : Prop := ∀ v H H', Same H H' → R v H → R v H'
def isIv (i : Int) : V → Hp → Prop := fun v _ => v = .int i
def isSv (s : Str) : V → Hp → Prop := fun v _ => v = .str s
def isBv (b : Bool) : V → Hp → Prop := fun v _ => v = .bl b
def isVv (u : V) : V → Hp → Prop := fun v _ => v = u
theorem st_i {i : Int} : StV (isIv i) := fun _ _ _ _ h => h
theorem st_s {i : Str} : StV (isSv i) := fun _ _ _ _ h => h
theorem st_b {i : Bool} : StV (isBv i) := fun _ _ _ _ h => h
theorem st_v {u : V} : StV (isVv u) := fun _ _ _ _ h => h
section
variable {W : Hp → Prop} {σ : L2.St} {ta tb te : TE} {R Ra Rb : V → Hp → Prop}
theorem ev_var {i : Nat} {v : V} (e : σ[i]? = some (some v)) (h : ∀ H, W H → R v H) : EvV W σ (tVar i) R := fun H Q w k => ⟨v, e, k v H (Same.refl H) w (h H w)⟩
theorem ev_c {v : V} : EvV W σ (tC v) (isVv v) := fun H Q w k => k v H (Same.refl H) w rfl
theorem ev_int {i : Int} : EvV W σ (tC (.int i)) (isIv i) := fun H Q w k => k _ H (Same.refl H) w rfl
theorem ev_str {s : Str} : EvV W σ (tC (.str s)) (isSv s) := fun H Q w k => k _ H (Same.refl H) w rfl
/-- a two-place operation -/
theorem ev_op {r : R2} (sa : StV Ra) (ha : EvV W σ ta Ra) (hb : EvV W σ tb Rb) (h : ∀ x y H Q, W H → Ra x H → Rb y H → (∀ v H', Same H H' → W H' → R v H' → Q v H') → r x y H Q) : EvV W σ (tOp r ta tb) R := fun H Q w k =>
  ha H _ w fun x H1 s1 w1 rx => hb H1 _ w1 fun y H2 s2 w2 ry => h x y H2 Q w2 (sa _ _ _ s2 rx) ry fun v H' s w' rv => k v H' ((s1.trans s2).trans s) w' rv
/-- a call with one argument -/
theorem ev_cb1 {r : List V → Hp → VK → Prop} (ha : EvV W σ ta Ra) (h : ∀ x H Q, W H → Ra x H → (∀ v H', Same H H' → W H' → R v H' → Q v H') → r [x] H Q) : EvV W σ (tCB r (tCons ta tNil)) R := fun H Q w k =>
  ha H _ w fun x H1 s1 w1 rx => h x H1 Q w1 rx fun v H' s w' rv => k v H' (s1.trans s) w' rv
theorem ev_test {b : Bool} (h : EvV W σ te (isBv b)) : EvB W σ (tTest te) b := fun H Q w k => h H _ w fun v H' s w' e => ⟨b, e, k H' s w'⟩
theorem ev_or {t u : TT} {b : Bool} (h : EvB W σ t false) (h2 : EvB W σ u b) : EvB W σ (tOr t u) b := fun H Q w k =>
  h H _ w fun H1 s1 w1 => iteF (h2 H1 _ w1 fun H2 s2 w2 => k H2 (s1.trans s2) w2)
theorem evo_none : EvO W σ tNoPart none := fun H Q w k => k H (Same.refl H) w
theorem evo_some {i : Int} (h : EvV W σ te (isIv i)) : EvO W σ (tPart te) (some i) := fun H Q w k => h H _ w fun v H' s w' e => ⟨i, e, k H' s w'⟩
theorem ev_add {i j : Int} (ha : EvV W σ ta (isIv i)) (hb : EvV W σ tb (isIv j)) : EvV W σ (tOp (rI0 fun i j => .int (i + j)) ta tb) (isIv (i + j)) :=
  ev_op st_i ha hb fun x y H Q w ex ey k => ⟨i, j, ex, ey, k _ H (Same.refl H) w rfl⟩
/-- != and == of flat values -/
theorem ev_neI {i j : Int} (ha : EvV W σ ta (isIv i)) (hb : EvV W σ tb (isIv j)) : EvV W σ (tOp rNe ta tb) (isBv (!decide (i = j))) :=
  ev_op st_i ha hb fun x y H Q w ex ey k => by
    cases ex
    cases ey
    refine ⟨rfl, k _ H (Same.refl H) w ?_⟩
    have e : (V.int i = V.int j) ↔ (i = j) := ⟨fun z => by injection z, fun z => by rw [z]⟩
    show V.bl (!decide (V.int i = V.int j)) = V.bl (!decide (i = j))
    by_cases h : i = j
    · rw [decide_eq_true h, decide_eq_true (e.mpr h)]
    · rw [decide_eq_false h, decide_eq_false (fun z => h (e.mp z))]
theorem dec_str {i j : Str} : decide (V.str i = V.str j) = decide (i = j) := by
  have e : (V.str i = V.str j) ↔ (i = j) := ⟨fun z => by injection z, fun z => by rw [z]⟩
  by_cases h : i = j
  · rw [decide_eq_true h, decide_eq_true (e.mpr h)]
  · rw [decide_eq_false h, decide_eq_false (fun z => h (e.mp z))]
theorem dec_bl {i j : Bool} : decide (V.bl i = V.bl j) = decide (i = j) := by
  have e : (V.bl i = V.bl j) ↔ (i = j) := ⟨fun z => by injection z, fun z => by rw [z]⟩
  by_cases h : i = j
  · rw [decide_eq_true h, decide_eq_true (e.mpr h)]
  · rw [decide_eq_false h, decide_eq_false (fun z => h (e.mp z))]
theorem ev_neS {i j : Str} (ha : EvV W σ ta (isSv i)) (hb : EvV W σ tb (isSv j)) : EvV W σ (tOp rNe ta tb) (isBv (!decide (i = j))) :=
  ev_op st_s ha hb fun x y H Q w ex ey k => by
    cases ex
    cases ey
    exact ⟨rfl, k _ H (Same.refl H) w (congrArg (fun b => V.bl (!b)) dec_str)⟩
theorem ev_eqS {i j : Str} (ha : EvV W σ ta (isSv i)) (hb : EvV W σ tb (isSv j)) : EvV W σ (tOp rEq ta tb) (isBv (decide (i = j))) :=
  ev_op st_s ha hb fun x y H Q w ex ey k => by
    cases ex
    cases ey
    exact ⟨rfl, k _ H (Same.refl H) w (congrArg V.bl dec_str)⟩
theorem ev_neB {i j : Bool} (ha : EvV W σ ta (isBv i)) (hb : EvV W σ tb (isBv j)) : EvV W σ (tOp rNe ta tb) (isBv (!decide (i = j))) :=
  ev_op st_b ha hb fun x y H Q w ex ey k => by
    cases ex
    cases ey
    exact ⟨rfl, k _ H (Same.refl H) w (congrArg (fun b => V.bl (!b)) dec_bl)⟩
theorem ev_eqB {i j : Bool} (ha : EvV W σ ta (isBv i)) (hb : EvV W σ tb (isBv j)) : EvV W σ (tOp rEq ta tb) (isBv (decide (i = j))) :=
  ev_op st_b ha hb fun x y H Q w ex ey k => by
    cases ex
    cases ey
    exact ⟨rfl, k _ H (Same.refl H) w (congrArg V.bl dec_bl)⟩
theorem ev_to {R' : V → Hp → Prop} (h : EvV W σ te R) (e : ∀ v H, R v H → R' v H) : EvV W σ te R' := fun H Q w k => h H Q w fun v H' s w' r => k v H' s w' (e v H' r)
theorem ev_bool {b b' : Bool} (h : EvB W σ t b) (e : b = b') : EvB W σ t b' := e ▸ h
/-- an if whose test fails -/
theorem if_no {c : TT} {t u : TS} {D : Ends} {H : Hp} (h : EvB W σ c false) (w : W H) (k : ∀ H', Same H H' → W H' → u D σ H') : tIfS c t u D σ H := h H _ w fun H' s w' => iteF (k H' s w')
end
end V3

set_option Elab.async false
set_option linter.all false
set_option maxRecDepth 100000
/-! truth values: repr, is not -/
namespace V3
open PySem PySem.Spec PyProof.Rows L2 TL
def boolT (b : Bool) : Str := if b then "True" else "False"
def rReprB : List V → Hp → VK → Prop := fun xs H Q => ∃ b : Bool, xs = [.bl b] ∧ Q (.str (boolT b)) H
def rIsNotB : R2 := fun x y H Q => ∃ a b : Bool, x = .bl a ∧ y = .bl b ∧ Q (.bl (a != b)) H
section
variable {X : Cx}
theorem call_reprB : CallR X (.builtin "repr") rReprB := by
  intro pins s σ H xs us Q I r h
  obtain ⟨b, rfl, q⟩ := h
  obtain ⟨u, rfl, ru⟩ := vals1 r
  cases ru
  exact PySem.P.repr_of_bool ⟨.str _, H, I.tok _, ⟨_, by cases b <;> rfl⟩, q⟩
theorem op_isnotB : OpR X (compareOp .IsNot) rIsNotB := by
  intro pins s σ H x y v u Q I rx ry h
  obtain ⟨a, b, rfl, rfl, q⟩ := h
  cases rx
  cases ry
  have z : EP X pins σ Q (.bool (!((Value.bool a) == .bool b))) s := fin_bl I q (by cases a <;> cases b <;> rfl)
  exact wpAny_pure z
end
section
variable {σ : L2.St} {ta tb te : TE} {H0 : Hp} {p q : Bool}
theorem ev_reprB {W : Hp → Prop} (ha : EvV W σ ta (isBv p)) : EvV W σ (tCB rReprB (tCons ta tNil)) (isSv (boolT p)) :=
  ev_cb1 ha fun x H Q w e k => ⟨p, by rw [show x = _ from e], k _ H (Same.refl H) w rfl⟩
theorem ev_isnotB {W : Hp → Prop} (ha : EvV W σ ta (isBv p)) (hb : EvV W σ tb (isBv q)) : EvV W σ (tOp rIsNotB ta tb) (isBv (p != q)) :=
  ev_op (Ra := isBv p) (fun _ _ _ _ e => e) ha hb fun x y H Q w e1 e2 k => ⟨p, q, e1, e2, k _ H (Same.refl H) w rfl⟩
end
end V3

set_option Elab.async false
set_option linter.all false
set_option maxRecDepth 100000
/-! any values: nested data, in or not in rows of words; repr -/
namespace V3
open PySem PySem.Spec PyProof.Rows L2 TL
mutual
/-- nested data, all its lists and tuples at addresses of a kind -/
inductive Ad (N : Addr → Prop) (H : Hp) : V → PyData → Prop
  | non : Ad N H .non .none
  | bl (b : Bool) : Ad N H (.bl b) (.bool b)
  | int (i : Int) : Ad N H (.int i) (.int i)
  | str (x : Str) : Ad N H (.str x) (.str x)
  | lst {a : Addr} {xs : List V} {ds : List PyData} : N a → H a = some (.lst xs) → AdL N H xs ds → Ad N H (.ref a) (.list ds)
  | tup {a : Addr} {xs : List V} {ds : List PyData} : N a → H a = some (.tup xs) → AdL N H xs ds → Ad N H (.ref a) (.tuple ds)
inductive AdL (N : Addr → Prop) (H : Hp) : List V → List PyData → Prop
  | nil : AdL N H [] []
  | cons {v : V} {vs : List V} {d : PyData} {ds : List PyData} : Ad N H v d → AdL N H vs ds → AdL N H (v :: vs) (d :: ds)
end
section
variable {N M : Addr → Prop} {H G : Hp} {K : PySem.W.Frag}
mutual
theorem Ad.mv (f : ∀ a, N a → M a) (s : ∀ a o, N a → H a = some o → (∀ q, o ≠ .tbl q) → G a = some o) : ∀ (d : PyData) (v : V), Ad N H v d → Ad M G v d
  | .none, _, h => by
    cases h
    exact .non
  | .bool b, _, h => by
    cases h
    exact .bl b
  | .int i, _, h => by
    cases h
    exact .int i
  | .str x, _, h => by
    cases h
    exact .str x
  | .list ds, _, h => by
    cases h with
    | lst n e l => exact .lst (f _ n) (s _ _ n e (fun q z => by cases z)) (AdL.mv f s ds _ l)
  | .tuple ds, _, h => by
    cases h with
    | tup n e l => exact .tup (f _ n) (s _ _ n e (fun q z => by cases z)) (AdL.mv f s ds _ l)
  | .dict _, _, h => by cases h
theorem AdL.mv (f : ∀ a, N a → M a) (s : ∀ a o, N a → H a = some o → (∀ q, o ≠ .tbl q) → G a = some o) : ∀ (ds : List PyData) (vs : List V), AdL N H vs ds → AdL M G vs ds
  | [], _, h => by
    cases h
    exact .nil
  | d :: ds, _, h => by
    cases h with
    | cons a l => exact .cons (Ad.mv f s d _ a) (AdL.mv f s ds _ l)
end
mutual
theorem Ad.dp : ∀ (d : PyData) (v : V), Ad N H v d → Dp K H v d
  | .none, _, h => by
    cases h
    exact .non
  | .bool b, _, h => by
    cases h
    exact .bl b
  | .int i, _, h => by
    cases h
    exact .int i
  | .str x, _, h => by
    cases h
    exact .str x
  | .list ds, _, h => by
    cases h with
    | lst n e l => exact .lst (SqL.of e) (AdL.dp ds _ l)
  | .tuple ds, _, h => by
    cases h with
    | tup n e l => exact .tup (SqT.of e) (AdL.dp ds _ l)
  | .dict _, _, h => by cases h
theorem AdL.dp : ∀ (ds : List PyData) (vs : List V), AdL N H vs ds → DpAll K H vs ds
  | [], _, h => by
    cases h
    exact .nil
  | d :: ds, _, h => by
    cases h with
    | cons a l => exact .cons (Ad.dp d _ a) (AdL.dp ds _ l)
end
theorem AdL.app {vs ws : List V} {ds es : List PyData} (h : AdL N H vs ds) (g : AdL N H ws es) : AdL N H (vs ++ ws) (ds ++ es) := by
  induction ds generalizing vs with
  | nil =>
    cases h
    exact g
  | cons d r ih =>
    cases h with
    | cons a l => exact .cons a (ih l)
theorem AdL.len {vs : List V} {ds : List PyData} (h : AdL N H vs ds) : vs.length = ds.length := by
  induction ds generalizing vs with
  | nil =>
    cases h
    rfl
  | cons d r ih =>
    cases h with
    | cons a l => exact congrArg (· + 1) (ih l)
theorem AdL.at {vs : List V} {ds : List PyData} (h : AdL N H vs ds) {i : Nat} {d : PyData} (e : ds[i]? = some d) : ∃ v, vs[i]? = some v ∧ Ad N H v d := by
  induction ds generalizing vs i with
  | nil => cases e
  | cons c r ih =>
    cases h with
    | cons a l =>
      cases i with
      | zero =>
        cases e
        exact ⟨_, rfl, a⟩
      | succ j => exact ih l e
end
/-- what is neither a list nor a tuple -/
inductive Fv where
  | non
  | bl (b : Bool)
  | int (i : Int)
  | str (x : Str)
  deriving DecidableEq
def Fv.d : Fv → PyData
  | .non => .none
  | .bl b => .bool b
  | .int i => .int i
  | .str x => .str x
def Fv.v : Fv → V
  | .non => .non
  | .bl b => .bl b
  | .int i => .int i
  | .str x => .str x
def Fv.sh : Fv → Str
  | .non => "None"
  | .bl b => if b then "True" else "False"
  | .int i => num i
  | .str x => reprText x
def fOf : PyData → Option Fv
  | .none => some .non
  | .bool b => some (.bl b)
  | .int i => some (.int i)
  | .str x => some (.str x)
  | _ => none
theorem f_of {x : Fv} : fOf x.d = some x := by cases x <;> rfl
theorem of_f {d : PyData} {x : Fv} (h : fOf d = some x) : d = x.d := by
  cases d <;> first | (cases h; rfl) | cases h
theorem f_flat (x : Fv) : flatV x.v = true := by cases x <;> rfl
theorem Ad.flat {N : Addr → Prop} {H : Hp} {v : V} {x : Fv} (h : Ad N H v x.d) : v = x.v := by
  cases x <;> (cases h; rfl)
theorem Ad.of (N : Addr → Prop) (H : Hp) (x : Fv) : Ad N H x.v x.d := by
  cases x
  · exact .non
  · exact .bl _
  · exact .int _
  · exact .str _
theorem Ad.deep {N : Addr → Prop} {H : Hp} {v : V} {d : PyData} (h : Ad N H v d) (n : fOf d = none) : ∃ a xs, v = .ref a ∧ N a ∧ (H a = some (.lst xs) ∨ H a = some (.tup xs)) := by
  cases h with
  | lst k e _ => exact ⟨_, _, rfl, k, .inl e⟩
  | tup k e _ => exact ⟨_, _, rfl, k, .inr e⟩
  | _ => cases n
def flats : List Fv := [.int 0, .int 1, .int (-1), .int 5, .int 100000000000000000000, .bl true, .bl false, .non, .str "", .str "first", .str "minus", .str "open", .str "whole", .str "own", .str "now", .str "left", .str "over", .str "Plus", .str " ", .str "zz",
  .str "new", .str "plus", .str "shut", .str "part", .str "right", .str "there", .str "target", .str "top", .str "deed"]
/-- small data: what is drawn here -/
inductive Sm : Nat → PyData → Prop
  | flat {n : Nat} {x : Fv} : x ∈ flats → Sm n x.d
  | lst {n : Nat} {ds : List PyData} : ds.length ≤ 3 → (∀ d ∈ ds, Sm n d) → Sm (n + 1) (.list ds)
  | tup {n : Nat} {ds : List PyData} : ds.length ≤ 3 → (∀ d ∈ ds, Sm n d) → Sm (n + 1) (.tuple ds)
theorem sh_inj : ∀ x ∈ flats, ∀ y ∈ flats, x.sh = y.sh → x = y := by decide +kernel
theorem sh_first : ∀ x ∈ flats, (tl x.sh).head? ≠ some 91 ∧ (tl x.sh).head? ≠ some 40 := by decide +kernel
theorem sh_len : ∀ x ∈ flats, x.sh.length ≤ 30 := by decide +kernel
theorem f_shown (x : Fv) : x.d.shown = x.sh := by
  cases x with
  | bl b => cases b <;> rfl
  | _ => rfl
end V3

set_option Elab.async false
set_option linter.all false
set_option maxRecDepth 100000
/-! any values: how they are written out -/
namespace V3
open PySem PySem.Spec PyProof.Rows L2 TL
theorem tf_len {B : Nat} : ∀ (ts : List Str) (k : Nat) (acc : Str), (∀ t ∈ ts, t.length ≤ B) → (textFrom k acc ts).length ≤ acc.length + ts.length * (B + 2)
  | [], _, _, _ => Nat.le_add_right _ _
  | t :: ts, k, acc, h => by
    have z := tf_len ts (k + 1) (acc ++ (if k > 0 then ", " else "" : String) ++ t) fun u hu => h u (List.mem_cons_of_mem _ hu)
    have y := h t (List.mem_cons_self ..)
    rw [strLen_append, strLen_append] at z
    have e : (Str.ofString (if k > 0 then ", " else "" : String)).length ≤ 2 := by split <;> decide +kernel
    show (textFrom (k + 1) (acc ++ (if k > 0 then ", " else "" : String) ++ t) ts).length ≤ acc.length + (ts.length + 1) * (B + 2)
    rw [Nat.add_mul, Nat.one_mul]
    omega
theorem tf_pre : ∀ (ts : List Str) (k : Nat) (acc : Str), ∃ r, tl (textFrom k acc ts) = tl acc ++ r
  | [], _, acc => ⟨[], (List.append_nil _).symm⟩
  | t :: ts, k, acc => by
    obtain ⟨r, e⟩ := tf_pre ts (k + 1) (acc ++ (if k > 0 then ", " else "" : String) ++ t)
    rw [tl_append, tl_append, List.append_assoc, List.append_assoc] at e
    exact ⟨_, e⟩
theorem list_first (ts : List Str) : (tl (listText ts)).head? = some 91 := by
  obtain ⟨r, e⟩ := tf_pre ts 0 "["
  have a : tl ("[" : Str) = [91] := by decide +kernel
  unfold listText
  rw [tl_append, e, a]
  rfl
theorem tup_first (ts : List Str) : (tl (tupleText ts)).head? = some 40 := by
  have a : tl ("(" : Str) = [40] := by decide +kernel
  unfold tupleText
  rw [tl_append, tl_append, a]
  rfl
theorem piled_hi {B : Nat} : ∀ (ts : List Str), (∀ t ∈ ts, t.length ≤ B) → piled ts ≤ ts.length * (B + 2)
  | [], _ => by simp [piled]
  | t :: ts, h => by
    have z := piled_hi ts fun u hu => h u (List.mem_cons_of_mem _ hu)
    have y := h t (List.mem_cons_self ..)
    rw [piled_cons]
    show t.length + 2 + piled ts ≤ (ts.length + 1) * (B + 2)
    rw [Nat.add_mul, Nat.one_mul]
    omega
theorem list_len {B : Nat} {ts : List Str} (n : ts.length ≤ 3) (h : ∀ t ∈ ts, t.length ≤ B) : (listText ts).length ≤ 3 * (B + 2) + 2 := by
  have z := tf_len ts 0 "[" h
  have a : ("[" : Str).length = 1 := by decide +kernel
  have b : ("]" : Str).length = 1 := by decide +kernel
  have m : ts.length * (B + 2) ≤ 3 * (B + 2) := Nat.mul_le_mul_right _ n
  unfold listText
  rw [strLen_append]
  omega
theorem tup_len {B : Nat} {ts : List Str} (n : ts.length ≤ 3) (h : ∀ t ∈ ts, t.length ≤ B) : (tupleText ts).length ≤ 3 * (B + 2) + 3 := by
  have m : ts.length * (B + 2) ≤ 3 * (B + 2) := Nat.mul_le_mul_right _ n
  have y := piled_hi ts h
  have a : ("(" : Str).length = 1 := by decide +kernel
  have c : (Str.ofString (if ts.length == 1 then ",)" else ")" : String)).length ≤ 2 := by split <;> decide +kernel
  have j : (Str.join ", " ts).length ≤ piled ts := by
    cases ts with
    | nil => exact Nat.le_refl _
    | cons t r =>
      have := join_length_add (t :: r) (by simp)
      omega
  unfold tupleText
  rw [strLen_append, strLen_append]
  omega
theorem all_shown : ∀ {ds : List PyData} {t : Str}, t ∈ PyData.shownAll ds → ∃ d ∈ ds, t = d.shown
  | [], _, h => by cases h
  | d :: ds, t, h => by
    rcases List.mem_cons.mp (show t ∈ PyData.shown d :: PyData.shownAll ds from h) with rfl | h
    · exact ⟨d, List.mem_cons_self .., rfl⟩
    · obtain ⟨e, he, z⟩ := all_shown h
      exact ⟨e, List.mem_cons_of_mem _ he, z⟩
theorem all_len : ∀ {ds : List PyData}, (PyData.shownAll ds).length = ds.length
  | [] => rfl
  | d :: ds => congrArg (· + 1) (all_len (ds := ds))
def capS : Nat → Nat
  | 0 => 30
  | n + 1 => 3 * (capS n + 2) + 3
theorem capS_lo : ∀ n, 30 ≤ capS n
  | 0 => Nat.le_refl _
  | n + 1 => by
    have := capS_lo n
    show 30 ≤ 3 * (capS n + 2) + 3
    omega
theorem flat_depth (x : Fv) : x.d.depth = 0 ∧ x.d.hasDict = false := by cases x <;> exact ⟨by simp [Fv.d, PyData.depth], by simp [Fv.d, PyData.hasDict]⟩
theorem flats_show : ∀ x ∈ flats, x.d.showable = true := by
  intro x hx
  have k : ∀ x ∈ flats, (match x with
    | .int i => decide (i.natAbs.log2 < 1920)
    | _ => true) = true := by decide +kernel
  have z := k x hx
  cases x with
  | int i => exact z
  | non => rfl
  | bl b => rfl
  | str y => rfl
theorem depthAll_le {n : Nat} : ∀ {ds : List PyData}, (∀ d ∈ ds, d.depth ≤ n) → PyData.depthAll ds ≤ n
  | [], _ => by simp [PyData.depthAll]
  | d :: ds, h => by
    have a := h d (List.mem_cons_self ..)
    have b := depthAll_le (n := n) (ds := ds) fun e he => h e (List.mem_cons_of_mem _ he)
    simp only [PyData.depthAll]
    omega
theorem showAll {ds : List PyData} (h : ∀ d ∈ ds, d.showable = true) : PyData.showableAll ds = true := by
  induction ds with
  | nil => rfl
  | cons d r ih =>
    show (PyData.showable d && PyData.showableAll r) = true
    rw [h d (List.mem_cons_self ..), ih fun e he => h e (List.mem_cons_of_mem _ he)]
    rfl
theorem noDictAll {ds : List PyData} (h : ∀ d ∈ ds, d.hasDict = false) : PyData.hasDictAll ds = false := by
  induction ds with
  | nil => rfl
  | cons d r ih =>
    show (PyData.hasDict d || PyData.hasDictAll r) = false
    rw [h d (List.mem_cons_self ..), ih fun e he => h e (List.mem_cons_of_mem _ he)]
    rfl
theorem Sm.facts : ∀ {n : Nat} {d : PyData}, Sm n d → d.showable = true ∧ d.hasDict = false ∧ d.depth ≤ n ∧ d.shown.length ≤ capS n := by
  intro n d h
  induction h with
  | @flat n x hx =>
    refine ⟨flats_show x hx, (flat_depth x).2, by rw [(flat_depth x).1]; exact Nat.zero_le _, ?_⟩
    rw [f_shown]
    exact Nat.le_trans (sh_len x hx) (capS_lo n)
  | @lst n ds l _ ih =>
    refine ⟨showAll fun d hd => (ih d hd).1, noDictAll fun d hd => (ih d hd).2.1, ?_, ?_⟩
    · have z := depthAll_le fun d hd => (ih d hd).2.2.1
      simp only [PyData.depth]
      omega
    · have z := list_len (B := capS n) (ts := PyData.shownAll ds) (by rw [all_len]; exact l) fun t ht => by
        obtain ⟨d, hd, e⟩ := all_shown ht
        rw [e]
        exact (ih d hd).2.2.2
      show (listText (PyData.shownAll ds)).length ≤ 3 * (capS n + 2) + 3
      omega
  | @tup n ds l _ ih =>
    refine ⟨showAll fun d hd => (ih d hd).1, noDictAll fun d hd => (ih d hd).2.1, ?_, ?_⟩
    · have z := depthAll_le fun d hd => (ih d hd).2.2.1
      simp only [PyData.depth]
      omega
    · exact tup_len (B := capS n) (ts := PyData.shownAll ds) (by rw [all_len]; exact l) fun t ht => by
        obtain ⟨d, hd, e⟩ := all_shown ht
        rw [e]
        exact (ih d hd).2.2.2
/-- a word's text is that of no other value -/
theorem Sm.word {n : Nat} {d : PyData} (h : Sm n d) {y : Fv} (hy : y ∈ flats) : y.sh = d.shown ↔ fOf d = some y := by
  cases h with
  | @flat n x hx =>
    rw [f_shown, f_of]
    exact ⟨fun e => by rw [sh_inj y hy x hx e], fun e => by cases e; rfl⟩
  | @lst n ds l _ =>
    refine ⟨fun e => ?_, fun e => by cases e⟩
    have z := list_first (PyData.shownAll ds)
    rw [show listText (PyData.shownAll ds) = y.sh from e.symm] at z
    exact absurd z (sh_first y hy).1
  | @tup n ds l _ =>
    refine ⟨fun e => ?_, fun e => by cases e⟩
    have z := tup_first (PyData.shownAll ds)
    rw [show tupleText (PyData.shownAll ds) = y.sh from e.symm] at z
    exact absurd z (sh_first y hy).2
/-- repr(v), v any of these -/
def rRepA (A : Around) : List V → Hp → VK → Prop := fun xs H Q => ∃ (v : V) (d : PyData) (n : Nat) (N : Addr → Prop), xs = [v] ∧ Ad N H v d ∧ Sm n d ∧ n ≤ 3 ∧ A.units + 5 < cLine ∧ Q (.str d.shown) H
theorem call_repA {X : Cx} (g : NoG X.A) : CallR X (.builtin "repr") (rRepA X.A) := by
  intro pins s σ H xs us Q I r h
  obtain ⟨v, d, n, N, rfl, a, sm, n3, un, q⟩ := h
  obtain ⟨h1, h2, h3, h4⟩ := sm.facts
  have lim : d.shown.length ≤ sizeLine := by
    have c : capS n ≤ 2000 := by
      have : n = 0 ∨ n = 1 ∨ n = 2 ∨ n = 3 := by omega
      rcases this with rfl | rfl | rfl | rfl <;> decide
    have : 2000 ≤ sizeLine := by decide
    omega
  cases e : fOf d with
  | none =>
    obtain ⟨p, ys, rfl, _, _⟩ := a.deep e
    exact call_reprD g pins s σ H _ us Q I r ⟨p, d, rfl, a.dp, h1, h2, by omega, lim, q⟩
  | some x =>
    rw [of_f e] at a q lim h1
    have ev := a.flat
    subst ev
    rw [f_shown] at q lim
    cases x with
    | non =>
      obtain ⟨u, rfl, ru⟩ := vals1 r
      cases ru
      exact PySem.P.repr_of_none ⟨.str _, H, I.tok _, ⟨_, rfl⟩, q⟩
    | bl b => exact call_reprB pins s σ H _ us Q I r ⟨b, rfl, q⟩
    | int i => exact call_reprIS pins s σ H _ us Q I r (.inl ⟨i, rfl, of_decide_eq_true h1, q⟩)
    | str z => exact call_repr_str pins s σ H _ us Q I r ⟨z, rfl, lim, q⟩
end V3

set_option Elab.async false
set_option linter.all false
set_option maxRecDepth 100000
/-! any values: in a row of words or not -/
namespace V3
open PySem PySem.Spec PyProof.Rows L2 TL
/-- among these words -/
def amV (L : List Fv) (d : PyData) : Bool := match fOf d with
  | some x => decide (x ∈ L)
  | none => false
def wordsV (L : List Str) : List Fv := L.map .str
theorem inV_words {x : Fv} {L : List Str} : inV x.v (L.map V.str) = decide (x ∈ wordsV L) := by
  cases x with
  | str z =>
    show inV (.str z) _ = _
    rw [inV_str]
    by_cases h : z ∈ L
    · have w : Fv.str z ∈ wordsV L := List.mem_map.mpr ⟨z, h, rfl⟩
      rw [decide_eq_true h, decide_eq_true w]
    · have w : ¬ Fv.str z ∈ wordsV L := fun q => by
        obtain ⟨y, hy, e⟩ := List.mem_map.mp q
        cases e
        exact h hy
      rw [decide_eq_false h, decide_eq_false w]
  | _ =>
    rw [decide_eq_false fun q => by
      obtain ⟨y, hy, e⟩ := List.mem_map.mp q
      cases e]
    induction L with
    | nil => rfl
    | cons y r ih => exact ih
/-- x in a list or tuple of words, x anything -/
def rInA (K : PySem.W.Frag) (neg : Bool) : R2 := fun x y H Q => ∃ (p : Addr) (L : List Str) (N : Addr → Prop) (d : PyData), y = .ref p ∧ (SqL K H p (L.map V.str) ∨ SqT K H p (L.map V.str)) ∧ Ad N H x d ∧ Q (.bl (if neg then !amV (wordsV L) d else amV (wordsV L) d)) H
section
variable {X : Cx}
theorem eq_deep {A : Around} {pins : List (Addr × Obj)} {σ : L2.St} {H : Hp} {s : Shared} (I : Inv X pins σ H s) (hu : A.units < cLine) {a : Addr} {ys : List V} (e : H a = some (.lst ys) ∨ H a = some (.tup ys)) {z : Str} {u : Value} (r : RelV (.str z) u) : SeqAt.EqAt A s u (.ref a) false := by
  obtain ⟨t, rfl⟩ := r
  rcases e with e | e
  · obtain ⟨its, _, pl, _⟩ := I.list (SqL.of (K := X.K) e)
    exact SeqAt.EqAt.str_list z t pl.isList hu
  · obtain ⟨its, _, pl, _⟩ := I.tuple (SqT.of (K := X.K) e)
    exact SeqAt.EqAt.str_tuple z t pl hu
theorem words_deep {A : Around} {pins : List (Addr × Obj)} {σ : L2.St} {H : Hp} {s : Shared} (I : Inv X pins σ H s) (hu : A.units < cLine) {a : Addr} {ys : List V} (e : H a = some (.lst ys) ∨ H a = some (.tup ys)) : ∀ {L : List Str} {us : List Value}, Vals (L.map V.str) us → ∀ u ∈ us, SeqAt.EqAt A s u (.ref a) false
  | [], _, .nil => fun u hu => by cases hu
  | z :: L, _, .cons r t => fun u hu' => by
    rcases List.mem_cons.mp hu' with rfl | hu'
    · exact eq_deep I hu e r
    · exact words_deep I hu e t u hu'
theorem op_inA (hr : Room 1 X.A) : OpR X (compareOp .In) (rInA X.K false) := by
  intro pins s σ H x y v u Q I rx ry h
  obtain ⟨p, L, N, d, rfl, hq, a, q⟩ := h
  cases e : fOf d with
  | some f =>
    rw [of_f e] at a q
    have ex := a.flat
    subst ex
    refine op_in_seq pins s σ H _ _ v u Q I rx ry ⟨p, _, rfl, hq, f_flat f, flat_strs L, ?_⟩
    rw [inV_words]
    unfold amV at q
    rw [f_of] at q
    exact q
  | none =>
    obtain ⟨b, ys, rfl, _, hb⟩ := a.deep e
    cases rx
    cases ry
    have no : amV (wordsV L) d = false := by
      unfold amV
      rw [e]
    rw [no] at q
    rcases hq with hq | hq
    · obtain ⟨its, r, pl, hz⟩ := I.list hq
      refine SeqAt.in_listAt (fun _ => false) pl.isList (fun w hw => words_deep I hr.in1.units0 hb r w (by simpa using hw)) ⟨.bl false, H, I, ?_, q⟩
      rw [(by simp : its.toArray.any (fun _ => false) = false)]
      rfl
    · obtain ⟨its, r, pl, hz⟩ := I.tuple hq
      refine SeqAt.in_tupleAt (fun _ => false) pl (fun w hw => words_deep I hr.in1.units0 hb r w (by simpa using hw)) ⟨.bl false, H, I, ?_, q⟩
      rw [(by simp : its.toArray.any (fun _ => false) = false)]
      rfl
theorem op_ninA (hr : Room 1 X.A) : OpR X (compareOp .NotIn) (rInA X.K true) := by
  intro pins s σ H x y v u Q I rx ry h
  obtain ⟨p, L, N, d, rfl, hq, a, q⟩ := h
  cases e : fOf d with
  | some f =>
    rw [of_f e] at a q
    have ex := a.flat
    subst ex
    refine op_notIn_seq pins s σ H _ _ v u Q I rx ry ⟨p, _, rfl, hq, f_flat f, flat_strs L, ?_⟩
    rw [inV_words]
    unfold amV at q
    rw [f_of] at q
    exact q
  | none =>
    obtain ⟨b, ys, rfl, _, hb⟩ := a.deep e
    cases rx
    cases ry
    have no : amV (wordsV L) d = false := by
      unfold amV
      rw [e]
    rw [no] at q
    rcases hq with hq | hq
    · obtain ⟨its, r, pl, hz⟩ := I.list hq
      refine SeqAt.notIn_listAt (fun _ => false) pl.isList (fun w hw => words_deep I hr.in1.units0 hb r w (by simpa using hw)) ⟨.bl true, H, I, ?_, q⟩
      rw [(by simp : its.toArray.any (fun _ => false) = false)]
      rfl
    · obtain ⟨its, r, pl, hz⟩ := I.tuple hq
      refine SeqAt.notIn_tupleAt (fun _ => false) pl (fun w hw => words_deep I hr.in1.units0 hb r w (by simpa using hw)) ⟨.bl true, H, I, ?_, q⟩
      rw [(by simp : its.toArray.any (fun _ => false) = false)]
      rfl
end
end V3

set_option Elab.async false
set_option linter.all false
set_option maxRecDepth 100000
/-! any values, drawn -/
namespace V3
open PySem PySem.Spec PyProof.Rows L2 TL
abbrev sAnyV : Stmt := top 22
abbrev sMostly : Stmt := top 25
/-- new behind a heap -/
abbrev NewIn (H : Hp) : Addr → Prop := fun a => H a = none
def spAnyV (n : Nat) : Sp := fun vs H Q _ => ∃ (b : Addr) (u v : Int), vs = [.ref b, .int (n : Int)] ∧ H b = some (box u v) ∧ BoxOk u v ∧ ∀ (y : V) (d : PyData) (H' : Hp), Pre b H H' → Ad (NewIn H) H' y d → Sm n d → Q y H'
def nums8 : List Fv := [.int 0, .int 1, .int (-1), .int 5, .int 100000000000000000000, .bl true, .bl false, .non]
def texts12 : List Fv := [.str "", .str "first", .str "minus", .str "open", .str "whole", .str "own", .str "now", .str "left", .str "over", .str "Plus", .str " ", .str "zz"]
theorem nums_in : ∀ x ∈ nums8, x ∈ flats := by decide +kernel
theorem texts_in : ∀ x ∈ texts12, x ∈ flats := by decide +kernel
theorem Pre.none {b : Addr} {H H' : Hp} (p : Pre b H H') {u v : Int} (hb : H b = some (V3.box u v)) {a : Addr} (n : H' a = none) : H a = none := by
  cases e : H a with
  | none => rfl
  | some o =>
    by_cases q : a = b
    · subst q
      obtain ⟨_, u', v', _, z⟩ := p
      rw [z] at n
      cases n
    · rw [p.1 a o q e] at n
      cases n
section
variable {P : Program} {w : World} {K : PySem.W.Frag} {mg : Str → Option Value} {base : Heap}
abbrev NAv : List Str := ["_law_box", "_law_deep", "_law_form", "_law_some", "_law_turn"]
theorem scAnyV : FnScope NAv ["_law_box", "_law_deep"] (defScope sAnyV) := ⟨rfl, rfl, rfl, by decide +kernel, rfl, by decide +kernel, by decide +kernel⟩
theorem anyV_step {f : Addr} {fd : FuncData} (n : Nat) (F : Fun K "_law_any" "_law_any" sAnyV f fd) (T : BltC mg) (cC : CalChoose P w K mg base) (cO : CalOneOf P w K mg base)
    (m : mg "_law_any" = some (.ref f)) (b : Binds K fd ["_law_box", "_law_deep"] []) (spB : Sp) (G : FnOk P w K mg base CX0 (2 + n) f fd ["_law_box", "_law_deep"] spB) (hB : n = 0 ∨ ∃ e, n = e + 1 ∧ spB = spAnyV e) :
    FnOk P w K mg base CX0 (3 + n) f fd ["_law_box", "_law_deep"] (spAnyV n) := by
  obtain ⟨fC, fdC, GC, mC, kC, bC⟩ := cC
  obtain ⟨fO, fdO, GO, mO, kO, bO⟩ := cO
  have z : 3 + n = (2 + n) + 1 := by omega
  rw [z]
  refine F.ok scAnyV (fun vs H Q E h => ?_) (fun cdv A outer s H vs Q E hr h => ?_)
  · obtain ⟨b, u, v, rfl, _⟩ := h
    rfl
  · obtain ⟨bx, u, v, rfl, hb, ok, k⟩ := h
    refine ⟨_, pss_cons (ps_set (i := 2) scAnyV.nd rfl (Or.inl rfl) (pe_call GC (hr.mono (by omega)) rfl mC kC bC .nil pass0 (pa_cons (pv 0) (pa_cons pe_int pa_nil))))
      (pss_cons (ps_if (PW.pt (pw_and (pt_cmpR op_gt (pv 1) pe_int (nomark _)) (pw_and1 (pt_cmpR op_lt (pv 2) pe_int (nomark _))))) (pss_cons (ps_setLc (i := 3) (own := [("_law_turn", 4)]) (g := gName 4) (tt := tYes) (by rfl) scAnyV.nd rfl rfl (sw_true rfl rfl rfl (by decide +kernel)) (pi_range1 (by rfl) T.range (pa_cons (pe_call GC (hr.mono (by omega)) rfl mC kC bC .nil pass0 (pa_cons (pv 0) (pa_cons pe_int pa_nil))) pa_nil)) (blkOk_by (own := [("_law_turn", 4)]) (N := NAv) (sc := defScope sAnyV) (by decide +kernel)) (fun _ _ _ _ _ => (pg_name (i := 4) scAnyV.nd rfl (Or.inl rfl))) (fun _ _ _ _ _ => pts_nil) (fun _ _ _ _ _ => (pe_call G hr rfl m F.kp b .nil pass0 (pa_cons (pv 0) (pa_cons (pe_op op_sub (pv 1) pe_int) pa_nil)))))
        (pss_one (ps_ret (pe_ifExp (pt_cmpR op_lt (pv 2) pe_int (nomark _)) (pe_callTy call_tuple_of (by rfl) T.tuple (by decide +kernel) (pa_cons (pv 3) pa_nil)) (pv 3))))) pss_nil)
      (pss_cons (ps_if (pt_cmpR op_lt (pv 2) pe_int (nomark _)) (pss_one (ps_ret (pe_call GO (hr.mono (by omega)) rfl mO kO bO .nil pass0 (pa_cons (pv 0) (pa_cons (pe_lst (pa_cons pe_int (pa_cons pe_int (pa_cons (pe_un un_neg pe_int) (pa_cons pe_int (pa_cons (pe_op op_pow pe_int pe_int) (pa_cons pe_bl (pa_cons pe_bl (pa_cons pe_non pa_nil))))))))) pa_nil))))) pss_nil)
      (pss_one (ps_ret (pe_call GO (hr.mono (by omega)) rfl mO kO bO .nil pass0 (pa_cons (pv 0) (pa_cons (pe_lst (pa_cons pe_str (pa_cons pe_str (pa_cons pe_str (pa_cons pe_str (pa_cons pe_str (pa_cons pe_str (pa_cons pe_str (pa_cons pe_str (pa_cons pe_str (pa_cons pe_str (pa_cons pe_str (pa_cons pe_str pa_nil))))))))))))) pa_nil))))))), ?_⟩
    refine ⟨_, rfl, bx, u, v, 11, rfl, hb, ok, (by decide), (by decide), fun d u1 v1 d0 d8 ok1 => ?_⟩
    have S1 : Pre bx H (upd H bx (box u1 v1)) := Pre.box ok1
    have hb1 : upd H bx (box u1 v1) bx = some (box u1 v1) := upd_same
    generalize upd H bx (box u1 v1) = H1 at S1 hb1
    refine ⟨_, rfl, _, _, rfl, rfl, _, rfl, ?_⟩
    refine ite2 (fun c => ⟨_, rfl, _, _, rfl, rfl, _, rfl, ite2 (fun c4 => ?deep) (fun c4 => ?fl1)⟩) (fun c => iteF ?fl2)
    case deep =>
      have e1 : (0 : Int) < (n : Int) := of_decide_eq_true c
      obtain ⟨e', he, hs⟩ : ∃ e', n = e' + 1 ∧ spB = spAnyV e' := by
        rcases hB with h | h
        · omega
        · exact h
      subst hs
      refine ⟨_, rfl, bx, u1, v1, 4, rfl, hb1, ok1, (by decide), (by decide), fun d2 u2 v2 q0 q4 ok2 => ?_⟩
      have S2 : Pre bx H (upd H1 bx (box u2 v2)) := S1.trans (Pre.box ok2)
      have hb2 : upd H1 bx (box u2 v2) bx = some (box u2 v2) := upd_same
      generalize upd H1 bx (box u2 v2) = H2 at S2 hb2
      refine ⟨d2, rfl, by omega, by omega, fun D nD => ?_⟩
      have nbD : bx ≠ D := ne_of_none hb2 nD
      refine lc_range (lo := 0) (n := d2.toNat) (fun i Hh => ∃ vs ds, Pre bx H2 Hh ∧ Hh D = some (.lst vs) ∧ AdL (fun a => H a = none ∧ a ≠ D) Hh vs ds ∧ ds.length = i ∧ ∀ d ∈ ds, Sm e' d) ?_ ?_ ?_
      · exact ⟨[], [], ⟨SameX.of (Same.new nD), u2, v2, ok2, by rw [upd_ne nbD]; exact hb2⟩, upd_same, .nil, rfl, fun z hz => by cases hz⟩
      · rintro i Hh hi ⟨vs, ds, S3, hD, ha, hl, hk⟩
        refine ⟨rfl, ?_⟩
        unfold tYes
        dsimp only
        refine iteT ?_
        obtain ⟨sx, u3, v3, ok3, hb3⟩ := id S3
        refine ⟨_, rfl, _, rfl, _, _, rfl, rfl, bx, u3, v3, ?_, hb3, ok3, fun y dy H' S4 ay sy => ?_⟩
        · show [V.ref bx, V.int ((n : Int) - 1)] ++ [] = [V.ref bx, V.int (e' : Int)]
          rw [he]
          simp
        · have hD4 : H' D = some (.lst vs) := S4.1 D _ (fun q => nbD q.symm) hD
          obtain ⟨_, u', v', ok4, hb4⟩ := id S4
          have lv : vs.length ≤ 4 := by
            rw [ha.len, hl]
            omega
          refine ⟨vs, hD4, small1000 (by omega), vs ++ [y], ds ++ [dy], ⟨?_, u', v', ok4, by rw [upd_ne nbD]; exact hb4⟩, upd_same, ?_, by rw [List.length_append, List.length_singleton, hl], fun z hz => ?_⟩
          · intro cc o nc hc
            rw [upd_ne (ne_of_none hc nD)]
            exact S4.1 cc o nc (sx cc o nc hc)
          · refine (AdL.mv (fun a z => z) (fun a o na ea nt => ?_) ds vs ha).app (.cons (Ad.mv (N := NewIn Hh) (fun a na => ⟨S2.none hb (S3.none hb2 na), fun z => by
                subst z
                cases hD.symm.trans na⟩) (fun a o na ea nt => ?_) dy y ay) .nil)
            · rw [upd_ne na.2]
              exact S4.1 a o (fun z => by
                have := na.1
                rw [z, hb] at this
                cases this) ea
            · rw [upd_ne (fun z => by
                subst z
                cases hD.symm.trans na)]
              exact ea
          · rcases List.mem_append.mp hz with hz | hz
            · exact hk z hz
            · rw [List.mem_singleton.mp hz]
              exact sy
      · rintro Hh ⟨vs, ds, S3, hD, ha, hl, hk⟩
        have hD0 : H D = none := S2.none hb nD
        have l3 : ds.length ≤ 3 := by omega
        have lv : vs.length ≤ 4 := by
          rw [ha.len]
          omega
        subst he
        refine ⟨_, rfl, _, _, rfl, rfl, _, rfl, ite2 (fun _ => ?_) (fun _ => ?_)⟩
        · refine ⟨_, rfl, D, vs, rfl, .inl ⟨SqL.of hD, fun l nl => ?_⟩⟩
          refine k _ _ _ ((S2.trans S3).then (Same.new nl)) (.tup (S2.none hb (S3.none hb2 nl)) upd_same (AdL.mv (fun a z => z.1) (fun a o na ea nt => ?_) ds vs ha)) (.tup l3 hk)
          rw [upd_ne (ne_of_none ea nl)]
          exact ea
        · exact ⟨_, rfl, k _ _ _ (S2.trans S3) (.lst hD0 hD (AdL.mv (fun a z => z.1) (fun a o na ea nt => ea) ds vs ha)) (.lst l3 hk)⟩
    all_goals (
      refine ⟨_, rfl, _, _, rfl, rfl, _, rfl, ite2 (fun c7 => ?_) (fun c7 => ?_)⟩
      · refine ⟨_, rfl, _, rfl, _, _, rfl, rfl, ⟨by decide, by decide, by decide⟩, (by show 8 ≤ sizeLine; decide), fun l nl => ?_⟩
        have bl : bx ≠ l := ne_of_none hb1 nl
        refine ⟨bx, l, u1, v1, _, rfl, (by rw [upd_ne bl]; exact hb1), ok1, (fun q => bl q.symm), SqL.of upd_same, (by show 1 ≤ 8; decide), (by show 8 ≤ 1000; decide), fun x u' v' hx ok' => ?_⟩
        obtain ⟨fx, hf, ex⟩ := List.mem_map.mp (show x ∈ nums8.map Fv.v from hx)
        subst ex
        exact k _ _ _ (S1.trans ⟨(SameX.of (Same.new nl)).trans SameX.box, u', v', ok', upd_same⟩) (Ad.of _ _ fx) (.flat (nums_in fx hf))
      · refine ⟨_, rfl, (by show 12 ≤ sizeLine; decide), fun l nl => ?_⟩
        have bl : bx ≠ l := ne_of_none hb1 nl
        refine ⟨bx, l, u1, v1, _, rfl, (by rw [upd_ne bl]; exact hb1), ok1, (fun q => bl q.symm), SqL.of upd_same, (by show 1 ≤ 12; decide), (by show 12 ≤ 1000; decide), fun x u' v' hx ok' => ?_⟩
        obtain ⟨fx, hf, ex⟩ := List.mem_map.mp (show x ∈ texts12.map Fv.v from hx)
        subst ex
        exact k _ _ _ (S1.trans ⟨(SameX.of (Same.new nl)).trans SameX.box, u', v', ok', upd_same⟩) (Ad.of _ _ fx) (.flat (texts_in fx hf)))
theorem ok_anyV {f : Addr} {fd : FuncData} (F : Fun K "_law_any" "_law_any" sAnyV f fd) (T : BltC mg) (cC : CalChoose P w K mg base) (cO : CalOneOf P w K mg base)
    (m : mg "_law_any" = some (.ref f)) (b : Binds K fd ["_law_box", "_law_deep"] []) : ∀ n, FnOk P w K mg base CX0 (3 + n) f fd ["_law_box", "_law_deep"] (spAnyV n)
  | 0 => anyV_step 0 F T cC cO m b (fun _ _ _ _ => False) ⟨fun _ _ _ _ h => h.elim, fun _ _ _ _ _ _ _ _ _ _ _ _ _ h => h.elim⟩ (.inl rfl)
  | n + 1 => anyV_step (n + 1) F T cC cO m b (spAnyV n) (by have z := ok_anyV F T cC cO m b n; rw [show 2 + (n + 1) = 3 + n by omega]; exact z) (.inr ⟨n, rfl, rfl⟩)
end
end V3

set_option Elab.async false
set_option linter.all false
set_option maxRecDepth 100000
/-! zip of three lists -/
namespace V3
open PySem PySem.Spec PyProof.Rows L2
/-- the three lists as they stand at each turn, the items in new tuples -/
def Itz3 (K : PySem.W.Frag) (a b c : Addr) : It :=
  ⟨fun i H => ∃ (xs ys zs : List V) (x y z : V), (SqL K H a xs ∧ SqL K H b ys ∧ SqL K H c zs) ∧ xs[i]? = some x ∧ ys[i]? = some y ∧ zs[i]? = some z,
    fun i H v H' => ∃ T x y z, v = .ref T ∧ H T = none ∧ H' = upd H T (.tup [x, y, z]) ∧ (∀ xs, SqL K H a xs → xs[i]? = some x) ∧ (∀ ys, SqL K H b ys → ys[i]? = some y) ∧ ∀ zs, SqL K H c zs → zs[i]? = some z,
    fun i H => ∃ xs ys zs : List V, (SqL K H a xs ∧ SqL K H b ys ∧ SqL K H c zs) ∧ xs.length = i ∧ ys.length = i ∧ zs.length = i⟩
theorem turn_zip3 {P : Program} {w : World} {K : PySem.W.Frag} {elts : List Expr} {kk : Nat} {tpos : Pos} {a b c z TI TO i1 i2 i3 : Addr} (D : ZipSep3 z TI TO i1 i2 i3 [i1, a] [i2, b] [i3, c]) (na : a ≠ i1) (nb : b ≠ i2) (nc : c ≠ i3) :
    Turn P w K (.Tuple elts kk tpos) (Itz3 K a b c) [z, TI, TO, i1, i2, i3] z (fun i h => IsZip h z TI TO .none ∧ IsTupOf3 h TI (.ref i1) (.ref i2) (.ref i3) ∧ (∃ u v w, IsTupOf3 h TO u v w) ∧ h.IsListIter i1 a i ∧ h.IsListIter i2 b i ∧ h.IsListIter i3 c i) where
  mem := by simp
  obj := fun i h st q hq => by
    obtain ⟨hz, hTI, ⟨x, y, v, hTO⟩, ⟨o1, e1, _, d1⟩, ⟨o2, e2, _, d2⟩, ⟨o3, e3, _, d3⟩⟩ := st
    have e' : q = z ∨ q = TI ∨ q = TO ∨ q = i1 ∨ q = i2 ∨ q = i3 := by simpa using hq
    rcases e' with q | q | q | q | q | q
    · rw [q]; exact ⟨_, hz, fun v q => nomatch q⟩
    · rw [q]; exact ⟨_, hTI, fun v q => nomatch q⟩
    · rw [q]; exact ⟨_, hTO, fun v q => nomatch q⟩
    · rw [q]; exact ⟨o1, e1, fun v q => by rw [d1] at q; cases q⟩
    · rw [q]; exact ⟨o2, e2, fun v q => by rw [d2] at q; cases q⟩
    · rw [q]; exact ⟨o3, e3, fun v q => by rw [d3] at q; cases q⟩
  keep := fun i h h' st k => by
    obtain ⟨hz, hTI, ⟨x, y, v, hTO⟩, h1, h2, h3⟩ := st
    exact ⟨k z (by simp) _ hz, k TI (by simp) _ hTI, ⟨x, y, v, k TO (by simp) _ hTO⟩, h1.at fun o q => k i1 (by simp) o q, h2.at fun o q => k i2 (by simp) o q, h3.at fun o q => k i3 (by simp) o q⟩
  item := by
    intro X hP hw hK hc i pins s σ H E I hf st hg
    subst hP hw hK
    obtain ⟨hz, hTI, ⟨x0, y0, v0, hTO⟩, h1, h2, h3⟩ := st
    obtain ⟨xs, ys, zs, x, y, v, ⟨hqx, hqy, hqz⟩, hx, hy, hv⟩ := hg
    obtain ⟨its, rv, p, _⟩ := I.list hqx
    obtain ⟨its2, rv2, p2, _⟩ := I.list hqy
    obtain ⟨its3, rv3, p3, _⟩ := I.list hqz
    obtain ⟨u, hu, ru⟩ := rv.get hx
    obtain ⟨u2, hu2, ru2⟩ := rv2.get hy
    obtain ⟨u3, hu3, ru3⟩ := rv3.get hv
    have hh : X.A.in1.handled = none := I.ok.hd hc
    have l1 : i < its.length := (List.getElem?_eq_some_iff.mp hu).1
    have l2 : i < its2.length := (List.getElem?_eq_some_iff.mp hu2).1
    have l3 : i < its3.length := (List.getElem?_eq_some_iff.mp hu3).1
    refine (GoesN.zip3 (elts := elts) (x1 := kk) (pos := tpos) D (Draws.list hh i1 a na its.toArray) (Draws.list hh i2 b nb its2.toArray) (Draws.list hh i3 c nc its3.toArray)).goes i s (fun r s2 => ∃ x H', Inv X pins σ H' s2 ∧ RelV x r ∧ (Itz3 X.K a b c).yld i H x H' ∧ (IsZip s2.heap z TI TO .none ∧ IsTupOf3 s2.heap TI (.ref i1) (.ref i2) (.ref i3) ∧ (∃ u v w, IsTupOf3 s2.heap TO u v w) ∧ s2.heap.IsListIter i1 a (i + 1) ∧ s2.heap.IsListIter i2 b (i + 1) ∧ s2.heap.IsListIter i3 c (i + 1)) ∧ ∀ b ∈ [z, TI, TO, i1, i2, i3], H' b = none) E (by
        simp only [List.size_toArray]
        omega) ⟨hz, hTI, ⟨x0, y0, v0, hTO⟩, ⟨h1, p.isList⟩, ⟨h2, p2.isList⟩, h3, p3.isList⟩ fun r h' tk hY st' hk htk => ?_
    obtain ⟨T, w1, w2, w3, rfl, hT, e1, e2, e3, hTu⟩ := hY
    have q1 : its[i]? = some w1 := by simpa using e1
    have q2 : its2[i]? = some w2 := by simpa using e2
    have q3 : its3[i]? = some w3 := by simpa using e3
    cases hu.symm.trans q1
    cases hu2.symm.trans q2
    cases hu3.symm.trans q3
    have new : ObjOk X.prog X.w (upd H T (.tup [x, y, v])) h' T (.tup [x, y, v]) := ⟨by show 3 ≤ sizeLine; decide, [u, u2, u3], .cons ru (.cons ru2 (.cons ru3 .nil)), hTu⟩
    have I1 : Inv X pins σ (upd H T (.tup [x, y, v])) { s with heap := h', toks := tk } :=
      I.turnedNew (t' := tk) (ch := [z, TI, TO, i1, i2, i3]) (fun c o hb q => hk c o (fun m => hb (by
        have e' : c = z ∨ c = TO ∨ c = i1 ∨ c = i2 ∨ c = i3 := by simpa using m
        rcases e' with e | e | e | e | e <;> simp [e])) q) hf hT new
    obtain ⟨g1, g2, g3, ⟨g4, _⟩, ⟨g5, _⟩, g6, _⟩ := st'
    refine ⟨.ref T, _, I1, rfl, ⟨_, x, y, v, rfl, I.hok.fresh hT, rfl, fun l hl => by rw [I.list_inj hl hqx]; exact hx, fun l hl => by rw [I.list_inj hl hqy]; exact hy, fun l hl => by rw [I.list_inj hl hqz]; exact hv⟩, ⟨g1, g2, g3, g4, g5, g6⟩, fun q hq => ?_⟩
    have hlt : q < s.heap.objs.size := by
      have e' : q = z ∨ q = TI ∨ q = TO ∨ q = i1 ∨ q = i2 ∨ q = i3 := by simpa using hq
      rcases e' with q | q | q | q | q | q
      · rw [q]; exact Heap.lt_size hz
      · rw [q]; exact Heap.lt_size hTI
      · rw [q]; exact Heap.lt_size hTO
      · rw [q]; obtain ⟨_, e1, _⟩ := h1; exact Heap.lt_size e1
      · rw [q]; obtain ⟨_, e1, _⟩ := h2; exact Heap.lt_size e1
      · rw [q]; obtain ⟨_, e1, _⟩ := h3; exact Heap.lt_size e1
    rw [upd_ne (Nat.ne_of_lt (Nat.lt_of_lt_of_le hlt hT))]
    exact (hf q hq).1
  done := by
    intro X hP hw hK hc i pins s σ H E I hf st hg
    subst hP hw hK
    obtain ⟨hz, hTI, ⟨x0, y0, v0, hTO⟩, h1, h2, h3⟩ := st
    obtain ⟨xs, ys, zs, ⟨hqx, hqy, hqz⟩, e1, e2, e3⟩ := hg
    obtain ⟨its, rv, p, _⟩ := I.list hqx
    obtain ⟨its2, rv2, p2, _⟩ := I.list hqy
    obtain ⟨its3, rv3, p3, _⟩ := I.list hqz
    have hh : X.A.in1.handled = none := I.ok.hd hc
    have l1 := rv.length
    have l2 := rv2.length
    have l3 := rv3.length
    have en : min (min its.toArray.size its2.toArray.size) its3.toArray.size = i := by
      simp only [List.size_toArray]
      omega
    refine (GoesN.zip3 (elts := elts) (x1 := kk) (pos := tpos) D (Draws.list hh i1 a na its.toArray) (Draws.list hh i2 b nb its2.toArray) (Draws.list hh i3 c nc its3.toArray)).stops s (fun s1 => Inv X pins σ H s1) E (by
        rw [en]
        exact ⟨hz, hTI, ⟨x0, y0, v0, hTO⟩, ⟨h1, p.isList⟩, ⟨h2, p2.isList⟩, h3, p3.isList⟩) fun h' tk hk htk => ?_
    exact I.turnedL (t' := tk) (ch := [z, TI, TO, i1, i2, i3]) (fun c o hb q => hk c o (fun m => hb (by
        have e' : c = z ∨ c = TO ∨ c = i1 ∨ c = i2 ∨ c = i3 := by simpa using m
        rcases e' with e | e | e | e | e <;> simp [e])) q) hf
  self := fun A i s Q E st h => wpAny_pyIter_zip st.1 h
def iZip3 (K : PySem.W.Frag) (ta : TA) : TI := fun σ H R => ta σ H fun vs H1 => ∃ (a b c : Addr) (xs ys zs : List V), vs = [.ref a, .ref b, .ref c] ∧ SqL K H1 a xs ∧ SqL K H1 b ys ∧ SqL K H1 c zs ∧ R (Itz3 K a b c) H1
theorem pi_zip3 {X : Cx} {e e2 e3 : Expr} {ta : TA} {p pos tpos : Pos} {elts : List Expr} {kk : Nat} (hg : Gl X "zip") (hm : X.mg "zip" = none) (ha : PA X [e, e2, e3] ta)
    (hs : starEach [e, e2, e3] X.env = (false, eval e X.env) :: starEach [e2, e3] X.env := by rfl) (hpl : (backTo pos (starEach [e2, e3] X.env)).any (·.1) = false := by rfl) :
    PI X (.Tuple elts kk tpos) (.Call (.Name "zip" p) [e, e2, e3] [] pos) (iZip3 X.K ta) := by
  refine ⟨fun pins s σ H R I h => ?_⟩
  refine Call_ (ld_blt I hg hm PyProof.Rows.boot_zip (PyProof.Rows.callWith_type1 (thn (ha.run pos pins s σ H _ I h) fun us s1 ⟨vs, H1, I1, r1, q1⟩ => ?_) hs hpl))
  obtain ⟨a, b, c, xs, ys, zs, ex, hqx, hqy, hqz, q⟩ := q1
  subst ex
  cases r1 with
  | cons r rr =>
    cases rr with
    | cons r' rr =>
      cases rr with
      | cons r2 rr =>
        cases rr
        cases r
        cases r'
        cases r2
        obtain ⟨its, rv, p1, _⟩ := I1.list hqx
        obtain ⟨its2, rv2, p2, _⟩ := I1.list hqy
        obtain ⟨its3, rv3, p3, _⟩ := I1.list hqz
        have n1 : ∀ x ∈ [a], x < s1.heap.objs.size := fun x hx => by rw [List.mem_singleton.mp hx]; exact p1.lt
        have n2 : ∀ x ∈ [b], x < s1.heap.objs.size := fun x hx => by rw [List.mem_singleton.mp hx]; exact p2.lt
        have n3 : ∀ x ∈ [c], x < s1.heap.objs.size := fun x hx => by rw [List.mem_singleton.mp hx]; exact p3.lt
        have fresh6 : ∀ x, x ∈ [s1.heap.objs.size + 5, s1.heap.objs.size + 3, s1.heap.objs.size + 4, s1.heap.objs.size, s1.heap.objs.size + 1, s1.heap.objs.size + 2] → FpOk X pins H1 x := fun x hx => by
          have hle : s1.heap.objs.size ≤ x := by
            have e' : x = s1.heap.objs.size + 5 ∨ x = s1.heap.objs.size + 3 ∨ x = s1.heap.objs.size + 4 ∨ x = s1.heap.objs.size ∨ x = s1.heap.objs.size + 1 ∨ x = s1.heap.objs.size + 2 := by simpa using hx
            rcases e' with e | e | e | e | e | e
            · rw [e]; exact Nat.le_add_right _ _
            · rw [e]; exact Nat.le_add_right _ _
            · rw [e]; exact Nat.le_add_right _ _
            · rw [e]; exact Nat.le_refl _
            · rw [e]; exact Nat.le_add_right _ _
            · rw [e]; exact Nat.le_add_right _ _
          exact I1.fpOk hle (I1.hok.fresh hle)
        refine zip_begins3 (begins_list a its.toArray) (begins_list b its2.toArray) (begins_list c its3.toArray) p1.isList p2.isList p3.isList fun h' hz hTI hTO h1 h2 h3 hsz hk => wpAny_pyIter_zip hz ?_
        have I2 : Inv X pins σ H1 { s1 with heap := h' } := I1.kept (t' := s1.toks) hk
        exact ⟨s1.heap.objs.size + 5, _, _, _, H1, rfl, I2, turn_zip3 (zip_sep3 n1 n2 n3) (Nat.ne_of_lt p1.lt) (Nat.ne_of_lt (Nat.lt_of_lt_of_le p2.lt (Nat.le_add_right _ _))) (Nat.ne_of_lt (Nat.lt_of_lt_of_le p3.lt (Nat.le_add_right _ _))), ⟨hz, hTI, ⟨_, _, _, hTO⟩, ⟨_, h1, rfl, rfl⟩, ⟨_, h2, rfl, rfl⟩, ⟨_, h3, rfl, rfl⟩⟩, fresh6, q⟩
/-- a loop over zip of three lists of one length -/
theorem for_zip3 {K : PySem.W.Frag} {a b c : Addr} {xs ys zs : List V} {g : TG} {tb : TS} {D : Ends} {σ : L2.St} {H : Hp} (hl : xs.length = ys.length) (hl2 : xs.length = zs.length) (Pv : Nat → L2.St → Hp → Prop) (h0 : Pv 0 σ H) (hq : ∀ i σ H, Pv i σ H → SqL K H a xs ∧ SqL K H b ys ∧ SqL K H c zs)
    (hs : ∀ (i : Nat) (x y z : V) (T : Addr) (σ : L2.St) (H : Hp), xs[i]? = some x → ys[i]? = some y → zs[i]? = some z → Pv i σ H → H T = none → g (.ref T) σ (upd H T (.tup [x, y, z])) fun σ2 H2 => tb { D with nx := Pv (i + 1), ct := Pv (i + 1), bk := D.nx } σ2 H2) (hd : ∀ σ H, Pv xs.length σ H → D.nx σ H) :
    ∃ W : Nat → Nat → L2.St → Hp → Prop, (∃ m, W 0 m σ H) ∧ ∀ i m σ H, W i m σ H →
      ((Itz3 K a b c).stop i H ∧ D.nx σ H) ∨ ((Itz3 K a b c).go i H ∧ ∃ N : L2.St → Hp → Prop, (∀ σ' H', N σ' H' → ∃ m', m' < m ∧ W (i + 1) m' σ' H') ∧ ∀ v H', (Itz3 K a b c).yld i H v H' → g v σ H' fun σ2 H2 => tb { D with nx := N, ct := N, bk := D.nx } σ2 H2) := by
  refine ⟨fun i m σ H => m = xs.length - i ∧ i ≤ xs.length ∧ Pv i σ H, ⟨xs.length, rfl, Nat.zero_le _, h0⟩, ?_⟩
  rintro i m σ H ⟨rfl, hi, p⟩
  have qs := hq i σ H p
  by_cases hlt : i < xs.length
  · have hlt2 : i < ys.length := by omega
    have hlt3 : i < zs.length := by omega
    refine .inr ⟨⟨xs, ys, zs, _, _, _, qs, List.getElem?_eq_getElem hlt, List.getElem?_eq_getElem hlt2, List.getElem?_eq_getElem hlt3⟩, Pv (i + 1), fun σ' H' p' => ⟨xs.length - (i + 1), by omega, rfl, hlt, p'⟩, fun v H' y => ?_⟩
    obtain ⟨T, x', y', z', rfl, hT, rfl, f1, f2, f3⟩ := y
    exact hs i x' y' z' T σ H (f1 xs qs.1) (f2 ys qs.2.1) (f3 zs qs.2.2) p hT
  · have e : i = xs.length := by omega
    subst e
    exact .inl ⟨⟨xs, ys, zs, qs, rfl, by omega, by omega⟩, hd σ H p⟩
end V3

set_option Elab.async false
set_option linter.all false
set_option maxRecDepth 100000
namespace V3
open PySem L2 TL
abbrev sWrongWord : Stmt := top 12
abbrev sLInit : Stmt := inClass (top 11) 0
abbrev sLStr : Stmt := inClass (top 11) 2
/-! the rows of houses alone -/
structure RowH (K : PySem.W.Frag) (mg : Str → Option Value) (KA SA DA PA : Addr) : Prop where
  kinds : mg "KINDS" = some (.ref KA)
  states : mg "STATES" = some (.ref SA)
  deeds : mg "DEEDS" = some (.ref DA)
  places : mg "PLACES" = some (.ref PA)
  tK : ∀ H, SqT K H KA (kindL.map V.str)
  tS : ∀ H, SqT K H SA (stateL.map V.str)
  tD : ∀ H, SqT K H DA (deedL.map V.str)
  tP : ∀ H, SqT K H PA (placeL.map V.str)
structure BltR (mg : Str → Option Value) : Prop where
  isi : mg "isinstance" = none
  int : mg "int" = none
  bool : mg "bool" = none
  str : mg "str" = none
def spIntI : Sp := fun vs H Q _ => ∃ i : Int, vs = [.int i] ∧ Q (.bl true) H
def spWord : Sp := fun vs H Q _ => ∃ k s d p, vs = [.str k, .str s, .str d, .str p] ∧ (Rw.lt k s d p).ok ∧ ∀ H', Same H H' → Q .non H'
def spLInit (c : Rc) : Sp := fun vs H Q _ => ∃ x dx k s d p, vs = [.ref x, .str k, .str s, .str d, .str p] ∧ H x = some (.ins c.L dx []) ∧ (Rw.lt k s d p).ok ∧ ∀ H', SameX x H H' → H' x = some ((Rw.lt k s d p).obj c dx) → Q .non H'
def spRS (c : Rc) (k : Nat) : Sp := fun vs H Q _ => ∃ (x dx : Addr) (m : Rw), vs = [.ref x] ∧ H x = some (m.obj c dx) ∧ m.kind = k ∧ m.ok ∧ Q (.str m.text) H
theorem lt_put {f : Str} {v : V} {n : Nat} : ∀ {fs : List (Str × V)}, fs.length < n → (putF f v fs).length < n + 1
  | [], h => by
    show 1 < n + 1
    have : 0 < n := h
    omega
  | (g, x) :: r, h => by
    show (if g = f then (g, v) :: r else (g, x) :: putF f v r).length < n + 1
    have l : r.length + 1 < n := h
    split
    · show r.length + 1 < n + 1
      omega
    · have z := lt_put (f := f) (v := v) (n := n - 1) (fs := r) (by omega)
      show (putF f v r).length + 1 < n + 1
      omega
theorem SameX.upd {x : Addr} {H H' : Hp} {o : HO} (s : SameX x H H') : SameX x H (upd H' x o) := fun c u n h => by
  rw [upd_ne n]
  exact s c u n h
/-- what an object's class must have of its fields -/
structure LetC (K : PySem.W.Frag) (c : Rc) : Prop where
  cl : Cls K c.L
  k : NoAttr K c.L "kind"
  s : NoAttr K c.L "state"
  d : NoAttr K c.L "deed"
  p : NoAttr K c.L "place"
section
variable {P : Program} {w : World} {K : PySem.W.Frag} {mg : Str → Option Value} {base : Heap} {KA SA DA PA : Addr}
theorem scWord : FnScope ["kind", "state", "deed", "place"] ["kind", "state", "deed", "place"] (defScope sWrongWord) := ⟨rfl, rfl, rfl, by decide +kernel, rfl, by decide +kernel, by decide +kernel⟩
theorem scLInit : FnScope ["self", "kind", "state", "deed", "place", "wrong"] ["self", "kind", "state", "deed", "place"] (defScope sLInit) := ⟨rfl, rfl, rfl, by decide +kernel, rfl, by decide +kernel, by decide +kernel⟩
theorem scLStr : FnScope ["self"] ["self"] (defScope sLStr) := ⟨rfl, rfl, rfl, by decide +kernel, rfl, by decide +kernel, by decide +kernel⟩
theorem ok_word {f : Addr} {fd : FuncData} (F : Fun K "wrong_word" "wrong_word" sWrongWord f fd) (T : RowH K mg KA SA DA PA) : FnOk P w K mg base CX0 1 f fd ["kind", "state", "deed", "place"] spWord := by
  refine F.ok scWord (fun vs H Q E h => ?_) (fun cdv A outer s H vs Q E hr h => ?_)
  · obtain ⟨k, s, d, p, rfl, _⟩ := h
    rfl
  · obtain ⟨k, s, d, p, rfl, ⟨k1, s1, d1, p1, r1⟩, q⟩ := h
    refine ⟨_, pss_cons (ps_if (pt_cmpR op_notIn_seq (pv 0) (pe_glob (v := .ref KA) rfl T.kinds rfl) rfl) (pss_one (ps_ret pe_str)) pss_nil)
      (pss_cons (ps_if (pt_cmpR op_notIn_seq (pv 1) (pe_glob (v := .ref SA) rfl T.states rfl) rfl) (pss_one (ps_ret pe_str)) pss_nil)
      (pss_cons (ps_if (PW.pt (pw_or (pt_cmpR op_notIn_seq (pv 2) (pe_glob (v := .ref DA) rfl T.deeds rfl) rfl) (pw_or1 (PW.pt (pw_and (pt_cmpR op_eq (pv 2) pe_str (nomark _)) (pw_and1 (pt_cmpR op_in_seq (pv 0) (pe_tup (pa_cons pe_str (pa_cons pe_str pa_nil))) rfl))))))) (pss_one (ps_ret pe_str)) pss_nil)
      (pss_cons (ps_if (pt_cmpR op_notIn_seq (pv 3) (pe_glob (v := .ref PA) rfl T.places rfl) rfl) (pss_one (ps_ret pe_str)) pss_nil)
      (pss_one (ps_ret pe_non))))), ?_⟩
    refine ⟨_, rfl, KA, _, rfl, .inr (T.tK _), rfl, flat_strs _, _, rfl, ?_⟩
    rw [inV_str, decide_eq_true k1]
    refine iteF ⟨_, rfl, SA, _, rfl, .inr (T.tS _), rfl, flat_strs _, _, rfl, ?_⟩
    rw [inV_str, decide_eq_true s1]
    refine iteF ⟨_, rfl, DA, _, rfl, .inr (T.tD _), rfl, flat_strs _, _, rfl, ?_⟩
    rw [inV_str, decide_eq_true d1]
    refine iteF ⟨_, rfl, rfl, _, rfl, ?_⟩
    have last : ∀ H', Same H H' → Q .non H' := q
    by_cases e : d = "right"
    · subst e
      rw [decide_eq_true rfl]
      refine iteT ⟨_, rfl, (by show 2 ≤ sizeLine; decide), fun t nt => ⟨t, _, rfl, .inr (SqT.of upd_same), rfl, rfl, _, rfl, ?_⟩⟩
      have z : inV (.str k) [.str "minus", .str "plus"] = false := by
        rcases r1 rfl with rfl | rfl <;> decide +kernel
      have z2 : (if false = true then !inV (V.str k) [.str "minus", .str "plus"] else inV (V.str k) [.str "minus", .str "plus"]) = false := by rw [if_neg Bool.false_ne_true, z]
      rw [z2]
      refine iteF ⟨_, rfl, PA, _, rfl, .inr (T.tP _), rfl, flat_strs _, _, rfl, ?_⟩
      rw [inV_str, decide_eq_true p1]
      exact iteF (last _ (Same.new nt))
    · have e2 : decide (V.str d = V.str "right") = false := decide_eq_false (fun z => e (by injection z))
      rw [e2]
      refine iteF ⟨_, rfl, PA, _, rfl, .inr (T.tP _), rfl, flat_strs _, _, rfl, ?_⟩
      rw [inV_str, decide_eq_true p1]
      exact iteF (last _ (Same.refl H))
theorem ok_lInit {f : Addr} {c : Rc} {fd : FuncData} (F : Fun K "__init__" "Let.__init__" sLInit f fd) (L : LetC K c) (cW : Cal P w K mg base CX0 "wrong_word" 1 ["kind", "state", "deed", "place"] spWord) : FnOk P w K mg base CX0 2 f fd ["self", "kind", "state", "deed", "place"] (spLInit c) := by
  obtain ⟨fW, fdW, GW, mW, kW, bW⟩ := cW
  refine F.ok scLInit (fun vs H Q E h => ?_) (fun cdv A outer s H vs Q E hr h => ?_)
  · obtain ⟨x, dx, k, s, d, p, rfl, _⟩ := h
    rfl
  · obtain ⟨x, dx, k, s, d, p, rfl, hx, ok, q⟩ := h
    refine ⟨_, pss_cons (ps_set (i := 5) scLInit.nd rfl (Or.inl rfl) (pe_call GW hr rfl mW kW bW .nil pass0 (pa_cons (pv 1) (pa_cons (pv 2) (pa_cons (pv 3) (pa_cons (pv 4) pa_nil))))))
      (pss_cons (ps_if (pt_cmpR op_notN (pv 5) pe_non (nomark _)) (pss_one ps_never) pss_nil)
      (pss_cons (ps_fld (pv 0) (pv 1) rfl)
      (pss_cons (ps_fld (pv 0) (pv 2) rfl)
      (pss_cons (ps_fld (pv 0) (pv 3) rfl)
      (pss_one (ps_fld (pv 0) (pv 4) rfl)))))), ?_⟩
    refine ⟨_, rfl, _, rfl, _, rfl, _, rfl, k, s, d, p, rfl, ok, fun H1 s1 => ?_⟩
    refine ⟨_, rfl, rfl, _, rfl, iteF ?_⟩
    have hx1 := s1 _ _ hx
    refine ⟨_, rfl, _, rfl, x, c.L, dx, _, rfl, hx1, L.cl, L.k, (by show 0 < 1000; decide), ?_⟩
    refine ⟨_, rfl, _, rfl, x, c.L, dx, _, rfl, upd_same, L.cl, L.s, (by show 1 < 1000; decide), ?_⟩
    rw [upd_upd]
    refine ⟨_, rfl, _, rfl, x, c.L, dx, _, rfl, upd_same, L.cl, L.d, (lt_put (n := 999) (lt_put (n := 998) (by show 0 < 998; decide))), ?_⟩
    rw [upd_upd]
    refine ⟨_, rfl, _, rfl, x, c.L, dx, _, rfl, upd_same, L.cl, L.p, (lt_put (n := 999) (lt_put (n := 998) (lt_put (n := 997) (by show 0 < 997; decide)))), ?_⟩
    rw [upd_upd, let_put]
    exact q _ (SameX.of s1).upd upd_same
theorem ok_lStr {f : Addr} {c : Rc} {fd : FuncData} (F : Fun K "__str__" "Let.__str__" sLStr f fd) (L : LetC K c) : FnOk P w K mg base CX0 1 f fd ["self"] (spRS c 0) := by
  refine F.ok scLStr (fun vs H Q E h => ?_) (fun cdv A outer s H vs Q E hr h => ?_)
  · obtain ⟨x, dx, m, rfl, _⟩ := h
    rfl
  · obtain ⟨x, dx, m, rfl, hx, hk, ok, q⟩ := h
    cases m with
    | ct k w o => cases hk
    | lt k s d p =>
      have l : ∀ z ∈ (Rw.lt k s d p).words, z.length ≤ 6 := fun z hz => (word_ok ok z hz).2
      simp only [Rw.words, List.mem_cons, List.not_mem_nil, or_false, forall_eq_or_imp, forall_eq] at l
      obtain ⟨l1, l2, l3, l4⟩ := l
      have l0 : (Str.empty).length = 0 := rfl
      have lb : (" " : Str).length = 1 := by decide +kernel
      refine ⟨_, (pss_one (ps_ret (pe_joined (.cons (pe_fmt (pe_fld (pv 0) rfl)) (.cons pe_str (.cons (pe_fmt (pe_fld (pv 0) rfl)) (.cons pe_str (.cons (pe_fmt (pe_fld (pv 0) rfl)) (.cons pe_str (.cons (pe_fmt (pe_fld (pv 0) rfl)) .nil)))))))))), ?_⟩
      refine ⟨_, rfl, x, c.L, dx, _, _, rfl, hx, L.cl, L.k, let_kind .., .inl ⟨k, rfl, small (by omega), _, rfl, small (by rw [app_len]; omega), ?_⟩⟩
      refine ⟨_, rfl, small (by simp only [app_len]; omega), ?_⟩
      refine ⟨_, rfl, x, c.L, dx, _, _, rfl, hx, L.cl, L.s, let_state .., .inl ⟨s, rfl, small (by omega), _, rfl, small (by simp only [app_len]; omega), ?_⟩⟩
      refine ⟨_, rfl, small (by simp only [app_len]; omega), ?_⟩
      refine ⟨_, rfl, x, c.L, dx, _, _, rfl, hx, L.cl, L.d, let_deed .., .inl ⟨d, rfl, small (by omega), _, rfl, small (by simp only [app_len]; omega), ?_⟩⟩
      refine ⟨_, rfl, small (by simp only [app_len]; omega), ?_⟩
      refine ⟨_, rfl, x, c.L, dx, _, _, rfl, hx, L.cl, L.p, let_place .., .inl ⟨p, rfl, small (by omega), _, rfl, small (by simp only [app_len]; omega), ?_⟩⟩
      rw [← let_text] at q
      exact q
end
end V3

set_option Elab.async false
set_option linter.all false
set_option maxRecDepth 100000
namespace V3
open PySem L2 TL
-- no sRows
section
variable {X : Cx} {e : Expr} {o : Expr} {to te : TE}
def rJoinK (K : PySem.W.Frag) : V → List V → Hp → VK → Prop := fun x xs H Q => ∃ a p, ∃ ys : List Str, x = .str a ∧ xs = [.ref p] ∧ (SqL K H p (ys.map V.str) ∨ SqT K H p (ys.map V.str)) ∧
  (ys.map (·.length)).sum + ys.length * a.length ≤ 16777216 ∧ Q (.str (Txt.join a ys)) H
/-- the same rules, K said -/
theorem pe_joinK {K : PySem.W.Frag} {apos pos : Pos} (ho : PE X o to) (he : PE X e te) (hK : X.K = K := by rfl) (hs : starEach [e] X.env = [(false, eval e X.env)] := by rfl) (hbase : attributeBase o "join" X.env (eval o X.env) = eval o X.env := by rfl) (hline : (apos.endLine == pos.line) = true := by rfl) :
    PE X (.Call (.Attribute o "join" apos) [e] [] pos) (tM1 (rJoinK K) to te) := by
  subst hK
  exact pe_join ho he hs hbase hline
theorem pe_ixT {K : PySem.W.Frag} {a b : Expr} {ta tb : TE} {pos : Pos} (ha : PE X a ta) (hb : PE X b tb) (hs : PlainIx b) (hK : X.K = K := by rfl) : PE X (.Subscript a b pos) (tOp (rIxT K) ta tb) := by
  subst hK
  exact pe_ix ix_tup ha hb hs
theorem pe_ixL {K : PySem.W.Frag} {a b : Expr} {ta tb : TE} {pos : Pos} (ha : PE X a ta) (hb : PE X b tb) (hs : PlainIx b) (hK : X.K = K := by rfl) : PE X (.Subscript a b pos) (tOp (rIxL K) ta tb) := by
  subst hK
  exact pe_ix ix_list ha hb hs
end
/-- a list of values that stand for those of another list -/
def Ls {α : Type} (R : V → α → Prop) (vs : List V) (ms : List α) : Prop := vs.length = ms.length ∧ ∀ (i : Nat) (m : α), ms[i]? = some m → ∃ v, vs[i]? = some v ∧ R v m
theorem Ls.nil {α : Type} {R : V → α → Prop} : Ls R [] [] := ⟨rfl, fun i m h => by simp at h⟩
theorem Ls.imp {α : Type} {R R' : V → α → Prop} {vs : List V} {ms : List α} (d : Ls R vs ms) (h : ∀ v m, R v m → R' v m) : Ls R' vs ms := ⟨d.1, fun i m e => by
  obtain ⟨v, e', r⟩ := d.2 i m e
  exact ⟨v, e', h _ _ r⟩⟩
theorem Ls.push {α : Type} {R : V → α → Prop} {vs : List V} {ms : List α} {v : V} {m : α} (d : Ls R vs ms) (t : R v m) : Ls R (vs ++ [v]) (ms ++ [m]) := by
  refine ⟨by simp [d.1], fun i n hn => ?_⟩
  rcases at_end hn with ⟨_, q⟩ | ⟨rfl, rfl⟩
  · obtain ⟨w, e, t'⟩ := d.2 i n q
    exact ⟨w, at_old e, t'⟩
  · exact ⟨v, at_new d.1, t⟩
theorem Ls.get {α : Type} {R : V → α → Prop} {vs : List V} {ms : List α} {v : V} {i : Nat} (d : Ls R vs ms) (h : vs[i]? = some v) : ∃ m, ms[i]? = some m ∧ R v m := by
  have l := (List.getElem?_eq_some_iff.mp h).1
  have e := List.getElem?_eq_getElem (l := ms) (i := i) (by rw [← d.1]; exact l)
  obtain ⟨w, q, t⟩ := d.2 i _ e
  rw [h] at q
  injection q with q
  subst q
  exact ⟨_, e, t⟩
theorem Ls.get2 {α : Type} {R : V → α → Prop} {vs : List V} {ms : List α} {v : V} {i : Nat} {m : α} (d : Ls R vs ms) (h : vs[i]? = some v) (hm : ms[i]? = some m) : R v m := by
  obtain ⟨w, q, t⟩ := d.2 i _ hm
  rw [h] at q
  injection q with q
  subst q
  exact t
/-- the tuple of a row -/
def Rw.tupV : Rw → List V
  | .lt k s d p => [.str k, .str s, .str d, .str p]
  | .ct k w o => [.str k, .int w, .str o]
def TpAt (H : Hp) (v : V) (m : Rw) : Prop := ∃ p, v = .ref p ∧ H p = some (.tup m.tupV)
theorem TpAt.keep {H H' : Hp} {v : V} {m : Rw} (h : TpAt H v m) (s : Keep H H') : TpAt H' v m := by
  obtain ⟨p, e, hp⟩ := h
  exact ⟨p, e, s _ _ (fun _ z => by cases z) hp⟩
theorem TpAt.same {H H' : Hp} {v : V} {m : Rw} (h : TpAt H v m) (s : Same H H') : TpAt H' v m := h.keep (Keep.of s)
/-- tuples of rows, each of them a row of a kind -/
def RowLs (kd : Nat) (H : Hp) (vs : List V) (ms : List Rw) : Prop := Ls (fun v m => TpAt H v m ∧ m.ok ∧ m.kind = kd) vs ms
theorem RowLs.keep {kd : Nat} {H H' : Hp} {vs : List V} {ms : List Rw} (d : RowLs kd H vs ms) (s : Keep H H') : RowLs kd H' vs ms := d.imp fun _ _ h => ⟨h.1.keep s, h.2⟩
def spRows : Sp := fun vs H Q _ => ∃ (b : Addr) (u v : Int) (n : Int), vs = [.ref b, .int n] ∧ H b = some (box u v) ∧ BoxOk u v ∧ 0 ≤ n ∧ n ≤ 100 ∧
  ∀ (D : Addr) (xs : List V) (ms : List Rw) (H' : Hp), Pre b H H' → H' D = some (.lst xs) → D ≠ b → (∀ c o, c ≠ b → H c = some o → c ≠ D) → RowLs 0 H' xs ms → (ms.length : Int) = n → Q (.ref D) H'
def spLetOf (c : Rc) : Sp := fun vs H Q _ => ∃ (v : V) (m : Rw), vs = [v] ∧ TpAt H v m ∧ m.ok ∧ m.kind = 0 ∧ ∀ (x : V) (H' : Hp), Same H H' → RwAt c H' x m → Q x H'
structure MkR (P : Program) (w : World) (K : PySem.W.Frag) (mg : Str → Option Value) (base : Heap) (name : Str) (ps : List Str) (C : Addr) (k : Nat) (spI : Sp) : Prop where
  g : mg name = some (.ref C)
  ini : ∃ (f : Addr) (fd : FuncData), FnOk P w K mg base CX0 k f fd ps spI ∧ Mk K C f ∧ Binds K fd ps []
structure BltG (mg : Str → Option Value) : Prop where
  range : mg "range" = none
  str : mg "str" = none
theorem mk_let {c : Rc} {x dx : Addr} {H : Hp} {k s d p : Str} {R : VK} {E : XK} (ok : (Rw.lt k s d p).ok) (nx : H x = none) (ndx : H dx = none) (q : ∀ H', Same H H' → RwAt c H' (.ref x) (.lt k s d p) → R .non H') :
    spLInit c [.ref x, .str k, .str s, .str d, .str p] (upd (upd H dx (.own x)) x (.ins c.L dx [])) R E :=
  ⟨x, dx, k, s, d, p, rfl, upd_same, ok, fun H' s' hx => q H' (fun a o e => s' a o (ne_of_none e nx) (made_same nx ndx a o e)) ⟨x, dx, rfl, hx⟩⟩
theorem oneOf_at {K : PySem.W.Frag} {b l : Addr} {u v : Int} {H : Hp} {xs : List V} {Q : VK} (hb : H b = some (box u v)) (ok : BoxOk u v) (ne : l ≠ b) (hl : H l = some (.lst xs)) (h1 : 1 ≤ xs.length) (h2 : xs.length ≤ 1000)
    (k : ∀ x H', x ∈ xs → Pre b H H' → Q x H') : spOneOf K [.ref b, .ref l] H Q E :=
  ⟨b, l, u, v, xs, rfl, hb, ok, ne, SqL.of hl, h1, h2, fun x _ _ hx ok' => k x _ hx (Pre.box ok')⟩
theorem oneOf_new {K : PySem.W.Frag} {b l : Addr} {u v : Int} {H : Hp} {xs : List V} {Q : VK} (hb : H b = some (box u v)) (ok : BoxOk u v) (nl : H l = none) (h1 : 1 ≤ xs.length) (h2 : xs.length ≤ 1000)
    (k : ∀ x H', x ∈ xs → Pre b H H' → Q x H') : spOneOf K [.ref b, .ref l] (upd H l (.lst xs)) Q E0 := by
  have nbl : b ≠ l := ne_of_none hb nl
  refine oneOf_at (by rw [upd_ne nbl]; exact hb) ok (Ne.symm nbl) upd_same h1 h2 fun x H' hx p => k x H' hx ⟨fun c o n e => p.1 c o n (by rw [upd_ne (ne_of_none e nl)]; exact e), p.2⟩
section
variable {P : Program} {w : World} {K : PySem.W.Frag} {mg : Str → Option Value} {base : Heap}
abbrev CalOne (P : Program) (w : World) (K : PySem.W.Frag) (mg : Str → Option Value) (base : Heap) : Prop := Cal P w K mg base CX0 "_law_one_of" 2 ["_law_box", "_law_some"] (spOneOf K)
end
end V3

set_option Elab.async false
set_option linter.all false
set_option maxRecDepth 100000
namespace V3
open PySem PySem.Spec PyProof.Rows L2
/-! enumerate over a tuple -/
set_option maxHeartbeats 1000000 in
theorem new_enumT (a : Addr) (its : Array Value) :
    Meets (Builtin.«enumerate.__new__» ⟨[.type "enumerate", .ref a], []⟩) (fun _ R s => s.heap.IsTuple a its ∧
      R (.ok (.ret (.ref (s.heap.push { cls := .type "tuple_iterator", data := .fields #[.ref a, .int 0 0] }).objs.size)))
        { s with heap := (s.heap.push { cls := .type "tuple_iterator", data := .fields #[.ref a, .int 0 0] }).push { cls := .type "enumerate", data := .fields #[.none, .bool false, .ref s.heap.objs.size, rawInt 0, .none, .none] } }) :=
  .of_wp fun prog w A R s h => by
    obtain ⟨hp, g, d, tk, os⟩ := s
    obtain ⟨h1, h⟩ := h
    have sb := sub_enumerate
    have q1 : ∀ {A' : Around} {E : Value → Shared → Prop} {Q : Value → Shared → Prop}, Q (.ref hp.objs.size) ⟨hp.push { cls := .type "tuple_iterator", data := .fields #[.ref a, .int 0 0] }, g, d, tk, os⟩ → wpAny (model prog w) A' (pyIter (.ref a)) Q E ⟨hp, g, d, tk, os⟩ :=
      fun q => (begins_tuple a its).iter prog w _ _ ⟨hp, g, d, tk, os⟩ _ h1 q
    wp_walk using q1
    refine wpAny_stack_any fun st => wpAny_pure ?_
    split
    · rename_i c _ _ _ _ _
      cases (c == Value.type "enumerate") <;> (wp_walk using q1; exact ⟨_, rfl, h⟩)
    · wp_walk using q1
      exact ⟨_, rfl, h⟩
theorem call_enumT {prog : Program} {w : World} {A : Around} {E : Value → Shared → Prop} {s : Shared} {a : Addr} {its : Array Value} {Q : Value → Shared → Prop} (ha : s.heap.IsTuple a its)
    (k : ∀ h', IsEnum h' (s.heap.objs.size + 1) s.heap.objs.size 0 .none → h'.IsTupleIter s.heap.objs.size a 0 → (∀ b o, s.heap.get? b = some o → h'.get? b = some o) → Q (.ref (s.heap.objs.size + 1)) { s with heap := h' }) :
    wpAny (model prog w) A (call (.type "enumerate") [.ref a]) Q E s := by
  refine callType_new F.called_enumerate (by decide) (F.typeCall_enumerate_1 _) (F.newCall_enumerate_1 _) (fun obj => F.args_object_init_2 obj _) F.entry_enumerate_new (new_enumT a its) ⟨ha, ?_⟩
  have sz : (s.heap.push { cls := .type "tuple_iterator", data := .fields #[.ref a, .int 0 0] }).objs.size = s.heap.objs.size + 1 := Heap.size_push ..
  show _ ∧ _
  rw [sz]
  have e1 : IsEnum ((s.heap.push { cls := .type "tuple_iterator", data := .fields #[.ref a, .int 0 0] }).push { cls := .type "enumerate", data := .fields #[.none, .bool false, .ref s.heap.objs.size, rawInt 0, .none, .none] }) (s.heap.objs.size + 1) s.heap.objs.size 0 .none := by
    have z := Heap.get?_push_size (s.heap.push { cls := .type "tuple_iterator", data := .fields #[.ref a, .int 0 0] }) (o := { cls := .type "enumerate", data := .fields #[.none, .bool false, .ref s.heap.objs.size, rawInt 0, .none, .none] }) rfl
    rw [sz] at z
    exact z
  exact ⟨⟨_, e1, rfl⟩, k _ e1 ⟨_, Heap.get?_push_of_some _ (Heap.get?_push_size _ rfl), rfl, rfl⟩ fun b o x => Heap.get?_push_of_some _ (Heap.get?_push_of_some _ x)⟩
/-- the tuple at a, each item in a new pair with its number -/
def Iet (K : PySem.W.Frag) (a : Addr) : It :=
  ⟨fun i H => ∃ xs x, SqT K H a xs ∧ xs[i]? = some x, fun i H v H' => ∃ T x, v = .ref T ∧ H T = none ∧ H' = upd H T (.tup [.int (i : Nat), x]) ∧ ∀ xs, SqT K H a xs → xs[i]? = some x, fun i H => ∃ xs, SqT K H a xs ∧ xs.length = i⟩
theorem turn_enumT {P : Program} {w : World} {K : PySem.W.Frag} {elts : List Expr} {kk : Nat} {tpos : Pos} (a e it : Addr) :
    Turn P w K (.Tuple elts kk tpos) (Iet K a) [e, it] e (fun i h => (∃ old, IsEnum h e it ((i : Nat) : Int) old) ∧ h.IsTupleIter it a i ∧ e ≠ it ∧ a ≠ it ∧ e ≠ a) where
  mem := by simp
  obj := fun i h st b hb => by
    obtain ⟨⟨old, g1⟩, ⟨o, ho, hc, hd⟩, _⟩ := st
    have z0 : b = e ∨ b = it := by simpa using hb
    rcases z0 with z | z
    · rw [z]
      exact ⟨_, g1, fun v q => nomatch q⟩
    · rw [z]
      exact ⟨o, ho, fun v q => by rw [hd] at q; cases q⟩
  keep := fun i h h' st k => let ⟨⟨old, g1⟩, g2, g3⟩ := st; ⟨⟨old, k e (by simp) _ g1⟩, g2.at fun o q => k it (by simp) o q, g3⟩
  item := by
    intro X hP hw hK hc i pins s σ H E I hf st hg
    subst hP hw hK
    obtain ⟨⟨old, g1⟩, g2, n1, n2, n3⟩ := st
    obtain ⟨xs, x, hq, hx⟩ := hg
    obtain ⟨its, rv, p, hz⟩ := I.tuple hq
    obtain ⟨u, hu, ru⟩ := rv.get hx
    have el : e < s.heap.objs.size := Heap.lt_size g1
    have il : it < s.heap.objs.size := by
      obtain ⟨_, q, _⟩ := g2
      exact Heap.lt_size q
    have lt : i < its.toArray.size := by
      have z := (List.getElem?_eq_some_iff.mp hu).1
      simpa using z
    refine wpAny_pyNext_enum_itemD (Draws.tuple (A := X.A.in1) (show X.A.in1.handled = none from I.ok.hd hc) it a n2 its.toArray) g1 ⟨g2, p⟩ lt n1 (by simp only [List.mem_cons, List.not_mem_nil, or_false, not_or]; exact ⟨n1, n3⟩) fun y h' tk hP ho st' hT hsz hk => ?_
    obtain rfl : y = u := by
      have z : its.toArray[i]? = some y := hP
      have z2 : its.toArray[i]? = some u := by simpa using hu
      rw [z2] at z
      exact (Option.some.inj z).symm
    refine ⟨_, rfl, wpAny_letOwnedTupleGo_enum (s := { s with heap := h', toks := tk + 1 }) ho fun h'' g1' sb => ?_⟩
    have T2 : h''.get? s.heap.objs.size = some { cls := .type "tuple", data := .seq #[.int i tk, y] } := (sb.2 _ (Nat.ne_of_gt el)).trans hT
    have new : ObjOk X.prog X.w (upd H s.heap.objs.size (.tup [.int (i : Nat), x])) h'' s.heap.objs.size (.tup [.int (i : Nat), x]) :=
      ⟨by show 2 ≤ sizeLine; decide, [.int i tk, y], .cons ⟨_, rfl⟩ (.cons ru .nil), ⟨_, T2, rfl, _, rfl⟩⟩
    have J : Inv X pins σ (upd H s.heap.objs.size (.tup [.int (i : Nat), x])) { s with heap := h'', toks := tk + 1 } :=
      I.turnedNew (ch := [e, it]) (fun b ob hb q => (sb.2 b (fun z => hb (by simp [z]))).trans (hk b ob (fun z => hb (by simp [z])) (fun z => hb (by simp [z])) q)) hf (Nat.le_refl _) new
    refine ⟨.ref s.heap.objs.size, _, J, rfl, ⟨_, x, rfl, I.hok.fresh (Nat.le_refl _), rfl, fun ys hy => by rw [I.tuple_inj hy hq]; exact hx⟩, ⟨⟨y, ?_⟩, st'.1.at fun o q => (sb.2 it (Ne.symm n1)).trans q, n1, n2, n3⟩, fun b hb => ?_⟩
    · have e1 : ((i + 1 : Nat) : Int) = (i : Int) + 1 := by omega
      rw [e1]
      exact g1'
    · have lb : b < s.heap.objs.size := by
        have z0 : b = e ∨ b = it := by simpa using hb
        rcases z0 with z | z
        · rw [z]
          exact el
        · rw [z]
          exact il
      rw [upd_ne (Nat.ne_of_lt lb)]
      exact (hf b hb).1
  done := by
    intro X hP hw hK hc i pins s σ H E I hf st hg
    subst hP hw hK
    obtain ⟨⟨old, g1⟩, g2, n1, n2, n3⟩ := st
    obtain ⟨xs, hq, hx⟩ := hg
    obtain ⟨its, rv, p, hz⟩ := I.tuple hq
    obtain ⟨f0, f1, f2, f3, f4, f5⟩ := hf it (by simp)
    have ei : i = its.toArray.size := by
      have z := rv.length
      simp only [List.size_toArray]
      omega
    exact wpAny_pyNext_enum_endD (Draws.tuple (A := X.A.in1) (show X.A.in1.handled = none from I.ok.hd hc) it a n2 its.toArray) g1 (by rw [← ei]; exact ⟨g2, p⟩) fun h' eb => ⟨rfl, I.turned (t' := s.toks) (fun b o hb q => eb b o hb q) f0 f1 f3 f4 f5⟩
  self := fun A i s Q E st h => let ⟨⟨_, g1⟩, _⟩ := st; wpAny_pyIter_enum g1 h
def iEnumT (K : PySem.W.Frag) (ta : TA) : TI := fun σ H R => ta σ H fun vs H1 => ∃ a xs, vs = [.ref a] ∧ SqT K H1 a xs ∧ R (Iet K a) H1
theorem pi_enumT {X : Cx} {e : Expr} {ta : TA} {p pos tpos : Pos} {elts : List Expr} {kk : Nat} (hg : Gl X "enumerate") (hm : X.mg "enumerate" = none) (ha : PA X [e] ta) (hs : starEach [e] X.env = [(false, eval e X.env)] := by rfl) :
    PI X (.Tuple elts kk tpos) (.Call (.Name "enumerate" p) [e] [] pos) (iEnumT X.K ta) := by
  refine ⟨fun pins s σ H R I h => ?_⟩
  refine Call_ (ld_blt I hg hm boot_enumerate (PyProof.Rows.callWith_type1 (thn (ha.run pos pins s σ H _ I h) fun us s1 ⟨vs, H1, I1, r1, a, xs, ex, hq, q⟩ => ?_) hs rfl))
  subst ex
  cases r1 with
  | cons r rr =>
    cases rr
    cases r
    obtain ⟨its, rv, p', hz⟩ := I1.tuple hq
    have al : a < s1.heap.objs.size := IsTup.lt p'
    refine call_enumT (its := its.toArray) p' fun h' he hit hk => wpAny_pyIter_enum he ?_
    have I2 : Inv X pins σ H1 { s1 with heap := h' } := I1.kept (t' := s1.toks) hk
    refine ⟨s1.heap.objs.size + 1, [s1.heap.objs.size + 1, s1.heap.objs.size], _, _, H1, rfl, I2, turn_enumT a (s1.heap.objs.size + 1) s1.heap.objs.size, ⟨⟨.none, he⟩, hit, Nat.succ_ne_self _, Nat.ne_of_lt al, Nat.ne_of_gt (Nat.lt_succ_of_lt al)⟩, fun b hb => ?_, q⟩
    have z0 : b = s1.heap.objs.size + 1 ∨ b = s1.heap.objs.size := by simpa using hb
    have le : s1.heap.objs.size ≤ b := by
      rcases z0 with z | z
      · rw [z]
        exact Nat.le_add_right _ _
      · rw [z]
        exact Nat.le_refl _
    exact I1.fpOk le (I1.hok.fresh le)
theorem walk_enumT {K : PySem.W.Frag} {a : Addr} {xs : List V} : Walk (Iet K a) xs.length (fun H => SqT K H a xs) (YPair (fun i => some (.int (i : Nat))) (fun i => xs[i]?)) := by
  refine ⟨fun i _ hi q => ⟨xs, xs[i], q, by simp [hi]⟩, fun _ q => ⟨xs, q, rfl⟩, fun i H v H' _ q y => ?_⟩
  obtain ⟨T, x, h1, h2, h3, h4⟩ := y
  exact ⟨T, .int (i : Nat), x, h1, h2, h3, rfl, h4 xs q⟩
end V3

set_option Elab.async false
set_option linter.all false
set_option maxRecDepth 100000
/-! readings that leave all as it was, from a heap on: what they answer, by classes of stable things -/
namespace V3
open PySem L2 TL
class St (R : V → Hp → Prop) : Prop where
  st : ∀ v H H', Same H H' → R v H → R v H'
/-- all but the lists may go on -/
class StL (R : V → Hp → Prop) : Prop where
  st : ∀ v H H', Keep H H' → R v H → R v H'
instance {R : V → Hp → Prop} [i : StL R] : St R := ⟨fun v H H' s h => i.st v H H' (Keep.of s) h⟩
theorem upL {R : V → Hp → Prop} [i : StL R] {v : V} {H H' : Hp} (s : Keep H H') (h : R v H) : R v H' := i.st _ _ _ s h
class StA (R : List V → Hp → Prop) : Prop where
  st : ∀ v H H', Same H H' → R v H → R v H'
theorem up {R : V → Hp → Prop} [i : St R] {v : V} {H H' : Hp} (s : Same H H') (h : R v H) : R v H' := i.st _ _ _ s h
theorem stv {R : V → Hp → Prop} [i : St R] : StV R := i.st
instance {i : Int} : StL (isIv i) := ⟨fun _ _ _ _ h => h⟩
instance {i : Str} : StL (isSv i) := ⟨fun _ _ _ _ h => h⟩
instance {i : Bool} : StL (isBv i) := ⟨fun _ _ _ _ h => h⟩
instance {u : V} : StL (isVv u) := ⟨fun _ _ _ _ h => h⟩
/-- a tracked list, a tracked tuple of such things -/
def isL {α : Type} (S : α → V → Hp → Prop) (as : List α) : V → Hp → Prop := fun v H => ∃ D us, v = .ref D ∧ H D = some (.lst us) ∧ Ls (fun u a => S a u H) us as
def isU {α : Type} (S : α → V → Hp → Prop) (as : List α) : V → Hp → Prop := fun v H => ∃ D us, v = .ref D ∧ H D = some (.tup us) ∧ Ls (fun u a => S a u H) us as
instance {α : Type} {S : α → V → Hp → Prop} {as : List α} [∀ a, St (S a)] : St (isL S as) := ⟨fun _ _ _ s ⟨D, us, e, h, l⟩ => ⟨D, us, e, s _ _ h, l.imp fun _ _ r => up s r⟩⟩
instance {α : Type} {S : α → V → Hp → Prop} {as : List α} [∀ a, St (S a)] : St (isU S as) := ⟨fun _ _ _ s ⟨D, us, e, h, l⟩ => ⟨D, us, e, s _ _ h, l.imp fun _ _ r => up s r⟩⟩
instance {α : Type} {S : α → V → Hp → Prop} {as : List α} [∀ a, StL (S a)] : StL (isU S as) := ⟨fun _ _ _ s ⟨D, us, e, h, l⟩ => ⟨D, us, e, s _ _ (fun _ z => by cases z) h, l.imp fun _ _ r => upL s r⟩⟩
theorem Ls.upL {α : Type} {S : α → V → Hp → Prop} [∀ a, StL (S a)] {us : List V} {as : List α} {H H' : Hp} (l : Ls (fun u a => S a u H) us as) (s : Keep H H') : Ls (fun u a => S a u H') us as := l.imp fun _ _ r => V3.upL s r
theorem Ls.up {α : Type} {S : α → V → Hp → Prop} [∀ a, St (S a)] {us : List V} {as : List α} {H H' : Hp} (l : Ls (fun u a => S a u H) us as) (s : Same H H') : Ls (fun u a => S a u H') us as := l.imp fun _ _ r => V3.up s r
abbrev isIs : List Int → V → Hp → Prop := isL isIv
abbrev isSs : List Str → V → Hp → Prop := isL isSv
abbrev isBs : List Bool → V → Hp → Prop := isL isBv
/-- arguments -/
def A0 : List V → Hp → Prop := fun vs _ => vs = []
def AC (R : V → Hp → Prop) (Rs : List V → Hp → Prop) : List V → Hp → Prop := fun vs H => ∃ v r, vs = v :: r ∧ R v H ∧ Rs r H
instance : StA A0 := ⟨fun _ _ _ _ h => h⟩
instance {R : V → Hp → Prop} {Rs : List V → Hp → Prop} [St R] [i : StA Rs] : StA (AC R Rs) := ⟨fun _ _ _ s ⟨v, r, e, h, t⟩ => ⟨v, r, e, up s h, i.st _ _ _ s t⟩⟩
def EvA (W : Hp → Prop) (σ : L2.St) (ta : TA) (Rs : List V → Hp → Prop) : Prop := ∀ H Q, W H → (∀ vs H', Same H H' → W H' → Rs vs H' → Q vs H') → ta σ H Q
section
variable {σ : L2.St} {ta tb te : TE} {ts : TA} {t u : TT} {H0 : Hp} {R Ra Rb : V → Hp → Prop} {Rs : List V → Hp → Prop}
theorem ev_v [St R] {i : Nat} {v : V} (e : σ[i]? = some (some v)) (h : R v H0) : EvV (Same H0) σ (tVar i) R := ev_var e fun _ s => up s h
theorem eva_nil : EvA (Same H0) σ tNil A0 := fun H Q w k => k [] H (Same.refl H) w rfl
theorem eva_cons [St Ra] (ha : EvV (Same H0) σ ta Ra) (hs : EvA (Same H0) σ ts Rs) : EvA (Same H0) σ (tCons ta ts) (AC Ra Rs) := fun H Q w k =>
  ha H _ w fun x H1 s1 w1 r => hs H1 _ w1 fun xs H2 s2 w2 rs => k (x :: xs) H2 (s1.trans s2) w2 ⟨x, xs, rfl, up s2 r, rs⟩
theorem ev_call {sp : Sp} {dvs : List V} {E : XK} (ha : EvA (Same H0) σ ts Rs) (h : ∀ vs H Q, Same H0 H → Rs vs H → (∀ v H', Same H H' → R v H' → Q v H') → sp (vs ++ dvs) H Q E) : EvV (Same H0) σ (tCall sp dvs E ts) R := fun H Q w k =>
  ha H _ w fun vs H1 s1 w1 r => h vs H1 Q w1 r fun v H' s r' => k v H' (s1.trans s) (w1.trans s) r'
theorem ev_cb {r : List V → Hp → VK → Prop} (ha : EvA (Same H0) σ ts Rs) (h : ∀ vs H Q, Same H0 H → Rs vs H → (∀ v H', Same H H' → R v H' → Q v H') → r vs H Q) : EvV (Same H0) σ (tCB r ts) R := fun H Q w k =>
  ha H _ w fun vs H1 s1 w1 r => h vs H1 Q w1 r fun v H' s r' => k v H' (s1.trans s) (w1.trans s) r'
theorem ev_o {r : R2} [St Ra] (ha : EvV (Same H0) σ ta Ra) (hb : EvV (Same H0) σ tb Rb) (h : ∀ x y H Q, Same H0 H → Ra x H → Rb y H → (∀ v H', Same H H' → R v H' → Q v H') → r x y H Q) : EvV (Same H0) σ (tOp r ta tb) R :=
  ev_op stv ha hb fun x y H Q w a b k => h x y H Q w a b fun v H' s r => k v H' s (w.trans s) r
theorem ev_make {C : Addr} {sp : Sp} {dvs : List V} {E : XK} (ha : EvA (Same H0) σ ts Rs) (h : ∀ vs H x dx (Q : VK), Same H0 H → Rs vs H → H x = none → H dx = none → dx ≠ x → (∀ H', Same H H' → R (.ref x) H' → Q .non H') →
    sp (.ref x :: (vs ++ dvs)) (upd (upd H dx (.own x)) x (.ins C dx [])) Q E) : EvV (Same H0) σ (tMake C sp dvs E ts) R := fun H Q w k =>
  ha H _ w fun vs H1 s1 w1 r x dx nx ndx ne => h vs H1 x dx _ w1 r nx ndx ne fun H' s r' => ⟨rfl, k _ H' (s1.trans s) (w1.trans s) r'⟩
theorem ev_meth {C : Addr} {m : Str} {sp : Sp} {dvs : List V} {E : XK} [St Ra] (hx : EvV (Same H0) σ ta Ra) (ho : ∀ x H, Ra x H → ∃ a dx fs, x = .ref a ∧ H a = some (.ins C dx fs) ∧ fs.lookup m = none) (ha : EvA (Same H0) σ ts Rs)
    (h : ∀ x vs H Q, Same H0 H → Ra x H → Rs vs H → (∀ v H', Same H H' → R v H' → Q v H') → sp (x :: (vs ++ dvs)) H Q E) : EvV (Same H0) σ (tMeth C m sp dvs E ta ts) R := fun H Q w k =>
  hx H _ w fun x H1 s1 w1 rx => by
    obtain ⟨a, dx, fs, e, hh, l⟩ := ho x H1 rx
    exact ⟨a, dx, fs, e, hh, l, ha H1 _ w1 fun vs H2 s2 w2 r => h x vs H2 Q w2 (up s2 rx) r fun v H' s r' => k v H' ((s1.trans s2).trans s) (w2.trans s) r'⟩
theorem ev_fld {K : PySem.W.Frag} {f : Str} (ha : EvV (Same H0) σ ta Ra) (h : ∀ x H, Same H0 H → Ra x H → ∃ a C dx fs v, x = .ref a ∧ H a = some (.ins C dx fs) ∧ Cls K C ∧ NoAttr K C f ∧ fs.lookup f = some v ∧ R v H) : EvV (Same H0) σ (tFld K ta f) R := fun H Q w k =>
  ha H _ w fun x H1 s1 w1 rx => by
    obtain ⟨a, C, dx, fs, v, e, hh, c, n, l, r⟩ := h x H1 w1 rx
    exact ⟨a, C, dx, fs, v, e, hh, c, n, l, k v H1 s1 w1 r⟩
theorem ev_tup [i : StA Rs] (ha : EvA (Same H0) σ ts Rs) (n : ∀ vs H, Rs vs H → vs.length ≤ 1000) : EvV (Same H0) σ (tTup ts) (fun v H => ∃ p xs, v = .ref p ∧ H p = some (.tup xs) ∧ Rs xs H) := fun H Q w k =>
  ha H _ w fun vs H1 s1 w1 r => ⟨Nat.le_trans (n _ _ r) (by decide), fun p np => by
    have s2 : Same H1 (upd H1 p (.tup vs)) := Same.new np
    exact k _ _ (s1.trans s2) (w1.trans s2) ⟨p, vs, rfl, upd_same, i.st _ _ _ s2 r⟩⟩
/-- the arguments of a display, all of a sort -/
def EvL {α : Type} (H0 : Hp) (σ : L2.St) (ts : TA) (S : α → V → Hp → Prop) (as : List α) : Prop := EvA (Same H0) σ ts (fun vs H => Ls (fun u a => S a u H) vs as)
theorem Ls.cons {α : Type} {R : V → α → Prop} {vs : List V} {ms : List α} {v : V} {m : α} (t : R v m) (d : Ls R vs ms) : Ls R (v :: vs) (m :: ms) := by
  refine ⟨by simp [d.1], fun i n hn => ?_⟩
  cases i with
  | zero =>
    have e : m = n := by simpa using hn
    subst e
    exact ⟨v, rfl, t⟩
  | succ i =>
    obtain ⟨w, e, r⟩ := d.2 i n (by simpa using hn)
    exact ⟨w, by simpa using e, r⟩
theorem evl_nil {α : Type} {S : α → V → Hp → Prop} : EvL H0 σ tNil S [] := fun H Q w k => k [] H (Same.refl H) w Ls.nil
theorem evl_cons {α : Type} {S : α → V → Hp → Prop} [∀ a, St (S a)] {a : α} {as : List α} (ha : EvV (Same H0) σ ta (S a)) (hs : EvL H0 σ ts S as) : EvL H0 σ (tCons ta ts) S (a :: as) := fun H Q w k =>
  ha H _ w fun x H1 s1 w1 r => hs H1 _ w1 fun xs H2 s2 w2 rs => k (x :: xs) H2 (s1.trans s2) w2 (Ls.cons (up s2 r) rs)
theorem ev_lst {α : Type} {S : α → V → Hp → Prop} [∀ a, St (S a)] {as : List α} (h : EvL H0 σ ts S as) (n : as.length ≤ 1000) : EvV (Same H0) σ (tLst ts) (isL S as) := fun H Q w k =>
  h H _ w fun vs H1 s1 w1 r => ⟨Nat.le_trans (by rw [r.1]; exact n) (by decide), fun p np => by
    have s2 : Same H1 (upd H1 p (.lst vs)) := Same.new np
    exact k _ _ (s1.trans s2) (w1.trans s2) ⟨p, vs, rfl, upd_same, Ls.up r s2⟩⟩
theorem ev_tupU {α : Type} {S : α → V → Hp → Prop} [∀ a, St (S a)] {as : List α} (h : EvL H0 σ ts S as) (n : as.length ≤ 1000) : EvV (Same H0) σ (tTup ts) (isU S as) := fun H Q w k =>
  h H _ w fun vs H1 s1 w1 r => ⟨Nat.le_trans (by rw [r.1]; exact n) (by decide), fun p np => by
    have s2 : Same H1 (upd H1 p (.tup vs)) := Same.new np
    exact k _ _ (s1.trans s2) (w1.trans s2) ⟨p, vs, rfl, upd_same, Ls.up r s2⟩⟩
/-- tests -/
theorem ev_orB {p q : Bool} (h : EvB (Same H0) σ t p) (h2 : p = false → EvB (Same H0) σ u q) : EvB (Same H0) σ (tOr t u) (p || q) := fun H Q w k =>
  h H _ w fun H1 s1 w1 => by
    cases p with
    | true => exact iteT (k H1 s1 w1)
    | false => exact iteF (h2 rfl H1 _ w1 fun H2 s2 w2 => k H2 (s1.trans s2) w2)
theorem ev_andB {p q : Bool} (h : EvB (Same H0) σ t p) (h2 : p = true → EvB (Same H0) σ u q) : EvB (Same H0) σ (tAnd t u) (p && q) := fun H Q w k =>
  h H _ w fun H1 s1 w1 => by
    cases p with
    | false => exact iteF (k H1 s1 w1)
    | true => exact iteT (h2 rfl H1 _ w1 fun H2 s2 w2 => k H2 (s1.trans s2) w2)
theorem ev_notB {p : Bool} (h : EvB (Same H0) σ t p) : EvB (Same H0) σ (tNot t) (!p) := fun H Q w k => h H _ w k
theorem ev_valB {p : Bool} (h : EvV (Same H0) σ te (isBv p)) : EvB (Same H0) σ (tB te) p := fun H Q w k => h H _ w fun v H' s w' e => ⟨p, e, k H' s w'⟩
theorem ev_if {b : Bool} (c : EvB (Same H0) σ t b) (h1 : b = true → EvV (Same H0) σ ta R) (h2 : b = false → EvV (Same H0) σ tb R) : EvV (Same H0) σ (tIf t ta tb) R := fun H Q w k =>
  c H _ w fun H1 s1 w1 => by
    cases b with
    | true => exact iteT (h1 rfl H1 _ w1 fun v H2 s2 w2 r => k v H2 (s1.trans s2) w2 r)
    | false => exact iteF (h2 rfl H1 _ w1 fun v H2 s2 w2 r => k v H2 (s1.trans s2) w2 r)
/-- an if whose test is known -/
theorem if_f {c : TT} {t u : TS} {D : Ends} {H : Hp} (w : Same H0 H) (h : EvB (Same H0) σ c false) (k : ∀ H', Same H H' → u D σ H') : tIfS c t u D σ H := h H _ w fun H' s _ => iteF (k H' s)
theorem if_t {c : TT} {t u : TS} {D : Ends} {H : Hp} (w : Same H0 H) (h : EvB (Same H0) σ c true) (k : ∀ H', Same H H' → t D σ H') : tIfS c t u D σ H := h H _ w fun H' s _ => iteT (k H' s)
/-- what is walked: item by item something that stands for those of a list -/
def EvI {α : Type} (H0 : Hp) (σ : L2.St) (wi : TI) (as : List α) (S : α → V → Hp → Prop) : Prop := ∀ H (Rk : It → Hp → Prop), Same H0 H → (∀ J H1, Same H H1 → (∃ (G : Hp → Prop) (Y : Nat → Hp → V → Hp → Prop), Walk J as.length G Y ∧ (∀ H2, Same H1 H2 → G H2) ∧
  ∀ i H2 x H3, i < as.length → Same H1 H2 → Y i H2 x H3 → Same H2 H3 ∧ ∃ a, as[i]? = some a ∧ S a x H3) → Rk J H1) → wi σ H Rk
theorem evi_list {K : PySem.W.Frag} {α : Type} {S : α → V → Hp → Prop} [∀ a, St (S a)] {as : List α} (h : EvV (Same H0) σ te (isL S as)) : EvI H0 σ (iList K te) as S := fun H Rk w k =>
  h H _ w fun v H1 s1 w1 ⟨D, us, e, hD, l⟩ => ⟨D, e, ⟨us, SqL.of hD⟩, k (Itl K D) H1 s1 ⟨_, _, l.1 ▸ walk_list (K := K) (a := D) (xs := us), fun H2 s => SqL.of (s _ _ hD), fun i H2 x H3 hi s y => by
    obtain ⟨rfl, hx⟩ := y
    obtain ⟨a, ea, r⟩ := Ls.get l hx
    exact ⟨Same.refl _, a, ea, up s r⟩⟩⟩
theorem evi_tup {K : PySem.W.Frag} {α : Type} {S : α → V → Hp → Prop} [∀ a, St (S a)] {as : List α} (h : EvV (Same H0) σ te (fun v H => ∃ D us, v = .ref D ∧ (∀ H', Same H H' → SqT K H' D us) ∧ Ls (fun u a => S a u H) us as)) : EvI H0 σ (iTup K te) as S := fun H Rk w k =>
  h H _ w fun v H1 s1 w1 ⟨D, us, e, hD, l⟩ => ⟨D, e, ⟨us, hD _ (Same.refl _)⟩, k (Itt K D) H1 s1 ⟨_, _, l.1 ▸ walk_tup (K := K) (a := D) (xs := us), fun H2 s => hD _ s, fun i H2 x H3 hi s y => by
    obtain ⟨rfl, hx⟩ := y
    obtain ⟨a, ea, r⟩ := Ls.get l hx
    exact ⟨Same.refl _, a, ea, up s r⟩⟩⟩
/-- the whole numbers from lo on, so many -/
def rgI (lo : Int) (n : Nat) : List Int := (List.range n).map fun i => lo + (i : Nat)
theorem rgI_len {lo : Int} {n : Nat} : (rgI lo n).length = n := by simp [rgI]
theorem rgI_at {lo : Int} {n i : Nat} (h : i < n) : (rgI lo n)[i]? = some (lo + (i : Nat)) := by simp [rgI, h]
theorem evi_rng1 {n : Int} (n0 : 0 ≤ n) (h : EvV (Same H0) σ te (isIv n)) (n1 : n < 2 ^ 62) : EvI H0 σ (iRng1 (tCons te tNil)) (rgI 0 n.toNat) isIv := fun H Rk w k =>
  h H _ w fun v H1 s1 w1 e => by
    cases e
    refine ⟨n, rfl, by omega, n1, k _ H1 s1 ⟨_, _, by rw [rgI_len]; exact walk_range (lo := 0) (n := n.toNat), fun _ _ => trivial, fun i H2 x H3 hi s y => ?_⟩⟩
    obtain ⟨rfl, rfl⟩ := y
    rw [rgI_len] at hi
    exact ⟨Same.refl _, _, rgI_at hi, rfl⟩
/-- a new list of such things -/
def EvNL {α : Type} (H0 : Hp) (σ : L2.St) (te : TE) (S : α → V → Hp → Prop) (as : List α) : Prop := ∀ H Q, Same H0 H → (∀ D us H', H D = none → Same H H' → H' D = some (.lst us) → Ls (fun u a => S a u H') us as → Q (.ref D) H') → te σ H Q
theorem EvNL.ev {α : Type} {S : α → V → Hp → Prop} {as : List α} (h : EvNL H0 σ te S as) : EvV (Same H0) σ te (isL S as) := fun H Q w k => h H Q w fun D us H' _ s hD l => k _ H' s (w.trans s) ⟨D, us, rfl, hD, l⟩
theorem evn_lst {α : Type} {S : α → V → Hp → Prop} [∀ a, St (S a)] {as : List α} (h : EvL H0 σ ts S as) (n : as.length ≤ 1000) : EvNL H0 σ (tLst ts) S as := fun H Q w k =>
  h H _ w fun vs H1 s1 w1 r => ⟨Nat.le_trans (by rw [r.1]; exact n) (by decide), fun p np => by
    have s2 : Same H1 (upd H1 p (.lst vs)) := Same.new np
    exact k p vs _ (s1.free np) (s1.trans s2) upd_same (Ls.up r s2)⟩
/-- a list comprehension -/
theorem evn_lc {α β : Type} {wi : TI} {g : TG} {tt : TT} {vs : List Nat} {as : List α} {S : α → V → Hp → Prop} {S' : β → V → Hp → Prop} [∀ b, StL (S' b)] (p : α → Bool) (f : α → β) (hi : EvI H0 σ wi as S) (hn : as.length ≤ 1000)
    (hb : ∀ a ∈ as, ∀ x H, Same H0 H → S a x H → ∀ K2 : L2.St → Hp → Prop, (∀ σ2 H2, Same H H2 → wipe σ2 vs = wipe σ vs → EvB (Same H2) σ2 tt (p a) → (p a = true → EvV (Same H2) σ2 te (S' (f a))) → K2 σ2 H2) → g x (wipe σ vs) H K2) :
    EvNL H0 σ (tLc wi g tt te vs) S' ((as.filter p).map f) := fun H Q w k => by
  refine hi H _ w fun J H1 s1 ⟨G, Y, wk, hG, hY⟩ D nD => ?_
  refine lc_it wk (fun i Hh => Same H1 Hh ∧ ∃ acc, Hh D = some (.lst acc) ∧ Ls (fun u b => S' b u Hh) acc (((as.take i).filter p).map f)) ⟨Same.new nD, [], upd_same, Ls.nil⟩ (fun i Hh _ z => hG _ z.1) ?_ ?_
  · rintro i x Hh H' hi ⟨s2, acc, hD, ra⟩ y
    obtain ⟨s3, a, ea, rx⟩ := hY i Hh x H' hi s2 y
    have tk : as.take (i + 1) = as.take i ++ [a] := by
      rw [List.take_succ, ea]
      rfl
    have la : acc.length ≤ 1000 := by
      rw [ra.1, List.length_map]
      have z := List.length_filter_le p (as.take i)
      rw [List.length_take] at z
      omega
    refine hb a (List.mem_of_getElem? ea) x H' (w.trans (s1.trans (s2.trans s3))) rx _ fun σ2 H2 s4 ew et ee => ⟨ew, et H2 _ (Same.refl _) fun H3 s5 _ => ?_⟩
    have S5 := (s3.trans s4).trans s5
    cases e : p a with
    | false =>
      refine iteF ⟨s2.trans S5, acc, S5 _ _ hD, ?_⟩
      rw [tk, List.filter_append, List.map_append, List.filter_cons_of_neg (by rw [e]; exact Bool.false_ne_true), List.filter_nil, List.map_nil, List.append_nil]
      exact ra.up S5
    | true =>
      refine iteT (ee e H3 _ s5 fun v H4 s6 _ r => ?_)
      have S6 := S5.trans s6
      have hD4 := S6 _ _ hD
      have nD1 : H1 D = none := nD
      refine ⟨acc, hD4, Nat.lt_of_le_of_lt la (by decide), fun c o h => ?_, acc ++ [v], upd_same, ?_⟩
      · rw [upd_ne (ne_of_none h nD1)]
        exact (s2.trans S6) _ _ h
      · rw [tk, List.filter_append, List.map_append, List.filter_cons_of_pos e, List.filter_nil, List.map_cons, List.map_nil]
        exact Ls.push ((ra.up S6).upL (Keep.lst hD4)) (upL (Keep.lst hD4) r)
  · rintro Hh ⟨s2, acc, hD, ra⟩
    rw [List.take_length] at ra
    exact k D acc Hh (s1.free nD) (s1.trans s2) hD ra
theorem ev_lc {α β : Type} {wi : TI} {g : TG} {tt : TT} {vs : List Nat} {as : List α} {S : α → V → Hp → Prop} {S' : β → V → Hp → Prop} [∀ b, StL (S' b)] (p : α → Bool) (f : α → β) (hi : EvI H0 σ wi as S) (hn : as.length ≤ 1000)
    (hb : ∀ a ∈ as, ∀ x H, Same H0 H → S a x H → ∀ K2 : L2.St → Hp → Prop, (∀ σ2 H2, Same H H2 → wipe σ2 vs = wipe σ vs → EvB (Same H2) σ2 tt (p a) → (p a = true → EvV (Same H2) σ2 te (S' (f a))) → K2 σ2 H2) → g x (wipe σ vs) H K2) :
    EvV (Same H0) σ (tLc wi g tt te vs) (isL S' ((as.filter p).map f)) := (evn_lc p f hi hn hb).ev
end
end V3

set_option Elab.async false
set_option linter.all false
set_option maxRecDepth 100000
/-! == and != of plain data, by classes -/
namespace V3
open PySem L2 TL
/-- what a thing is as plain data -/
class Dt (K : PySem.W.Frag) {α : Type} (S : α → V → Hp → Prop) where
  d : α → PyData
  ok : α → Prop
  n : Nat
  dp : ∀ a v H, S a v H → Dp K H v (d a)
  lay : ∀ a, ok a → (d a).canLay0 = true
  dep : ∀ a, (d a).depth ≤ n
  inj : ∀ a b, ok a → ok b → (PyData.eqv (d a) (d b) = true ↔ a = b)
variable {K : PySem.W.Frag}
instance : Dt K isIv where
  d := .int
  ok := fun _ => True
  n := 0
  dp := fun a v H h => by cases h; exact .int a
  lay := fun a _ => by simp [PyData.canLay0]
  dep := fun a => by simp [PyData.depth]
  inj := fun a b _ _ => by simp [PyData.eqv]
instance : Dt K isBv where
  d := .bool
  ok := fun _ => True
  n := 0
  dp := fun a v H h => by cases h; exact .bl a
  lay := fun a _ => by simp [PyData.canLay0]
  dep := fun a => by simp [PyData.depth]
  inj := fun a b _ _ => by simp [PyData.eqv]
instance : Dt K isSv where
  d := .str
  ok := fun s => PyData.strOk s = true
  n := 0
  dp := fun a v H h => by cases h; exact .str a
  lay := fun a h => by simp [PyData.canLay0, h]
  dep := fun a => by simp [PyData.depth]
  inj := fun a b _ _ => by simp [PyData.eqv]
theorem eqvAll_map {α : Type} {d : α → PyData} : ∀ {as bs : List α}, (∀ a ∈ as, ∀ b ∈ bs, (PyData.eqv (d a) (d b) = true ↔ a = b)) → (PyData.eqvAll (as.map d) (bs.map d) = true ↔ as = bs)
  | [], [], _ => by simp [PyData.eqvAll]
  | [], _ :: _, _ => by simp [PyData.eqvAll]
  | _ :: _, [], _ => by simp [PyData.eqvAll]
  | a :: as, b :: bs, h => by
    have h1 := h a (by simp) b (by simp)
    have h2 := eqvAll_map (as := as) (bs := bs) fun x hx y hy => h x (by simp [hx]) y (by simp [hy])
    simp only [List.map_cons, PyData.eqvAll, Bool.and_eq_true, h1, h2, List.cons.injEq]
theorem lay_map {α : Type} {d : α → PyData} : ∀ {as : List α}, (∀ a ∈ as, (d a).canLay0 = true) → PyData.canLayAll0 (as.map d) = true
  | [], _ => by simp [PyData.canLayAll0]
  | a :: as, h => by
    have z := lay_map (as := as) fun x hx => h x (by simp [hx])
    simp [PyData.canLayAll0, h a (by simp), z]
theorem dep_map {α : Type} {d : α → PyData} {n : Nat} (h : ∀ a, (d a).depth ≤ n) : ∀ as : List α, PyData.depthAll (as.map d) ≤ n
  | [] => by simp [PyData.depthAll]
  | a :: as => by
    have z := dep_map h as
    have y := h a
    simp only [List.map_cons, PyData.depthAll]
    omega
theorem Ls.nil' {α : Type} {R : V → α → Prop} {us : List V} (h : Ls R us []) : us = [] := List.length_eq_zero_iff.mp h.1
theorem Ls.uncons {α : Type} {R : V → α → Prop} {us : List V} {a : α} {as : List α} (h : Ls R us (a :: as)) : ∃ u r, us = u :: r ∧ R u a ∧ Ls R r as := by
  cases us with
  | nil => cases h.1
  | cons u r =>
    obtain ⟨w, e, t⟩ := h.2 0 a rfl
    have e : u = w := by simpa using e
    subst e
    exact ⟨u, r, rfl, t, by simpa using h.1, fun i m hm => by simpa using h.2 (i + 1) m (by simpa using hm)⟩
theorem dpAll_map {α : Type} {S : α → V → Hp → Prop} {d : α → PyData} {H : Hp} (h : ∀ a v, S a v H → Dp K H v (d a)) : ∀ {as : List α} {us : List V}, Ls (fun u a => S a u H) us as → DpAll K H us (as.map d)
  | [], us, l => by
    rw [l.nil']
    exact .nil
  | a :: as, us, l => by
    obtain ⟨u, r, rfl, t, l2⟩ := l.uncons
    exact .cons (h a u t) (dpAll_map h l2)
instance {α : Type} {S : α → V → Hp → Prop} [i : Dt K S] : Dt K (isL S) where
  d := fun as => .list (as.map i.d)
  ok := fun as => ∀ a ∈ as, i.ok a
  n := i.n + 1
  dp := fun as v H ⟨D, us, e, hD, l⟩ => by
    subst e
    exact .lst (SqL.of hD) (dpAll_map (fun a v h => i.dp a v H h) l)
  lay := fun as h => by
    simp only [PyData.canLay0]
    exact lay_map fun a ha => i.lay a (h a ha)
  dep := fun as => by
    have z := dep_map i.dep as
    simp only [PyData.depth]
    omega
  inj := fun as bs ha hb => by
    simp only [PyData.eqv]
    rw [eqvAll_map fun a h1 b h2 => i.inj a b (ha a h1) (hb b h2)]
instance {α : Type} {S : α → V → Hp → Prop} [i : Dt K S] : Dt K (isU S) where
  d := fun as => .tuple (as.map i.d)
  ok := fun as => ∀ a ∈ as, i.ok a
  n := i.n + 1
  dp := fun as v H ⟨D, us, e, hD, l⟩ => by
    subst e
    exact .tup (SqT.of hD) (dpAll_map (fun a v h => i.dp a v H h) l)
  lay := fun as h => by
    simp only [PyData.canLay0]
    exact lay_map fun a ha => i.lay a (h a ha)
  dep := fun as => by
    have z := dep_map i.dep as
    simp only [PyData.depth]
    omega
  inj := fun as bs ha hb => by
    simp only [PyData.eqv]
    rw [eqvAll_map fun a h1 b h2 => i.inj a b (ha a h1) (hb b h2)]
/-- tuples of two, of three, of four -/
def isP2 {α β : Type} (S : α → V → Hp → Prop) (T : β → V → Hp → Prop) (p : α × β) : V → Hp → Prop := fun v H => ∃ D u w, v = .ref D ∧ H D = some (.tup [u, w]) ∧ S p.1 u H ∧ T p.2 w H
instance {α β : Type} {S : α → V → Hp → Prop} {T : β → V → Hp → Prop} [∀ a, St (S a)] [∀ a, St (T a)] {p : α × β} : St (isP2 S T p) := ⟨fun _ _ _ s ⟨D, u, w, e, h, a, b⟩ => ⟨D, u, w, e, s _ _ h, up s a, up s b⟩⟩
instance {α β : Type} {S : α → V → Hp → Prop} {T : β → V → Hp → Prop} [∀ a, StL (S a)] [∀ a, StL (T a)] {p : α × β} : StL (isP2 S T p) := ⟨fun _ _ _ s ⟨D, u, w, e, h, a, b⟩ => ⟨D, u, w, e, s _ _ (fun _ z => by cases z) h, upL s a, upL s b⟩⟩
instance {α β : Type} {S : α → V → Hp → Prop} {T : β → V → Hp → Prop} [i : Dt K S] [j : Dt K T] : Dt K (isP2 S T) where
  d := fun p => .tuple [i.d p.1, j.d p.2]
  ok := fun p => i.ok p.1 ∧ j.ok p.2
  n := max i.n j.n + 1
  dp := fun p v H ⟨D, u, w, e, h, a, b⟩ => by
    subst e
    exact .tup (SqT.of h) (.cons (i.dp _ _ _ a) (.cons (j.dp _ _ _ b) .nil))
  lay := fun p h => by simp [PyData.canLay0, PyData.canLayAll0, i.lay _ h.1, j.lay _ h.2]
  dep := fun p => by
    have a := i.dep p.1
    have b := j.dep p.2
    simp only [PyData.depth, PyData.depthAll]
    omega
  inj := fun p q hp hq => by
    obtain ⟨a, b⟩ := p
    obtain ⟨c, e⟩ := q
    simp only [PyData.eqv, PyData.eqvAll, Bool.and_eq_true, i.inj _ _ hp.1 hq.1, j.inj _ _ hp.2 hq.2, Prod.mk.injEq, and_true]
def isP3 {α β γ : Type} (S : α → V → Hp → Prop) (T : β → V → Hp → Prop) (U : γ → V → Hp → Prop) (p : α × β × γ) : V → Hp → Prop := fun v H => ∃ D u w x, v = .ref D ∧ H D = some (.tup [u, w, x]) ∧ S p.1 u H ∧ T p.2.1 w H ∧ U p.2.2 x H
instance {α β γ : Type} {S : α → V → Hp → Prop} {T : β → V → Hp → Prop} {U : γ → V → Hp → Prop} [∀ a, St (S a)] [∀ a, St (T a)] [∀ a, St (U a)] {p : α × β × γ} : St (isP3 S T U p) := ⟨fun _ _ _ s ⟨D, u, w, x, e, h, a, b, c⟩ => ⟨D, u, w, x, e, s _ _ h, up s a, up s b, up s c⟩⟩
instance {α β γ : Type} {S : α → V → Hp → Prop} {T : β → V → Hp → Prop} {U : γ → V → Hp → Prop} [∀ a, StL (S a)] [∀ a, StL (T a)] [∀ a, StL (U a)] {p : α × β × γ} : StL (isP3 S T U p) := ⟨fun _ _ _ s ⟨D, u, w, x, e, h, a, b, c⟩ => ⟨D, u, w, x, e, s _ _ (fun _ z => by cases z) h, upL s a, upL s b, upL s c⟩⟩
instance {α β γ : Type} {S : α → V → Hp → Prop} {T : β → V → Hp → Prop} {U : γ → V → Hp → Prop} [i : Dt K S] [j : Dt K T] [l : Dt K U] : Dt K (isP3 S T U) where
  d := fun p => .tuple [i.d p.1, j.d p.2.1, l.d p.2.2]
  ok := fun p => i.ok p.1 ∧ j.ok p.2.1 ∧ l.ok p.2.2
  n := max (max i.n j.n) l.n + 1
  dp := fun p v H ⟨D, u, w, x, e, h, a, b, c⟩ => by
    subst e
    exact .tup (SqT.of h) (.cons (i.dp _ _ _ a) (.cons (j.dp _ _ _ b) (.cons (l.dp _ _ _ c) .nil)))
  lay := fun p h => by simp [PyData.canLay0, PyData.canLayAll0, i.lay _ h.1, j.lay _ h.2.1, l.lay _ h.2.2]
  dep := fun p => by
    have a := i.dep p.1
    have b := j.dep p.2.1
    have c := l.dep p.2.2
    simp only [PyData.depth, PyData.depthAll]
    omega
  inj := fun p q hp hq => by
    obtain ⟨a, b, f⟩ := p
    obtain ⟨c, e, g⟩ := q
    simp only [PyData.eqv, PyData.eqvAll, Bool.and_eq_true, i.inj _ _ hp.1 hq.1, j.inj _ _ hp.2.1 hq.2.1, l.inj _ _ hp.2.2 hq.2.2, Prod.mk.injEq, and_true]
section
variable {σ : L2.St} {ta tb te : TE} {ts : TA} {H0 : Hp} {α β γ : Type} {S : α → V → Hp → Prop} {T : β → V → Hp → Prop} {U : γ → V → Hp → Prop} [∀ a, St (S a)] [∀ a, St (T a)] [∀ a, St (U a)] {a b : α} {c : β} {e : γ}
theorem shaped_dt [i : Dt K S] (n : i.n ≤ 64) (h : i.ok a) : SeqAt.shaped (i.d a) = true := by
  have z := i.dep a
  unfold SeqAt.shaped
  rw [i.lay a h, decide_eq_true (by omega)]
  rfl
theorem ev_neD [i : Dt K S] [Decidable (a = b)] (ha : EvV (Same H0) σ ta (S a)) (hb : EvV (Same H0) σ tb (S b)) (oa : i.ok a) (ob : i.ok b) (n : i.n ≤ 64 := by exact Nat.le_of_ble_eq_true rfl) : EvV (Same H0) σ (tOp (rNeD K) ta tb) (isBv (!decide (a = b))) :=
  ev_o ha hb fun x y H Q w hx hy k => ⟨_, _, i.dp _ _ _ hx, i.dp _ _ _ hy, shaped_dt n oa, shaped_dt n ob, k _ H (Same.refl H) (by
    have z := i.inj a b oa ob
    by_cases h : a = b
    · rw [z.mpr h, decide_eq_true h]
      rfl
    · rw [Bool.eq_false_iff.mpr fun q => h (z.mp q), decide_eq_false h]
      rfl)⟩
theorem ev_eqD [i : Dt K S] [Decidable (a = b)] (ha : EvV (Same H0) σ ta (S a)) (hb : EvV (Same H0) σ tb (S b)) (oa : i.ok a) (ob : i.ok b) (n : i.n ≤ 64 := by exact Nat.le_of_ble_eq_true rfl) : EvV (Same H0) σ (tOp (rEqD K) ta tb) (isBv (decide (a = b))) :=
  ev_o ha hb fun x y H Q w hx hy k => ⟨_, _, i.dp _ _ _ hx, i.dp _ _ _ hy, shaped_dt n oa, shaped_dt n ob, k _ H (Same.refl H) (by
    have z := i.inj a b oa ob
    by_cases h : a = b
    · rw [z.mpr h, decide_eq_true h]
      rfl
    · rw [Bool.eq_false_iff.mpr fun q => h (z.mp q), decide_eq_false h]
      rfl)⟩
theorem ev_p2 (ha : EvV (Same H0) σ ta (S a)) (hb : EvV (Same H0) σ tb (T c)) : EvV (Same H0) σ (tTup (tCons ta (tCons tb tNil))) (isP2 S T (a, c)) := fun H Q w k =>
  ha H _ w fun x H1 s1 w1 hx => hb H1 _ w1 fun y H2 s2 w2 hy => ⟨(by show 2 ≤ sizeLine; decide), fun p np => by
    have s3 : Same H2 (upd H2 p (.tup [x, y])) := Same.new np
    exact k _ _ ((s1.trans s2).trans s3) (w2.trans s3) ⟨p, x, y, rfl, upd_same, up (s2.trans s3) hx, up s3 hy⟩⟩
theorem ev_p3 (ha : EvV (Same H0) σ ta (S a)) (hb : EvV (Same H0) σ tb (T c)) (hc : EvV (Same H0) σ te (U e)) : EvV (Same H0) σ (tTup (tCons ta (tCons tb (tCons te tNil)))) (isP3 S T U (a, c, e)) := fun H Q w k =>
  ha H _ w fun x H1 s1 w1 hx => hb H1 _ w1 fun y H2 s2 w2 hy => hc H2 _ w2 fun z H3 s3 w3 hz => ⟨(by show 3 ≤ sizeLine; decide), fun p np => by
    have s4 : Same H3 (upd H3 p (.tup [x, y, z])) := Same.new np
    exact k _ _ (((s1.trans s2).trans s3).trans s4) (w3.trans s4) ⟨p, x, y, z, rfl, upd_same, up ((s2.trans s3).trans s4) hx, up (s3.trans s4) hy, up s4 hz⟩⟩
end
end V3

set_option Elab.async false
set_option linter.all false
set_option maxRecDepth 100000
/-! operators, answered -/
namespace V3
open PySem L2 TL
section
variable {K : PySem.W.Frag} {σ : L2.St} {ta tb te : TE} {t u : TT} {H0 : Hp} {R : V → Hp → Prop} {i j : Int} {b : Bool}
theorem ev_i0 {g : Int → Int → V} (ha : EvV (Same H0) σ ta (isIv i)) (hb : EvV (Same H0) σ tb (isIv j)) : EvV (Same H0) σ (tOp (rI0 g) ta tb) (isVv (g i j)) :=
  ev_o ha hb fun x y H Q w ex ey k => ⟨i, j, ex, ey, k _ H (Same.refl H) rfl⟩
theorem ev_i1 {C : Int → Int → Prop} {g : Int → Int → V} (c : C i j) (ha : EvV (Same H0) σ ta (isIv i)) (hb : EvV (Same H0) σ tb (isIv j)) : EvV (Same H0) σ (tOp (rI C g) ta tb) (isVv (g i j)) :=
  ev_o ha hb fun x y H Q w ex ey k => ⟨i, j, ex, ey, c, k _ H (Same.refl H) rfl⟩
theorem ev_ad (ha : EvV (Same H0) σ ta (isIv i)) (hb : EvV (Same H0) σ tb (isIv j)) : EvV (Same H0) σ (tOp (rI0 fun i j => .int (i + j)) ta tb) (isIv (i + j)) := ev_i0 (g := fun i j => .int (i + j)) ha hb
theorem ev_sb (ha : EvV (Same H0) σ ta (isIv i)) (hb : EvV (Same H0) σ tb (isIv j)) : EvV (Same H0) σ (tOp (rI0 fun i j => .int (i - j)) ta tb) (isIv (i - j)) := ev_i0 (g := fun i j => .int (i - j)) ha hb
theorem ev_lt (ha : EvV (Same H0) σ ta (isIv i)) (hb : EvV (Same H0) σ tb (isIv j)) : EvV (Same H0) σ (tOp (rI0 fun i j => .bl (decide (i < j))) ta tb) (isBv (decide (i < j))) := ev_i0 (g := fun i j => .bl (decide (i < j))) ha hb
theorem ev_le (ha : EvV (Same H0) σ ta (isIv i)) (hb : EvV (Same H0) σ tb (isIv j)) : EvV (Same H0) σ (tOp (rI0 fun i j => .bl (decide (i ≤ j))) ta tb) (isBv (decide (i ≤ j))) := ev_i0 (g := fun i j => .bl (decide (i ≤ j))) ha hb
theorem ev_gt (ha : EvV (Same H0) σ ta (isIv i)) (hb : EvV (Same H0) σ tb (isIv j)) : EvV (Same H0) σ (tOp (rI0 fun i j => .bl (decide (j < i))) ta tb) (isBv (decide (j < i))) := ev_i0 (g := fun i j => .bl (decide (j < i))) ha hb
theorem ev_ge (ha : EvV (Same H0) σ ta (isIv i)) (hb : EvV (Same H0) σ tb (isIv j)) : EvV (Same H0) σ (tOp (rI0 fun i j => .bl (decide (j ≤ i))) ta tb) (isBv (decide (j ≤ i))) := ev_i0 (g := fun i j => .bl (decide (j ≤ i))) ha hb
theorem ev_mod (c : 0 < j) (ha : EvV (Same H0) σ ta (isIv i)) (hb : EvV (Same H0) σ tb (isIv j)) : EvV (Same H0) σ (tOp (rI (fun _ j => 0 < j) fun i j => .int (i % j)) ta tb) (isIv (i % j)) := ev_i1 (g := fun i j => .int (i % j)) c ha hb
theorem ev_mul (c : CMul i j) (ha : EvV (Same H0) σ ta (isIv i)) (hb : EvV (Same H0) σ tb (isIv j)) : EvV (Same H0) σ (tOp (rI CMul fun i j => .int (i * j)) ta tb) (isIv (i * j)) := ev_i1 (g := fun i j => .int (i * j)) c ha hb
theorem ev_pow (c : CPow i j) (ha : EvV (Same H0) σ ta (isIv i)) (hb : EvV (Same H0) σ tb (isIv j)) : EvV (Same H0) σ (tOp (rI CPow fun i j => .int (i ^ j.toNat)) ta tb) (isIv (i ^ j.toNat)) := ev_i1 (g := fun i j => .int (i ^ j.toNat)) c ha hb
theorem ev_ng (ha : EvV (Same H0) σ ta (isIv i)) : EvV (Same H0) σ (tUn (rU fun i => .int (-i)) ta) (isIv (-i)) := fun H Q w k => ha H _ w fun v H' s w' e => ⟨i, e, k _ H' s w' rfl⟩
theorem ev_int1 (ha : EvV (Same H0) σ ta (isIv i)) : EvV (Same H0) σ (tCB (fun xs H Q => (∃ i, xs = [.int i] ∧ Q (.int i) H) ∨ ∃ k, xs = [.bl k] ∧ Q (.int (if k then 1 else 0)) H) (tCons ta tNil)) (isIv i) := fun H Q w k =>
  ha H _ w fun v H' s w' e => by
    cases e
    exact .inl ⟨i, rfl, k _ H' s w' rfl⟩
theorem ev_cat {x y : Str} (n : x.length + y.length ≤ 100000) (ha : EvV (Same H0) σ ta (isSv x)) (hb : EvV (Same H0) σ tb (isSv y)) : EvV (Same H0) σ (tOp (fun x y H Q => ∃ i j, x = .str i ∧ y = .str j ∧ i.length + j.length ≤ sizeLine ∧ Q (.str (i ++ j)) H) ta tb) (isSv (x ++ y)) :=
  ev_o ha hb fun _ _ H Q w ex ey k => ⟨x, y, ex, ey, Nat.le_trans n (by decide), k _ H (Same.refl H) rfl⟩
theorem ev_eqi (ha : EvV (Same H0) σ ta (isIv i)) (hb : EvV (Same H0) σ tb (isIv j)) : EvV (Same H0) σ (tOp rEq ta tb) (isBv (decide (i = j))) :=
  ev_o ha hb fun x y H Q w ex ey k => by
    cases ex
    cases ey
    refine ⟨rfl, k _ H (Same.refl H) ?_⟩
    have e : (V.int i = V.int j) ↔ (i = j) := ⟨fun z => by injection z, fun z => by rw [z]⟩
    show V.bl (decide (V.int i = V.int j)) = V.bl (decide (i = j))
    by_cases h : i = j
    · rw [decide_eq_true h, decide_eq_true (e.mpr h)]
    · rw [decide_eq_false h, decide_eq_false (fun z => h (e.mp z))]
theorem ev_is {b' : Bool} (h : EvV (Same H0) σ ta (isBv b)) (e : b = b') : EvV (Same H0) σ ta (isBv b') := e ▸ h
theorem ev_at (ha : EvV (Same H0) σ ta (isBv true)) (hb : EvV (Same H0) σ tb R) : EvV (Same H0) σ (tAndV ta tb) R := fun H Q w k => ha H _ w fun v H1 s1 w1 e => ⟨true, e, iteT (hb H1 _ w1 fun v H2 s2 w2 r => k v H2 (s1.trans s2) w2 r)⟩
theorem ev_af (ha : EvV (Same H0) σ ta (isBv false)) : EvV (Same H0) σ (tAndV ta tb) (isBv false) := fun H Q w k => ha H _ w fun v H1 s1 w1 e => ⟨false, e, iteF (k _ H1 s1 w1 rfl)⟩
theorem ev_av {p q : Bool} (ha : EvV (Same H0) σ ta (isBv p)) (hb : p = true → EvV (Same H0) σ tb (isBv q)) : EvV (Same H0) σ (tAndV ta tb) (isBv (p && q)) := by
  cases p with
  | true => exact ev_at ha (hb rfl)
  | false => exact ev_af ha
theorem ev_ov {p q : Bool} (ha : EvV (Same H0) σ ta (isBv p)) (hb : p = false → EvV (Same H0) σ tb (isBv q)) : EvV (Same H0) σ (tOrV ta tb) (isBv (p || q)) := fun H Q w k => ha H _ w fun v H1 s1 w1 e => by
  cases p with
  | true => exact ⟨true, e, iteT (k _ H1 s1 w1 rfl)⟩
  | false => exact ⟨false, e, iteF (hb rfl H1 _ w1 fun v H2 s2 w2 r => k v H2 (s1.trans s2) w2 r)⟩
theorem ev_nv {p : Bool} (ha : EvV (Same H0) σ ta (isBv p)) : EvV (Same H0) σ (tNotV ta) (isBv (!p)) := fun H Q w k => ha H _ w fun v H1 s1 w1 e => ⟨p, e, k _ H1 s1 w1 rfl⟩
/-- len of a list, of a tuple -/
theorem ev_lenL {α : Type} {S : α → V → Hp → Prop} {as : List α} (ha : EvV (Same H0) σ ta (isL S as)) : EvV (Same H0) σ (tCB (fun xs H Q => ∃ p ys, xs = [.ref p] ∧ (SqL K H p ys ∨ SqT K H p ys) ∧ Q (.int (ys.length : Int)) H) (tCons ta tNil)) (isIv (as.length : Int)) := fun H Q w k =>
  ha H _ w fun x H1 s1 w1 hx => by
    obtain ⟨D, us, rfl, hD, l⟩ := hx
    exact ⟨D, us, rfl, .inl (SqL.of hD), k _ H1 s1 w1 (by rw [l.1]; rfl)⟩
theorem ev_lenU {α : Type} {S : α → V → Hp → Prop} {as : List α} (ha : EvV (Same H0) σ ta (isU S as)) : EvV (Same H0) σ (tCB (fun xs H Q => ∃ p ys, xs = [.ref p] ∧ (SqL K H p ys ∨ SqT K H p ys) ∧ Q (.int (ys.length : Int)) H) (tCons ta tNil)) (isIv (as.length : Int)) := fun H Q w k =>
  ha H _ w fun x H1 s1 w1 hx => by
    obtain ⟨D, us, rfl, hD, l⟩ := hx
    exact ⟨D, us, rfl, .inr (SqT.of hD), k _ H1 s1 w1 (by rw [l.1]; rfl)⟩
theorem Ls.eqs {us ws : List V} {H : Hp} (h : Ls (fun u a => isVv a u H) us ws) : us = ws := by
  refine List.ext_getElem? fun i => ?_
  cases e : ws[i]? with
  | none =>
    have z : ws.length ≤ i := List.getElem?_eq_none_iff.mp e
    rw [List.getElem?_eq_none_iff, h.1]
    exact z
  | some m =>
    obtain ⟨v, ev, q⟩ := h.2 i m e
    have q : v = m := q
    rw [ev, q]
end
end V3

set_option Elab.async false
set_option linter.all false
set_option maxRecDepth 100000
/-! lists cut, joined, turned round; texts split and joined, answered -/
namespace V3
open PySem L2 TL
def cutA {α : Type} (xs : List α) (lo hi : Option Int) : List α := (xs.drop (HT.sIx xs.length 0 lo)).take (HT.sIx xs.length xs.length hi - HT.sIx xs.length 0 lo)
theorem cutA_all {α : Type} (xs : List α) : cutA xs none none = xs := by
  unfold cutA
  rw [HT.sIx_none, HT.sIx_none]
  simp
theorem cutA_from {α : Type} (xs : List α) (n : Nat) : cutA xs (some (n : Int)) none = xs.drop n := by
  unfold cutA
  rw [HT.sIx_nat, HT.sIx_none]
  by_cases h : n ≤ xs.length
  · rw [Nat.min_eq_left h]
    exact List.take_of_length_le (Nat.le_of_eq (List.length_drop ..))
  · rw [Nat.min_eq_right (by omega), List.drop_length, List.drop_eq_nil_of_le (by omega)]
    simp
theorem cutA_to {α : Type} (xs : List α) (n : Nat) : cutA xs none (some (n : Int)) = xs.take n := by
  unfold cutA
  rw [HT.sIx_nat, HT.sIx_none, List.drop_zero, Nat.sub_zero]
  by_cases h : n ≤ xs.length
  · rw [Nat.min_eq_left h]
  · rw [Nat.min_eq_right (by omega), List.take_length, List.take_of_length_le (by omega)]
theorem cutA_mid {α : Type} (xs : List α) (n m : Nat) : cutA xs (some (n : Int)) (some (m : Int)) = (xs.take m).drop n := by
  unfold cutA
  rw [HT.sIx_nat, HT.sIx_nat]
  by_cases h : n ≤ xs.length
  · rw [Nat.min_eq_left h, List.drop_take]
    by_cases k : m ≤ xs.length
    · rw [Nat.min_eq_left k]
    · rw [Nat.min_eq_right (by omega), List.take_of_length_le (Nat.le_of_eq (List.length_drop ..)), List.take_of_length_le (by rw [List.length_drop]; omega)]
  · rw [Nat.min_eq_right (a := n) (by omega), List.drop_length, List.drop_eq_nil_of_le (by rw [List.length_take]; omega)]
    simp
theorem Ls.drop {α : Type} {R : V → α → Prop} {us : List V} {as : List α} (l : Ls R us as) (n : Nat) : Ls R (us.drop n) (as.drop n) := ⟨by rw [List.length_drop, List.length_drop, l.1], fun i m h => by
  rw [List.getElem?_drop] at h ⊢
  exact l.2 _ _ h⟩
theorem Ls.take {α : Type} {R : V → α → Prop} {us : List V} {as : List α} (l : Ls R us as) (n : Nat) : Ls R (us.take n) (as.take n) := ⟨by rw [List.length_take, List.length_take, l.1], fun i m h => by
  rw [List.getElem?_take] at h ⊢
  by_cases c : i < n
  · rw [if_pos c] at h ⊢
    exact l.2 _ _ h
  · rw [if_neg c] at h
    cases h⟩
theorem Ls.app {α : Type} {R : V → α → Prop} {us vs : List V} {as bs : List α} (l : Ls R us as) (k : Ls R vs bs) : Ls R (us ++ vs) (as ++ bs) := ⟨by rw [List.length_append, List.length_append, l.1, k.1], fun i m h => by
  by_cases c : i < as.length
  · rw [List.getElem?_append_left c] at h
    rw [List.getElem?_append_left (by rw [l.1]; exact c)]
    exact l.2 _ _ h
  · rw [List.getElem?_append_right (by omega)] at h
    rw [List.getElem?_append_right (by rw [l.1]; omega), l.1]
    exact k.2 _ _ h⟩
theorem Ls.rev {α : Type} {R : V → α → Prop} {us : List V} {as : List α} (l : Ls R us as) : Ls R us.reverse as.reverse := ⟨by rw [List.length_reverse, List.length_reverse, l.1], fun i m h => by
  have lt : i < as.length := by
    have z := (List.getElem?_eq_some_iff.mp h).1
    rw [List.length_reverse] at z
    exact z
  rw [List.getElem?_reverse lt] at h
  rw [List.getElem?_reverse (by rw [l.1]; exact lt), l.1]
  exact l.2 _ _ h⟩
theorem Ls.put {α : Type} {R : V → α → Prop} {us : List V} {as : List α} {v : V} {a : α} (l : Ls R us as) (r : R v a) (j : Nat) : Ls R (us.set j v) (as.set j a) := ⟨by rw [List.length_set, List.length_set, l.1], fun i m h => by
  rw [List.getElem?_set] at h ⊢
  by_cases c : j = i
  · rw [if_pos c] at h ⊢
    by_cases q : j < as.length
    · rw [if_pos q] at h
      rw [if_pos (by rw [l.1]; exact q)]
      cases h
      exact ⟨v, rfl, r⟩
    · rw [if_neg q] at h
      cases h
  · rw [if_neg c] at h ⊢
    exact l.2 _ _ h⟩
theorem Ls.cut {α : Type} {R : V → α → Prop} {us : List V} {as : List α} (l : Ls R us as) (lo hi : Option Int) : Ls R (cutV us lo hi) (cutA as lo hi) := by
  unfold cutV cutA
  rw [l.1]
  exact (l.drop _).take _
theorem Ls.strs : ∀ {H : Hp} (as : List Str), Ls (fun u a => isSv a u H) (as.map V.str) as := fun as => ⟨by rw [List.length_map], fun i m h => ⟨.str m, by rw [List.getElem?_map, h]; rfl, rfl⟩⟩
theorem Ls.toStrs {H : Hp} {us : List V} {as : List Str} (l : Ls (fun u a => isSv a u H) us as) : us = as.map V.str := by
  refine List.ext_getElem? fun i => ?_
  cases e : as[i]? with
  | none =>
    have z : as.length ≤ i := List.getElem?_eq_none_iff.mp e
    rw [List.getElem?_map, e, List.getElem?_eq_none (by rw [l.1]; exact z)]
    rfl
  | some m =>
    obtain ⟨v, ev, q⟩ := l.2 i m e
    have q : v = .str m := q
    rw [ev, q, List.getElem?_map, e]
    rfl
section
variable {K : PySem.W.Frag} {σ : L2.St} {ta tb te : TE} {tl th : TO} {H0 : Hp} {α : Type} {S : α → V → Hp → Prop} {as bs : List α} {x y : Str}
theorem evn_cut [∀ a, St (S a)] {lo hi : Option Int} (ha : EvV (Same H0) σ ta (isL S as)) (hl : EvO (Same H0) σ tl lo) (hh : EvO (Same H0) σ th hi) : EvNL H0 σ (tSl (rSlL K) ta tl th) S (cutA as lo hi) := fun H Q w k =>
  ha H _ w fun v H1 s1 w1 hv => hl H1 _ w1 fun H2 s2 w2 => hh H2 _ w2 fun H3 s3 w3 => by
    obtain ⟨D, us, rfl, hD, l⟩ := up (s2.trans s3) hv
    refine ⟨D, us, rfl, SqL.of hD, fun p np => ?_⟩
    have s4 : Same H3 (upd H3 p (.lst (cutV us lo hi))) := Same.new np
    have S3 := (s1.trans s2).trans s3
    exact k p _ _ (S3.free np) (S3.trans s4) upd_same ((l.cut lo hi).up s4)
theorem evn_cat [∀ a, St (S a)] (ha : EvV (Same H0) σ ta (isL S as)) (hb : EvV (Same H0) σ tb (isL S bs)) (n : as.length + bs.length ≤ 1000) : EvNL H0 σ (tOp rCat ta tb) S (as ++ bs) := fun H Q w k =>
  ha H _ w fun v H1 s1 w1 hv => hb H1 _ w1 fun u H2 s2 w2 hu => by
    obtain ⟨D, us, rfl, hD, l⟩ := up s2 hv
    obtain ⟨B, vs, rfl, hB, m⟩ := hu
    refine ⟨D, B, us, vs, rfl, rfl, hD, hB, Nat.le_trans (by rw [l.1, m.1]; exact n) (by decide), fun p np => ?_⟩
    have s4 : Same H2 (upd H2 p (.lst (us ++ vs))) := Same.new np
    exact k p _ _ ((s1.trans s2).free np) ((s1.trans s2).trans s4) upd_same ((l.app m).up s4)
theorem evn_rev [∀ a, St (S a)] (ha : EvV (Same H0) σ ta (isL S as)) : EvNL H0 σ (tRevL K ta) S as.reverse := fun H Q w k =>
  ha H _ w fun v H1 s1 w1 hv => by
    obtain ⟨D, us, rfl, hD, l⟩ := hv
    refine ⟨D, us, rfl, SqL.of hD, fun p np => ?_⟩
    have s4 : Same H1 (upd H1 p (.lst us.reverse)) := Same.new np
    exact k p _ _ (s1.free np) (s1.trans s4) upd_same (l.rev.up s4)
/-- an item of a list, of a tuple, by its number -/
theorem ev_ixL [∀ a, St (S a)] {n : Nat} {a : α} (e : as[n]? = some a) (ha : EvV (Same H0) σ ta (isL S as)) (hb : EvV (Same H0) σ tb (isIv (n : Int))) : EvV (Same H0) σ (tOp (rIxL K) ta tb) (S a) :=
  ev_o ha hb fun v u H Q w hv hu k => by
    obtain ⟨D, us, rfl, hD, l⟩ := hv
    cases hu
    obtain ⟨z, ez, r⟩ := l.2 n a e
    have lt : n < us.length := (List.getElem?_eq_some_iff.mp ez).1
    refine ⟨D, us, (n : Int), z, rfl, rfl, SqL.of hD, ?_, k z H (Same.refl H) r⟩
    show (ixN us.length (n : Int)).bind (fun j => us[j]?) = _
    have ei : ixN us.length (n : Int) = some n := by
      unfold ixN
      rw [if_pos (by omega), if_pos (by omega)]
      rfl
    rw [ei]
    exact ez
theorem ev_ixU [∀ a, St (S a)] {n : Nat} {a : α} (e : as[n]? = some a) (ha : EvV (Same H0) σ ta (isU S as)) (hb : EvV (Same H0) σ tb (isIv (n : Int))) : EvV (Same H0) σ (tOp (rIxT K) ta tb) (S a) :=
  ev_o ha hb fun v u H Q w hv hu k => by
    obtain ⟨D, us, rfl, hD, l⟩ := hv
    cases hu
    obtain ⟨z, ez, r⟩ := l.2 n a e
    have lt : n < us.length := (List.getElem?_eq_some_iff.mp ez).1
    refine ⟨D, us, (n : Int), z, rfl, rfl, SqT.of hD, ?_, k z H (Same.refl H) r⟩
    show (ixN us.length (n : Int)).bind (fun j => us[j]?) = _
    have ei : ixN us.length (n : Int) = some n := by
      unfold ixN
      rw [if_pos (by omega), if_pos (by omega)]
      rfl
    rw [ei]
    exact ez
/-- text.split(sep) -/
theorem evn_split (n : x.length ≤ 100000) (hy : (y.length == 0) = false) (ha : EvV (Same H0) σ ta (isSv x)) (hb : EvV (Same H0) σ tb (isSv y)) :
    EvNL H0 σ (tM1 (fun x xs H Q => ∃ a b, x = .str a ∧ xs = [.str b] ∧ (b.length == 0) = false ∧ a.length + 2 ≤ sizeLine ∧ rNewStrs (Txt.split a b) H Q) ta tb) isSv (Txt.split x y) := fun H Q w k =>
  ha H _ w fun v H1 s1 w1 e => ⟨⟨x, e⟩, hb H1 _ w1 fun u H2 s2 w2 e2 => by
    cases e
    cases e2
    refine ⟨x, y, rfl, rfl, hy, Nat.le_trans (Nat.add_le_add_right n 2) (by decide), fun p np => ?_⟩
    have s4 : Same H2 (upd H2 p (.lst ((Txt.split x y).map V.str))) := Same.new np
    exact k p _ _ ((s1.trans s2).free np) ((s1.trans s2).trans s4) upd_same (Ls.strs _)⟩
/-- sep.join(texts) -/
theorem ev_joinLs {L : List Str} (hy : y.length ≤ 4) (n : (L.map (·.length)).sum + L.length ≤ 100000) (ha : EvV (Same H0) σ ta (isSv y)) (hb : EvV (Same H0) σ tb (isSs L)) : EvV (Same H0) σ (tM1 (rJoinK K) ta tb) (isSv (Str.join y L)) := fun H Q w k =>
  ha H _ w fun v H1 s1 w1 e => ⟨⟨y, e⟩, hb H1 _ w1 fun u H2 s2 w2 hu => by
    cases e
    obtain ⟨D, us, rfl, hD, l⟩ := hu
    have el := l.toStrs
    subst el
    refine ⟨y, D, L, rfl, rfl, .inl (SqL.of hD), ?_, k _ H2 (s1.trans s2) w2 (by rw [join_eq]; rfl)⟩
    have z : L.length * y.length ≤ L.length * 4 := Nat.mul_le_mul_left _ hy
    refine Nat.le_trans (m := 500000) ?_ (by decide)
    first | omega | (rw [Nat.mul_comm]; omega) | (simp only [List.length_map]; omega)⟩
theorem EvNL.isL {S : α → V → Hp → Prop} (h : EvNL H0 σ te S as) : EvV (Same H0) σ te (isL S as) := h.ev
end
end V3

set_option Elab.async false
set_option linter.all false
set_option maxRecDepth 100000
/-! in, str of a number, enumerate, != of scalars, answered; a class method within a try -/
namespace V3
open PySem L2 TL
theorem inV_strE {k : Str} {L : List Str} : inV (.str k) (L.map V.str) = decide (k ∈ L) := by
  induction L with
  | nil => rfl
  | cons a r ih =>
    have e : inV (.str k) ((a :: r).map V.str) = (a == k || inV (.str k) (r.map V.str)) := rfl
    rw [e, ih]
    by_cases q : k = a
    · subst q
      simp
    · have z : (a == k) = false := Bool.eq_false_iff.mpr fun w => q (eq_of_beq w).symm
      rw [z]
      simp [q]
theorem flat_strE (L : List Str) : (L.map V.str).all flatV = true := by
  induction L with
  | nil => rfl
  | cons a r ih => simpa [flatV] using ih
def negB (neg b : Bool) : Bool := if neg then !b else b
section
variable {K : PySem.W.Frag} {σ : L2.St} {ta tb te : TE} {ts : TA} {H0 : Hp} {R : V → Hp → Prop} {x : Str} {L : List Str} {i : Int} {neg : Bool} {u v : V}
theorem ev_inL (ha : EvV (Same H0) σ ta (isSv x)) (hb : EvV (Same H0) σ tb (isSs L)) : EvV (Same H0) σ (tOp (rIn K neg) ta tb) (isBv (negB neg (decide (x ∈ L)))) :=
  ev_o ha hb fun a b H Q w ea hb k => by
    cases ea
    obtain ⟨D, us, rfl, hD, l⟩ := hb
    have e := l.toStrs
    subst e
    exact ⟨D, _, rfl, .inl (SqL.of hD), rfl, flat_strE _, k _ H (Same.refl H) (by rw [inV_strE]; rfl)⟩
theorem ev_inT (ha : EvV (Same H0) σ ta (isSv x)) (hb : EvV (Same H0) σ tb (isU isSv L)) : EvV (Same H0) σ (tOp (rIn K neg) ta tb) (isBv (negB neg (decide (x ∈ L)))) :=
  ev_o ha hb fun a b H Q w ea hb k => by
    cases ea
    obtain ⟨D, us, rfl, hD, l⟩ := hb
    have e := l.toStrs
    subst e
    exact ⟨D, _, rfl, .inr (SqT.of hD), rfl, flat_strE _, k _ H (Same.refl H) (by rw [inV_strE]; rfl)⟩
theorem ev_num (am : i.natAbs.log2 < 1920) (ha : EvV (Same H0) σ ta (isIv i)) : EvV (Same H0) σ (tCB (fun xs H Q => ∃ i, xs = [.int i] ∧ i.natAbs.log2 < 1920 ∧ Q (.str (toString i)) H) (tCons ta tNil)) (isSv (toString i)) := fun H Q w k =>
  ha H _ w fun y H1 s1 w1 e => by
    cases e
    exact ⟨i, rfl, am, k _ H1 s1 w1 rfl⟩
theorem ev_neV (sc : scal u v = true) (ha : EvV (Same H0) σ ta (isVv u)) (hb : EvV (Same H0) σ tb (isVv v)) : EvV (Same H0) σ (tOp rNe ta tb) (isBv (!decide (u = v))) :=
  ev_o ha hb fun a b H Q w ea eb k => by
    cases ea
    cases eb
    exact ⟨sc, k _ H (Same.refl H) rfl⟩
theorem ev_eqV (sc : scal u v = true) (ha : EvV (Same H0) σ ta (isVv u)) (hb : EvV (Same H0) σ tb (isVv v)) : EvV (Same H0) σ (tOp rEq ta tb) (isBv (decide (u = v))) :=
  ev_o ha hb fun a b H Q w ea eb k => by
    cases ea
    cases eb
    exact ⟨sc, k _ H (Same.refl H) rfl⟩
theorem ev_isN (ha : EvV (Same H0) σ ta (isVv u)) : EvV (Same H0) σ (tOp (fun x y H Q => y = V.non ∧ Q (.bl (decide (x = .non))) H) ta (tC .non)) (isBv (decide (u = .non))) :=
  ev_o (Ra := isVv u) (Rb := isVv .non) ha ev_c fun a b H Q w ea eb k => by
    cases ea
    cases eb
    exact ⟨rfl, k _ H (Same.refl H) rfl⟩
/-- an if, either way -/
theorem if_b {c : TT} {t u : TS} {D : Ends} {H : Hp} {b : Bool} (w : Same H0 H) (h : EvB (Same H0) σ c b) (kt : b = true → ∀ H', Same H H' → t D σ H') (kf : b = false → ∀ H', Same H H' → u D σ H') : tIfS c t u D σ H := h H _ w fun H' s _ => by
  cases b with
  | true => exact iteT (kt rfl H' s)
  | false => exact iteF (kf rfl H' s)
theorem evi_tupU {α : Type} {S : α → V → Hp → Prop} [∀ a, St (S a)] {as : List α} (ha : EvV (Same H0) σ te (isU S as)) : EvI H0 σ (iTup K te) as S :=
  evi_tup (ev_to ha fun v H ⟨D, us, e, hD, l⟩ => ⟨D, us, e, fun H' s => SqT.of (s _ _ hD), l⟩)
theorem evn_lcY {α β : Type} {wi : TI} {i : Nat} {as : List α} {S : α → V → Hp → Prop} {S' : β → V → Hp → Prop} [∀ b, StL (S' b)] (f : α → β) (hi : EvI H0 σ wi as S) (hn : as.length ≤ 1000)
    (hb : ∀ a ∈ as, ∀ x H, Same H0 H → S a x H → EvV (Same H) ((wipe σ [i]).set i (some x)) te (S' (f a))) (hw : ∀ x : V, wipe ((wipe σ [i]).set i (some x)) [i] = wipe σ [i]) :
    EvNL H0 σ (tLc wi (gName i) tYes te [i]) S' (as.map f) := by
  have z := evn_lc (tt := tYes) (te := te) (vs := [i]) (g := gName i) (S' := S') (fun _ => true) f hi hn fun a ha x H w r K2 k => k _ _ (Same.refl H) (hw x) (fun H Q w k => k H (Same.refl H) w) fun _ => hb a ha x H w r
  rw [List.filter_eq_self.mpr fun _ _ => rfl] at z
  exact z
theorem ev_lcY {α β : Type} {wi : TI} {i : Nat} {as : List α} {S : α → V → Hp → Prop} {S' : β → V → Hp → Prop} [∀ b, StL (S' b)] (f : α → β) (hi : EvI H0 σ wi as S) (hn : as.length ≤ 1000)
    (hb : ∀ a ∈ as, ∀ x H, Same H0 H → S a x H → EvV (Same H) ((wipe σ [i]).set i (some x)) te (S' (f a))) (hw : ∀ x : V, wipe ((wipe σ [i]).set i (some x)) [i] = wipe σ [i]) :
    EvV (Same H0) σ (tLc wi (gName i) tYes te [i]) (isL S' (as.map f)) := (evn_lcY f hi hn hb hw).ev
/-- none of them passes the test -/
theorem ev_lcN {α β : Type} {wi : TI} {i : Nat} {as : List α} {S : α → V → Hp → Prop} {tt : TT} (S' : β → V → Hp → Prop) [∀ b, StL (S' b)] (f : α → β) (hi : EvI H0 σ wi as S) (hn : as.length ≤ 1000)
    (hb : ∀ a ∈ as, ∀ x H, Same H0 H → S a x H → EvB (Same H) ((wipe σ [i]).set i (some x)) tt false) (hw : ∀ x : V, wipe ((wipe σ [i]).set i (some x)) [i] = wipe σ [i]) :
    EvV (Same H0) σ (tLc wi (gName i) tt te [i]) (isL S' []) := by
  have z := ev_lc (tt := tt) (te := te) (vs := [i]) (g := gName i) (S' := S') (fun _ => false) f hi hn fun a ha x H w r K2 k => k _ _ (Same.refl H) (hw x) (hb a ha x H w r) fun e => by cases e
  rw [List.filter_eq_nil_iff.mpr fun _ _ => Bool.false_ne_true] at z
  exact z
/-- pairs of places and items -/
def enumF {α : Type} : Nat → List α → List (Nat × α)
  | _, [] => []
  | j, x :: r => (j, x) :: enumF (j + 1) r
theorem enumF_len {α : Type} : ∀ {L : List α} {j : Nat}, (enumF j L).length = L.length
  | [], _ => rfl
  | _ :: r, j => by
    show (enumF (j + 1) r).length + 1 = r.length + 1
    rw [enumF_len]
theorem enumF_get {α : Type} : ∀ {L : List α} {j i : Nat}, (enumF j L)[i]? = L[i]?.map fun x => (j + i, x)
  | [], _, _ => by simp [enumF]
  | x :: r, j, 0 => rfl
  | x :: r, j, i + 1 => by
    show (enumF (j + 1) r)[i]? = r[i]?.map fun x => (j + (i + 1), x)
    rw [enumF_get]
    congr 1
    funext x
    rw [show j + 1 + i = j + (i + 1) by omega]
def isEn {α : Type} (S : α → V → Hp → Prop) (p : Nat × α) : V → Hp → Prop := isP2 (fun n => isIv ((n : Nat) : Int)) S p
instance {α : Type} {S : α → V → Hp → Prop} [∀ a, StL (S a)] {p : Nat × α} : StL (isEn S p) := by unfold isEn; infer_instance
theorem evi_enum {α : Type} {S : α → V → Hp → Prop} [∀ a, St (S a)] {as : List α} (h : EvV (Same H0) σ te (isL S as)) : EvI H0 σ (iEnum K (tCons te tNil)) (enumF 0 as) (isEn S) := fun H Rk w k =>
  h H _ w fun v H1 s1 w1 hv => by
    obtain ⟨D, us, rfl, hD, l⟩ := hv
    refine ⟨D, us, rfl, SqL.of hD, k (Ite K D) H1 s1 ⟨_, _, by rw [enumF_len, ← l.1]; exact walk_enum (K := K) (a := D) (xs := us), fun H2 s => SqL.of (s _ _ hD), fun i H2 x H3 hi s y => ?_⟩⟩
    obtain ⟨T, a, b, rfl, nT, rfl, ea, eb⟩ := y
    obtain rfl := Option.some.inj ea
    obtain ⟨m, em, r⟩ := Ls.get l eb
    refine ⟨Same.new nT, (0 + i, m), by rw [enumF_get, em]; rfl, T, _, b, rfl, upd_same, ?_, up (s.trans (Same.new nT)) r⟩
    show V.int (i : Nat) = V.int ((0 + i : Nat) : Int)
    rw [Nat.zero_add]
end
section
variable {X : Cx} {CX : CXT} {k : Nat} {C p g : Addr} {fd : FuncData} {ps : List Str} {mc : Value} {sp : Sp} {E : L2.St → XK} {o e : Expr} {es : List Expr} {m : Str} {pos apos : Pos} {ta : TE} {t : TA} {pl : Sem Bool}
/-- C.m(..) of a classmethod, what it raises wished for at the slots -/
def tCMethA (C : Addr) (sp : Sp) (E : L2.St → XK) (ta : TE) (t : TA) : TE := fun σ H Q => ta σ H fun x H1 => x = .ref C ∧ t σ H1 fun vs H2 => sp (.ref C :: vs) H2 Q (E σ)
theorem pe_cmethA (he : PE X o ta) (r : ClX.CRead X.K C mc) (c : ClX.CMet X.K C mc m p g) (F : FnOk X.prog X.w X.K X.mg X.base CX k g fd ps sp) (bi : Binds X.K fd ps []) (hr : Room k X.A) (out : ∀ σ, PassesAt CX X σ (E σ)) (ha : PA X (e :: es) t)
    (hst : starEach (e :: es) X.env = (false, eval e X.env) :: starEach es X.env := by rfl) (hpl : (backTo pos (starEach es X.env)).any (·.1) = false := by rfl)
    (ht : eval (.Call (.Attribute o m apos) (e :: es) [] pos) X.env = (do
      let ov ← eval o X.env
      standAt apos.atName
      let (f, first) ← holding [ov] (getMethod ov m pl)
      callWith pos f first (backTo pos (starEach (e :: es) X.env)) (backToKw pos (keywordEach [] X.env))) := by rfl) :
    PE X (.Call (.Attribute o m apos) (e :: es) [] pos) (tCMethA C sp E ta t) := by
  refine ⟨fun pins s σ H Q I h => ?_⟩
  refine PySem.W.methodCall_KW (pl := pl) (thn (he.run pins s σ H _ I h) fun u s1 ⟨x, H1, I1, rx, ex, q⟩ => ?_) ht
  subst ex
  obtain rfl : u = Value.ref C := rx
  refine ClX.getmethcm_ok I1 r c fun s2 I2 => ?_
  refine ClX.callwith_cm I2 (ClX.base_none I1 (Nat.le_refl _)) c.fi (thn (ha.run pos _ s2 σ H1 _ I2 q) fun us s3 ⟨vs, H2, I3, rv, q2⟩ => ⟨⟨ClX.pin_at I3, I3.kIn⟩, ?_⟩) hst hpl
  have rr : Vals (V.ref C :: vs) (Value.ref C :: us) := .cons rfl rv
  have hl : (Value.ref C :: us).length = ps.length := by rw [← rr.length]; exact F.len _ _ _ _ q2
  have b := bi s3 (Value.ref C :: us) I3.kIn (by rw [List.append_nil]; exact hl)
  rw [List.append_nil] at b
  have ran := F.run X.A X.stack s3 H2 ⟨Value.ref C :: us, []⟩ (Value.ref C :: us) (V.ref C :: vs) Q (E σ) hr I3.env0 b rr q2
  refine thn (Q := EP X ((s1.heap.objs.size, PySem.W.methodObj (.ref g) (.ref C)) :: pins) σ Q) (wpAny_call (PySem.W.method_call (ClX.pin_at I3) (codeAny_mono ran fun r s' hq => ?_))) fun _ _ y => ClX.unpinE y
  cases r with
  | error err => exact out σ _ H2 s3 err s' I3 hq
  | ok fl =>
    cases fl with
    | ret w => exact I3.after hq
    | next => exact False.elim hq
    | brk => exact False.elim hq
    | cont => exact False.elim hq
end
end V3

set_option Elab.async false
set_option linter.all false
set_option maxRecDepth 100000
/-! xs == []; what follows two ways, read once -/
namespace V3
open PySem PySem.Spec PyProof.Rows L2 TL
/-- xs == [] -/
def rEqE : R2 := fun x y H Q => ∃ l b xs, x = .ref l ∧ y = .ref b ∧ H l = some (.lst xs) ∧ H b = some (.lst []) ∧ Q (.bl xs.isEmpty) H
theorem op_eqE {X : Cx} (hu : X.A.units < cLine) : OpR X (compareOp .Eq) rEqE := by
  intro pins s σ H x y v u Q I rx ry h
  obtain ⟨l, b, xs, rfl, rfl, hl, hb, q⟩ := h
  cases rx
  cases ry
  obtain ⟨z, its, k, r, e⟩ := I.hok l _ hl
  obtain ⟨z2, its2, k2, r2, e2⟩ := I.hok b _ hb
  cases r2
  have L1 : s.heap.IsList l its.toArray := ⟨_, e, rfl, k, rfl⟩
  have L2' : s.heap.IsList b ([] : List Value).toArray := ⟨_, e2, rfl, k2, rfl⟩
  refine PySem.W.cmp_ofEq ?_
  cases r with
  | nil =>
    have c := PySem.SeqAt.RcAt.lists (e := fun _ => true) L1 L2' rfl hu (fun j h1 _ => absurd h1 (Nat.not_lt_zero _))
    exact c X.prog X.w X.xe _ ⟨.bl true, H, I, rfl, q⟩
  | @cons x0 u0 xs0 us0 r0 rr =>
    have c := PySem.SeqAt.RcAt.lists_lengths L1 L2' (by simp) hu
    exact c X.prog X.w X.xe _ ⟨.bl false, H, I, rfl, q⟩
section
variable {K : PySem.W.Frag} {σ : L2.St} {ta tb tc : TE} {H0 : Hp}
theorem ev_eqNil {α : Type} {S : α → V → Hp → Prop} {as : List α} (ha : EvV (Same H0) σ ta (isL S as)) : EvV (Same H0) σ (tOp rEqE ta (tLst tNil)) (isBv as.isEmpty) := fun H Q w k =>
  ha H _ w fun v H1 s1 w1 r => by
    obtain ⟨D, us, rfl, hD, l⟩ := r
    refine ⟨(by show 0 ≤ sizeLine; decide), fun p np => ?_⟩
    have s2 : Same H1 (upd H1 p (.lst [])) := Same.new np
    refine ⟨D, p, us, rfl, rfl, s2 _ _ hD, upd_same, k _ _ (s1.trans s2) (w1.trans s2) ?_⟩
    show V.bl us.isEmpty = V.bl as.isEmpty
    congr 1
    have e := l.1
    cases us <;> cases as <;> first | rfl | (simp at e)
theorem ev_toW {R R' : V → Hp → Prop} (h : EvV (Same H0) σ ta R) (e : ∀ v H, Same H0 H → R v H → R' v H) : EvV (Same H0) σ ta R' := fun H Q w k => h H Q w fun v H' s w' r => k v H' s w' (e v H' w' r)
theorem tif_cut {t : TT} {H : Hp} {Q : VK} (M : V → Hp → Prop) (tail : ∀ v H', M v H' → Q v H') (main : ∀ Q' : VK, (∀ v H', M v H' → Q' v H') → tIf t ta tb σ H Q') : tIf t ta tb σ H Q := main Q tail
theorem cut_here {t : TS} {D : Ends} {H : Hp} (M : L2.St → Hp → Prop) (tail : ∀ σ' H', M σ' H' → D.nx σ' H') (main : ∀ X : L2.St → Hp → Prop, (∀ σ' H', M σ' H' → X σ' H') → t { D with nx := X } σ H) : t D σ H := main D.nx tail
end
end V3

set_option Elab.async false
set_option linter.all false
set_option maxRecDepth 100000
/-! a, b, c = x, y, z with plain local names -/
namespace V3
open PySem PySem.Spec PyProof.Rows L2
def tPar3 (i j k : Nat) (ta : TA) : TS := fun D σ H => ta σ H fun vs H1 => ∃ v w z, vs = [v, w, z] ∧ D.nx (((σ.set i (some v)).set j (some w)).set k (some z)) H1
theorem ps_par3 {X : Cx} {i j k : Nat} {x y z : Str} {a b c : Expr} {ta : TA} {px py pz pt : Pos} {kt k2 pt2} {pos : Pos} (hc : X.calm = true) (hN : X.N.Nodup) (hi : X.N[i]? = some x) (hj : X.N[j]? = some y) (hk : X.N[k]? = some z) (hij : i ≠ j) (hik : i ≠ k) (hjk : j ≠ k)
    (hx : X.env.scope.names.lookup x = some .local) (hy : X.env.scope.names.lookup y = some .local) (hz : X.env.scope.names.lookup z = some .local) (ha : PA X [a, b, c] ta)
    (hw : swappedStores [.Tuple [.Name x px, .Name y py, .Name z pz] kt pt] (.Tuple [a, b, c] k2 pt2) X.env = pure (some [x, y, z]))
    (hs : swapsWithSole [.Tuple [.Name x px, .Name y py, .Name z pz] kt pt] (.Tuple [a, b, c] k2 pt2) pos.line X.env = pure false := by rfl) :
    PS X (.Assign [.Tuple [.Name x px, .Name y py, .Name z pz] kt pt] (.Tuple [a, b, c] k2 pt2) pos) (tPar3 i j k ta) := by
  refine ⟨fun pins s σ H D I h => ?_⟩
  rw [exec_Assign_arm]
  refine wpAny_bind (wpAny_standAt ?_)
  rw [hs]
  refine wpAny_bind (wpAny_pure ?_)
  rw [if_neg (by decide)]
  refine wpAny_bind (Tuple_ (thn (ha.run _ pins s σ H _ I h) fun us s1 ⟨vs, H1, I1, r1, q1⟩ => ?_))
  obtain ⟨v, w, t, e1, q1⟩ := q1
  subst e1
  obtain ⟨u1, u2, u3, rfl, rv, rw', rt⟩ : ∃ u1 u2 u3, us = [u1, u2, u3] ∧ RelV v u1 ∧ RelV w u2 ∧ RelV t u3 := by
    cases r1 with
    | cons p q =>
      cases q with
      | cons p' q' =>
        cases q' with
        | cons p2 q2 =>
          cases q2
          exact ⟨_, _, _, rfl, p, p', p2⟩
  refine wpAny_newObj_type ?_ (by show 3 ≤ sizeLine; decide)
  have I2 : Inv X pins σ H1 { s1 with heap := s1.heap.push { cls := .type "tuple", data := .seq [u1, u2, u3].toArray } } := I1.kept (t' := s1.toks) fun b o e => Heap.get?_push_of_some _ e
  rw [hw]
  refine wpAny_bind (wpAny_pure ?_)
  show wpAny (model X.prog X.w) X.A (do rule "assign.swapped-stores"; let items ← unpackItems (.ref s1.heap.objs.size) 3 none; assignInOrder [fun v => bindName X.env z v, fun v => bindName X.env y v, fun v => bindName X.env x v] items.reverse; pure Flow.next) _ _ _
  refine wpAny_bind (wpAny_rule (wpAny_bind (unpackItems_tuple (items := #[u1, u2, u3]) (I.ok.hd hc) (IsTup.new s1.heap _) fun h' hx' => ?_)))
  have I3 := I2.kept (h' := h') (t' := s1.toks) fun b o e => hx' b o (Nat.ne_of_lt (Heap.lt_size e)) e
  show wpAny _ _ (assignInOrder [fun v => bindName X.env z v, fun v => bindName X.env y v, fun v => bindName X.env x v] [u3, u2, u1] >>= fun _ => pure Flow.next) _ _ _
  refine wpAny_bind (assignInOrder_cons (wpAny_bindName (store_ok I3 hN hk (.inl hz) rt (fun s2 I4 => ?_) (.inr hz))))
  refine assignInOrder_cons (wpAny_bindName (store_ok I4 hN hj (.inl hy) rw' (fun s3 I5 => ?_) (.inr hy)))
  refine assignInOrder_cons (wpAny_bindName (store_ok I5 hN hi (.inl hx) rv (fun s4 I6 => assignInOrder_nil (wpAny_pure ?_)) (.inr hx)))
  rw [List.set_comm _ _ (Ne.symm hij), List.set_comm _ _ (Ne.symm hik), List.set_comm _ _ (Ne.symm hjk)] at I6
  exact ⟨_, H1, I6, q1⟩
end V3

set_option Elab.async false
set_option linter.all false
set_option maxRecDepth 100000
/-! any values among good ones; which word is due -/
namespace V3
open PySem PySem.Spec PyProof.Rows L2 TL
abbrev sDueL : Stmt := top 24
/-- a flat value -/
abbrev isFv (x : Fv) : V → Hp → Prop := fun v _ => v = x.v
instance {x : Fv} : StL (isFv x) := ⟨fun _ _ _ _ h => h⟩
/-- nested data -/
abbrev AdA (N : Addr → Prop) (d : PyData) : V → Hp → Prop := fun v H => Ad N H v d
instance {N : Addr → Prop} {d : PyData} : St (AdA N d) := ⟨fun v H H' s h => Ad.mv (fun _ z => z) (fun a o _ e _ => s a o e) d v h⟩
def spMostly : Sp := fun vs H Q _ => ∃ (b l : Addr) (u v : Int) (L : List Fv), vs = [.ref b, .ref l] ∧ H b = some (box u v) ∧ BoxOk u v ∧ l ≠ b ∧ H l = some (.lst (L.map Fv.v)) ∧ 1 ≤ L.length ∧ L.length ≤ 1000 ∧ (∀ x ∈ L, x ∈ flats) ∧
  ∀ (y : V) (d : PyData) (H' : Hp), Pre b H H' → Ad (NewIn H) H' y d → Sm 3 d → Q y H'
def amD (L : List Fv) (d : PyData) : Bool := L.any fun y => decide (y.sh = d.shown)
theorem am_is {n : Nat} {d : PyData} (h : Sm n d) {L : List Fv} (hl : ∀ x ∈ L, x ∈ flats) : amD L d = amV L d := by
  unfold amD amV
  cases e : fOf d with
  | none =>
    show _ = false
    rw [List.any_eq_false]
    intro y hy z
    have q := (h.word (hl y hy)).mp (of_decide_eq_true z)
    rw [e] at q
    cases q
  | some x =>
    show _ = decide (x ∈ L)
    by_cases m : x ∈ L
    · rw [decide_eq_true m, List.any_eq_true]
      exact ⟨x, m, decide_eq_true ((h.word (hl x m)).mpr e)⟩
    · rw [decide_eq_false m, List.any_eq_false]
      intro y hy z
      have q := (h.word (hl y hy)).mp (of_decide_eq_true z)
      rw [e] at q
      cases q
      exact m hy
/-- the first word that is due -/
def dueP : List Str → List PyData → List (List Fv) → Option Str
  | w :: ws, d :: ds, L :: LL => if amV L d then dueP ws ds LL else some w
  | _, _, _ => none
def oStr : Option Str → V
  | none => .non
  | some z => .str z
theorem due_drop {ws : List Str} {ds : List PyData} {LL : List (List Fv)} {i : Nat} {z : Str} {d : PyData} {L : List Fv} (h1 : ws[i]? = some z) (h2 : ds[i]? = some d) (h3 : LL[i]? = some L) :
    dueP (ws.drop i) (ds.drop i) (LL.drop i) = if amV L d then dueP (ws.drop (i + 1)) (ds.drop (i + 1)) (LL.drop (i + 1)) else some z := by
  have dr : ∀ {α : Type} {xs : List α} {x : α}, xs[i]? = some x → xs.drop i = x :: xs.drop (i + 1) := fun {α xs x} e => by
    obtain ⟨lt, e⟩ := List.getElem?_eq_some_iff.mp e
    rw [List.drop_eq_getElem_cons lt, e]
  rw [dr h1, dr h2, dr h3]
  rfl
abbrev LfA (L : List Fv) : V → Hp → Prop := isL isFv L
def spDueL (N : Addr → Prop) : Sp := fun vs H Q _ => ∃ (ta wa la : Addr) (ts ls : List V) (ds : List PyData) (ws : List Str) (LL : List (List Fv)), vs = [.ref ta, .ref wa, .ref la] ∧ H ta = some (.lst ts) ∧ AdL N H ts ds ∧ H wa = some (.lst (ws.map V.str)) ∧
  H la = some (.lst ls) ∧ Ls (fun v L => LfA L v H) ls LL ∧ ws.length = ds.length ∧ ws.length = LL.length ∧ (∀ d ∈ ds, Sm 3 d) ∧ (∀ L ∈ LL, L.length ≤ 100 ∧ ∀ x ∈ L, x ∈ flats) ∧ ∀ H', Same H H' → Q (oStr (dueP ws ds LL)) H'
structure BltD (mg : Str → Option Value) : Prop where
  zip : mg "zip" = none
  repr : mg "repr" = none
section
variable {P : Program} {w : World} {K : PySem.W.Frag} {mg : Str → Option Value} {base : Heap}
theorem scMostly : FnScope ["_law_box", "_law_some"] ["_law_box", "_law_some"] (defScope sMostly) := ⟨rfl, rfl, rfl, by decide +kernel, rfl, by decide +kernel, by decide +kernel⟩
theorem ok_mostly {f : Addr} {fd : FuncData} (F : Fun K "_law_mostly" "_law_mostly" sMostly f fd) (cC : CalChoose P w K mg base) (cO : CalOneOf P w K mg base) (cA : Cal P w K mg base CX0 "_law_any" 6 ["_law_box", "_law_deep"] (spAnyV 3)) : FnOk P w K mg base CX0 7 f fd ["_law_box", "_law_some"] spMostly := by
  obtain ⟨fC, fdC, GC, mC, kC, bC⟩ := cC
  obtain ⟨fO, fdO, GO, mO, kO, bO⟩ := cO
  obtain ⟨fA, fdA, GA, mA, kA, bA⟩ := cA
  refine F.ok scMostly (fun vs H Q E h => ?_) (fun cdv A outer s H vs Q E hr h => ?_)
  · obtain ⟨b, l, u, v, L, rfl, _⟩ := h
    rfl
  · obtain ⟨b, l, u, v, L, rfl, hb, ok, ne, hl, l1, l2, fl, k⟩ := h
    refine ⟨_, (pss_one (ps_ret (pe_ifExp (pt_cmpR op_eq (pe_call GC (hr.mono (by decide)) rfl mC kC bC .nil pass0 (pa_cons (pv 0) (pa_cons pe_int pa_nil))) pe_int (nomark _)) (pe_call GA hr rfl mA kA bA .nil pass0 (pa_cons (pv 0) (pa_cons pe_int pa_nil))) (pe_call GO (hr.mono (by decide)) rfl mO kO bO .nil pass0 (pa_cons (pv 0) (pa_cons (pv 1) pa_nil)))))), ?_⟩
    refine ⟨_, rfl, b, u, v, 5, rfl, hb, ok, (by decide), (by decide), fun d u1 v1 d0 d5 ok1 => ?_⟩
    have S1 : Pre b H (upd H b (box u1 v1)) := Pre.box ok1
    have hb1 : upd H b (box u1 v1) b = some (box u1 v1) := upd_same
    have hl1 : upd H b (box u1 v1) l = some (.lst (L.map Fv.v)) := by rw [upd_ne ne]; exact hl
    generalize upd H b (box u1 v1) = H1 at S1 hb1 hl1
    refine ⟨rfl, _, rfl, ite2 (fun c => ?_) (fun c => ?_)⟩
    · refine ⟨_, rfl, b, u1, v1, rfl, hb1, ok1, fun y dy H' S2 ay sy => k y dy H' (S1.trans S2) (Ad.mv (fun a na => S1.none hb na) (fun a o _ e _ => e) dy y ay) sy⟩
    · refine ⟨_, rfl, _, rfl, b, l, u1, v1, _, rfl, hb1, ok1, ne, SqL.of hl1, (by rw [List.length_map]; exact l1), (by rw [List.length_map]; exact l2), fun x u' v' hx ok' => ?_⟩
      obtain ⟨fx, hf, ex⟩ := List.mem_map.mp hx
      subst ex
      exact k _ _ _ (S1.trans (Pre.box ok')) (Ad.of _ _ fx) (.flat (fl fx hf))
abbrev NDl : List Str := ["_law_told", "_law_words", "_law_lists", "_law_word_here", "_law_value", "_law_some", "_law_one"]
theorem scDueL : FnScope NDl ["_law_told", "_law_words", "_law_lists"] (defScope sDueL) := ⟨rfl, rfl, rfl, by decide +kernel, rfl, by decide +kernel, by decide +kernel⟩
theorem ev_repA {A : Around} {σ : L2.St} {H0 : Hp} {ta : TE} {N : Addr → Prop} {d : PyData} (sm : Sm 3 d) (un : A.units + 5 < cLine) (ha : EvV (Same H0) σ ta (AdA N d)) : EvV (Same H0) σ (tCB (rRepA A) (tCons ta tNil)) (isSv d.shown) :=
  ev_cb1 ha fun x H Q w e k => ⟨x, d, 3, N, rfl, e, sm, by decide, un, k _ H (Same.refl H) w rfl⟩
theorem ok_dueL {f : Addr} {N : Addr → Prop} {fd : FuncData} (F : Fun K "_law_due" "_law_due" sDueL f fd) (T : BltD mg) : FnG P w K mg base CX0 1 f fd ["_law_told", "_law_words", "_law_lists"] (spDueL N) := by
  refine fnG F scDueL (fun vs H Q E h => ?_) (fun cdv A outer s H vs Q E g hr h => ?_)
  · obtain ⟨ta, wa, la, ts, ls, ds, ws, LL, rfl, _⟩ := h
    rfl
  · obtain ⟨ta, wa, la, ts, ls, ds, ws, LL, rfl, ht, ad, hw, hl, lls, n1, n2, sm, fl, k⟩ := h
    refine ⟨_, PSs.nox (pss_cons (ps_for PassesOwn.never rfl (pi_zip3 (by rfl) T.zip (pa_cons (pv 1) (pa_cons (pv 0) (pa_cons (pv 2) pa_nil)))) (pg_tup rfl (pgs_cons (pg_name (i := 3) scDueL.nd rfl (Or.inl rfl)) (pgs_cons (pg_name (i := 4) scDueL.nd rfl (Or.inr rfl)) (pgs_cons (pg_name (i := 5) scDueL.nd rfl (Or.inl rfl)) pgs_nil))))
      (pss_one (ps_if (pt_cmpR (op_eqE hr.units0) (pe_lc (own := [("_law_one", 6)]) (g := gName 6) (tt := tTest (tOp rEq (tCB (rRepA (A.deeper (envOfC "_law_due" (defScope sDueL) s.heap.objs.size f cdv))) (tCons (tVar 6) tNil)) (tCB (rRepA (A.deeper (envOfC "_law_due" (defScope sDueL) s.heap.objs.size f cdv))) (tCons (tVar 4) tNil)))) (te := tVar 6) (by rfl) scDueL.nd (pi_list (pv 5)) (blkOk_by (own := [("_law_one", 6)]) (N := NDl) (sc := defScope sDueL) (by decide +kernel)) (fun _ _ _ _ _ => (pg_name (i := 6) scDueL.nd rfl (Or.inl rfl))) (fun _ _ _ _ _ => pts_one (pt_cmpR op_eq (pe_callB (call_repA g) (by rfl) T.repr (by decide +kernel) (pa_cons (pv 6) pa_nil)) (pe_callB (call_repA g) (by rfl) T.repr (by decide +kernel) (pa_cons (pv 4) pa_nil)) (nomark _))) (fun _ _ _ _ _ => (pv 6))) (pe_lst pa_nil) (nomark _)) (pss_one (ps_ret (pv 3))) pss_nil)))
      (pss_one (ps_ret pe_non))), ?_⟩
    refine ⟨_, rfl, _, rfl, _, rfl, wa, ta, la, _, _, _, rfl, SqL.of hw, SqL.of ht, SqL.of hl, ?_⟩
    refine for_zip3 (K := K) (a := wa) (b := ta) (c := la) (xs := ws.map V.str) (ys := ts) (zs := ls) (by rw [List.length_map, n1, ad.len]) (by rw [List.length_map, n2, lls.1]) (fun i σ H' => (∃ o3 o4 o5, σ = [some (.ref ta), some (.ref wa), some (.ref la), o3, o4, o5, none] ∧ Same H H' ∧ dueP ws ds LL = dueP (ws.drop i) (ds.drop i) (LL.drop i))) ⟨_, _, _, rfl, Same.refl _, rfl⟩ (fun i σ H' ⟨_, _, _, _, s1, _⟩ => ⟨SqL.of (s1 _ _ hw), SqL.of (s1 _ _ ht), SqL.of (s1 _ _ hl)⟩) ?_ ?_
    · rintro i x y z Tt σ H1 hx hy hz ⟨o3, o4, o5, rfl, s1, dd⟩ nT
      rw [List.getElem?_map] at hx
      obtain ⟨zw, ew, rfl⟩ := Option.map_eq_some_iff.mp hx
      have i1 : i < ds.length := by
        rw [← ad.len]
        exact (List.getElem?_eq_some_iff.mp hy).1
      obtain ⟨yv, ey, ay⟩ := ad.at (i := i) (List.getElem?_eq_getElem i1)
      cases hy.symm.trans ey
      obtain ⟨L, eL, lf⟩ := lls.get hz
      have s2 : Same H (upd H1 Tt (.tup [.str zw, y, z])) := s1.trans (Same.new nT)
      refine ⟨Tt, _, rfl, SqT.of upd_same, rfl, _, _, rfl, _, _, rfl, _, _, rfl, rfl, ?_⟩
      generalize upd H1 Tt (.tup [.str zw, y, z]) = H2 at s2
      try dsimp only [gName, tSeq, tAsg, tNext]
      have smd := sm _ (List.getElem_mem i1)
      obtain ⟨lL, fL⟩ := fl L (List.mem_of_getElem? eL)
      have un : A.units + 3 + 64 < cLine := hr.units
      have lf2 : LfA L z H2 := up s2 lf
      have ay2 : AdA N ds[i] y H2 := up s2 ay
      refine if_b (H0 := H2) (Same.refl _) (ev_test (ev_eqNil (S := isFv) (as := (L.filter fun a => decide (a.sh = ds[i].shown)).map fun a => a) (evn_lc (S := isFv) (S' := isFv) (g := gName 6) (vs := [6]) (fun a => decide (a.sh = ds[i].shown)) (fun a => a) (evi_list (K := K) (ev_v (i := 5) rfl lf2)) (by omega) fun a ha x G sG r K2 kk => ?_).ev)) (fun e H3 s3 => ?_) (fun e H3 s3 => ?_)
      · refine kk _ _ (Same.refl _) rfl (ev_test (ev_eqS (i := a.sh) (j := ds[i].shown) ?_ ?_)) fun _ => ev_v (i := 6) rfl r
        · have z0 := ev_repA (A := A.deeper (envOfC "_law_due" (defScope sDueL) s.heap.objs.size f cdv)) (σ := [some (.ref ta), some (.ref wa), some (.ref la), some (.str zw), some y, some z, some x]) (H0 := G) (N := N) (d := a.d) (ta := tVar 6) (.flat (fL a ha)) (by show A.units + 3 + 5 < cLine; omega) (ev_v (i := 6) rfl (by rw [show x = a.v from r]; exact Ad.of _ _ a))
          rw [f_shown] at z0
          exact z0
        · exact ev_repA (A := A.deeper (envOfC "_law_due" (defScope sDueL) s.heap.objs.size f cdv)) (N := N) smd (by show A.units + 3 + 5 < cLine; omega) (ev_v (i := 4) rfl (up sG ay2))
      · have z := k H3 (s2.trans s3)
        rw [dd, due_drop ew (List.getElem?_eq_getElem i1) eL, ← am_is smd fL, show amD L ds[i] = false from ?_] at z
        · exact ⟨_, rfl, z⟩
        · unfold amD
          rw [List.any_eq_false]
          intro q hq hz2
          have m : q ∈ (L.filter fun a => decide (a.sh = ds[i].shown)).map fun a => a := List.mem_map.mpr ⟨q, List.mem_filter.mpr ⟨hq, hz2⟩, rfl⟩
          rw [List.isEmpty_iff.mp e] at m
          cases m
      · refine ⟨_, _, _, rfl, s2.trans s3, ?_⟩
        rw [dd, due_drop ew (List.getElem?_eq_getElem i1) eL, ← am_is smd fL, show amD L ds[i] = true from ?_, if_pos rfl]
        unfold amD
        rw [List.any_eq_true]
        cases q : (L.filter fun a => decide (a.sh = ds[i].shown)) with
        | nil =>
          rw [q] at e
          cases e
        | cons x r =>
          have m : x ∈ L.filter fun a => decide (a.sh = ds[i].shown) := by
            rw [q]
            exact List.mem_cons_self ..
          exact ⟨x, (List.mem_filter.mp m).1, (List.mem_filter.mp m).2⟩
    · rintro σ H1 ⟨o3, o4, o5, rfl, s1, dd⟩
      have z := k H1 s1
      rw [dd, List.drop_eq_nil_of_le (by rw [List.length_map]; exact Nat.le_refl _)] at z
      exact z
end
end V3

set_option Elab.async false
set_option linter.all false
set_option maxRecDepth 100000
/-! rows of houses and of reports made of any values -/
namespace V3
open PySem PySem.Spec PyProof.Rows L2 TL
abbrev sWrongPart : Stmt := top 17
abbrev sCInit : Stmt := inClass (top 16) 0
abbrev sIrInit : Stmt := inClass (top 4) 0
/-- InvalidRow -/
structure IrTxt (P : Program) (w : World) (K : PySem.W.Frag) (mg : Str → Option Value) (base : Heap) (C : Addr) : Prop where
  g : mg "InvalidRow" = some (.ref C)
  o : OexC K C
  no : PySem.W.findIn K (.ref C) "word" = some none
  ini : ∃ (f : Addr) (fd : FuncData), FnOk P w K mg base CX0 1 f fd ["self", "word"] (spIM C) ∧ PySem.W.findIn K (.ref C) "__init__" = some (some (.ref f)) ∧ PySem.W.typeIn K (.ref f) = some (.type "function") ∧ Binds K fd ["self", "word"] []
theorem Er.up {C : Addr} {H H1 : Hp} {E : XK} {z : Str} (h : Er C H E z) (s : Same H H1) : Er C H1 E z := fun d H' s' e => h d H' (s.trans s') e
/-- what is wrong with a row of a house -/
def wrongLt (k s d p : PyData) : Option Str :=
  if amV (wordsV kindL) k then (if amV (wordsV stateL) s then (if amV (wordsV deedL) d && !(decide (fOf d = some (.str "right")) && amV (wordsV ["minus", "plus"]) k) then (if amV (wordsV placeL) p then none else some "place") else some "deed") else some "state") else some "kind"
def numsW : List Fv := [.int (-1), .int 0, .int 1]
def wrongCt (k w o : PyData) : Option Str :=
  if amV (wordsV kindL) k then (if amV numsW w then (if amV (wordsV whoseL) o then none else some "whose") else some "weight") else some "kind"
theorem Sm.av {n : Nat} {d : PyData} {N : Addr → Prop} {H : Hp} {v : V} (h : Sm n d) (a : Ad N H v d) : AV H v := by
  cases e : fOf d with
  | none =>
    obtain ⟨p, xs, rfl, _, z | z⟩ := a.deep e
    · exact .lst z
    · exact .tup z
  | some x =>
    rw [of_f e] at a
    have ev := a.flat
    subst ev
    cases h with
    | @flat n y hy =>
      rw [f_of] at e
      cases e
      have small : ∀ x ∈ flats, (match x with
        | .int i => decide (i.natAbs ≤ 10000000000000000000000000000000000000000)
        | _ => true) = true := by decide +kernel
      have z := small x hy
      cases x with
      | non => exact .non
      | bl b => exact .bl b
      | int i => exact .int i (of_decide_eq_true z)
      | str y => exact .str y
    | lst => cases e
    | tup => cases e
def spWordD (N : Addr → Prop) : Sp := fun vs H Q _ => ∃ (k s d p : V) (kd sd dd pd : PyData), vs = [k, s, d, p] ∧ Ad N H k kd ∧ Ad N H s sd ∧ Ad N H d dd ∧ Ad N H p pd ∧ ∀ H', Same H H' → Q (oStr (wrongLt kd sd dd pd)) H'
def spPartD (N : Addr → Prop) : Sp := fun vs H Q _ => ∃ (k w o : V) (kd wd od : PyData), vs = [k, w, o] ∧ Ad N H k kd ∧ Ad N H w wd ∧ Ad N H o od ∧ Sm 3 wd ∧ ∀ H', Same H H' → Q (oStr (wrongCt kd wd od)) H'
def spLetD (N : Addr → Prop) (c : Rc) (CI : Addr) : Sp := fun vs H Q E => ∃ (x dx : Addr) (k s d p : V) (kd sd dd pd : PyData), vs = [.ref x, k, s, d, p] ∧ H x = some (.ins c.L dx []) ∧ Ad N H k kd ∧ Ad N H s sd ∧ Ad N H d dd ∧ Ad N H p pd ∧
  (wrongLt kd sd dd pd = none → ∀ H', SameX x H H' → Q .non H') ∧ ∀ z, wrongLt kd sd dd pd = some z → Er CI H E z
def spCntD (N : Addr → Prop) (c : Rc) (CI : Addr) : Sp := fun vs H Q E => ∃ (x dx : Addr) (k w o : V) (kd wd od : PyData), vs = [.ref x, k, w, o] ∧ H x = some (.ins c.C dx []) ∧ Ad N H k kd ∧ Ad N H w wd ∧ Ad N H o od ∧ Sm 3 wd ∧
  (wrongCt kd wd od = none → ∀ H', SameX x H H' → Q .non H') ∧ ∀ z, wrongCt kd wd od = some z → Er CI H E z
structure RowC (K : PySem.W.Frag) (mg : Str → Option Value) (WA OA : Addr) : Prop where
  weights : mg "WEIGHTS" = some (.ref WA)
  whose : mg "WHOSE" = some (.ref OA)
  tW : ∀ H, SqT K H WA [.int (-1), .int 0, .int 1]
  tO : ∀ H, SqT K H OA (whoseL.map V.str)
structure CntC (K : PySem.W.Frag) (c : Rc) : Prop where
  cl : Cls K c.C
  k : NoAttr K c.C "kind"
  w : NoAttr K c.C "weight"
  o : NoAttr K c.C "whose"
section
variable {P : Program} {w : World} {K : PySem.W.Frag} {mg : Str → Option Value} {base : Heap} {KA SA DA PA WA OA : Addr} {N : Addr → Prop}
theorem scPart : FnScope ["kind", "weight", "whose"] ["kind", "weight", "whose"] (defScope sWrongPart) := ⟨rfl, rfl, rfl, by decide +kernel, rfl, by decide +kernel, by decide +kernel⟩
theorem scCInit : FnScope ["self", "kind", "weight", "whose", "wrong"] ["self", "kind", "weight", "whose"] (defScope sCInit) := ⟨rfl, rfl, rfl, by decide +kernel, rfl, by decide +kernel, by decide +kernel⟩
theorem scIrInit : FnScope ["self", "word"] ["self", "word"] (defScope sIrInit) := ⟨rfl, rfl, rfl, by decide +kernel, rfl, by decide +kernel, by decide +kernel⟩
theorem ok_irInit {f C : Addr} {fd : FuncData} (F : Fun K "__init__" "InvalidRow.__init__" sIrInit f fd) (o : OexC K C) (no : PySem.W.findIn K (.ref C) "word" = some none) : FnOk P w K mg base CX0 1 f fd ["self", "word"] (spIM C) := by
  refine F.ok scIrInit (fun vs H Q E h => ?_) (fun cdv A outer s H vs Q E hr h => ?_)
  · obtain ⟨a, y, rfl, _⟩ := h
    rfl
  · obtain ⟨a, y, rfl, ha, q⟩ := h
    refine ⟨_, pss_one (ps_ost (pv 0) (pv 1)), ?_⟩
    exact ⟨_, rfl, _, rfl, a, C, rfl, o, no, .inl ⟨ha, fun dx h1 h2 => q dx h1 h2⟩⟩
theorem ok_wordD {f : Addr} {fd : FuncData} (F : Fun K "wrong_word" "wrong_word" sWrongWord f fd) (T : RowH K mg KA SA DA PA) : FnOk P w K mg base CX0 2 f fd ["kind", "state", "deed", "place"] (spWordD N) := by
  refine F.ok scWord (fun vs H Q E h => ?_) (fun cdv A outer s H vs Q E hr h => ?_)
  · obtain ⟨k, s, d, p, kd, sd, dd, pd, rfl, _⟩ := h
    rfl
  · obtain ⟨k, s, d, p, kd, sd, dd, pd, rfl, ak, as, ad, ap, q⟩ := h
    refine ⟨_, pss_cons (ps_if (pt_cmpR (op_ninA hr) (pv 0) (pe_glob (v := .ref KA) rfl T.kinds rfl) rfl) (pss_one (ps_ret pe_str)) pss_nil)
      (pss_cons (ps_if (pt_cmpR (op_ninA hr) (pv 1) (pe_glob (v := .ref SA) rfl T.states rfl) rfl) (pss_one (ps_ret pe_str)) pss_nil)
      (pss_cons (ps_if (PW.pt (pw_or (pt_cmpR (op_ninA hr) (pv 2) (pe_glob (v := .ref DA) rfl T.deeds rfl) rfl) (pw_or1 (PW.pt (pw_and (pt_cmpR op_eq (pv 2) pe_str (nomark _)) (pw_and1 (pt_cmpR (op_inA hr) (pv 0) (pe_tup (pa_cons pe_str (pa_cons pe_str pa_nil))) rfl))))))) (pss_one (ps_ret pe_str)) pss_nil)
      (pss_cons (ps_if (pt_cmpR (op_ninA hr) (pv 3) (pe_glob (v := .ref PA) rfl T.places rfl) rfl) (pss_one (ps_ret pe_str)) pss_nil)
      (pss_one (ps_ret pe_non))))), ?_⟩
    unfold wrongLt at q
    refine ⟨_, rfl, KA, kindL, N, kd, rfl, .inr (T.tK _), ak, _, rfl, ?_⟩
    cases e1 : amV (wordsV kindL) kd with
    | false =>
      rw [e1] at q
      exact iteT (q _ (Same.refl _))
    | true =>
      rw [e1, if_pos rfl] at q
      refine iteF ⟨_, rfl, SA, stateL, N, sd, rfl, .inr (T.tS _), as, _, rfl, ?_⟩
      cases e2 : amV (wordsV stateL) sd with
      | false =>
        rw [e2] at q
        exact iteT (q _ (Same.refl _))
      | true =>
        rw [e2, if_pos rfl] at q
        refine iteF ⟨_, rfl, DA, deedL, N, dd, rfl, .inr (T.tD _), ad, _, rfl, ?_⟩
        cases e3 : amV (wordsV deedL) dd with
        | false =>
          rw [e3, Bool.false_and] at q
          exact iteT (q _ (Same.refl _))
        | true =>
          rw [e3, Bool.true_and] at q
          obtain ⟨z, hz, ez⟩ : ∃ z ∈ deedL, fOf dd = some (.str z) := by
            unfold amV at e3
            cases e : fOf dd with
            | none =>
              rw [e] at e3
              cases e3
            | some x =>
              rw [e] at e3
              obtain ⟨z, hz, ex⟩ := List.mem_map.mp (of_decide_eq_true e3)
              exact ⟨z, hz, by rw [ex]⟩
          have ad2 := ad
          rw [of_f ez] at ad2
          have ed := ad2.flat
          subst ed
          have last : ∀ H', Same H H' → (if amV (wordsV placeL) pd = true then Q .non H' else Q (.str "place") H') → tSeq (tIfS (tTest (tOp (rInA K true) (tVar 3) (tC (.ref PA)))) (tRet (tC (.str "place"))) (fun D σ H => D.nx σ H)) (tRet (tC .non)) { nx := fun _ H' => Q .non H', rt := Q } [some k, some s, some (Fv.str z).v, some p] H' := by
            intro H' sm go
            refine ⟨_, rfl, PA, placeL, N, pd, rfl, .inr (T.tP _), Ad.mv (fun _ z => z) (fun a o _ e _ => sm a o e) pd p ap, _, rfl, ?_⟩
            cases e4 : amV (wordsV placeL) pd with
            | false =>
              rw [e4] at go
              exact iteT go
            | true =>
              rw [e4] at go
              exact iteF go
          refine iteF ⟨_, rfl, rfl, _, rfl, ?_⟩
          by_cases er : z = "right"
          · subst er
            rw [ez, decide_eq_true rfl, Bool.true_and] at q
            have c1 : decide ((Fv.str "right").v = V.str "right") = true := decide_eq_true rfl
            rw [c1]
            refine iteT ⟨_, rfl, (by show 2 ≤ sizeLine; decide), fun t nt => ⟨t, ["minus", "plus"], N, kd, rfl, .inr (SqT.of upd_same), Ad.mv (fun _ z => z) (fun a o _ e _ => Same.new nt a o e) kd k ak, _, rfl, ?_⟩⟩
            cases e5 : amV (wordsV ["minus", "plus"]) kd with
            | true =>
              rw [e5] at q
              exact iteT (q _ (Same.new nt))
            | false =>
              rw [e5] at q
              refine iteF (last _ (Same.new nt) ?_)
              have q2 := q _ (Same.new (o := .tup [.str "minus", .str "plus"]) nt)
              cases e6 : amV (wordsV placeL) pd with
              | true =>
                rw [e6] at q2
                exact q2
              | false =>
                rw [e6] at q2
                exact q2
          · have c1 : decide ((Fv.str z).v = V.str "right") = false := decide_eq_false (fun h => er (by injection h))
            rw [c1]
            have c2 : decide (fOf dd = some (Fv.str "right")) = false := decide_eq_false (fun h => er (by rw [ez] at h; injection h with h; injection h))
            rw [c2] at q
            refine iteF (last _ (Same.refl _) ?_)
            have q2 := q _ (Same.refl _)
            cases e6 : amV (wordsV placeL) pd with
            | true =>
              rw [e6] at q2
              exact q2
            | false =>
              rw [e6] at q2
              exact q2
theorem ok_partD {f : Addr} {fd : FuncData} (F : Fun K "wrong_part" "wrong_part" sWrongPart f fd) (R : RowH K mg KA SA DA PA) (T : RowC K mg WA OA) (cI : Cal P w K mg base CX0 "is_integer" 1 ["value"] spInt) : FnOk P w K mg base CX0 2 f fd ["kind", "weight", "whose"] (spPartD N) := by
  obtain ⟨fI, fdI, GI, mI, kI, bI⟩ := cI
  refine F.ok scPart (fun vs H Q E h => ?_) (fun cdv A outer s H vs Q E hr h => ?_)
  · obtain ⟨k, w, o, kd, wd, od, rfl, _⟩ := h
    rfl
  · obtain ⟨k, w, o, kd, wd, od, rfl, ak, aw, ao, sm, q⟩ := h
    refine ⟨_, pss_cons (ps_if (pt_cmpR (op_ninA hr) (pv 0) (pe_glob (v := .ref KA) rfl R.kinds rfl) rfl) (pss_one (ps_ret pe_str)) pss_nil)
      (pss_cons (ps_if (pt_not (PW.pt (pw_and (pt_val (pe_call GI hr rfl mI kI bI .nil pass0 (pa_cons (pv 1) pa_nil))) (pw_and1 (pt_cmpR op_in_seq (pv 1) (pe_glob (v := .ref WA) rfl T.weights rfl) rfl))))) (pss_one (ps_ret pe_str)) pss_nil)
      (pss_cons (ps_if (pt_cmpR (op_ninA hr) (pv 2) (pe_glob (v := .ref OA) rfl T.whose rfl) rfl) (pss_one (ps_ret pe_str)) pss_nil)
      (pss_one (ps_ret pe_non)))), ?_⟩
    unfold wrongCt at q
    refine ⟨_, rfl, KA, kindL, N, kd, rfl, .inr (R.tK _), ak, _, rfl, ?_⟩
    cases e1 : amV (wordsV kindL) kd with
    | false =>
      rw [e1] at q
      exact iteT (q _ (Same.refl _))
    | true =>
      rw [e1, if_pos rfl] at q
      refine iteF ⟨_, rfl, w, rfl, sm.av aw, _, rfl, ?_⟩
      have last : (if amV (wordsV whoseL) od = true then Q .non H else Q (.str "whose") H) → tSeq (tIfS (tTest (tOp (rInA K true) (tVar 2) (tC (.ref OA)))) (tRet (tC (.str "whose"))) (fun D σ H => D.nx σ H)) (tRet (tC .non)) { nx := fun _ H' => Q .non H', rt := Q } [some k, some w, some o] H := by
        intro go
        refine ⟨_, rfl, OA, whoseL, N, od, rfl, .inr (T.tO _), ao, _, rfl, ?_⟩
        cases e4 : amV (wordsV whoseL) od with
        | false =>
          rw [e4] at go
          exact iteT go
        | true =>
          rw [e4] at go
          exact iteF go
      cases e : fOf wd with
      | none =>
        have no : amV numsW wd = false := by
          unfold amV
          rw [e]
        rw [no] at q
        obtain ⟨p, xs, rfl, _, _⟩ := aw.deep e
        exact iteF (q _ (Same.refl _))
      | some x =>
        have aw2 := aw
        rw [of_f e] at aw2
        have ew := aw2.flat
        subst ew
        have am : amV numsW wd = decide (x ∈ numsW) := by
          unfold amV
          rw [e]
        rw [am] at q
        have off : x ∉ numsW → Q (.str "weight") H := fun n => by
          have z := q _ (Same.refl _)
          rw [decide_eq_false n] at z
          exact z
        cases x with
        | int i =>
          refine iteT ⟨_, rfl, WA, _, rfl, .inr (T.tW _), rfl, rfl, _, rfl, ?_⟩
          have iv : inV (.int i) [.int (-1), .int 0, .int 1] = decide (Fv.int i ∈ numsW) := by
            show ((-1 : Int) == i || ((0 : Int) == i || ((1 : Int) == i || false))) = _
            by_cases h1 : i = -1
            · subst h1
              rfl
            by_cases h2 : i = 0
            · subst h2
              rfl
            by_cases h3 : i = 1
            · subst h3
              rfl
            rw [decide_eq_false (fun m => by
              simp only [numsW, List.mem_cons, Fv.int.injEq, List.not_mem_nil, or_false] at m
              rcases m with m | m | m
              · exact h1 m
              · exact h2 m
              · exact h3 m), beq_eq_false_iff_ne.mpr (Ne.symm h1), beq_eq_false_iff_ne.mpr (Ne.symm h2), beq_eq_false_iff_ne.mpr (Ne.symm h3)]
            rfl
          have iv2 : (if false = true then !inV (Fv.int i).v [.int (-1), .int 0, .int 1] else inV (Fv.int i).v [.int (-1), .int 0, .int 1]) = decide (Fv.int i ∈ numsW) := iv
          rw [iv2]
          by_cases m : Fv.int i ∈ numsW
          · rw [decide_eq_true m]
            refine iteF (last ?_)
            have z := q _ (Same.refl _)
            rw [decide_eq_true m] at z
            cases e6 : amV (wordsV whoseL) od with
            | true =>
              rw [e6] at z
              exact z
            | false =>
              rw [e6] at z
              exact z
          · rw [decide_eq_false m]
            exact iteT (off m)
        | non => exact iteF (off (by decide))
        | bl b => exact iteF (off (by cases b <;> decide))
        | str y => exact iteF (off (by simp [numsW]))
theorem ok_letD {f CI : Addr} {c : Rc} {fd : FuncData} (F : Fun K "__init__" "Let.__init__" sLInit f fd) (L : LetC K c) (M : IrTxt P w K mg base CI) (cW : Cal P w K mg base CX0 "wrong_word" 2 ["kind", "state", "deed", "place"] (spWordD N)) : FnOk P w K mg base (L2.CX P w) 3 f fd ["self", "kind", "state", "deed", "place"] (spLetD N c CI) := by
  obtain ⟨fW, fdW, GW, mW, kW, bW⟩ := cW
  obtain ⟨fI, fdI, GI, iI, tI, bI⟩ := M.ini
  refine F.okX scLInit (fun vs H Q E h => ?_) (fun cdv A outer s H vs Q E hr h => ?_)
  · obtain ⟨x, dx, k, s, d, p, kd, sd, dd, pd, rfl, _⟩ := h
    rfl
  · obtain ⟨x, dx, k, s, d, p, kd, sd, dd, pd, rfl, hx, ak, as, ad, ap, q1, q2⟩ := h
    refine ⟨_, pss_cons (ps_set (i := 5) scLInit.nd rfl (Or.inl rfl) (pe_call GW hr rfl mW kW bW .nil pass0 (pa_cons (pv 1) (pa_cons (pv 2) (pa_cons (pv 3) (pa_cons (pv 4) pa_nil))))))
      (pss_cons (ps_if (pt_cmpR op_notN (pv 5) pe_non (nomark _)) (pss_one (ps_raise rfl (takes_of rfl rfl rfl rfl) (pmk_oex M.o iI tI GI (hr.mono (by decide)) bI .nil pass0 rfl M.g (by exact (pa_cons (pv 5) pa_nil))))) pss_nil)
      (pss_cons (ps_fld (pv 0) (pv 1) rfl)
      (pss_cons (ps_fld (pv 0) (pv 2) rfl)
      (pss_cons (ps_fld (pv 0) (pv 3) rfl)
      (pss_one (ps_fld (pv 0) (pv 4) rfl)))))), ?_⟩
    refine ⟨_, rfl, _, rfl, _, rfl, _, rfl, k, s, d, p, kd, sd, dd, pd, rfl, ak, as, ad, ap, fun H1 s1 => ?_⟩
    cases e : wrongLt kd sd dd pd with
    | some z => exact ⟨_, rfl, rfl, _, rfl, iteT ⟨_, rfl, (by show 1 ≤ 1000; decide), er_read ((q2 z e).up s1)⟩⟩
    | none =>
      refine ⟨_, rfl, rfl, _, rfl, iteF ?_⟩
      have hx1 := s1 _ _ hx
      refine ⟨_, rfl, _, rfl, x, c.L, dx, _, rfl, hx1, L.cl, L.k, (by show 0 < 1000; decide), ?_⟩
      refine ⟨_, rfl, _, rfl, x, c.L, dx, _, rfl, upd_same, L.cl, L.s, (by show 1 < 1000; decide), ?_⟩
      rw [upd_upd]
      refine ⟨_, rfl, _, rfl, x, c.L, dx, _, rfl, upd_same, L.cl, L.d, (lt_put (n := 999) (lt_put (n := 998) (by show 0 < 998; decide))), ?_⟩
      rw [upd_upd]
      refine ⟨_, rfl, _, rfl, x, c.L, dx, _, rfl, upd_same, L.cl, L.p, (lt_put (n := 999) (lt_put (n := 998) (lt_put (n := 997) (by show 0 < 997; decide)))), ?_⟩
      rw [upd_upd]
      exact q1 e _ (SameX.of s1).upd
theorem ok_cntD {f CI : Addr} {c : Rc} {fd : FuncData} (F : Fun K "__init__" "Count.__init__" sCInit f fd) (L : CntC K c) (M : IrTxt P w K mg base CI) (cW : Cal P w K mg base CX0 "wrong_part" 2 ["kind", "weight", "whose"] (spPartD N)) : FnOk P w K mg base (L2.CX P w) 3 f fd ["self", "kind", "weight", "whose"] (spCntD N c CI) := by
  obtain ⟨fW, fdW, GW, mW, kW, bW⟩ := cW
  obtain ⟨fI, fdI, GI, iI, tI, bI⟩ := M.ini
  refine F.okX scCInit (fun vs H Q E h => ?_) (fun cdv A outer s H vs Q E hr h => ?_)
  · obtain ⟨x, dx, k, w, o, kd, wd, od, rfl, _⟩ := h
    rfl
  · obtain ⟨x, dx, k, w, o, kd, wd, od, rfl, hx, ak, aw, ao, sm, q1, q2⟩ := h
    refine ⟨_, pss_cons (ps_set (i := 4) scCInit.nd rfl (Or.inl rfl) (pe_call GW hr rfl mW kW bW .nil pass0 (pa_cons (pv 1) (pa_cons (pv 2) (pa_cons (pv 3) pa_nil)))))
      (pss_cons (ps_if (pt_cmpR op_notN (pv 4) pe_non (nomark _)) (pss_one (ps_raise rfl (takes_of rfl rfl rfl rfl) (pmk_oex M.o iI tI GI (hr.mono (by decide)) bI .nil pass0 rfl M.g (by exact (pa_cons (pv 4) pa_nil))))) pss_nil)
      (pss_cons (ps_fld (pv 0) (pv 1) rfl)
      (pss_cons (ps_fld (pv 0) (pv 2) rfl)
      (pss_one (ps_fld (pv 0) (pv 3) rfl))))), ?_⟩
    refine ⟨_, rfl, _, rfl, _, rfl, k, w, o, kd, wd, od, rfl, ak, aw, ao, sm, fun H1 s1 => ?_⟩
    cases e : wrongCt kd wd od with
    | some z => exact ⟨_, rfl, rfl, _, rfl, iteT ⟨_, rfl, (by show 1 ≤ 1000; decide), er_read ((q2 z e).up s1)⟩⟩
    | none =>
      refine ⟨_, rfl, rfl, _, rfl, iteF ?_⟩
      have hx1 := s1 _ _ hx
      refine ⟨_, rfl, _, rfl, x, c.C, dx, _, rfl, hx1, L.cl, L.k, (by show 0 < 1000; decide), ?_⟩
      refine ⟨_, rfl, _, rfl, x, c.C, dx, _, rfl, upd_same, L.cl, L.w, (by show 1 < 1000; decide), ?_⟩
      rw [upd_upd]
      refine ⟨_, rfl, _, rfl, x, c.C, dx, _, rfl, upd_same, L.cl, L.o, (lt_put (n := 999) (lt_put (n := 998) (by show 0 < 998; decide))), ?_⟩
      rw [upd_upd]
      exact q1 e _ (SameX.of s1).upd
end
end V3

set_option Elab.async false
set_option linter.all false
set_option maxRecDepth 100000
namespace V3
open PySem PySem.Spec PyProof.Rows L2
/-! own exception classes over IndexError whose init is a def -/
abbrev ieTail : List Value := [.type "IndexError", .type "LookupError", .type "Exception", .type "BaseException", .type "object"]
/-- own classes, and then IndexError's line -/
def lineI : List Value → Bool
  | .ref _ :: r => lineI r
  | l => l == ieTail
theorem lineI_or (l : List Value) (e : lineI l = true) : (∃ c r, l = .ref c :: r ∧ lineI r = true) ∨ l = ieTail := by
  cases l with
  | nil => exact .inr (beq_iff_eq.mp e)
  | cons v r => cases v with
    | ref c => exact .inl ⟨c, r, rfl, e⟩
    | _ => exact .inr (beq_iff_eq.mp e)
theorem lineI_pass (me : Value) : ∀ l : List Value, lineI l = true → refuseLoop me "__setattr__" l = pure ()
  | [], e => absurd e (by decide)
  | v :: r, e => by
    rcases lineI_or (v :: r) e with ⟨c, r', q, h⟩ | q
    · obtain ⟨rfl, rfl⟩ := List.cons.inj q
      rw [refuseLoop_ref]
      exact lineI_pass me r h
    · rw [q]
      exact PySem.F.store_IndexError.passes me
theorem lineI_has (Y : String) : ∀ l : List Value, lineI l = true → l.contains (.type Y) = ieTail.contains (.type Y)
  | [], e => absurd e (by decide)
  | v :: r, e => by
    rcases lineI_or (v :: r) e with ⟨c, r', q, h⟩ | q
    · obtain ⟨rfl, rfl⟩ := List.cons.inj q
      rw [List.contains_cons, lineI_has Y r h]
      rfl
    · rw [q]
theorem lineI_ne {l : List Value} (e : lineI l = true) : l.isEmpty = false := by
  cases l with
  | nil => exact absurd e (by decide)
  | cons _ _ => rfl
section
open Builtin Builtin.ObjectAttr PySem.W PySem.Calls PySem.HandSPX
variable {prog : Program} {w : World} {A : Around} {E : Value → Shared → Prop} {R : Result → Shared → Prop} {hp : Heap} {g : Array GenState} {d : Drawn} {t : Nat} {os : OsState}
/-- a first field of an instance without a dict, by object's own way -/
theorem osaI {K : W.Frag} {n : Str} {tk : Tok} {v : Value} {x C : Addr} {fv : Array Value} {cd : ClassData} (Y : K.In hp) (gx : hp.get? x = some { cls := .ref C, data := .fields fv }) (gc : W.clsIn K C = some cd) (gm : lineI cd.mro = true) (gh : cd.hasDict = true) (ga : W.findIn K (.ref C) n = some none)
    (q : ∀ h' tk' dx, (∀ b o, b ≠ x → hp.get? b = some o → h'.get? b = some o) → hp.objs.size ≤ dx → dx ≠ x → h'.get? x = some { cls := .ref C, dict := some dx, data := .fields fv } → h'.Ns1 dx (fun y => if y = n then some v else none) → R (.ok (.ret .none)) ⟨h', g, d, tk', os⟩) :
    codeAny (model prog w) A (.call (.builtin "object.__setattr__") ⟨[.ref x, .str n tk, v], []⟩) R ⟨hp, g, d, t, os⟩ := by
  have J : W.InstAt hp x { cls := .ref C, data := .fields fv } C none := ⟨gx, rfl, rfl, trivial⟩
  have S := F.store_object
  have nem := lineI_ne gm
  have hasO : cd.mro.contains (.type "object") = true := (lineI_has "object" _ gm).trans (by decide +kernel)
  have xs : x ≠ hp.objs.size := Nat.ne_of_lt (Heap.lt_size gx)
  have sb : W.Looks (model prog w) hp (isInstance (.ref x) (.type "object")) true := J.type.andThen (W.looks_mroIn Y (by unfold W.mroIn; rw [gc, Option.bind_some, if_neg (by rw [nem]; decide), hasO]))
  refine codeAny_call_builtin S.slot.plain S.entry (@W.check_slot (model prog w) _ _ ⟨hp, g, d, t, os⟩ "object.__setattr__" "object" "__setattr__" (.ref x) [.str n tk, v] [] _ S.kind S.split sb (S.args (.ref x) (.str n tk) v) ?_)
  have lm : W.Looks (model prog w) hp (mroOf (.ref C)) cd.mro := (W.looks_clsIn Y gc).andThen .now
  have l3 : W.Looks (model prog w) hp (storeTaker? none) none := .now
  have lc : W.Looks (model prog w) hp (classData C) cd := W.looks_clsIn Y gc
  rw [W.osa_eq, refuse_eq]
  refine wpAny_bind (wpAny_bind (J.type.at (wpAny_bind (lm.at ?_))))
  rw [lineI_pass _ _ gm]
  refine wpAny_pure (wpAny_bind (J.type.at (wpAny_bind ((W.looks_findIn Y ga).at (wpAny_bind (l3.at ?_))))))
  show wpAny _ _ (storeInOwnDict (.ref x) (.ref C) (.str n tk) n v false) _ _ _
  obtain ⟨nm, bs, mro, ns, qn, hd, sn, sb', ab, col, del⟩ := cd
  dsimp only at gh
  subst gh
  unfold storeInOwnDict ownDictForStores
  repeat (first | with_reducible refine store_in_new ?_ ?_ | with_reducible refine wpAny_loadPart_at gx ?_ | with_reducible refine lc.at ?_ | wp_step)
  · exact ⟨_, #[], _, (Heap.get?_update_ne _ _ _ _ xs.symm).trans (Heap.get?_push_at rfl rfl), rfl, fun e he => absurd he (by simp), fun _ => rfl⟩
  · intro h' tk' hn' hs
    have gx1 : (hp.push { cls := .type "dict", data := .dict #[] }).get? x = some { cls := .ref C, data := .fields fv } := Heap.get?_push_of_some _ gx
    refine q h' tk' hp.objs.size (fun b o hb ho => ?_) (Nat.le_refl _) xs.symm ?_ hn'
    · exact (hs.2 b (Nat.ne_of_lt (Heap.lt_size ho))).trans ((Heap.get?_update_ne _ _ _ _ hb).trans (Heap.get?_push_of_some _ ho))
    · exact (hs.2 x xs).trans (Heap.get?_update_self _ gx1 rfl)
end
/-- what the written part says of such a class -/
structure OexI (K : PySem.W.Frag) (C : Addr) : Prop where
  cls : ∃ nm q N bs bm sn sub ab col dd k0 k1 k2 k3 k5, K.lookup C = some (excClassObj nm q C N bs bm true sn sub ab col dd k0 k1 k2 k3 k5 "IndexError.__new__") ∧ lineI bm = true
  sa : PySem.W.findIn K (.ref C) "__setattr__" = some (some (.builtin "object.__setattr__"))
  exC : PySem.W.subIn K (.ref C) (.type "BaseException") = some true
  tyC : PySem.W.typeIn K (.ref C) = some (.type "type")
  kC : PySem.W.keepIn K (.ref C) = true
section
variable {X : Cx} {pins : List (Addr × Obj)} {σ : L2.St} {H : Hp} {s : Shared} {a C dx : Addr} {f : Str} {y : V} {u : Value} {fs : List (Str × V)} {Q : Unit → Shared → Prop} {E : Value → Shared → Prop} {A : Around}
theorem ostI_new (T : OexI X.K C) (I : Inv X pins σ H s) (e : H a = some (exo a C none)) (no : PySem.W.findIn X.K (.ref C) f = some none) (ry : RelV y u)
    (k : ∀ dx s', H dx = none → dx ≠ a → Inv X pins σ (upd (upd H dx (exd dx [(f, y)])) a (exo a C (some dx))) s' → Q () s') : wpAny (model X.prog X.w) A (setAttr (.ref a) f u) Q E s := by
  obtain ⟨nm, q, N, bs, bm, sn, sub, ab, col, dd, k0, k1, k2, k3, k5, gC, gm⟩ := T.cls
  have gl : PySem.W.clsIn X.K C = some { name := nm, bases := bs, mro := .ref C :: bm, ns := N, qualname := q, hasDict := true, slotNames := sn, subclasses := sub, abstract := ab, collection := col, hasDel := false } := by
    unfold PySem.W.clsIn
    rw [gC] <;> rfl
  obtain ⟨t1, ho⟩ := exo_at I.hok e
  obtain ⟨hp, g, d, t, os⟩ := s
  refine PySem.W.set_plain I.kIn (ox := { cls := .ref C, dict := none, data := .fields #[.ref t1, .none, .none, .none, .bool false, .none] }) (od := none) ⟨ho, rfl, rfl, trivial⟩ T.sa ?_
  refine osaI I.kIn ho gl (show lineI (.ref C :: bm) = true from gm) rfl no (fun h' tk' dx kk dn dne hx hn => ?_)
  have fd : H dx = none := I.hok.fresh dn
  have nd : ∀ {b : Addr} {o : Obj}, hp.get? b = some o → b ≠ dx := fun {b o} z => Nat.ne_of_lt (Nat.lt_of_lt_of_le (Heap.lt_size z) dn)
  have na : ∀ {b : Addr}, H b = none → b ≠ a := fun {b} n z => by
    rw [z, e] at n
    cases n
  have U : Un X.fs [] H (upd (upd H dx (exd dx [(f, y)])) a (exo a C (some dx))) hp h' := {
    keep := fun b o z n _ _ => kk b o (na n) z
    slot := fun b o z n _ _ => ⟨o.slots, kk b o (na n) z⟩
    free := fun b o z n _ => by rw [upd_ne (na n), upd_ne (nd z)] <;> exact n
    there := fun b o z _ => by
      by_cases eb : b = a
      · exact ⟨_, by rw [eb] <;> exact hx⟩
      · exact ⟨o, kk b o eb z⟩
    tups := fun b xs z => by rw [upd_ne (at_ne e z exo_tup), upd_ne (ne_of_none z fd)] <;> exact z
    frzs := fun b o v z => by rw [upd_ne (at_ne e z exo_frz), upd_ne (ne_of_none z fd)] <;> exact z
    tbls := fun b ps z => ⟨#[], by rw [upd_ne (at_ne e z exo_tbl), upd_ne (ne_of_none z fd), z] <;> simp⟩ }
  refine k dx _ fd dne (I.un (t' := tk') U fun b o z => ?_)
  by_cases eb : b = a
  · subst eb
    rw [upd_same] at z
    cases z
    exact exo_ok hx
  · rw [upd_ne eb] at z
    by_cases ed : b = dx
    · subst ed
      rw [upd_same] at z
      cases z
      exact exd_ok hn (relO_put (f := f) (fs := []) ry fun _ => True.intro)
    · rw [upd_ne ed] at z
      refine (I.hok b o z).stay (fun c v hc y2 => ?_) (fun c hc => by rw [upd_ne (at_ne e hc exo_own), upd_ne (ne_of_none hc fd)] <;> exact hc) (fun c xs hc => by rw [upd_ne (at_ne e hc exo_tup), upd_ne (ne_of_none hc fd)] <;> exact hc)
      refine kk c v ?_ y2
      rcases hc with hc | hc
      · rw [hc]
        exact eb
      · exact at_ne e hc exo_own
end
/-- self.f = y, the first field of an instance that is being made -/
def tOstI (K : PySem.W.Frag) (f : Str) (to te : TE) : TS := fun D σ H => te σ H fun y H1 => to σ H1 fun x H2 => ∃ a C : Addr, x = .ref a ∧ OexI K C ∧ PySem.W.findIn K (.ref C) f = some none ∧
  H2 a = some (exo a C none) ∧ ∀ dx, H2 dx = none → dx ≠ a → D.nx σ (upd (upd H2 dx (exd dx [(f, y)])) a (exo a C (some dx)))
section
variable {X : Cx} {o e : Expr} {es : List Expr} {to te : TE} {ta : TA} {f : Str} {p p' pos : Pos}
theorem ps_ostI (ho : PE X o to) (he : PE X e te) (hs : swapsWith e (some (.Attribute o f p')) pos.line X.env = pure false := by rfl) : PS X (.Assign [.Attribute o f p'] e pos) (tOstI X.K f to te) := by
  refine ⟨fun pins s σ H D I h => ?_⟩
  refine plainObj_wpAny_Assign_Attribute (thn (he.run pins s σ H _ I h) fun v s1 ⟨y, H1, I1, r1, q1⟩ => thn (ho.run pins s1 σ H1 _ I1 q1) fun u s2 ⟨x, H2, I2, r2, a, C, ex, T, no, ea, q⟩ => ?_) hs
  subst ex
  obtain rfl : u = Value.ref a := r2
  exact ostI_new T I2 ea no r1 fun dx s' n ne J => ⟨σ, _, J, q dx n ne⟩
/-- C(e, ..) by its own init, C's line ending in IndexError's -/
theorem pmk_oexI {CX : CXT} {x : Str} {C fI : Addr} {k : Nat} {fd : FuncData} {ps : List Str} {sp : Sp} (T : OexI X.K C) (iC : PySem.W.findIn X.K (.ref C) "__init__" = some (some (.ref fI))) (tI : PySem.W.typeIn X.K (.ref fI) = some (.type "function"))
    (F1 : FnOk X.prog X.w X.K X.mg X.base CX k fI fd ps sp) (room : Room (k + 1) X.A) (bi : Binds X.K fd ps []) (ps' : Passes CX X (fun _ _ _ => False)) (hg : Gl X x) (hm : X.mg x = some (.ref C)) (ha : PA X (e :: es) ta)
    (nd : (x == ("__debug__" : Str)) = false := by decide) (st : starEach (e :: es) X.env = (false, eval e X.env) :: starEach es X.env := by rfl) (pl : (backTo pos (starEach es X.env)).any (·.1) = false := by rfl) :
    PMk X (.Call (.Name x p) (e :: es) [] pos) (tMkO C sp [] ta) := by
  intro pins s σ H Q I h
  obtain ⟨nm, q, N, bs, bm, sn, sub, ab, col, dd, k0, k1, k2, k3, k5, gC, gm⟩ := T.cls
  refine wpAny_Call_Name_kw (ld_glob I hg hm ?_ nd)
  refine PySem.W.callWith_K (h₀ := X.base) I.ok.mod.kin T.kC (thn (ha.run pos pins s σ H _ I h) fun us s1 ⟨vs, H1, I1, r1, hz, q1⟩ => ⟨I1.kIn, ?_⟩) st pl
  show wpAny _ _ (call (.ref C) us) _ _ _
  obtain ⟨hp, g, dr, tk, os⟩ := s1
  have sz : hp.objs.size ≤ hp.objs.size + 1 := Nat.le_succ _
  have fr : H1 (hp.objs.size + 1) = none := I1.hok.fresh sz
  have sp1 := q1 (hp.objs.size + 1) fr
  have keep2 : ∀ b o, hp.get? b = some o → ((hp.push (PySem.W.kdv_tup us)).push (PySem.HandSPX.excO C hp.objs.size)).get? b = some o := fun b o z => Heap.get?_push_of_some _ (Heap.get?_push_of_some _ z)
  have at2 : ((hp.push (PySem.W.kdv_tup us)).push (PySem.HandSPX.excO C hp.objs.size)).get? (hp.objs.size + 1) = some (PySem.HandSPX.excO C hp.objs.size) := by heap_get
  have J : Inv X pins σ (upd H1 (hp.objs.size + 1) (exo (hp.objs.size + 1) C none)) ⟨(hp.push (PySem.W.kdv_tup us)).push (PySem.HandSPX.excO C hp.objs.size), g, dr, tk, os⟩ :=
    I1.laid (t' := tk) (a := hp.objs.size + 1) (o := exo (hp.objs.size + 1) C none) (h' := (hp.push (PySem.W.kdv_tup us)).push (PySem.HandSPX.excO C hp.objs.size)) keep2 sz (exo_ok at2)
  rw [List.append_nil] at sp1
  have r2 : Vals (V.ref (hp.objs.size + 1) :: vs) (Value.ref (hp.objs.size + 1) :: us) := .cons rfl r1
  have len2 : (Value.ref (hp.objs.size + 1) :: us ++ []).length = ps.length := by
    have z := r2.length
    rw [F1.len _ _ _ _ sp1] at z
    rw [List.append_nil]
    exact z.symm
  have few : us.length ≤ sizeLine := by
    rw [← Paired.length r1, sizeLine_eq] <;> omega
  have b2 := bi _ (Value.ref (hp.objs.size + 1) :: us) J.kIn len2
  rw [List.append_nil] at b2
  refine wpAny_call (PySem.HandSPX.call_own PySem.F.excBase_IndexError (fun Y => lineI_has Y bm gm) (I1.kIn _ _ gC) (PySem.W.looks_findIn I1.kIn iC) (fun self => PySem.W.bind_fn I1.kIn self tI) few
    (codeAny_mono (F1.run _ X.stack _ _ ⟨Value.ref (hp.objs.size + 1) :: us, []⟩ (Value.ref (hp.objs.size + 1) :: us) _ _ (fun _ _ _ => False) (room.make C us []) (J.env0.make C us []) b2 r2 sp1) fun r s' z => ?_))
  cases r with
  | error er => exact ps' pins σ _ _ er s' J z
  | ok fl =>
    cases fl with
    | ret u =>
      obtain ⟨v, H2, os2, bare2, un2, ok2, rv, ev, d, fs, ea, ed, nd1, q2⟩ := z
      subst ev
      obtain ⟨h2, g2, d2, t2, os'⟩ := s'
      exact ⟨rv, mk_end (raises_own T.exC T.tyC) I1 sz keep2 un2 ok2 os2 bare2 ea ed nd1 q2⟩
    | next => exact z.elim
    | brk => exact z.elim
    | cont => exact z.elim
end
end V3

set_option Elab.async false
set_option linter.all false
set_option maxRecDepth 100000
/-! _law_word: what it makes of what it is handed -/
namespace V3
open PySem PySem.Spec PyProof.Rows L2 TL LamX
abbrev sWordL : Stmt := top 23
structure WoT (K : PySem.W.Frag) (mg : Str → Option Value) (CI CB CH : Addr) : Prop where
  x : XClass K CI
  f : XfC K CI
  no : PySem.W.findIn K (.ref CI) "word" = some none
  te : PySem.W.exmOne K (.ref CI) (.ref CI) = some true
  gI : mg "InvalidRow" = some (.ref CI)
  gB : mg "BookError" = some (.ref CB)
  gH : mg "InvalidHouse" = some (.ref CH)
  isi : mg "isinstance" = none
  iB : PySem.W.kitOne K (.ref CI) (.ref CB) = some true
  iH : PySem.W.kitOne K (.ref CI) (.ref CH) = some false
/-- what is raised in what is handed over -/
def EWd (CI : Addr) (Q : VK) : XK := fun cls d H => cls = .ref CI ∧ ∃ (dx : Addr) (z : Str), d = some dx ∧ H dx = some (.xd [("word", .str z)]) ∧ Q (.str z) H
def TTw (CI : Addr) : (XK → Hp → VK → Prop) → Hp → VK → Prop := fun tl H Q => tl (EWd CI Q) H fun _ H' => Q .non H'
def tryBw (s : Stmt) : List Stmt := match s with
  | .Try b _ _ _ _ => b
  | _ => []
def trySw (s : Stmt) : List Stmt := match s with
  | .Try _ (.ExceptHandler _ _ b _ :: _) _ _ _ => b
  | _ => []
abbrev sTryW : Stmt := (defBody sWordL).getD 1 (.Pass ⟨0, 0, 0, 0⟩)
abbrev NWl : List Str := ["_law_make", "_law_found", "e"]
def tSw (K : PySem.W.Frag) (CI CB CH : Addr) : Addr → Value → Option Addr → TS := fun a cls d =>
  tAsg (tIf (tAnd (tB (tCB (rIsX K CI a cls d) (tCons (tVar 2) (tCons (tC (.ref CB)) tNil)))) (tNot (tB (tCB (rIsX K CI a cls d) (tCons (tVar 2) (tCons (tC (.ref CH)) tNil)))))) (tXf a cls d CI "word" (tVar 2)) (tC (.str "other"))) (gName 1)
/-- an expression's reading, weaker -/
theorem pe_weak {X : Cx} {e : Expr} {t : TE} (h : PE X e t) : PE X e (fun σ H Q => ∃ Q' : VK, (∀ v H2, Q' v H2 → Q v H2) ∧ t σ H Q') := ⟨fun pins s σ H Q I ⟨Q', m, q⟩ =>
  wpAny_mono (h.run pins s σ H Q' I q) (fun u s1 ⟨v, H1, I1, r1, q1⟩ => ⟨v, H1, I1, r1, m _ _ q1⟩) fun _ _ e => e⟩
theorem takes_len {X : Cx} {W : WX} (tk : Takes X W) : Takes X (fun cls d σ H => σ.length = X.N.length → W cls d σ H) := fun u s' ⟨a, B, sI, pins, σ, H, cls, d, e, I, nb, up, sky, na, os, ag, w⟩ =>
  tk u s' ⟨a, B, sI, pins, σ, H, cls, d, e, I, nb, up, sky, na, os, ag, w I.len⟩
section
variable {K : PySem.W.Frag} {mg : Str → Option Value} {CI CB CH : Addr}
theorem scWordL : FnScope NWl ["_law_make"] (defScope sWordL) := ⟨rfl, rfl, rfl, by decide +kernel, rfl, by decide +kernel, by decide +kernel⟩
theorem gives_word {X : Cx} {g : Addr} {cdg : Value} {q : Str} (T : WoT X.K X.mg CI CB CH) : GivesTo X NWl "_law_word" (defScope sWordL) g cdg (defBody sWordL) "_law_make" q (TTw CI) := by
  intro f c' s H Q tl act hc h
  let Y : Cx := (cxOf CX0 X.prog X.w X.K X.mg X.base NWl "_law_word" (defScope sWordL) g cdg X.A X.stack s H E0).nox
  let tb : WX → TS := fun W D σ H => ∃ (E : XK) (Q' : VK), (∀ cls d σ' H', E cls d H' → σ'.length = 3 → W cls d σ' H') ∧ (∀ v H2, Q' v H2 → D.nx σ H2) ∧ σ[0]? = some (some (.ref f)) ∧ H c' = some (CodeO c' q) ∧ tl E H Q'
  have body1 : ∀ (W : WX) (pn : List (Addr × Obj)) (xe : Value → Shared → Prop), Takes (Y.tr pn xe) W → PSs (Y.tr pn xe) (tryBw sTryW) (tb W) := by
    intro W pn xe tk
    refine ⟨fun pins s' σ H' D I h' => ?_⟩
    obtain ⟨E, Q', hW, hQ, h1, h2, h3⟩ := h'
    have hq : PSs (Y.tr pn xe) (tryBw sTryW) _ := pss_one (ps_expr (pe_weak (act (fun cls d σ H => σ.length = 3 → W cls d σ H) pn xe E _ _ (takes_len tk) hW)))
    exact hq.run pins s' σ H' D I ⟨Q', hQ, h1, h2, h3⟩
  have suite1 : ∀ (ax : Addr) (oe : Obj) (cls : Value) (d : Option Addr) (pn : List (Addr × Obj)), Zc cls d oe → (∃ vs, oe.data = .fields vs) → PSs (Y.suite ax ((ax, oe) :: pn)) (trySw sTryW) (tSw X.K CI CB CH ax cls d) := by
    intro ax oe cls d pn hz hfl
    exact pss_one (ps_set (i := 1) scWordL.nd rfl (Or.inl rfl) (by exact (pe_ifExp (PW.pt (pw_and (pt_val (pe_callB (call_isX T.x hz hfl) (by rfl) T.isi (by decide +kernel) (by exact (pa_cons (pv 2) (pa_cons (pe_glob rfl T.gB rfl) pa_nil))))) (pw_and1 (pt_not (pt_val (pe_callB (call_isX T.x hz hfl) (by rfl) T.isi (by decide +kernel) (by exact (pa_cons (pv 2) (pa_cons (pe_glob rfl T.gH rfl) pa_nil))))))))) (pe_xf T.f T.no hz hfl (pv 2)) pe_str)))
  have try1 : PS Y sTryW (fun D σ H => tb (wAs X.K (.ref CI) 2 (tSw X.K CI CB CH) (fun _ _ _ _ => False) D) D σ H) :=
    ps_try_as (i := 2) (tb := tb) (ts := tSw X.K CI CB CH) (Wout := fun _ _ _ _ => False) rfl rfl scWordL.nd rfl rfl ⟨rfl, by decide, Or.inl T.gI⟩ L2.takes0
      (fun W pn xe tk _ => body1 W pn xe tk) (fun ax oe cls d pn hz hfl => suite1 ax oe cls d pn hz hfl)
  refine ⟨tSeq (tAsg (tC .non) (gName 1)) (tSeq (fun D σ H => tb (wAs X.K (.ref CI) 2 (tSw X.K CI CB CH) (fun _ _ _ _ => False) D) D σ H) (tRet (tVar 1))), pss_cons (ps_set (i := 1) scWordL.nd rfl (Or.inl rfl) pe_non) (pss_cons try1 (pss_one (ps_ret (pv 1)))), ?_⟩
  refine ⟨EWd CI Q, fun _ H' => Q .non H', fun cls d σ' H' he hl => ?_, fun v H2 q2 => ⟨_, rfl, q2⟩, rfl, hc, h⟩
  obtain ⟨rfl, dx, z, rfl, hd, qz⟩ := he
  match σ', hl with
  | [o0, o1, o2], _ =>
    refine ⟨true, T.te, fun _ ax nax => ?_, fun q => Bool.noConfusion q⟩
    refine ⟨_, rfl, dx, _, _, _, _, rfl, rfl, hd, rfl, .own CB, T.iB, _, rfl, iteT ⟨_, rfl, dx, _, _, _, _, rfl, rfl, hd, rfl, .own CH, T.iH, _, rfl, ?_⟩⟩
    refine iteT ⟨_, rfl, rfl, rfl, dx, _, _, rfl, hd, rfl, _, rfl, qz⟩
end
end V3

set_option Elab.async false
set_option linter.all false
set_option maxRecDepth 100000
namespace V3
open PySem L2 TL
/-! a move, its words, its text -/
inductive Mv where
  | beg (a : Int) | take (t : Int) | takeBy (t a : Int) | right (t a : Int) | shut
  deriving DecidableEq
def Idx (t : Int) : Prop := 0 ≤ t ∧ t ≤ 10000000000000000000000000000000000000000
def Amt (a : Int) : Prop := 1 ≤ a ∧ a ≤ 10000000000000000000000000000000000000000
def Mv.ok : Mv → Prop
  | .beg a => Amt a
  | .take t => Idx t
  | .takeBy t a => Idx t ∧ Amt a
  | .right t a => Idx t ∧ Amt a
  | .shut => True
def Mv.evens : Mv → List Str
  | .beg _ => ["begin"]
  | .take _ => ["take"]
  | .takeBy _ _ => ["take", "by"]
  | .right _ _ => ["right", "to"]
  | .shut => ["shut"]
def Mv.nums : Mv → List Int
  | .beg a => [a]
  | .take t => [t]
  | .takeBy t a => [t, a]
  | .right t a => [t, a]
  | .shut => []
def Mv.words : Mv → List Str
  | .beg a => ["begin", num a]
  | .take t => ["take", num t]
  | .takeBy t a => ["take", num t, "by", num a]
  | .right t a => ["right", num t, "to", num a]
  | .shut => ["shut"]
def Mv.text (m : Mv) : Str := Str.join sp1 m.words
theorem nums_ok {m : Mv} (h : m.ok) : ∀ n ∈ m.nums, Idx n := by
  intro n hn
  cases m with
  | shut => cases hn
  | _ =>
    simp only [Mv.nums, List.mem_cons, List.not_mem_nil, or_false] at hn
    simp only [Mv.ok, Amt, Idx] at h
    unfold Idx
    first
      | (subst hn; omega)
      | (rcases hn with rfl | rfl <;> omega)
theorem at_am {t : Int} (h : Idx t) : Am t := by
  unfold Idx at h
  unfold Am
  omega
/-- no blank in a word, no semicolon either -/
theorem words_free {m : Mv} (h : m.ok) : ∀ p ∈ m.words, 32 ∉ tl p ∧ 59 ∉ tl p := by
  have k : ∀ z : Int, 0 ≤ z → 32 ∉ tl (num z) ∧ 59 ∉ tl (num z) := fun z hz => ⟨num_free hz (by decide), num_free hz (by decide)⟩
  have e1 : 32 ∉ tl "begin" ∧ 59 ∉ tl "begin" := by decide +kernel
  have e2 : 32 ∉ tl "take" ∧ 59 ∉ tl "take" := by decide +kernel
  have e3 : 32 ∉ tl "by" ∧ 59 ∉ tl "by" := by decide +kernel
  have e4 : 32 ∉ tl "right" ∧ 59 ∉ tl "right" := by decide +kernel
  have e5 : 32 ∉ tl "to" ∧ 59 ∉ tl "to" := by decide +kernel
  have e6 : 32 ∉ tl "shut" ∧ 59 ∉ tl "shut" := by decide +kernel
  intro p hp
  cases m with
  | beg a =>
    have h' : Amt a := h
    unfold Amt at h'
    simp only [Mv.words, List.mem_cons, List.not_mem_nil, or_false] at hp
    rcases hp with rfl | rfl
    · exact e1
    · exact k a (by omega)
  | take t =>
    have h' : Idx t := h
    unfold Idx at h'
    simp only [Mv.words, List.mem_cons, List.not_mem_nil, or_false] at hp
    rcases hp with rfl | rfl
    · exact e2
    · exact k t (by omega)
  | takeBy t a =>
    have h' : Idx t ∧ Amt a := h
    unfold Idx Amt at h'
    simp only [Mv.words, List.mem_cons, List.not_mem_nil, or_false] at hp
    rcases hp with rfl | rfl | rfl | rfl
    · exact e2
    · exact k t (by omega)
    · exact e3
    · exact k a (by omega)
  | right t a =>
    have h' : Idx t ∧ Amt a := h
    unfold Idx Amt at h'
    simp only [Mv.words, List.mem_cons, List.not_mem_nil, or_false] at hp
    rcases hp with rfl | rfl | rfl | rfl
    · exact e4
    · exact k t (by omega)
    · exact e5
    · exact k a (by omega)
  | shut =>
    simp only [Mv.words, List.mem_cons, List.not_mem_nil, or_false] at hp
    subst hp
    exact e6
theorem words_ne (m : Mv) : m.words ≠ [] := by cases m <;> exact (fun z => nomatch z)
theorem split_text {m : Mv} (h : m.ok) : Txt.split m.text sp1 = m.words := by
  unfold Mv.text
  have z := split_join sp_tl (by decide +kernel) (words_ne m) fun p hp => (words_free h p hp).1
  rw [join_eq] at z
  exact z
/-- the texts that the program writes are these -/
theorem b_text (a : Int) : bText a = (Mv.beg a).text := ext_tl (by
  unfold bText Mv.text
  rw [tl_join]
  simp only [tl_append, Mv.words, List.map, joinL, sp_tl]
  have e : tl ("begin " : Str) = tl ("begin" : Str) ++ [32] := by decide +kernel
  rw [e]
  simp [Str.empty, tl])
end V3

set_option Elab.async false
set_option linter.all false
set_option maxRecDepth 100000
namespace V3
open PySem L2 TL
-- no sReadNumber
theorem digit_yes : ∀ c : Nat, c < 58 → 48 ≤ c → Unicode.isDigit c = true := by decide +kernel
theorem all_list (x : Str) (p : Nat → Bool) : x.cps.all p = (tl x).all p := by
  unfold tl
  rw [Array.all_toList]
theorem num_digit {t : Int} (h : 0 ≤ t) : Txt.isdigit (num t) = true := by
  unfold Txt.isdigit
  rw [all_list, tl_num' h]
  have l : (num t).length > 0 := by
    rw [len_tl, tl_num' h]
    exact List.length_pos_iff.mpr (numL_ne _)
  rw [decide_eq_true l, Bool.true_and]
  exact List.all_eq_true.mpr fun c hc => by
    obtain ⟨a, b⟩ := numL_digits _ c hc
    exact digit_yes c (by omega) a
theorem num_ascii {t : Int} (h : 0 ≤ t) : Txt.isascii (num t) = true := by
  unfold Txt.isascii
  rw [all_list, tl_num' h]
  exact List.all_eq_true.mpr fun c hc => by
    obtain ⟨a, b⟩ := numL_digits _ c hc
    exact decide_eq_true (by omega)
/-- the first digit of a number that is not 0 is not 0 -/
theorem head_digit : ∀ n : Nat, 0 < n → (numL n).take 1 ≠ [48] := by
  intro n
  induction n using Nat.strongRecOn with
  | _ n ih =>
    intro hn
    by_cases h : n < 10
    · rw [numL_lt h]
      intro z
      simp at z
      omega
    · rw [numL_step (by omega)]
      have k := ih (n / 10) (by omega) (by omega)
      have e : (numL (n / 10) ++ [48 + n % 10]).take 1 = (numL (n / 10)).take 1 := by
        cases q : numL (n / 10) with
        | nil => exact absurd q (numL_ne _)
        | cons a l => rfl
      rw [e]
      exact k
theorem num_starts {t : Int} (h : 0 ≤ t) (e : Txt.startswith (num t) "0" = true) : num t = "0" := by
  have z : tl ("0" : Str) = [48] := by decide +kernel
  have hA : PySem.StrLaws.At (num t) "0" (num t).length 0 := by
    unfold Txt.startswith at e
    obtain ⟨e1, e2⟩ := Bool.and_eq_true_iff.mp e
    exact ⟨of_decide_eq_true e1, e2⟩
  have p := (at_iff (by rw [z]; exact (fun q => nomatch q)) 0).mp hA
  rw [z, tl_num' h] at p
  have q : (numL t.toNat).take 1 = [48] := by
    have q2 : ((numL t.toNat).drop 0).take 1 == [48] := p
    simpa using q2
  by_cases n : 0 < t.toNat
  · exact absurd q (head_digit _ n)
  · refine ext_tl ?_
    rw [tl_num' h, z]
    have e0 : t.toNat = 0 := by omega
    rw [e0]
    exact numL_lt (by decide)
def spRN : Sp := fun vs H Q _ => ∃ t : Int, vs = [.str (num t)] ∧ V3.Idx t ∧ Q (.int t) H
section
variable {P : Program} {w : World} {K : PySem.W.Frag} {mg : Str → Option Value} {base : Heap}
end
end V3

set_option Elab.async false
set_option linter.all false
set_option maxRecDepth 100000
namespace V3
open PySem L2 TL
-- no sMoveOf
-- no sReadMove
-- no sReadMoves
-- no sHRead
/-- where the classes stand -/
structure Cl where
  B : Addr
  T : Addr
  R : Addr
  S : Addr
  Hi : Addr
def Mv.obj (c : Cl) (dx : Addr) : Mv → HO
  | .beg a => .ins c.B dx [("amount", .int a)]
  | .take t => .ins c.T dx (two (.int t) .non)
  | .takeBy t a => .ins c.T dx (two (.int t) (.int a))
  | .right t a => .ins c.R dx (two (.int t) (.int a))
  | .shut => .ins c.S dx []
def MvAt (c : Cl) (H : Hp) (v : V) (m : Mv) : Prop := ∃ x dx, v = .ref x ∧ H x = some (m.obj c dx)
theorem MvAt.same {c : Cl} {H H' : Hp} {v : V} {m : Mv} (h : MvAt c H v m) (s : Same H H') : MvAt c H' v m := by
  obtain ⟨x, dx, e, hx⟩ := h
  exact ⟨x, dx, e, s _ _ hx⟩
theorem num_yes {i n : Int} (h : n ≤ i) : isNum (.int i) n = true := decide_eq_true h
structure MkTxt (P : Program) (w : World) (K : PySem.W.Frag) (mg : Str → Option Value) (base : Heap) (name : Str) (ps : List Str) (C : Addr) (spI : Sp) (dv : List V) : Prop where
  g : mg name = some (.ref C)
  ini : ∃ (f : Addr) (fd : FuncData), FnOk P w K mg base (L2.CX P w) 4 f fd ps spI ∧ Mk K C f ∧ Binds K fd ps [] ∧ ∃ ds, Vals dv ds ∧ Binds K fd ps ds
/-- the program's moves, how they are made -/
structure MvTxt (P : Program) (w : World) (K : PySem.W.Frag) (mg : Str → Option Value) (base : Heap) (c : Cl) (CM : Addr) : Prop where
  B : MkTxt P w K mg base "Begin" ["self", "amount"] c.B (spBegin c.B CM) []
  T : MkTxt P w K mg base "Take" ["self", "at", "amount"] c.T (spTake c.T CM) [.non]
  R : MkTxt P w K mg base "Right" ["self", "at", "amount"] c.R (spRight c.R CM) []
  S : Mk0 K c.S
  gS : mg "Shut" = some (.ref c.S)
def spMO (c : Cl) : Sp := fun vs H Q _ => ∃ (w n : Addr) (m : Mv), vs = [.ref w, .ref n] ∧ H w = some (.lst (m.evens.map V.str)) ∧ H n = some (.lst (m.nums.map V.int)) ∧ m.ok ∧
  ∀ (x dx : Addr) (H' : Hp), Same H H' → H' x = some (m.obj c dx) → Q (.ref x) H'
section
variable {P : Program} {w : World} {K : PySem.W.Frag} {mg : Str → Option Value} {base : Heap}
/-- form == (..): a new tuple, the answer by the data -/
theorem form_eq {D : Ends} {σ : L2.St} {H : Hp} {q : Addr} {fs ls : List V} {ds es : List PyData} {t : TA} {b : Bool} {A B : TS}
    (hσ : σ[2]? = some (some (.ref q))) (hq : H q = some (.tup fs)) (hf : ∀ H', DpAll K H' fs ds) (ht : ∀ Q', Q' ls H → t σ H Q') (hl : ∀ H', DpAll K H' ls es) (hz : ls.length ≤ sizeLine)
    (s1 : SeqAt.shaped (.tuple ds) = true) (s2 : SeqAt.shaped (.tuple es) = true) (e : PyData.eqv (.tuple ds) (.tuple es) = b) (k : ∀ H', Same H H' → if b = true then A D σ H' else B D σ H') :
    tIfS (tTest (tOp (rEqD K) (tVar 2) (tTup t))) A B D σ H := by
  refine ⟨_, hσ, ht _ ⟨hz, fun p np => ?_⟩⟩
  have s3 : Same H (upd H p (.tup ls)) := Same.new np
  refine ⟨.tuple ds, .tuple es, .tup (SqT.of (s3 _ _ hq)) (hf _), .tup (SqT.of upd_same) (hl _), s1, s2, _, rfl, ?_⟩
  rw [e]
  exact k _ s3
end
end V3

set_option Elab.async false
set_option linter.all false
set_option maxRecDepth 100000
namespace V3
open PySem L2 TL
-- no sSStr
-- no sBEq
-- no sTEq
-- no sREq
-- no sSEq
section
variable {P : Program} {w : World} {K : PySem.W.Frag} {mg : Str → Option Value} {base : Heap}
end
/-! the text of any move, and == of moves -/
def Mv.kind : Mv → Nat
  | .beg _ => 0
  | .take _ => 1
  | .takeBy _ _ => 1
  | .right _ _ => 2
  | .shut => 3
def Cl.at (c : Cl) : Nat → Addr
  | 0 => c.B
  | 1 => c.T
  | 2 => c.R
  | _ => c.S
theorem t_text (i : Int) : tText i = (Mv.take i).text := ext_tl (by
  unfold tText Mv.text
  rw [tl_join]
  simp only [tl_append, Mv.words, List.map, joinL, sp_tl]
  have e : tl ("take " : Str) = tl ("take" : Str) ++ [32] := by decide +kernel
  rw [e]
  simp [Str.empty, tl])
theorem tb_text (i j : Int) : tbText i j = (Mv.takeBy i j).text := ext_tl (by
  unfold tbText Mv.text
  rw [tl_join]
  simp only [tl_append, Mv.words, List.map, joinL, sp_tl]
  have e : tl ("take " : Str) = tl ("take" : Str) ++ [32] := by decide +kernel
  have e2 : tl (" by " : Str) = [32] ++ tl ("by" : Str) ++ [32] := by decide +kernel
  rw [e, e2]
  simp [Str.empty, tl])
theorem r_text (i j : Int) : rText i j = (Mv.right i j).text := ext_tl (by
  unfold rText Mv.text
  rw [tl_join]
  simp only [tl_append, Mv.words, List.map, joinL, sp_tl]
  have e : tl ("right " : Str) = tl ("right" : Str) ++ [32] := by decide +kernel
  have e2 : tl (" to " : Str) = [32] ++ tl ("to" : Str) ++ [32] := by decide +kernel
  rw [e, e2]
  simp [Str.empty, tl])
theorem am_of {a : Int} (h : Amt a) : Am a := by
  unfold Amt at h
  unfold Am
  omega
/-- str of a move of a kind -/
def spMS (c : Cl) (k : Nat) : Sp := fun vs H Q _ => ∃ (x dx : Addr) (m : Mv), vs = [.ref x] ∧ H x = some (m.obj c dx) ∧ m.kind = k ∧ m.ok ∧ Q (.str m.text) H
section
variable {P : Program} {w : World} {K : PySem.W.Frag} {mg : Str → Option Value} {base : Heap}
theorem ms_b {f : Addr} {c : Cl} {fd : FuncData} (G : FnOk P w K mg base CX0 1 f fd ["self"] (spBStr c.B)) : FnOk P w K mg base CX0 1 f fd ["self"] (spMS c 0) := G.imp fun vs H Q E h => by
  obtain ⟨x, dx, m, rfl, hx, hk, ok, q⟩ := h
  cases m with
  | beg a =>
    rw [← b_text] at q
    exact ⟨x, dx, a, rfl, hx, am_of ok, q⟩
  | _ => cases hk
theorem ms_t {f : Addr} {c : Cl} {fd : FuncData} (G : FnOk P w K mg base CX0 1 f fd ["self"] (spTStr c.T)) : FnOk P w K mg base CX0 1 f fd ["self"] (spMS c 1) := G.imp fun vs H Q E h => by
  obtain ⟨x, dx, m, rfl, hx, hk, ok, q⟩ := h
  cases m with
  | take i =>
    rw [← t_text] at q
    exact ⟨x, dx, i, _, rfl, hx, at_am ok, .inl ⟨rfl, q⟩⟩
  | takeBy i j =>
    rw [← tb_text] at q
    exact ⟨x, dx, i, _, rfl, hx, at_am ok.1, .inr ⟨j, rfl, am_of ok.2, q⟩⟩
  | _ => cases hk
theorem ms_r {f : Addr} {c : Cl} {fd : FuncData} (G : FnOk P w K mg base CX0 1 f fd ["self"] (spRStr c.R)) : FnOk P w K mg base CX0 1 f fd ["self"] (spMS c 2) := G.imp fun vs H Q E h => by
  obtain ⟨x, dx, m, rfl, hx, hk, ok, q⟩ := h
  cases m with
  | right i j =>
    rw [← r_text] at q
    exact ⟨x, dx, i, j, rfl, hx, at_am ok.1, am_of ok.2, q⟩
  | _ => cases hk
end
theorem mv_at (c : Cl) (m : Mv) (dx : Addr) : ∃ fs, m.obj c dx = .ins (c.at m.kind) dx fs := by
  cases m <;> exact ⟨_, rfl⟩
theorem kind_lt (m : Mv) : m.kind < 4 := by
  cases m <;> (simp only [Mv.kind]; omega)
/-- how the classes of moves tell their text -/
structure StrTxt (P : Program) (w : World) (K : PySem.W.Frag) (mg : Str → Option Value) (base : Heap) (c : Cl) : Prop where
  s : ∀ k, k < 4 → ∃ (f : Addr) (fd : FuncData), FnOk P w K mg base CX0 1 f fd ["self"] (spMS c k) ∧ PySem.W.findIn K (.ref (c.at k)) "__str__" = some (some (.ref f)) ∧ PySem.W.isFn K (.ref f) = true ∧ Binds K fd ["self"] []
/-- str(x), x any move -/
def rStrM (c : Cl) : List V → Hp → VK → Prop := fun xs H Q => ∃ v m, xs = [v] ∧ MvAt c H v m ∧ m.ok ∧ Q (.str m.text) H
theorem call_strM {X : Cx} {c : Cl} (T : StrTxt X.prog X.w X.K X.mg X.base c) (room : Room 3 X.A) : CallR X (.type "str") (rStrM c) := by
  intro pins s σ H xs us Q I r h
  obtain ⟨v, m, rfl, ⟨x, dx, rfl, hx⟩, ok, q⟩ := h
  obtain ⟨f, fd, G, at_, isf, bi⟩ := T.s m.kind (kind_lt m)
  obtain ⟨fs, eo⟩ := mv_at c m dx
  refine call_strO (E := fun _ _ _ => False) G at_ isf bi pass0 room pins s σ H _ us Q I r ⟨x, dx, fs, rfl, by rw [hx, eo], x, dx, m, rfl, hx, rfl, ok, _, rfl, q⟩
/-- what of the classes of moves is == and isinstance -/
structure MvCls (K : PySem.W.Frag) (c : Cl) (MV : Addr) : Prop where
  cl : ∀ k, k < 4 → Cls K (c.at k) ∧ PySem.W.findIn K (.ref (c.at k)) "__class__" = some (some (.builtin "object.__class__")) ∧ PySem.W.mroIn K (c.at k) (.type "object") = some true ∧ PySem.W.kitOne K (.ref (c.at k)) (.ref MV) = some true
  gn : PySem.W.specialIn K (.builtin "object.__class__") "__get__" = some (some (.builtin "getset_descriptor.__get__"))
  tk : PySem.W.takesIn K (.builtin "object.__class__") = some true
  nf : ∀ k, k < 4 → ∀ j, j < 4 → PySem.W.notFirst K (c.at k) (.ref (c.at j)) = true
def spMEq (c : Cl) : Sp := fun vs H Q _ => ∃ (u v : V) (m n : Mv), vs = [u, v] ∧ MvAt c H u m ∧ MvAt c H v n ∧ m.ok ∧ n.ok ∧ Q (.bl (decide (m.text = n.text))) H
section
variable {P : Program} {w : World} {K : PySem.W.Frag} {mg : Str → Option Value} {base : Heap}
structure BltE (mg : Str → Option Value) : Prop where
  isi : mg "isinstance" = none
  str : mg "str" = none
theorem meq_run {c : Cl} {MV : Addr} {H : Hp} {u v : V} {m n : Mv} {Q : VK} (C : MvCls K c MV) (hu : MvAt c H u m) (hv : MvAt c H v n) (mo : m.ok) (no : n.ok) (q : Q (.bl (decide (m.text = n.text))) H) :
    tAndV (tCB (rIsi K) (tCons (tVar 1) (tCons (tC (.ref MV)) tNil))) (tOp rEq (tCB (rStrM c) (tCons (tVar 0) tNil)) (tCB (rStrM c) (tCons (tVar 1) tNil))) (start ["self", "other"] [u, v]) H Q := by
  obtain ⟨y, dy, rfl, hy⟩ := id hv
  obtain ⟨fs, eo⟩ := mv_at c n dy
  obtain ⟨cl, ca, mr, ki⟩ := C.cl n.kind (kind_lt n)
  refine ⟨_, rfl, _, _, _, _, _, rfl, .own MV, .base (.ins (by rw [hy, eo]) cl ca C.gn C.tk mr), ki, _, rfl, iteT ⟨_, rfl, u, m, rfl, hu, mo, _, rfl, _, n, rfl, hv, no, rfl, ?_⟩⟩
  have e : (V.str m.text = V.str n.text) ↔ (m.text = n.text) := ⟨fun z => by injection z, fun z => by rw [z]⟩
  have e2 : decide (V.str m.text = V.str n.text) = decide (m.text = n.text) := by
    by_cases h : m.text = n.text
    · rw [decide_eq_true h, decide_eq_true (e.mpr h)]
    · rw [decide_eq_false h, decide_eq_false (fun z => h (e.mp z))]
  rw [e2]
  exact q
end
end V3

set_option Elab.async false
set_option linter.all false
set_option maxRecDepth 100000
namespace V3
open PySem L2 TL
/-- the tuple that a move is drawn as -/
def Mv.tupV : Mv → List V
  | .beg a => [.str "begin", .int a]
  | .take t => [.str "take", .int t, .int 0]
  | .takeBy t a => [.str "take", .int t, .int a]
  | .right t a => [.str "right", .int t, .int a]
  | .shut => [.str "shut"]
def TupAt (H : Hp) (v : V) (m : Mv) : Prop := ∃ p, v = .ref p ∧ H p = some (.tup m.tupV)
theorem TupAt.same {H H' : Hp} {v : V} {m : Mv} (h : TupAt H v m) (s : Same H H') : TupAt H' v m := by
  obtain ⟨p, e, hp⟩ := h
  exact ⟨p, e, s _ _ hp⟩
def spText : Sp := fun vs H Q _ => ∃ (v : V) (m : Mv), vs = [v] ∧ TupAt H v m ∧ m.ok ∧ Q (.str m.text) H
end V3

set_option Elab.async false
set_option linter.all false
set_option maxRecDepth 100000
namespace V3
open PySem L2 TL
-- no sMvText
section
variable {P : Program} {w : World} {K : PySem.W.Frag} {mg : Str → Option Value} {base : Heap}
/-- the law's own text of a move -/
theorem app0 (x : Str) : x ++ Str.empty = x := ext_tl (by
  rw [tl_append]
  simp [Str.empty, tl])
theorem empty_app (x : Str) : Str.empty ++ x = x := ext_tl (by
  rw [tl_append]
  simp [Str.empty, tl])
end
end V3

set_option Elab.async false
set_option linter.all false
set_option maxRecDepth 100000
/-! the law's parts -/
namespace V3
open PySem PySem.Spec PyProof.Rows L2 TL LamX
abbrev NT : Addr → Prop := fun _ => True
theorem words_v (L : List Str) : (wordsV L).map Fv.v = L.map V.str := by
  unfold wordsV
  rw [List.map_map]
  rfl
/-- a list of flat values, not the box -/
abbrev LfB (b : Addr) (L : List Fv) : V → Hp → Prop := fun v H => ∃ D, v = .ref D ∧ D ≠ b ∧ H D = some (.lst (L.map Fv.v))
theorem LfB.lf {b : Addr} {L : List Fv} {v : V} {H : Hp} (h : LfB b L v H) : LfA L v H := by
  obtain ⟨D, rfl, _, e⟩ := h
  exact ⟨D, _, rfl, e, by rw [List.length_map], fun i m em => ⟨m.v, by rw [List.getElem?_map, em]; rfl, rfl⟩⟩
theorem LfB.mv {b : Addr} {L : List Fv} {v : V} {H G : Hp} (h : LfB b L v H) (s : SameX b H G) : LfB b L v G := by
  obtain ⟨D, rfl, n, e⟩ := h
  exact ⟨D, rfl, n, s D _ n e⟩
structure LlAt (b : Addr) (LL : List (List Fv)) (l : Addr) (ls : List V) (H : Hp) : Prop where
  ne : l ≠ b
  at_ : H l = some (.lst ls)
  it : Ls (fun v L => LfB b L v H) ls LL
  ap : ∀ v ∈ ls, v ≠ .ref l
theorem LlAt.mv {b l : Addr} {LL : List (List Fv)} {ls : List V} {H G : Hp} (h : LlAt b LL l ls H) (s : SameX b H G) : LlAt b LL l ls G := ⟨h.ne, s l _ h.ne h.at_, h.it.imp fun _ _ r => r.mv s, h.ap⟩
def wKi : List Fv := wordsV kindL
def LL1 : List (List Fv) := [wKi, wordsV stateL, wordsV deedL, wordsV placeL]
def LL1m : List (List Fv) := [wKi, wordsV stateL, wordsV ["whole", "part"], wordsV placeL]
def LL2 : List (List Fv) := [wKi, numsW, wordsV whoseL]
theorem LL_ok : ∀ L ∈ LL1 ++ LL1m ++ LL2, L.length ≤ 100 ∧ 1 ≤ L.length ∧ ∀ x ∈ L, x ∈ flats := by decide +kernel
def words4 : List Str := ["kind", "state", "deed", "place"]
def words3 : List Str := ["kind", "weight", "whose"]
def mpB (kd : PyData) : Bool := amV (wordsV ["minus", "plus"]) kd
theorem due_let {kd sd dd pd : PyData} : dueP words4 [kd, sd, dd, pd] (if mpB kd then LL1m else LL1) = wrongLt kd sd dd pd := by
  have step : amV (if mpB kd then wordsV ["whole", "part"] else wordsV deedL) dd = (amV (wordsV deedL) dd && !(decide (fOf dd = some (.str "right")) && mpB kd)) := by
    cases m : mpB kd with
    | false => rw [Bool.and_false, Bool.not_false, Bool.and_true]; rfl
    | true =>
      rw [Bool.and_true]
      show amV (wordsV ["whole", "part"]) dd = _
      unfold amV
      cases e : fOf dd with
      | none => rfl
      | some x =>
        show decide (x ∈ [Fv.str "whole", Fv.str "part"]) = (decide (x ∈ [Fv.str "whole", Fv.str "part", Fv.str "right"]) && !decide (some x = some (Fv.str "right")))
        by_cases h1 : x = Fv.str "whole"
        · subst h1
          decide +kernel
        by_cases h2 : x = Fv.str "part"
        · subst h2
          decide +kernel
        by_cases h3 : x = Fv.str "right"
        · subst h3
          decide +kernel
        rw [decide_eq_false (by simp [h1, h2]), decide_eq_false (by simp [h1, h2, h3]), Bool.false_and]
  unfold wrongLt
  rw [← show mpB kd = amV (wordsV ["minus", "plus"]) kd from rfl, ← step]
  cases m : mpB kd with
  | true => rfl
  | false => rfl
theorem due_cnt {kd wd od : PyData} : dueP words3 [kd, wd, od] LL2 = wrongCt kd wd od := rfl
theorem ne_self {o : Option Str} {H : Hp} {Q : VK} (k : Q (.bl false) H) : rNe (oStr o) (oStr o) H Q := by
  refine ⟨by cases o <;> rfl, ?_⟩
  rw [decide_eq_true rfl]
  exact k
/-! tables -/
theorem Tabs.keep {T : List (Addr × Str)} {H G : Hp} (t : Tabs T H) (s : Keep H G) : Tabs T G := fun p hp => by
  obtain ⟨ps, h1, h2, h3⟩ := t p hp
  refine ⟨ps, s _ _ (fun _ z => by cases z) h1, h2, fun pos cv hc => ?_⟩
  obtain ⟨c, e1, e2⟩ := h3 pos cv hc
  exact ⟨c, e1, s _ _ (fun _ z => by unfold CodeO at z; cases z) e2⟩
end V3

set_option Elab.async false
set_option linter.all false
set_option maxRecDepth 100000
/-! the law's lists and what is told -/
namespace V3
open PySem PySem.Spec PyProof.Rows L2 TL LamX
theorem Pre.kp {b : Addr} {H H' : Hp} {u v : Int} (hb : H b = some (V3.box u v)) (s : Pre b H H') : Keep H H' := fun c o n e => s.1 c o (fun z => by
  rw [z, hb] at e
  cases e
  exact n _ rfl) e
abbrev tSs : List Str → TA
  | [] => tNil
  | z :: r => tCons (tC (.str z)) (tSs r)
abbrev tLs1 : TE := tLst (tCons (tVar 1) (tCons (tLst (tCons (tC (.str "open")) (tCons (tC (.str "shut")) tNil))) (tCons (tLst (tCons (tC (.str "whole")) (tCons (tC (.str "part")) (tCons (tC (.str "right")) tNil)))) (tCons (tLst (tCons (tC (.str "now")) (tCons (tC (.str "there")) tNil))) tNil))))
abbrev tLs2 : TE := tLst (tCons (tVar 1) (tCons (tLst (tCons (tUn (rU fun i => .int (-i)) (tC (.int 1))) (tCons (tC (.int 0)) (tCons (tC (.int 1)) tNil)))) (tCons (tLst (tCons (tC (.str "own")) (tCons (tC (.str "target")) (tCons (tC (.str "top")) (tCons (tC (.str "deed")) tNil))))) tNil)))
theorem Ls.cons1 {α : Type} {R : V → α → Prop} {v : V} {m : α} {vs : List V} {ms : List α} (t : R v m) (d : Ls R vs ms) : Ls R (v :: vs) (m :: ms) := Ls.cons t d
section
variable {σ : L2.St} {H : Hp} {Q : VK} {kl b : Addr} {bx : HO}
theorem mk_ls1 (e1 : σ[1]? = some (some (.ref kl))) (hk : H kl = some (.lst (wKi.map Fv.v))) (nk : kl ≠ b) (hb : H b = some bx) (k : ∀ l ls H', Same H H' → H l = none → LlAt b LL1 l ls H' → Q (.ref l) H') : tLs1 σ H Q := by
  refine ⟨_, e1, (by show 2 ≤ sizeLine; decide), fun p1 n1 => ⟨(by show 3 ≤ sizeLine; decide), fun p2 n2 => ⟨(by show 2 ≤ sizeLine; decide), fun p3 n3 => ⟨(by show 4 ≤ sizeLine; decide), fun l nl => ?_⟩⟩⟩⟩
  have s1 : Same H (upd H p1 (.lst [.str "open", .str "shut"])) := Same.new n1
  have g1 : upd H p1 (.lst [.str "open", .str "shut"]) p1 = some (.lst ((wordsV stateL).map Fv.v)) := upd_same
  have q1 : p1 ≠ b := Ne.symm (ne_of_none hb n1)
  generalize upd H p1 (.lst [.str "open", .str "shut"]) = H1 at n2 n3 nl s1 g1 ⊢
  have s2 : Same H1 (upd H1 p2 (.lst [.str "whole", .str "part", .str "right"])) := Same.new n2
  have g2 : upd H1 p2 (.lst [.str "whole", .str "part", .str "right"]) p2 = some (.lst ((wordsV deedL).map Fv.v)) := upd_same
  have q2 : p2 ≠ b := Ne.symm (ne_of_none (s1 _ _ hb) n2)
  generalize upd H1 p2 (.lst [.str "whole", .str "part", .str "right"]) = H2 at n3 nl s2 g2 ⊢
  have s3 : Same H2 (upd H2 p3 (.lst [.str "now", .str "there"])) := Same.new n3
  have g3 : upd H2 p3 (.lst [.str "now", .str "there"]) p3 = some (.lst ((wordsV placeL).map Fv.v)) := upd_same
  have q3 : p3 ≠ b := Ne.symm (ne_of_none (s2 _ _ (s1 _ _ hb)) n3)
  generalize upd H2 p3 (.lst [.str "now", .str "there"]) = H3 at nl s3 g3 ⊢
  have s4 : Same H3 (upd H3 l (.lst [.ref kl, .ref p1, .ref p2, .ref p3])) := Same.new nl
  have hk3 := s3 _ _ (s2 _ _ (s1 _ _ hk))
  have g13 := s3 _ _ (s2 _ _ g1)
  have g23 := s3 _ _ g2
  refine k l [.ref kl, .ref p1, .ref p2, .ref p3] _ (((s1.trans s2).trans s3).trans s4) ?_ ⟨Ne.symm (ne_of_none (s3 _ _ (s2 _ _ (s1 _ _ hb))) nl), upd_same, ?_, fun v hv => ?_⟩
  · cases e : H l with
    | none => rfl
    | some o =>
      rw [s3 _ _ (s2 _ _ (s1 _ _ e))] at nl
      cases nl
  · exact Ls.cons ⟨kl, rfl, nk, s4 _ _ hk3⟩ (Ls.cons ⟨p1, rfl, q1, s4 _ _ g13⟩ (Ls.cons ⟨p2, rfl, q2, s4 _ _ g23⟩ (Ls.cons ⟨p3, rfl, q3, s4 _ _ g3⟩ Ls.nil)))
  · have ap : ∀ {x : Addr} {o : HO}, H3 x = some o → V.ref x ≠ V.ref l := fun e z => by
      cases z
      rw [e] at nl
      cases nl
    simp only [List.mem_cons, List.not_mem_nil, or_false] at hv
    rcases hv with rfl | rfl | rfl | rfl
    · exact ap hk3
    · exact ap g13
    · exact ap g23
    · exact ap g3
theorem mk_ls2 (e1 : σ[1]? = some (some (.ref kl))) (hk : H kl = some (.lst (wKi.map Fv.v))) (nk : kl ≠ b) (hb : H b = some bx) (k : ∀ l ls H', Same H H' → H l = none → LlAt b LL2 l ls H' → Q (.ref l) H') : tLs2 σ H Q := by
  refine ⟨_, e1, _, rfl, (by show 3 ≤ sizeLine; decide), fun p1 n1 => ⟨(by show 4 ≤ sizeLine; decide), fun p2 n2 => ⟨(by show 3 ≤ sizeLine; decide), fun l nl => ?_⟩⟩⟩
  have s1 : Same H (upd H p1 (.lst [.int (-1), .int 0, .int 1])) := Same.new n1
  have g1 : upd H p1 (.lst [.int (-1), .int 0, .int 1]) p1 = some (.lst (numsW.map Fv.v)) := upd_same
  have q1 : p1 ≠ b := Ne.symm (ne_of_none hb n1)
  generalize upd H p1 (.lst [.int (-1), .int 0, .int 1]) = H1 at n2 nl s1 g1 ⊢
  have s2 : Same H1 (upd H1 p2 (.lst [.str "own", .str "target", .str "top", .str "deed"])) := Same.new n2
  have g2 : upd H1 p2 (.lst [.str "own", .str "target", .str "top", .str "deed"]) p2 = some (.lst ((wordsV whoseL).map Fv.v)) := upd_same
  have q2 : p2 ≠ b := Ne.symm (ne_of_none (s1 _ _ hb) n2)
  generalize upd H1 p2 (.lst [.str "own", .str "target", .str "top", .str "deed"]) = H2 at nl s2 g2 ⊢
  have s3 : Same H2 (upd H2 l (.lst [.ref kl, .ref p1, .ref p2])) := Same.new nl
  have hk2 := s2 _ _ (s1 _ _ hk)
  have g12 := s2 _ _ g1
  refine k l [.ref kl, .ref p1, .ref p2] _ ((s1.trans s2).trans s3) ?_ ⟨Ne.symm (ne_of_none (s2 _ _ (s1 _ _ hb)) nl), upd_same, ?_, fun v hv => ?_⟩
  · cases e : H l with
    | none => rfl
    | some o =>
      rw [s2 _ _ (s1 _ _ e)] at nl
      cases nl
  · exact Ls.cons ⟨kl, rfl, nk, s3 _ _ hk2⟩ (Ls.cons ⟨p1, rfl, q1, s3 _ _ g12⟩ (Ls.cons ⟨p2, rfl, q2, s3 _ _ g2⟩ Ls.nil))
  · have ap : ∀ {x : Addr} {o : HO}, H2 x = some o → V.ref x ≠ V.ref l := fun e z => by
      cases z
      rw [e] at nl
      cases nl
    simp only [List.mem_cons, List.not_mem_nil, or_false] at hv
    rcases hv with rfl | rfl | rfl
    · exact ap hk2
    · exact ap g12
    · exact ap g2
end
/-- what is drawn for each list -/
abbrev tTold (K : PySem.W.Frag) : TE := tLc (iList K (tVar 5)) (gName 8) tYes (tCall spMostly [] E0 (tCons (tVar 3) (tCons (tVar 8) tNil))) [8]
theorem told_go {K : PySem.W.Frag} {o0 o1 o2 o4 o6 o7 o8 : Option V} {H : Hp} {Q : VK} {b l : Addr} {u v : Int} {LL : List (List Fv)} {ls : List V} (hl : LlAt b LL l ls H) (hb : H b = some (box u v)) (ok : BoxOk u v) (fl : ∀ L ∈ LL, L.length ≤ 100 ∧ 1 ≤ L.length ∧ ∀ x ∈ L, x ∈ flats) (few : LL.length ≤ 4)
    (k : ∀ D vs ds H', Pre b H H' → H D = none → H' D = some (.lst vs) → AdL (NewIn H) H' vs ds → ds.length = LL.length → (∀ d ∈ ds, Sm 3 d) → Q (.ref D) H') : tTold K [o0, o1, o2, some (.ref b), o4, some (.ref l), o6, o7, o8] H Q := by
  refine ⟨_, rfl, l, rfl, ⟨ls, SqL.of hl.at_⟩, fun D nD => ?_⟩
  have nbD : b ≠ D := ne_of_none hb nD
  refine lc_list (K := K) (a := l) (xs := ls) (fun i Hh => ∃ vs ds, Pre b H Hh ∧ Hh D = some (.lst vs) ∧ AdL (fun a => H a = none ∧ a ≠ D) Hh vs ds ∧ ds.length = i ∧ ∀ d ∈ ds, Sm 3 d) ⟨[], [], ⟨SameX.of (Same.new nD), u, v, ok, by rw [upd_ne nbD]; exact hb⟩, upd_same, .nil, rfl, fun z hz => by cases hz⟩ (fun i Hh _ p => ?_) ?_ ?_
  · obtain ⟨vs, ds, S3, _⟩ := p
    exact SqL.of (S3.1 l _ hl.ne hl.at_)
  · rintro i z Hh hi ⟨vs, ds, S3, hD, ha, hn, hk⟩
    obtain ⟨L, eL, Dz, rfl, nz, hz⟩ := hl.it.get hi
    obtain ⟨l1, l2, lf⟩ := fl L (List.mem_of_getElem? eL)
    obtain ⟨sx, u3, v3, ok3, hb3⟩ := id S3
    have lv : vs.length ≤ 4 := by
      rw [ha.len, hn]
      have z1 := (List.getElem?_eq_some_iff.mp eL).1
      omega
    refine ⟨rfl, ?_⟩
    unfold tYes
    dsimp only
    refine iteT ⟨_, rfl, _, rfl, b, Dz, u3, v3, L, rfl, hb3, ok3, nz, S3.1 Dz _ nz hz, l2, (by omega), lf, fun y dy H' S4 ay sy => ?_⟩
    have hD4 : H' D = some (.lst vs) := S4.1 D _ (fun q => nbD q.symm) hD
    obtain ⟨_, u', v', ok4, hb4⟩ := id S4
    refine ⟨vs, hD4, small1000 (by omega), vs ++ [y], ds ++ [dy], ⟨?_, u', v', ok4, by rw [upd_ne nbD]; exact hb4⟩, upd_same, ?_, by rw [List.length_append, List.length_singleton, hn], fun q hq => ?_⟩
    · intro cc o nc hc
      rw [upd_ne (ne_of_none hc nD)]
      exact S4.1 cc o nc (sx cc o nc hc)
    · refine (AdL.mv (fun a z => z) (fun a o na ea nt => ?_) ds vs ha).app (.cons (Ad.mv (N := NewIn Hh) (fun a na => ⟨S3.none hb na, fun z => by
          subst z
          cases hD.symm.trans na⟩) (fun a o na ea nt => ?_) dy y ay) .nil)
      · rw [upd_ne na.2]
        exact S4.1 a o (fun z => by
          have := na.1
          rw [z, hb] at this
          cases this) ea
      · rw [upd_ne (fun z => by
          subst z
          cases hD.symm.trans na)]
        exact ea
    · rcases List.mem_append.mp hq with hq | hq
      · exact hk q hq
      · rw [List.mem_singleton.mp hq]
        exact sy
  · rintro Hh ⟨vs, ds, S3, hD, ha, hn, hk⟩
    exact k D vs ds Hh S3 nD hD (AdL.mv (fun a z => z.1) (fun a o na ea nt => ea) ds vs ha) (by rw [hn]; exact hl.it.1) hk
end V3

set_option Elab.async false
set_option linter.all false
set_option maxRecDepth 100000
/-! the law: its text -/
namespace V3
open PySem PySem.Spec PyProof.Rows L2 TL LamX
abbrev sLaw : Stmt := top 26
/-- a def of the text whose code object is known -/
structure FunC (K : PySem.W.Frag) (x qual : Str) (st : Stmt) (f : Addr) (fd : FuncData) (cdv : Value) : Prop where
  ex : ∃ (oc : Value) (od : Option Addr) (kV doc pm : Value) (an : Option Addr) (ct : Value) (osl : Array (Option Value)), fd = PySem.W.fnOf x qual (defArgs st) (defBody st) (defScope st) .none kV doc pm an cdv ct ∧ K.lookup f = some ⟨oc, od, .func fd, osl⟩ ∧ PySem.W.codeIn K cdv qual = true
section
variable {P : Program} {w : World} {K : PySem.W.Frag} {mg : Str → Option Value} {base : Heap}
theorem fnGc {CX : CXT} {k : Nat} {f : Addr} {x qual : Str} {st : Stmt} {fd : FuncData} {cdv : Value} {N ps : List Str} {sp : Sp} (F : FunC K x qual st f fd cdv) (S : FnScope N ps (defScope st)) (len : ∀ vs H Q E, sp vs H Q E → vs.length = ps.length)
    (hbody : ∀ (A : Around) (up : List Env) (s : Shared) (H : Hp) (vs : List V) (Q : VK) (E : XK), NoG A → Room k (A.deeper (envOfC qual (defScope st) s.heap.objs.size f cdv)) → sp vs H Q E →
      ∃ t, PSs (cxOf CX P w K mg base N qual (defScope st) f cdv A up s H E) (defBody st) t ∧ t { nx := fun _ H' => Q .non H', rt := Q } (start N vs) H) : FnG P w K mg base CX (k + 1) f fd ps sp := by
  obtain ⟨oc, od, kV, doc, pm, an, ct, osl, rfl, lk, hcd⟩ := F.ex
  refine ⟨len, fun A up s H args us vs Q E g room e0 bnd rel want => ?_⟩
  have nlen := len _ _ _ _ want
  have old := fun b o e => (e0.bs b o e).1
  have KX : K.In s.heap := e0.mod.kin.keeps old
  have lim := e0.mod.nolimit.keeps old
  have known : ∀ y ∈ ps.zip us, (defScope st).names.lookup y.1 = some .local ∨ ((defScope st).names.lookup y.1 = some .cell ∧ ((cellsFrom (s.heap.objs.size + 1) (defScope st).names []).lookup y.1).isSome = true) := by
    rintro ⟨n, v⟩ hy
    exact (S.par n (List.of_mem_zip hy).1).imp id fun q => ⟨q, PySem.W.cellsFrom_some _ _ _ (.inl q)⟩
  refine codeAny_call_function room.depth (KX _ _ lk) rfl S.co S.gen rfl (PySem.W.codeRec_of KX hcd) (bnd _ _ _ _ ?_)
  refine wpAny_newFunctionEnv_cells S.kind known fun env same s1 x => ?_
  subst same
  refine ⟨lim.keeps x.toInCall.keep, codeAny_func ?_⟩
  obtain ⟨t, ht, hq⟩ := hbody A up s H vs Q E g (room.deeper _) want
  have I := inv_start (CX := CX) (E := E) S room.hd e0 nlen rel x
  refine wpAny_mono (ht.run [] s1 (start N vs) H _ I hq) (fun fl s' hs => ?_) fun e s' hs => hs
  match fl, hs with
  | .ret u, hs =>
    obtain ⟨v, σ', H', J, rv, q⟩ := hs
    exact ⟨v, H', J.os, J.bare, J.base, J.hok, rv, q⟩
  | .next, hs =>
    obtain ⟨σ', H', J, q⟩ := hs
    exact ⟨.non, H', J.os, J.bare, J.base, J.hok, rfl, q⟩
  | .brk, hs =>
    obtain ⟨_, _, _, q⟩ := hs
    exact q.elim
  | .cont, hs =>
    obtain ⟨_, _, _, q⟩ := hs
    exact q.elim
theorem ExtN.seq {K : PySem.W.Frag} {H G : Hp} {a : Addr} {xs : List V} (s : ExtN H G) (h : SqL K H a xs) : SqL K G a xs := by
  rcases h with (h | ⟨o, h⟩) | h
  · exact .inl (.inl (s _ _ h (fun q z => by cases z)))
  · exact .inl (.inr ⟨o, s _ _ h (fun q z => by cases z)⟩)
  · exact .inr h
theorem ext_pre {H1 H G : Hp} {b : Addr} (e : ExtN H1 H) (n : H1 b = none) (p : SameX b H G) : ExtN H1 G := fun a o ha nt => p a o (fun z => by rw [z, n] at ha; cases ha) (e a o ha nt)
theorem ext_same {H1 H G : Hp} (e : ExtN H1 H) (s : Same H G) : ExtN H1 G := fun a o ha nt => s a o (e a o ha nt)
abbrev NL : List Str := ["_law_script", "_law_kinds", "_law_k", "_law_box", "_law_turn", "_law_lists", "_law_told", "_law_due_here", "_law_some"]
theorem scLaw : FnScope NL ["_law_script"] (defScope sLaw) := ⟨rfl, rfl, rfl, by decide +kernel, rfl, by decide +kernel, by decide +kernel⟩
/-- the name of the law's lambdas -/
def qLam : Str := (envOfC "law" (defScope sLaw) 0 0 .none).qual ++ "<lambda>"
def spLawT (K : PySem.W.Frag) (pT : Addr) : Sp := fun vs H Q _ => ∃ (a : Addr) (ns : List Int), vs = [.ref a] ∧ SqL K H a (ns.map V.int) ∧ ns.length ≤ 63 ∧ H pT = some (.tbl #[]) ∧ ∀ H', Q (.bl true) H'
structure BltK11 (mg : Str → Option Value) : Prop where
  len : mg "len" = none
  range : mg "range" = none
  max : mg "max" = none
  min : mg "min" = none
/-- _law_word, as it stands behind the top -/
structure WordC (K : PySem.W.Frag) (mg : Str → Option Value) (g : Addr) : Prop where
  gl : mg "_law_word" = some (.ref g)
  kp : PySem.W.keepIn K (.ref g) = true
  ex : ∃ (oc : Value) (od : Option Addr) (kV doc pm : Value) (an : Option Addr) (cdv ct : Value) (osl : Array (Option Value)), K.lookup g = some ⟨oc, od, .func (PySem.W.fnOf "_law_word" "_law_word" (defArgs sWordL) (defBody sWordL) (defScope sWordL) .none kV doc pm an cdv ct), osl⟩ ∧
    PySem.W.codeIn K cdv "_law_word" = true ∧ L2.Binds K (PySem.W.fnOf "_law_word" "_law_word" (defArgs sWordL) (defBody sWordL) (defScope sWordL) .none kV doc pm an cdv ct) ["_law_make"] []
/-- Let, Count: how they are made -/
structure MkC (P : Program) (w : World) (K : PySem.W.Frag) (mg : Str → Option Value) (base : Heap) (c : Rc) (CI : Addr) : Prop where
  gL : mg "Let" = some (.ref c.L)
  gC : mg "Count" = some (.ref c.C)
  l : ∃ (f : Addr) (fd : FuncData), FnOk P w K mg base (L2.CX P w) 3 f fd ["self", "kind", "state", "deed", "place"] (spLetD NT c CI) ∧ Mk K c.L f ∧ Binds K fd ["self", "kind", "state", "deed", "place"] []
  c : ∃ (f : Addr) (fd : FuncData), FnOk P w K mg base (L2.CX P w) 3 f fd ["self", "kind", "weight", "whose"] (spCntD NT c CI) ∧ Mk K c.C f ∧ Binds K fd ["self", "kind", "weight", "whose"] []
abbrev tIx (K : PySem.W.Frag) (i : Int) : TE := tOp (rIxL K) (tVar 6) (tC (.int i))
/-- what the lambdas say -/
def tLetL (K : PySem.W.Frag) (c : Rc) (CI : Addr) (E : XK) : TE := tMakeS c.L (spLetD NT c CI) [] (WE fun cls d _ H => E cls d H) (tCons (tIx K 0) (tCons (tIx K 1) (tCons (tIx K 2) (tCons (tIx K 3) tNil))))
def tCntL (K : PySem.W.Frag) (c : Rc) (CI : Addr) (E : XK) : TE := tMakeS c.C (spCntD NT c CI) [] (WE fun cls d _ H => E cls d H) (tCons (tIx K 0) (tCons (tIx K 1) (tCons (tIx K 2) tNil)))
def tLetK (c : Rc) (CI : Addr) (E : XK) : TE := tMakeS c.L (spLetD NT c CI) [] (WE fun cls d _ H => E cls d H) (tCons (tC (.str "plus")) (tCons (tC (.str "open")) (tCons (tC (.str "right")) (tCons (tC (.str "now")) tNil))))
set_option maxHeartbeats 1000000 in
theorem ok_law {f g cT pT CI CB CH : Addr} {c : Rc} {fd : FuncData} (F : FunC K "law" "law" sLaw f fd (.ref cT)) (T : BltK11 mg) (W : WoT K mg CI CB CH) (WC : WordC K mg g) (MK : MkC P w K mg base c CI) (TB : TabB base mg cT pT)
    (cS : Cal P w K mg base CX0 "_law_seed" 1 ["_law_script", "_law_k"] (spSeed K)) (cM : Cal P w K mg base CX0 "_law_mostly" 7 ["_law_box", "_law_some"] spMostly)
    (cD : ∃ (f : Addr) (fd : FuncData), FnG P w K mg base CX0 1 f fd ["_law_told", "_law_words", "_law_lists"] (spDueL NT) ∧ mg "_law_due" = some (.ref f) ∧ PySem.W.keepIn K (.ref f) = true ∧ Binds K fd ["_law_told", "_law_words", "_law_lists"] []) :
    FnG P w K mg base CX0 8 f fd ["_law_script"] (spLawT K pT) := by
  obtain ⟨fS, fdS, GS, mS, kS, bS⟩ := cS
  obtain ⟨fM, fdM, GM, mM, kM, bM⟩ := cM
  obtain ⟨fD, fdD, GD, mD, kD, bD⟩ := cD
  obtain ⟨oc, od, kV, doc, pm, an, cdw, ct, osl, lkw, cdW, bW⟩ := WC.ex
  obtain ⟨fL, fdL, GL, mL, bL⟩ := MK.l
  obtain ⟨fC, fdC, GC, mC, bC⟩ := MK.c
  refine fnGc F scLaw (fun vs H Q E h => ?_) (fun A outer s H vs Q E gA hr h => ?_)
  · obtain ⟨a, ns, rfl, _⟩ := h
    rfl
  · obtain ⟨a, ns, rfl, hS, hl, hT, k⟩ := h
    have hr1 : Room 1 _ := hr.mono (by decide)
    have hr6 : Room 6 _ := hr.mono (by decide)
    let X : Cx := (cxOf CX0 P w K mg base NL "law" (defScope sLaw) f (.ref cT) A outer s H E).nox
    have pl : ∀ {params : Arguments} {body : Expr} {scope : Scope} {t : XK → TE} {p lpos pos : Pos} (Ls : LamS (defScope sLaw) scope) (hdef : defaultsOf params X.env = ([], [])) (hbind : ∀ (q : Str) (cl : List (Str × Addr)) (pm cv ctv : Value), bindArgs (PySem.W.kla_fn "<lambda>" q params body scope cl pm cv ctv) ⟨[], []⟩ = pure [])
        (hbody : ∀ (A : Around) (outer : List Env) (s : Shared) (H : Hp) (E : XK) (f c' : Addr), Room 4 (A.deeper (lamEnv X scope s.heap.objs.size f c')) → PE (lamCx X A outer s H E scope f c') body (t E)), PE X (.Call (.Name "_law_word" p) [.Lambda params body scope lpos] [] pos) (tLam [(pT, qLam)] (TTw CI) t) := by
      intro params body scope t p lpos pos Ls hdef hbind hbody
      exact pe_lamcall (X := X) (T := [(pT, qLam)]) (TT := TTw CI) (Ng := NWl) (a := "_law_make") (k := 4) rfl WC.gl WC.kp lkw cdW bW scWordL rfl (Or.inl rfl) (gives_word W) TB rfl (List.mem_singleton.mpr rfl) (fun p hp _ => by rw [List.mem_singleton.mp hp]; rfl) hr6 Ls hdef hbind hbody
    refine ⟨_, PSs.nox (X := cxOf CX0 P w K mg base NL "law" (defScope sLaw) f (.ref cT) A outer s H E) (pss_cons (ps_set (i := 1) scLaw.nd rfl (Or.inl rfl) (pe_lst (pa_cons pe_str (pa_cons pe_str (pa_cons pe_str (pa_cons pe_str pa_nil))))))
  (pss_cons (ps_for PassesOwn.never rfl (pi_range1 (by rfl) T.range (pa_cons (pe_callB (call_max2 rfl) (by rfl) T.max (by decide +kernel) (pa_cons pe_int (pa_cons (pe_callB (call_min2 rfl) (by rfl) T.min (by decide +kernel) (pa_cons pe_int (pa_cons (pe_callB call_len_seq (by rfl) T.len PySem.boot_len (pa_cons (pv 0) pa_nil)) pa_nil))) pa_nil))) pa_nil)) (pg_name (i := 2) scLaw.nd rfl (Or.inl rfl))
  (pss_cons (ps_set (i := 3) scLaw.nd rfl (Or.inr rfl) (pe_call GS hr1 rfl mS kS bS .nil pass0 (pa_cons (pv 0) (pa_cons (pv 2) pa_nil))))
  (pss_one (ps_for PassesOwn.never rfl (pi_range1 (by rfl) T.range (pa_cons pe_int pa_nil)) (pg_name (i := 4) scLaw.nd rfl (Or.inl rfl))
  (pss_cons (ps_set (i := 5) scLaw.nd rfl (Or.inl rfl) (pe_lst (pa_cons (pv 1) (pa_cons (pe_lst (pa_cons pe_str (pa_cons pe_str pa_nil))) (pa_cons (pe_lst (pa_cons pe_str (pa_cons pe_str (pa_cons pe_str pa_nil)))) (pa_cons (pe_lst (pa_cons pe_str (pa_cons pe_str pa_nil))) pa_nil))))))
  (pss_cons (ps_set (i := 6) scLaw.nd rfl (Or.inr rfl) (pe_lc (own := [("_law_some", 8)]) (g := gName 8) (tt := tYes) (by rfl) scLaw.nd (pi_list (pv 5)) (blkOk_by (own := [("_law_some", 8)]) (N := NL) (sc := defScope sLaw) (by decide +kernel)) (fun _ _ _ _ _ => (pg_name (i := 8) scLaw.nd rfl (Or.inl rfl))) (fun _ _ _ _ _ => pts_nil) (fun _ _ _ _ _ => (pe_call GM hr rfl mM kM bM .nil pass0 (pa_cons (pv 3) (pa_cons (pv 8) pa_nil))))))
  (pss_cons (ps_if (pt_cmpR (op_inA hr1) (pe_ix ix_list (pv 6) pe_int (fun _ _ => rfl)) (pe_tup (pa_cons pe_str (pa_cons pe_str pa_nil))) rfl) (pss_one (ps_asg (pe_lst (pa_cons pe_str (pa_cons pe_str pa_nil))) (pg_sub (pv 5) pe_int set_list))) pss_nil)
  (pss_cons (ps_set (i := 7) scLaw.nd rfl (Or.inl rfl) (pe_callG GD gA hr1 rfl mD kD bD .nil pass0 (pa_cons (pv 6) (pa_cons (pe_lst (pa_cons pe_str (pa_cons pe_str (pa_cons pe_str (pa_cons pe_str pa_nil))))) (pa_cons (pv 5) pa_nil)))))
  (pss_cons (ps_if (pt_cmpR op_ne (pl (lamS_by (by decide +kernel)) (by rfl) (fun _ _ _ _ _ => rfl) (fun _ _ _ _ E _ _ h4 => by exact (pe_makeS mL GL h4 (by rfl) MK.gL bL .nil (fun σ => passAt (takes_of rfl rfl rfl rfl) σ) (by exact (pa_cons (pe_ix ix_list (pv 6) pe_int (fun _ _ => rfl)) (pa_cons (pe_ix ix_list (pv 6) pe_int (fun _ _ => rfl)) (pa_cons (pe_ix ix_list (pv 6) pe_int (fun _ _ => rfl)) (pa_cons (pe_ix ix_list (pv 6) pe_int (fun _ _ => rfl)) pa_nil))))))) : PE X _ (tLam [(pT, qLam)] (TTw CI) (tLetL K c CI))) (pv 7) (nomark _)) (pss_one (ps_ret pe_bl)) pss_nil)
  (pss_cons (ps_set (i := 5) scLaw.nd rfl (Or.inl rfl) (pe_lst (pa_cons (pv 1) (pa_cons (pe_lst (pa_cons (pe_un un_neg pe_int) (pa_cons pe_int (pa_cons pe_int pa_nil)))) (pa_cons (pe_lst (pa_cons pe_str (pa_cons pe_str (pa_cons pe_str (pa_cons pe_str pa_nil))))) pa_nil)))))
  (pss_cons (ps_set (i := 6) scLaw.nd rfl (Or.inr rfl) (pe_lc (own := [("_law_some", 8)]) (g := gName 8) (tt := tYes) (by rfl) scLaw.nd (pi_list (pv 5)) (blkOk_by (own := [("_law_some", 8)]) (N := NL) (sc := defScope sLaw) (by decide +kernel)) (fun _ _ _ _ _ => (pg_name (i := 8) scLaw.nd rfl (Or.inl rfl))) (fun _ _ _ _ _ => pts_nil) (fun _ _ _ _ _ => (pe_call GM hr rfl mM kM bM .nil pass0 (pa_cons (pv 3) (pa_cons (pv 8) pa_nil))))))
  (pss_cons (ps_set (i := 7) scLaw.nd rfl (Or.inl rfl) (pe_callG GD gA hr1 rfl mD kD bD .nil pass0 (pa_cons (pv 6) (pa_cons (pe_lst (pa_cons pe_str (pa_cons pe_str (pa_cons pe_str pa_nil)))) (pa_cons (pv 5) pa_nil)))))
  (pss_one (ps_if (pt_cmpR op_ne (pl (lamS_by (by decide +kernel)) (by rfl) (fun _ _ _ _ _ => rfl) (fun _ _ _ _ E _ _ h4 => by exact (pe_makeS mC GC h4 (by rfl) MK.gC bC .nil (fun σ => passAt (takes_of rfl rfl rfl rfl) σ) (by exact (pa_cons (pe_ix ix_list (pv 6) pe_int (fun _ _ => rfl)) (pa_cons (pe_ix ix_list (pv 6) pe_int (fun _ _ => rfl)) (pa_cons (pe_ix ix_list (pv 6) pe_int (fun _ _ => rfl)) pa_nil)))))) : PE X _ (tLam [(pT, qLam)] (TTw CI) (tCntL K c CI))) (pv 7) (nomark _)) (pss_one (ps_ret pe_bl)) pss_nil))))))))))))))
  (pss_one (ps_ret (pe_cmpR op_eq (pl (lamS_by (by decide +kernel)) (by rfl) (fun _ _ _ _ _ => rfl) (fun _ _ _ _ E _ _ h4 => by exact (pe_makeS mL GL h4 (by rfl) MK.gL bL .nil (fun σ => passAt (takes_of rfl rfl rfl rfl) σ) (by exact (pa_cons pe_str (pa_cons pe_str (pa_cons pe_str (pa_cons pe_str pa_nil))))))) : PE X _ (tLam [(pT, qLam)] (TTw CI) (tLetK c CI))) pe_str (nomark _)))))), ?_⟩
    refine ⟨(by show 4 ≤ sizeLine; decide), fun kl nk => ?_⟩
    have s0 : Same H (upd H kl (.lst [.str "first", .str "new", .str "minus", .str "plus"])) := Same.new nk
    have hk0 : upd H kl (.lst [.str "first", .str "new", .str "minus", .str "plus"]) kl = some (.lst (wKi.map Fv.v)) := upd_same
    have t0 : Tabs [(pT, qLam)] (upd H kl (.lst [.str "first", .str "new", .str "minus", .str "plus"])) := fun p hp => by
      rw [List.mem_singleton.mp hp]
      exact TabS.nil (s0 _ _ hT)
    generalize upd H kl (.lst [.str "first", .str "new", .str "minus", .str "plus"]) = H1 at s0 hk0 t0 ⊢
    try dsimp only [gName, tSeq, tAsg, tNext]
    refine ⟨_, rfl, a, _, rfl, .inl (s0.seq hS), _, _, rfl, _, _, rfl, ?_⟩
    rw [List.length_map]
    have hn : (if (if (ns.length : Int) < 5 then (ns.length : Int) else 5) > 2 then (if (ns.length : Int) < 5 then (ns.length : Int) else 5) else 2) ≤ 5 ∧ 1 ≤ (if (if (ns.length : Int) < 5 then (ns.length : Int) else 5) > 2 then (if (ns.length : Int) < 5 then (ns.length : Int) else 5) else 2) := by
      constructor <;> (split <;> (try split) <;> omega)
    generalize (if (if (ns.length : Int) < 5 then (ns.length : Int) else 5) > 2 then (if (ns.length : Int) < 5 then (ns.length : Int) else 5) else 2) = n at hn
    refine ⟨n, rfl, by omega, by omega, for_range (lo := 0) (n := n.toNat) (fun i σ H' => (∃ o2 o3 o4 o5 o6 o7 : Option V, σ = [some (.ref a), some (.ref kl), o2, o3, o4, o5, o6, o7, none]) ∧ H' kl = some (.lst (wKi.map Fv.v)) ∧ SqL K H' a (ns.map V.int) ∧ Tabs [(pT, qLam)] H') ⟨⟨_, _, _, _, _, _, rfl⟩, hk0, s0.seq hS, t0⟩ ?_ ?_⟩
    · rintro i σ H2 hi ⟨⟨o2, o3, o4, o5, o6, o7, rfl⟩, hk2, hS2, t2⟩
      try dsimp only [gName, tSeq, tAsg, tNext]
      refine ⟨_, rfl, _, rfl, a, ns, _, rfl, hS2, hl, by omega, by omega, fun b u v nb okb => ?_⟩
      have s2 : Same H2 (upd H2 b (box u v)) := Same.new nb
      have hb3 : upd H2 b (box u v) b = some (box u v) := upd_same
      have nkb : kl ≠ b := fun z => by
        rw [z, nb] at hk2
        cases hk2
      have e3 : ExtN H2 (upd H2 b (box u v)) := ExtN.of s2
      have t3 := t2.ext s2
      generalize upd H2 b (box u v) = H3 at s2 hb3 e3 t3 ⊢
      try dsimp only [gName, tSeq, tAsg, tNext]
      refine ⟨8, rfl, by decide, by decide, for_range (lo := 0) (n := 8) (fun j σ H' => (∃ o4 o5 o6 o7 : Option V, σ = [some (.ref a), some (.ref kl), some (.int (0 + (i : Nat))), some (.ref b), o4, o5, o6, o7, none]) ∧ ExtN H2 H' ∧ (∃ u v, BoxOk u v ∧ H' b = some (box u v)) ∧ Tabs [(pT, qLam)] H') ⟨⟨_, _, _, _, rfl⟩, e3, ⟨u, v, okb, hb3⟩, t3⟩ ?_ ?_⟩
      · rintro j σ HA hj ⟨⟨o4, o5, o6, o7, rfl⟩, eA, ⟨uA, vA, okA, hbA⟩, tA⟩
        try dsimp only [gName, tSeq, tAsg, tNext]
        have hkA : HA kl = some (.lst (wKi.map Fv.v)) := eA _ _ hk2 (fun q z => by cases z)
        have okLL : ∀ L ∈ LL1, L.length ≤ 100 ∧ 1 ≤ L.length ∧ ∀ x ∈ L, x ∈ flats := fun L h => LL_ok L (List.mem_append_left _ (List.mem_append_left _ h))
        have okLm : ∀ L ∈ LL1m, L.length ≤ 100 ∧ 1 ≤ L.length ∧ ∀ x ∈ L, x ∈ flats := fun L h => LL_ok L (List.mem_append_left _ (List.mem_append_right _ h))
        have okL2 : ∀ L ∈ LL2, L.length ≤ 100 ∧ 1 ≤ L.length ∧ ∀ x ∈ L, x ∈ flats := fun L h => LL_ok L (List.mem_append_right _ h)
        refine mk_ls1 (b := b) rfl hkA nkb hbA fun l ls HB sB nl llB => ?_
        have hbB := sB _ _ hbA
        have tB := tA.ext sB
        have eB := ext_same eA sB
        try dsimp only [gName, tSeq, tAsg, tNext]
        refine told_go llB hbB okA okLL (by decide) fun D vs ds HC pC nD hD ad nds sm => ?_
        obtain ⟨_, uC, vC, okC, hbC⟩ := id pC
        have tC : Tabs [(pT, qLam)] HC := Tabs.keep tB (Pre.kp hbB pC)
        have eC := ext_pre eB nb pC.1
        have llC := llB.mv pC.1
        match ds, nds, ad, sm with
        | [kd, sd, dd, pd], _, ad, sm =>
          match vs, ad with
          | _, .cons (v := v0) a0 (.cons (v := v1) a1 (.cons (v := v2) a2 (.cons (v := v3) a3 .nil))) =>
            have s0d := sm kd (by simp)
            have s1d := sm sd (by simp)
            have s2d := sm dd (by simp)
            have s3d := sm pd (by simp)
            try dsimp only [gName, tSeq, tAsg, tNext]
            refine cut_here (M := fun σ' G => σ' = [some (.ref a), some (.ref kl), some (.int (0 + (i : Nat))), some (.ref b), some (.int (0 + (j : Nat))), some (.ref l), some (.ref D), o7, none] ∧ ExtN H2 G ∧ G b = some (box uC vC) ∧ Tabs [(pT, qLam)] G ∧ G D = some (.lst [v0, v1, v2, v3]) ∧ Ad NT G v0 kd ∧ Ad NT G v1 sd ∧ Ad NT G v2 dd ∧ Ad NT G v3 pd ∧ ∃ ls', LlAt b (if mpB kd then LL1m else LL1) l ls' G) ?_ ?_
            · rintro σ' G ⟨rfl, eG, hbG, tG, hDG, g0, g1, g2, g3, ls', llG⟩
              try dsimp only [gName, tSeq, tAsg, tNext]
              have okM : ∀ L ∈ (if mpB kd then LL1m else LL1), L.length ≤ 100 ∧ ∀ x ∈ L, x ∈ flats := fun L h => by
                cases m : mpB kd with
                | true =>
                  rw [m] at h
                  exact ⟨(okLm L h).1, (okLm L h).2.2⟩
                | false =>
                  rw [m] at h
                  exact ⟨(okLL L h).1, (okLL L h).2.2⟩
              refine ⟨_, rfl, (by show 4 ≤ sizeLine; decide), fun wp nw => ?_⟩
              have sW : Same G (upd G wp (.lst [.str "kind", .str "state", .str "deed", .str "place"])) := Same.new nw
              have gW : upd G wp (.lst [.str "kind", .str "state", .str "deed", .str "place"]) wp = some (.lst (words4.map V.str)) := upd_same
              generalize upd G wp (.lst [.str "kind", .str "state", .str "deed", .str "place"]) = GW at sW gW ⊢
              have llW := llG.mv (SameX.of sW)
              have mvW : ∀ {v : V} {d : PyData} {G1 G2 : Hp}, ExtN G1 G2 → Ad NT G1 v d → Ad NT G2 v d := fun s h => Ad.mv (fun _ z => z) (fun c o _ e nt => s c o e nt) _ _ h
              have lW : ExtN G GW := ExtN.of sW
              refine ⟨_, rfl, D, wp, l, [v0, v1, v2, v3], ls', [kd, sd, dd, pd], words4, _, rfl, sW _ _ hDG, .cons (mvW lW g0) (.cons (mvW lW g1) (.cons (mvW lW g2) (.cons (mvW lW g3) .nil))), gW, llW.at_, llW.it.imp (fun _ _ r => r.lf), rfl, (by cases mpB kd <;> rfl), (fun d hd => sm d hd), okM, fun HE sE => ?_⟩
              rw [due_let]
              have S1 := sW.trans sE
              have eE := ext_same eG S1
              have tE := tG.ext S1
              have hbE := S1 _ _ hbG
              have hDE := S1 _ _ hDG
              have lE : ExtN G HE := ExtN.of S1
              try dsimp only [gName, tSeq, tAsg, tNext]
              refine cut_here (M := fun σ' G' => (∃ o5 o6 o7 : Option V, σ' = [some (.ref a), some (.ref kl), some (.int (0 + (i : Nat))), some (.ref b), some (.int (0 + (j : Nat))), o5, o6, o7, none]) ∧ ExtN H2 G' ∧ G' b = some (box uC vC) ∧ Tabs [(pT, qLam)] G') ?_ ?_
              · rintro σ' G' ⟨⟨p5, p6, p7, rfl⟩, eG', hbG', tG'⟩
                try dsimp only [gName, tSeq, tAsg, tNext]
                refine mk_ls2 (b := b) rfl (eG' _ _ hk2 (fun q z => by cases z)) nkb hbG' fun l2 lt2 HK sK nl2 llK => ?_
                have hbK := sK _ _ hbG'
                have tK := tG'.ext sK
                have eK := ext_same eG' sK
                try dsimp only [gName, tSeq, tAsg, tNext]
                refine told_go llK hbK okC okL2 (by decide) fun D2 vs2 ds2 HL pL nD2 hD2 ad2 nds2 sm2 => ?_
                obtain ⟨_, uL, vL, okBL, hbL⟩ := id pL
                have tL : Tabs [(pT, qLam)] HL := Tabs.keep tK (Pre.kp hbK pL)
                have eL := ext_pre eK nb pL.1
                have llL := llK.mv pL.1
                match ds2, nds2, ad2, sm2 with
                | [kd2, wd2, od2], _, ad2, sm2 =>
                  match vs2, ad2 with
                  | _, .cons (v := w0) c0 (.cons (v := w1) c1 (.cons (v := w2) c2 .nil)) =>
                    try dsimp only [gName, tSeq, tAsg, tNext]
                    have mvT : ∀ {N : Addr → Prop} {v : V} {d : PyData} {G1 G2 : Hp}, ExtN G1 G2 → Ad N G1 v d → Ad NT G2 v d := fun s h => Ad.mv (fun _ _ => trivial) (fun c o _ e nt => s c o e nt) _ _ h
                    refine ⟨_, rfl, (by show 3 ≤ sizeLine; decide), fun wp2 nw2 => ?_⟩
                    have sX : Same HL (upd HL wp2 (.lst [.str "kind", .str "weight", .str "whose"])) := Same.new nw2
                    have gX : upd HL wp2 (.lst [.str "kind", .str "weight", .str "whose"]) wp2 = some (.lst (words3.map V.str)) := upd_same
                    generalize upd HL wp2 (.lst [.str "kind", .str "weight", .str "whose"]) = HX at sX gX ⊢
                    have llX := llL.mv (SameX.of sX)
                    have lX : ExtN HL HX := ExtN.of sX
                    refine ⟨_, rfl, D2, wp2, l2, [w0, w1, w2], lt2, [kd2, wd2, od2], words3, LL2, rfl, sX _ _ hD2, .cons (mvT lX c0) (.cons (mvT lX c1) (.cons (mvT lX c2) .nil)), gX, llX.at_, llX.it.imp (fun _ _ r => r.lf), rfl, rfl, (fun d hd => sm2 d hd), (fun L h => ⟨(okL2 L h).1, (okL2 L h).2.2⟩), fun HY sY => ?_⟩
                    rw [due_cnt]
                    have S2 := sX.trans sY
                    have eY := ext_same eL S2
                    have tY := tL.ext S2
                    have hbY := S2 _ _ hbL
                    have hDY := S2 _ _ hD2
                    have lY : ExtN HL HY := ExtN.of S2
                    try dsimp only [gName, tSeq, tAsg, tNext]
                    refine ⟨tY, fun HF eF tF => ?_⟩
                    have hDF := eF _ _ hDY (fun q z => by cases z)
                    refine ⟨_, rfl, D2, _, 0, _, rfl, rfl, SqL.of hDF, rfl, _, rfl, D2, _, 1, _, rfl, rfl, SqL.of hDF, rfl, _, rfl, D2, _, 2, _, rfl, rfl, SqL.of hDF, rfl, fun y dy ny ndy ne => ?_⟩
                    have sM : Same HF (upd (upd HF dy (.own y)) y (.ins c.C dy [])) := made_same ny ndy
                    have lM : ExtN HL (upd (upd HF dy (.own y)) y (.ins c.C dy [])) := ext_same (lY.trans eF) sM
                    refine ⟨y, dy, w0, w1, w2, kd2, wd2, od2, rfl, upd_same, mvT lM c0, mvT lM c1, mvT lM c2, sm2 wd2 (by simp), fun e HG sG => ⟨rfl, ?_⟩, fun z e d HG sG hd => ⟨rfl, d, z, rfl, hd, ?_⟩⟩
                    · have sA : Same HF HG := fun c o h => sG c o (fun z => by
                        rw [z, ny] at h
                        cases h) (sM c o h)
                      refine ⟨_, rfl, ?_⟩
                      rw [e]
                      exact ne_self (o := none) ⟨_, rfl, iteF ⟨⟨_, _, _, _, rfl⟩, ext_same (eY.trans eF) sA, ⟨uL, vL, okBL, sA _ _ (eF _ _ hbY (fun q z => by cases z))⟩, tF.ext sA⟩⟩
                    · have sA : Same HF HG := sM.trans sG
                      refine ⟨_, rfl, ?_⟩
                      rw [e]
                      exact ne_self (o := some z) ⟨_, rfl, iteF ⟨⟨_, _, _, _, rfl⟩, ext_same (eY.trans eF) sA, ⟨uL, vL, okBL, sA _ _ (eF _ _ hbY (fun q z => by cases z))⟩, tF.ext sA⟩⟩
              · intro X hX
                refine ⟨tE, fun HF eF tF => ?_⟩
                have hDF := eF _ _ hDE (fun q z => by cases z)
                have fin : ∀ HG, Same HF HG → X [some (.ref a), some (.ref kl), some (.int (0 + (i : Nat))), some (.ref b), some (.int (0 + (j : Nat))), some (.ref l), some (.ref D), some (oStr (wrongLt kd sd dd pd)), none] HG := fun HG sG => hX _ _ ⟨⟨_, _, _, rfl⟩, ext_same (eE.trans eF) sG, sG _ _ (eF _ _ hbE (fun q z => by cases z)), tF.ext sG⟩
                refine ⟨_, rfl, D, _, 0, _, rfl, rfl, SqL.of hDF, rfl, _, rfl, D, _, 1, _, rfl, rfl, SqL.of hDF, rfl, _, rfl, D, _, 2, _, rfl, rfl, SqL.of hDF, rfl, _, rfl, D, _, 3, _, rfl, rfl, SqL.of hDF, rfl, fun y dy ny ndy ne => ?_⟩
                have sM : Same HF (upd (upd HF dy (.own y)) y (.ins c.L dy [])) := made_same ny ndy
                have lM : ExtN G (upd (upd HF dy (.own y)) y (.ins c.L dy [])) := ext_same (lE.trans eF) sM
                refine ⟨y, dy, v0, v1, v2, v3, kd, sd, dd, pd, rfl, upd_same, mvW lM g0, mvW lM g1, mvW lM g2, mvW lM g3, fun e HG sG => ⟨rfl, ?_⟩, fun z e d HG sG hd => ⟨rfl, d, z, rfl, hd, ?_⟩⟩
                · have sA : Same HF HG := fun c o h => sG c o (fun z => by
                    rw [z, ny] at h
                    cases h) (sM c o h)
                  refine ⟨_, rfl, ?_⟩
                  rw [e]
                  refine ne_self (o := none) ⟨_, rfl, iteF ?_⟩
                  have z := fin HG sA
                  rw [e] at z
                  exact z
                · refine ⟨_, rfl, ?_⟩
                  rw [e]
                  refine ne_self (o := some z) ⟨_, rfl, iteF ?_⟩
                  have z2 := fin HG (sM.trans sG)
                  rw [e] at z2
                  exact z2
            · intro X hX
              refine ⟨_, rfl, D, _, 0, _, rfl, rfl, SqL.of hD, rfl, (by show 2 ≤ sizeLine; decide), fun t nt => ⟨t, ["minus", "plus"], NT, kd, rfl, .inr (SqT.of upd_same), ?_, _, rfl, ?_⟩⟩
              · exact Ad.mv (fun _ _ => trivial) (fun c o _ e _ => Same.new nt c o e) kd v0 a0
              have sT : Same HC (upd HC t (.tup [.str "minus", .str "plus"])) := Same.new nt
              generalize upd HC t (.tup [.str "minus", .str "plus"]) = HT at sT ⊢
              have llT : LlAt b LL1 l ls HT := llC.mv (SameX.of sT)
              have nlC : ∀ {c : Addr}, NewIn HB c → c ≠ l := fun n z => by
                subst z
                cases llB.at_.symm.trans n
              cases m : mpB kd with
              | false =>
                have m' : amV (wordsV ["minus", "plus"]) kd = false := m
                rw [m']
                refine iteF (hX _ _ ⟨rfl, ext_same eC sT, sT _ _ hbC, tC.ext sT, sT _ _ hD, ?_, ?_, ?_, ?_, ls, ?_⟩)
                · exact Ad.mv (fun _ _ => trivial) (fun c o _ e _ => sT c o e) _ _ a0
                · exact Ad.mv (fun _ _ => trivial) (fun c o _ e _ => sT c o e) _ _ a1
                · exact Ad.mv (fun _ _ => trivial) (fun c o _ e _ => sT c o e) _ _ a2
                · exact Ad.mv (fun _ _ => trivial) (fun c o _ e _ => sT c o e) _ _ a3
                · rw [m]
                  exact llT
              | true =>
                have m' : amV (wordsV ["minus", "plus"]) kd = true := m
                rw [m']
                refine iteT ⟨(by show 2 ≤ sizeLine; decide), fun p np => ?_⟩
                have sP : Same HT (upd HT p (.lst [.str "whole", .str "part"])) := Same.new np
                have gP : upd HT p (.lst [.str "whole", .str "part"]) p = some (.lst ((wordsV ["whole", "part"]).map Fv.v)) := upd_same
                have pb : p ≠ b := Ne.symm (ne_of_none (sT _ _ hbC) np)
                have pl' : p ≠ l := Ne.symm (ne_of_none llT.at_ np)
                generalize upd HT p (.lst [.str "whole", .str "part"]) = HP at sP gP ⊢
                have llP : LlAt b LL1 l ls HP := llT.mv (SameX.of sP)
                have l4 : ls.length = 4 := llP.it.1
                refine ⟨_, rfl, l, _, 2, 2, rfl, rfl, llP.at_, (by rw [l4]; rfl), ?_⟩
                have SP : Same HC HP := sT.trans sP
                have out : ∀ {c : Addr} {o : HO}, c ≠ l → HP c = some o → upd HP l (.lst (ls.set 2 (.ref p))) c = some o := fun n e => by
                  rw [upd_ne n]
                  exact e
                have nDl : D ≠ l := fun z => by
                  rw [z, llB.at_] at nD
                  cases nD
                refine hX _ _ ⟨rfl, fun c o hc nt => out (fun z => by
                  have q := eA c o hc nt
                  rw [z, nl] at q
                  cases q) (SP _ _ (eC c o hc nt)), out llB.ne.symm (SP _ _ hbC), Tabs.keep (tC.ext SP) (Keep.lst llP.at_), out nDl (SP _ _ hD), ?_, ?_, ?_, ?_, ls.set 2 (.ref p), ?_⟩
                · exact Ad.mv (fun _ _ => trivial) (fun c o n e _ => out (nlC n) (SP c o e)) _ _ a0
                · exact Ad.mv (fun _ _ => trivial) (fun c o n e _ => out (nlC n) (SP c o e)) _ _ a1
                · exact Ad.mv (fun _ _ => trivial) (fun c o n e _ => out (nlC n) (SP c o e)) _ _ a2
                · exact Ad.mv (fun _ _ => trivial) (fun c o n e _ => out (nlC n) (SP c o e)) _ _ a3
                · rw [m, if_pos rfl]
                  have it2 : Ls (fun v L => LfB b L v (upd HP l (.lst (ls.set 2 (.ref p))))) ls LL1 := ⟨llP.it.1, fun i m e => by
                    obtain ⟨v, ev, Dv, eD, nb', hDv⟩ := llP.it.2 i m e
                    refine ⟨v, ev, Dv, eD, nb', out (fun z => ?_) hDv⟩
                    exact llP.ap v (List.mem_of_getElem? ev) (by rw [eD, z])⟩
                  have it3 := Ls.put (v := .ref p) (a := wordsV ["whole", "part"]) it2 ⟨p, rfl, pb, out pl' gP⟩ 2
                  refine ⟨llB.ne, upd_same, it3, fun v hv => ?_⟩
                  rcases List.mem_or_eq_of_mem_set hv with h | h
                  · exact llP.ap v h
                  · rw [h]
                    intro z
                    cases z
                    exact pl' rfl
      · rintro σ HA ⟨⟨o4, o5, o6, o7, rfl⟩, eA, _, tA⟩
        exact ⟨⟨_, _, _, _, _, _, rfl⟩, eA _ _ hk2 (fun q z => by cases z), ExtN.seq eA hS2, tA⟩
    · rintro σ H2 ⟨⟨o2, o3, o4, o5, o6, o7, rfl⟩, hk2, hS2, t2⟩
      try dsimp only [gName, tSeq, tAsg, tNext]
      refine ⟨t2, fun HF eF tF => ?_⟩
      refine fun y dy ny ndy ne => ?_
      have bad : wrongLt (.str "plus") (.str "open") (.str "right") (.str "now") = some "deed" := by decide +kernel
      refine ⟨y, dy, _, _, _, _, .str "plus", .str "open", .str "right", .str "now", rfl, upd_same, .str _, .str _, .str _, .str _, fun e => ?_, fun z e d HG sG hd => ⟨rfl, d, z, rfl, hd, ?_⟩⟩
      · rw [bad] at e
        cases e
      · rw [bad] at e
        cases e
        exact ⟨rfl, k _⟩
end
end V3

set_option Elab.async false
set_option maxHeartbeats 4000000
set_option linter.all false
set_option maxRecDepth 100000
namespace V3
open PySem L2
theorem kit_ref {K : PySem.W.Frag} {t C : Addr} {b : Bool} (h1 : PySem.W.isClsIn K C = true) (h2 : PySem.W.typeIn K (.ref C) = some (.type "type")) (h3 : PySem.W.subIn K (.ref t) (.ref C) = some b) (h4 : PySem.W.subIn K (.ref t) (.ref t) = some true) :
    PySem.W.kitOne K (.ref t) (.ref C) = some b := by
  unfold PySem.W.kitOne
  by_cases e : t = C
  · subst e
    rw [h4] at h3
    injection h3 with h3
    subst h3
    rw [if_pos (by simp)]
  · have n : (Value.ref t == Value.ref C) = false := by
      refine Bool.eq_false_iff.mpr fun q => e ?_
      exact Value.ref.inj (beq_iff_eq.mp q)
    rw [n, if_neg Bool.false_ne_true]
    have q : ((PySem.W.clsIn K C).isSome && PySem.W.typeIn K (.ref C) == some (.type "type")) = true := by
      have z : (PySem.W.clsIn K C).isSome = true := h1
      rw [z, h2] <;> rfl
    show (if ((PySem.W.clsIn K C).isSome && PySem.W.typeIn K (.ref C) == some (.type "type")) = true then PySem.W.subIn K (.ref t) (.ref C) else none) = some b
    rw [if_pos q]
    exact h3
theorem kit_base {K : PySem.W.Frag} {t : String} {C : Addr} {b : Bool} (h1 : PySem.W.isClsIn K C = true) (h2 : PySem.W.typeIn K (.ref C) = some (.type "type")) (h3 : PySem.W.subIn K (.type t) (.ref C) = some b) :
    PySem.W.kitOne K (.type t) (.ref C) = some b := by
  unfold PySem.W.kitOne
  have n : (Value.type t == Value.ref C) = false := by
    refine Bool.eq_false_iff.mpr fun q => ?_
    cases beq_iff_eq.mp q
  rw [n, if_neg Bool.false_ne_true]
  have q : ((PySem.W.clsIn K C).isSome && PySem.W.typeIn K (.ref C) == some (.type "type")) = true := by
    have z : (PySem.W.clsIn K C).isSome = true := h1
    rw [z, h2] <;> rfl
  show (if ((PySem.W.clsIn K C).isSome && PySem.W.typeIn K (.ref C) == some (.type "type")) = true then PySem.W.subIn K (.type t) (.ref C) else none) = some b
  rw [if_pos q]
  exact h3
theorem kit_rt {K : PySem.W.Frag} {T : String} {C : Addr} {b : Bool} (hm : PySem.W.kitMeta T = true) (h3 : PySem.W.subIn K (.ref C) (.type T) = some b) : PySem.W.kitOne K (.ref C) (.type T) = some b := by
  unfold PySem.W.kitOne
  rw [if_neg (by intro z; cases (beq_iff_eq.mp z))]
  show (if PySem.W.kitMeta T = true then PySem.W.subIn K (.ref C) (.type T) else none) = some b
  rw [if_pos hm]
  exact h3
theorem nf_same {K : PySem.W.Frag} {C : Addr} : PySem.W.notFirst K C (.ref C) = true := by simp [PySem.W.notFirst]
theorem nf_other {K : PySem.W.Frag} {C D : Addr} (h : PySem.W.subIn K (.ref D) (.ref C) = some false) : PySem.W.notFirst K C (.ref D) = true := by
  unfold PySem.W.notFirst
  rw [h]
  simp
theorem nf_type {K : PySem.W.Frag} {C : Addr} {t : String} (h : PySem.W.subIn K (.type t) (.ref C) = some false) : PySem.W.notFirst K C (.type t) = true := by
  unfold PySem.W.notFirst
  rw [h]
  simp
theorem all_mk {l : PySem.W.OpenLaw} {w : World} {K : PySem.W.Frag} {h : Heap} {mg : Str → Option Value} {fa f_int f_ww f_wp f_seed f_choose f_one f_any f_wo f_due f_mo f_law LC CC f_li f_ci KA SA DA PA OA WA CI f_ir CB CH cT pT : Addr} (X : K.In h) (G : h.Ns mainGlobals mg) (hfa : mg "law" = some (.ref fa))
    {od_f_int an_f_int : Option Addr} {sl_f_int : Array (Option Value)} {oc_f_int kV_f_int dc_f_int pm_f_int cd_f_int ct_f_int : Value}
    {od_f_ww an_f_ww : Option Addr} {sl_f_ww : Array (Option Value)} {oc_f_ww kV_f_ww dc_f_ww pm_f_ww cd_f_ww ct_f_ww : Value}
    {od_f_wp an_f_wp : Option Addr} {sl_f_wp : Array (Option Value)} {oc_f_wp kV_f_wp dc_f_wp pm_f_wp cd_f_wp ct_f_wp : Value}
    {od_f_seed an_f_seed : Option Addr} {sl_f_seed : Array (Option Value)} {oc_f_seed kV_f_seed dc_f_seed pm_f_seed cd_f_seed ct_f_seed : Value}
    {od_f_choose an_f_choose : Option Addr} {sl_f_choose : Array (Option Value)} {oc_f_choose kV_f_choose dc_f_choose pm_f_choose cd_f_choose ct_f_choose : Value}
    {od_f_one an_f_one : Option Addr} {sl_f_one : Array (Option Value)} {oc_f_one kV_f_one dc_f_one pm_f_one cd_f_one ct_f_one : Value}
    {od_f_any an_f_any : Option Addr} {sl_f_any : Array (Option Value)} {oc_f_any kV_f_any dc_f_any pm_f_any cd_f_any ct_f_any : Value}
    {od_f_wo an_f_wo : Option Addr} {sl_f_wo : Array (Option Value)} {oc_f_wo kV_f_wo dc_f_wo pm_f_wo cd_f_wo ct_f_wo : Value}
    {od_f_due an_f_due : Option Addr} {sl_f_due : Array (Option Value)} {oc_f_due kV_f_due dc_f_due pm_f_due cd_f_due ct_f_due : Value}
    {od_f_mo an_f_mo : Option Addr} {sl_f_mo : Array (Option Value)} {oc_f_mo kV_f_mo dc_f_mo pm_f_mo cd_f_mo ct_f_mo : Value}
    {od_f_law an_f_law : Option Addr} {sl_f_law : Array (Option Value)} {oc_f_law kV_f_law dc_f_law pm_f_law cd_f_law ct_f_law : Value}
    {od_f_li an_f_li : Option Addr} {sl_f_li : Array (Option Value)} {oc_f_li kV_f_li dc_f_li pm_f_li cd_f_li ct_f_li : Value}
    {od_f_ci an_f_ci : Option Addr} {sl_f_ci : Array (Option Value)} {oc_f_ci kV_f_ci dc_f_ci pm_f_ci cd_f_ci ct_f_ci : Value}
    {t0_KA t1_KA t2_KA t3_KA : Tok} {dd_KA : Option Addr} {n_KA : Nat} {ds_KA : Array (Option Value)}
    {t0_SA t1_SA : Tok} {dd_SA : Option Addr} {n_SA : Nat} {ds_SA : Array (Option Value)}
    {t0_DA t1_DA t2_DA : Tok} {dd_DA : Option Addr} {n_DA : Nat} {ds_DA : Array (Option Value)}
    {t0_PA t1_PA : Tok} {dd_PA : Option Addr} {n_PA : Nat} {ds_PA : Array (Option Value)}
    {t0_OA t1_OA t2_OA t3_OA : Tok} {dd_OA : Option Addr} {n_OA : Nat} {ds_OA : Array (Option Value)}
    {t0_WA t1_WA t2_WA : Tok} {dd_WA : Option Addr} {n_WA : Nat} {ds_WA : Array (Option Value)}
    {nm_CI q_CI : Str} {N_CI : Addr} {bs_CI bm_CI : List Value} {sn_CI : List Str} {sub_CI : List Value} {ab_CI : Bool} {col_CI : Option Bool} {dd_CI : Option Addr} {m0_CI m1_CI m2_CI m3_CI m5_CI : Option Value}
    {od_f_ir an_f_ir : Option Addr} {sl_f_ir : Array (Option Value)} {oc_f_ir kV_f_ir dc_f_ir pm_f_ir cd_f_ir ct_f_ir : Value}
    (g_f_int : PySem.W.nsIn K mainGlobals "is_integer" = some (some (.ref f_int)))
    (l_f_int : K.lookup f_int = some ⟨oc_f_int, od_f_int, .func (PySem.W.fnOf "is_integer" "is_integer" (defArgs sIsInt) (defBody sIsInt) (defScope sIsInt) .none kV_f_int dc_f_int pm_f_int an_f_int cd_f_int ct_f_int), sl_f_int⟩)
    (c_f_int : PySem.W.codeIn K cd_f_int "is_integer" = true)
    (k_f_int : PySem.W.keepIn K (.ref f_int) = true)
    (g_f_ww : PySem.W.nsIn K mainGlobals "wrong_word" = some (some (.ref f_ww)))
    (l_f_ww : K.lookup f_ww = some ⟨oc_f_ww, od_f_ww, .func (PySem.W.fnOf "wrong_word" "wrong_word" (defArgs sWrongWord) (defBody sWrongWord) (defScope sWrongWord) .none kV_f_ww dc_f_ww pm_f_ww an_f_ww cd_f_ww ct_f_ww), sl_f_ww⟩)
    (c_f_ww : PySem.W.codeIn K cd_f_ww "wrong_word" = true)
    (k_f_ww : PySem.W.keepIn K (.ref f_ww) = true)
    (g_f_wp : PySem.W.nsIn K mainGlobals "wrong_part" = some (some (.ref f_wp)))
    (l_f_wp : K.lookup f_wp = some ⟨oc_f_wp, od_f_wp, .func (PySem.W.fnOf "wrong_part" "wrong_part" (defArgs sWrongPart) (defBody sWrongPart) (defScope sWrongPart) .none kV_f_wp dc_f_wp pm_f_wp an_f_wp cd_f_wp ct_f_wp), sl_f_wp⟩)
    (c_f_wp : PySem.W.codeIn K cd_f_wp "wrong_part" = true)
    (k_f_wp : PySem.W.keepIn K (.ref f_wp) = true)
    (g_f_seed : PySem.W.nsIn K mainGlobals "_law_seed" = some (some (.ref f_seed)))
    (l_f_seed : K.lookup f_seed = some ⟨oc_f_seed, od_f_seed, .func (PySem.W.fnOf "_law_seed" "_law_seed" (defArgs sSeed) (defBody sSeed) (defScope sSeed) .none kV_f_seed dc_f_seed pm_f_seed an_f_seed cd_f_seed ct_f_seed), sl_f_seed⟩)
    (c_f_seed : PySem.W.codeIn K cd_f_seed "_law_seed" = true)
    (k_f_seed : PySem.W.keepIn K (.ref f_seed) = true)
    (g_f_choose : PySem.W.nsIn K mainGlobals "_law_choose" = some (some (.ref f_choose)))
    (l_f_choose : K.lookup f_choose = some ⟨oc_f_choose, od_f_choose, .func (PySem.W.fnOf "_law_choose" "_law_choose" (defArgs sChoose) (defBody sChoose) (defScope sChoose) .none kV_f_choose dc_f_choose pm_f_choose an_f_choose cd_f_choose ct_f_choose), sl_f_choose⟩)
    (c_f_choose : PySem.W.codeIn K cd_f_choose "_law_choose" = true)
    (k_f_choose : PySem.W.keepIn K (.ref f_choose) = true)
    (g_f_one : PySem.W.nsIn K mainGlobals "_law_one_of" = some (some (.ref f_one)))
    (l_f_one : K.lookup f_one = some ⟨oc_f_one, od_f_one, .func (PySem.W.fnOf "_law_one_of" "_law_one_of" (defArgs sOneOf) (defBody sOneOf) (defScope sOneOf) .none kV_f_one dc_f_one pm_f_one an_f_one cd_f_one ct_f_one), sl_f_one⟩)
    (c_f_one : PySem.W.codeIn K cd_f_one "_law_one_of" = true)
    (k_f_one : PySem.W.keepIn K (.ref f_one) = true)
    (g_f_any : PySem.W.nsIn K mainGlobals "_law_any" = some (some (.ref f_any)))
    (l_f_any : K.lookup f_any = some ⟨oc_f_any, od_f_any, .func (PySem.W.fnOf "_law_any" "_law_any" (defArgs sAnyV) (defBody sAnyV) (defScope sAnyV) .none kV_f_any dc_f_any pm_f_any an_f_any cd_f_any ct_f_any), sl_f_any⟩)
    (c_f_any : PySem.W.codeIn K cd_f_any "_law_any" = true)
    (k_f_any : PySem.W.keepIn K (.ref f_any) = true)
    (g_f_wo : PySem.W.nsIn K mainGlobals "_law_word" = some (some (.ref f_wo)))
    (l_f_wo : K.lookup f_wo = some ⟨oc_f_wo, od_f_wo, .func (PySem.W.fnOf "_law_word" "_law_word" (defArgs sWordL) (defBody sWordL) (defScope sWordL) .none kV_f_wo dc_f_wo pm_f_wo an_f_wo cd_f_wo ct_f_wo), sl_f_wo⟩)
    (c_f_wo : PySem.W.codeIn K cd_f_wo "_law_word" = true)
    (k_f_wo : PySem.W.keepIn K (.ref f_wo) = true)
    (g_f_due : PySem.W.nsIn K mainGlobals "_law_due" = some (some (.ref f_due)))
    (l_f_due : K.lookup f_due = some ⟨oc_f_due, od_f_due, .func (PySem.W.fnOf "_law_due" "_law_due" (defArgs sDueL) (defBody sDueL) (defScope sDueL) .none kV_f_due dc_f_due pm_f_due an_f_due cd_f_due ct_f_due), sl_f_due⟩)
    (c_f_due : PySem.W.codeIn K cd_f_due "_law_due" = true)
    (k_f_due : PySem.W.keepIn K (.ref f_due) = true)
    (g_f_mo : PySem.W.nsIn K mainGlobals "_law_mostly" = some (some (.ref f_mo)))
    (l_f_mo : K.lookup f_mo = some ⟨oc_f_mo, od_f_mo, .func (PySem.W.fnOf "_law_mostly" "_law_mostly" (defArgs sMostly) (defBody sMostly) (defScope sMostly) .none kV_f_mo dc_f_mo pm_f_mo an_f_mo cd_f_mo ct_f_mo), sl_f_mo⟩)
    (c_f_mo : PySem.W.codeIn K cd_f_mo "_law_mostly" = true)
    (k_f_mo : PySem.W.keepIn K (.ref f_mo) = true)
    (g_f_law : PySem.W.nsIn K mainGlobals "law" = some (some (.ref f_law)))
    (l_f_law : K.lookup f_law = some ⟨oc_f_law, od_f_law, .func (PySem.W.fnOf "law" "law" (defArgs sLaw) (defBody sLaw) (defScope sLaw) .none kV_f_law dc_f_law pm_f_law an_f_law cd_f_law ct_f_law), sl_f_law⟩)
    (c_f_law : PySem.W.codeIn K cd_f_law "law" = true)
    (k_f_law : PySem.W.keepIn K (.ref f_law) = true)
    (g_LC : PySem.W.nsIn K mainGlobals "Let" = some (some (.ref LC)))
    (g_CC : PySem.W.nsIn K mainGlobals "Count" = some (some (.ref CC)))
    (pg_LC : PySem.W.plainGet K LC Str.empty = true)
    (hd_LC : PySem.W.hasDictIn K LC = true)
    (po_LC : PySem.W.plainOver K LC = true)
    (sa_LC : PySem.W.findIn K (.ref LC) "__setattr__" = some (some (.builtin "object.__setattr__")))
    (mk_LC : PySem.W.makesIn K LC = true)
    (kc_LC : PySem.W.keepIn K (.ref LC) = true)
    (pg_CC : PySem.W.plainGet K CC Str.empty = true)
    (hd_CC : PySem.W.hasDictIn K CC = true)
    (po_CC : PySem.W.plainOver K CC = true)
    (sa_CC : PySem.W.findIn K (.ref CC) "__setattr__" = some (some (.builtin "object.__setattr__")))
    (mk_CC : PySem.W.makesIn K CC = true)
    (kc_CC : PySem.W.keepIn K (.ref CC) = true)
    (no_LC_kind : PySem.W.findIn K (.ref LC) "kind" = some none)
    (no_LC_state : PySem.W.findIn K (.ref LC) "state" = some none)
    (no_LC_deed : PySem.W.findIn K (.ref LC) "deed" = some none)
    (no_LC_place : PySem.W.findIn K (.ref LC) "place" = some none)
    (no_CC_kind : PySem.W.findIn K (.ref CC) "kind" = some none)
    (no_CC_weight : PySem.W.findIn K (.ref CC) "weight" = some none)
    (no_CC_whose : PySem.W.findIn K (.ref CC) "whose" = some none)
    (a_f_li : PySem.W.findIn K (.ref LC) "__init__" = some (some (.ref f_li)))
    (i_f_li : PySem.W.isFn K (.ref f_li) = true)
    (l_f_li : K.lookup f_li = some ⟨oc_f_li, od_f_li, .func (PySem.W.fnOf "__init__" "Let.__init__" (defArgs sLInit) (defBody sLInit) (defScope sLInit) .none kV_f_li dc_f_li pm_f_li an_f_li cd_f_li ct_f_li), sl_f_li⟩)
    (c_f_li : PySem.W.codeIn K cd_f_li "Let.__init__" = true)
    (k_f_li : PySem.W.keepIn K (.ref f_li) = true)
    (a_f_ci : PySem.W.findIn K (.ref CC) "__init__" = some (some (.ref f_ci)))
    (i_f_ci : PySem.W.isFn K (.ref f_ci) = true)
    (l_f_ci : K.lookup f_ci = some ⟨oc_f_ci, od_f_ci, .func (PySem.W.fnOf "__init__" "Count.__init__" (defArgs sCInit) (defBody sCInit) (defScope sCInit) .none kV_f_ci dc_f_ci pm_f_ci an_f_ci cd_f_ci ct_f_ci), sl_f_ci⟩)
    (c_f_ci : PySem.W.codeIn K cd_f_ci "Count.__init__" = true)
    (k_f_ci : PySem.W.keepIn K (.ref f_ci) = true)
    (g_KA : PySem.W.nsIn K mainGlobals "KINDS" = some (some (.ref KA)))
    (q_KA : K.lookup KA = some ⟨.type "tuple", dd_KA, .seq #[.str "first" t0_KA, .str "new" t1_KA, .str "minus" t2_KA, .str "plus" t3_KA] n_KA, ds_KA⟩)
    (g_SA : PySem.W.nsIn K mainGlobals "STATES" = some (some (.ref SA)))
    (q_SA : K.lookup SA = some ⟨.type "tuple", dd_SA, .seq #[.str "open" t0_SA, .str "shut" t1_SA] n_SA, ds_SA⟩)
    (g_DA : PySem.W.nsIn K mainGlobals "DEEDS" = some (some (.ref DA)))
    (q_DA : K.lookup DA = some ⟨.type "tuple", dd_DA, .seq #[.str "whole" t0_DA, .str "part" t1_DA, .str "right" t2_DA] n_DA, ds_DA⟩)
    (g_PA : PySem.W.nsIn K mainGlobals "PLACES" = some (some (.ref PA)))
    (q_PA : K.lookup PA = some ⟨.type "tuple", dd_PA, .seq #[.str "now" t0_PA, .str "there" t1_PA] n_PA, ds_PA⟩)
    (g_OA : PySem.W.nsIn K mainGlobals "WHOSE" = some (some (.ref OA)))
    (q_OA : K.lookup OA = some ⟨.type "tuple", dd_OA, .seq #[.str "own" t0_OA, .str "target" t1_OA, .str "top" t2_OA, .str "deed" t3_OA] n_OA, ds_OA⟩)
    (g_WA : PySem.W.nsIn K mainGlobals "WEIGHTS" = some (some (.ref WA)))
    (q_WA : K.lookup WA = some ⟨.type "tuple", dd_WA, .seq #[.int (-1) t0_WA, .int 0 t1_WA, .int 1 t2_WA] n_WA, ds_WA⟩)
    (g_CI : PySem.W.nsIn K mainGlobals "InvalidRow" = some (some (.ref CI)))
    (x_CI : K.lookup CI = some (PySem.excClassObj nm_CI q_CI CI N_CI bs_CI bm_CI true sn_CI sub_CI ab_CI col_CI dd_CI m0_CI m1_CI m2_CI m3_CI m5_CI "ValueError.__new__"))
    (xb_CI : PySem.HandSPX.refsVE bm_CI = true)
    (xsa_CI : PySem.W.findIn K (.ref CI) "__setattr__" = some (some (.builtin "object.__setattr__")))
    (xga_CI : PySem.W.findIn K (.ref CI) "__getattribute__" = some (some (.builtin "BaseException.__getattribute__")))
    (xgg_CI : PySem.W.findIn K (.ref CI) "__getattr__" = some none)
    (xex_CI : PySem.W.subIn K (.ref CI) (.type "BaseException") = some true)
    (xty_CI : PySem.W.typeIn K (.ref CI) = some (.type "type"))
    (xkc_CI : PySem.W.keepIn K (.ref CI) = true)
    (xhd_CI : PySem.W.hasDictIn K CI = true)
    (xis_CI : PySem.W.isClsIn K CI = true)
    (xca_CI : PySem.W.findIn K (.ref CI) "__class__" = some (some (.builtin "object.__class__")))
    (xgn_CI : PySem.W.specialIn K (.builtin "object.__class__") "__get__" = some (some (.builtin "getset_descriptor.__get__")))
    (xtk_CI : PySem.W.takesIn K (.builtin "object.__class__") = some true)
    (xmo_CI : PySem.W.mroIn K CI (.type "object") = some true)
    (xss_CI : PySem.W.subIn K (.ref CI) (.ref CI) = some true)
    (no_CI_word : PySem.W.findIn K (.ref CI) "word" = some none)
    (a_f_ir : PySem.W.findIn K (.ref CI) "__init__" = some (some (.ref f_ir)))
    (tf_ir : PySem.W.typeIn K (.ref f_ir) = some (.type "function"))
    (l_f_ir : K.lookup f_ir = some ⟨oc_f_ir, od_f_ir, .func (PySem.W.fnOf "__init__" "InvalidRow.__init__" (defArgs sIrInit) (defBody sIrInit) (defScope sIrInit) .none kV_f_ir dc_f_ir pm_f_ir an_f_ir cd_f_ir ct_f_ir), sl_f_ir⟩)
    (c_f_ir : PySem.W.codeIn K cd_f_ir "InvalidRow.__init__" = true)
    (k_f_ir : PySem.W.keepIn K (.ref f_ir) = true)
    (te_CI : PySem.W.exmOne K (.ref CI) (.ref CI) = some true)
    (g_CB : PySem.W.nsIn K mainGlobals "BookError" = some (some (.ref CB)))
    (is_CB : PySem.W.isClsIn K CB = true)
    (ty_CB : PySem.W.typeIn K (.ref CB) = some (.type "type"))
    (su_CI_CB : PySem.W.subIn K (.ref CI) (.ref CB) = some true)
    (g_CH : PySem.W.nsIn K mainGlobals "InvalidHouse" = some (some (.ref CH)))
    (is_CH : PySem.W.isClsIn K CH = true)
    (ty_CH : PySem.W.typeIn K (.ref CH) = some (.type "type"))
    (su_CI_CH : PySem.W.subIn K (.ref CI) (.ref CH) = some false)
    (z_len : PySem.W.nsIn K mainGlobals "len" = some none)
    (z_abs : PySem.W.nsIn K mainGlobals "abs" = some none)
    (z_int : PySem.W.nsIn K mainGlobals "int" = some none)
    (z_isinstance : PySem.W.nsIn K mainGlobals "isinstance" = some none)
    (z_bool : PySem.W.nsIn K mainGlobals "bool" = some none)
    (z_range : PySem.W.nsIn K mainGlobals "range" = some none)
    (z_max : PySem.W.nsIn K mainGlobals "max" = some none)
    (z_min : PySem.W.nsIn K mainGlobals "min" = some none)
    (z_zip : PySem.W.nsIn K mainGlobals "zip" = some none)
    (z_repr : PySem.W.nsIn K mainGlobals "repr" = some none)
    (z_tuple : PySem.W.nsIn K mainGlobals "tuple" = some none)
    (hcT : cd_f_law = .ref cT)
    : ∃ fd : FuncData, (∀ (s : Shared) (v : Value), BindsTo s fd ⟨[v], []⟩ [("_law_script", v)]) ∧ ∀ base : Heap, K.In base → base.Ns mainGlobals mg → LamX.TabB base mg cT pT → FnG l.prog w K mg base CX0 8 fa fd ["_law_script"] (spLawT K pT) := by
  have e := hfa.symm.trans (PySem.W.mg_of X G g_f_law)
  cases e
  have F_f_int := fun_mk (st := sIsInt) l_f_int c_f_int k_f_int
  have b_f_int := F_f_int.binds (ps := ["value"]) fun _ _ _ _ _ _ us hl => match us, hl with | [_], _ => rfl
  have F_f_ww := fun_mk (st := sWrongWord) l_f_ww c_f_ww k_f_ww
  have b_f_ww := F_f_ww.binds (ps := ["kind", "state", "deed", "place"]) fun _ _ _ _ _ _ us hl => match us, hl with | [_, _, _, _], _ => rfl
  have F_f_wp := fun_mk (st := sWrongPart) l_f_wp c_f_wp k_f_wp
  have b_f_wp := F_f_wp.binds (ps := ["kind", "weight", "whose"]) fun _ _ _ _ _ _ us hl => match us, hl with | [_, _, _], _ => rfl
  have F_f_seed := fun_mk (st := sSeed) l_f_seed c_f_seed k_f_seed
  have b_f_seed := F_f_seed.binds (ps := ["_law_script", "_law_k"]) fun _ _ _ _ _ _ us hl => match us, hl with | [_, _], _ => rfl
  have F_f_choose := fun_mk (st := sChoose) l_f_choose c_f_choose k_f_choose
  have b_f_choose := F_f_choose.binds (ps := ["_law_box", "_law_many"]) fun _ _ _ _ _ _ us hl => match us, hl with | [_, _], _ => rfl
  have F_f_one := fun_mk (st := sOneOf) l_f_one c_f_one k_f_one
  have b_f_one := F_f_one.binds (ps := ["_law_box", "_law_some"]) fun _ _ _ _ _ _ us hl => match us, hl with | [_, _], _ => rfl
  have F_f_any := fun_mk (st := sAnyV) l_f_any c_f_any k_f_any
  have b_f_any := F_f_any.binds (ps := ["_law_box", "_law_deep"]) fun _ _ _ _ _ _ us hl => match us, hl with | [_, _], _ => rfl
  have F_f_wo := fun_mk (st := sWordL) l_f_wo c_f_wo k_f_wo
  have b_f_wo := F_f_wo.binds (ps := ["_law_make"]) fun _ _ _ _ _ _ us hl => match us, hl with | [_], _ => rfl
  have F_f_due := fun_mk (st := sDueL) l_f_due c_f_due k_f_due
  have b_f_due := F_f_due.binds (ps := ["_law_told", "_law_words", "_law_lists"]) fun _ _ _ _ _ _ us hl => match us, hl with | [_, _, _], _ => rfl
  have F_f_mo := fun_mk (st := sMostly) l_f_mo c_f_mo k_f_mo
  have b_f_mo := F_f_mo.binds (ps := ["_law_box", "_law_some"]) fun _ _ _ _ _ _ us hl => match us, hl with | [_, _], _ => rfl
  have F_f_law := fun_mk (st := sLaw) l_f_law c_f_law k_f_law
  have b_f_law := F_f_law.binds (ps := ["_law_script"]) fun _ _ _ _ _ _ us hl => match us, hl with | [_], _ => rfl
  have cl_LC : Cls K LC := ⟨pg_LC, hd_LC, po_LC, sa_LC⟩
  have cl_CC : Cls K CC := ⟨pg_CC, hd_CC, po_CC, sa_CC⟩
  have F_f_li := fun_mk (st := sLInit) l_f_li c_f_li k_f_li
  have b_f_li := F_f_li.binds (ps := ["self", "kind", "state", "deed", "place"]) fun _ _ _ _ _ _ us hl => match us, hl with | [_, _, _, _, _], _ => rfl
  have F_f_ci := fun_mk (st := sCInit) l_f_ci c_f_ci k_f_ci
  have b_f_ci := F_f_ci.binds (ps := ["self", "kind", "weight", "whose"]) fun _ _ _ _ _ _ us hl => match us, hl with | [_, _, _, _], _ => rfl
  have ox_CI : OexC K CI := ⟨⟨_, _, _, _, _, _, _, _, _, _, _, _, _, _, _, x_CI, xb_CI⟩, xsa_CI, xex_CI, xty_CI, xkc_CI⟩
  have xc_CI : XClass K CI := ⟨xis_CI, xga_CI, xgg_CI, xex_CI, xca_CI, xgn_CI, xtk_CI, xmo_CI⟩
  have xf_CI : XfC K CI := ⟨xga_CI, xgg_CI, xex_CI, xhd_CI⟩
  have F_f_ir := fun_mk (st := sIrInit) l_f_ir c_f_ir k_f_ir
  have b_f_ir := F_f_ir.binds (ps := ["self", "word"]) fun _ _ _ _ _ _ us hl => match us, hl with | [_, _], _ => rfl
  have TA : Blt mg := ⟨PySem.W.mg_none_of X G z_len, PySem.W.mg_none_of X G z_abs, PySem.W.mg_none_of X G z_int⟩
  have RT : RowH K mg KA SA DA PA := ⟨PySem.W.mg_of X G g_KA, PySem.W.mg_of X G g_SA, PySem.W.mg_of X G g_DA, PySem.W.mg_of X G g_PA, fun _ => .inr ⟨_, _, _, q_KA, rfl, rfl, by show 4 ≤ sizeLine; decide, (.cons ⟨_, rfl⟩ (.cons ⟨_, rfl⟩ (.cons ⟨_, rfl⟩ (.cons ⟨_, rfl⟩ .nil))))⟩, fun _ => .inr ⟨_, _, _, q_SA, rfl, rfl, by show 2 ≤ sizeLine; decide, (.cons ⟨_, rfl⟩ (.cons ⟨_, rfl⟩ .nil))⟩, fun _ => .inr ⟨_, _, _, q_DA, rfl, rfl, by show 3 ≤ sizeLine; decide, (.cons ⟨_, rfl⟩ (.cons ⟨_, rfl⟩ (.cons ⟨_, rfl⟩ .nil)))⟩, fun _ => .inr ⟨_, _, _, q_PA, rfl, rfl, by show 2 ≤ sizeLine; decide, (.cons ⟨_, rfl⟩ (.cons ⟨_, rfl⟩ .nil))⟩⟩
  have RC : RowC K mg WA OA := ⟨PySem.W.mg_of X G g_WA, PySem.W.mg_of X G g_OA, fun _ => .inr ⟨_, _, _, q_WA, rfl, rfl, by show 3 ≤ sizeLine; decide, (.cons ⟨_, rfl⟩ (.cons ⟨_, rfl⟩ (.cons ⟨_, rfl⟩ .nil)))⟩, fun _ => .inr ⟨_, _, _, q_OA, rfl, rfl, by show 4 ≤ sizeLine; decide, (.cons ⟨_, rfl⟩ (.cons ⟨_, rfl⟩ (.cons ⟨_, rfl⟩ (.cons ⟨_, rfl⟩ .nil))))⟩⟩
  have FL : LetC K ⟨LC, CC⟩ := ⟨cl_LC, no_LC_kind, no_LC_state, no_LC_deed, no_LC_place⟩
  have FC : CntC K ⟨LC, CC⟩ := ⟨cl_CC, no_CC_kind, no_CC_weight, no_CC_whose⟩
  have WT : WoT K mg CI CB CH := ⟨xc_CI, xf_CI, no_CI_word, te_CI, PySem.W.mg_of X G g_CI, PySem.W.mg_of X G g_CB, PySem.W.mg_of X G g_CH, PySem.W.mg_none_of X G z_isinstance, kit_ref is_CB ty_CB su_CI_CB xss_CI, kit_ref is_CH ty_CH su_CI_CH xss_CI⟩
  have WC : WordC K mg f_wo := ⟨PySem.W.mg_of X G g_f_wo, k_f_wo, _, _, _, _, _, _, _, _, _, l_f_wo, c_f_wo, b_f_wo⟩
  subst hcT
  have F_law : FunC K "law" "law" sLaw _ _ (.ref cT) := ⟨⟨_, _, _, _, _, _, _, _, rfl, l_f_law, c_f_law⟩⟩
  refine ⟨PySem.W.fnOf "law" "law" (defArgs sLaw) (defBody sLaw) (defScope sLaw) .none kV_f_law dc_f_law pm_f_law an_f_law (.ref cT) ct_f_law, fun s v => .of_eq rfl, fun base _ _ TB => ?_⟩
  have IR : IrTxt l.prog w K mg base CI := ⟨PySem.W.mg_of X G g_CI, ox_CI, no_CI_word, f_ir, _, ok_irInit F_f_ir ox_CI no_CI_word, a_f_ir, tf_ir, b_f_ir⟩
  have q_f_int : Cal l.prog w K mg base CX0 "is_integer" 1 ["value"] spInt := ⟨f_int, _, ok_isInt F_f_int ⟨PySem.W.mg_none_of X G z_isinstance, PySem.W.mg_none_of X G z_int, PySem.W.mg_none_of X G z_bool⟩, PySem.W.mg_of X G g_f_int, k_f_int, b_f_int⟩
  have q_f_ww : Cal l.prog w K mg base CX0 "wrong_word" 2 ["kind", "state", "deed", "place"] (spWordD NT) := ⟨f_ww, _, ok_wordD F_f_ww RT, PySem.W.mg_of X G g_f_ww, k_f_ww, b_f_ww⟩
  have q_f_wp : Cal l.prog w K mg base CX0 "wrong_part" 2 ["kind", "weight", "whose"] (spPartD NT) := ⟨f_wp, _, ok_partD F_f_wp RT RC q_f_int, PySem.W.mg_of X G g_f_wp, k_f_wp, b_f_wp⟩
  have MK : MkC l.prog w K mg base ⟨LC, CC⟩ CI := ⟨PySem.W.mg_of X G g_LC, PySem.W.mg_of X G g_CC, ⟨f_li, _, ok_letD F_f_li FL IR q_f_ww, ⟨mk_LC, a_f_li, i_f_li, kc_LC⟩, b_f_li⟩, ⟨f_ci, _, ok_cntD F_f_ci FC IR q_f_wp, ⟨mk_CC, a_f_ci, i_f_ci, kc_CC⟩, b_f_ci⟩⟩
  have q_f_choose : Cal l.prog w K mg base CX0 "_law_choose" 1 ["_law_box", "_law_many"] spChoose := ⟨f_choose, _, ok_choose F_f_choose TA, PySem.W.mg_of X G g_f_choose, k_f_choose, b_f_choose⟩
  have q_f_seed : Cal l.prog w K mg base CX0 "_law_seed" 1 ["_law_script", "_law_k"] (spSeed K) := ⟨f_seed, _, ok_seed F_f_seed TA, PySem.W.mg_of X G g_f_seed, k_f_seed, b_f_seed⟩
  have q_f_one : Cal l.prog w K mg base CX0 "_law_one_of" 2 ["_law_box", "_law_some"] (spOneOf K) := ⟨f_one, _, ok_oneOf F_f_one TA q_f_choose, PySem.W.mg_of X G g_f_one, k_f_one, b_f_one⟩
  have q_f_any : Cal l.prog w K mg base CX0 "_law_any" 6 ["_law_box", "_law_deep"] (spAnyV 3) := ⟨f_any, _, ok_anyV F_f_any ⟨PySem.W.mg_none_of X G z_range, PySem.W.mg_none_of X G z_tuple⟩ q_f_choose q_f_one (PySem.W.mg_of X G g_f_any) b_f_any 3, PySem.W.mg_of X G g_f_any, k_f_any, b_f_any⟩
  have q_f_mo : Cal l.prog w K mg base CX0 "_law_mostly" 7 ["_law_box", "_law_some"] spMostly := ⟨f_mo, _, ok_mostly F_f_mo q_f_choose q_f_one q_f_any, PySem.W.mg_of X G g_f_mo, k_f_mo, b_f_mo⟩
  exact ok_law F_law ⟨PySem.W.mg_none_of X G z_len, PySem.W.mg_none_of X G z_range, PySem.W.mg_none_of X G z_max, PySem.W.mg_none_of X G z_min⟩ WT WC MK TB q_f_seed q_f_mo ⟨f_due, _, ok_dueL F_f_due ⟨PySem.W.mg_none_of X G z_zip, PySem.W.mg_none_of X G z_repr⟩, PySem.W.mg_of X G g_f_due, k_f_due, b_f_due⟩
end V3

set_option Elab.async false
set_option linter.all false
set_option maxRecDepth 100000
/-! the facts of the top read by a hook: nothing of the top is written out -/
namespace V3
open PySem PySem.Spec PyProof.Rows L2
/-! ### what stands at an address -/
def objO (K : PySem.W.Frag) (a : Addr) : Obj := match K.lookup a with
  | some o => o
  | none => default
def fdO (K : PySem.W.Frag) (a : Addr) : FuncData := match K.lookup a with
  | some ⟨_, _, .func fd, _⟩ => fd
  | _ => default
def cdO (K : PySem.W.Frag) (a : Addr) : ClassData := match K.lookup a with
  | some ⟨_, _, .cls cd, _⟩ => cd
  | _ => default
def itsO (K : PySem.W.Frag) (a : Addr) : List Value := match K.lookup a with
  | some ⟨_, _, .seq its _, _⟩ => its.toList
  | _ => []
def nO (K : PySem.W.Frag) (a : Addr) : Nat := match K.lookup a with
  | some ⟨_, _, .seq _ n, _⟩ => n
  | _ => 0
def tkO (K : PySem.W.Frag) (a : Addr) (i : Nat) : Tok := match (itsO K a)[i]? with
  | some (.str _ t) => t
  | some (.int _ t) => t
  | _ => 0
def addrV : Value → Addr
  | .ref a => a
  | _ => 0
/-- where things stand -/
def dflT (K : PySem.W.Frag) (f : Addr) : Addr := addrV (fdO K f).defaults
def itemA (K : PySem.W.Frag) (a : Addr) (i : Nat) : Addr := match (itsO K a)[i]? with
  | some v => addrV v
  | none => 0
def maA (K : PySem.W.Frag) (C : Addr) (m : Str) : Addr := match PySem.W.findIn K (.ref C) m with
  | some (some (.ref a)) => a
  | _ => 0
def clsA (K : PySem.W.Frag) (C : Addr) (n : Str) : Addr := match PySem.W.findCls K (.ref C) (.type "type") n with
  | some (.get _ (.ref p) _ _) => p
  | _ => 0
def recA (K : PySem.W.Frag) (p : Addr) (T : String) : Addr := match PySem.W.recIn K p T with
  | some (.ref f :: _) => f
  | _ => 0
def recR (K : PySem.W.Frag) (p : Addr) (T : String) : List Value := match PySem.W.recIn K p T with
  | some (_ :: r) => r
  | _ => []
/-! ### functions -/
abbrev FnO : Type := Option (Str × Str × Arguments × FuncBody × Scope × Addr × List (Str × Addr) × Addr)
def fnO (K : PySem.W.Frag) (a : Addr) : FnO := match K.lookup a with
  | some ⟨_, _, .func fd, _⟩ => some (fd.name, fd.qualname, fd.params, fd.body, fd.scope, fd.globals, fd.closure, fd.builtins)
  | _ => none
structure FnR where
  at_ : PySem.W.Frag → Addr
  name : Str
  qual : Str
  st : Stmt
def FnR.val (d : FnR) : FnO := some (d.name, d.qual, defArgs d.st, .stmts (defBody d.st), defScope d.st, mainGlobals, [], builtinsNs)
section
variable {K : PySem.W.Frag} {a f g : Addr}
theorem objO_eq {o : Obj} (q : K.lookup a = some o) : objO K a = o := by
  unfold objO
  rw [q]
theorem fdO_eq {oc : Value} {od : Option Addr} {fd : FuncData} {sl : Array (Option Value)} (q : K.lookup a = some ⟨oc, od, .func fd, sl⟩) : fdO K a = fd := by
  unfold fdO
  rw [q]
theorem cdO_eq {oc : Value} {od : Option Addr} {cd : ClassData} {sl : Array (Option Value)} (q : K.lookup a = some ⟨oc, od, .cls cd, sl⟩) : cdO K a = cd := by
  unfold cdO
  rw [q]
theorem fn_at {dV : Value} {nm qn : Str} {st : Stmt} (e : fnO K a = some (nm, qn, defArgs st, .stmts (defBody st), defScope st, mainGlobals, [], builtinsNs)) (d : (fdO K a).defaults = dV) :
    K.lookup a = some ⟨(objO K a).cls, (objO K a).dict, .func (PySem.W.fnOf nm qn (defArgs st) (defBody st) (defScope st) dV (fdO K a).kwdefaults (fdO K a).doc (fdO K a).pyModule (fdO K a).annotations (fdO K a).code (fdO K a).closureTuple), (objO K a).slots⟩ := by
  unfold fnO at e
  cases q : K.lookup a with
  | none =>
    rw [q] at e
    cases e
  | some o =>
    obtain ⟨oc, od, dt, osl⟩ := o
    rw [q] at e
    cases dt with
    | func fd =>
      rw [fdO_eq q] at d ⊢
      rw [objO_eq q]
      obtain ⟨n1, n2, n3, n4, n5, n6, n7, n8, n9, n10, n11, n12, n13, n14, n15⟩ := fd
      have e2 : (some (n1, n2, n3, n4, n5, n6, n7, n15) : FnO) = some (nm, qn, defArgs st, .stmts (defBody st), defScope st, mainGlobals, [], builtinsNs) := e
      simp only [Option.some.injEq, Prod.mk.injEq] at e2
      obtain ⟨h1, h2, h3, h4, h5, h6, h7, h8⟩ := e2
      have h9 : n8 = dV := d
      subst h1 h2 h3 h4 h5 h6 h7 h8 h9
      rfl
    | _ => cases e
/-! ### tuples -/
def mkIts (K : PySem.W.Frag) (a : Addr) : Nat → List V → List Value
  | _, [] => []
  | i, v :: r => (match v with
    | .str x => .str x (tkO K a i)
    | .int x => .int x (tkO K a i)
    | .ref b => .ref b
    | _ => .none) :: mkIts K a (i + 1) r
def tupO (K : PySem.W.Frag) (a : Addr) (vs : List V) : Bool := match K.lookup a with
  | some ⟨.type c, _, .seq its _, _⟩ => decide (c = "tuple") && decide (its.toList = mkIts K a 0 vs)
  | _ => false
theorem tup_at {vs : List V} (h : tupO K a vs = true) : K.lookup a = some ⟨.type "tuple", (objO K a).dict, .seq (mkIts K a 0 vs).toArray (nO K a), (objO K a).slots⟩ := by
  unfold tupO at h
  cases q : K.lookup a with
  | none =>
    rw [q] at h
    cases h
  | some o =>
    obtain ⟨oc, od, dt, osl⟩ := o
    rw [q] at h
    cases oc with
    | type c =>
      cases dt with
      | seq its n =>
        obtain ⟨h1, h2⟩ := Bool.and_eq_true_iff.mp (show (decide (c = "tuple") && decide (its.toList = mkIts K a 0 vs)) = true from h)
        have e1 := of_decide_eq_true h1
        have e2 := of_decide_eq_true h2
        have en : nO K a = n := by
          unfold nO
          rw [q]
        rw [objO_eq q, en, ← e2, e1]
      | _ => cases h
    | _ => cases dt <;> cases h
/-! ### classes -/
def isC (K : PySem.W.Frag) (a : Addr) : Bool := match K.lookup a with
  | some ⟨_, _, .cls _, _⟩ => true
  | _ => false
theorem cls_at (h : isC K a = true) : K.lookup a = some ⟨(objO K a).cls, (objO K a).dict, .cls (cdO K a), (objO K a).slots⟩ := by
  unfold isC at h
  cases q : K.lookup a with
  | none =>
    rw [q] at h
    cases h
  | some o =>
    obtain ⟨oc, od, dt, osl⟩ := o
    rw [q] at h
    cases dt with
    | cls cd => rw [objO_eq q, cdO_eq q]
    | _ => cases h
def slA (K : PySem.W.Frag) (a : Addr) (i : Nat) : Option Value := ((objO K a).slots.toList[i]?).join
def newO (l : List (Option Value)) (new : String) : Bool := match l with
  | [_, _, _, _, some (.builtin n), _] => decide (n = new)
  | _ => false
theorem newO_ok {l : List (Option Value)} {new : String} (h : newO l new = true) : ∃ k0 k1 k2 k3 k5, l = [k0, k1, k2, k3, some (.builtin new), k5] := by
  unfold newO at h
  split at h
  · rename_i k0 k1 k2 k3 n k5
    rw [of_decide_eq_true h]
    exact ⟨k0, k1, k2, k3, k5, rfl⟩
  · cases h
def excO (K : PySem.W.Frag) (a : Addr) (new : String) : Bool := match K.lookup a with
  | some ⟨.type t, _, .cls cd, sl⟩ => decide (t = "type") && (decide (cd.mro = .ref a :: cd.mro.tail) && (cd.hasDict && (!cd.hasDel && newO sl.toList new)))
  | _ => false
theorem exc_at {new : String} (h : excO K a new = true) : K.lookup a = some (excClassObj (cdO K a).name (cdO K a).qualname a (cdO K a).ns (cdO K a).bases (cdO K a).mro.tail true (cdO K a).slotNames (cdO K a).subclasses (cdO K a).abstract (cdO K a).collection (objO K a).dict
    (slA K a 0) (slA K a 1) (slA K a 2) (slA K a 3) (slA K a 5) new) := by
  unfold excO at h
  cases q : K.lookup a with
  | none =>
    rw [q] at h
    cases h
  | some o =>
    obtain ⟨oc, od, dt, osl⟩ := o
    rw [q] at h
    cases oc with
    | type t =>
      cases dt with
      | cls cd =>
        unfold slA
        rw [objO_eq q, cdO_eq q]
        obtain ⟨h1, h⟩ := Bool.and_eq_true_iff.mp (show (decide (t = "type") && (decide (cd.mro = .ref a :: cd.mro.tail) && (cd.hasDict && (!cd.hasDel && newO osl.toList new)))) = true from h)
        obtain ⟨h2, h⟩ := Bool.and_eq_true_iff.mp h
        obtain ⟨h3, h⟩ := Bool.and_eq_true_iff.mp h
        obtain ⟨h4, h5⟩ := Bool.and_eq_true_iff.mp h
        have e1 := of_decide_eq_true h1
        have e2 := of_decide_eq_true h2
        obtain ⟨nm, bs, mro, ns, qn, hd, sn, sub, ab, col, del⟩ := cd
        dsimp only at e2 h3 h4 ⊢
        subst e1
        obtain ⟨l⟩ := osl
        obtain ⟨k0, k1, k2, k3, k5, el⟩ := newO_ok h5
        have el2 : l = [k0, k1, k2, k3, some (.builtin new), k5] := el
        subst el2
        have e4 : del = false := by
          cases del with
          | false => rfl
          | true => cases h4
        subst e4
        have e3 : hd = true := h3
        subst e3
        unfold excClassObj
        rw [← e2]
        rfl
      | _ => cases h
    | _ => cases dt <;> cases h
/-! ### what a class answers -/
def cfO (o : Option PySem.W.CFound) (g a b c : Value) : Bool := match o with
  | some (.get g' a' b' c') => decide (g' = g) && (decide (a' = a) && (decide (b' = b) && decide (c' = c)))
  | _ => false
theorem cf_at {o : Option PySem.W.CFound} {g a b c : Value} (h : cfO o g a b c = true) : o = some (.get g a b c) := by
  unfold cfO at h
  cases o with
  | none => cases h
  | some x =>
    cases x with
    | val v => cases h
    | get g' a' b' c' =>
      obtain ⟨h1, h⟩ := Bool.and_eq_true_iff.mp (show (decide (g' = g) && (decide (a' = a) && (decide (b' = b) && decide (c' = c)))) = true from h)
      obtain ⟨h2, h⟩ := Bool.and_eq_true_iff.mp h
      obtain ⟨h3, h4⟩ := Bool.and_eq_true_iff.mp h
      rw [of_decide_eq_true h1, of_decide_eq_true h2, of_decide_eq_true h3, of_decide_eq_true h4]
end
/-! ### the Hook -/
abbrev AlK : Type := Bool × List FnO
def obsK (ck : PySem.W.Frag → List (List Bool)) (fn : List FnR) (K : PySem.W.Frag) : AlK := ((ck K).all (fun l => l.all id), fn.map fun d => fnO K (d.at_ K))
def valK (fn : List FnR) : AlK := (true, fn.map FnR.val)
def SaysK (ck : PySem.W.Frag → List (List Bool)) (fn : List FnR) (K : PySem.W.Frag) : Prop := obsK ck fn K = valK fn
def downTo : Nat → List Nat
  | 0 => []
  | n + 1 => n :: downTo n
def frK (g : Addr → Option Obj) (n : Nat) : PySem.W.Frag := He.frG g (downTo n)
def hookK (ck : PySem.W.Frag → List (List Bool)) (fn : List FnR) : PySem.W.Hook where
  α := AlK
  obs := fun s => obsK ck fn (frK s.heap.get? s.heap.objs.size)
  val := fun _ => valK fn
  says := fun _ h => ∃ K : PySem.W.Frag, K.In h ∧ SaysK ck fn K
  of := fun _ _ e => ⟨_, He.frG_in, e⟩
  keeps := fun _ _ _ ⟨K, hK, c⟩ k => ⟨K, PySem.W.Frag.In.keeps hK k, c⟩
def obK (ck : PySem.W.Frag → List (List Bool)) (fn : List FnR) (s : PySem.W.SharedT) : AlK := obsK ck fn (frK (HandSHeadRun.getT s) s.n)
theorem obK_eq (ck : PySem.W.Frag → List (List Bool)) (fn : List FnR) (s : PySem.W.SharedT) : obK ck fn s = (hookK ck fn).obs s.abs := by
  show obsK ck fn (frK (HandSHeadRun.getT s) s.n) = obsK ck fn (frK s.abs.heap.get? s.abs.heap.objs.size)
  have e : HandSHeadRun.getT s = s.abs.heap.get? := funext fun a => HandSHeadRun.getT_eq s a
  have n : s.abs.heap.objs.size = s.n := PySem.W.absHeap_size s.tree s.n s.life
  rw [e, n]
section
variable {ck : PySem.W.Frag → List (List Bool)} {fn : List FnR} {K : PySem.W.Frag}
theorem SaysK.chk (c : SaysK ck fn K) (i j : Nat) {l : List Bool} {b : Bool} (h : (ck K)[i]? = some l) (k : l[j]? = some b) : b = true := by
  have c1 : (ck K).all (fun l => l.all id) = true := congrArg (fun z : AlK => z.1) c
  exact List.all_eq_true.mp (List.all_eq_true.mp c1 l (List.mem_of_getElem? h)) b (List.mem_of_getElem? k)
theorem SaysK.def_ (c : SaysK ck fn K) (i : Nat) {d : FnR} (h : fn[i]? = some d) : fnO K (d.at_ K) = some (d.name, d.qual, defArgs d.st, .stmts (defBody d.st), defScope d.st, mainGlobals, [], builtinsNs) := by
  have e : fn.map (fun d => fnO K (d.at_ K)) = fn.map FnR.val := congrArg (fun z : AlK => z.2) c
  have e2 : (fn.map fun d => fnO K (d.at_ K))[i]? = (fn.map FnR.val)[i]? := by rw [e]
  rw [List.getElem?_map, List.getElem?_map, h] at e2
  exact Option.some.inj e2
end
section
open PySem.W HandSHeadRun
variable {r : OpenRow} {q : Program} {M : Nat} {loose : List PySem.Str} {w : World}
/-- two runs over the same top: what each looks at, together -/
theorem run_app {ck1 ck2 : PySem.W.Frag → List (List Bool)} {fn1 fn2 : List FnR} (h1 : RunEq r q (hookK ck1 fn1) (obK ck1 fn1) M loose w) (h2 : RunEq r q (hookK ck2 fn2) (obK ck2 fn2) M loose w) :
    RunEq r q (hookK (fun K => ck1 K ++ ck2 K) (fn1 ++ fn2)) (obK (fun K => ck1 K ++ ck2 K) (fn1 ++ fn2)) M loose w := by
  intro os
  have z1 := h1 os
  have z2 := h2 os
  generalize endF (stepQ (denQ tabQ) r.prog w) M r.prog w os = E at z1 z2 ⊢
  obtain ⟨s, es, e1⟩ := Option.map_eq_some_iff.mp z1
  obtain ⟨s2, es2, e2⟩ := Option.map_eq_some_iff.mp z2
  have : s2 = s := Option.some.inj (es2.symm.trans es)
  subst this
  refine Option.map_eq_some_iff.mpr ⟨s2, es, ?_⟩
  have a1 := congrArg (fun z => z.1) e1
  have b1 := congrArg (fun z => z.2.1) e1
  have c1 : obsK ck1 fn1 (frK (getT s2) s2.n) = valK fn1 := congrArg (fun z => z.2.2) e1
  have c2 : obsK ck2 fn2 (frK (getT s2) s2.n) = valK fn2 := congrArg (fun z => z.2.2) e2
  refine Prod.ext a1 (Prod.ext b1 ?_)
  show obsK (fun K => ck1 K ++ ck2 K) (fn1 ++ fn2) (frK (getT s2) s2.n) = valK (fn1 ++ fn2)
  generalize frK (getT s2) s2.n = K at c1 c2
  have d1 : (ck1 K).all (fun l => l.all id) = true := congrArg (fun z : AlK => z.1) c1
  have d2 : (ck2 K).all (fun l => l.all id) = true := congrArg (fun z : AlK => z.1) c2
  have f1 : (fn1.map fun d => fnO K (d.at_ K)) = fn1.map FnR.val := congrArg (fun z : AlK => z.2) c1
  have f2 : (fn2.map fun d => fnO K (d.at_ K)) = fn2.map FnR.val := congrArg (fun z : AlK => z.2) c2
  refine Prod.ext ?_ ?_
  · show (ck1 K ++ ck2 K).all (fun l => l.all id) = true
    rw [List.all_append, d1, d2]
    rfl
  · show ((fn1 ++ fn2).map fun d => fnO K (d.at_ K)) = (fn1 ++ fn2).map FnR.val
    rw [List.map_append, List.map_append, f1, f2]
end
end V3

set_option Elab.async false
set_option linter.all false
set_option maxRecDepth 100000
/-! a law's end over a head by a hook -/
namespace V3
open PySem PySem.Spec PyProof.Rows L2
theorem walk_ofGE {l : PySem.W.OpenLaw} {n k : Nat} {q : Program} {loose : List Str}
    {XP : (Str → Option Value) → Heap → Prop} {YP : World → Heap → Prop} {d : DefRec} {x : Str}
    (hn : l.most = some n) (small : n ≤ sizeLine) (hdf : d.params.defaults = []) (room : Room k callerA)
    (F : ∀ (w : World) (mg : Str → Option Value) (fa : Addr) (h : Heap), YP w h → h.Ns mainGlobals mg → mg d.name = some (.ref fa) →
      ∃ (K : PySem.W.Frag) (fd : FuncData) (sp : Sp), K.In h ∧ (∀ (s : Shared) (u : Value), BindsTo s fd ⟨[u], []⟩ [(x, u)]) ∧
        (∀ (H : Hp) (a : Addr) (ns : List Int), ns.length ≤ n → Only H → SqL K H a (ns.map V.int) → sp [.ref a] H (fun v _ => v = .bl true) fun _ _ _ => False) ∧
        ∀ base : Heap, K.In base → base.Ns mainGlobals mg → FnG l.prog w K mg base CX0 k fa fd [x] sp) :
    PySem.W.WalkO q loose XP YP l.row.toRowW d [] (fun f vs => PySem.call f vs) := by
  refine Att.attach_call hn hdf fun w s0 s1 mg mb fa o pm cd doc a vs ns G Y ho hd hcd hmg hobj whole len gens => ?_
  obtain ⟨K, fd, sp, KX, bi, hsp, hF⟩ := F w mg fa _ Y G.T.g hmg
  exact law_callG KX G.T.g G.T.b G.T.builtins G.T.nolimit gens hobj whole (Nat.le_trans len small) room hF bi
    fun H hO hS => hsp H a ns len hO hS
end V3

set_option Elab.async false
set_option linter.all false
set_option maxRecDepth 100000
/-! a law's end over a head by a hook, the law's lambdas in a table -/
namespace V3
open PySem PySem.Spec PyProof.Rows L2 LamX
section
variable {P : Program} {w : World} {K : PySem.W.Frag} {mg mb : Str → Option Value} {k : Nat} {fa a cT pT : Addr} {fd : FuncData} {x : Str} {sp : Sp} {s1 : Shared} {vs : List Value} {ns : List Int}
abbrev oTab : Obj := { cls := .none, data := .fields #[] }
abbrev oLst (vs : List Value) : Obj := { cls := .type "list", data := .seq vs.toArray }
/-- nothing but the script and the table is followed -/
structure LoneT (H : Hp) (a pT : Addr) : Prop where
  tab : H pT = some (.tbl #[])
  kind : ∀ b, H b = none ∨ b = pT ∨ ∃ o xs, H b = some (.frz o (.lst xs))
  here : ∀ b, H b ≠ none → b = a ∨ b = pT
theorem law_fromT {H : Hp} (KX : K.In s1.heap) (hns : s1.heap.Ns mainGlobals mg) (hb : s1.heap.Ns builtinsNs mb) (hbb : ∀ y : Str, y ≠ "__name__" → mb y = bootBuiltins y) (lim : s1.heap.NoLimit) (gens : s1.gens = #[])
    (tabO : s1.heap.get? pT = some oTab) (tabN : K.lookup pT = none) (head : PySem.W.CodeHd s1.heap cT pT)
    (main : ∃ (bm : Addr) (ob : Obj), mg "__builtins__" = some (.ref bm) ∧ bm ≠ builtinsNs ∧ s1.heap.get? bm = some ob ∧ ob.cls = .type "module" ∧ ob.dict = some builtinsNs ∧ ob.data = .plain)
    (ha : s1.heap.get? a = some (oLst vs)) (room : Room k callerA)
    (F : ∀ base : Heap, K.In base → base.Ns mainGlobals mg → TabB base mg cT pT → FnG P w K mg base CX0 k fa fd [x] sp) (bi : ∀ (s : Shared) (u : Value), BindsTo s fd ⟨[u], []⟩ [(x, u)])
    (want : sp [.ref a] H (fun v _ => v = .bl true) fun _ _ _ => False) (lone : LoneT H a pT) (hok : HOk P w H s1.heap) (free : H a ≠ none → K.lookup a = none) :
    codeAny (model P w) callerA (.call (.ref fa) ⟨[.ref a], []⟩) (fun r s' => r = .ok (.ret (.bool true)) ∧ OldK s1.heap s'.heap ∧ s'.os = s1.os ∧ AllBare s'.gens) s1 := by
  have un1 : ∀ {b : Addr} {o : Obj}, s1.heap.get? b = some o → o ≠ oLst vs → o ≠ oTab → H b = none := by
    intro b o e n1 n2
    by_cases q : H b = none
    · exact q
    · rcases lone.here b q with z | z
      · rw [z, ha] at e
        exact absurd (Option.some.inj e).symm n1
      · rw [z, tabO] at e
        exact absurd (Option.some.inj e).symm n2
  have dat : ∀ {o o' : Obj}, o.data ≠ o'.data → o ≠ o' := fun n z => n (by rw [z])
  have put : ∀ {b : Addr} {o : Obj}, s1.heap.get? b = some o → H b = none → (hidT s1.heap H).get? b = some o := fun e n => hidT_get e n
  have nsK : ∀ {b : Addr} {m : Str → Option Value}, s1.heap.Ns b m → (hidT s1.heap H).Ns b m := by
    rintro b m ⟨o, es, ep, e, d, r⟩
    refine ⟨o, es, ep, put e (un1 e (dat ?_) (dat ?_)), d, r⟩
    · rw [d]
      exact fun z => nomatch z
    · rw [d]
      exact fun z => nomatch z
  have hKb : K.In (hidT s1.heap H) := by
    intro b o e
    refine put (KX b o e) ?_
    by_cases q : H b = none
    · exact q
    · rcases lone.here b q with z | z
      · rw [z] at e q
        rw [free q] at e
        cases e
      · rw [z, tabN] at e
        cases e
  obtain ⟨mc, c1, c2⟩ := lim
  have hM : Mod K mg (hidT s1.heap H) := ⟨hKb, nsK hns, ⟨mb, nsK hb, hbb⟩, mc, nsK c1, c2⟩
  have TB : TabB (hidT s1.heap H) mg cT pT := by
    refine ⟨?_, ?_, fun z => ?_⟩
    · obtain ⟨o, us, file, tf, flags, tg, inF, text, tt, e1, r1, r2, r3, rest⟩ := head
      refine ⟨o, us, file, tf, flags, tg, inF, text, tt, put e1 (un1 e1 (dat ?_) (dat ?_)), r1, r2, r3, rest⟩
      · rw [r2]
        exact fun z => nomatch z
      · rw [r2]
        intro z
        have z2 : us = #[] := by injection z
        rw [z2] at r3
        simp at r3
    · obtain ⟨bm, ob, b1, b2, b3, b4, b5, b6⟩ := main
      refine ⟨bm, ob, b1, b2, fun q => ?_, fun q => ?_, put b3 (un1 b3 (dat ?_) (dat ?_)), b4, b5, b6⟩
      · obtain ⟨o, es, ep, e, hd, _⟩ := hns
        rw [q, e] at b3
        cases b3
        rw [hd] at b6
        cases b6
      · rw [q, tabO] at b3
        cases b3
        cases b6
      · rw [b6]
        exact fun z => nomatch z
      · rw [b6]
        exact fun z => nomatch z
    · obtain ⟨o, es, ep, e, hd, _⟩ := hns
      rw [z, tabO] at e
      cases e
      cases hd
  have e0 : Env0 P w K mg (hidT s1.heap H) callerA [] s1 H := ⟨rfl, hM, fun b o e => of_hidT e, Nat.le_of_eq (hidT_size _ _), trivial, fun b hb => (nomatch hb), hok, AllBare.of_eq gens⟩
  have ran := (F _ hKb (nsK hns) TB).run callerA [] s1 H ⟨[.ref a], []⟩ [.ref a] [.ref a] _ _ rfl room e0 (bi s1 (.ref a)) (.cons rfl .nil) want
  refine codeAny_mono ran fun r s' h => ?_
  match r, h with
  | .error e, h => exact h.elim
  | .ok .next, h => exact h.elim
  | .ok .brk, h => exact h.elim
  | .ok .cont, h => exact h.elim
  | .ok (.ret u), h =>
    obtain ⟨v, H', os, bare, un, hok', r', q⟩ := h
    have q' : v = .bl true := q
    subst q'
    have r2 : u = Value.bool true := r'
    subst r2
    have stays : ∀ b o, b ≠ pT → s1.heap.get? b = some o → s'.heap.get? b = some o := by
      intro b o n e
      cases hb : H b with
      | none => exact un.keep b o e hb (fun z => by cases z) (by simp)
      | some u =>
        rcases lone.kind b with z | z | ⟨ob, xs, z⟩
        · rw [hb] at z
          cases z
        · exact absurd z n
        · obtain ⟨g1, _⟩ := hok b _ z
          obtain ⟨g2, _⟩ := hok' b _ (un.frzs b ob _ z)
          rw [e] at g1
          cases g1
          exact g2
    obtain ⟨more, z⟩ := un.tbls pT #[] lone.tab
    have grown : s'.heap.get? pT = some { cls := .none, data := .fields (#[] ++ more) } := hok' pT _ z
    refine ⟨rfl, ⟨fun b o e => ?_, fun b o e => ?_⟩, os, bare⟩
    · by_cases n : b = pT
      · rw [n, tabO] at e
        cases e
        rw [n]
        exact .inr (.inl ⟨(head.tab tabO).isCodeTable, rfl, #[], more, rfl, grown⟩)
      · exact .inl (stays b o n e)
    · by_cases n : b = pT
      · rw [n]
        exact ⟨_, grown⟩
      · exact ⟨o, stays b o n e⟩
theorem law_callGT (KX : K.In s1.heap) (hns : s1.heap.Ns mainGlobals mg) (hb : s1.heap.Ns builtinsNs mb) (hbb : ∀ y : Str, y ≠ "__name__" → mb y = bootBuiltins y) (lim : s1.heap.NoLimit) (gens : s1.gens = #[])
    (tabO : s1.heap.get? pT = some oTab) (tabN : K.lookup pT = none) (head : PySem.W.CodeHd s1.heap cT pT)
    (main : ∃ (bm : Addr) (ob : Obj), mg "__builtins__" = some (.ref bm) ∧ bm ≠ builtinsNs ∧ s1.heap.get? bm = some ob ∧ ob.cls = .type "module" ∧ ob.dict = some builtinsNs ∧ ob.data = .plain)
    (ha : s1.heap.get? a = some (oLst vs)) (whole : IntsAre vs ns) (few : ns.length ≤ sizeLine) (room : Room k callerA)
    (F : ∀ base : Heap, K.In base → base.Ns mainGlobals mg → TabB base mg cT pT → FnG P w K mg base CX0 k fa fd [x] sp) (bi : ∀ (s : Shared) (u : Value), BindsTo s fd ⟨[u], []⟩ [(x, u)])
    (want : ∀ H : Hp, H pT = some (.tbl #[]) → SqL K H a (ns.map V.int) → sp [.ref a] H (fun v _ => v = .bl true) fun _ _ _ => False) :
    codeAny (model P w) callerA (.call (.ref fa) ⟨[.ref a], []⟩) (fun r s' => r = .ok (.ret (.bool true)) ∧ OldK s1.heap s'.heap ∧ s'.os = s1.os ∧ AllBare s'.gens) s1 := by
  have rv := vals_ints whole
  have nv := whole.length
  have apart : a ≠ pT := fun z => by
    rw [z, tabO] at ha
    have q := congrArg Obj.data (Option.some.inj ha)
    exact nomatch q
  cases hk : K.lookup a with
  | some o =>
    have e := KX a o hk
    rw [ha] at e
    cases e
    let H1 : Hp := fun b => if b = pT then some (.tbl #[]) else none
    have y1 : H1 pT = some (.tbl #[]) := if_pos rfl
    have n1 : ∀ b, b ≠ pT → H1 b = none := fun b n => if_neg n
    refine law_fromT (H := H1) KX hns hb hbb lim gens tabO tabN head main ha room F bi (want _ y1 (.inr ⟨_, vs.toArray, _, hk, rfl, rfl, rfl, ?_, ?_⟩)) ⟨y1, fun b => ?_, fun b z => ?_⟩ (fun b u z => ?_) fun z => absurd (n1 a apart) z
    · rw [List.size_toArray, nv]
      exact few
    · simpa using rv
    · by_cases q : b = pT
      · exact .inr (.inl q)
      · exact .inl (n1 b q)
    · by_cases q : b = pT
      · exact .inr q
      · exact absurd (n1 b q) z
    · by_cases q : b = pT
      · rw [q, y1] at z
        cases z
        rw [q]
        exact tabO
      · rw [n1 b q] at z
        cases z
  | none =>
    let H2 : Hp := fun b => if b = a then some (.frz (oLst vs) (.lst (ns.map V.int))) else if b = pT then some (.tbl #[]) else none
    have ya : H2 a = some (.frz (oLst vs) (.lst (ns.map V.int))) := if_pos rfl
    have yp : H2 pT = some (.tbl #[]) := (if_neg (Ne.symm apart)).trans (if_pos rfl)
    have no : ∀ b, b ≠ a → b ≠ pT → H2 b = none := fun b n m => (if_neg n).trans (if_neg m)
    refine law_fromT (H := H2) KX hns hb hbb lim gens tabO tabN head main ha room F bi (want _ yp (.inl (.inr ⟨_, ya⟩))) ⟨yp, fun b => ?_, fun b z => ?_⟩ (fun b u z => ?_) fun _ => hk
    · by_cases q : b = a
      · exact .inr (.inr ⟨_, _, by rw [q]; exact ya⟩)
      · by_cases q2 : b = pT
        · exact .inr (.inl q2)
        · exact .inl (no b q q2)
    · by_cases q : b = a
      · exact .inl q
      · by_cases q2 : b = pT
        · exact .inr q2
        · exact absurd (no b q q2) z
    · by_cases q : b = a
      · rw [q, ya] at z
        cases z
        rw [q]
        exact ⟨ha, by rw [List.length_map]; exact few, vs, _, rv, ha⟩
      · by_cases q2 : b = pT
        · rw [q2, yp] at z
          cases z
          rw [q2]
          exact tabO
        · rw [no b q q2] at z
          cases z
end
theorem walk_ofGT {l : PySem.W.OpenLaw} {n k : Nat} {q : Program} {loose : List Str}
    {XP : (Str → Option Value) → Heap → Prop} {YP : World → Heap → Prop} {d : DefRec} {x : Str}
    (hn : l.most = some n) (small : n ≤ sizeLine) (hdf : d.params.defaults = []) (room : Room k callerA)
    (F : ∀ (w : World) (mg : Str → Option Value) (fa : Addr) (h : Heap), YP w h → h.Ns mainGlobals mg → mg d.name = some (.ref fa) →
      ∃ (K : PySem.W.Frag) (fd : FuncData) (sp : Sp) (cT pT : Addr), K.In h ∧ h.get? pT = some oTab ∧ K.lookup pT = none ∧ PySem.W.CodeHd h cT pT ∧ (∀ (s : Shared) (u : Value), BindsTo s fd ⟨[u], []⟩ [(x, u)]) ∧
        (∀ (H : Hp) (a : Addr) (ns : List Int), ns.length ≤ n → H pT = some (.tbl #[]) → SqL K H a (ns.map V.int) → sp [.ref a] H (fun v _ => v = .bl true) fun _ _ _ => False) ∧
        ∀ base : Heap, K.In base → base.Ns mainGlobals mg → TabB base mg cT pT → FnG l.prog w K mg base CX0 k fa fd [x] sp) :
    PySem.W.WalkO q loose XP YP l.row.toRowW d [] (fun f vs => PySem.call f vs) := by
  refine Att.attach_call hn hdf fun w s0 s1 mg mb fa o pm cd doc a vs ns G Y ho hd hcd hmg hobj whole len gens => ?_
  obtain ⟨K, fd, sp, cT, pT, KX, hT, nT, hC, bi, hsp, hF⟩ := F w mg fa _ Y G.T.g hmg
  exact law_callGT KX G.T.g G.T.b G.T.builtins G.T.nolimit gens hT nT hC G.T.bmain hobj whole (Nat.le_trans len small) room hF bi
    fun H hO hS => hsp H a ns len hO hS
end V3

set_option Elab.async false
set_option linter.all false
set_option maxRecDepth 100000
/-! the law's table taken out of what the hook has read -/
namespace V3
open PySem PySem.Spec PyProof.Rows L2
def tabA (K : PySem.W.Frag) (c : Addr) : Addr := match K.lookup c with
  | some ⟨_, _, .fields vs, _⟩ => addrV (vs.getD 11 .none)
  | _ => 0
def codeA (K : PySem.W.Frag) (f : Addr) : Addr := addrV (fdO K f).code
def lawC (K : PySem.W.Frag) : Addr := codeA K (He.ga K "law")
def lawP (K : PySem.W.Frag) : Addr := tabA K (lawC K)
def dropA (a : Addr) : PySem.W.Frag → PySem.W.Frag
  | [] => []
  | p :: r => if p.1 = a then dropA a r else p :: dropA a r
def dropT (K : PySem.W.Frag) : PySem.W.Frag := dropA (lawP K) K
theorem lk_cons {α : Type} (q b : Addr) (o : α) (r : List (Addr × α)) : List.lookup b ((q, o) :: r) = if b = q then some o else List.lookup b r := by
  show (match b == q with | true => some o | false => List.lookup b r) = _
  by_cases h : b = q
  · rw [if_pos h, beq_iff_eq.mpr h]
  · rw [if_neg h, beq_eq_false_iff_ne.mpr h]
theorem drop_lookup {a b : Addr} : ∀ {K : PySem.W.Frag}, (dropA a K).lookup b = if b = a then none else K.lookup b
  | [] => by
    show none = if b = a then none else none
    split <;> rfl
  | (q, o) :: r => by
    have ih := drop_lookup (a := a) (b := b) (K := r)
    show List.lookup b (if q = a then dropA a r else (q, o) :: dropA a r) = if b = a then none else List.lookup b ((q, o) :: r)
    by_cases h : q = a
    · rw [if_pos h, ih, lk_cons]
      by_cases z : b = a
      · rw [if_pos z, if_pos z]
      · rw [if_neg z, if_neg z, if_neg (fun e => z (e.trans h))]
    · rw [if_neg h, lk_cons, lk_cons, ih]
      by_cases z : b = a
      · rw [if_pos z, if_pos z, if_neg (fun e => h (e.symm.trans z))]
      · rw [if_neg z, if_neg z]
theorem dropT_none {K : PySem.W.Frag} : (dropT K).lookup (lawP K) = none := by
  unfold dropT
  rw [drop_lookup, if_pos rfl]
theorem dropT_in {K : PySem.W.Frag} {h : Heap} (X : K.In h) : (dropT K).In h := fun b o e => by
  unfold dropT at e
  rw [drop_lookup] at e
  split at e
  · cases e
  · exact X b o e
/-- the table is empty -/
def tabOk (K : PySem.W.Frag) : Bool := match K.lookup (lawP K) with
  | some ⟨.none, none, .fields vs, sl⟩ => vs.toList.isEmpty && sl.toList.isEmpty
  | _ => false
theorem tab_at {K : PySem.W.Frag} (h : tabOk K = true) : K.lookup (lawP K) = some oTab := by
  unfold tabOk at h
  split at h
  · rename_i vs sl e
    obtain ⟨h1, h2⟩ := Bool.and_eq_true_iff.mp h
    obtain ⟨l⟩ := vs
    obtain ⟨m⟩ := sl
    have e1 : l = [] := List.isEmpty_iff.mp h1
    have e2 : m = [] := List.isEmpty_iff.mp h2
    subst e1 e2
    exact e
  · cases h
def isTx : Value → Bool
  | .str _ _ => true
  | _ => false
def isNm : Value → Bool
  | .int _ _ => true
  | _ => false
def isBo : Value → Bool
  | .bool _ => true
  | _ => false
def codeOk (K : PySem.W.Frag) : Bool := match K.lookup (lawC K) with
  | some ⟨.type t, _, .fields vs, _⟩ => decide (t = "code") && (decide (vs.toList[11]? = some (.ref (lawP K))) && (isTx (vs.getD 18 .none) && (isNm (vs.getD 7 .none) && (isBo (vs.getD 9 .none) && (isNm (vs.getD 10 .none) && decide (lawC K ≠ lawP K))))))
  | _ => false
theorem code_hd {K : PySem.W.Frag} {hp : Heap} (X : K.In hp) (h : codeOk K = true) : PySem.W.CodeHd hp (lawC K) (lawP K) := by
  unfold codeOk at h
  split at h
  · rename_i t od vs sl e
    obtain ⟨h1, h⟩ := Bool.and_eq_true_iff.mp h
    obtain ⟨h2, h⟩ := Bool.and_eq_true_iff.mp h
    obtain ⟨h3, h⟩ := Bool.and_eq_true_iff.mp h
    obtain ⟨h4, h⟩ := Bool.and_eq_true_iff.mp h
    obtain ⟨h5, h⟩ := Bool.and_eq_true_iff.mp h
    obtain ⟨h6, h7⟩ := Bool.and_eq_true_iff.mp h
    have a1 := of_decide_eq_true h1
    have a2 : vs[11]? = some (.ref (lawP K)) := by
      rw [← of_decide_eq_true h2]
      simp
    have a3 : vs.getD 11 .none = .ref (lawP K) := by
      rw [Array.getD_eq_getD_getElem?, a2]
      rfl
    have tx : ∀ {v : Value}, isTx v = true → ∃ s t, v = .str s t := fun {v} h => by
      cases v <;> first | exact ⟨_, _, rfl⟩ | cases h
    have nm : ∀ {v : Value}, isNm v = true → ∃ s t, v = .int s t := fun {v} h => by
      cases v <;> first | exact ⟨_, _, rfl⟩ | cases h
    have bo : ∀ {v : Value}, isBo v = true → ∃ s, v = .bool s := fun {v} h => by
      cases v <;> first | exact ⟨_, rfl⟩ | cases h
    obtain ⟨file, tf, b1⟩ := tx h3
    obtain ⟨flags, tg, b2⟩ := nm h4
    obtain ⟨inF, b3⟩ := bo h5
    obtain ⟨text, tt, b4⟩ := nm h6
    exact ⟨_, vs, file, tf, flags, tg, inF, text, tt, X _ _ e, by rw [a1], rfl, a2, a3, b1, b2, b3, b4, of_decide_eq_true h7⟩
  · cases h
theorem fn_drop {K : PySem.W.Frag} {a : Addr} {z : Str × Str × Arguments × FuncBody × Scope × Addr × List (Str × Addr) × Addr} (t : tabOk K = true) (h : fnO K a = some z) : fnO (dropT K) a = some z := by
  have n : a ≠ lawP K := fun e => by
    unfold fnO at h
    rw [e, tab_at t] at h
    cases h
  have q : (dropT K).lookup a = K.lookup a := by
    unfold dropT
    rw [drop_lookup, if_neg n]
  unfold fnO at h ⊢
  rw [q]
  exact h
end V3

set_option Elab.async false
set_option linter.all false
set_option maxRecDepth 100000
set_option maxHeartbeats 0
namespace V3
open PySem PySem.Spec PyProof.Rows L2
def A_f_int (K : PySem.W.Frag) : Addr := He.ga K "is_integer"
def A_f_ww (K : PySem.W.Frag) : Addr := He.ga K "wrong_word"
def A_f_wp (K : PySem.W.Frag) : Addr := He.ga K "wrong_part"
def A_f_seed (K : PySem.W.Frag) : Addr := He.ga K "_law_seed"
def A_f_choose (K : PySem.W.Frag) : Addr := He.ga K "_law_choose"
def A_f_one (K : PySem.W.Frag) : Addr := He.ga K "_law_one_of"
def A_f_any (K : PySem.W.Frag) : Addr := He.ga K "_law_any"
def A_f_wo (K : PySem.W.Frag) : Addr := He.ga K "_law_word"
def A_f_due (K : PySem.W.Frag) : Addr := He.ga K "_law_due"
def A_f_mo (K : PySem.W.Frag) : Addr := He.ga K "_law_mostly"
def A_f_law (K : PySem.W.Frag) : Addr := He.ga K "law"
def A_LC (K : PySem.W.Frag) : Addr := He.ga K "Let"
def A_CC (K : PySem.W.Frag) : Addr := He.ga K "Count"
def A_f_li (K : PySem.W.Frag) : Addr := maA K (A_LC K) "__init__"
def A_f_ci (K : PySem.W.Frag) : Addr := maA K (A_CC K) "__init__"
def A_KA (K : PySem.W.Frag) : Addr := He.ga K "KINDS"
def A_SA (K : PySem.W.Frag) : Addr := He.ga K "STATES"
def A_DA (K : PySem.W.Frag) : Addr := He.ga K "DEEDS"
def A_PA (K : PySem.W.Frag) : Addr := He.ga K "PLACES"
def A_OA (K : PySem.W.Frag) : Addr := He.ga K "WHOSE"
def A_WA (K : PySem.W.Frag) : Addr := He.ga K "WEIGHTS"
def A_CI (K : PySem.W.Frag) : Addr := He.ga K "InvalidRow"
def A_f_ir (K : PySem.W.Frag) : Addr := maA K (A_CI K) "__init__"
def A_CB (K : PySem.W.Frag) : Addr := He.ga K "BookError"
def A_CH (K : PySem.W.Frag) : Addr := He.ga K "InvalidHouse"
def A_cT (K : PySem.W.Frag) : Addr := codeA K (A_f_law K)
def A_pT (K : PySem.W.Frag) : Addr := tabA K (A_cT K)
def ckK0 (K : PySem.W.Frag) : List Bool := [
  decide (PySem.W.nsIn K mainGlobals "is_integer" = some (some (.ref (A_f_int K)))),
  decide ((fdO K (A_f_int K)).defaults = .none),
  PySem.W.codeIn K (fdO K (A_f_int K)).code "is_integer",
  PySem.W.keepIn K (.ref (A_f_int K)),
  decide (PySem.W.nsIn K mainGlobals "wrong_word" = some (some (.ref (A_f_ww K)))),
  decide ((fdO K (A_f_ww K)).defaults = .none),
  PySem.W.codeIn K (fdO K (A_f_ww K)).code "wrong_word",
  PySem.W.keepIn K (.ref (A_f_ww K)),
  decide (PySem.W.nsIn K mainGlobals "wrong_part" = some (some (.ref (A_f_wp K)))),
  decide ((fdO K (A_f_wp K)).defaults = .none),
  PySem.W.codeIn K (fdO K (A_f_wp K)).code "wrong_part",
  PySem.W.keepIn K (.ref (A_f_wp K)),
  decide (PySem.W.nsIn K mainGlobals "_law_seed" = some (some (.ref (A_f_seed K)))),
  decide ((fdO K (A_f_seed K)).defaults = .none),
  PySem.W.codeIn K (fdO K (A_f_seed K)).code "_law_seed",
  PySem.W.keepIn K (.ref (A_f_seed K)),
  decide (PySem.W.nsIn K mainGlobals "_law_choose" = some (some (.ref (A_f_choose K)))),
  decide ((fdO K (A_f_choose K)).defaults = .none),
  PySem.W.codeIn K (fdO K (A_f_choose K)).code "_law_choose",
  PySem.W.keepIn K (.ref (A_f_choose K)),
  decide (PySem.W.nsIn K mainGlobals "_law_one_of" = some (some (.ref (A_f_one K)))),
  decide ((fdO K (A_f_one K)).defaults = .none),
  PySem.W.codeIn K (fdO K (A_f_one K)).code "_law_one_of",
  PySem.W.keepIn K (.ref (A_f_one K)),
  decide (PySem.W.nsIn K mainGlobals "_law_any" = some (some (.ref (A_f_any K)))),
  decide ((fdO K (A_f_any K)).defaults = .none),
  PySem.W.codeIn K (fdO K (A_f_any K)).code "_law_any",
  PySem.W.keepIn K (.ref (A_f_any K)),
  decide (PySem.W.nsIn K mainGlobals "_law_word" = some (some (.ref (A_f_wo K)))),
  decide ((fdO K (A_f_wo K)).defaults = .none)]
def ckK1 (K : PySem.W.Frag) : List Bool := [
  PySem.W.codeIn K (fdO K (A_f_wo K)).code "_law_word",
  PySem.W.keepIn K (.ref (A_f_wo K)),
  decide (PySem.W.nsIn K mainGlobals "_law_due" = some (some (.ref (A_f_due K)))),
  decide ((fdO K (A_f_due K)).defaults = .none),
  PySem.W.codeIn K (fdO K (A_f_due K)).code "_law_due",
  PySem.W.keepIn K (.ref (A_f_due K)),
  decide (PySem.W.nsIn K mainGlobals "_law_mostly" = some (some (.ref (A_f_mo K)))),
  decide ((fdO K (A_f_mo K)).defaults = .none),
  PySem.W.codeIn K (fdO K (A_f_mo K)).code "_law_mostly",
  PySem.W.keepIn K (.ref (A_f_mo K)),
  decide (PySem.W.nsIn K mainGlobals "law" = some (some (.ref (A_f_law K)))),
  decide ((fdO K (A_f_law K)).defaults = .none),
  PySem.W.codeIn K (fdO K (A_f_law K)).code "law",
  PySem.W.keepIn K (.ref (A_f_law K)),
  decide (PySem.W.nsIn K mainGlobals "Let" = some (some (.ref (A_LC K)))),
  decide (PySem.W.nsIn K mainGlobals "Count" = some (some (.ref (A_CC K)))),
  PySem.W.plainGet K (A_LC K) Str.empty,
  PySem.W.hasDictIn K (A_LC K),
  PySem.W.plainOver K (A_LC K),
  decide (PySem.W.findIn K (.ref (A_LC K)) "__setattr__" = some (some (.builtin "object.__setattr__"))),
  PySem.W.makesIn K (A_LC K),
  PySem.W.keepIn K (.ref (A_LC K)),
  PySem.W.plainGet K (A_CC K) Str.empty,
  PySem.W.hasDictIn K (A_CC K),
  PySem.W.plainOver K (A_CC K),
  decide (PySem.W.findIn K (.ref (A_CC K)) "__setattr__" = some (some (.builtin "object.__setattr__"))),
  PySem.W.makesIn K (A_CC K),
  PySem.W.keepIn K (.ref (A_CC K)),
  decide (PySem.W.findIn K (.ref (A_LC K)) "kind" = some none),
  decide (PySem.W.findIn K (.ref (A_LC K)) "state" = some none)]
def ckK2 (K : PySem.W.Frag) : List Bool := [
  decide (PySem.W.findIn K (.ref (A_LC K)) "deed" = some none),
  decide (PySem.W.findIn K (.ref (A_LC K)) "place" = some none),
  decide (PySem.W.findIn K (.ref (A_CC K)) "kind" = some none),
  decide (PySem.W.findIn K (.ref (A_CC K)) "weight" = some none),
  decide (PySem.W.findIn K (.ref (A_CC K)) "whose" = some none),
  decide (PySem.W.findIn K (.ref (A_LC K)) "__init__" = some (some (.ref (A_f_li K)))),
  PySem.W.isFn K (.ref (A_f_li K)),
  decide ((fdO K (A_f_li K)).defaults = .none),
  PySem.W.codeIn K (fdO K (A_f_li K)).code "Let.__init__",
  PySem.W.keepIn K (.ref (A_f_li K)),
  decide (PySem.W.findIn K (.ref (A_CC K)) "__init__" = some (some (.ref (A_f_ci K)))),
  PySem.W.isFn K (.ref (A_f_ci K)),
  decide ((fdO K (A_f_ci K)).defaults = .none),
  PySem.W.codeIn K (fdO K (A_f_ci K)).code "Count.__init__",
  PySem.W.keepIn K (.ref (A_f_ci K)),
  decide (PySem.W.nsIn K mainGlobals "KINDS" = some (some (.ref (A_KA K)))),
  tupO K (A_KA K) [.str "first",.str "new",.str "minus",.str "plus"],
  decide (PySem.W.nsIn K mainGlobals "STATES" = some (some (.ref (A_SA K)))),
  tupO K (A_SA K) [.str "open",.str "shut"],
  decide (PySem.W.nsIn K mainGlobals "DEEDS" = some (some (.ref (A_DA K)))),
  tupO K (A_DA K) [.str "whole",.str "part",.str "right"],
  decide (PySem.W.nsIn K mainGlobals "PLACES" = some (some (.ref (A_PA K)))),
  tupO K (A_PA K) [.str "now",.str "there"],
  decide (PySem.W.nsIn K mainGlobals "WHOSE" = some (some (.ref (A_OA K)))),
  tupO K (A_OA K) [.str "own",.str "target",.str "top",.str "deed"],
  decide (PySem.W.nsIn K mainGlobals "WEIGHTS" = some (some (.ref (A_WA K)))),
  tupO K (A_WA K) [.int (-1),.int 0,.int 1],
  decide (PySem.W.nsIn K mainGlobals "InvalidRow" = some (some (.ref (A_CI K)))),
  excO K (A_CI K) "ValueError.__new__",
  PySem.HandSPX.refsVE (cdO K (A_CI K)).mro.tail]
def ckK3 (K : PySem.W.Frag) : List Bool := [
  decide (PySem.W.findIn K (.ref (A_CI K)) "__setattr__" = some (some (.builtin "object.__setattr__"))),
  decide (PySem.W.findIn K (.ref (A_CI K)) "__getattribute__" = some (some (.builtin "BaseException.__getattribute__"))),
  decide (PySem.W.findIn K (.ref (A_CI K)) "__getattr__" = some none),
  decide (PySem.W.subIn K (.ref (A_CI K)) (.type "BaseException") = some true),
  decide (PySem.W.typeIn K (.ref (A_CI K)) = some (.type "type")),
  PySem.W.keepIn K (.ref (A_CI K)),
  PySem.W.hasDictIn K (A_CI K),
  PySem.W.isClsIn K (A_CI K),
  decide (PySem.W.findIn K (.ref (A_CI K)) "__class__" = some (some (.builtin "object.__class__"))),
  decide (PySem.W.specialIn K (.builtin "object.__class__") "__get__" = some (some (.builtin "getset_descriptor.__get__"))),
  decide (PySem.W.takesIn K (.builtin "object.__class__") = some true),
  decide (PySem.W.mroIn K (A_CI K) (.type "object") = some true),
  decide (PySem.W.subIn K (.ref (A_CI K)) (.ref (A_CI K)) = some true),
  decide (PySem.W.findIn K (.ref (A_CI K)) "word" = some none),
  decide (PySem.W.findIn K (.ref (A_CI K)) "__init__" = some (some (.ref (A_f_ir K)))),
  decide (PySem.W.typeIn K (.ref (A_f_ir K)) = some (.type "function")),
  decide ((fdO K (A_f_ir K)).defaults = .none),
  PySem.W.codeIn K (fdO K (A_f_ir K)).code "InvalidRow.__init__",
  PySem.W.keepIn K (.ref (A_f_ir K)),
  decide (PySem.W.exmOne K (.ref (A_CI K)) (.ref (A_CI K)) = some true),
  decide (PySem.W.nsIn K mainGlobals "BookError" = some (some (.ref (A_CB K)))),
  PySem.W.isClsIn K (A_CB K),
  decide (PySem.W.typeIn K (.ref (A_CB K)) = some (.type "type")),
  decide (PySem.W.subIn K (.ref (A_CI K)) (.ref (A_CB K)) = some true),
  decide (PySem.W.nsIn K mainGlobals "InvalidHouse" = some (some (.ref (A_CH K)))),
  PySem.W.isClsIn K (A_CH K),
  decide (PySem.W.typeIn K (.ref (A_CH K)) = some (.type "type")),
  decide (PySem.W.subIn K (.ref (A_CI K)) (.ref (A_CH K)) = some false),
  decide (PySem.W.nsIn K mainGlobals "len" = some none),
  decide (PySem.W.nsIn K mainGlobals "abs" = some none)]
def ckK4 (K : PySem.W.Frag) : List Bool := [
  decide (PySem.W.nsIn K mainGlobals "int" = some none),
  decide (PySem.W.nsIn K mainGlobals "isinstance" = some none),
  decide (PySem.W.nsIn K mainGlobals "bool" = some none),
  decide (PySem.W.nsIn K mainGlobals "range" = some none),
  decide (PySem.W.nsIn K mainGlobals "max" = some none),
  decide (PySem.W.nsIn K mainGlobals "min" = some none),
  decide (PySem.W.nsIn K mainGlobals "zip" = some none),
  decide (PySem.W.nsIn K mainGlobals "repr" = some none),
  decide (PySem.W.nsIn K mainGlobals "tuple" = some none),
  decide ((fdO K (A_f_law K)).code = .ref (A_cT K))]
def ckK (K : PySem.W.Frag) : List (List Bool) := [ckK0 K, ckK1 K, ckK2 K, ckK3 K, ckK4 K]
def fnK0 : List FnR := [
  ⟨A_f_int, "is_integer", "is_integer", sIsInt⟩,
  ⟨A_f_ww, "wrong_word", "wrong_word", sWrongWord⟩,
  ⟨A_f_wp, "wrong_part", "wrong_part", sWrongPart⟩,
  ⟨A_f_seed, "_law_seed", "_law_seed", sSeed⟩,
  ⟨A_f_choose, "_law_choose", "_law_choose", sChoose⟩,
  ⟨A_f_one, "_law_one_of", "_law_one_of", sOneOf⟩,
  ⟨A_f_any, "_law_any", "_law_any", sAnyV⟩,
  ⟨A_f_wo, "_law_word", "_law_word", sWordL⟩,
  ⟨A_f_due, "_law_due", "_law_due", sDueL⟩,
  ⟨A_f_mo, "_law_mostly", "_law_mostly", sMostly⟩,
  ⟨A_f_law, "law", "law", sLaw⟩,
  ⟨A_f_li, "__init__", "Let.__init__", sLInit⟩,
  ⟨A_f_ci, "__init__", "Count.__init__", sCInit⟩,
  ⟨A_f_ir, "__init__", "InvalidRow.__init__", sIrInit⟩]
def fnK : List FnR := fnK0
def namesK0 : List PySem.Str := ["is_integer", "BookError", "InvalidRow", "InvalidHouse", "KINDS", "STATES", "DEEDS", "PLACES", "Let", "wrong_word", "WEIGHTS", "WHOSE", "Count", "wrong_part", "_law_seed", "_law_choose", "_law_one_of", "_law_any", "_law_word", "_law_due", "_law_mostly"]
def namesK : List PySem.Str := namesK0
def ckT (K : PySem.W.Frag) : List (List Bool) := ckK (dropT K) ++ [[tabOk K, codeOk K, decide (A_cT (dropT K) = lawC K), decide (A_pT (dropT K) = lawP K)]]
def fnT : List FnR := fnK.map fun d => ⟨fun K => d.at_ (dropT K), d.name, d.qual, d.st⟩
theorem hk_run (w : World) : HandSHeadRun.RunEq (PySem.W.OpenLaw.row PySem.Challenge.rw_contrabooks_k11_rows_refused) (PySem.W.view (PySem.W.OpenLaw.row PySem.Challenge.rw_contrabooks_k11_rows_refused).prog [26]) (hookK ckT fnT) (obK ckT fnT) 20000 namesK w := by
  intro os
  kernel_rfl
theorem hk_all {l : PySem.W.OpenLaw} {w : World} {K : PySem.W.Frag} {h : Heap} {mg : Str → Option Value} {fa : Addr} (X : (dropT K).In h) (G : h.Ns mainGlobals mg) (hfa : mg "law" = some (.ref fa)) (c : SaysK ckT fnT K) (t0 : tabOk K = true) :
    ∃ fd : FuncData, (∀ (s : Shared) (v : Value), BindsTo s fd ⟨[v], []⟩ [("_law_script", v)]) ∧ ∀ base : Heap, (dropT K).In base → base.Ns mainGlobals mg → LamX.TabB base mg (A_cT (dropT K)) (A_pT (dropT K)) → FnG l.prog w (dropT K) mg base CX0 8 fa fd ["_law_script"] (spLawT (dropT K) (A_pT (dropT K))) :=
  all_mk (f_int := A_f_int (dropT K)) (f_ww := A_f_ww (dropT K)) (f_wp := A_f_wp (dropT K)) (f_seed := A_f_seed (dropT K)) (f_choose := A_f_choose (dropT K)) (f_one := A_f_one (dropT K)) (f_any := A_f_any (dropT K)) (f_wo := A_f_wo (dropT K)) (f_due := A_f_due (dropT K)) (f_mo := A_f_mo (dropT K)) (f_law := A_f_law (dropT K)) (LC := A_LC (dropT K)) (CC := A_CC (dropT K)) (f_li := A_f_li (dropT K)) (f_ci := A_f_ci (dropT K)) (KA := A_KA (dropT K)) (SA := A_SA (dropT K)) (DA := A_DA (dropT K)) (PA := A_PA (dropT K)) (OA := A_OA (dropT K)) (WA := A_WA (dropT K)) (CI := A_CI (dropT K)) (f_ir := A_f_ir (dropT K)) (CB := A_CB (dropT K)) (CH := A_CH (dropT K)) (cT := A_cT (dropT K)) (pT := A_pT (dropT K)) X G hfa
    (of_decide_eq_true (c.chk 0 0 (l := ckK0 (dropT K)) rfl rfl))
    (fn_at (fn_drop t0 (c.def_ 0 (d := ⟨fun K => A_f_int (dropT K), "is_integer", "is_integer", sIsInt⟩) rfl)) (of_decide_eq_true (c.chk 0 1 (l := ckK0 (dropT K)) rfl rfl)))
    (c.chk 0 2 (l := ckK0 (dropT K)) rfl rfl)
    (c.chk 0 3 (l := ckK0 (dropT K)) rfl rfl)
    (of_decide_eq_true (c.chk 0 4 (l := ckK0 (dropT K)) rfl rfl))
    (fn_at (fn_drop t0 (c.def_ 1 (d := ⟨fun K => A_f_ww (dropT K), "wrong_word", "wrong_word", sWrongWord⟩) rfl)) (of_decide_eq_true (c.chk 0 5 (l := ckK0 (dropT K)) rfl rfl)))
    (c.chk 0 6 (l := ckK0 (dropT K)) rfl rfl)
    (c.chk 0 7 (l := ckK0 (dropT K)) rfl rfl)
    (of_decide_eq_true (c.chk 0 8 (l := ckK0 (dropT K)) rfl rfl))
    (fn_at (fn_drop t0 (c.def_ 2 (d := ⟨fun K => A_f_wp (dropT K), "wrong_part", "wrong_part", sWrongPart⟩) rfl)) (of_decide_eq_true (c.chk 0 9 (l := ckK0 (dropT K)) rfl rfl)))
    (c.chk 0 10 (l := ckK0 (dropT K)) rfl rfl)
    (c.chk 0 11 (l := ckK0 (dropT K)) rfl rfl)
    (of_decide_eq_true (c.chk 0 12 (l := ckK0 (dropT K)) rfl rfl))
    (fn_at (fn_drop t0 (c.def_ 3 (d := ⟨fun K => A_f_seed (dropT K), "_law_seed", "_law_seed", sSeed⟩) rfl)) (of_decide_eq_true (c.chk 0 13 (l := ckK0 (dropT K)) rfl rfl)))
    (c.chk 0 14 (l := ckK0 (dropT K)) rfl rfl)
    (c.chk 0 15 (l := ckK0 (dropT K)) rfl rfl)
    (of_decide_eq_true (c.chk 0 16 (l := ckK0 (dropT K)) rfl rfl))
    (fn_at (fn_drop t0 (c.def_ 4 (d := ⟨fun K => A_f_choose (dropT K), "_law_choose", "_law_choose", sChoose⟩) rfl)) (of_decide_eq_true (c.chk 0 17 (l := ckK0 (dropT K)) rfl rfl)))
    (c.chk 0 18 (l := ckK0 (dropT K)) rfl rfl)
    (c.chk 0 19 (l := ckK0 (dropT K)) rfl rfl)
    (of_decide_eq_true (c.chk 0 20 (l := ckK0 (dropT K)) rfl rfl))
    (fn_at (fn_drop t0 (c.def_ 5 (d := ⟨fun K => A_f_one (dropT K), "_law_one_of", "_law_one_of", sOneOf⟩) rfl)) (of_decide_eq_true (c.chk 0 21 (l := ckK0 (dropT K)) rfl rfl)))
    (c.chk 0 22 (l := ckK0 (dropT K)) rfl rfl)
    (c.chk 0 23 (l := ckK0 (dropT K)) rfl rfl)
    (of_decide_eq_true (c.chk 0 24 (l := ckK0 (dropT K)) rfl rfl))
    (fn_at (fn_drop t0 (c.def_ 6 (d := ⟨fun K => A_f_any (dropT K), "_law_any", "_law_any", sAnyV⟩) rfl)) (of_decide_eq_true (c.chk 0 25 (l := ckK0 (dropT K)) rfl rfl)))
    (c.chk 0 26 (l := ckK0 (dropT K)) rfl rfl)
    (c.chk 0 27 (l := ckK0 (dropT K)) rfl rfl)
    (of_decide_eq_true (c.chk 0 28 (l := ckK0 (dropT K)) rfl rfl))
    (fn_at (fn_drop t0 (c.def_ 7 (d := ⟨fun K => A_f_wo (dropT K), "_law_word", "_law_word", sWordL⟩) rfl)) (of_decide_eq_true (c.chk 0 29 (l := ckK0 (dropT K)) rfl rfl)))
    (c.chk 1 0 (l := ckK1 (dropT K)) rfl rfl)
    (c.chk 1 1 (l := ckK1 (dropT K)) rfl rfl)
    (of_decide_eq_true (c.chk 1 2 (l := ckK1 (dropT K)) rfl rfl))
    (fn_at (fn_drop t0 (c.def_ 8 (d := ⟨fun K => A_f_due (dropT K), "_law_due", "_law_due", sDueL⟩) rfl)) (of_decide_eq_true (c.chk 1 3 (l := ckK1 (dropT K)) rfl rfl)))
    (c.chk 1 4 (l := ckK1 (dropT K)) rfl rfl)
    (c.chk 1 5 (l := ckK1 (dropT K)) rfl rfl)
    (of_decide_eq_true (c.chk 1 6 (l := ckK1 (dropT K)) rfl rfl))
    (fn_at (fn_drop t0 (c.def_ 9 (d := ⟨fun K => A_f_mo (dropT K), "_law_mostly", "_law_mostly", sMostly⟩) rfl)) (of_decide_eq_true (c.chk 1 7 (l := ckK1 (dropT K)) rfl rfl)))
    (c.chk 1 8 (l := ckK1 (dropT K)) rfl rfl)
    (c.chk 1 9 (l := ckK1 (dropT K)) rfl rfl)
    (of_decide_eq_true (c.chk 1 10 (l := ckK1 (dropT K)) rfl rfl))
    (fn_at (fn_drop t0 (c.def_ 10 (d := ⟨fun K => A_f_law (dropT K), "law", "law", sLaw⟩) rfl)) (of_decide_eq_true (c.chk 1 11 (l := ckK1 (dropT K)) rfl rfl)))
    (c.chk 1 12 (l := ckK1 (dropT K)) rfl rfl)
    (c.chk 1 13 (l := ckK1 (dropT K)) rfl rfl)
    (of_decide_eq_true (c.chk 1 14 (l := ckK1 (dropT K)) rfl rfl))
    (of_decide_eq_true (c.chk 1 15 (l := ckK1 (dropT K)) rfl rfl))
    (c.chk 1 16 (l := ckK1 (dropT K)) rfl rfl)
    (c.chk 1 17 (l := ckK1 (dropT K)) rfl rfl)
    (c.chk 1 18 (l := ckK1 (dropT K)) rfl rfl)
    (of_decide_eq_true (c.chk 1 19 (l := ckK1 (dropT K)) rfl rfl))
    (c.chk 1 20 (l := ckK1 (dropT K)) rfl rfl)
    (c.chk 1 21 (l := ckK1 (dropT K)) rfl rfl)
    (c.chk 1 22 (l := ckK1 (dropT K)) rfl rfl)
    (c.chk 1 23 (l := ckK1 (dropT K)) rfl rfl)
    (c.chk 1 24 (l := ckK1 (dropT K)) rfl rfl)
    (of_decide_eq_true (c.chk 1 25 (l := ckK1 (dropT K)) rfl rfl))
    (c.chk 1 26 (l := ckK1 (dropT K)) rfl rfl)
    (c.chk 1 27 (l := ckK1 (dropT K)) rfl rfl)
    (of_decide_eq_true (c.chk 1 28 (l := ckK1 (dropT K)) rfl rfl))
    (of_decide_eq_true (c.chk 1 29 (l := ckK1 (dropT K)) rfl rfl))
    (of_decide_eq_true (c.chk 2 0 (l := ckK2 (dropT K)) rfl rfl))
    (of_decide_eq_true (c.chk 2 1 (l := ckK2 (dropT K)) rfl rfl))
    (of_decide_eq_true (c.chk 2 2 (l := ckK2 (dropT K)) rfl rfl))
    (of_decide_eq_true (c.chk 2 3 (l := ckK2 (dropT K)) rfl rfl))
    (of_decide_eq_true (c.chk 2 4 (l := ckK2 (dropT K)) rfl rfl))
    (of_decide_eq_true (c.chk 2 5 (l := ckK2 (dropT K)) rfl rfl))
    (c.chk 2 6 (l := ckK2 (dropT K)) rfl rfl)
    (fn_at (fn_drop t0 (c.def_ 11 (d := ⟨fun K => A_f_li (dropT K), "__init__", "Let.__init__", sLInit⟩) rfl)) (of_decide_eq_true (c.chk 2 7 (l := ckK2 (dropT K)) rfl rfl)))
    (c.chk 2 8 (l := ckK2 (dropT K)) rfl rfl)
    (c.chk 2 9 (l := ckK2 (dropT K)) rfl rfl)
    (of_decide_eq_true (c.chk 2 10 (l := ckK2 (dropT K)) rfl rfl))
    (c.chk 2 11 (l := ckK2 (dropT K)) rfl rfl)
    (fn_at (fn_drop t0 (c.def_ 12 (d := ⟨fun K => A_f_ci (dropT K), "__init__", "Count.__init__", sCInit⟩) rfl)) (of_decide_eq_true (c.chk 2 12 (l := ckK2 (dropT K)) rfl rfl)))
    (c.chk 2 13 (l := ckK2 (dropT K)) rfl rfl)
    (c.chk 2 14 (l := ckK2 (dropT K)) rfl rfl)
    (of_decide_eq_true (c.chk 2 15 (l := ckK2 (dropT K)) rfl rfl))
    (tup_at (c.chk 2 16 (l := ckK2 (dropT K)) rfl rfl))
    (of_decide_eq_true (c.chk 2 17 (l := ckK2 (dropT K)) rfl rfl))
    (tup_at (c.chk 2 18 (l := ckK2 (dropT K)) rfl rfl))
    (of_decide_eq_true (c.chk 2 19 (l := ckK2 (dropT K)) rfl rfl))
    (tup_at (c.chk 2 20 (l := ckK2 (dropT K)) rfl rfl))
    (of_decide_eq_true (c.chk 2 21 (l := ckK2 (dropT K)) rfl rfl))
    (tup_at (c.chk 2 22 (l := ckK2 (dropT K)) rfl rfl))
    (of_decide_eq_true (c.chk 2 23 (l := ckK2 (dropT K)) rfl rfl))
    (tup_at (c.chk 2 24 (l := ckK2 (dropT K)) rfl rfl))
    (of_decide_eq_true (c.chk 2 25 (l := ckK2 (dropT K)) rfl rfl))
    (tup_at (c.chk 2 26 (l := ckK2 (dropT K)) rfl rfl))
    (of_decide_eq_true (c.chk 2 27 (l := ckK2 (dropT K)) rfl rfl))
    (exc_at (c.chk 2 28 (l := ckK2 (dropT K)) rfl rfl))
    (c.chk 2 29 (l := ckK2 (dropT K)) rfl rfl)
    (of_decide_eq_true (c.chk 3 0 (l := ckK3 (dropT K)) rfl rfl))
    (of_decide_eq_true (c.chk 3 1 (l := ckK3 (dropT K)) rfl rfl))
    (of_decide_eq_true (c.chk 3 2 (l := ckK3 (dropT K)) rfl rfl))
    (of_decide_eq_true (c.chk 3 3 (l := ckK3 (dropT K)) rfl rfl))
    (of_decide_eq_true (c.chk 3 4 (l := ckK3 (dropT K)) rfl rfl))
    (c.chk 3 5 (l := ckK3 (dropT K)) rfl rfl)
    (c.chk 3 6 (l := ckK3 (dropT K)) rfl rfl)
    (c.chk 3 7 (l := ckK3 (dropT K)) rfl rfl)
    (of_decide_eq_true (c.chk 3 8 (l := ckK3 (dropT K)) rfl rfl))
    (of_decide_eq_true (c.chk 3 9 (l := ckK3 (dropT K)) rfl rfl))
    (of_decide_eq_true (c.chk 3 10 (l := ckK3 (dropT K)) rfl rfl))
    (of_decide_eq_true (c.chk 3 11 (l := ckK3 (dropT K)) rfl rfl))
    (of_decide_eq_true (c.chk 3 12 (l := ckK3 (dropT K)) rfl rfl))
    (of_decide_eq_true (c.chk 3 13 (l := ckK3 (dropT K)) rfl rfl))
    (of_decide_eq_true (c.chk 3 14 (l := ckK3 (dropT K)) rfl rfl))
    (of_decide_eq_true (c.chk 3 15 (l := ckK3 (dropT K)) rfl rfl))
    (fn_at (fn_drop t0 (c.def_ 13 (d := ⟨fun K => A_f_ir (dropT K), "__init__", "InvalidRow.__init__", sIrInit⟩) rfl)) (of_decide_eq_true (c.chk 3 16 (l := ckK3 (dropT K)) rfl rfl)))
    (c.chk 3 17 (l := ckK3 (dropT K)) rfl rfl)
    (c.chk 3 18 (l := ckK3 (dropT K)) rfl rfl)
    (of_decide_eq_true (c.chk 3 19 (l := ckK3 (dropT K)) rfl rfl))
    (of_decide_eq_true (c.chk 3 20 (l := ckK3 (dropT K)) rfl rfl))
    (c.chk 3 21 (l := ckK3 (dropT K)) rfl rfl)
    (of_decide_eq_true (c.chk 3 22 (l := ckK3 (dropT K)) rfl rfl))
    (of_decide_eq_true (c.chk 3 23 (l := ckK3 (dropT K)) rfl rfl))
    (of_decide_eq_true (c.chk 3 24 (l := ckK3 (dropT K)) rfl rfl))
    (c.chk 3 25 (l := ckK3 (dropT K)) rfl rfl)
    (of_decide_eq_true (c.chk 3 26 (l := ckK3 (dropT K)) rfl rfl))
    (of_decide_eq_true (c.chk 3 27 (l := ckK3 (dropT K)) rfl rfl))
    (of_decide_eq_true (c.chk 3 28 (l := ckK3 (dropT K)) rfl rfl))
    (of_decide_eq_true (c.chk 3 29 (l := ckK3 (dropT K)) rfl rfl))
    (of_decide_eq_true (c.chk 4 0 (l := ckK4 (dropT K)) rfl rfl))
    (of_decide_eq_true (c.chk 4 1 (l := ckK4 (dropT K)) rfl rfl))
    (of_decide_eq_true (c.chk 4 2 (l := ckK4 (dropT K)) rfl rfl))
    (of_decide_eq_true (c.chk 4 3 (l := ckK4 (dropT K)) rfl rfl))
    (of_decide_eq_true (c.chk 4 4 (l := ckK4 (dropT K)) rfl rfl))
    (of_decide_eq_true (c.chk 4 5 (l := ckK4 (dropT K)) rfl rfl))
    (of_decide_eq_true (c.chk 4 6 (l := ckK4 (dropT K)) rfl rfl))
    (of_decide_eq_true (c.chk 4 7 (l := ckK4 (dropT K)) rfl rfl))
    (of_decide_eq_true (c.chk 4 8 (l := ckK4 (dropT K)) rfl rfl))
    (of_decide_eq_true (c.chk 4 9 (l := ckK4 (dropT K)) rfl rfl))
end V3
open PySem PySem.W PySem.Calls PyProof.Rows in
set_option maxRecDepth 100000 in
set_option maxHeartbeats 0 in
theorem PySem.Challenge.cw_contrabooks_k11_rows_refused_holds : PySem.Challenge.rw_contrabooks_k11_rows_refused.Holds := by
  w_on; o_law
  refine HandSHeadRun.head_any (r := OpenLaw.row PySem.Challenge.rw_contrabooks_k11_rows_refused) (q := view (OpenLaw.row PySem.Challenge.rw_contrabooks_k11_rows_refused).prog [26]) (H := V3.hookK V3.ckT V3.fnT) (ob := V3.obK V3.ckT V3.fnT) (M := 20000) (loose := V3.namesK) (d := HandSHeadRun.topDef (OpenLaw.row PySem.Challenge.rw_contrabooks_k11_rows_refused).prog 26) (kwd := []) (V3.obK_eq _ _)
    (by kernel_rfl) (fun s => by kernel_rfl) V3.hk_run (by kernel_rfl) (by kernel_rfl) (by kernel_rfl) (by rfl) (by first | assumption | decide +kernel) (by decide +kernel) ⟨rfl, rfl, rfl, rfl, rfl, by decide +kernel⟩ ?hw ?hc
  case hw => w_witness2
  case hc =>
    refine V3.walk_ofGT (l := PySem.Challenge.rw_contrabooks_k11_rows_refused) (n := 63) (k := 8) (x := "_law_script") rfl (by decide) (by kernel_rfl) ⟨rfl, by decide, by decide⟩ ?F
    intro w mg fa h Y G hmg0
    obtain ⟨K, KX, c⟩ := Y
    have hmg : mg ("law" : PySem.Str) = some (.ref fa) := by
      have e : (HandSHeadRun.topDef (OpenLaw.row PySem.Challenge.rw_contrabooks_k11_rows_refused).prog 26).name = ("law" : PySem.Str) := by kernel_rfl
      rw [← e]
      exact hmg0
    have t0 : V3.tabOk K = true := c.chk 5 0 (l := [V3.tabOk K, V3.codeOk K, decide (V3.A_cT (V3.dropT K) = V3.lawC K), decide (V3.A_pT (V3.dropT K) = V3.lawP K)]) rfl rfl
    have t1 : V3.codeOk K = true := c.chk 5 1 (l := [V3.tabOk K, V3.codeOk K, decide (V3.A_cT (V3.dropT K) = V3.lawC K), decide (V3.A_pT (V3.dropT K) = V3.lawP K)]) rfl rfl
    have t2 : V3.A_cT (V3.dropT K) = V3.lawC K := of_decide_eq_true (c.chk 5 2 (l := [V3.tabOk K, V3.codeOk K, decide (V3.A_cT (V3.dropT K) = V3.lawC K), decide (V3.A_pT (V3.dropT K) = V3.lawP K)]) rfl rfl)
    have t3 : V3.A_pT (V3.dropT K) = V3.lawP K := of_decide_eq_true (c.chk 5 3 (l := [V3.tabOk K, V3.codeOk K, decide (V3.A_cT (V3.dropT K) = V3.lawC K), decide (V3.A_pT (V3.dropT K) = V3.lawP K)]) rfl rfl)
    obtain ⟨fd, hb, hF⟩ := V3.hk_all (l := PySem.Challenge.rw_contrabooks_k11_rows_refused) (w := w) (V3.dropT_in KX) G hmg c t0
    exact ⟨V3.dropT K, fd, V3.spLawT (V3.dropT K) (V3.A_pT (V3.dropT K)), V3.A_cT (V3.dropT K), V3.A_pT (V3.dropT K), V3.dropT_in KX, by rw [t3]; exact KX _ _ (V3.tab_at t0), by rw [t3]; exact V3.dropT_none, by rw [t2, t3]; exact V3.code_hd KX t1, hb, fun H a ns hl hT hS => ⟨a, ns, rfl, hS, hl, hT, fun _ => rfl⟩, hF⟩
#print axioms PySem.Challenge.cw_contrabooks_k11_rows_refused_holds
